import PyProof.Rows.All
import Wide.All
import OpenK.AllK
import Wide.FinOn
import Lean
import PyProof.EqAt
import PyProof.EqKinds
import PyProof.TupleCall
import KE.KRevIter
import PyProof.ListStr
import PyProof.Rows.Range3
import PyProof.Rows.SetFrom
import PyProof.ZipIter
import PyProof.DictWalks
import PyProof.Rows.TupDisplay
import PyProof.DictItems
import KE.KPairComp
import KE.KItemsList
import KE.KSortTup
import PyProof.ListMulRoad
import KE.KIntText
import PyProof.WalkInts
import PyProof.MinMaxWalk
import PyProof.WalksMore
import PyProof.AttrMissHeap
import KE.KDictOf
import PyProof.CollectIter
import PyProof.TupleOfGen
import PyProof.InstStore
import PyProof.InstStoreFacts
import PyProof.ExcArgsOwn
import PyProof.ExcInit
import PyProof.ExcClass2
import OpenK.KCls
import PyProof.FString
import PyProof.FitsInt
import KE.KEqDict
import KE.RegKTryMore
import PySem.Challenge.RW_lilt_k84_names_of_metres
set_option Elab.async false
set_option tactic.hygienic false
set_option linter.all false
set_option maxRecDepth 100000
set_option maxHeartbeats 4000000
set_option compiler.extract_closed false
abbrev gV:=PySem.Value->PySem.Shared->Prop
abbrev oI:=List (PySem.Addr×PySem.Obj)
abbrev oT:=List Nat
abbrev re:=List PySem.Value
abbrev rg:=List PySem.Stmt
abbrev rh:=List PySem.Expr
abbrev rj:=List PySem.Str
abbrev rL:=List Int
abbrev rS:=List PySem.Addr
abbrev rV:=Array PySem.Value
abbrev rX:=PySem.Str->Option PySem.Value
abbrev se:=PySem.Addr->Prop
abbrev ac:=@PySem.wpAny_bind
abbrev ae:=@PySem.Heap.get?_push_of_some
abbrev ai:=@Option.bind_eq_some_iff
abbrev al:=@PySem.wpAny_pure
abbrev ap:=@List.getElem?_eq_some_iff
abbrev ar:=@PySem.Heap.lt_size
abbrev av:=@PySem.Heap.get?_push_size
abbrev aw:=@List.getElem?_eq_getElem
abbrev ax:=@Nat.le_refl
abbrev ay:=@List.length_map
abbrev aE:=@List.size_toArray
abbrev aI:=@List.mem_cons_of_mem
abbrev ba:=@Option.map_eq_some_iff
abbrev bb:=@List.map_cons
abbrev bi:=@Bool.false_ne_true
abbrev bp:=@List.mem_cons_self
abbrev bq:=@Option.some.inj
abbrev br:=@List.mem_cons
abbrev bt:=@if_neg
abbrev bv:=@List.getElem?_set_ne
abbrev bE:=@Option.bind_some
abbrev bP:=@Nat.ne_of_lt
abbrev bS:=@Nat.lt_of_lt_of_le
abbrev bX:=@if_pos
abbrev b6:=@List.not_mem_nil
abbrev b9:=@PySem.PassesOwn.never
abbrev cb:=@Bool.and_eq_true
abbrev cf:=@PyProof.Rows.callWith_type1
abbrev ci:=@List.length_append
abbrev cm:=@Nat.zero_le
abbrev cp:=@List.getElem?_map
abbrev cq:=@List.drop_eq_getElem_cons
abbrev cv:=@List.length_cons
abbrev cy:=@List.append_nil
abbrev cE:=@List.mem_append_right
abbrev cK:=@PySem.F.slot_dict_itemiterator_next
abbrev cS:=@PySem.wpAny_mono
abbrev c9:=@PySem.Heap.size_push
abbrev db:=@List.lookup_cons
abbrev dc:=@PySem.wpAny_callSpecial?_slot
abbrev de:=@PySem.wpAny_typeNameOfWhole_itemiter
abbrev df:=@Nat.le_trans
abbrev dv:=@PySem.wpAny_call_entry
abbrev dy:=@Nat.ne_of_gt
abbrev dE:=@PySem.wpAny_newObj_type
abbrev dL:=@PySem.wpAny_setField_rec
abbrev dP:=@List.getElem?_append_left
abbrev dQ:=@Or.inr
abbrev dS:=@List.getElem?_set_self
abbrev d0:=@List.mem_iff_getElem?
abbrev d3:=@PySem.wpAny_field
abbrev d5:=@Or.inl
abbrev d6:=@PySem.wpAny_typeNameOf_itemiter
abbrev ed:=@decide_eq_false
abbrev ef:=@List.mem_filter
abbrev eg:=@List.length_set
abbrev et:=@List.mem_of_getElem?
abbrev eD:=@PySem.wpAny_holding
abbrev eI:=@PyProof.Rows.slot_tuple_getitem
abbrev eJ:=@PySem.Heap.get?_update_self
abbrev eK:=@List.getElem?_eq_none
abbrev eM:=@Bool.false_eq_true
abbrev eP:=@PySem.Heap.get?_update_other
abbrev eR:=@List.mem_append
abbrev eS:=@List.all_eq_true
abbrev eT:=@PySem.Heap.SameBut.update
abbrev eW:=@PySem.wpAny_pyIter_tuple
abbrev e8:=@PySem.wpAny_Call_Name_kw
abbrev e9:=@Array.getElem?_eq_getElem
abbrev fb:=@beq_eq_false_iff_ne
abbrev fe:=@decide_eq_true
abbrev ff:=@PySem.wpAny_seqItems
abbrev fg:=@Nat.lt_irrefl
abbrev fk:=@List.map_append
abbrev fm:=@Ne.symm
abbrev fq:=@or_false
abbrev ft:=@List.any_cons
abbrev fw:=@if_false
abbrev fz:=@List.mem_range
abbrev fA:=@PySem.wpAny_pyIter_list
abbrev fE:=@Int.toNat_natCast
abbrev fF:=@PySem.wpAny_isOneOf_itemiter
abbrev fN:=@List.getD_eq_getElem?_getD
abbrev fR:=@PySem.F.args_dict_itemiterator_next_1
abbrev fT:=@if_true
abbrev f8:=@PySem.F.plain_extend_loop
abbrev gc:=@List.mem_singleton
abbrev gd:=@PySem.Calls.spliced_cons
abbrev ge:=@PySem.F.entry_dict_itemiterator_next
abbrev gg:=@Nat.le_of_lt
abbrev gp:=@PySem.F.plainAttrs_list
abbrev gs:=@List.length_nil
abbrev gt:=@Array.length_toList
abbrev gu:=@List.mem_map
abbrev gv:=@Nat.lt_of_le_of_lt
abbrev gx:=@PySem.F.slot_tuple_iterator_next
abbrev gy:=@List.length_filter_le
abbrev gz:=@PySem.builtinLookup_eq_fast
abbrev gE:=@Classical.byContradiction
abbrev gI:=@PySem.wpAny_passesOwn
abbrev gL:=@PySem.wpAny_loadPart'
abbrev gS:=@PySem.codeAny_builtin
abbrev gX:=@of_decide_eq_true
abbrev g0:=@List.mem_append_left
abbrev g6:=@PySem.wpAny_truthy_bool
abbrev g9:=@PySem.Calls.spliced_nil
abbrev hJ:=@Nat.le_succ
abbrev hU:=@beq_iff_eq
abbrev hV:=@PySem.F.slot_list_append
abbrev hZ:=@PySem.F.type_list_append
abbrev h9:=@List.filterMap_cons
abbrev ia:=@Nat.lt_succ_self
abbrev ib:=@PySem.sizeLine_eq
abbrev ic:=@List.eq_nil_of_length_eq_zero
abbrev ii:=@True.intro
abbrev ij:=@PySem.W.callWith_K
abbrev ip:=@PyProof.Rows.boot_list
abbrev iq:=@List.find?_eq_none
abbrev ix:=@PySem.size_of_entries
abbrev iA:=@congrArg
abbrev iE:=@PySem.wpAny_specialOf
abbrev iF:=@List.find?_cons
abbrev iL:=@Option.map_some
abbrev iN:=@List.all_cons
abbrev iO:=@PySem.Paired.length
abbrev iP:=@List.getElem?_set
abbrev iS:=@PySem.wpAny_dictEntries
abbrev iX:=@PySem.wpAny_loadPart_at
abbrev i6:=@PySem.wpAny_rule
abbrev i7:=@PySem.W.looks_findIn
abbrev i8:=@List.getElem?_append_right
abbrev i9:=@PySem.Calls.evalArgs_plain
abbrev ja:=@PySem.Around.under_plainId
abbrev jp:=@PySem.Value.type.inj
abbrev js:=@List.map_nil
abbrev jv:=@PySem.wpAny_isInstance
abbrev jI:=@PySem.codeAny_mono
abbrev jS:=@List.length_take
abbrev kc:=@PySem.wpAny_typeOf
abbrev ke:=@List.any_eq_true
abbrev kf:=@List.getElem_mem
abbrev kg:=@List.exists_mem_of_ne_nil
abbrev kl:=@PySem.F.slot_tuple_getattribute
abbrev kq:=@Option.isSome_iff_exists
abbrev kr:=@PySem.F.args_tuple_add_2
abbrev kx:=@PySem.wpAny_attempt
abbrev kz:=@PySem.wpAny_execs_nil
abbrev kA:=@Bool.eq_iff_iff
abbrev kB:=@PySem.typeLookup_type
abbrev kC:=@PySem.wpAny_dictEpoch
abbrev kD:=@PySem.F.entry_tuple_add
abbrev kF:=@List.getElem?_cons_succ
abbrev kG:=@PySem.F.slot_tuple_hash
abbrev kH:=@PySem.Calls.callWith_builtin
abbrev kK:=@PySem.F.slot_tuple_add
abbrev kL:=@List.reverse_cons
abbrev kM:=@PySem.boot_len
abbrev kN:=@decide_eq_true_eq
abbrev kP:=@List.length_range
abbrev kQ:=@List.append_assoc
abbrev kR:=@Array.getElem?_eq_none
abbrev kT:=@List.drop_eq_nil_of_le
abbrev kU:=@PySem.wpAny_notOrdered_dict
abbrev kX:=@PySem.F.slot_dict_get
abbrev k6:=@List.length_singleton
abbrev k7:=@PySem.F.typeOf_object_class
abbrev k8:=@PySem.wpAny_execs_cons
abbrev k9:=@List.filter_cons
abbrev le:=@PySem.call_meets
abbrev lf:=@PySem.F.slot_tuple_mul
abbrev lh:=@PySem.plainId_quiet
abbrev li:=@PySem.wpAny_updateSeq_pair
abbrev lj:=@List.drop_eq_nil_iff
abbrev ly:=@List.getLast?_eq_some_getLast
abbrev lI:=@List.nodup_cons
abbrev lP:=@List.forIn_cons
abbrev lS:=@PySem.wpAny_updateSeq
abbrev lT:=@PySem.F.args_tuple_iterator_next_1
abbrev l0:=@PySem.F.slot_zip_next
abbrev l4:=@PySem.F.slot_int_rmul
abbrev l5:=@PySem.W.plainGet_of
abbrev l6:=@Nat.lt_trans
abbrev l7:=@PySem.F.entry_tuple_iterator_next
abbrev l8:=@Nat.add_zero
abbrev l9:=@PySem.SeqAt.EqAt.int_str
abbrev ma:=@PySem.SeqAt.EqAt.str_int
abbrev md:=@PySem.W.of_hideAll
abbrev me:=@PySem.Calls.Name_function_global
abbrev mh:=@List.mem_filterMap
abbrev ml:=@PySem.SeqAt.EqAt.int_int
abbrev mv:=@List.forIn_nil
abbrev mB:=@PySem.wpAny_setField
abbrev mE:=@PySem.wpAny_newTuple
abbrev mI:=@PySem.wpAny_fieldsOf
abbrev mM:=@PySem.Code.quiet_builtin
abbrev mP:=@Int.emod_lt_of_pos
abbrev mS:=@List.exists_cons_of_ne_nil
abbrev mT:=@PySem.F.entry_extend_loop
abbrev ng:=@PySem.wpAny_binaryOp_repeat_ref
abbrev nh:=@List.mem_of_find?_eq_some
abbrev nn:=@PySem.wpAny_sequenceKey
abbrev nr:=@List.any_eq_false
abbrev ny:=@PySem.wpAny_Call_method
abbrev nE:=@Nat.le_succ_of_le
abbrev nI:=@PySem.wpAny_letGo
abbrev nK:=@PySem.wpAny_comprehension_free
abbrev nN:=@PySem.wpAny_onRaise
abbrev nS:=@PySem.wpAny_forIn_list
abbrev nV:=@PySem.wpAny_pyNext_tuple_item
abbrev nX:=@List.getElem?_replicate
abbrev og:=@List.cons_append
abbrev oj:=@PySem.F.args_dict_get_3
abbrev om:=@PySem.F.plainAttrs_dict
abbrev on:=@PySem.noFill_tuple_add
abbrev oo:=@List.length_drop
abbrev oq:=@List.length_eq_zero_iff
abbrev ow:=@List.take_length
abbrev ox:=@List.drop_length
abbrev oy:=@PyProof.Rows.boot_tuple
abbrev oz:=@PyProof.Rows.boot_range
abbrev oB:=@PySem.F.plain_list_iadd
abbrev oC:=@PySem.W.Looks.ld
abbrev oP:=@List.getElem?_cons_zero
abbrev oQ:=@PySem.W.cellsFrom_some
abbrev o0:=@PySem.F.entry_dict_get
abbrev pc:=@PySem.typeIs_int
abbrev pd:=@List.find?_cons_of_neg
abbrev pf:=@Nat.lt_or_ge
abbrev pi:=@Nat.succ_mul
abbrev pj:=@List.of_mem_zip
abbrev pw:=@Int.emod_nonneg
abbrev pz:=@List.length_replicate
abbrev pE:=@PySem.F.slot_dict_pop
abbrev pS:=@Array.getElem?_toList
abbrev pT:=@Bool.beq_eq_decide_eq
abbrev pV:=@PyProof.Rows.boot_int
abbrev p4:=@List.range_eq_range'
abbrev p5:=@PySem.isSubtype_stop
abbrev p9:=@PySem.W.hideAll_get
abbrev qc:=@Nat.add_le_add_left
abbrev qf:=@List.length_reverse
abbrev qh:=@List.map_congr_left
abbrev qk:=@PySem.W.looks_mroIn
abbrev qo:=@List.length_pos_iff
abbrev qq:=@Nat.add_assoc
abbrev qr:=@PySem.wpAny_standAt
abbrev qv:=@PySem.rangeSize_one
abbrev qA:=@PySem.seq_tuple_add
abbrev qB:=@Bool.or_false
abbrev qE:=@PySem.wpAny_handled
abbrev qS:=@PySem.F.slot_gs_get
abbrev qV:=@List.map_map
def r0_q (a:True:=by rfl):True:=trivial
def r0_:Lean.Syntax:=r0_q._auto_1
def r1_q (a:True:=by decide):True:=trivial
def r1_:Lean.Syntax:=r1_q._auto_1
def r2_q (a:True:=by decide +kernel):True:=trivial
def r2_:Lean.Syntax:=r2_q._auto_1
def r3_q (a:True:=by first | exact .inl rfl | exact .inr rfl | assumption):True:=trivial
def r3_:Lean.Syntax:=r3_q._auto_1
def r5_q (a:True:=by intro _;rfl):True:=trivial
def r5_:Lean.Syntax:=r5_q._auto_1
def r7_q (a:True:=by first | rfl | assumption):True:=trivial
def r7_:Lean.Syntax:=r7_q._auto_1
def r8_q (a:True:=by intros;rfl):True:=trivial
def r8_:Lean.Syntax:=r8_q._auto_1
def r9_q (a:True:=by intro _ _;rfl):True:=trivial
def r9_:Lean.Syntax:=r9_q._auto_1
def r10_q (a:True:=by simp):True:=trivial
def r10_:Lean.Syntax:=r10_q._auto_1
def r11_q (a:True:=by exact⟨rfl,rfl,rfl,rfl⟩):True:=trivial
def r11_:Lean.Syntax:=r11_q._auto_1
noncomputable section
namespace Lake.L2
open PySem PySem.Spec PyProof.Rows
variable {h:Heap}{Q:Unit->Shared->Prop}
section
variable {prog:Program}{w:World}{κ:Type}[DecidableEq κ]{kd:HeapKind prog w κ}{A:Around}{E:gV}{s:Shared}{d a it:Addr}{xs:List (κ×Addr×Value)}{k:κ}{v:Value}
def EB(kd:HeapKind prog w κ)(h:Heap)(d:Addr)(xs:List (κ×Addr×Value)):Prop:=
 ∃o es,h.get? d=some o/\o.ExactDict/\o.data=.dict es xs.length/\es.toList=xs.map (entryOfKey kd)/\(∀x∈xs,kd.is h x.1 x.2.1)/\(xs.map (·.1)).Nodup
def EB.of(m:EB kd h d xs):h.DictOfH kd d xs:=let ⟨o,es,q⟩:=m;⟨o,es,_,q⟩
def uE(D:kd.room A)(u:kd.is s.heap k a)(m:EB kd s.heap d xs)(hz:xs.length<=sizeLine)
  (q:∀h',EB kd h' d (storedH xs k a v)->Heap.SameBut d s.heap h'->Q () {s with heap:=h',toks:=s.toks+kd.draws k}):wpAny (model prog w) A (dictSet d (.ref a) v) Q E s:=by
 obtain⟨o,es,c,F,b,n,r,l⟩:=m;unfold dictSet
 try with_reducible refine eD ?_
 refine ac (kd.pyHash D u ?_);unfold dictSetHashed
 try with_reducible refine eD ?_
 refine ac (wpAny_dictFind_heap (s:={s with toks:=s.toks+kd.draws k}) D u c b n r l (λB=>?_) λj p C=>?_)
 ·have G:k∉xs.map (·.1):=not_mem_keys_of_get B
  have e:=storedH_new (atKey_none_of_get B) a v;rw[e]at q;refine ac (i6 (wpAny_updateDictKeys (hz:=by have:=ix n;omega) (s:={s with toks:=s.toks+kd.draws k}) c b (q _ ⟨_,_,eJ _ c (Obj.isFreed_of_dict (Obj.data_mapDictKeys b _)),F.mapDictKeys _,by rw[ci];exact Obj.data_mapDictKeys b _,?_,λx i=>?_,?_⟩ (eT ..))))
  ·simp[n,entryOfKey]
  ·rcases eR.mp i with z|z
   ·exact kd.keeps (r x z) c b (eT ..)
   ·rw[gc.mp z];exact kd.keeps u c b (eT ..)
  ·rw[fk]
   exact List.nodup_append.mpr ⟨l,by simp,λx i y f z=>G (by rw[bb,js,gc]at f;have f:y=k:=f;subst f z;exact i)⟩
 ·have e:=storedH_old (atKey_of_get l C) a v
  rw[e]at q;refine ac (i6 (ac (wpAny_updateDict (s:={s with toks:=s.toks+kd.draws k}) c b (wpAny_point (q _ ⟨_,_,eJ _ c (Obj.isFreed_of_dict (Obj.data_mapDict b _)),F.mapDict _,by rw[ay];exact Obj.data_mapDict b _,?_,λx i=>?_,?_⟩ (eT ..))))))
  ·have y:=modify_map_putAt (entryOfKey kd) (λe:DictEntry=>{e with val:=v}) k v (λ_ _=>rfl) l C
   rw[←n]at y;cases es;simpa using y
  ·obtain⟨y,f,rfl⟩:=gu.mp i
   unfold putAt;split<;>exact kd.keeps (r y f) c b (eT ..)
  ·rw[keys_map_putAt];exact l
def JZ(b:kd.room A.in1)(c:kd.is s.heap k a)(m:EB kd s.heap d xs)(hz:xs.length<=sizeLine)
  (q:∀h',EB kd h' d (storedH xs k a v)->Heap.SameBut d s.heap h'->Q () {s with heap:=h',toks:=s.toks+kd.draws k}):wpAny (model prog w) A (setItem (.ref d) (.ref a) v) Q E s:=by
 have ty:=m.of.typeIs;unfold setItem
 try with_reducible refine eD ?_
 refine ac (nn ty (by decide) (ac (dc (name:=Str.ofString "__setitem__") ty slot_dict_setitem (dv slot_dict_setitem ty entry_dict_setitem ?_ (args_dict_setitem _ _ _)))));show wpAny _ _ (Builtin.Dict.notOrdered "__setitem__" ⟨[.ref d,.ref a,v],[]⟩ >>= _) _ _ s;refine ac (kU ty ?_);show wpAny _ _ (dictSet d (.ref a) v >>= λ_=>_) _ _ s;exact ac (uE b c m hz λh' f e=>al ⟨.none,rfl,al (q h' f e)⟩)
end
abbrev Key:=Sum Int Str
noncomputable def oh:Key->Value->Bool
 |.inl k,v=>Value.isInt k v
 |.inr x,v=>Value.isStrOf x v
noncomputable def J0(w:World):Key->Int
 |.inl k=>hashInt k
 |.inr x=>hashStr w x
theorem bY:∀{k:Key}{v:Value},oh k v=true->(∃i t,k=Sum.inl i/\v=Value.int i t)\/(∃x t,k=Sum.inr x/\v=Value.str x t)
 |.inl i,v,h=>by
  obtain⟨t,e⟩:=Value.isInt_shape (k:=i) (v:=v) h;exact .inl ⟨i,t,rfl,e⟩
 |.inr x,v,h=>by
  obtain⟨t,e⟩:=Value.isStrOf_shape (x:=x) (v:=v) h;exact .inr ⟨x,t,rfl,e⟩
def rG(i:Int)(t:Tok):oh (.inl i) (.int i t)=true:=by simp[oh,Value.isInt]
def rH(x:Str)(t:Tok):oh (.inr x) (.str x t)=true:=by simp[oh,Value.isStrOf]
def rJ(a b:Int):decide ((Sum.inl a:Key)=Sum.inl b)=(a == b):=by
 by_cases e:a=b
 ·subst e;simp
 ·have h:¬ (Sum.inl a:Key)=Sum.inl b:=λq=>e (Sum.inl.inj q)
  rw[ed h];exact(fb.mpr e).symm
def Hl(a b:Str):decide ((Sum.inr a:Key)=Sum.inr b)=decide (a=b):=by
 by_cases e:a=b
 ·subst e;simp
 ·have h:¬ (Sum.inr a:Key)=Sum.inr b:=λq=>e (Sum.inr.inj q)
  rw[ed h,ed e]
def zF(a:Int)(b:Str):decide ((Sum.inl a:Key)=Sum.inr b)=false:=ed (λq=>nomatch q)
def zG(a:Str)(b:Int):decide ((Sum.inr a:Key)=Sum.inl b)=false:=ed (λq=>nomatch q)
def fc(prog:Program)(w:World):PySem.KeyKind prog w Key where
 is:=oh
 hash:=J0 w
 inj:=λv a b ha hb=>by
  rcases bY ha with⟨i,t,rfl,rfl⟩|⟨x,t,rfl,rfl⟩
  ·rcases bY hb with⟨j,u,rfl,e⟩|⟨y,u,rfl,e⟩
   ·injection e with e1 _;rw[e1]
   ·exact nomatch e
  ·rcases bY hb with⟨j,u,rfl,e⟩|⟨y,u,rfl,e⟩
   ·exact nomatch e
   ·injection e with e1 _;rw[e1]
 byValue:=λk v h=>by
  rcases bY h with⟨i,t,rfl,rfl⟩|⟨x,t,rfl,rfl⟩<;>rfl
 pyHash:=λhv h=>by
  rcases bY hv with⟨i,t,rfl,rfl⟩|⟨x,t,rfl,rfl⟩
  ·exact wpAny_pyHash_int h
  ·exact wpAny_pyHash_str h
 eqBool:=λhu hv h=>by
  rcases bY hu with⟨i,t,rfl,rfl⟩|⟨x,t,rfl,rfl⟩
  ·rcases bY hv with⟨j,u,rfl,rfl⟩|⟨y,u,rfl,rfl⟩
   ·rw[rJ]at h;exact wpAny_eqBool_int h
   ·rw[zF]at h;exact l9 i t y u _ _ _ _ h
  ·rcases bY hv with⟨j,u,rfl,rfl⟩|⟨y,u,rfl,rfl⟩
   ·rw[zG]at h;exact ma x t j u _ _ _ _ h
   ·rw[Hl]at h;exact wpAny_eqBool_str h
 «strs»:=λk x t v h=>by
  rcases bY h with⟨i,u,rfl,e⟩|⟨y,u,rfl,e⟩
  ·exact nomatch e
  ·injection e with e1 _
   subst e1;cases v<;>rfl
noncomputable def du:Key->Value->Bool
 |.inl k,.bool b=>decide (k=if b=true then 1 else 0)
 |k,v=>oh k v
variable {v:Value}
def bN{k:Key}(h:du k v=true):(∃b,k=Sum.inl (if b=true then 1 else 0)/\v=Value.bool b)\/(∃i t,k=Sum.inl i/\v=Value.int i t)\/(∃x t,k=Sum.inr x/\v=Value.str x t):=by
 unfold du at h;split at h
 ·exact .inl ⟨_,iA _ (gX h),rfl⟩
 ·exact .inr (bY h)
def ou{k:Key}(h:oh k v=true):du k v=true:=by
 rcases bY h with⟨i,t,rfl,rfl⟩|⟨x,t,rfl,rfl⟩<;>exact h
def CW(b:Bool):du (.inl (if b=true then 1 else 0)) (.bool b)=true:=fe rfl
def Qy(a b:Bool):decide ((Sum.inl (if a=true then 1 else 0):Key)=Sum.inl (if b=true then 1 else 0))=(a == b):=by
 rw[rJ];cases a<;>cases b<;>rfl
variable {w:World}{A:Around}{E:gV}
def Hm{prog:Program}{s:Shared}(b:Bool){Q:Int->Shared->Prop}(h:Q (hashInt (if b=true then 1 else 0)) {s with toks:=s.toks+1}):
  wpAny (model prog w) A (pyHash (.bool b)) Q E s:=by
 refine W.pyHash_slot (s:=s) (T := "bool") (by cases b<;>exact PySem.typeIs_bool s _) PySem.F.slot_bool_hash entry_int_hash (args_int_hash _) (by rw[beq_builtin_none]) (.inl rfl) ?_;have e:reduceHash (rawHash (if b=true then 1 else 0))=hashInt (if b=true then 1 else 0):=by cases b<;>decide
 show wpAny _ _ (do ret (←mkInt (rawHash (if b=true then 1 else 0)))) _ _ s;refine cS (wpAny_ret_mkInt (Q:=λv c=>∃t,v=.int (rawHash (if b=true then 1 else 0)) t/\c={s with toks:=s.toks+1}) ⟨_,rfl,rfl⟩) (λf c i=>?_) λ_ _ x=>x;obtain⟨v,rfl,t,rfl,rfl⟩:=i;exact⟨_,_,rfl,by rw[e];exact h⟩
def uF(prog:Program)(w:World):PySem.KeyKind prog w Key where
 is:=du
 hash:=J0 w
 inj:=λv a b ha hb=>by
  rcases bN ha with⟨c,rfl,rfl⟩|⟨i,t,rfl,rfl⟩|⟨x,t,rfl,rfl⟩<;>rcases bN hb with⟨d,rfl,e⟩|⟨j,u,rfl,e⟩|⟨y,u,rfl,e⟩<;>cases e<;>rfl
 byValue:=λk v h=>by
  rcases bN h with⟨c,rfl,rfl⟩|⟨i,t,rfl,rfl⟩|⟨x,t,rfl,rfl⟩<;>rfl
 pyHash:=λhv h=>by
  rcases bN hv with⟨c,rfl,rfl⟩|⟨i,t,rfl,rfl⟩|⟨x,t,rfl,rfl⟩
  ·exact Hm c h
  ·exact wpAny_pyHash_int h
  ·exact wpAny_pyHash_str h
 eqBool:=λhu hv h=>by
  rcases bN hu with⟨c,rfl,rfl⟩|⟨i,t,rfl,rfl⟩|⟨x,t,rfl,rfl⟩
  ·rcases bN hv with⟨d,rfl,rfl⟩|⟨j,u,rfl,rfl⟩|⟨y,u,rfl,rfl⟩
   ·rw[Qy]at h;exact SeqAt.EqAt.bool_bool _ _ _ _ _ _ h
   ·rw[rJ]at h;exact SeqAt.EqAt.bool_int _ _ _ _ _ _ _ h
   ·rw[zF]at h;exact SeqAt.EqAt.bool_str _ _ _ _ _ _ _ h
  ·rcases bN hv with⟨d,rfl,rfl⟩|⟨j,u,rfl,rfl⟩|⟨y,u,rfl,rfl⟩
   ·rw[rJ]at h;exact SeqAt.EqAt.int_bool _ _ _ _ _ _ _ h
   ·rw[rJ]at h;exact wpAny_eqBool_int h
   ·rw[zF]at h;exact l9 i t y u _ _ _ _ h
  ·rcases bN hv with⟨d,rfl,rfl⟩|⟨j,u,rfl,rfl⟩|⟨y,u,rfl,rfl⟩
   ·rw[zG]at h;exact SeqAt.EqAt.str_bool _ _ _ _ _ _ _ h
   ·rw[zG]at h;exact ma x t j u _ _ _ _ h
   ·rw[Hl]at h;exact wpAny_eqBool_str h
 «strs»:=λk x t v h=>by
  rcases bN h with⟨c,rfl,e⟩|⟨i,u,rfl,e⟩|⟨y,u,rfl,e⟩
  ·exact nomatch e
  ·exact nomatch e
  ·injection e with e1 _
   subst e1;cases v<;>rfl
def CZ(prog:Program)(w:World)(i:Int)(t:Tok):(fc prog w).is (.inl i) (.int i t)=true:=rG i t
def C_(prog:Program)(w:World)(x:Str)(t:Tok):(fc prog w).is (.inr x) (.str x t)=true:=rH x t
inductive DF where
 |k (x:Key)|nil|cons (a b:DF)
 deriving DecidableEq
def DF.tp:List DF->DF
 |[]=>.nil
 |a::l=>.cons a (tp l)
theorem DF.SV:∀{l m:List DF},DF.tp l=DF.tp m->l=m
 |[],[],_=>rfl
 |[],_::_,e=>nomatch e
 |_::_,[],e=>nomatch e
 |a::l,b::m,e=>by
  have c:DF.cons a (.tp l)=DF.cons b (.tp m):=e;injection c with e1 e2;rw[e1,DF.SV e2]
def DF.Xg{l:List DF}{x:Key}(e:DF.tp l=.k x):False:=by
 cases l<;>exact nomatch e
def F5(R:DF->Value->Prop)(h:Heap)(ks:List DF)(a:Addr):Prop:=∃o items n,h.get? a=some o/\o.cls=.type "tuple" /\ o.data=.seq items n/\Paired R ks items.toList
def F9:Nat->Heap->DF->Value->Prop
 |0,_,n,v=>∃x,n=.k x/\du x v=true
 |d+1,h,n,v=>(∃x,n=.k x/\du x v=true)\/∃ns a,n=.tp ns/\v=.ref a/\F5 (F9 d h) h ns a
def F9.leaf{d:Nat}{x:Key}(e:du x v=true):F9 d h (.k x) v:=by
 cases d with
 |zero=>exact⟨x,rfl,e⟩
 |succ d=>exact .inl ⟨x,rfl,e⟩
noncomputable def nH(w:World):DF->Int×List Int
 |.k x=>(J0 w x,[])
 |.nil=>(reduceHash (Builtin.Tuple.tupleHashOf []),[])
 |.cons a b=>(reduceHash (Builtin.Tuple.tupleHashOf ((nH w a).1::(nH w b).2)),(nH w a).1::(nH w b).2)
theorem Hn(w:World):∀l:List DF,(nH w (.tp l)).2=l.map λx=>(nH w x).1
 |[]=>rfl
 |a::l=>by
  show(nH w a).1::(nH w (.tp l)).2=_;rw[Hn w l];rfl
def Up(w:World)(l:List DF):(nH w (.tp l)).1=reduceHash (Builtin.Tuple.tupleHashOf (l.map λx=>(nH w x).1)):=by
 cases l with
 |nil=>simp[nH,DF.tp]
 |cons a l=>rw[←Hn];rfl
noncomputable def nD:DF->Nat
 |.k _=>1
 |.nil=>1
 |.cons a b=>nD a+nD b
theorem M9:∀l:List DF,nD (.tp l)=(l.map nD).sum+1
 |[]=>rfl
 |a::l=>by
  show nD a+nD (.tp l)=_;rw[M9 l,bb,List.sum_cons];omega
variable {a b:Addr}{R:DF->Value->Prop}{ks:List DF}{u:Value}
section
variable {P:Program}{w:World}
theorem Paired.inj{c e:Type}{R:c->e->Prop}(f:∀x y v,R x v->R y v->x=y):∀{l m:List c}{vs:List e},Paired R l vs->Paired R m vs->l=m
 |_,_,_,.nil,.nil=>rfl
 |_,_,_,.cons h t,.cons h' t'=>by rw[f _ _ _ h h',Paired.inj f t t']
def F5.inj{R:DF->Value->Prop}{h:Heap}{x y:List DF}{a:Addr}(m:∀x y v,R x v->R y v->x=y)(i:F5 R h x a)(l:F5 R h y a):x=y:=by
 obtain⟨o,q,n,e1,_,e3,r⟩:=i;obtain⟨o',its',p,f,_,c,j⟩:=l;obtain rfl:o=o':=bq (e1.symm.trans f);rw[e3]at c;injection c with e _;subst e;exact Paired.inj m r j
def zH{x:Key}(h:du x (.ref a)=true):False:=by
 rcases bN h with⟨_,_,e⟩|⟨_,_,_,e⟩|⟨_,_,_,e⟩<;>exact nomatch e
def zJ{x y:Key}(f:du x v=true)(l:du y v=true):x=y:=by
 rcases bN f with⟨c,rfl,rfl⟩|⟨i,t,rfl,rfl⟩|⟨x,t,rfl,rfl⟩<;>rcases bN l with⟨d,rfl,e⟩|⟨j,u,rfl,e⟩|⟨y,u,rfl,e⟩<;>cases e<;>rfl
theorem F9.inj:∀{d:Nat}{h:Heap}(x y:DF) (v:Value),F9 d h x v->F9 d h y v->x=y
 |0,h,x,y,v,⟨p,e,i⟩,⟨q,f,c⟩=>by rw[e,f,zJ i c]
 |d+1,h,x,y,v,hx,hy=>by
  rcases hx with⟨p,e,i⟩|⟨ns,a,e,ev,t⟩
  ·rcases hy with⟨q,f,c⟩|⟨ms,b,f,fv,u⟩
   ·rw[e,f,zJ i c]
   ·rw[fv]at i;exact(zH i).elim
  ·rcases hy with⟨q,f,c⟩|⟨ms,b,f,fv,u⟩
   ·rw[ev]at c;exact(zH c).elim
   ·rw[ev]at fv
    cases fv;rw[e,f,F5.inj (λx y v=>F9.inj x y v) t u]
theorem fP{c e:Type}{F G:c->e->Prop}:∀{l₁:List c}{l₂:List e},Paired F l₁ l₂->(∀a b,F a b->G a b)->Paired G l₁ l₂
 |_,_,.nil,_=>.nil
 |_,_,.cons h t,f=>.cons (f _ _ h) (fP t f)
def F5.keeps{e:DF->Value->Prop}{h':Heap}{d:Addr}{o:Obj}{es ep}(x:F5 R h ks a)(q:∀k v,R k v->e k v)(p:h.get? d=some o)(j:o.data=.dict es ep)(l:Heap.SameBut d h h'):F5 e h' ks a:=by
 obtain⟨o',items,n,f,i,c,m⟩:=x;have r:a≠d:=by
  rintro rfl;obtain rfl:o'=o:=bq (f.symm.trans p);rw[j]at c;exact nomatch c
 exact⟨o',items,n,(l.2 a r).trans f,i,c,fP m q⟩
theorem F9.keeps:∀{n:Nat}{h h':Heap}{d:Addr}{o:Obj} {es ep}(k:DF) (v:Value),F9 n h k v->h.get? d=some o->o.data=.dict es ep->Heap.SameBut d h h'->F9 n h' k v
 |0,h,h',d,o,es,ep,k,v,x,_,_,_=>x
 |n+1,h,h',d,o,es,ep,k,v,x,ho,hd,hs=>x.imp id λ⟨c,a,e,f,t⟩=>⟨c,a,e,f,t.keeps (λk v q=>F9.keeps k v q ho hd hs) ho hd hs⟩
def F5.typeIs{s:Shared}(x:F5 R s.heap ks a):s.TypeIs (.ref a) "tuple" := let ⟨o,_,_,ho,hc,_⟩:=x;⟨o,ho,hc⟩
def F5.MG(x:F5 R h ks a):∃items,h.IsTuple a items/\Paired R ks items.toList:=let ⟨o,DL,n,ho,hc,hd,r⟩:=x;⟨DL,⟨o,ho,hc,n,hd⟩,r⟩
def Ob{s:Shared}{Q:Int->Shared->Prop}(B:A.units<cLine)(m:F5 R s.heap ks a)
  (C:∀k v (c:Shared) (Q':Int->Shared->Prop) (E':gV),R k v->c.heap=s.heap->Q' (nH w k).1 {c with toks:=c.toks+nD k}->wpAny (model P w) A.in1 (pyHash v) Q' E' c)
  (h:Q (nH w (.tp ks)).1 {s with toks:=s.toks+nD (.tp ks)}):wpAny (model P w) A (pyHash (.ref a)) Q E s:=by
 have f:=m.typeIs;obtain⟨o,items,n,z,_,q,r⟩:=m;unfold pyHash
 first|unfold pyHashByItsType|skip
 first|refine ac (wpAny_cRoomFor_or (.inr B) ?_)|skip
 refine ac (iE f kG.lookup ?_);show wpAny _ _ (if(some (Value.builtin "tuple.__hash__") == some Value.none)=true then _ else _) Q E s;rw[bt (by rw[beq_builtin_none];exact bi)];refine ac (iE f kG.lookup ?_);show wpAny _ _ (callSpecialIfBoundUnlessNone? (.ref a) "__hash__" _ >>= _) Q E s;refine ac (wpAny_callSpecialIfBoundUnlessNone?_slot f kG (dv kG f F.entry_tuple_hash ?_ (F.args_tuple_hash_1 _)));show wpAny _ _ (Builtin.Tuple.tupleItemsOf (.ref a) >>= _) _ _ s;refine ac (wpAny_tupleItemsOf z q ?_);refine ac ?_;rw[←Array.forIn_toList];refine nS _
  (λrest (b:Array Int) c=>∃done left,ks=done++left/\Paired R left rest/\b.toList=done.map (λx=>(nH w x).1)/\c={s with toks:=s.toks+(done.map nD).sum})
  _ ?_ ?_ _ _ ⟨[],ks,rfl,r,rfl,rfl⟩
 ·rintro x rest b c ⟨done,left,rfl,l,i,rfl⟩
  cases l with
  |@cons k _ j _ p y=>
   refine ac (C _ _ _ _ _ p rfl ?_);exact al ⟨done++[k],j,by simp,y,by simp[i],by simp[qq]⟩
 ·rintro b c ⟨done,left,rfl,l,i,rfl⟩
  cases l;rw[cy,Up,M9,←qq]at h;show wpAny _ _ (retInt (Builtin.Tuple.tupleHashOf b.toList)) _ _ _;rw[i];refine wpAny_ret_mkInt ?_;generalize List.map (λx=>(nH w x).1) done=e at h;show wpAny _ _ (if(decide (-(2:Int) ^ 63<=Builtin.Tuple.tupleHashOf e)&&decide (Builtin.Tuple.tupleHashOf e<2 ^ 63))=true then _ else _) Q E _;unfold reduceHash at h;by_cases hr:(decide (-(2:Int) ^ 63<=Builtin.Tuple.tupleHashOf e)&&decide (Builtin.Tuple.tupleHashOf e<2 ^ 63))=true
  ·rw[bX hr]
   rw[bX hr]at h;exact al h
  ·rw[bt hr]
   rw[bt hr]at h;exact ac (i6 (al h))
def in1_units(A:Around):A.in1.units=A.units+1:=rfl
def yg{s:Shared}{x:Key}{Q:Int->Shared->Prop}(c:du x v=true)(h:Q (nH w (.k x)).1 {s with toks:=s.toks+nD (.k x)}):wpAny (model P w) A (pyHash v) Q E s:=
 (uF P w).pyHash (k:=x) c h
theorem F9.hash:∀{d:Nat}{A:Around}{E:gV}{s:Shared}{k:DF}{v:Value}{Q:Int->Shared->Prop},A.units+d<cLine->F9 d s.heap k v->Q (nH w k).1 {s with toks:=s.toks+nD k}->wpAny (model P w) A (pyHash v) Q E s
 |0,A,E,s,k,v,Q,_,⟨x,e,c⟩,h=>by subst e;exact yg c h
 |d+1,A,E,s,k,v,Q,hu,x,h=>by
  rcases x with⟨x,e,c⟩|⟨ns,a,e,ev,t⟩
  ·subst e;exact yg c h
  ·subst e ev
   exact Ob (by omega) t (λk v i j f r es h'=>F9.hash (d:=d) (by rw[in1_units];omega) (by rw[es];exact r) h') h
theorem vz{R:DF->Value->Prop}:∀{x y:List DF}{us vs:re}(e:Nat->Bool),Paired R x us->Paired R y vs->(∀j p q,x[j]?=some p->y[j]?=some q->e j=decide (p=q))->
  ((List.range (min us.length vs.length)).all e&&us.length == vs.length)=decide (x=y)
 |_,_,_,_,e,.nil,.nil,_=>by simp
 |_,_,_,_,e,.nil,.cons _ _,_=>by simp
 |_,_,_,_,e,.cons _ _,.nil,_=>by simp
 |_,_,_,_,e,.cons (a:=p) (l₁:=x) (l₂:=us) h t,.cons (a:=q) (l₁:=y) (l₂:=vs) h' t',he=>by
  have c:=vz (λj=>e (j+1)) t t' λj p q a b=>he (j+1) p q (by simpa using a) (by simpa using b);have f:=he 0 p q rfl rfl;rw[cv,cv,Nat.succ_min_succ,List.range_succ_eq_map,iN,List.all_map];have e1:((us.length+1) == (vs.length+1))=(us.length == vs.length):=by simp
  rw[e1,Bool.and_assoc,f];have e2:((List.range (min us.length vs.length)).all (e∘Nat.succ)&&us.length == vs.length)=decide (x=y):=c;rw[e2];by_cases z:p=q
  ·subst z;simp
  ·simp[z]
theorem oA{f c:Type}{F:f->c->Prop}:∀{l₁:List f}{l₂:List c}{i:Nat}{y:c},Paired F l₁ l₂->l₂[i]?=some y->∃x,l₁[i]?=some x/\F x y
 |_,_,_,_,.nil,e=>by simp at e
 |_,_,0,_,.cons r _,e=>by simp at e;subst e;exact⟨_,rfl,r⟩
 |_,_,i+1,y,.cons _ t,e=>by
  obtain⟨x,j,l⟩:=oA (i:=i) (y:=y) t (by simpa using e);exact⟨x,by simpa using j,l⟩
def E_{s:Shared}{x y:List DF}(z:∀x y v,R x v->R y v->x=y)(F:A.units<cLine)(l:F5 R s.heap x a)(m:F5 R s.heap y b)
  (G:∀p q u v,R p u->R q v->SeqAt.EqAt A.in1 s u v (decide (p=q))):SeqAt.EqAt A s (.ref a) (.ref b) (decide (x=y)):=by
 by_cases hab:a=b
 ·subst hab
  rw[F5.inj z l m,fe rfl];exact SeqAt.EqAt.same _
 ·obtain⟨us,n,f⟩:=l.MG
  obtain⟨vs,o,c⟩:=m.MG;have I:=iO f;have H:=iO c;have key:=SeqAt.RcAt.tuples (e:=λj=>match x[j]?,y[j]? with|some p,some q=>decide (p=q)|_,_=>false) n o F λj D B=>by
   have e1:us.toList[j]?=some us[j]:=by simp[D]
   have e2:vs.toList[j]?=some vs[j]:=by simp[B]
   obtain⟨p,ep,r⟩:=oA f e1;obtain⟨q,eq,C⟩:=oA c e2;simp only[ep,eq];exact G p q _ _ r C
  refine SeqAt.EqAt.of_refs hab ?_;have i:=vz (R:=R) (λj=>match x[j]?,y[j]? with|some p,some q=>decide (p=q)|_,_=>false) f c λj p q a b=>by simp only[a,b]
  rw[←i];simpa using key
def zK{s:Shared}{x:Key}(f:A.units<cLine)(j:du x u=true)(t:F5 R s.heap ks a):SeqAt.EqAt A s u (.ref a) false/\SeqAt.EqAt A s (.ref a) u false:=by
 obtain⟨us,e,_⟩:=t.MG;rcases bN j with⟨c,_,rfl⟩|⟨i,t,_,rfl⟩|⟨x,t,_,rfl⟩
 ·exact⟨.bool_tuple c e f,.tuple_bool c e f⟩
 ·exact⟨.int_tuple i t e f,.tuple_int i t e f⟩
 ·exact⟨.str_tuple x t e f,.tuple_str x t e f⟩
def Ds{s:Shared}{x y:Key}(c:du x u=true)(f:du y v=true):SeqAt.EqAt A s u v (decide (DF.k x=DF.k y)):=λprog w E Q h=>by
 have e:decide (DF.k x=DF.k y)=decide (x=y):=by simp
 rw[e]at h;exact(uF prog w).eqBool (a:=x) (b:=y) c f h
theorem F9.eq:∀{d:Nat}{A:Around}{s:Shared}(x y:DF) (u v:Value),A.units+d<cLine->F9 d s.heap x u->F9 d s.heap y v->SeqAt.EqAt A s u v (decide (x=y))
 |0,A,s,x,y,u,v,_,⟨p,e,i⟩,⟨q,f,c⟩=>by subst e f;exact Ds i c
 |d+1,A,s,x,y,u,v,hu,hx,hy=>by
  rcases hx with⟨p,e,i⟩|⟨ns,a,e,ev,t⟩
  ·rcases hy with⟨q,f,c⟩|⟨ms,b,f,fv,r⟩
   ·subst e f;exact Ds i c
   ·subst e f fv
    rw[ed (λz=>DF.Xg z.symm)];exact(zK (by omega) i r).1
  ·rcases hy with⟨q,f,c⟩|⟨ms,b,f,fv,r⟩
   ·subst e f ev
    rw[ed (λz=>DF.Xg z)];exact(zK (by omega) c t).2
   ·subst e f ev fv
    have e:decide (DF.tp ns=DF.tp ms)=decide (ns=ms):=by
     by_cases z:ns=ms
     ·simp[z]
     ·rw[ed z,ed (λq=>z (DF.SV q))]
    rw[e];exact E_ (λx y v=>F9.inj x y v) (by omega) t r λp q u v j l=>F9.eq p q u v (by rw[in1_units];omega) j l
def J1{s:Shared}{f:Nat}{Q:Bool->Shared->Prop}(i:F5 R s.heap ks a)
  (B:∀k v (Q':Bool->Shared->Prop),R k v->Q' true s->wpAny (model P w) A (eqIsQuiet f v) Q' E s) (h:Q true s):wpAny (model P w) A (eqIsQuiet (f+1) (.ref a)) Q E s:=by
 have j:=i.typeIs;obtain⟨o,items,n,y,_,m,p⟩:=i;unfold eqIsQuiet;refine ac (iE j F.slot_tuple_eq.lookup ?_);show wpAny _ _ (isInstance (.ref a) (.type "tuple") >>= _) _ _ s;refine ac (jv j isSubtype_tuple_tuple ?_);simp only[Bool.not_true,eM,fw];refine ac (ff y m ?_);refine ac ?_;show wpAny _ _ (forIn items _ _) _ _ s;rw[←Array.forIn_toList];refine nS _ (λrest r c=>r.1=none/\c=s/\∃left,Paired R left rest) _ ?_ ?_ _ _ ⟨rfl,rfl,ks,p⟩
 ·rintro v rest r c ⟨e,rfl,left,z⟩
  cases z with
  |cons l q=>
   refine ac (B _ _ _ l ?_);simp only[Bool.not_true,eM,fw];exact al ⟨rfl,rfl,_,q⟩
 ·rintro⟨D,C⟩ c ⟨e,rfl,_⟩
  simp only at e;subst e;exact al h
def vA{s:Shared}{x:Key}{f:Nat}{Q:Bool->Shared->Prop}(c:du x v=true)(h:Q true s):wpAny (model P w) A (eqIsQuiet f v) Q E s:=by
 rw[eqIsQuiet_byValue _ ((uF P w).byValue _ _ c)];exact al h
theorem F9.quiet:∀{d f:Nat}{A:Around}{E:gV}{s:Shared}{k:DF}{v:Value}{Q:Bool->Shared->Prop},d<f->F9 d s.heap k v->Q true s->wpAny (model P w) A (eqIsQuiet f v) Q E s
 |0,f,A,E,s,k,v,Q,_,⟨x,_,c⟩,h=>vA c h
 |d+1,0,A,E,s,k,v,Q,hf,x,h=>absurd hf (Nat.not_lt_zero _)
 |d+1,f+1,A,E,s,k,v,Q,hf,x,h=>by
  rcases x with⟨x,_,c⟩|⟨ns,a,_,ev,t⟩
  ·exact vA c h
  ·subst ev
   exact J1 t (λk v e r h'=>F9.quiet (d:=d) (by omega) r h') h
def dC(P:Program)(w:World):HeapKind P w (List DF) where
 is:=λh ks a=>F5 (F9 2 h) h ks a
 hash:=λks=>(nH w (.tp ks)).1
 draws:=λks=>nD (.tp ks)
 room:=λA=>A.units+3<cLine
 inj:=λhx hy=>F5.inj (λx y v=>F9.inj x y v) hx hy
 keeps:=λx ho hd hs=>x.keeps (λk v q=>F9.keeps k v q ho hd hs) ho hd hs
 pyHash:=λhu hk h=>F9.hash (d:=3) hu (.inr ⟨_,_,rfl,rfl,hk⟩) h
 eqBool:=λ{A E s x y a b Q} hu hx hy h=>E_ (λx y v=>F9.inj x y v) (show A.units<cLine from gv (Nat.le_add_right _ _) hu) hx hy (λp q u v h1 h2=>F9.eq p q u v (by rw[in1_units];have:A.units+3<cLine:=hu;omega) h1 h2) P w E Q h
 quiet:=λhk h=>F9.quiet (d:=3) (f:=8) (by decide) (.inr ⟨_,_,rfl,rfl,hk⟩) h
def Iq(c:A.units+9<cLine):(dC P w).room A.in1:=by
 show A.in1.units+3<cLine;rw[in1_units];omega
end
inductive V where
 |DS|bl (b:Bool)|int (i:Int)|str (x:Str)|QA (b:Array UInt8)|YD (b:UInt64)|ref (a:Addr)|ty (n:String)
 deriving DecidableEq
abbrev sx:=List V
def RelV:V->Value->Prop
 |.DS,u=>u=Value.none
 |.bl b,u=>u=Value.bool b
 |.int i,u=>∃t,u=Value.int i t
 |.str x,u=>∃t,u=Value.str x t
 |.QA b,u=>∃t,u=Value.bytes b t
 |.YD b,u=>∃t,u=Value.float b t
 |.ref a,u=>u=Value.ref a
 |.ty n,u=>u=Value.type n
abbrev Vals:List V->List Value->Prop:=Paired RelV
def Vals.length{xs:sx}{us:re}(r:Vals xs us):xs.length=us.length:=iO r
theorem Vals.get:∀{xs:sx}{us:re}{i:Nat}{x:V},Vals xs us->xs[i]?=some x->∃u,us[i]?=some u/\RelV x u
 |_,_,_,_,.nil,e=>by simp at e
 |_,_,0,_,.cons r _,e=>by simp at e;subst e;exact⟨_,rfl,r⟩
 |_,_,i+1,x,.cons _ t,e=>by
  obtain⟨u,c,f⟩:=Vals.get (i:=i) (x:=x) t (by simpa using e);exact⟨u,by simpa using c,f⟩
theorem Vals.set{x:V}{u:Value}(r:RelV x u):∀{xs:sx}{us:re}(i:Nat),Vals xs us->Vals (xs.set i x) (us.set i u)
 |_,_,_,.nil=>.nil
 |_,_,0,.cons _ t=>.cons r t
 |_,_,i+1,.cons q t=>.cons q (Vals.set r i t)
theorem Vals.append:∀{xs ys:sx}{us ws:re},Vals xs us->Vals ys ws->Vals (xs++ys) (us++ws)
 |_,_,_,_,.nil,s=>s
 |_,_,_,_,.cons r t,s=>.cons r (Vals.append t s)
theorem Vals.take:∀{xs:sx}{us:re}(n:Nat),Vals xs us->Vals (xs.take n) (us.take n)
 |_,_,0,_=>.nil
 |_,_,_+1,.nil=>.nil
 |_,_,n+1,.cons r t=>.cons r (Vals.take n t)
theorem Vals.drop:∀{xs:sx}{us:re}(n:Nat),Vals xs us->Vals (xs.drop n) (us.drop n)
 |_,_,0,r=>r
 |_,_,_+1,.nil=>.nil
 |_,_,n+1,.cons _ t=>Vals.drop n t
def GA:Option V->Option Value->Prop
 |some v,some u=>RelV v u
 |none,none=>True
 |_,_=>False
def KV{κ:Type}:List (κ×V)->List (κ×Value)->Prop:=Paired λ(p:κ×V) (q:κ×Value)=>p.1=q.1/\RelV p.2 q.2
noncomputable def kV:Key->V
 |.inl i=>.int i
 |.inr x=>.str x
inductive HO where
 |lst (xs:sx)
 |tup (xs:sx)
 |dK (kvs:List (Key×V))|dT (kvs:List (List DF×V))
 |set (S:Int->Bool) (n:Nat)
 |ins (C dx:Addr) (fs:List (Str×V))
 |own (x:Addr)
 |xd (fs:List (Str×V))
 |met (f x:Addr)
 |rng (lo hi:Int)
 |frz (o:Obj) (u:HO)
 |XZ (ps:rV)
 |ext (φ:Heap->Prop)
abbrev Hp:=Addr->Option HO
def upd(H:Hp)(a:Addr)(o:HO):Hp:=λb=>if b=a then some o else H b
variable {H:Hp}
def aq{o:HO}:upd H a o a=some o:=by unfold upd;rw[bX rfl]
def az{o:HO}(h:b≠a):upd H a o b=H b:=by unfold upd;rw[bt h]
def bW{o u:HO}(h:H a=some o)(h':H b=some u)(d:o≠u):a≠b:=by
 intro e;subst e;rw[h]at h';exact d (bq h')
def au{o:HO}(h:H a=some o)(h':H b=none):a≠b:=by
 intro e;subst e;rw[h]at h';cases h'
def LF(K:W.Frag)(a:Addr)(xs:sx):Prop:=∃(o:Obj) (DL:rV) (n:Nat),K.lookup a=some o/\o.cls=.type "tuple" /\ o.data=.seq DL n/\(DL.size<=sizeLine/\o.dict=none)/\Vals xs DL.toList
def KB(ns:List DF)(vs:sx):Prop:=∃x b,ns=[.k (.inr x),.k (.inl (if b=true then 1 else 0))]/\vs=[.str x,.bl b]
def NV(K:W.Frag)(H:Hp):Nat->DF->V->Prop
 |0,n,v=>∃x,n=.k x/\v=kV x
 |d+1,n,v=>(∃x,n=.k x/\v=kV x)\/∃ns a vs,n=.tp ns/\v=.ref a/\(H a=some (.tup vs)\/LF K a vs)/\(Paired (NV K H d) ns vs\/KB ns vs)
def MH(K:W.Frag)(H:Hp)(ks:List DF)(vs:sx):Prop:=Paired (NV K H 2) ks vs\/KB ks vs
abbrev Qz(K:PySem.W.Frag)(H:Hp)(b:Addr)(ks:List DF):Prop:=∃vs,H b=some (.tup vs)/\MH K H ks vs
def FV(K:W.Frag)(H:Hp)(b:Addr)(ks:List DF):Prop:=Qz K H b ks\/∃vs,LF K b vs/\MH K H ks vs
theorem NV.keeps{K:W.Frag}{H H':Hp}(c:∀b ys,H b=some (.tup ys)->H' b=some (.tup ys)):∀(d:Nat) (n:DF) (v:V),NV K H d n v->NV K H' d n v
 |0,_,_,h=>h
 |d+1,n,v,h=>h.imp id λ⟨f,a,vs,e,i,t,q⟩=>⟨f,a,vs,e,i,t.imp (λz=>c _ _ z) id,q.imp (λz=>fP z λx y=>NV.keeps c d x y) id⟩
def MH.keeps{K:W.Frag}{H H':Hp}{ks:List DF}{vs:sx}(h:MH K H ks vs)(c:∀b ys,H b=some (.tup ys)->H' b=some (.tup ys)):MH K H' ks vs:=h.imp (λz=>fP z λx y=>NV.keeps c 2 x y) id
def FV.keeps{K:W.Frag}{H H':Hp}{b:Addr}{ks:List DF}(c:FV K H b ks)(f:∀b ys,H b=some (.tup ys)->H' b=some (.tup ys)):FV K H' b ks:=c.imp (λ⟨vs,e,k⟩=>⟨vs,f _ _ e,k.keeps f⟩) λ⟨vs,e,k⟩=>⟨vs,e,k.keeps f⟩
def YE(h:Heap)(a:Addr)(items:rV):Prop:=∃o,h.get? a=some o/\o.cls=.type "tuple" /\ ∃n,o.data=.seq items n/\o.dict=none
def YE.tup{items:rV}(x:YE h a items):IsTup h a items:=let ⟨o,h1,h2,n,h3,_⟩:=x;⟨o,h1,h2,n,h3⟩
section
variable (P:Program)(w:World)(K:W.Frag)
def DZ(H:Hp)(h:Heap)(a:Addr):HO->Prop
 |.lst xs=>xs.length<=sizeLine/\∃(DL:re) (n:Nat),Vals xs DL/\h.get? a=some {cls:=.type "list",data:=.seq DL.toArray n}
 |.tup xs=>xs.length<=sizeLine/\∃DL:List Value,Vals xs DL/\YE h a DL.toArray
 |.dK kvs=>kvs.length<=sizeLine/\(a == sysModules)=false/\∃vs,KV kvs vs/\h.DictOf (fc P w) a vs
 |.dT kvs=>kvs.length<=sizeLine/\(a == sysModules)=false/\∃xs:List (List DF×Addr×Value),
   Paired (λ(p:List DF×V) (q:List DF×Addr×Value)=>p.1=q.1/\FV K H q.2.1 p.1/\RelV p.2 q.2.2) kvs xs /\
   ∃o es ep,h.get? a=some o/\o.ExactDict/\o.data=.dict es ep/\es.toList=xs.map (entryOfKey (dC P w))/\(xs.map (·.1)).Nodup/\ep=xs.length
 |.set S n=>h.SetOf (intKind P w) a S n
 |.ins C dx fs=>H dx=some (.own a)/\fs.length<=1000/\dx≠a/\h.get? a=some (W.instObj C dx) /\
   ∃mA,h.Ns1 dx mA/\(∀f,GA (fs.lookup f) (mA f))/\PySem.Within mA (fs.map (·.1))
 |.own _=>∃o,h.get? a=some o
 |.xd fs=>∃mA,h.Ns1 a mA/\∀f,GA (fs.lookup f) (mA f)
 |.rng lo hi=>∃t u v,h.get? a=some {cls:=.type "range",data:=.fields #[.int lo t,.int hi u,.int 1 v]}
 |.frz o u=>h.get? a=some o/\DZ H h a u
 |.XZ ps=>h.get? a=some {cls:=.none,data:=.fields ps}
 |.met f x=>h.get? a=some (W.methodObj (.ref f) (.ref x))
 |.ext φ=>φ h/\(∃o,h.get? a=some o)/\∀h1 h2:Heap,φ h1->(∀o,h1.get? a=some o->h2.get? a=some o)->φ h2
def GY(H:Hp)(h:Heap):Prop:=∀a o,H a=some o->DZ P w K H h a o
end
section
variable {P:Program}{w:World}{K:W.Frag}{H H':Hp}{h h':Heap}{a:Addr}{o:HO}
def DZ.lt(x:DZ P w K H h a o):a<h.objs.size:=by
 cases o with
 |lst xs=>obtain⟨_,_,_,_,e⟩:=x;exact ar e
 |tup xs=>obtain⟨_,_,_,p⟩:=x;exact p.tup.lt
 |dK kvs=>obtain⟨_,_,_,_,o,_,_,e,_⟩:=x;exact ar e
 |dT kvs=>obtain⟨_,_,_,_,o,_,_,e,_⟩:=x;exact ar e
 |set S n=>obtain⟨o,_,_,_,e,_⟩:=x;exact ar e
 |ins C c fs=>obtain⟨_,_,_,e,_⟩:=x;exact ar e
 |own y=>obtain⟨_,e⟩:=x;exact ar e
 |xd fs=>obtain⟨_,⟨_,_,_,e,_⟩,_⟩:=x;exact ar e
 |rng lo j=>obtain⟨_,_,_,e⟩:=x;exact ar e
 |frz i u=>obtain⟨e,_⟩:=x;exact ar e
 |XZ ps=>exact ar (show h.get? a=some _ from x)
 |met f y=>exact ar (show h.get? a=some _ from x)
 |ext φ=>obtain⟨_,⟨_,e⟩,_⟩:=x;exact ar e
theorem Paired.YF{c e:Type}{F G:c->e->Prop}:∀{l₁:List c}{l₂:List e},Paired F l₁ l₂->(∀a b,F a b->G a b)->Paired G l₁ l₂
 |_,_,.nil,_=>.nil
 |_,_,.cons r t,f=>.cons (f _ _ r) (Paired.YF t f)
def DZ.LG(x:DZ P w K H h a o)(k:∀b u,(b=a\/H b=some (.own a))->h.get? b=some u->h'.get? b=some u)
  (D:∀b,H b=some (.own a)->H' b=some (.own a)) (B:∀b xs,H b=some (.tup xs)->H' b=some (.tup xs)):DZ P w K H' h' a o:=by
 induction o with
 |lst xs=>obtain⟨z,j,n,r,e⟩:=x;exact⟨z,j,n,r,k _ _ (.inl rfl) e⟩
 |tup xs=>obtain⟨z,j,r,i,e,c⟩:=x;exact⟨z,j,r,i,k _ _ (.inl rfl) e,c⟩
 |dK kvs=>obtain⟨z,y,vs,r,i,es,ep,e,c⟩:=x;exact⟨z,y,vs,r,i,es,ep,k _ _ (.inl rfl) e,c⟩
 |dT kvs=>
  obtain⟨z,y,xs,r,i,es,ep,e,c⟩:=x;exact⟨z,y,xs,Paired.YF r λp q z=>⟨z.1,z.2.1.keeps B,z.2.2⟩,i,es,ep,k _ _ (.inl rfl) e,c⟩
 |set S n=>obtain⟨i,es,ep,t,e,c⟩:=x;exact⟨i,es,ep,t,k _ _ (.inl rfl) e,c⟩
 |ins C I fs=>
  obtain⟨d,z,G,e,l,⟨m,es,ep,e2,c⟩,r⟩:=x;exact⟨D _ d,z,G,k _ _ (.inl rfl) e,l,⟨m,es,ep,k _ _ (.inr d) e2,c⟩,r⟩
 |own y=>obtain⟨i,e⟩:=x;exact⟨i,k _ _ (.inl rfl) e⟩
 |xd fs=>obtain⟨l,⟨m,es,ep,e,c⟩,r⟩:=x;exact⟨l,⟨m,es,ep,k _ _ (.inl rfl) e,c⟩,r⟩
 |rng lo J=>obtain⟨t,u,v,e⟩:=x;exact⟨t,u,v,k _ _ (.inl rfl) e⟩
 |frz i u F=>obtain⟨e,q⟩:=x;exact⟨k _ _ (.inl rfl) e,F q⟩
 |XZ ps=>
  have e:h.get? a=some {cls:=.none,data:=.fields ps}:=x;show h'.get? a=some {cls:=.none,data:=.fields ps};exact k a _ (.inl rfl) e
 |met f y=>
  have e:h.get? a=some (W.methodObj (.ref f) (.ref y)):=x;show h'.get? a=some (W.methodObj (.ref f) (.ref y));exact k a _ (.inl rfl) e
 |ext φ=>obtain⟨p,⟨o,e⟩,st⟩:=x;exact⟨st _ _ p λo q=>k _ _ (.inl rfl) q,⟨o,k _ _ (.inl rfl) e⟩,st⟩
def GY.lt(x:GY P w K H h)(e:H a=some o):a<h.objs.size:=(x a o e).lt
def GY.fresh(x:GY P w K H h)(e:h.objs.size<=a):H a=none:=by
 cases q:H a with
 |none=>rfl
 |some u=>exact absurd (bS (x.lt q) e) (fg _)
def GY.kept(x:GY P w K H h)(k:∀b u,h.get? b=some u->h'.get? b=some u):GY P w K H h':=λa o e=>
 (x a o e).LG (λb u _ q=>k b u q) (λ_ q=>q) λ_ _ q=>q
def GY.laid(x:GY P w K H h)(k:∀b u,h.get? b=some u->h'.get? b=some u)(i:h.objs.size<=a)(new:DZ P w K (upd H a o) h' a o):GY P w K (upd H a o) h':=λb u e=>by
 have f:=x.fresh i;by_cases hb:b=a
 ·subst hb;rw[aq]at e;cases e;exact new
 ·rw[az hb]at e
  exact(x b u e).LG (λc v _ q=>k c v q) (λc q=>by rw[az (au q f)];exact q) λc xs q=>by rw[az (au q f)];exact q
end
def Rd(H:Hp)(a:Addr)(u:HO):Prop:=H a=some u\/∃o,H a=some (.frz o u)
variable {P:Program}{K:W.Frag}
def Rd.ok{u:HO}(r:Rd H a u)(x:GY P w K H h):DZ P w K H h a u:=by
 rcases r with r|⟨o,r⟩
 ·exact x a u r
 ·obtain⟨_,q⟩:=x a _ r
  exact q
def Mut:Option HO->Prop
 |some (.lst _)=>True
 |some (.dK _)=>True
 |some (.dT _)=>True
 |some (.set _ _)=>True
 |some (.ins _ _ _)=>True
 |some (.ext _)=>True
 |_=>False
section
variable {P:Program}{w:World}{K:W.Frag}{H:Hp}{h h':Heap}{x e:Addr}{o':HO}
def GY.write(ok:GY P w K H h)(l:Mut (H x))(m:e=x\/H e=some (.own x))(k:∀b u,b≠e->h.get? b=some u->h'.get? b=some u)(B:∃u,h'.get? e=some u)
  (new:DZ P w K (upd H x o') h' x o'):GY P w K (upd H x o') h':=λb u q=>by
 have f:∀c y,H c=some (.own y)->c≠x:=λc y r z=>by subst z;rw[r]at l;exact l
 have i:∀c xs,H c=some (.tup xs)->c≠x:=λc xs r z=>by subst z;rw[r]at l;exact l
 by_cases hb:b=x
 ·subst hb;rw[aq]at q;cases q;exact new
 ·rw[az hb]at q
  by_cases YG:b=e
  ·have n:H b=some (.own x):=by
    rcases m with z|z
    ·exact absurd (YG.trans z) hb
    ·rw[YG];exact z
   rw[q]at n;cases n;obtain⟨v,p⟩:=B;exact⟨v,by rw[YG];exact p⟩
  ·refine(ok b u q).LG (λc v j r=>k c v ?_ r) (λc r=>by rw[az (f c b r)];exact r) λc xs r=>by rw[az (i c xs r)];exact r
   rcases j with rfl|j
   ·exact YG
   ·rintro rfl
    rcases m with z|z
    ·exact f c b j z
    ·rw[j]at z;cases z;exact hb rfl
end
structure Un(fs ex:rS)(H H':Hp)(h h':Heap):Prop where
 keep:∀b o,h.get? b=some o->H b=none->b∉fs->b∉ex->h'.get? b=some o
 slot:∀b o,h.get? b=some o->H b=none->b∈fs->b∉ex->∃sl,h'.get? b=some {o with slots:=sl}
 free:∀b o,h.get? b=some o->H b=none->b∉ex->H' b=none
 there:∀b o,h.get? b=some o->b∉ex->∃o',h'.get? b=some o'
 JU:∀b xs,H b=some (.tup xs)->H' b=some (.tup xs)
 IQ:∀b o u,H b=some (.frz o u)->H' b=some (.frz o u)
 LH:∀b ps,H b=some (.XZ ps)->∃more,H' b=some (.XZ (ps++more))
section
variable {fs fs' ex ex':rS}{H H1 H2:Hp}{h h1 h2 h':Heap}{a x e:Addr}{o:HO}
def Un.any(u:Un fs ex H H1 h h1){c:Obj}(q:h.get? b=some c)(n:H b=none)(f:b∉ex):∃i,h1.get? b=some {c with slots:=i}:=by
 by_cases hb:b∈fs
 ·exact u.slot b c q n hb f
 ·exact⟨c.slots,u.keep b c q n hb f⟩
def Un.kept(k:∀b u,h.get? b=some u->h'.get? b=some u):Un fs ex H H h h':=
 ⟨λb c q _ _ _=>k b c q,λb c q _ _ _=>⟨c.slots,k b c q⟩,λ_ _ _ n _=>n,λb c q _=>⟨c,k b c q⟩,λ_ _ q=>q,λ_ _ _ q=>q,λ_ ps q=>⟨#[],by rw[q];simp⟩⟩
def Un.refl:Un fs ex H H h h:=Un.kept λ_ _ q=>q
def Un.laid(k:∀b u,h.get? b=some u->h'.get? b=some u)(f:h.objs.size<=a)(c:H a=none):Un fs ex H (upd H a o) h h' where
 keep:=λb u q _ _ _=>k b u q
 slot:=λb u q _ _ _=>⟨u.slots,k b u q⟩
 free:=λb u q n _=>by rw[az (bP (bS (ar q) f))];exact n
 there:=λb u q _=>⟨u,k b u q⟩
 JU:=λb xs q=>by rw[az (au q c)];exact q
 IQ:=λb u xs q=>by rw[az (au q c)];exact q
 LH:=λb ps q=>⟨#[],by rw[az (au q c),q];simp⟩
def Un.write(c:Mut (H x))(m:e=x\/H e=some (.own x))(k:∀b u,b≠e->h.get? b=some u->h'.get? b=some u)(l:∃u,h'.get? e=some u):Un fs ex H (upd H x o) h h':=by
 have i:∀b,H b=none->b≠x:=λb n z=>by subst z;rw[n]at c;exact c
 have j:∀b,H b=none->b≠e:=λb n z=>by
  subst z;rcases m with r|r
  ·exact i b n r
  ·rw[n]at r;cases r
 have f:∀b u,H b=some u->¬ Mut (some u)->b≠x:=λb u q nm z=>by subst z;rw[q]at c;exact nm c
 refine⟨λb u q n _ _=>k b u (j b n) q,λb u q n _ _=>⟨u.slots,k b u (j b n) q⟩,λb u q n _=>by rw[az (i b n)];exact n,λb u q _=>?_,
  λb xs q=>by rw[az (f b _ q λz=>z)];exact q,λb u xs q=>by rw[az (f b _ q λz=>z)];exact q,λb ps q=>⟨#[],by rw[az (f b _ q λz=>z),q];simp⟩⟩
 by_cases YG:b=e
 ·subst YG;exact l
 ·exact⟨u,k b u YG q⟩
end
noncomputable def trk(h:Heap)(H:Hp):List Addr:=(List.range h.objs.size).filter λa=>(H a).isSome
noncomputable def qd(h:Heap)(H:Hp):Heap:=W.hideAll h (trk h H)
def Ho(h:Heap)(H:Hp):(qd h H).objs.size=h.objs.size:=W.hideAll_size _ _
def J2{o:Obj}(e:h.get? b=some o)(n:H b=none):(qd h H).get? b=some o:=
 p9 _ e λc=>by
  have q:(H b).isSome=true:=(ef.mp c).2;rw[n]at q;simp at q
def Oc{o:Obj}(e:(qd h H).get? b=some o):h.get? b=some o/\H b=none:=by
 have c:h.get? b=some o:=md (trk h H) e;refine⟨c,?_⟩;cases q:H b with
 |none=>rfl
 |some x=>
  have f:b∈trk h H:=ef.mpr ⟨fz.mpr (ar c),by simp[q]⟩;have z:(qd h H).get? b=none:=W.hideAll_none (trk h H) f;rw[z]at e;cases e
noncomputable def Od(g h:Heap)(L:Addr):List (Addr×Obj):=(List.range h.objs.size).filterMap λa=>if a=L\/(g.get? a).isSome=true then none else(h.get? a).map λo=>(a,o)
noncomputable def rest(g h:Heap)(L d:Addr):List (Addr×Obj):=(Od g h L).filter λp=>decide (p.1≠d)
structure Mod(K:W.Frag)(mg:rX)(base:Heap):Prop where
 IS:K.In base
 glob:base.Ns mainGlobals mg
 blt:∃mb,base.Ns builtinsNs mb/\∀x:Str,x ≠ "__name__" -> mb x=bootBuiltins x
 nolimit:base.NoLimit
structure Cx where
 prog:Program
 w:World
 K:W.Frag
 mg:Str->Option Value
 base:Heap
 A:Around
 N:List Str
 s₀:Shared
 H₀:Hp
 env:Env
 outer:List Env
 stack:List Env
 ex:List Addr
 fn:Str->Bool
 calm:Bool
 pn:List (Addr×Obj)
 xe:Value->Shared->Prop
noncomputable def EW(l:List Env):List Addr:=l.filterMap (·.frame)
abbrev Cx.fs(X:Cx):List Addr:=EW X.outer
abbrev GB(X:Cx)(e:Expr)(es:rh):Prop:=starEach (e::es) X.env=(false,eval e X.env)::starEach es X.env
abbrev JI(X:Cx)(p:Pos)(es:rh):Prop:=(backTo p (starEach es X.env)).any (·.1)=false
abbrev GG(x:Str):Prop:=(x == ("__debug__" : Str))=false
abbrev NJ(x:Str):Prop:=(x == ("__classdict__" : Str))=false
abbrev QE(X:Cx)(x:Str):Prop:=X.fn x=true\/X.env.scope.names.lookup x=some .local
abbrev ZQ(X:Cx)(p:Pos)(es:rh):Prop:=((backTo p (starEach es X.env)).all (λx=>!x.1)&&(backToKw p (keywordEach [] X.env)).all (λx=>x.1.isSome)&&decide (es.length+([]:List Keyword).length+(if([]:List Keyword).isEmpty then 0 else 1)<30))=true
abbrev Xh(X:Cx)(o:Expr)(m:Str):Prop:=attributeBase o m X.env (eval o X.env)=eval o X.env
def N3(sc:Scope)(x:Str):Prop:=sc.names.lookup x=some .local\/sc.names.lookup x=some .cell\/sc.names.lookup x=some .free
def Loc(sc:Scope)(x:Str):Prop:=sc.names.lookup x=some .local\/sc.names.lookup x=some .cell
def Look(env:Env)(h:Heap)(m:rX)(x:Str)(u:Value):Prop:=
 (env.kindOf x=some .local/\m x=some u)\/((env.kindOf x=some .cell\/env.kindOf x=some .free)/\∃c,env.cells.lookup x=some c/\h.IsCell c (some u))
structure Cx.Ok(X:Cx):Prop where
 mod:Mod X.K X.mg X.base
 kind:X.env.scope.kind=.function
 glob:X.env.globals=mainGlobals
 blt:X.env.builtins=builtinsNs
 above:X.s₀.heap.objs.size<=X.env.locals
 inj:∀x y c,X.env.cells.lookup x=some c->X.env.cells.lookup y=some c->x=y
 has:∀x,(X.env.kindOf x=some .cell\/X.env.kindOf x=some .free)->∃c,X.env.cells.lookup x=some c
 ZR:∀x c,X.fn x=true->X.env.cells.lookup x=some c->X.s₀.heap.objs.size<=c
 hd:X.calm=true->X.A.handled=none
 frames:X.A.frames=some X.stack
 stk:X.stack=X.outer\/(X.stack=X.env::X.outer/\X.env.frame=some X.env.locals)
 exf:∀b∈X.ex,b≠X.env.locals/\∀x c,X.env.cells.lookup x=some c->c≠b
 bs:∀b o,X.base.get? b=some o->X.s₀.heap.get? b=some o/\X.H₀ b=none
 WZ:X.base.objs.size<=X.s₀.heap.objs.size
 QI:∀b o,X.base.get? b=some o->b∉X.ex
 SY:∀b∈X.ex,b∉X.fs
 IT:X.s₀.heap.FunFrames X.base X.outer
 X3:∀b∈X.fs,X.H₀ b=none
structure Inv(X:Cx)(DE:oI)(EK:List (Option V))(H:Hp)(s:Shared):Prop where
 ok:X.Ok
 os:s.os=X.s₀.os
 bare:AllBare s.gens
 base:Un X.fs X.ex X.H₀ H X.s₀.heap s.heap
 loc:∃m,s.heap.Ns X.env.locals m/\∀(i:Nat) (x:Str) (v:V),X.N[i]?=some x->EK[i]?=some (some v)->N3 X.env.scope x->∃u,RelV v u/\Look X.env s.heap m x u
 cell:∀x c,X.env.cells.lookup x=some c->∃v,s.heap.IsCell c v
 free:H X.env.locals=none
 FE:∀x c,X.env.cells.lookup x=some c->H c=none
 pin:∀p∈X.pn++DE,s.heap.get? p.1=some p.2/\H p.1=none/\p.1≠X.env.locals/\p.1∉X.fs/\∀v,p.2.data≠.cell v
 DV:GY X.prog X.w X.K H s.heap
 len:EK.length=X.N.length
section
variable {X:Cx}{DE:oI}{EK:List (Option V)}{H H':Hp}{s:Shared}{h':Heap}
def Cx.Ok.nofr(ok:X.Ok){o:Obj}(e:X.base.get? b=some o):b∉X.fs:=λc=>by
 have:=(ok.IT.mem c).1;rw[e]at this;cases this
def Inv.bs(I:Inv X DE EK H s):∀b o,X.base.get? b=some o->s.heap.get? b=some o/\H b=none:=λb o e=>
 ⟨I.base.keep b o (I.ok.bs b o e).1 (I.ok.bs b o e).2 (I.ok.nofr e) (I.ok.QI b o e),I.base.free b o (I.ok.bs b o e).1 (I.ok.bs b o e).2 (I.ok.QI b o e)⟩
def Inv.bk(I:Inv X DE EK H s):∀b o,X.base.get? b=some o->s.heap.get? b=some o:=λb o e=>(I.bs b o e).1
def Inv.mod(I:Inv X DE EK H s):Mod X.K X.mg X.base:=I.ok.mod
def Inv.HI(I:Inv X DE EK H s):X.K.In s.heap:=I.ok.mod.IS.keeps I.bk
def Inv.nolimit(I:Inv X DE EK H s):s.heap.NoLimit:=I.ok.mod.nolimit.keeps I.bk
def Inv.lt(I:Inv X DE EK H s):X.env.locals<s.heap.objs.size:=let ⟨_,hn,_⟩:=I.loc;hn.lt
def Inv.sz(I:Inv X DE EK H s):X.s₀.heap.objs.size<=s.heap.objs.size:=df I.ok.above (gg I.lt)
def Inv.nofs(I:Inv X DE EK H s)(h:s.heap.objs.size<=a):a∉X.fs:=λc=>by
 obtain⟨_,o,f,_⟩:=I.ok.IT.mem c;exact absurd (bS (ar f) (df I.sz h)) (fg _)
def Inv.Xi(I:Inv X DE EK H s):∀x c,X.env.cells.lookup x=some c->c≠X.env.locals:=λx c e z=>by
 obtain⟨v,o,f,i⟩:=I.cell x c e;obtain⟨m,⟨o',es,ep,l,j,_⟩,_⟩:=I.loc;rw[z,l]at f;cases f;rw[j]at i;cases i
def Inv.IT(I:Inv X DE EK H s):s.heap.FunFrames X.base X.outer:=by
 have all:∀(l:List Env),(∀b∈EW l,b∈X.fs)->X.s₀.heap.FunFrames X.base l->s.heap.FunFrames X.base l:=by
  intro l;induction l with
  |nil=>intro _ _;trivial
  |cons env r y=>
   intro j C;obtain⟨m,⟨L,o,f,n,q,p⟩,B⟩:=C;have c:L∈X.fs:=j L (by unfold EW;rw[h9,f];exact bp);obtain⟨D,e⟩:=I.base.slot L o q (I.ok.X3 L c) c λz=>I.ok.SY L z c;exact⟨m,⟨L,_,f,n,e,p⟩,y (λb i=>j b (by unfold EW;rw[h9,f];exact aI _ i)) B⟩
 exact all X.outer (λ_ i=>i) I.ok.IT
def Inv.stack(I:Inv X DE EK H s):s.heap.FunFrames X.base X.stack:=by
 rcases I.ok.stk with e|⟨e,hf⟩
 ·rw[e];exact I.IT
 ·rw[e]
  obtain⟨m,c,_⟩:=I.loc;refine .cons (by rw[I.ok.kind];decide) hf c ?_ I.IT;exact Heap.get?_none_of_le (df I.ok.WZ I.ok.above)
def Inv.JY(I:Inv X DE EK H s):∀b∈EW X.stack,b∈X.env.locals::X.fs:=λb c=>by
 rcases I.ok.stk with e|⟨e,hf⟩
 ·rw[e]at c;exact aI _ c
 ·rw[e]at c
  unfold EW at c;rw[h9,hf]at c;exact c
def Inv.LU(I:Inv X DE EK H s):∀b∈EW X.stack,H b=none:=λb c=>by
 rcases br.mp (I.JY b c)with e|c
 ·rw[e];exact I.free
 ·obtain⟨_,o,f,_⟩:=I.ok.IT.mem c
  exact I.base.free b o f (I.ok.X3 b c) λz=>I.ok.SY b z c
def Inv.step{g':Array GenState}{t':Nat}{d':Drawn}{ch:rS}(I:Inv X DE EK H s)
  (G:∀b∈ch,(b∈X.ex\/X.s₀.heap.objs.size<=b)/\b≠X.env.locals/\(∀x c,X.env.cells.lookup x=some c->c≠b)/\∀p∈X.pn++DE,p.1≠b)
  (keep:∀b o,b≠X.env.locals->b∉X.fs->b∉ch->s.heap.get? b=some o->H b=none->h'.get? b=some o)
  (slot:∀b o,b≠X.env.locals->b∈X.fs->b∉ch->s.heap.get? b=some o->H b=none->∃J,h'.get? b=some {o with slots:=J}) (free:∀b o,b∉ch->s.heap.get? b=some o->H b=none->H' b=none)
  (there:∀b o,b∉ch->s.heap.get? b=some o->∃o',h'.get? b=some o')
  (JU:∀b xs,H b=some (.tup xs)->H' b=some (.tup xs)) (IQ:∀b o u,H b=some (.frz o u)->H' b=some (.frz o u)) (LH:∀b ps,H b=some (.XZ ps)->∃more,H' b=some (.XZ (ps++more)))
  (Y:∀m,s.heap.Ns X.env.locals m->h'.Ns X.env.locals m) (DV:GY X.prog X.w X.K H' h') (hg:AllBare g'):
  Inv X DE EK H' {s with heap:=h',gens:=g',drawn:=d',toks:=t'}:=by
 have F:∀b o,X.s₀.heap.get? b=some o->b≠X.env.locals:=λb o e=>bP (bS (ar e) I.ok.above);have y:∀b o,X.s₀.heap.get? b=some o->b∉X.ex->b∉ch:=λb o e f B=>by
  rcases(G b B).1 with z|z
  ·exact f z
  ·exact absurd (bS (ar e) z) (fg _)
 have j:∀x c,X.env.cells.lookup x=some c->∀v,s.heap.IsCell c v->h'.IsCell c v:=by
  rintro x c e v ⟨o,C,L⟩;have D:c∉ch:=λz=>(G c z).2.2.1 x c e rfl;by_cases hc:c∈X.fs
  ·obtain⟨J,q⟩:=slot c o (I.Xi x c e) hc D C (I.FE x c e)
   exact⟨_,q,L⟩
  ·exact⟨o,keep c o (I.Xi x c e) hc D C (I.FE x c e),L⟩
 refine⟨I.ok,I.os,hg,⟨λb o e n B f=>?_,λb o e n B f=>?_,λb o e n f=>?_,λb o e f=>?_,λb xs e=>JU b xs (I.base.JU b xs e),λb o xs e=>IQ b o xs (I.base.IQ b o xs e),λb ps e=>?_⟩,?_,λx c e=>?_,?_,λx c e=>?_,λp N=>?_,DV,I.len⟩
 ·exact keep b o (F b o e) B (y b o e f) (I.base.keep b o e n B f) (I.base.free b o e n f)
 ·obtain⟨J,e1⟩:=I.base.slot b o e n B f
  obtain⟨Z,e2⟩:=slot b _ (F b o e) B (y b o e f) e1 (I.base.free b o e n f);exact⟨Z,e2⟩
 ·obtain⟨o',e1⟩:=I.base.there b o e f
  exact free b o' (y b o e f) e1 (I.base.free b o e n f)
 ·obtain⟨o',e1⟩:=I.base.there b o e f
  exact there b o' (y b o e f) e1
 ·obtain⟨m1,e1⟩:=I.base.LH b ps e
  obtain⟨T,e2⟩:=LH b _ e1;exact⟨m1++T,by rw[e2,Array.append_assoc]⟩
 ·obtain⟨m,U,hl⟩:=I.loc
  refine⟨m,Y m U,λi x v e1 e2 e3=>?_⟩;obtain⟨u,r,l⟩:=hl i x v e1 e2 e3;refine⟨u,r,?_⟩;rcases l with l|⟨k,c,e,z⟩
  ·exact .inl l
  ·exact .inr ⟨k,c,e,j x c e _ z⟩
 ·obtain⟨v,z⟩:=I.cell x c e
  exact⟨v,j x c e v z⟩
 ·obtain⟨m,⟨o,_,_,C,_⟩,_⟩:=I.loc
  exact free _ o (λz=>(G _ z).2.1 rfl) C I.free
 ·obtain⟨v,o,C,L⟩:=I.cell x c e
  exact free c o (λz=>(G c z).2.2.1 x c e rfl) C (I.FE x c e)
 ·obtain⟨e,n,O,M,d⟩:=I.pin p N
  have D:p.1∉ch:=λz=>(G p.1 z).2.2.2 p N rfl;exact⟨keep p.1 p.2 O M D e n,free p.1 p.2 D e n,O,M,d⟩
def Inv.un{t':Nat}(I:Inv X DE EK H s)(u:Un X.fs [] H H' s.heap h')(p:GY X.prog X.w X.K H' h'):Inv X DE EK H' {s with heap:=h',toks:=t'}:=by
 obtain⟨m,⟨o,es,ep,j,r⟩,_⟩:=id I.loc;obtain⟨C,q⟩:=u.any j I.free (by simp);exact I.step (g':=s.gens) (d':=s.drawn) (ch:=[]) (λ_ z=>nomatch z) (λb o _ c _ e n=>u.keep b o e n c (by simp)) (λb o _ c _ e n=>u.slot b o e n c (by simp)) (λb o _ e n=>u.free b o e n (by simp)) (λb o _ e=>u.there b o e (by simp)) u.JU u.IQ u.LH (λD y=>by
  obtain⟨o',f,i,l,B⟩:=y;rw[j]at l;cases l;exact⟨_,f,i,q,B⟩) p I.bare
def Inv.call{g':Array GenState}{t':Nat}{d':Drawn}{ch:rS}(I:Inv X DE EK H s)(u:Un (EW X.stack) ch H H' s.heap h')(C:GY X.prog X.w X.K H' h')(D:AllBare g')
  (y:∀b∈ch,(b∈X.ex\/X.s₀.heap.objs.size<=b)/\b≠X.env.locals/\(∀x c,X.env.cells.lookup x=some c->c≠b)/\∀p∈X.pn++DE,p.1≠b):
  Inv X DE EK H' {s with heap:=h',gens:=g',drawn:=d',toks:=t'}:=by
 obtain⟨m,⟨o,es,ep,q,r⟩,_⟩:=id I.loc;obtain⟨L,i⟩:=u.any q I.free λz=>(y _ z).2.1 rfl;exact I.step (ch:=ch) y (λb o i F f e n=>u.keep b o e n (λz=>(br.mp (I.JY b z)).elim i F) f) (λb o _ _ f e n=>u.any e n f) (λb o f e n=>u.free b o e n f) (λb o f e=>u.there b o e f) u.JU u.IQ u.LH (λM G=>by
  obtain⟨o',j,l,B,J⟩:=G;rw[q]at B;cases B;exact⟨_,j,l,i,J⟩) C D
def Inv.turned{t':Nat}{it:Addr}(I:Inv X DE EK H s)(k:∀b o,b≠it->s.heap.get? b=some o->h'.get? b=some o)(y:H it=none)(j:it≠X.env.locals)
  (h1:it∈X.ex\/X.s₀.heap.objs.size<=it) (h2:∀x c,X.env.cells.lookup x=some c->c≠it) (C:∀p∈X.pn++DE,p.1≠it):Inv X DE EK H {s with heap:=h',toks:=t'}:=by
 have i:∀b u,H b=some u->b≠it:=λb u e z=>by rw[z,y]at e;cases e
 refine I.step (g':=s.gens) (d':=s.drawn) (ch:=[it]) (λb l=>?_) (λb o _ _ f e _=>k b o (λz=>f (by simp[z])) e) (λb o _ _ f e _=>⟨o.slots,k b o (λz=>f (by simp[z])) e⟩) (λ_ _ _ _ n=>n)
  (λb o f e=>⟨o,k b o (λz=>f (by simp[z])) e⟩) (λ_ _ e=>e) (λ_ _ _ e=>e) (λb ps e=>⟨#[],by rw[e];simp⟩) (λm B=>?_) (λb u e=>?_) I.bare
 ·have e:b=it:=by simpa using l
  subst e;exact⟨h1,j,h2,C⟩
 ·obtain⟨o,es,ep,D,r⟩:=B
  exact⟨o,es,ep,k _ o (fm j) D,r⟩
 ·refine(I.DV b u e).LG (λc v f q=>k c v ?_ q) (λ_ q=>q) λ_ _ q=>q
  rcases f with z|z
  ·rw[z];exact i b u e
  ·exact i c _ z
def Inv.tok(I:Inv X DE EK H s)(t:Nat):Inv X DE EK H {s with toks:=t}:=I.un (h':=s.heap) (t':=t) Un.refl I.DV
def Inv.kept{t':Nat}(I:Inv X DE EK H s)(k:∀b u,s.heap.get? b=some u->h'.get? b=some u):Inv X DE EK H {s with heap:=h',toks:=t'}:=I.un (Un.kept k) (I.DV.kept k)
def Inv.laid{a:Addr}{o:HO}{t':Nat}(I:Inv X DE EK H s)(k:∀b u,s.heap.get? b=some u->h'.get? b=some u)(c:s.heap.objs.size<=a)(new:DZ X.prog X.w X.K (upd H a o) h' a o):
  Inv X DE EK (upd H a o) {s with heap:=h',toks:=t'}:=I.un (Un.laid k c (I.DV.fresh c)) (I.DV.laid k c new)
def Inv.write{x e:Addr}{o:HO}{t':Nat}(I:Inv X DE EK H s)(i:Mut (H x))(f:e=x\/H e=some (.own x))(k:∀b u,b≠e->s.heap.get? b=some u->h'.get? b=some u)(c:∃u,h'.get? e=some u)
  (new:DZ X.prog X.w X.K (upd H x o) h' x o):Inv X DE EK (upd H x o) {s with heap:=h',toks:=t'}:=I.un (Un.write i f k c) (I.DV.write i f k c new)
def Inv.weak{c:List (Option V)}(I:Inv X DE EK H s)(f:c.length=EK.length)(w:∀(i:Nat) v,c[i]?=some (some v)->EK[i]?=some (some v)):Inv X DE c H s:=
 ⟨I.ok,I.os,I.bare,I.base,let ⟨m,hn,YC⟩:=I.loc;⟨m,hn,λi x v e1 e2 e3=>YC i x v e1 (w i v e2) e3⟩,I.cell,I.free,I.FE,I.pin,I.DV,f.trans I.len⟩
def Inv.Pf{c:oI}(I:Inv X DE EK H s)(h:∀p∈c,s.heap.get? p.1=some p.2/\H p.1=none/\p.1≠X.env.locals/\p.1∉X.fs/\∀v,p.2.data≠.cell v):Inv X c EK H s:=
 ⟨I.ok,I.os,I.bare,I.base,I.loc,I.cell,I.free,I.FE,λp f=>(eR.mp f).elim (λz=>I.pin p (g0 _ z)) (h p),I.DV,I.len⟩
def uG{N:rj}(c:N.Nodup){i j:Nat}{x:Str}(a:N[i]?=some x)(b:N[j]?=some x):i=j:=by
 obtain⟨h1,e1⟩:=ap.mp a;obtain⟨h2,e2⟩:=ap.mp b;exact(List.getElem_inj c).mp (e1.trans e2.symm)
def yh{M:Model}{i:Nat}{x:Str}{v:V}(I:Inv X DE EK H s)(hN:X.N.Nodup)(J:X.N[i]?=some x)(C:Loc X.env.scope x)(r:RelV v u)
  (h:∀s',Inv X DE (EK.set i (some v)) H s'->(∃a,Heap.SameBut a s.heap s'.heap/\(a=X.env.locals\/X.env.cells.lookup x=some a))->Q () s') (hf:autoParam (QE X x) r3_):wpAny M A (storeName X.env x u) Q E s:=by
 obtain⟨m,hn,hl⟩:=id I.loc;have YI:(X.env.scope.kind == .class||(X.env.scope.kind == .module&&X.env.locals != X.env.globals))=false:=by rw[I.ok.kind];rfl
 have hiσ:i<EK.length:=by rw[I.len];exact(ap.mp J).1
 have Xi:=I.Xi;have l:∀{a:Addr}{h':Heap},(∃o,s.heap.get? a=some o/\H a=none)->Heap.SameBut a s.heap h'->GY X.prog X.w X.K H h':=λ{a h'} ha f b ob e=>by
  obtain⟨_,_,X5⟩:=ha;refine(I.DV b ob e).LG (λc O B q=>(f.2 c ?_).trans q) (λ_ q=>q) λ_ _ q=>q;rintro rfl;rcases B with rfl|B
  ·rw[X5]at e;cases e
  ·rw[X5]at B;cases B
 rcases C with hk|hk
 ·refine wpAny_storeName_local hk hn (λh' OE f=>?_) YI
  obtain⟨oL,_,_,Y,_⟩:=id hn;refine h _ ⟨I.ok,I.os,I.bare,⟨λb o e n D C=>?_,λb o e n D C=>?_,I.base.free,λb o e C=>?_,I.base.JU,I.base.IQ,I.base.LH⟩,⟨_,OE,λj y v' e1 e2 e3=>?_⟩,λy c e=>?_,I.free,I.FE,λp hp=>?_,l ⟨oL,Y,I.free⟩ f,by simpa using I.len⟩ ⟨_,f,.inl rfl⟩
  ·exact(f.2 b (bP (bS (ar e) I.ok.above))).trans (I.base.keep b o e n D C)
  ·obtain⟨sl,e1⟩:=I.base.slot b o e n D C
   exact⟨sl,(f.2 b (bP (bS (ar e) I.ok.above))).trans e1⟩
  ·obtain⟨o',e1⟩:=I.base.there b o e C
   exact⟨o',(f.2 b (bP (bS (ar e) I.ok.above))).trans e1⟩
  ·by_cases hj:j=i
   ·subst hj
    rw[J]at e1;cases e1;rw[dS hiσ]at e2;cases e2;exact⟨u,r,.inl ⟨hk,by simp⟩⟩
   ·rw[bv (fm hj)]at e2
    obtain⟨u',r',q⟩:=hl j y v' e1 e2 e3;refine⟨u',r',?_⟩;rcases q with⟨k,e⟩|⟨k,c,e,z⟩
    ·refine .inl ⟨k,?_⟩
     have:y≠x:=λe=>hj (uG hN e1 (e▸J));simp[this,e]
    ·exact .inr ⟨k,c,e,z.sameBut f (Xi y c e)⟩
  ·obtain⟨O,z⟩:=I.cell y c e
   exact⟨O,z.sameBut f (Xi y c e)⟩
  ·obtain⟨e,n,U,nf,d⟩:=I.pin p hp
   exact⟨(f.2 p.1 U).trans e,n,U,nf,d⟩
 ·have Z:X.fn x=true:=by
   rcases hf with z|z
   ·exact z
   ·rw[z]at hk;cases hk
  obtain⟨c,B⟩:=I.ok.has x (.inl hk);obtain⟨O,z⟩:=I.cell x c B;refine wpAny_storeName_cell I.ok.kind hk B z (λh' F f=>?_);obtain⟨oc,G,L⟩:=id z;refine h {s with heap:=h'} ⟨I.ok,I.os,I.bare,⟨λb o e n D C=>?_,λb o e n D C=>?_,I.base.free,λb o e C=>?_,I.base.JU,I.base.IQ,I.base.LH⟩,⟨m,hn.sameBut f (fm (Xi x c B)),λj y v' e1 e2 e3=>?_⟩,λy T e=>?_,I.free,I.FE,λp hp=>?_,l ⟨oc,G,I.FE x c B⟩ f,by simpa using I.len⟩ ⟨c,f,.inr B⟩
  ·exact(f.2 b (bP (bS (ar e) (I.ok.ZR x c Z B)))).trans (I.base.keep b o e n D C)
  ·obtain⟨sl,e1⟩:=I.base.slot b o e n D C
   exact⟨sl,(f.2 b (bP (bS (ar e) (I.ok.ZR x c Z B)))).trans e1⟩
  ·obtain⟨o',e1⟩:=I.base.there b o e C
   exact⟨o',(f.2 b (bP (bS (ar e) (I.ok.ZR x c Z B)))).trans e1⟩
  ·by_cases hj:j=i
   ·subst hj
    rw[J]at e1;cases e1;rw[dS hiσ]at e2;cases e2;exact⟨u,r,.inr ⟨.inl hk,c,B,F⟩⟩
   ·rw[bv (fm hj)]at e2
    obtain⟨u',r',q⟩:=hl j y v' e1 e2 e3;refine⟨u',r',?_⟩;rcases q with q|⟨k,T,e,z'⟩
    ·exact .inl q
    ·refine .inr ⟨k,T,e,z'.sameBut f ?_⟩
     rintro rfl;exact hj (uG hN e1 (I.ok.inj _ _ _ e B▸J))
  ·by_cases ZS:T=c
   ·subst ZS;exact⟨_,F⟩
   ·obtain⟨w2,z2⟩:=I.cell y T e
    exact⟨w2,z2.sameBut f ZS⟩
  ·obtain⟨e,n,U,nf,d⟩:=I.pin p hp
   refine⟨(f.2 p.1 ?_).trans e,n,U,nf,d⟩;intro q;rw[q,G]at e;have q':oc=p.2:=bq e;exact d O (by rw[←q'];exact L)
def uH{M:Model}{i:Nat}{x:Str}{v:V}(I:Inv X DE EK H s)(f:X.N.Nodup)(n:X.N[i]?=some x)(m:Loc X.env.scope x)(r:RelV v u)
  (h:∀c,Inv X DE (EK.set i (some v)) H c->Q () c) (j:autoParam (QE X x) r3_):wpAny M A (storeName X.env x u) Q E s:=
 yh I f n m r (λc l _=>h c l) j
def Inv.X7{f:Shared}{ch:rS}(I:Inv X DE EK H s)(i:f.os=s.os)(u:Un (EW X.stack) ch H H' s.heap f.heap)(j:GY X.prog X.w X.K H' f.heap)(l:AllBare f.gens)
  (m:∀b∈ch,(b∈X.ex\/X.s₀.heap.objs.size<=b)/\b≠X.env.locals/\(∀x c,X.env.cells.lookup x=some c->c≠b)/\∀p∈X.pn++DE,p.1≠b):Inv X DE EK H' f:=by
 obtain⟨h',g',d',t',o'⟩:=f;have e:o'=s.os:=i;subst e;exact I.call (g':=g') (t':=t') (d':=d') u j l m
end
abbrev XK:=Value->Option Addr->Hp->Prop
abbrev St:=List (Option V)
abbrev VK:=V->Hp->Prop
abbrev TE:=St->Hp->VK->Prop
abbrev TT:=St->Hp->(Bool->Hp->Prop)->Prop
abbrev TA:=St->Hp->(List V->Hp->Prop)->Prop
structure Ends where
 nx:St->Hp->Prop
 rt:VK
 bk:St->Hp->Prop:=λ_ _=>False
 ct:St->Hp->Prop:=λ_ _=>False
abbrev TS:=Ends->St->Hp->Prop
inductive EP(X:Cx)(DE:oI)(EK:St)(Q:VK)(u:Value)(s':Shared):Prop
 |mk (v:V) (H':Hp) (I:Inv X DE EK H' s') (r:RelV v u) (q:Q v H'):EP X DE EK Q u s'
inductive TP(X:Cx)(DE:oI)(EK:St)(Q:Bool->Hp->Prop)(b:Bool)(s':Shared):Prop
 |mk (H':Hp) (I:Inv X DE EK H' s') (q:Q b H'):TP X DE EK Q b s'
inductive AP(X:Cx)(DE:oI)(EK:St)(Q:List V->Hp->Prop)(us:re)(s':Shared):Prop
 |mk (vs:sx) (H':Hp) (I:Inv X DE EK H' s') (r:Vals vs us) (q:Q vs H'):AP X DE EK Q us s'
inductive SN(X:Cx)(DE:oI)(Q:St->Hp->Prop)(s':Shared):Prop
 |mk (EU:St) (H':Hp) (I:Inv X DE EU H' s') (q:Q EU H'):SN X DE Q s'
inductive SR(X:Cx)(DE:oI)(Q:VK)(u:Value)(s':Shared):Prop
 |mk (v:V) (EU:St) (H':Hp) (I:Inv X DE EU H' s') (r:RelV v u) (q:Q v H'):SR X DE Q u s'
def SP(X:Cx)(DE:oI)(D:Ends)(f:Flow)(s':Shared):Prop:=
 match f with
 |.next=>SN X DE D.nx s'
 |.brk=>SN X DE D.bk s'
 |.cont=>SN X DE D.ct s'
 |.ret u=>SR X DE D.rt u s'
def PE(X:Cx)(e:Expr)(t:TE):Prop:=
 ∀(DE:oI) (s:Shared) (EK:St) (H:Hp) (Q:VK),Inv X DE EK H s->t EK H Q->wpAny (model X.prog X.w) X.A (eval e X.env) (EP X DE EK Q) X.xe s
def PT(X:Cx)(e:Expr)(t:TT):Prop:=
 ∀(DE:oI) (s:Shared) (EK:St) (H:Hp) (Q:Bool->Hp->Prop),Inv X DE EK H s->t EK H Q->wpAny (model X.prog X.w) X.A (isTrue e X.env (eval e X.env)) (TP X DE EK Q) X.xe s
def PW(X:Cx)(e:Expr)(t:TT):Prop:=
 ∀(whole:Sem Value) (DE:oI) (s:Shared) (EK:St) (H:Hp) (Q:Bool->Hp->Prop),Inv X DE EK H s->t EK H Q->wpAny (model X.prog X.w) X.A (isTrue e X.env whole) (TP X DE EK Q) X.xe s
variable {e:Expr}
def PW.pt{X:Cx}{t:TT}(h:PW X e t):PT X e t:=h _
def PA(X:Cx)(es:rh)(t:TA):Prop:=
 ∀(pos:Pos) (DE:oI) (s:Shared) (EK:St) (H:Hp) (Q:List V->Hp->Prop),Inv X DE EK H s->t EK H Q->wpAny (model X.prog X.w) X.A (spliced (backTo pos (starEach es X.env))) (AP X DE EK Q) X.xe s
def PS(X:Cx)(st:Stmt)(t:TS):Prop:=
 ∀(DE:oI) (s:Shared) (EK:St) (H:Hp) (D:Ends),Inv X DE EK H s->t D EK H->wpAny (model X.prog X.w) X.A (exec st X.env) (SP X DE D) X.xe s
def FX(X:Cx)(st:rg)(t:TS):Prop:=
 ∀(DE:oI) (s:Shared) (EK:St) (H:Hp) (D:Ends),Inv X DE EK H s->t D EK H->wpAny (model X.prog X.w) X.A (execs st X.env) (SP X DE D) X.xe s
def D8{f:Type}{t:Sem f}{Q c:f->Shared->Prop}{M:Model}{s:Shared}(h:wpAny M A t Q E s)(i:∀a s,Q a s->c a s):wpAny M A t c E s:=cS h i λ_ _ x=>x
variable {DE:oI}{EK:St}{pos:Pos}{op:CmpOp}
section
variable {X:Cx}
def bin{a b:Expr}{j i:TE}(G:PE X a j)(r:PE X b i){s:Shared}{R:V->V->Hp->Prop}(I:Inv X DE EK H s)(h:j EK H λx H1=>i EK H1 λy H2=>R x y H2)
  {l:Type}{Q:l->Shared->Prop}{f:Value->Value->Sem l}
  (p:∀v u c x y H2,Inv X DE EK H2 c->RelV x v->RelV y u->R x y H2->wpAny (model X.prog X.w) X.A (f v u) Q X.xe c):
  wpAny (model X.prog X.w) X.A (eval a X.env) (λv B=>wpAny (model X.prog X.w) X.A (eval b X.env) (λu D=>wpAny (model X.prog X.w) X.A (f v u) Q X.xe D) X.xe B) X.xe s:=by
 refine D8 (G DE s EK H _ I h) ?_;rintro v C ⟨x,H1,m,z,J⟩;refine D8 (r DE C EK H1 _ m J) ?_;rintro u c ⟨y,H2,F,q,n⟩;exact p v u c x y H2 F z q n
inductive DM(i:Nat)(EK:St)(H:Hp)(Q:VK):Prop
 |mk (v:_) (h0:EK[i]?=some (some v)) (h1:Q v H):DM i EK H Q
def tC(v:V):TE:=λ_ H Q=>Q v H
def dW{i:Nat}{x:Str}(B:X.N[i]?=some x)(z:N3 X.env.scope x)(n:autoParam (GG x) r1_)(p:autoParam (NJ x) r1_):PE X (.Name x pos) (DM i):=by
 intro DE s EK H Q I h;obtain⟨v,e,h⟩:=h;obtain⟨m,q,C⟩:=I.loc;obtain⟨u,r,l⟩:=C i x v B e z;have j:EP X DE EK Q u s:=⟨v,H,I,r,h⟩;rcases l with⟨f,y⟩|⟨f,c,hc,Pm⟩
 ·exact wpAny_Name (wpAny_loadName_local I.ok.kind f q y j) n
 ·rcases f with f|f
  ·exact wpAny_Name (wpAny_loadName_cell I.ok.kind f hc Pm j) n
  ·exact wpAny_Name (wpAny_loadName_free I.ok.kind f hc Pm j p) n
def fj{i j pos}:PE X (.Constant (.int i) j pos) (tC (.int i)):=λ_ _ _ H _ I h=>wpAny_Constant_int ⟨.int i,H,I.tok _,⟨_,rfl⟩,h⟩
def Uq{b j pos}:PE X (.Constant (.bool b) j pos) (tC (.bl b)):=λ_ _ _ H _ I h=>Constant_bool ⟨.bl b,H,I,rfl,h⟩
def vB{j pos}:PE X (.Constant .none j pos) (tC .DS):=λ_ _ _ H _ I h=>Constant_none ⟨.DS,H,I,rfl,h⟩
def QB{x j pos}:PE X (.Constant (.str x) j pos) (tC (.str x)):=λ_ _ _ H _ I h=>Calls.Constant_str ⟨.str x,H,I.tok _,⟨_,rfl⟩,h⟩
def Gl(X:Cx)(x:Str):Prop:=X.env.kindOf x=some .globalImplicit
def mH{s:Shared}{x:Str}{Q:gV}(I:Inv X DE EK H s)(f:Gl X x)(i:X.mg x=some u)(h:Q u s)
  (c:autoParam (GG x) r1_):wpAny (model X.prog X.w) X.A (eval (.Name x pos) X.env) Q E s:=
 me I.ok.kind f (Calls.loadGlobal_global (by rw[I.ok.glob];exact I.mod.glob.keeps I.bk) i h) c
def fB{s:Shared}{x:Str}{Q:gV}(I:Inv X DE EK H s)(f:Gl X x)(l:X.mg x=none)(c:bootBuiltins x=some u)(h:Q u s)
  (i:x ≠ "__name__" := by decide) (j:autoParam (GG x) r1_):wpAny (model X.prog X.w) X.A (eval (.Name x pos) X.env) Q E s:=by
 obtain⟨m,h1,h2⟩:=I.mod.blt;exact me I.ok.kind f (Calls.loadGlobal_builtin (by rw[I.ok.glob];exact I.mod.glob.keeps I.bk) l (by rw[I.ok.blt];exact h1.keeps I.bk) ((h2 x i).trans c) h) j
def jo{x:Str}{v:V}(c:Gl X x)(i:X.mg x=some u)(r:RelV v u)(f:autoParam (GG x) r1_):PE X (.Name x pos) (tC v):=
 λ_ _ _ H _ I h=>mH I c i ⟨v,H,I,r,h⟩ f
def Oe{x:Str}{v:V}(f:Gl X x)(l:X.mg x=none)(c:bootBuiltins x=some u)(r:RelV v u)(i:x ≠ "__name__" := by decide)(j:autoParam (GG x) r1_):PE X (.Name x pos) (tC v):=
 λ_ _ _ H _ I h=>fB I f l c ⟨v,H,I,r,h⟩ i j
def t2I(ta tb:TE)(k:Int->Int->Hp->Prop):St->Hp->Prop:=fun EK H=>ta EK H λx H1=>tb EK H1 λy H2=>∃i j,x=.int i/\y=.int j/\k i j H2
variable {a b:Expr}{ta tb:TE}{pos:Pos}
def PC(X:Cx)(op:CmpOp)(a b:Expr)(t:TE):Prop:=
 ∀(DE:oI) (s:Shared) (EK:St) (H:Hp) (Q:VK),Inv X DE EK H s->t EK H Q->
  wpAny (model X.prog X.w) X.A (eval a X.env) (λv EZ=>wpAny (model X.prog X.w) X.A (eval b X.env) (λu FC=>wpAny (model X.prog X.w) X.A (compareOp op v u) (EP X DE EK Q) X.xe FC) X.xe EZ) X.xe s
def J3(b:Expr)(h:op≠.In)(h2:op≠.NotIn):behindInMarks op b=false:=by
 have e1:(op == CmpOp.In)=false:=by cases op<;>first|rfl|exact absurd rfl h
 have e2:(op == CmpOp.NotIn)=false:=by cases op<;>first|rfl|exact absurd rfl h2
 cases b<;>simp[behindInMarks,e1,e2]
def QC(p:Int->Int->Bool)(ta tb:TE):TE:=fun EK H Q=>t2I ta tb (λi j H2=>Q (.bl (p i j)) H2) EK H
abbrev tGt:TE->TE->TE:=QC λi j=>decide (j<i)
def QD{p:Int->Int->Bool}(r:PE X a ta)(l:PE X b tb)
  (c:∀(i j:Int) (t u:Tok) (Q:gV) (s:Shared),Q (.bool (p i j)) s->wpAny (model X.prog X.w) X.A (compareOp op (.int i t) (.int j u)) Q X.xe s):PC X op a b (QC p ta tb):=by
 intro DE s EK H Q I h;refine bin r l I h λv u m x y H2 n z f q=>?_;obtain⟨i,j,rfl,rfl,q⟩:=q;obtain⟨t,rfl⟩:=z;obtain⟨t',rfl⟩:=f;exact c i j t t' _ m ⟨.bl _,H2,n,rfl,q⟩
def Ur(f:PE X a ta)(c:PE X b tb):PC X .Gt a b (tGt ta tb):=QD f c λ_ _ _ _ _ _ h=>gt_int h
def Vs(ta:TE):TE:=fun EK H Q=>ta EK H λx H1=>Q (.bl (decide (x=.DS))) H1
def RelV.S1{x:V}(r:RelV x v):(v == Value.none)=decide (x=.DS):=by
 cases x with
 |DS=>cases r;rfl
 |bl _=>cases r;rfl
 |int _=>obtain⟨t,rfl⟩:=r;rfl
 |str _=>obtain⟨t,rfl⟩:=r;rfl
 |QA _=>obtain⟨t,rfl⟩:=r;rfl
 |YD _=>obtain⟨t,rfl⟩:=r;rfl
 |ref _=>cases r;rfl
 |ty _=>cases r;rfl
def QF{j pos'}(f:PE X a ta):PC X .Is a (.Constant .none j pos') (Vs ta):=by
 intro DE s EK H Q I h;refine D8 (f DE s EK H _ I h) ?_;rintro v m ⟨x,H1,c,i,l⟩;exact Constant_none (is_none_gen ⟨.bl _,H1,c,by rw[i.S1];rfl,l⟩)
def tB(t:TE):TT:=fun EK H Q=>t EK H λx H1=>∃c,x=.bl c/\Q c H1
def pD{t:TE}(h:PC X op a b t)(h1:behindInMarks op b=false:=by first|exact J3 _ (by decide) (by decide)|rfl):PT X (.Compare a [op] [b] pos) (tB t):=by
 intro DE s EK H Q I j;refine wpAny_isTrue_Compare1 (D8 (h DE s EK H _ I j) λv m h1=>D8 h1 λu n h2=>D8 h2 ?_) h1;rintro c p ⟨x,H1,f,i,l⟩;obtain⟨d,rfl,q⟩:=l;cases i;exact g6 ⟨H1,f,q⟩
def vC{t:TE}(h:PE X e t)(i:autoParam (∀c,isTrue e X.env c=(do let v ←c;standAt e.pos;holding [v] (truthy v))) r5_):PT X e (tB t):=by
 intro DE s EK H Q I l;refine isTrue_plain (D8 (h DE s EK H _ I l) ?_) (i _);rintro v n ⟨x,H1,f,j,m⟩;obtain⟨d,rfl,q⟩:=m;cases j;exact g6 ⟨H1,f,q⟩
variable {tA tB':TT}{rest:rh}
def J4(t u:TT):TT:=fun EK H Q=>t EK H λc H1=>if c=true then u EK H1 Q else Q false H1
def tOr(t u:TT):TT:=fun EK H Q=>t EK H λc H1=>if c=true then Q true H1 else u EK H1 Q
def J5(t:TT):TT:=fun EK H Q=>t EK H λc H1=>Q (!c) H1
def Du(f:PT X a tA):PW X (.BoolOp .And [a] pos) tA:=by
 intro i DE s EK H Q I h;refine isTrue_and (D8 (f DE s EK H Q I h) λc j e=>?_);cases c with
 |true=>exact isTrue_and_nil e
 |false=>exact e
def Hq(f:PT X a tA):PW X (.BoolOp .Or [a] pos) tA:=by
 intro i DE s EK H Q I h;refine isTrue_or (D8 (f DE s EK H Q I h) λc j e=>?_);cases c with
 |false=>exact isTrue_or_nil e
 |true=>exact e
def Hr(l:PT X a tA)(m:PW X (.BoolOp .And (b::rest) pos) tB'):PW X (.BoolOp .And (a::b::rest) pos) (J4 tA tB'):=by
 intro j DE s EK H Q I h;refine isTrue_and (D8 (l DE s EK H _ I h) ?_);rintro c n ⟨H1,f,i⟩;cases c with
 |true=>exact m j DE n EK H1 Q f i
 |false=>exact⟨H1,f,i⟩
def M_(l:PT X a tA)(m:PW X (.BoolOp .Or (b::rest) pos) tB'):PW X (.BoolOp .Or (a::b::rest) pos) (tOr tA tB'):=by
 intro j DE s EK H Q I h;refine isTrue_or (D8 (l DE s EK H _ I h) ?_);rintro c n ⟨H1,f,i⟩;cases c with
 |true=>exact⟨H1,f,i⟩
 |false=>exact m j DE n EK H1 Q f i
def Hs(i:PT X a tA):PT X (.UnaryOp .Not a pos) (J5 tA):=by
 intro DE s EK H Q I h;exact isTrue_not (D8 (i DE s EK H (λc H1=>Q (!c) H1) I h) λ_ _ ⟨H1,f,j⟩=>⟨H1,f,j⟩)
def Us(ta tb:TE):TE:=fun EK H Q=>ta EK H λx H1=>∃c,x=.bl c/\if c=true then tb EK H1 Q else Q (.bl false) H1
def Vt(ta tb:TE):TE:=fun EK H Q=>ta EK H λx H1=>∃c,x=.bl c/\if c=true then Q (.bl true) H1 else tb EK H1 Q
def Ut(ta:TE):TE:=fun EK H Q=>ta EK H λx H1=>∃c,x=.bl c/\Q (.bl (!c)) H1
def Ht{op}{t:TE}(h:PE X a t):PE X (.BoolOp op [a] pos) t:=λDE s EK H Q I c=>BoolOp_one (h DE s EK H Q I c)
def QG(n:PE X a ta)(l:PE X (.BoolOp .And (b::rest) pos) tb):PE X (.BoolOp .And (a::b::rest) pos) (Us ta tb):=by
 intro DE s EK H Q I h;refine BoolOp_and (D8 (n DE s EK H _ I h) ?_);rintro v m ⟨x,H1,i,j,f⟩;obtain⟨c,rfl,f⟩:=f;cases j;refine g6 ?_;cases c with
 |true=>exact l DE m EK H1 Q i f
 |false=>exact⟨.bl false,H1,i,rfl,f⟩
def Nb(n:PE X a ta)(l:PE X (.BoolOp .Or (b::rest) pos) tb):PE X (.BoolOp .Or (a::b::rest) pos) (Vt ta tb):=by
 intro DE s EK H Q I h;refine BoolOp_or (D8 (n DE s EK H _ I h) ?_);rintro v m ⟨x,H1,i,j,f⟩;obtain⟨c,rfl,f⟩:=f;cases j;refine g6 ?_;cases c with
 |false=>exact l DE m EK H1 Q i f
 |true=>exact⟨.bl true,H1,i,rfl,f⟩
def QH(j:PE X a ta):PE X (.UnaryOp .Not a pos) (Ut ta):=by
 intro DE s EK H Q I h;refine UnaryOp_ (D8 (j DE s EK H _ I h) ?_);rintro v m ⟨x,H1,i,l,f⟩;obtain⟨c,rfl,f⟩:=f;cases l;exact not_of (g6 ⟨.bl (!c),H1,i,rfl,f⟩)
def tIf(t:TT)(ta tb:TE):TE:=fun EK H Q=>t EK H λc H1=>if c=true then ta EK H1 Q else tb EK H1 Q
def J6{c:Expr}(n:PT X c tA)(l:PE X a ta)(m:PE X b tb):PE X (.IfExp c a b pos) (tIf tA ta tb):=by
 intro DE s EK H Q I h;refine wpAny_IfExp (D8 (n DE s EK H _ I h) ?_);rintro d j ⟨H1,f,i⟩;cases d with
 |true=>exact l DE j EK H1 Q f i
 |false=>exact m DE j EK H1 Q f i
end
def EJ(K:W.Frag)(H:Hp)(a:Addr)(xs:sx):Prop:=
 Rd H a (.lst xs) \/
  ∃(o:Obj) (DL:rV) (n:Nat),K.lookup a=some o/\o.cls=.type "list" /\ o.dict=none/\o.data=.seq DL n/\DL.size<=sizeLine/\Vals xs DL.toList
def F0(K:W.Frag)(H:Hp)(a:Addr)(xs:sx):Prop:=
 Rd H a (.tup xs) \/
  ∃(o:Obj) (DL:rV) (n:Nat),K.lookup a=some o/\o.cls=.type "tuple" /\ o.data=.seq DL n/\(DL.size<=sizeLine/\o.dict=none)/\Vals xs DL.toList
noncomputable def QJ:Value->Option V
 |.none=>some .DS
 |.bool b=>some (.bl b)
 |.int i _=>some (.int i)
 |.str x _=>some (.str x)
 |.bytes b _=>some (.QA b)
 |.float b _=>some (.YD b)
 |.ref a=>some (.ref a)
 |.type n=>some (.ty n)
 |_=>none
def RelV.abs{x:V}(r:RelV x u):QJ u=some x:=by
 cases x with
 |DS=>cases r;rfl
 |bl _=>cases r;rfl
 |int _=>obtain⟨t,rfl⟩:=r;rfl
 |str _=>obtain⟨t,rfl⟩:=r;rfl
 |QA _=>obtain⟨t,rfl⟩:=r;rfl
 |YD _=>obtain⟨t,rfl⟩:=r;rfl
 |ref _=>cases r;rfl
 |ty _=>cases r;rfl
def RelV.inj{x y:V}(r:RelV x u)(q:RelV y u):x=y:=bq (r.abs.symm.trans q.abs)
theorem Vals.inj:∀{xs ys:sx}{us:re},Vals xs us->Vals ys us->xs=ys
 |_,_,_,.nil,.nil=>rfl
 |_,_,_,.cons r t,.cons r' t'=>by rw[r.inj r',Vals.inj t t']
section
variable {X:Cx}{DE:oI}{EK:St}{H:Hp}{s:Shared}{a:Addr}{xs ys:sx}
def EJ.of(h:H a=some (.lst xs)):EJ K H a xs:=.inl (.inl h)
def F0.of(h:H a=some (.tup xs)):F0 K H a xs:=.inl (.inl h)
def Inv.list(I:Inv X DE EK H s)(h:EJ X.K H a xs):∃c:List Value,Vals xs c/\PlainL s.heap a c.toArray/\xs.length<=sizeLine:=by
 rcases h with h|⟨o,c,n,hk,hc,hd,hs,hz,r⟩
 ·obtain⟨z,c,n,r,e⟩:=h.ok I.DV
  exact⟨c,r,⟨_,n,e,rfl,rfl,rfl⟩,z⟩
 ·refine⟨c.toList,r,⟨o,n,I.HI a o hk,hc,hd,by simpa using hs⟩,?_⟩
  have e:=r.length;simp only[gt]at e;omega
def Inv.tuple(I:Inv X DE EK H s)(h:F0 X.K H a xs):∃c:List Value,Vals xs c/\IsTup s.heap a c.toArray/\xs.length<=sizeLine:=by
 rcases h with h|⟨o,c,n,hk,hc,hs,hz,r⟩
 ·obtain⟨z,c,r,p⟩:=h.ok I.DV
  exact⟨c,r,p.tup,z⟩
 ·refine⟨c.toList,r,⟨o,I.HI a o hk,hc,n,by simpa using hs⟩,?_⟩
  have e:=r.length;simp only[gt]at e;omega
def Inv.NM(I:Inv X DE EK H s)(h:EJ X.K H a xs)(h':EJ X.K H a ys):xs=ys:=by
 obtain⟨f,r,⟨o,n,e,_,_,d⟩,_⟩:=I.list h;obtain⟨its',i,⟨o',j,c,_,_,d'⟩,_⟩:=I.list h';rw[e]at c;cases c;rw[d]at d';injection d' with d1 _;have:f=its':=by simpa using iA Array.toList d1
 subst this;exact r.inj i
def Inv.MA(I:Inv X DE EK H s)(h:F0 X.K H a xs)(h':F0 X.K H a ys):xs=ys:=by
 obtain⟨f,r,⟨o,e,_,n,d⟩,_⟩:=I.tuple h;obtain⟨its',i,⟨o',c,_,j,d'⟩,_⟩:=I.tuple h';rw[e]at c;cases c;rw[d]at d';injection d' with d1 _;have:f=its':=by simpa using iA Array.toList d1
 subst this;exact r.inj i
end
abbrev Cx.HK(X:Cx)(E:gV):Cx:={X with xe:=E}
abbrev Cx.LV(X:Cx):Cx:=X.HK λ_ _=>False
def Cx.Ok.HK{X:Cx}(ok:X.Ok)(E:gV):(X.HK E).Ok:=
 ⟨ok.mod,ok.kind,ok.glob,ok.blt,ok.above,ok.inj,ok.has,ok.ZR,ok.hd,ok.frames,ok.stk,ok.exf,ok.bs,ok.WZ,ok.QI,ok.SY,ok.IT,ok.X3⟩
def Cx.Ok.unwish{X:Cx}(ok:(X.HK E).Ok):X.Ok:=
 ⟨ok.mod,ok.kind,ok.glob,ok.blt,ok.above,ok.inj,ok.has,ok.ZR,ok.hd,ok.frames,ok.stk,ok.exf,ok.bs,ok.WZ,ok.QI,ok.SY,ok.IT,ok.X3⟩
section
variable {X:Cx}{DE:oI}{EK:St}{H:Hp}{s:Shared}{E:gV}
def Inv.HK(I:Inv X DE EK H s)(E:gV):Inv (X.HK E) DE EK H s:=⟨I.ok.HK E,I.os,I.bare,I.base,I.loc,I.cell,I.free,I.FE,I.pin,I.DV,I.len⟩
def Inv.unwish(I:Inv (X.HK E) DE EK H s):Inv X DE EK H s:=⟨I.ok.unwish,I.os,I.bare,I.base,I.loc,I.cell,I.free,I.FE,I.pin,I.DV,I.len⟩
def SP.unwish{D:Ends}{f:Flow}{i:Shared}(h:SP (X.HK E) DE D f i):SP X DE D f i:=by
 cases f with
 |next=>obtain⟨c,H',I,q⟩:=h;exact⟨c,H',I.unwish,q⟩
 |brk=>obtain⟨c,H',I,q⟩:=h;exact⟨c,H',I.unwish,q⟩
 |cont=>obtain⟨c,H',I,q⟩:=h;exact⟨c,H',I.unwish,q⟩
 |ret u=>obtain⟨v,c,H',I,r,q⟩:=h;exact⟨v,c,H',I.unwish,r,q⟩
def FX.LV{st:rg}{t:TS}(h:FX X.LV st t):FX X st t:=λDE s EK H D I c=>
 cS (h DE s EK H D (I.HK _) c) (λ_ _ q=>q.unwish) λ_ _ z=>False.elim z
end
section
variable {X:Cx}{st:Stmt}{rest:rg}{t u:TS}{e:Expr}{te:TE}{pos:Pos}
def gB:TS:=λD EK H=>D.nx EK H
def bG(t u:TS):TS:=λD EK H=>t {D with nx:=u D} EK H
def gZ:FX X [] gB:=λ_ _ EK H _ I h=>kz ⟨EK,H,I,h⟩
def aP(h1:PS X st t)(h2:FX X rest u):FX X (st::rest) (bG t u):=by
 intro DE s EK H D I h;refine k8 (D8 (h1 DE s EK H {D with nx:=u D} I h) λf j q=>?_);cases f with
 |next=>
  obtain⟨i,H',c,q⟩:=q;exact h2 DE j i H' D c q
 |ret v=>exact q
 |brk=>exact q
 |cont=>exact q
def bH(h1:PS X st t):FX X [st] t:=by
 intro DE s EK H D I h;refine k8 (D8 (h1 DE s EK H D I h) λf c q=>?_);cases f with
 |next=>exact kz q
 |ret v=>exact q
 |brk=>exact q
 |cont=>exact q
def Inv.quiet{s:Shared}(I:Inv X DE EK H s):interactive X.env=false:=by simp[interactive,I.ok.kind]
def kJ(te:TE):TS:=λD EK H=>te EK H λ_ H1=>D.nx EK H1
def g_(f:PE X e te)(j:autoParam (swapsWith e none pos.line X.env=pure false) r0_):PS X (.Expr e pos) (kJ te):=by
 intro DE s EK H D I h;exact wpAny_Expr_any (D8 (f DE s EK H _ I h) λv m ⟨x,H1,c,l,i⟩=>⟨EK,H1,c,i⟩) I.quiet j
def d9(te:TE):TS:=λD EK H=>te EK H D.rt
def eN(f:PE X e te):PS X (.Return (some e) pos) (d9 te):=by
 intro DE s EK H D I h;exact wpAny_Return_some (D8 (f DE s EK H _ I h) λv l ⟨x,H1,c,i,j⟩=>⟨x,EK,H1,c,i,j⟩)
def iC(c:TT)(t u:TS):TS:=λD EK H=>c EK H λb H1=>if b=true then t D EK H1 else u D EK H1
def kO{c:Expr}{a b:rg}{l:TT}(n:PT X c l)(p:FX X a t)(m:FX X b u):PS X (.If c a b pos) (iC l t u):=by
 intro DE s EK H D I h;refine wpAny_If (D8 (n DE s EK H _ I h) ?_);rintro d i ⟨H1,f,j⟩;cases d with
 |true=>exact p DE i EK H1 D f j
 |false=>exact m DE i EK H1 D f j
def Hu:TS:=λ_ _ _=>False
def J7:PS X st Hu:=λ_ _ _ _ _ _ h=>h.elim
def rK{c:rg}:FX X c Hu:=λ_ _ _ _ _ _ h=>h.elim
end
abbrev TG:=V->St->Hp->(St->Hp->Prop)->Prop
abbrev X8:=List V->St->Hp->(St->Hp->Prop)->Prop
def PG(X:Cx)(target:Expr)(t:TG):Prop:=
 ∀(DE:oI) (s:Shared) (EK:St) (H:Hp) (v:V) (u:Value) (Q:St->Hp->Prop),Inv X DE EK H s->RelV v u->t v EK H Q->
  wpAny (model X.prog X.w) X.A (assign target X.env u) (λ_ s'=>∃ EU H',Inv X DE EU H' s'/\Q EU H') X.xe s
def W7(X:Cx)(ts:rh)(t:X8):Prop:=
 ∀(DE:oI) (s:Shared) (EK:St) (H:Hp) (vs:sx) (us:re) (Q:St->Hp->Prop),Inv X DE EK H s->Vals vs us->t vs EK H Q->
  wpAny (model X.prog X.w) X.A (assignInOrder ((assignEach ts X.env).map (·.2)) us) (λ_ s'=>∃ EU H',Inv X DE EU H' s'/\Q EU H') X.xe s
abbrev J8:=V->V->V->Hp->(Hp->Prop)->Prop
def QK(X:Cx)(t:J8):Prop:=
 ∀(DE:oI) (s:Shared) (EK:St) (H:Hp) (o i v:V) (ov iv u:Value) (Q:Hp->Prop),Inv X DE EK H s->RelV o ov->RelV i iv->RelV v u->t o i v H Q->
  wpAny (model X.prog X.w) X.A (setItem ov iv u) (λ_ s'=>∃H',Inv X DE EK H' s'/\Q H') X.xe s
section
variable {X:Cx}{pos:Pos}
def aW(i:Nat):TG:=λv EK H Q=>Q (EK.set i (some v)) H
def cX{i:Nat}{x:Str}(l:X.N.Nodup)(j:X.N[i]?=some x)(f:Loc X.env.scope x)(c:autoParam (QE X x) r3_):PG X (.Name x pos) (aW i):=by
 intro DE s EK H v u Q I r h;exact wpAny_assign_Name (uH I l j f r (λn m=>⟨_,H,m,h⟩) c)
def zL:X8:=λvs EK H Q=>vs=[]/\Q EK H
inductive IU(t:TG)(u:X8)(vs:sx)(EK:St)(H:Hp)(Q:(St->Hp->Prop)):Prop
 |mk (v:_) (r:_) (h0:vs=v::r) (h1:t v EK H fun EU H'=>u r EU H' Q):IU t u vs EK H Q
def jL:W7 X [] zL:=by
 intro DE s EK H vs us Q I r h;obtain⟨e,h⟩:=h;subst e;cases r;exact assignInOrder_nil ⟨EK,H,I,h⟩
def cY{es:rh}{t:TG}{u:X8}(h1:PG X e t)(h2:W7 X es u)
  (j:autoParam ((assignEach (e::es) X.env).map (·.2)=assign e X.env::(assignEach es X.env).map (·.2)) r0_):W7 X (e::es) (IU t u):=by
 intro DE s EK H vs us Q I r h;obtain⟨v,n,e1,h⟩:=h;subst e1;cases r with
 |cons r m=>
  rw[j];refine assignInOrder_cons (D8 (h1 DE s EK H _ _ _ I r h) ?_);rintro _ i ⟨f,H1,c,l⟩;exact h2 DE i f H1 _ _ Q c m l
inductive QN(K:W.Frag)(n:Nat)(t:X8)(v:V)(EK:St)(H:Hp)(Q:(St->Hp->Prop)):Prop
 |mk (a:_) (xs:_) (h0:v=.ref a) (h1:F0 K H a xs) (h2:xs.length=n) (h3:t xs EK H Q):QN K n t v EK H Q
def mL{es:rh}{k:Nat}{t:X8}{n:Nat}(q:X.calm=true)(h:W7 X es t)
  (y:autoParam ((assignEach es X.env).length=n) r0_) (j:autoParam ((assignEach es X.env).findIdx? (·.1)=none) r0_):PG X (.Tuple es k pos) (QN X.K n t):=by
 intro DE s EK H v u Q I r c;obtain⟨a,xs,e1,p,z,c⟩:=c;subst e1;cases r;obtain⟨B,f,m,hz⟩:=I.tuple p;refine assign_Tuple_tuple (I.ok.hd q) m (by simp[y,←z,f.length]) j λh' l=>?_;have i:Inv X DE EK H {s with heap:=h'}:=I.kept (t':=s.toks) λb o e=>l b o (bP (ar e)) e;exact h DE _ EK H xs _ Q i (by simpa using f) c
def Vu(to ti:TE)(t:J8):TG:=λv EK H Q=>to EK H λo H1=>ti EK H1 λi H2=>t o i v H2 λH3=>Q EK H3
def QL{o i:Expr}{l j:TE}{t:J8}(B:PE X o l)(z:PE X i j)(q:QK X t)
  (N:∀v,assign (.Subscript o i pos) X.env v=(do
   let c ←holding [v] (eval o X.env)
   let f ←holding [v,c] (eval i X.env)
   standAt pos
   holding [v,c,f] (setItem c f v)
   release [v,c,f] []):=by intro _;rfl):PG X (.Subscript o i pos) (Vu l j t):=by
 intro DE s EK H v u Q I r h;rw[N];refine ac (eD (D8 (B DE s EK H _ I h) ?_));rintro c p ⟨x,H1,G,n,O⟩;refine ac (eD (D8 (z DE p EK H1 _ G O) ?_));rintro f J ⟨y,H2,L,m,D⟩;refine ac (qr (ac (eD (D8 (q DE J EK H2 x y v c f u _ L n m r D) ?_))));rintro _ T ⟨F,M,C⟩;exact wpAny_release ⟨EK,F,M,C⟩
def cG(te:TE)(g:TG):TS:=λD EK H=>te EK H λx H1=>g x EK H1 D.nx
def QM{tg:Expr}{te:TE}{g:TG}(i:PE X e te)(f:PG X tg g)(p:autoParam (swapsWithSole [tg] e pos.line X.env=pure false) r0_)(m:autoParam (swappedStores [tg] e X.env=pure none) r0_)
  (h1:autoParam ((assignEach [tg] X.env).map (·.2)=[assign tg X.env]) r0_):PS X (.Assign [tg] e pos) (cG te g):=by
 intro DE s EK H D I h;refine wpAny_Assign_stores (D8 (i DE s EK H _ I h) ?_) p m;rintro v n ⟨x,H1,c,j,y⟩;rw[h1];exact D8 (f DE n EK H1 x v _ c j y) λ_ z ⟨l,H',r,q⟩=>⟨l,H',r,q⟩
def cz{i:Nat}{x:Str}{te:TE}{pos':Pos}(r:X.N.Nodup)(p:X.N[i]?=some x)(l:Loc X.env.scope x)(j:PE X e te)(n:autoParam (swapsWith e (some (.Name x pos')) pos.line X.env=pure false) r0_)(f:autoParam (QE X x) r3_):
  PS X (.Assign [.Name x pos'] e pos) (cG te (aW i)):=by
 intro DE s EK H D I h;refine wpAny_Assign_Name (D8 (j DE s EK H _ I h) ?_) n;rintro v B ⟨y,H1,c,m,z⟩;exact uH c r p l m (λC q=>⟨_,H1,q,z⟩) f
end
section
variable {X:Cx}{pos:Pos}
def Hv(c:TT)(tb:TS):TS:=λD EK H=>∃W:Nat->St->Hp->Prop,(∃m,W m EK H)/\∀m EK H,W m EK H->
 c EK H λb H1=>if b=true then ∃N:St->Hp->Prop,(∀ EU H',N EU H'->∃m',m'<m/\W m' EU H')/\tb {D with nx:=N,ct:=N,bk:=D.nx} EK H1 else D.nx EK H1
def zM{c:Expr}{body:rg}{J:TT}{tb:TS}(C:PassesOwn (model X.prog X.w) X.A X.env X.xe)(Z:PT X c J)(M:FX X body tb):PS X (.While c body [] pos) (Hv J tb):=by
 intro DE s EK H D I h;obtain⟨W,⟨m0,L⟩,turn⟩:=h;refine wpAny_While (codeAny_whileLoop (λn Y=>∃ EU H',Inv X DE EU H' Y/\W n EU H') ?_ m0 ⟨EK,H,I,L⟩);rintro n O ⟨p,H1,U,T⟩;refine gI C (D8 (Z DE O p H1 _ U (turn n p H1 T)) ?_);rintro b s2 ⟨H2,F,m⟩;cases b with
 |true=>
  obtain⟨N,G,m⟩:=m;rw[bX rfl];refine gI C (D8 (M DE s2 p H2 _ F m) λf s3 l=>?_);cases f with
  |next=>
   obtain⟨i,j,z,q⟩:=l;obtain⟨B,r,y⟩:=G i j q;exact⟨B,r,i,j,z,y⟩
  |cont=>
   obtain⟨i,j,z,q⟩:=l;obtain⟨B,r,y⟩:=G i j q;exact⟨B,r,i,j,z,y⟩
  |brk=>exact l
  |ret v=>exact l
 |false=>
  rw[bt bi];exact kz ⟨p,H2,F,m⟩
end
structure It where
 go:Nat->Hp->Prop
 S2:Nat->Hp->V->Hp->Prop
 stop:Nat->Hp->Prop
def jM(X:Cx)(DE:oI)(H:Hp)(b:Addr):Prop:=
 H b=none/\b≠X.env.locals/\b∉X.fs/\(b∈X.ex\/X.s₀.heap.objs.size<=b)/\(∀x c,X.env.cells.lookup x=some c->c≠b)/\∀p∈X.pn++DE,p.1≠b
def Inv.OG{X:Cx}{H':Hp}{s:Shared}(I:Inv X DE EK H s)(f:s.heap.objs.size<=b)(j:H' b=none):jM X DE H' b:=by
 refine⟨j,dy (bS I.lt f),I.nofs f,.inr (df I.sz f),λx c e z=>?_,λp i z=>?_⟩
 ·obtain⟨v,q⟩:=I.cell x c e
  exact absurd (bS q.lt (by rw[z];exact f)) (fg _)
 ·exact absurd (bS (ar (I.pin p i).1) (by rw[z];exact f)) (fg _)
structure Turn(P:Program)(w:World)(K:W.Frag)(tg:Expr)(J:It)(fp:rS)(it:Addr)(tn:Nat->Heap->Prop):Prop where
 mem:it∈fp
 obj:∀i h,tn i h->∀b∈fp,∃o,h.get? b=some o/\∀v,o.data≠.cell v
 keep:∀i h h',tn i h->(∀b∈fp,∀o,h.get? b=some o->h'.get? b=some o)->tn i h'
 item:∀(X:Cx),X.prog=P->X.w=w->X.K=K->X.calm=true->∀(i:Nat) (DE:oI) (s:Shared) (EK:St) (H:Hp) (E:gV),Inv X DE EK H s->(∀b∈fp,jM X DE H b)->tn i s.heap->J.go i H->
  wpAny (model P w) X.A (pyNext (.ref it)) (λr s1=>∃u,r=some u /\
   wpAny (model P w) X.A (letOwnedTupleGo tg (.ref it) u) (λ_ s2=>∃x H',Inv X DE EK H' s2/\RelV x u/\J.S2 i H x H'/\tn (i+1) s2.heap/\∀b∈fp,H' b=none) E s1) E s
 done:∀(X:Cx),X.prog=P->X.w=w->X.K=K->X.calm=true->∀(i:Nat) (DE:oI) (s:Shared) (EK:St) (H:Hp) (E:gV),Inv X DE EK H s->(∀b∈fp,jM X DE H b)->tn i s.heap->J.stop i H->
  wpAny (model P w) X.A (pyNext (.ref it)) (λr s1=>r=none/\Inv X DE EK H s1) E s
 self:∀(A:Around) (i:Nat) (s:Shared) (Q:gV) (E:gV),tn i s.heap->Q (.ref it) s->wpAny (model P w) A (pyIter (.ref it)) Q E s
abbrev TI:=St->Hp->(It->Hp->Prop)->Prop
def PIE(X:Cx)(DE:oI)(EK:St)(tg:Expr)(R:It->Hp->Prop)(itv:Value)(s2:Shared):Prop:=
 ∃(it:Addr) (fp:rS) (tn:Nat->Heap->Prop) (J:It) (H':Hp),itv=.ref it/\Inv X DE EK H' s2/\Turn X.prog X.w X.K tg J fp it tn/\tn 0 s2.heap/\(∀b∈fp,jM X DE H' b)/\R J H'
def PI(X:Cx)(tg iter:Expr)(wi:TI):Prop:=
 ∀(DE:oI) (s:Shared) (EK:St) (H:Hp) (R:It->Hp->Prop),Inv X DE EK H s->wi EK H R->
  wpAny (model X.prog X.w) X.A (eval iter X.env) (λv s1=>wpAny (model X.prog X.w) X.A (pyIter v) (PIE X DE EK tg R) X.xe s1) X.xe s
def zf{M:Model}{s:Shared}{tg:Expr}{it:Addr}{o:Obj}{n:String}{vs:rV}(f:s.heap.get? it=some o)(i:o.cls=.type n)(l:o.data=.fields vs)
    (j:["enumerate","zip","dict_itemiterator","dict_reverseitemiterator","odict_iterator","itertools.zip_longest","itertools.pairwise"].contains n=false) (c:Q () s):wpAny M A (letOwnedTupleGo tg (.ref it) u) Q E s:=by
  unfold letOwnedTupleGo;cases tg<;>first
    |exact al c
    | (cases u <;> first
        |exact al c
        | (refine ac (wpAny_load f ?_)
           rw[i,l];show wpAny M A (if(["enumerate","zip","dict_itemiterator","dict_reverseitemiterator","odict_iterator","itertools.zip_longest","itertools.pairwise"].contains n&&vs[0]? == some (rawInt _))=true then _ else _) Q E s;rw[bt (by intro h;rw[j,Bool.false_and]at h;cases h)];exact al c))
def Xj(K:W.Frag)(a:Addr):It:=
 ⟨λi H=>∃xs x,EJ K H a xs/\xs[i]?=some x,λi H x H'=>H'=H/\∀xs,EJ K H a xs->xs[i]?=some x,λi H=>∃xs,EJ K H a xs/\xs.length<=i⟩
def Xk(K:W.Frag)(a:Addr):It:=
 ⟨λi H=>∃xs x,F0 K H a xs/\xs[i]?=some x,λi H x H'=>H'=H/\∀xs,F0 K H a xs->xs[i]?=some x,λi H=>∃xs,F0 K H a xs/\xs.length<=i⟩
def Sk(lo:Int)(n:Nat):It:=⟨λi _=>i<n,λi H x H'=>H'=H/\x=.int (lo+i),λi _=>n<=i⟩
def Hw{tg:Expr}(a it:Addr):Turn P w K tg (Xj K a) [it] it (λi h=>h.IsListIter it a i) where
 mem:=by simp
 obj:=λi h st b f=>by
  have e:b=it:=by simpa using f
  subst e;obtain⟨o,e,c,d⟩:=st;exact⟨o,e,λv z=>by rw[d]at z;cases z⟩
 keep:=λi h h' st k=>st.at λo e=>k it (by simp) o e
 item:=by
  intro X G m B L i DE s EK H E I l st D;subst G m B;obtain⟨xs,x,j,F⟩:=D;obtain⟨O,q,p,hz⟩:=I.list j;obtain⟨u,T,Z⟩:=q.get F;obtain⟨n,y,U,J,r,C⟩:=l it (by simp);refine wpAny_pyNext_list_item st p.isList (x:=u) (by simpa using T) λh' M sb=>?_;have Y:Inv X DE EK H {s with heap:=h'}:=I.turned (t':=s.toks) (λb o f e=>(sb.2 b f).trans e) n y J r C;obtain⟨o,e,c,d⟩:=id M;exact⟨u,rfl,zf (s:={s with heap:=h'}) e c d (by decide) ⟨x,H,Y,Z,⟨rfl,λys hy=>by rw[I.NM hy j];exact F⟩,M,λb f=>(l b f).1⟩⟩
 done:=by
  intro X G m B L i DE s EK H E I l st D;subst G m B;obtain⟨xs,j,F⟩:=D;obtain⟨O,q,p,hz⟩:=I.list j;obtain⟨n,y,U,J,r,C⟩:=l it (by simp);have hl:=q.length;exact wpAny_pyNext_list_end (I.ok.hd L) st p.isList (by simp;omega) λh' N=>⟨rfl,I.turned (t':=s.toks) (λb o f e=>N b o f e) n y J r C⟩
 self:=λ_ _ _ _ _ st h=>wpAny_pyIter_listiter st h
def Fb{tg:Expr}(a it:Addr):Turn P w K tg (Xk K a) [it] it (λi h=>h.IsTupleIter it a i) where
 mem:=by simp
 obj:=λi h st b f=>by
  have e:b=it:=by simpa using f
  subst e;obtain⟨o,e,c,d⟩:=st;exact⟨o,e,λv z=>by rw[d]at z;cases z⟩
 keep:=λi h h' st k=>st.at λo e=>k it (by simp) o e
 item:=by
  intro X J n C M i DE s EK H E I l st F;subst J n C;obtain⟨xs,x,j,G⟩:=F;obtain⟨m,r,p,hz⟩:=I.tuple j;obtain⟨u,T,Z⟩:=r.get G;obtain⟨q,B,U,L,y,D⟩:=l it (by simp);refine nV st (show s.heap.IsTuple a m.toArray from p) (x:=u) (by simpa using T) λh' N sb=>?_;have Y:Inv X DE EK H {s with heap:=h'}:=I.turned (t':=s.toks) (λb o f e=>(sb.2 b f).trans e) q B L y D;obtain⟨o,e,c,d⟩:=id N;exact⟨u,rfl,zf (s:={s with heap:=h'}) e c d (by decide) ⟨x,H,Y,Z,⟨rfl,λys hy=>by rw[I.MA hy j];exact G⟩,N,λb f=>(l b f).1⟩⟩
 done:=by
  intro X J n C M i DE s EK H E I l st F;subst J n C;obtain⟨xs,j,G⟩:=F;obtain⟨m,r,p,hz⟩:=I.tuple j;obtain⟨q,B,U,L,y,D⟩:=l it (by simp);have hl:=r.length;exact wpAny_pyNext_tuple_end (I.ok.hd M) st (show s.heap.IsTuple a m.toArray from p) (by simp;omega) λh' O=>⟨rfl,I.turned (t':=s.toks) (λb o f e=>O b o f e) q B L y D⟩
 self:=λ_ _ _ _ _ st h=>wpAny_pyIter_tupleiter st h
def Fd{tg:Expr}(it:Addr)(lo:Int)(n:Nat):Turn P w K tg (Sk lo n) [it] it (λi h=>IsRangeIter h it (lo+(i:Nat)*1) ((n:Int) - (i:Nat)) 1) where
 mem:=by simp
 obj:=λi h st b c=>by
  have e:b=it:=by simpa using c
  subst e;exact⟨_,st,λv z=>by
   have J:Data.fields _=Data.cell v:=z;cases J⟩
 keep:=λi h h' st k=>k it (by simp) _ st
 item:=by
  intro X C j q B i DE s EK H E I f st y;subst C j q;obtain⟨l,p,N,D,m,r⟩:=f it (by simp);have W:=Walks.range (prog:=X.prog) (w:=X.w) (I.ok.hd B) it lo 1 n;refine W.item i s _ _ y st λv h' F M G T=>?_;obtain⟨t,rfl⟩:=M;have O:Inv X DE EK H {s with heap:=h',toks:=F}:=I.turned (λb o c e=>T b o (by simpa using c) e) l p D m r;refine⟨_,rfl,zf (s:={s with heap:=h',toks:=F}) (n := "range_iterator") G rfl rfl (by decide) ⟨.int (lo+i),H,O,⟨t,?_⟩,⟨rfl,rfl⟩,G,λb c=>(f b c).1⟩⟩;rw[Int.mul_one]
 done:=by
  intro X C j q B i DE s EK H E I f st y;subst C j q;obtain⟨l,p,N,D,m,r⟩:=f it (by simp);exact wpAny_pyNext_range_end (I.ok.hd B) st (by have:n<=i:=y;omega) λh' L=>⟨rfl,I.turned (t':=s.toks) (λb o c e=>L b o c e) l p D m r⟩
 self:=λ_ _ _ _ _ st h=>wpAny_pyIter_rangeiter st h
section
variable {X:Cx}{tg:Expr}
def vD(K:W.Frag)(tl:TE):TI:=fun EK H R=>tl EK H λx H1=>∃a,x=.ref a/\(∃xs,EJ K H1 a xs)/\R (Xj K a) H1
def Fe(K:W.Frag)(tl:TE):TI:=fun EK H R=>tl EK H λx H1=>∃a,x=.ref a/\(∃xs,F0 K H1 a xs)/\R (Xk K a) H1
def tL{l:Expr}{i:TE}(y:PE X l i):PI X tg l (vD X.K i):=by
 intro DE s EK H R I h;refine D8 (y DE s EK H _ I h) ?_;rintro v f ⟨x,H1,c,j,r⟩;obtain⟨a,e,⟨xs,n⟩,q⟩:=r;subst e;cases j;obtain⟨z,B,p,hz⟩:=c.list n;refine fA p.isList ?_;refine⟨f.heap.objs.size,[f.heap.objs.size],_,_,H1,rfl,c.kept (t':=f.toks) λb o e=>ae _ e,Hw a _,⟨_,av _ rfl,rfl,rfl⟩,λb m=>?_,q⟩;have e:b=f.heap.objs.size:=by simpa using m
 subst e;exact c.OG (ax _) (c.DV.fresh (ax _))
def zN{l:Expr}{i:TE}(z:PE X l i):PI X tg l (Fe X.K i):=by
 intro DE s EK H R I h;refine D8 (z DE s EK H _ I h) ?_;rintro v c ⟨x,H1,f,m,y⟩;obtain⟨a,e,⟨xs,r⟩,q⟩:=y;subst e;cases m;obtain⟨j,B,p,hz⟩:=f.tuple r;refine eW (show c.heap.IsTuple a j.toArray from p) ?_;refine⟨c.heap.objs.size,[c.heap.objs.size],_,_,H1,rfl,f.kept (t':=c.toks) λb o e=>ae _ e,Fb a _,⟨_,av _ rfl,rfl,rfl⟩,λb n=>?_,q⟩;have e:b=c.heap.objs.size:=by simpa using n
 subst e;exact f.OG (ax _) (f.DV.fresh (ax _))
def zO{s:Shared}{R:It->Hp->Prop}{lo c:Int}{t u v:Tok}{i:Nat}(I:Inv X DE EK H s)(h1:-(2 ^ 62)<=lo)(h2:lo<2 ^ 62)(m:-(2 ^ 62)<=c)(j:c<2 ^ 62)
  (q:R (Sk lo (c - lo).toNat) H):wpAny (model X.prog X.w) X.A (pyIter (.ref s.heap.objs.size)) (PIE X DE EK tg R) E {s with heap:=s.heap.push {cls:=.type "range",data:=.fields #[.int lo t,.int c u,.int 1 v]},toks:=i}:=by
 refine wpAny_pyIter_range (IsRange.new ..) (small_one h1 h2 m j) ?_;have f:Inv X DE EK H {s with heap:=s.heap.push {cls:=.type "range",data:=.fields #[.int lo t,.int c u,.int 1 v]},toks:=i}:=I.kept λb o e=>ae _ e;refine⟨(s.heap.push {cls:=.type "range",data:=.fields #[.int lo t,.int c u,.int 1 v]}).objs.size,[(s.heap.push {cls:=.type "range",data:=.fields #[.int lo t,.int c u,.int 1 v]}).objs.size],_,_,H,rfl,
  f.kept (t':=i) λb o e=>ae _ e,Fd _ lo (c - lo).toNat,?_,λb l=>?_,q⟩
 ·have e1:lo+((0:Nat):Int)*1=lo:=by simp
  have e2:(((c - lo).toNat:Nat):Int) - ((0:Nat):Int)=Builtin.Range.rangeSize lo c 1:=by rw[qv];split<;>omega
  show IsRangeIter _ _ (lo+((0:Nat):Int)*1) ((((c - lo).toNat:Nat):Int) - ((0:Nat):Int)) 1;rw[e1,e2];exact av _ rfl
 ·have e:b=(s.heap.push {cls:=.type "range",data:=.fields #[.int lo t,.int c u,.int 1 v]}).objs.size:=by simpa using l
  subst e;exact f.OG (ax _) (f.DV.fresh (ax _))
def vG(ta:TA):TI:=fun EK H R=>ta EK H λvs H1=>∃j:Int,vs=[.int j]/\-(2 ^ 62)<=j/\j<2 ^ 62/\R (Sk 0 j.toNat) H1
def Uu(ta:TA):TI:=fun EK H R=>ta EK H λvs H1=>∃i j:Int,vs=[.int i,.int j]/\(-(2 ^ 62)<=i/\i<2 ^ 62/\-(2 ^ 62)<=j/\j<2 ^ 62)/\R (Sk i (j - i).toNat) H1
def rM{a:Expr}{ta:TA}{p:Pos}(l:Gl X "range")(y:X.mg "range" = none)(z:PA X [a] ta)(n:autoParam (starEach [a] X.env=[(false,eval a X.env)]) r0_):PI X tg (.Call (.Name "range" p) [a] [] pos) (vG ta):=by
 intro DE s EK H R I h;refine Call_ (fB I l y boot_range (cf (D8 (z pos DE s EK H _ I h) ?_) n rfl));rintro us C ⟨vs,H1,i,m,c⟩;obtain⟨j,e,c,f,q⟩:=c;subst e;cases m with
 |cons r B=>
  cases B;obtain⟨t,rfl⟩:=r;exact call_range_1 (zO i (by omega) (by omega) c f (by simpa using q))
def Hx{a b:Expr}{ta:TA}{p:Pos}(y:Gl X "range")(C:X.mg "range" = none)(F:PA X [a,b] ta)(B:autoParam (starEach [a,b] X.env=[(false,eval a X.env),(false,eval b X.env)]) r0_)(l:autoParam (starEach [b] X.env=[(false,eval b X.env)]) r0_):
  PI X tg (.Call (.Name "range" p) [a,b] [] pos) (Uu ta):=by
 intro DE s EK H R I h;refine Call_ (fB I y C boot_range (cf (D8 (F pos DE s EK H _ I h) λus L ⟨vs,H1,n,z,f⟩=>?_) (by rw[B,l]) (by rw[l];rfl)));obtain⟨i,j,e,⟨f,m,G,J⟩,q⟩:=f;subst e;cases z with
 |cons r c=>
  cases c with
  |cons D c=>
   cases c;obtain⟨t,rfl⟩:=r;obtain⟨t',rfl⟩:=D;exact call_range_2 (zO n f m G J q)
def uI(wi:TI)(g:TG)(tb:TS):TS:=λD EK H=>wi EK H λJ H1=>∃W:Nat->Nat->St->Hp->Prop,(∃m,W 0 m EK H1)/\∀i m EK H,W i m EK H->
 (J.stop i H/\D.nx EK H)\/(J.go i H/\∃N:St->Hp->Prop,(∀ EU H',N EU H'->∃m',m'<m/\W (i+1) m' EU H')/\∀x H',J.S2 i H x H'->g x EK H' fun E9 H2=>tb {D with nx:=N,ct:=N,bk:=D.nx} E9 H2)
noncomputable def rO(fp:rS)(h:Heap):List (Addr×Obj):=fp.filterMap λb=>(h.get? b).map λo=>(b,o)
def lZ{c:rS}{o:Obj}(f:b∈c)(e:h.get? b=some o):(b,o)∈rO c h:=mh.mpr ⟨b,f,by rw[e];rfl⟩
def Hy{c:rS}{p:Addr×Obj}(j:p∈rO c h):p.1∈c/\h.get? p.1=some p.2:=by
 obtain⟨b,f,e⟩:=mh.mp j;cases q:h.get? b with
 |none=>rw[q]at e;cases e
 |some o=>
  rw[q]at e;have i:(b,o)=p:=bq e;subst i;exact⟨f,q⟩
def Inv.pinned{s:Shared}{c:rS}(I:Inv X DE EK H s)(j:∀b∈c,jM X DE H b)(m:∀b∈c,∃o,s.heap.get? b=some o/\∀v,o.data≠.cell v):Inv X (DE++rO c s.heap) EK H s:=
 I.Pf λp q=>(eR.mp q).elim (λz=>I.pin p (cE _ z)) λz=>by
  obtain⟨f,e⟩:=Hy z;obtain⟨l,n,r,_⟩:=j p.1 f;obtain⟨o,i,d⟩:=m p.1 f;rw[e]at i;cases i;exact⟨e,l,n,r,d⟩
def Inv.IX{pl:oI}{s:Shared}(I:Inv X (DE++pl) EK H s):Inv X DE EK H s:=I.Pf λp c=>I.pin p (cE _ (g0 _ c))
def mO{y:Expr}{body:rg}{wi:TI}{g:TG}{tb:TS}(B:PassesOwn (model X.prog X.w) X.A X.env X.xe)(hc:X.calm=true)(hi:PI X tg y wi)(hg:PG X tg g)(p:FX X body tb)
  (hs:autoParam (∀x,foldedSetIterable y X.env x=pure x) r5_):PS X (.For tg y body [] pos) (uI wi g tb):=by
 intro DE s EK H D I h;refine wpAny_For (D8 (hi DE s EK H _ I h) λv s1 h1=>D8 h1 λitv s2 h2=>?_) hs;obtain⟨it,F,tn,J,H2,e,I2,T,Z,f2,W,⟨m0,w0⟩,turn⟩:=h2;subst e;have OH:∀{H':Hp},(∀b∈F,H' b=none)->∀b∈F,jM X DE H' b:=λhn b p=>⟨hn b p,(f2 b p).2⟩;refine codeAny_forLoop_any (λn s'=>∃i L H',Inv X DE L H' s'/\tn i s'.heap/\(∀b∈F,H' b=none)/\W i n L H') ?_ m0 ⟨0,EK,H2,I2,Z,λb p=>(f2 b p).1,w0⟩;rintro n s3 ⟨i,O,Y,I3,U,M,w3⟩;rcases turn i n O Y w3 with⟨C,qn⟩|⟨go,N,hN,step⟩
 ·refine gI B (D8 (T.done X rfl rfl rfl hc i DE s3 O Y X.xe I3 (OH M) U C) ?_)
  rintro r s4 ⟨hr,I4⟩;subst hr;exact kz ⟨O,Y,I4,qn⟩
 ·refine gI B (D8 (T.item X rfl rfl rfl hc i DE s3 O Y X.xe I3 (OH M) U go) ?_)
  rintro r s4 ⟨u,hr,h4⟩;subst hr;refine gI B (D8 h4 ?_);rintro _ s5 ⟨x,H5,I5,r5,y5,YJ,fr5⟩;have I5':=I5.pinned (OH fr5) (T.obj _ _ YJ);refine gI B (D8 (hg _ s5 O H5 x u _ I5' r5 (step x H5 y5)) ?_);rintro _ s6 ⟨GU,H6,I6,q6⟩;refine gI B (D8 (p _ s6 GU H6 _ I6 q6) λf s7 z=>?_);have c:∀{j:St}{q:Hp},Inv X (DE++rO F s5.heap) j q s7->N j q->∃m,m<n/\∃i L H',Inv X DE L H' s7/\tn i s7.heap/\(∀b∈F,H' b=none)/\W i m L H':=λ{j q} l G=>by
   obtain⟨m',hm,w7⟩:=hN j q G;refine⟨m',hm,i+1,j,q,l.IX,T.keep _ _ _ YJ λb p o e=>(l.pin (b,o) (cE _ (cE _ (lZ p e)))).1,λb p=>?_,w7⟩;obtain⟨o,e,d⟩:=T.obj _ _ YJ b p;exact(l.pin (b,o) (cE _ (cE _ (lZ p e)))).2.1
  cases f with
  |next=>obtain⟨j,q,l,G⟩:=z;exact c l G
  |cont=>obtain⟨j,q,l,G⟩:=z;exact c l G
  |brk=>obtain⟨j,q,l,z⟩:=z;exact⟨j,q,l.IX,z⟩
  |ret v=>obtain⟨x7,j,q,l,r7,z⟩:=z;exact⟨x7,j,q,l.IX,r7,z⟩
end
def zP{xs:sx}{g:TG}{tb:TS}{D:Ends}(c:Nat->St->Hp->Prop)(n:c 0 EK H)(z:∀i EK H,i<=xs.length->c i EK H->EJ K H a xs)
  (l:∀i x EK H,xs[i]?=some x->c i EK H->g x EK H fun E9 H2=>tb {D with nx:=c (i+1),ct:=c (i+1),bk:=D.nx} E9 H2) (j:∀ EK H,c xs.length EK H->D.nx EK H):
  ∃W:Nat->Nat->St->Hp->Prop,(∃m,W 0 m EK H)/\∀i m EK H,W i m EK H->
   ((Xj K a).stop i H/\D.nx EK H)\/((Xj K a).go i H/\∃N:St->Hp->Prop,(∀ EU H',N EU H'->∃f,f<m/\W (i+1) f EU H')/\∀x H',(Xj K a).S2 i H x H'->g x EK H' fun E9 H2=>tb {D with nx:=N,ct:=N,bk:=D.nx} E9 H2):=by
 refine⟨λi m EK H=>m=xs.length - i/\i<=xs.length/\c i EK H,⟨xs.length,by simp,cm _,n⟩,?_⟩;rintro i m EK H ⟨rfl,r,p⟩;have q:=z i EK H r p;by_cases FA:i<xs.length
 ·refine .inr ⟨⟨xs,xs[i],q,by simp[FA]⟩,c (i+1),fun EU H' p'=>⟨xs.length - (i+1),by omega,rfl,FA,p'⟩,λx H' y=>?_⟩
  obtain⟨e,y⟩:=y;subst e;exact l i x EK _ (y xs q) p
 ·have e:i=xs.length:=by omega
  subst e;exact .inl ⟨⟨xs,q,ax _⟩,j EK H p⟩
def Og{xs:sx}{g:TG}{tb:TS}{D:Ends}(c:Nat->St->Hp->Prop)(n:c 0 EK H)(z:∀i EK H,i<=xs.length->c i EK H->F0 K H a xs)
  (l:∀i x EK H,xs[i]?=some x->c i EK H->g x EK H fun E9 H2=>tb {D with nx:=c (i+1),ct:=c (i+1),bk:=D.nx} E9 H2) (j:∀ EK H,c xs.length EK H->D.nx EK H):
  ∃W:Nat->Nat->St->Hp->Prop,(∃m,W 0 m EK H)/\∀i m EK H,W i m EK H->
   ((Xk K a).stop i H/\D.nx EK H)\/((Xk K a).go i H/\∃N:St->Hp->Prop,(∀ EU H',N EU H'->∃f,f<m/\W (i+1) f EU H')/\∀x H',(Xk K a).S2 i H x H'->g x EK H' fun E9 H2=>tb {D with nx:=N,ct:=N,bk:=D.nx} E9 H2):=by
 refine⟨λi m EK H=>m=xs.length - i/\i<=xs.length/\c i EK H,⟨xs.length,by simp,cm _,n⟩,?_⟩;rintro i m EK H ⟨rfl,r,p⟩;have q:=z i EK H r p;by_cases FA:i<xs.length
 ·refine .inr ⟨⟨xs,xs[i],q,by simp[FA]⟩,c (i+1),fun EU H' p'=>⟨xs.length - (i+1),by omega,rfl,FA,p'⟩,λx H' y=>?_⟩
  obtain⟨e,y⟩:=y;subst e;exact l i x EK _ (y xs q) p
 ·have e:i=xs.length:=by omega
  subst e;exact .inl ⟨⟨xs,q,ax _⟩,j EK H p⟩
def Hz{lo:Int}{n:Nat}{g:TG}{tb:TS}{D:Ends}(c:Nat->St->Hp->Prop)(q:c 0 EK H)
  (l:∀i EK H,i<n->c i EK H->g (.int (lo+i)) EK H fun E9 H2=>tb {D with nx:=c (i+1),ct:=c (i+1),bk:=D.nx} E9 H2) (j:∀ EK H,c n EK H->D.nx EK H):
  ∃W:Nat->Nat->St->Hp->Prop,(∃m,W 0 m EK H)/\∀i m EK H,W i m EK H->
   ((Sk lo n).stop i H/\D.nx EK H)\/((Sk lo n).go i H/\∃N:St->Hp->Prop,(∀ EU H',N EU H'->∃f,f<m/\W (i+1) f EU H')/\∀x H',(Sk lo n).S2 i H x H'->g x EK H' fun E9 H2=>tb {D with nx:=N,ct:=N,bk:=D.nx} E9 H2):=by
 refine⟨λi m EK H=>m=n - i/\i<=n/\c i EK H,⟨n,by simp,cm _,q⟩,?_⟩;rintro i m EK H ⟨rfl,r,p⟩;by_cases FA:i<n
 ·refine .inr ⟨FA,c (i+1),fun EU H' p'=>⟨n - (i+1),by omega,rfl,FA,p'⟩,λx H' y=>?_⟩
  obtain⟨e,y⟩:=y;subst e y;exact l i EK _ FA p
 ·have e:i=n:=by omega
  subst e;exact .inl ⟨ax _,j EK H p⟩
abbrev R2:=V->V->Hp->VK->Prop
def F3(X:Cx)(f:Value->Value->Sem Value)(r:R2):Prop:=
 ∀(DE:oI) (s:Shared) (EK:St) (H:Hp) (x y:V) (v u:Value) (Q:VK),Inv X DE EK H s->RelV x v->RelV y u->r x y H Q->
  wpAny (model X.prog X.w) X.A (f v u) (EP X DE EK Q) X.xe s
def UnR(X:Cx)(f:Value->Sem Value)(r:V->Hp->VK->Prop):Prop:=
 ∀(DE:oI) (s:Shared) (EK:St) (H:Hp) (x:V) (v:Value) (Q:VK),Inv X DE EK H s->RelV x v->r x H Q->
  wpAny (model X.prog X.w) X.A (f v) (EP X DE EK Q) X.xe s
def EE(X:Cx)(f:Value)(r:List V->Hp->VK->Prop):Prop:=
 ∀(DE:oI) (s:Shared) (EK:St) (H:Hp) (xs:sx) (us:re) (Q:VK),Inv X DE EK H s->Vals xs us->r xs H Q->
  wpAny (model X.prog X.w) X.A (call f us) (EP X DE EK Q) X.xe s
def QO(r:R2)(ta tb:TE):TE:=fun EK H Q=>ta EK H λx H1=>tb EK H1 λy H2=>r x y H2 Q
def tUn(r:V->Hp->VK->Prop)(ta:TE):TE:=fun EK H Q=>ta EK H λx H1=>r x H1 Q
inductive rI(C:Int->Int->Prop)(g:Int->Int->V)(x:V)(y:V)(H:Hp)(Q:VK):Prop
 |mk (i:_) (j:_) (h0:x=.int i) (h1:y=.int j) (h2:C i j) (h3:Q (g i j) H):rI C g x y H Q
inductive S3(g:Int->Int->V)(x:V)(y:V)(H:Hp)(Q:VK):Prop
 |mk (i:_) (j:_) (h0:x=.int i) (h1:y=.int j) (h2:Q (g i j) H):S3 g x y H Q
def rU(g:Int->V):V->Hp->VK->Prop:=λx H Q=>∃i,x=.int i/\Q (g i) H
section
variable {X:Cx}{a b c:Expr}{ta tb tc:TE}{pos:Pos}
def J9(D:PE X a ta)(q:PE X b tb){s:Shared}{R:V->V->Hp->Prop}(I:Inv X DE EK H s)
  (h:ta EK H λx H1=>tb EK H1 λy H2=>R x y H2){Q:gV}{f:Value->Value->Sem Value}
  (m:∀v u i x y H2,Inv X DE EK H2 i->RelV x v->RelV y u->R x y H2->wpAny (model X.prog X.w) X.A (f v u) Q X.xe i):
  wpAny (model X.prog X.w) X.A (eval a X.env) (λv r=>wpAny (model X.prog X.w) X.A (eval b X.env) (λu B=>wpAny (model X.prog X.w) X.A (f v u) Q X.xe B) X.xe r) X.xe s:=by
 refine D8 (D DE s EK H _ I h) ?_;rintro v z ⟨x,H1,l,p,F⟩;refine D8 (q DE z EK H1 _ l F) ?_;rintro u i ⟨y,H2,C,n,j⟩;exact m v u i x y H2 C p n j
def Ff{op:Operator}{r:R2}(m:F3 X (binaryOp op) r)(n:PE X a ta)(i:PE X b tb):PE X (.BinOp a op b pos) (QO r ta tb):=by
 intro DE s EK H Q I h;exact wpAny_BinOp (J9 n i I h λv u j x y H2 l p f q=>m DE j EK H2 x y v u Q l p f q)
def Uv{op:UnaryOp}{r:V->Hp->VK->Prop}(f:UnR X (unaryOp op) r)(j:PE X a ta):PE X (.UnaryOp op a pos) (tUn r ta):=by
 intro DE s EK H Q I h;exact UnaryOp_ (D8 (j DE s EK H _ I h) λv n ⟨x,H1,i,l,m⟩=>f DE n EK H1 x v Q i l m)
def opI{f:Value->Value->Sem Value}{C:Int->Int->Prop}{g:Int->Int->Int}
  (l:∀(i j:Int) (t u:Tok) (s:Shared) (Q:gV) (E:gV),C i j->Q (.int (g i j) s.toks) {s with toks:=s.toks+1}->wpAny (model X.prog X.w) X.A (f (.int i t) (.int j u)) Q E s):
  F3 X f (rI C λi j=>.int (g i j)):=by
 intro DE s EK H x y v u Q I p m h;obtain⟨i,j,rfl,rfl,n,q⟩:=h;obtain⟨t,rfl⟩:=p;obtain⟨t',rfl⟩:=m;exact l i j t t' s _ _ n ⟨.int (g i j),H,I.tok _,⟨_,rfl⟩,q⟩
def QQ{f:Value->Value->Sem Value}{g:Int->Int->Int}
  (l:∀(i j:Int) (t u:Tok) (s:Shared) (Q:gV) (E:gV),Q (.int (g i j) s.toks) {s with toks:=s.toks+1}->wpAny (model X.prog X.w) X.A (f (.int i t) (.int j u)) Q E s):
  F3 X f (S3 λi j=>.int (g i j)):=by
 intro DE s EK H x y v u Q I n m h;obtain⟨i,j,rfl,rfl,q⟩:=h;obtain⟨t,rfl⟩:=n;obtain⟨t',rfl⟩:=m;exact l i j t t' s _ _ ⟨.int (g i j),H,I.tok _,⟨_,rfl⟩,q⟩
def QR{f:Value->Value->Sem Value}{g:Int->Int->Bool}
  (l:∀(i j:Int) (t u:Tok) (s:Shared) (Q:gV) (E:gV),Q (.bool (g i j)) s->wpAny (model X.prog X.w) X.A (f (.int i t) (.int j u)) Q E s):
  F3 X f (S3 λi j=>.bl (g i j)):=by
 intro DE s EK H x y v u Q I n m h;obtain⟨i,j,rfl,rfl,q⟩:=h;obtain⟨t,rfl⟩:=n;obtain⟨t',rfl⟩:=m;exact l i j t t' s _ _ ⟨.bl (g i j),H,I,rfl,q⟩
def QS(i j:Int):Prop:=0<j/\j<1073741824
def HB:F3 X (binaryOp .Add) (S3 λi j=>.int (i+j)):=QQ λ_ _ _ _ _ _ _ q=>add_int q
def QT:F3 X (binaryOp .Sub) (S3 λi j=>.int (i - j)):=QQ λ_ _ _ _ _ _ _ q=>sub_int q
def Oh:F3 X (binaryOp .FloorDiv) (rI QS λi j=>.int (i / j)):=opI λi j _ _ _ _ _ f q=>by
 have h1:(0:Int)<j:=f.1;have h2:j<1073741824:=f.2;exact floordiv_int (by omega) (by rw[Int.fdiv_eq_ediv_of_nonneg i (by omega)];exact q) (.inl (PyProof.noPylong_small (by omega)))
def QV:F3 X (binaryOp .Mod) (rI (λ_ j=>0<j) λi j=>.int (i%j)):=opI λi j _ _ _ _ _ f q=>by
 have h1:(0:Int)<j:=f;exact mod_int' (by omega) (by rw[Int.fmod_eq_emod_of_nonneg i (by omega)];exact q)
def unI{f:Value->Sem Value}{g:Int->Int}
  (j:∀(i:Int) (t:Tok) (s:Shared) (Q:gV) (E:gV),Q (.int (g i) s.toks) {s with toks:=s.toks+1}->wpAny (model X.prog X.w) X.A (f (.int i t)) Q E s):
  UnR X f (rU λi=>.int (g i)):=by
 intro DE s EK H x v Q I l h;obtain⟨i,rfl,q⟩:=h;obtain⟨t,rfl⟩:=l;exact j i t s _ _ ⟨.int (g i),H,I.tok _,⟨_,rfl⟩,q⟩
def QW:UnR X (unaryOp .USub) (rU λi=>.int (-i)):=unI λ_ _ _ _ _ q=>neg_int q
end
noncomputable def J_:V->V->Bool
 |.DS,.DS=>true|.DS,.int _=>true|.int _,.DS=>true|.DS,.bl _=>true|.bl _,.DS=>true|.DS,.str _=>true|.str _,.DS=>true
 |.int _,.int _=>true|.bl _,.bl _=>true|.str _,.str _=>true|.QA _,.QA _=>true
 |.int _,.str _=>true|.str _,.int _=>true|.bl _,.str _=>true|.str _,.bl _=>true
 |_,_=>false
def rEq:R2:=λx y H Q=>J_ x y=true/\Q (.bl (decide (x=y))) H
def rNe:R2:=λx y H Q=>J_ x y=true/\Q (.bl (!decide (x=y))) H
def Dv{i j:Int}:decide (V.int i=V.int j)=(i == j):=by
 rw[kA];simp
def HD{i j:Bool}:decide (V.bl i=V.bl j)=(i == j):=by
 rw[kA];simp
def Dw{i j:Str}:decide (V.str i=V.str j)=(i == j):=by
 rw[kA];simp
def Dy{i j:Array UInt8}:decide (V.QA i=V.QA j)=(i.toList == j.toList):=by
 rw[kA];cases i;cases j;simp
variable {us:re}
section
variable {X:Cx}{a b c:Expr}{ta tb tc:TE}{pos:Pos}
def bz{s:Shared}{Q:VK}{k f:Bool}(I:Inv X DE EK H s)(q:Q (.bl k) H)(e:k=f):EP X DE EK Q (.bool f) s:=by
 subst e;exact⟨.bl k,H,I,rfl,q⟩
def Uw:F3 X (compareOp .Eq) rEq:=by
 intro DE s EK H x y v u Q I m f h;obtain⟨l,q⟩:=h;cases x with
 |DS=>
  cases m;cases y with
  |DS=>cases f;exact PySem.EqNone.eq_none_none (bz I q (by simp))
  |bl j=>cases f;exact PySem.EqNone.eq_none_bool (bz I q (by simp))
  |int j=>obtain⟨t',rfl⟩:=f;exact PySem.EqNone.eq_none_int (bz I q (by simp))
  |str j=>obtain⟨t',rfl⟩:=f;exact PySem.EqNone.eq_none_str (bz I q (by simp))
  |_=>exact absurd (show false=true from l) bi
 |bl i=>
  cases m;cases y with
  |DS=>cases f;exact PySem.EqNone.eq_bool_none (bz I q (by simp))
  |bl j=>cases f;exact eq_bool (bz I q HD)
  |str j=>obtain⟨t',rfl⟩:=f;exact PySem.EqMixed.eq_bool_str (bz I q (by simp))
  |_=>exact absurd (show false=true from l) bi
 |int i=>
  obtain⟨t,rfl⟩:=m;cases y with
  |DS=>cases f;exact PySem.EqNone.eq_int_none (bz I q (by simp))
  |int j=>obtain⟨t',rfl⟩:=f;exact eq_int (bz I q Dv)
  |str j=>obtain⟨t',rfl⟩:=f;exact PySem.EqMixed.eq_int_str (bz I q (by simp))
  |_=>exact absurd (show false=true from l) bi
 |str i=>
  obtain⟨t,rfl⟩:=m;cases y with
  |DS=>cases f;exact PySem.EqNone.eq_str_none (bz I q (by simp))
  |bl j=>cases f;exact PySem.EqMixed.eq_str_bool (bz I q (by simp))
  |int j=>obtain⟨t',rfl⟩:=f;exact PySem.EqMixed.eq_str_int (bz I q (by simp))
  |str j=>obtain⟨t',rfl⟩:=f;exact eq_str (bz I q Dw)
  |_=>exact absurd (show false=true from l) bi
 |QA i=>
  obtain⟨t,rfl⟩:=m;cases y with
  |QA j=>obtain⟨t',rfl⟩:=f;exact W.eq_bytes (bz I q Dy)
  |_=>exact absurd (show false=true from l) bi
 |_=>cases y<;>exact absurd (show false=true from l) bi
def Ux:F3 X (compareOp .NotEq) rNe:=by
 intro DE s EK H x y v u Q I m f h;obtain⟨l,q⟩:=h;cases x with
 |DS=>
  cases m;cases y with
  |DS=>cases f;exact PySem.EqNone.ne_none_none (bz I q (by simp))
  |bl j=>cases f;exact PySem.EqNone.ne_none_bool (bz I q (by simp))
  |int j=>obtain⟨t',rfl⟩:=f;exact PySem.EqNone.ne_none_int (bz I q (by simp))
  |str j=>obtain⟨t',rfl⟩:=f;exact PySem.EqNone.ne_none_str (bz I q (by simp))
  |_=>exact absurd (show false=true from l) bi
 |bl i=>
  cases m;cases y with
  |DS=>cases f;exact PySem.EqNone.ne_bool_none (bz I q (by simp))
  |bl j=>cases f;exact ne_bool (bz I q (iA not HD))
  |str j=>obtain⟨t',rfl⟩:=f;exact PySem.EqMixed.ne_bool_str (bz I q (by simp))
  |_=>exact absurd (show false=true from l) bi
 |int i=>
  obtain⟨t,rfl⟩:=m;cases y with
  |DS=>cases f;exact PySem.EqNone.ne_int_none (bz I q (by simp))
  |int j=>obtain⟨t',rfl⟩:=f;exact ne_int (bz I q (iA not Dv))
  |str j=>obtain⟨t',rfl⟩:=f;exact PySem.EqMixed.ne_int_str (bz I q (by simp))
  |_=>exact absurd (show false=true from l) bi
 |str i=>
  obtain⟨t,rfl⟩:=m;cases y with
  |DS=>cases f;exact PySem.EqNone.ne_str_none (bz I q (by simp))
  |bl j=>cases f;exact PySem.EqMixed.ne_str_bool (bz I q (by simp))
  |int j=>obtain⟨t',rfl⟩:=f;exact PySem.EqMixed.ne_str_int (bz I q (by simp))
  |str j=>obtain⟨t',rfl⟩:=f;exact ne_str (bz I q (iA not Dw))
  |_=>exact absurd (show false=true from l) bi
 |QA i=>
  obtain⟨t,rfl⟩:=m;cases y with
  |QA j=>obtain⟨t',rfl⟩:=f;exact W.ne_bytes (bz I q (iA not Dy))
  |_=>exact absurd (show false=true from l) bi
 |_=>cases y<;>exact absurd (show false=true from l) bi
def Uy:F3 X (compareOp .Lt) (S3 λi j=>.bl (decide (i<j))):=QR λ_ _ _ _ _ _ _ q=>lt_int q
def Uz:F3 X (compareOp .Gt) (S3 λi j=>.bl (decide (j<i))):=QR λ_ _ _ _ _ _ _ q=>gt_int q
def HF:F3 X (compareOp .In) (λx y H Q=>∃i j,x=.str i/\y=.str j/\Q (.bl (!(Builtin.Str.occurrences j i 0 j.length 1).isEmpty)) H):=by
 intro DE s EK H x y v u Q I l f h;obtain⟨i,j,rfl,rfl,q⟩:=h;obtain⟨t,rfl⟩:=l;obtain⟨t',rfl⟩:=f;exact in_str (bz I q rfl)
def QX:F3 X (compareOp .Is) (λx y H Q=>y=.DS/\Q (.bl (decide (x=.DS))) H):=by
 intro DE s EK H x y v u Q I f i h;obtain⟨rfl,q⟩:=h;cases i;refine is_none_gen (bz I q ?_);cases x<;>first
  |(cases f;rfl)
  |(obtain⟨t,rfl⟩:=f;rfl)
def Oi:F3 X (compareOp .IsNot) (λx y H Q=>y=.DS/\Q (.bl (!decide (x=.DS))) H):=by
 intro DE s EK H x y v u Q I f i h;obtain⟨rfl,q⟩:=h;cases i;refine isnot_none_gen (bz I q ?_);cases x<;>first
  |(cases f;rfl)
  |(obtain⟨t,rfl⟩:=f;rfl)
def F3.or{f:Value->Value->Sem Value}{r j:R2}(h:F3 X f r)(h':F3 X f j):F3 X f (λx y H Q=>r x y H Q\/j x y H Q):=by
 intro DE s EK H x y v u Q I l i q;rcases q with q|q
 ·exact h DE s EK H x y v u Q I l i q
 ·exact h' DE s EK H x y v u Q I l i q
def lG(b:Expr)(h:autoParam (op≠.In) r1_)(h2:autoParam (op≠.NotIn) r1_):behindInMarks op b=false:=by
 have e1:(op == CmpOp.In)=false:=by cases op<;>first|rfl|exact absurd rfl h
 have e2:(op == CmpOp.NotIn)=false:=by cases op<;>first|rfl|exact absurd rfl h2
 cases b<;>simp[behindInMarks,e1,e2]
def Oj{r:R2}(n:F3 X (compareOp op) r)(p:PE X a ta)(i:PE X b tb)(l:behindInMarks op b=false):PE X (.Compare a [op] [b] pos) (QO r ta tb):=by
 intro DE s EK H Q I h;exact wpAny_Compare1 (J9 p i I h λv u j x y H2 m z f q=>n DE j EK H2 x y v u Q m z f q) l
def UG(t:TE):TT:=fun EK H Q=>t EK H λx H'=>∃k,x=.bl k/\Q k H'
def Ol{r:R2}(D:F3 X (compareOp op) r)(J:PE X a ta)(n:PE X b tb)(q:behindInMarks op b=false):PT X (.Compare a [op] [b] pos) (UG (QO r ta tb)):=by
 intro DE s EK H Q I h;refine wpAny_isTrue_Compare1 (D8 (J DE s EK H _ I h) λv p ⟨x,H1,j,m,M⟩=>D8 (n DE p EK H1 _ j M) λu B ⟨y,H2,C,l,f⟩=>
  D8 (D DE B EK H2 x y v u _ C m l f) λc N ⟨z,i,F,G,k,e,L⟩=>?_) q
 subst e;cases G;exact g6 ⟨i,F,L⟩
def pF:(sizeLine:Nat)<2 ^ 63:=by rw[ib];decide
def Fg:F3 X (binaryOp .Add) (λx y H Q=>∃i j,x=.str i/\y=.str j/\i.length+j.length<=sizeLine/\Q (.str (i++j)) H):=by
 intro DE s EK H x y v u Q I l f h;obtain⟨i,j,rfl,rfl,hz,q⟩:=h;obtain⟨t,rfl⟩:=l;obtain⟨t',rfl⟩:=f;exact add_str (λt' m=>⟨.str (i++j),H,I.tok _,⟨_,rfl⟩,q⟩) hz
def vals1{x:V}(r:Vals [x] us):∃u,us=[u]/\RelV x u:=by
 cases r with
 |cons f i=>cases i;exact⟨_,rfl,f⟩
def vals2{x y:V}(r:Vals [x,y] us):∃u f,us=[u,f]/\RelV x u/\RelV y f:=by
 cases r with
 |cons l j=>
  cases j with
  |cons i m=>cases m;exact⟨_,_,rfl,l,i⟩
def HH(f:X.calm=true):EE X (.builtin "max") (λxs H Q=>∃i j,xs=[.int i,.int j]/\Q (.int (if j>i then j else i)) H):=by
 intro DE s EK H xs us Q I r h;obtain⟨i,j,rfl,q⟩:=h;obtain⟨u,m,rfl,⟨t,rfl⟩,⟨t',rfl⟩⟩:=vals2 r;refine max_two_ints (I.ok.hd f) λh' l k=>⟨_,H,I.kept k,?_,q⟩;by_cases hj:j>i
 ·rw[bX hj,bX hj];exact⟨_,rfl⟩
 ·rw[bt hj,bt hj];exact⟨_,rfl⟩
def HJ(f:X.calm=true):EE X (.builtin "min") (λxs H Q=>∃i j,xs=[.int i,.int j]/\Q (.int (if j<i then j else i)) H):=by
 intro DE s EK H xs us Q I r h;obtain⟨i,j,rfl,q⟩:=h;obtain⟨u,m,rfl,⟨t,rfl⟩,⟨t',rfl⟩⟩:=vals2 r;refine min_two_ints (I.ok.hd f) λh' l k=>⟨_,H,I.kept k,?_,q⟩;by_cases hj:j<i
 ·rw[bX hj,bX hj];exact⟨_,rfl⟩
 ·rw[bt hj,bt hj];exact⟨_,rfl⟩
def rP:EE X (.type "int") (λxs H Q=>(∃i,xs=[.int i]/\Q (.int i) H)\/∃k,xs=[.bl k]/\Q (.int (if k then 1 else 0)) H):=by
 intro DE s EK H xs us Q I r h;rcases h with⟨i,rfl,q⟩|⟨k,rfl,q⟩
 ·obtain⟨u,rfl,t,rfl⟩:=vals1 r
  exact call_int_int ⟨.int i,H,I,⟨_,rfl⟩,q⟩
 ·obtain⟨u,rfl,f⟩:=vals1 r
  cases f;exact call_int_bool ⟨.int (if k then 1 else 0),H,I.tok _,⟨_,rfl⟩,q⟩
end
structure OI(h:Heap)(x dx C:Addr)(mA:rX):Prop where
 obj:h.get? x=some (W.instObj C dx)
 ns:h.Ns1 dx mA
 ne:dx≠x
set_option tactic.hygienic true in def HN{i:Addr}{l:rX}(n:h.Ns1 i l):∃j,h.get? i=some j/\∀name,W.lookIn name j=some (l name):=by
 obtain⟨o,es,ep,B,p,m,_,r⟩:=n;refine⟨o,B,λname=>?_⟩;have e:=r name;unfold nsFind findBy at e;rw[←Array.find?_toList]at e;unfold W.lookIn;rw[p];dsimp only;split
 ·rename_i y q
  rw[q]at e;exact iA some e
 ·rename_i q
  rw[q]at e;have a:es.toList.any (·.refKey)=false:=by
   rw[nr];intro y C;obtain⟨z,t,f⟩:=m y (Array.mem_toList_iff.mp C);simp[DictEntry.refKey,f]
  have D:¬ es.toList.any (·.refKey)=true:=by rw[a];exact bi
  rw[bt D];exact iA some e
def OI.look{x i C:Addr}{j:rX}(I:OI h x i C j):∃f,W.InstAt h x (W.instObj C i) C (some f)/\∀name,W.lookIn name f=some (j name):=
 let ⟨f,ho,hl⟩:=HN I.ns
 ⟨f,⟨I.obj,rfl,rfl,ho⟩,hl⟩
variable {kw:List (Str×Value)}
section
variable {prog:Program}{w:World}{A:Around}{E:gV}{s:Shared}{K:W.Frag}{x dx C f:Addr}{mA:rX}{name:Str}{v:Value}
def Om{i:Bool}{Q:gV}(X:K.In s.heap)(I:OI s.heap x dx C mA)(n:W.plainGet K C name=true)(m:W.hasDictIn K C=true)
  (p:W.findIn K (.ref C) name=some none) (l:mA name=some v) (j:W.handedIn v=true) (h:Q v {s with toks:=s.toks+1}):
  wpAny (model prog w) A (getAttr (.ref x) name i) Q E s:=by
 obtain⟨r,J,q⟩:=I.look;exact W.get_value X J (l5 n).1 (W.findObj_own m p rfl (by rw[q,l])) j h
def Ka{pl:Sem Bool}{Q:Value×List Value->Shared->Prop}(X:K.In s.heap)(I:OI s.heap x dx C mA)(i:W.plainGet K C name=true)
  (l:W.findIn K (.ref C) name=some (some (.ref f))) (m:W.isFn K (.ref f)=true) (j:mA name=none) (h:Q (.ref f,[.ref x]) s):
  wpAny (model prog w) A (getMethod (.ref x) name pl) Q E s:=by
 obtain⟨p,J,n⟩:=I.look;exact W.method_fn X J (l5 i).1 (l5 i).2 l (hU.mp m) (by show(W.lookIn name p).map (·.isSome)=some false;rw[n,j];rfl) h
def Oo{ns:rj}(X:K.In s.heap)(I:OI s.heap x dx C mA)
  (F:W.findIn K (.ref C) "__setattr__" = some (some (.builtin "object.__setattr__"))) (M:W.plainOver K C=true) (z:W.takerIn K C name=some none) (p:W.hasDictIn K C=true)
  (D:PySem.Within mA ns) (hsz:ns.length<=sizeLine)
  (h:∀h',OI h' x dx C (λy=>if y=name then some v else mA y)->Heap.SameBut dx s.heap h'->Q () {s with heap:=h',toks:=s.toks+2}):
  wpAny (model prog w) A (setAttr (.ref x) name v) Q E s:=by
 obtain⟨O,J,U⟩:=I.look;refine W.set_plain X J F (W.osa_open (s:={s with toks:=s.toks+1}) (r:=none) X J M z λb=>?_);obtain⟨T,B,L⟩:=W.any_some p;have q:s.heap.get? x=some ⟨.ref C,some dx,.plain,#[]⟩:=I.obj;refine ac (al (ac (ac (wpAny_loadPart q (ac (W.Looks.here (s:={s with toks:=s.toks+1}) (W.looks_clsIn X B) ?_))))));rw[L];refine al (a:=some dx) (ac (al (ac ?_)));refine wpAny_nsSet1 (s:={s with toks:=s.toks+1}) I.ns λh' i n=>?_;obtain⟨Y,G,N,m,j,l⟩:=i.count (PySem.Within.cons name v D);refine ac (wpAny_lookBehind m (by rw[j];exact pastItsLine_dict (df l (by rw[cv];omega))) ?_);exact al (h _ ⟨(n.2 _ (fm I.ne)).trans I.obj,i,I.ne⟩ n)
def Kc{R:Result->Shared->Prop}{vs:re}(X:K.In s.heap)(l:W.makesIn K C=true)
  (m:W.findIn K (.ref C) "__init__" = some (some (.ref f))) (j:W.typeIn K (.ref f)=some (.type "function"))
  (h:codeAny (model prog w) (A.under (.builtin "type.__call__" ⟨.ref C::vs,kw⟩)) (.call (.ref f) ⟨.ref (s.heap.objs.size+1)::vs,kw⟩) (W.InitBack (s.heap.objs.size+1) R)
   {s with heap:=(s.heap.push W.emptyDict).push (W.instObj C s.heap.objs.size)}):
  codeAny (model prog w) A (.call (.ref C) ⟨vs,kw⟩) R s:=by
 obtain⟨n,g,d,t,p⟩:=s;exact W.make_core (W.makes_of X l) (i7 X m) (λi=>W.bind_fn X i j) (.inl rfl) h
end
noncomputable def b_(f:Str)(v:V):List (Str×V)->List (Str×V)
 |[]=>[(f,v)]
 |(g,x)::r=>if g=f then(g,v)::r else(g,x)::b_ f v r
theorem ut(f g:Str)(v:V):∀fs:List (Str×V),(b_ f v fs).lookup g=if g=f then some v else fs.lookup g
 |[]=>by
  show List.lookup g [(f,v)]=_;by_cases h:g=f
  ·have i:(g == f)=true:=hU.mpr h
   simp only[List.lookup,i,bX h]
  ·have i:(g == f)=false:=fb.mpr h
   simp only[List.lookup,i,bt h]
 |(k,x)::r=>by
  have j:=ut f g v r;rw[show b_ f v ((k,x)::r)=(if k=f then(k,v)::r else(k,x)::b_ f v r)from rfl];by_cases hk:k=f
  ·rw[bX hk]
   by_cases h:g=k
   ·have i:(g == k)=true:=hU.mpr h
    simp only[List.lookup,i,bX (h.trans hk)]
   ·have i:(g == k)=false:=fb.mpr h
    simp only[List.lookup,i,bt (λe:g=f=>h (e.trans hk.symm))]
  ·rw[bt hk]
   by_cases h:g=k
   ·have i:(g == k)=true:=hU.mpr h
    simp only[List.lookup,i,bt (λe:g=f=>hk (h.symm.trans e))]
   ·have i:(g == k)=false:=fb.mpr h
    simp only[List.lookup,i];exact j
theorem rQ(f:Str)(v:V):∀fs:List (Str×V),f∈(b_ f v fs).map (·.1)/\∀g,g∈fs.map (·.1)->g∈(b_ f v fs).map (·.1)
 |[]=>⟨by simp[b_],λg h=>by simp at h⟩
 |(k,x)::r=>by
  obtain⟨i,j⟩:=rQ f v r;rw[show b_ f v ((k,x)::r)=(if k=f then(k,v)::r else(k,x)::b_ f v r)from rfl];by_cases hk:k=f
  ·rw[bX hk]
   subst hk;exact⟨by simp,λg h=>by simpa using h⟩
  ·rw[bt hk]
   refine⟨?_,λg h=>?_⟩
   ·rw[bb]
    exact aI _ i
   ·rw[bb]at h ⊢
    rcases br.mp h with e|e
    ·exact br.mpr (.inl e)
    ·exact aI _ (j g e)
theorem uv(f:Str)(v:V):∀fs:List (Str×V),(b_ f v fs).length<=fs.length+1
 |[]=>by simp[b_]
 |(k,x)::r=>by
  have i:=uv f v r;rw[show b_ f v ((k,x)::r)=(if k=f then(k,v)::r else(k,x)::b_ f v r)from rfl];by_cases hk:k=f
  ·rw[bX hk,cv,cv];omega
  ·rw[bt hk,cv,cv];omega
def GA.some_of{v:V}{o:Option Value}(r:GA (some v) o):∃u,o=some u/\RelV v u:=by
 cases o with
 |none=>exact(show False from r).elim
 |some u=>exact⟨u,rfl,r⟩
def GA.none_of{o:Option Value}(r:GA none o):o=none:=by
 cases o with
 |none=>rfl
 |some u=>exact(show False from r).elim
def HQ{v:V}(r:RelV v u):W.handedIn u=true:=by
 cases v with
 |DS=>cases(show u=Value.none from r);rfl
 |bl b=>cases(show u=Value.bool b from r);rfl
 |int i=>obtain⟨t,e⟩:=(show ∃t,u=Value.int i t from r);cases e;rfl
 |str x=>obtain⟨t,e⟩:=(show ∃t,u=Value.str x t from r);cases e;rfl
 |QA b=>obtain⟨t,e⟩:=(show ∃t,u=Value.bytes b t from r);cases e;rfl
 |YD b=>obtain⟨t,e⟩:=(show ∃t,u=Value.float b t from r);cases e;rfl
 |ref a=>cases(show u=Value.ref a from r);rfl
 |ty n=>cases(show u=Value.type n from r);rfl
section
variable {P:Program}{w:World}{H H':Hp}{h h':Heap}{a C dx:Addr}{fs fs':List (Str×V)}
def wX(j:GY P w K H h)(e:H a=some (.ins C dx fs)):∃mA,OI h a dx C mA/\(∀f,GA (fs.lookup f) (mA f))/\PySem.Within mA (fs.map (·.1))/\fs.length<=1000/\H dx=some (.own a):=by
 obtain⟨d,z,i,l,mA,n,r,q⟩:=(show DZ P w K H h a (.ins C dx fs)from j a _ e);exact⟨mA,⟨l,n,i⟩,r,q,z,d⟩
end
structure N4(K:W.Frag)(C:Addr):Prop where
 pg:W.plainGet K C Str.empty=true
 hd:W.hasDictIn K C=true
 po:W.plainOver K C=true
 sa:W.findIn K (.ref C) "__setattr__" = some (some (.builtin "object.__setattr__"))
def N4.get{C:Addr}(c:N4 K C)(f:Str):W.plainGet K C f=true:=c.pg
def ED(K:W.Frag)(C:Addr)(f:Str):Prop:=W.findIn K (.ref C) f=some none
def ED.taker{C:Addr}{f:Str}(n:ED K C f):W.takerIn K C f=some none:=by
 unfold W.takerIn;rw[show W.findIn K (.ref C) f=some none from n];rfl
structure Meth(K:W.Frag)(C:Addr)(m:Str)(f:Addr):Prop where
 at_:W.findIn K (.ref C) m=some (some (.ref f))
 fn:W.isFn K (.ref f)=true
 kp:W.keepIn K (.ref f)=true
section
variable {X:Cx}{DE:oI}{EK:St}{H:Hp}{s:Shared}{a C dx:Addr}{fs:List (Str×V)}{f:Str}{v:V}{A:Around}{E:gV}
def Fl{b:Bool}{Q:gV}(I:Inv X DE EK H s)(e:H a=some (.ins C dx fs))(c:N4 X.K C)(n:ED X.K C f)(l:fs.lookup f=some v)
  (h:∀u i,Inv X DE EK H i->RelV v u->Q u i):wpAny (model X.prog X.w) A (getAttr (.ref a) f b) Q E s:=by
 obtain⟨mA,O,r,_,_,_⟩:=wX I.DV e;obtain⟨u,m,j⟩:=GA.some_of (v:=v) (o:=mA f) (by rw[←l];exact r f);exact Om I.HI O (c.get f) c.hd n m (HQ j) (h u _ (I.tok _) j)
def Fo{m:Str}{g:Addr}{pl:Sem Bool}{Q:Value×List Value->Shared->Prop}(I:Inv X DE EK H s)(e:H a=some (.ins C dx fs))(c:N4 X.K C)(k:Meth X.K C m g)(l:fs.lookup m=none)
  (h:Q (.ref g,[.ref a]) s):wpAny (model X.prog X.w) A (getMethod (.ref a) m pl) Q E s:=by
 obtain⟨mA,O,r,_,_,_⟩:=wX I.DV e;have i:mA m=none:=GA.none_of (by rw[←l];exact r m);exact Ka I.HI O (c.get m) k.at_ k.fn i h
def Fp{y:V}(I:Inv X DE EK H s)(e:H a=some (.ins C dx fs))(c:N4 X.K C)(n:ED X.K C f)(G:fs.length<1000)(p:RelV y u)
  (h:∀j,Inv X DE EK (upd H a (.ins C dx (b_ f y fs))) j->Q () j):wpAny (model X.prog X.w) A (setAttr (.ref a) f u) Q E s:=by
 obtain⟨mA,O,r,l,_,m⟩:=wX I.DV e;have hz:(fs.map (·.1)).length<=sizeLine:=by rw[ay,ib];omega
 refine Oo I.HI O c.sa c.po n.taker c.hd l hz λh' i F=>h _ ?_;have hd:∃o,h'.get? dx=some o:=let ⟨o,_,_,e',_⟩:=i.ns;⟨o,e'⟩;refine I.write (x:=a) (e:=dx) (by rw[e];exact ii) (.inr m) (λb q D z=>(F.2 b D).trans z) hd ?_;refine⟨by rw[az O.ne];exact m,?_,O.ne,i.obj,_,i.ns,λg=>?_,λg B=>?_⟩
 ·have:=uv f y fs;omega
 ·show GA ((b_ f y fs).lookup g) (if g=f then some u else mA g)
  rw[ut];by_cases q:g=f
  ·rw[bX q,bX q];exact p
  ·rw[bt q,bt q];exact r g
 ·by_cases q:g=f
  ·rw[q];exact(rQ f y fs).1
  ·refine(rQ f y fs).2 g (l g λz=>B ?_)
   show(if g=f then some u else mA g)=none;rw[bt q];exact z
def Inv.made(I:Inv X DE EK H s):Inv X DE EK (upd (upd H s.heap.objs.size (.own (s.heap.objs.size+1))) (s.heap.objs.size+1) (.ins C s.heap.objs.size []))
  {s with heap:=(s.heap.push W.emptyDict).push (W.instObj C s.heap.objs.size)}:=by
 have e1:(s.heap.push W.emptyDict).get? s.heap.objs.size=some W.emptyDict:=av s.heap rfl;have e2:((s.heap.push W.emptyDict).push (W.instObj C s.heap.objs.size)).get? (s.heap.objs.size+1)=some (W.instObj C s.heap.objs.size):=by
  have:=av (s.heap.push W.emptyDict) (o:=W.instObj C s.heap.objs.size) rfl;rwa [c9]at this
 have e3:(s.heap.push W.emptyDict).Ns s.heap.objs.size (λ_=>none):=⟨W.emptyDict,#[],_,e1,rfl,(λe l=>absurd l (by simp)),λ_=>rfl⟩;have j:=I.laid (a:=s.heap.objs.size) (o:=.own (s.heap.objs.size+1)) (h':=s.heap.push W.emptyDict) (t':=s.toks) (λb u q=>ae _ q) (ax _) ⟨_,e1⟩;refine j.laid (a:=s.heap.objs.size+1) (o:=.ins C s.heap.objs.size []) (t':=s.toks) (λb u q=>ae _ q) (Nat.le_of_eq (c9 _ _)) ?_;have i:s.heap.objs.size≠s.heap.objs.size+1:=bP (ia _);refine⟨by rw[az i,aq],cm _,i,e2,λ_=>none,(Heap.Ns1.of_empty e3).at λo q=>ae _ q,λ_=>ii,λy m=>absurd rfl m⟩
def Oq{prog:Program}{env:Env}{f:Str}{s:Shared}{Q:gV}(i:attributeBase e f env (eval e env)=eval e env)
  (h:wpAny (model prog w) A (eval e env) (λo j=>wpAny (model prog w) A (getAttr o f true) Q E j) E s):wpAny (model prog w) A (eval (.Attribute e f pos) env) Q E s:=
 Attribute_any_ h (by rw[arm_eval_Attribute,i])
end
def jN(K:W.Frag)(ta:TE)(f:Str):TE:=fun EK H Q=>ta EK H λx H1=>∃a C dx fs v,x=.ref a/\H1 a=some (.ins C dx fs)/\N4 K C/\ED K C f/\fs.lookup f=some v/\Q v H1
def rR(K:W.Frag)(ta tv:TE)(f:Str):TS:=λD EK H=>tv EK H λy H1=>ta EK H1 λx H2=>∃a C dx fs,x=.ref a/\H2 a=some (.ins C dx fs)/\N4 K C/\ED K C f/\fs.length<1000 /\
 D.nx EK (upd H2 a (.ins C dx (b_ f y fs)))
section
variable {X:Cx}{o e value:Expr}{f:Str}{pos pos' tpos:Pos}{ta tv:TE}
def HR(m:PE X e ta)(p:Xh X e f):PE X (.Attribute e f pos) (jN X.K ta f):=by
 intro DE s EK H Q I h;refine Oq p (D8 (m DE s EK H _ I h) ?_);rintro u B ⟨x,H1,i,z,a,C,dx,fs,v,ex,j,c,n,l,q⟩;subst ex;obtain rfl:u=Value.ref a:=z;exact Fl i j c n l λF D y r=>⟨v,H1,y,r,q⟩
def pG(L:PE X o ta)(G:PE X value tv)(B:swapsWith value (some (.Attribute o f pos')) pos.line X.env=pure false):PS X (.Assign [.Attribute o f pos'] value pos) (rR X.K ta tv f):=by
 intro DE s EK H D I h;refine plainObj_wpAny_Assign_Attribute (D8 (G DE s EK H _ I h) λu z ⟨y,H1,j,i,q⟩=>D8 (L DE z EK H1 _ j q) ?_) B;rintro r N ⟨x,H2,F,M,a,C,dx,fs,ex,p,c,n,l,m⟩;subst ex;obtain rfl:r=Value.ref a:=M;exact Fp F p c n l i λO J=>⟨EK,_,J,m⟩
end
section
variable {X:Cx}{DE:oI}{EK:St}{H:Hp}{s:Shared}{A:Around}{E:gV}{Q:gV}{c:Value}{b:Bool}
inductive LI(K:W.Frag)(H:Hp):V->Value->Prop where
 |DS:LI K H .DS (.type "NoneType")
 |bl (x:Bool):LI K H (.bl x) (.type "bool")
 |int (i:Int):LI K H (.int i) (.type "int")
 |str (x:Str):LI K H (.str x) (.type "str")
 |YD (x:UInt64):LI K H (.YD x) (.type "float")
 |lst {a:Addr}{xs:sx}(e:H a=some (.lst xs)):LI K H (.ref a) (.type "list")
 |frz {a:Addr}{o:Obj}{xs:sx}(e:H a=some (.frz o (.lst xs))):LI K H (.ref a) (.type "list")
 |tup {a:Addr}{xs:sx}(e:H a=some (.tup xs)):LI K H (.ref a) (.type "tuple")
 |GN {a:Addr}{xs:sx}(e:LF K a xs):LI K H (.ref a) (.type "tuple")
 |dK {a:Addr}{kvs:List (Key×V)}(e:H a=some (.dK kvs)):LI K H (.ref a) (.type "dict")
 |dT {a:Addr}{kvs:List (List DF×V)}(e:H a=some (.dT kvs)):LI K H (.ref a) (.type "dict")
 |ins {a C dx:Addr}{fs:List (Str×V)}(e:H a=some (.ins C dx fs)) (cl:N4 K C) (ha:W.findIn K (.ref C) "__class__" = some (some (.builtin "object.__class__")))
   (hn:W.specialIn K (.builtin "object.__class__") "__get__" = some (some (.builtin "getset_descriptor.__get__"))) (htk:W.takesIn K (.builtin "object.__class__")=some true)
   (hm:W.mroIn K C (.type "object")=some true):LI K H (.ref a) (.ref C)
end
structure Ee(k:Nat)(A:Around):Prop where
 hd:A.handled=none
 dp:A.depth+3*k+5<recursionLimit
 un:A.units+16*k+200<cLine
def Ee.mono{j k:Nat}(r:Ee k A)(h:j<=k):Ee j A:=⟨r.hd,by have:=r.dp;omega,by have:=r.un;omega⟩
def Ee.deeper{k:Nat}{A:Around}(r:Ee (k+1) A)(env:Env):Ee k (A.deeper env):=
 ⟨r.hd,by have:=r.dp;show A.depth+1+3*k+5<_;omega,by have:=r.un;show A.units+3+16*k+200<_;omega⟩
def Fq{C:Addr}:(A.under (.builtin "type.__call__" ⟨.ref C::us,kw⟩)).depth=A.depth+1:=by
 first|rfl|simp[Around.under,Code.weight,Code.isCreation,Code.isGuard,Code.isCaller,Code.frames,Code.isFrame,guardIds]
def Ft{C:Addr}:(A.under (.builtin "type.__call__" ⟨.ref C::us,kw⟩)).units=A.units+1:=by
 first|rfl|simp[Around.under,Code.cUnits,Code.frames,Code.isFrame]
def Ee.make{k:Nat}(r:Ee (k+1) A)(C:Addr)(us:re)(kw:List (Str×Value)):Ee k (A.under (.builtin "type.__call__" ⟨.ref C::us,kw⟩)):=
 ⟨r.hd,by have:=r.dp;rw[Fq];omega,by have:=r.un;rw[Ft];omega⟩
def Ee.depth{k:Nat}{A:Around}(r:Ee k A):A.depth<recursionLimit:=by have:=r.dp;omega
def Ee.units{k:Nat}{A:Around}(r:Ee k A):A.units+64<cLine:=by have:=r.un;omega
def bu:TA:=λ_ H Q=>Q [] H
def aL(ta:TE)(tr:TA):TA:=fun EK H Q=>ta EK H λx H1=>tr EK H1 λxs H2=>Q (x::xs) H2
section
variable {X:Cx}{e:Expr}{es:rh}{te:TE}{t:TA}{pos:Pos}
def aM:PA X [] bu:=λ_ _ _ _ H Q I h=>g9 ⟨[],H,I,.nil,h⟩
def aB(r:PE X e te)(y:PA X es t)(p:autoParam (GB X e es) r0_):PA X (e::es) (aL te t):=by
 intro pos DE s EK H Q I h;rw[p];show wpAny _ _ (spliced ((false,eval e X.env)::backTo pos (starEach es X.env))) _ _ s;refine gd (D8 (r DE s EK H _ I h) ?_);rintro u n ⟨x,H1,j,m,z⟩;exact D8 (y pos DE n EK H1 _ j z) λus B ⟨xs,H2,q,l,i⟩=>⟨x::xs,H2,q,.cons m l,i⟩
def qe(t:TA):TE:=fun EK H Q=>t EK H λxs H1=>xs.length<=sizeLine/\∀p,H1 p=none->Q (.ref p) (upd H1 p (.tup xs))
def mQ(t:TA):TE:=fun EK H Q=>t EK H λxs H1=>xs.length<=sizeLine/\∀p,H1 p=none->Q (.ref p) (upd H1 p (.lst xs))
def jt{x1}(h:PA X es t):PE X (.Tuple es x1 pos) (qe t):=by
 intro DE s EK H Q I m;refine wpAny_Tuple_spliced (D8 (h pos DE s EK H _ I m) λus i ⟨xs,H1,j,r,z,q⟩=>⟨by rw[←r.length];exact z,?_⟩);have l:H1 i.heap.objs.size=none:=j.DV.fresh (ax _);refine⟨.ref i.heap.objs.size,upd H1 i.heap.objs.size (.tup xs),j.laid (t':=i.toks) (λb u e=>ae _ e) (ax _) ?_,rfl,q _ l⟩;exact⟨z,us,r,⟨_,av _ rfl,rfl,_,rfl,rfl⟩⟩
def ju(h:PA X es t):PE X (.List es pos) (mQ t):=by
 intro DE s EK H Q I m;refine wpAny_List_spliced (D8 (h pos DE s EK H _ I m) λus i ⟨xs,H1,j,r,z,q⟩=>⟨by rw[←r.length];exact z,?_⟩);have l:H1 i.heap.objs.size=none:=j.DV.fresh (ax _);refine⟨.ref i.heap.objs.size,upd H1 i.heap.objs.size (.lst xs),j.laid (t':=i.toks) (λb u e=>ae _ e) (ax _) ?_,rfl,q _ l⟩;exact⟨z,us,0,r,av _ rfl⟩
end
abbrev Sp:=List V->Hp->VK->XK->Prop
abbrev QU:=List Env->Hp->Shared->XK->Value->Shared->Prop
structure OK(P:Program)(w:World)(K:W.Frag)(mg:rX)(base:Heap)(A:Around)(outer:List Env)(s:Shared)(H:Hp):Prop where
 frames:A.frames=some outer
 mod:Mod K mg base
 bs:∀b o,base.get? b=some o->s.heap.get? b=some o/\H b=none
 WZ:base.objs.size<=s.heap.objs.size
 IT:s.heap.FunFrames base outer
 X3:∀b∈EW outer,H b=none
 DV:GY P w K H s.heap
 bare:AllBare s.gens
def CE(outer:List Env)(P:Program)(w:World)(K:W.Frag)(H:Hp)(s:Shared)(Q:VK)(u:Value)(s':Shared):Prop:=
 ∃v H',s'.os=s.os/\AllBare s'.gens/\Un (EW outer) [] H H' s.heap s'.heap/\GY P w K H' s'.heap/\RelV v u/\Q v H'
def CR(CX:QU)(outer:List Env)(P:Program)(w:World)(K:W.Frag)(H:Hp)(s:Shared)(Q:VK)(E:XK)(r:Result)(s':Shared):Prop:=
 match r with
 |.ok (.ret u)=>CE outer P w K H s Q u s'
 |.ok _=>False
 |.error e=>CX outer H s E e s'
structure EC(P:Program)(w:World)(K:W.Frag)(mg:rX)(base:Heap)(CX:QU)(k:Nat)(f:Addr)(fd:FuncData)(ps:rj)(sp:Sp):Prop where
 len:∀vs H Q E,sp vs H Q E->vs.length=ps.length
 run:∀(A:Around) (outer:List Env) (s:Shared) (H:Hp) (args:Args) (us:re) (vs:sx) (Q:VK) (E:XK),Ee k A->OK P w K mg base A outer s H->BindsTo s fd args (ps.zip us)->Vals vs us->sp vs H Q E->
  codeAny (model P w) A (.call (.ref f) args) (CR CX outer P w K H s Q E) s
def EC.imp{m:rX}{base:Heap}{CX:QU}{k:Nat}{f:Addr}{n:FuncData}{ps:rj}{sp l:Sp}(F:EC P w K m base CX k f n ps sp)
  (h:∀vs H Q E,l vs H Q E->sp vs H Q E):EC P w K m base CX k f n ps l:=
 ⟨λvs H Q E q=>F.len vs H Q E (h _ _ _ _ q),λA i s H j us vs Q E B p r z y=>F.run A i s H j us vs Q E B p r z (h _ _ _ _ y)⟩
def OK.make{j:rX}{base:Heap}{i:List Env}{s:Shared}(e:OK P w K j base A i s H)(C:Addr)(us:re)(kw:List (Str×Value)):
  OK P w K j base (A.under (.builtin "type.__call__" ⟨.ref C::us,kw⟩)) i s H:=⟨by first|exact e.frames|(simpa[Around.under,Code.envs,Code.isFrame,pushEnvs]using e.frames),e.mod,e.bs,e.WZ,e.IT,e.X3,e.DV,e.bare⟩
section
variable {X:Cx}{DE:oI}{EK:St}{H:Hp}{s s':Shared}
def Inv.YK(I:Inv X DE EK H s):OK X.prog X.w X.K X.mg X.base X.A X.stack s H:=
 ⟨I.ok.frames,I.ok.mod,I.bs,df I.ok.WZ I.sz,I.stack,I.LU,I.DV,I.bare⟩
def Inv.after{Q:VK}(I:Inv X DE EK H s)(h:CE X.stack X.prog X.w X.K H s Q u s'):EP X DE EK Q u s':=by
 obtain⟨v,H',os,i,un,l,r,q⟩:=h;obtain⟨m,g,d,t,j⟩:=s';obtain rfl:j=s.os:=os;exact⟨v,H',I.call (h':=m) (g':=g) (d':=d) (t':=t) (ch:=[]) un l i (λb z=>absurd z (by simp)),r,q⟩
end
def eZ(sp:Sp)(MI:sx)(E:XK)(t:TA):TE:=fun EK H Q=>t EK H λvs H1=>sp (vs++MI) H1 Q E
def l_(C:Addr)(m:Str)(sp:Sp)(MI:sx)(E:XK)(ta:TE)(t:TA):TE:=fun EK H Q=>ta EK H λx H1=>∃a dx fs,x=.ref a/\H1 a=some (.ins C dx fs)/\fs.lookup m=none /\
 t EK H1 λvs H2=>sp (x::(vs++MI)) H2 Q E
def vH(C:Addr)(sp:Sp)(MI:sx)(E:XK)(t:TA):TE:=fun EK H Q=>t EK H λvs H1=>∀x dx,H1 x=none->H1 dx=none->dx≠x->
 sp (.ref x::(vs++MI)) (upd (upd H1 dx (.own x)) x (.ins C dx [])) (λv H2=>v=.DS/\Q (.ref x) H2) E
def Binds(K:W.Frag)(fd:FuncData)(ps:rj)(ds:re):Prop:=
 ∀(s:Shared) (us:re),K.In s.heap->(us++ds).length=ps.length->BindsTo s fd ⟨us,[]⟩ (ps.zip (us++ds))
def Binds.all{i:FuncData}{ps:rj}(h:∀us:List Value,us.length=ps.length->bindArgs i ⟨us,[]⟩=pure (ps.zip us)):Binds K i ps []:=λs us _ j=>by
 rw[cy]at j ⊢;exact .of_eq (h us j)
def pH(CX:QU)(X:Cx)(E:XK):Prop:=∀(DE:oI) (EK:St) (H:Hp) (s:Shared) (e:Value) (s':Shared),Inv X DE EK H s->CX X.stack H s E e s'->X.xe e s'
section
variable {X:Cx}{CX:QU}{k:Nat}{f C:Addr}{fd:FuncData}{ps:rj}{sp:Sp}{MI:sx}{ds:re}{E:XK}{x m:Str}{p pos apos:Pos}{e o:Expr}{es:rh}{ta:TE}{t:TA}
def zQ{s:Shared}{Q:VK}{vs:sx}(F:EC X.prog X.w X.K X.mg X.base CX k f fd ps sp)(q:Ee k X.A)(y:Binds X.K fd ps ds)(z:Vals MI ds)(n:pH CX X E)
  (I:Inv X DE EK H s) (r:Vals vs us) (h:sp (vs++MI) H Q E):wpAny (model X.prog X.w) X.A (call (.ref f) us) (EP X DE EK Q) X.xe s:=by
 have j:Vals (vs++MI) (us++ds):=r.append z;have B:(us++ds).length=ps.length:=by rw[←j.length];exact F.len _ _ _ _ h
 refine wpAny_call (jI (F.run X.A X.stack s H ⟨us,[]⟩ (us++ds) (vs++MI) Q E q I.YK (y s us I.HI B) j h) λr s' i=>?_);cases r with
 |error e=>exact n DE EK H s e s' I i
 |ok l=>
  cases l with
  |ret u=>exact I.after i
  |next=>exact False.elim i
  |brk=>exact False.elim i
  |cont=>exact False.elim i
def Ot(F:EC X.prog X.w X.K X.mg X.base CX k f fd ps sp)(M:Ee k X.A)(j:Gl X x)(D:X.mg x=some (.ref f))(y:W.keepIn X.K (.ref f)=true)(z:Binds X.K fd ps ds)(B:Vals MI ds)(n:pH CX X E)
  (J:PA X (e::es) t) (G:autoParam (GG x) r1_) (l:autoParam (GB X e es) r0_) (L:autoParam (JI X pos es) r0_):
  PE X (.Call (.Name x p) (e::es) [] pos) (eZ sp MI E t):=by
 intro DE s EK H Q I h;refine e8 (mH I j D ?_ G);refine ij (h₀:=X.base) I.ok.mod.IS y (D8 (J pos DE s EK H _ I h) λus N ⟨vs,H1,i,r,q⟩=>⟨i.HI,?_⟩) l L;exact zQ F M z B n i r q
def Dz{pl:Sem Bool}(M:PE X o ta)(c:N4 X.K C)(j:Meth X.K C m f)(F:EC X.prog X.w X.K X.mg X.base CX k f fd ps sp)(Y:Ee k X.A)(z:Binds X.K fd ps ds)(B:Vals MI ds)(O:pH CX X E)(T:PA X (e::es) t)
  (N:autoParam (GB X e es) r0_) (G:autoParam (JI X pos es) r0_)
  (y:eval (.Call (.Attribute o m apos) (e::es) [] pos) X.env=(do
   let ov ←eval o X.env
   standAt apos.atName
   let (f,first) ←holding [ov] (getMethod ov m pl)
   callWith pos f first (backTo pos (starEach (e::es) X.env)) (backToKw pos (keywordEach [] X.env))):=by rfl):
  PE X (.Call (.Attribute o m apos) (e::es) [] pos) (l_ C m sp MI E ta t):=by
 intro DE s EK H Q I h;refine W.methodCall_KW (pl:=pl) (D8 (M DE s EK H _ I h) ?_) y;rintro u D ⟨x,H1,i,U,a,dx,fs,ex,L,l,q⟩;subst ex;obtain rfl:u=Value.ref a:=U;refine Fo i L c j l ?_;refine ij (first:=[.ref a]) (h₀:=X.base) I.ok.mod.IS j.kp (D8 (T pos DE D EK H1 _ i q) λus Z ⟨vs,H2,n,r,J⟩=>⟨n.HI,?_⟩) N G;exact zQ (us:=.ref a::us) (vs:=.ref a::vs) F Y z B O n (.cons rfl r) J
structure Mk(K:W.Frag)(C f:Addr):Prop where
 makes:W.makesIn K C=true
 init:W.findIn K (.ref C) "__init__" = some (some (.ref f))
 fn:W.isFn K (.ref f)=true
 kp:W.keepIn K (.ref C)=true
def Kd{s:Shared}{Q:VK}{vs:sx}(M:Mk X.K C f)(F:EC X.prog X.w X.K X.mg X.base CX k f fd ps sp)(L:Ee (k+1) X.A)(z:Binds X.K fd ps ds)(B:Vals MI ds)
  (y:pH CX X E) (I:Inv X DE EK H s) (r:Vals vs us)
  (h:∀x dx,H x=none->H dx=none->dx≠x->sp (.ref x::(vs++MI)) (upd (upd H dx (.own x)) x (.ins C dx [])) (λv H2=>v=.DS/\Q (.ref x) H2) E):
  wpAny (model X.prog X.w) X.A (call (.ref C) us) (EP X DE EK Q) X.xe s:=by
 have n:=h (s.heap.objs.size+1) s.heap.objs.size (I.DV.fresh (hJ _)) (I.DV.fresh (ax _)) (bP (ia _));have j:=Inv.made (C:=C) I;have l:Vals (V.ref (s.heap.objs.size+1)::(vs++MI)) (Value.ref (s.heap.objs.size+1)::(us++ds)):=.cons rfl (r.append B);have O:(Value.ref (s.heap.objs.size+1)::us++ds).length=ps.length:=by
  have e:=l.length;rw[F.len _ _ _ _ n]at e;exact e.symm
 refine wpAny_call (Kc (f:=f) I.HI M.makes M.init (hU.mp M.fn) (jI (F.run _ X.stack _ _ ⟨Value.ref (s.heap.objs.size+1)::us,[]⟩ (Value.ref (s.heap.objs.size+1)::(us++ds)) _ _ E (L.make C us [])
  (j.YK.make C us []) (z _ (Value.ref (s.heap.objs.size+1)::us) j.HI O) l n) λr s' i=>?_))
 cases r with
 |error e=>exact y DE EK _ _ e s' j i
 |ok q=>
  cases q with
  |ret u=>
   obtain⟨v,H',G,D,J,N⟩:=j.after i;subst J;exact⟨D,⟨V.ref (s.heap.objs.size+1),H',G,rfl,N⟩⟩
  |next=>exact False.elim i
  |brk=>exact False.elim i
  |cont=>exact False.elim i
def Ou(M:Mk X.K C f)(F:EC X.prog X.w X.K X.mg X.base CX k f fd ps sp)(L:Ee (k+1) X.A)(j:Gl X x)(B:X.mg x=some (.ref C))(y:Binds X.K fd ps ds)(z:Vals MI ds)(n:pH CX X E)
  (G:PA X (e::es) t) (D:autoParam (GG x) r1_) (l:autoParam (GB X e es) r0_) (J:autoParam (JI X pos es) r0_):
  PE X (.Call (.Name x p) (e::es) [] pos) (vH C sp MI E t):=by
 intro DE s EK H Q I h;refine e8 (mH I j B ?_ D);refine ij (h₀:=X.base) I.ok.mod.IS M.kp (D8 (G pos DE s EK H _ I h) λus N ⟨vs,H1,i,r,q⟩=>⟨i.HI,?_⟩) l J;exact Kd M F L y z n i r q
end
structure DJ(N P:rj)(sc:Scope):Prop where
 kind:sc.kind=.function
 co:sc.isCoroutine=false
 gen:sc.isGenerator=false
 nd:N.Nodup
 pre:N.take P.length=P
 par:∀x∈P,sc.names.lookup x=some .local\/sc.names.lookup x=some .cell
 YL:∀y∈sc.names,y.2≠.free
theorem yj{i:Str->Option NameKind}{x:Str}:∀{binds:List (Str×Value)}{m:rX},(∀v,(x,v)∉binds)->bindL i binds m x=m x
 |[],_,_=>rfl
 |(n,v)::r,m,h=>by
  unfold bindL;rw[yj λw j=>h w (aI _ j)];split
  ·have:x≠n:=by rintro rfl;exact h v bp
   simp[this]
  ·rfl
theorem ym{i:Str->Option NameKind}{x:Str}:∀{binds:List (Str×Value)}{m:rX},(∀v,(x,v)∉binds)->bindC i binds m x=m x
 |[],_,_=>rfl
 |(n,v)::r,m,h=>by
  unfold bindC;rw[ym λw j=>h w (aI _ j)];split
  ·rfl
  ·have:x≠n:=by rintro rfl;exact h v bp
   simp[this]
theorem yo{j:Str->Option NameKind}{x:Str}{v:Value}:∀{P:rj}{vs:re}{i:Nat}{m:rX},P.Nodup->P[i]?=some x->vs[i]?=some v->j x=some .local->
  bindL j (P.zip vs) m x=some v
 |[],_,_,_,_,h,_,_=>by simp at h
 |_::_,[],_,_,_,_,h,_=>by simp at h
 |p::P,w::vs,0,m,nd,h1,h2,hk=>by
  simp at h1 h2;subst h1;subst h2;show bindL j ((p,w)::P.zip vs) m p=_;unfold bindL;rw[yj λv l=>(lI.mp nd).1 (pj l).1,bX hk];simp
 |p::P,w::vs,i+1,m,nd,h1,h2,hk=>by
  show bindL j ((p,w)::P.zip vs) m x=_;unfold bindL;exact yo (i:=i) (lI.mp nd).2 (by simpa using h1) (by simpa using h2) hk
theorem yp{j:Str->Option NameKind}{x:Str}{v:Value}:∀{P:rj}{vs:re}{i:Nat}{m:rX},P.Nodup->P[i]?=some x->vs[i]?=some v->j x≠some .local->
  bindC j (P.zip vs) m x=some v
 |[],_,_,_,_,h,_,_=>by simp at h
 |_::_,[],_,_,_,_,h,_=>by simp at h
 |p::P,w::vs,0,m,nd,h1,h2,hk=>by
  simp at h1 h2;subst h1;subst h2;show bindC j ((p,w)::P.zip vs) m p=_;unfold bindC;rw[ym λv l=>(lI.mp nd).1 (pj l).1,bt hk];simp
 |p::P,w::vs,i+1,m,nd,h1,h2,hk=>by
  show bindC j ((p,w)::P.zip vs) m x=_;unfold bindC;exact yp (i:=i) (lI.mp nd).2 (by simpa using h1) (by simpa using h2) hk
def start(N:rj)(vs:sx):St:=vs.map some++List.replicate (N.length - vs.length) none
def cD(CX:QU)(P:Program)(w:World)(K:W.Frag)(mg:rX)(base:Heap)(N:rj)(qual:Str)(scope:Scope)(f:Addr)(cd:Value)(A:Around)(outer:List Env)(s:Shared)(H:Hp)(E:XK):Cx where
 prog:=P
 w:=w
 K:=K
 mg:=mg
 base:=base
 A:=A.deeper (envOfC qual scope s.heap.objs.size f cd)
 N:=N
 s₀:=s
 H₀:=H
 env:=envOfC qual scope s.heap.objs.size f cd
 outer:=outer
 stack:=envOfC qual scope s.heap.objs.size f cd::outer
 ex:=[]
 calm:=true
 fn:=λ_=>true
 pn:=[]
 xe:=λe s'=>wpAny (model P w) (A.deeper (envOfC qual scope s.heap.objs.size f cd)) (leaving (envOfC qual scope s.heap.objs.size f cd) e) (λ_ N9=>CX outer H s E e N9) (λe' N9=>CX outer H s E e' N9) s'
def zR{i:Scope}{n:Nat}{x:Str}(h:i.names.lookup x=some .cell):∃c,(cellsFrom n i.names []).lookup x=some c:=by
 have q:=oQ i.names n [] (.inl h);exact kq.mp q
def HS{CX:QU}{M:rX}{base:Heap}{N ps:rj}{B:Str}{j:Scope}{f:Addr}{L:Value}{l:List Env}{s O:Shared}{E:XK}{vs:sx}
  (S:DJ N ps j) (Y:A.handled=none) (D:OK P w K M base A l s H) (hl:vs.length=ps.length) (r:Vals vs us)
  (x:InCallC s s.heap.objs.size (bindL (envOfC B j s.heap.objs.size f L).kindOf (ps.zip us) λ_=>none) (cellsFrom (s.heap.objs.size+1) j.names []) (bindC (envOfC B j s.heap.objs.size f L).kindOf (ps.zip us) λ_=>none) O):
  Inv (cD CX P w K M base N B j f L A l s H E) [] (start N vs) H O:=by
 have ES:ps.length<=N.length:=by have:=iA List.length S.pre;rw[jS]at this;omega
 obtain⟨h1,tk,rfl,U⟩:=x.done;have F:∀b:Addr,b∉(cD CX P w K M base N B j f L A l s H E).ex:=λb z=>absurd (show b∈([]:rS)from z) (by simp);refine⟨⟨D.mod,S.kind,rfl,rfl,ax _,λy z c h1 h2=>?_,λy G=>?_,λy c _ h=>?_,λ_=>Y,Around.frames_deeper D.frames,.inr ⟨rfl,rfl⟩,λb z=>absurd z (F b),D.bs,D.WZ,λb _ _=>F b,λb z=>absurd z (F b),D.IT,D.X3⟩,
  rfl,D.bare,Un.kept U,⟨_,x.toInCall.ns,λi y v h1 h2 h3=>?_⟩,λy c h=>⟨_,x.cell y c h⟩,D.DV.fresh (ax _),λy c h=>?_,λp I=>absurd (show p∈([]:oI)from I) (by simp),D.DV.kept U,?_⟩
 ·exact name_of_addr x.apart (PySem.mem_of_lookup h1) (PySem.mem_of_lookup h2)
 ·have G:j.names.lookup y=some .cell\/j.names.lookup y=some .free:=G
  rcases G with G|G
  ·exact zR G
  ·exact absurd rfl (S.YL _ (PySem.mem_of_lookup G))
 ·exact gg (x.above y c (PySem.mem_of_lookup h))
 ·have J:i<vs.length:=by
   unfold start at h2;by_cases J:i<vs.length
   ·exact J
   ·rw[i8 (by simpa using J)]at h2
    rw[nX]at h2;split at h2<;>cases h2
  have ha:vs[i]?=some v:=by
   unfold start at h2;rw[dP (by simpa using J),cp]at h2;cases e:vs[i]? with
   |none=>rw[e]at h2;cases h2
   |some a=>rw[e]at h2;cases h2;rfl
  obtain⟨u,T,Z⟩:=r.get ha;have I:ps[i]?=some y:=by
   rw[←S.pre,List.getElem?_take_of_lt (by omega)];exact h1
  have IM:ps.Nodup:=by rw[←S.pre];exact S.nd.sublist (List.take_sublist _ _)
  refine⟨u,Z,?_⟩;rcases S.par y (et I)with k|k
  ·exact .inl ⟨k,yo IM I T k⟩
  ·obtain⟨c,e⟩:=zR (n:=s.heap.objs.size+1) k
   refine .inr ⟨.inl k,c,e,?_⟩;have q:=x.cell y c e;rw[yp IM I T (by show j.names.lookup y≠_;rw[k];decide)]at q;exact q
 ·exact D.DV.fresh (gg (x.above y c (PySem.mem_of_lookup h)))
 ·unfold start
  show _=N.length;rw[ci,ay,pz];omega
def Nf{CX:QU}{T:rX}{base:Heap}{k:Nat}{f:Addr}{name l:Str}{z:Arguments}{body:rg}{i:Scope}{dV kV M pm D ct oc:Value}{an od:Option Addr}
  {Xm:Array (Option Value)}{N ps:rj}{sp:Sp}(lk:K.lookup f=some ⟨oc,od,.func (W.fnOf name l z body i dV kV M pm an D ct),Xm⟩) (GI:W.codeIn K D l=true) (S:DJ N ps i)
  (len:∀vs H Q E,sp vs H Q E->vs.length=ps.length)
  (NN:∀(A:Around) (j:List Env) (s:Shared) (H:Hp) (vs:sx) (Q:VK) (E:XK),Ee k (A.deeper (envOfC l i s.heap.objs.size f D))->sp vs H Q E->
   ∃t,FX (cD CX P w K T base N l i f D A j s H E) body t/\t {nx:=λ_ H'=>Q .DS H',rt:=Q} (start N vs) H):
  EC P w K T base CX (k+1) f (W.fnOf name l z body i dV kV M pm an D ct) ps sp:=by
 refine⟨len,λA j s H args us vs Q E Z G hb r QY=>?_⟩;have hl:=len _ _ _ _ QY;have KX:K.In s.heap:=G.mod.IS.keeps λb o e=>(G.bs b o e).1;have Y:s.heap.NoLimit:=G.mod.nolimit.keeps λb o e=>(G.bs b o e).1;have B:∀y∈ps.zip us,i.names.lookup y.1=some .local\/(i.names.lookup y.1=some .cell/\((cellsFrom (s.heap.objs.size+1) i.names []).lookup y.1).isSome=true):=by
  rintro⟨n,v⟩ hy;rcases S.par n (pj hy).1 with q|q
  ·exact .inl q
  ·exact .inr ⟨q,oQ _ _ _ (.inl q)⟩
 refine codeAny_call_function Z.depth (KX _ _ lk) rfl S.co S.gen rfl (W.codeRec_of KX GI) (hb _ _ _ _ ?_);refine wpAny_newFunctionEnv_cells S.kind B λenv he s1 x=>?_;subst he;refine⟨Y.keeps x.toInCall.keep,codeAny_func ?_⟩;obtain⟨t,ht,hq⟩:=NN A j s H vs Q E (Z.deeper _) QY;have I:Inv (cD CX P w K T base N l i f D A j s H E) [] (start N vs) H s1:=HS S Z.hd G hl r x;refine cS (ht [] s1 (start N vs) H _ I hq) (λfl s' F=>?_) λe s' F=>F;have L:∀{O:St}{H':Hp}{v:V}{u:Value},Inv (cD CX P w K T base N l i f D A j s H E) [] O H' s'->RelV v u->Q v H'->CE j P w K H s Q u s':=
  λ{O H' v u} J U q=>⟨v,H',J.os,J.bare,J.base,J.DV,U,q⟩
 cases fl with
 |ret u=>
  obtain⟨v,O,H',J,U,q⟩:=F;exact L J U q
 |next=>
  obtain⟨O,H',J,q⟩:=F;exact L (v:=V.DS) (u:=Value.none) J rfl q
 |brk=>
  obtain⟨_,_,_,q⟩:=F;exact False.elim q
 |cont=>
  obtain⟨_,_,_,q⟩:=F;exact False.elim q
section
variable {X:Cx}{x:Str}{p pos:Pos}{e:Expr}{es:rh}{t:TA}{id T:String}{r:List V->Hp->VK->Prop}
def X9(r:List V->Hp->VK->Prop)(t:TA):TE:=fun EK H Q=>t EK H λvs H1=>r vs H1 Q
def eX(q:EE X (.builtin id) r)(j:Gl X x)(B:X.mg x=none)(F:bootBuiltins x=some (.builtin id))(G:PA X (e::es) t)(y:x ≠ "__name__" := by decide)(D:autoParam (GG x) r1_)
  (l:autoParam (GB X e es) r0_) (J:autoParam (JI X pos es) r0_):PE X (.Call (.Name x p) (e::es) [] pos) (X9 r t):=by
 intro DE s EK H Q I h;refine e8 (fB I j B F ?_ y D);exact PyProof.Rows.callWith_builtin1 (D8 (G pos DE s EK H _ I h) λus z ⟨vs,H1,i,n,L⟩=>q DE z EK H1 vs us Q i n L) l J
def rT(q:EE X (.type T) r)(j:Gl X x)(B:X.mg x=none)(F:bootBuiltins x=some (.type T))(G:PA X (e::es) t)(y:x ≠ "__name__" := by decide)(D:autoParam (GG x) r1_)
  (l:autoParam (GB X e es) r0_) (J:autoParam (JI X pos es) r0_):PE X (.Call (.Name x p) (e::es) [] pos) (X9 r t):=by
 intro DE s EK H Q I h;refine e8 (fB I j B F ?_ y D);exact cf (D8 (G pos DE s EK H _ I h) λus z ⟨vs,H1,i,n,L⟩=>q DE z EK H1 vs us Q i n L) l J
end
section
variable {κ:Type}[DecidableEq κ]
noncomputable def cH(kvs:List (κ×V))(k:κ):Option V:=(kvs.find? λkv=>decide (kv.1=k)).map (·.2)
noncomputable def putK(kvs:List (κ×V))(k:κ)(v:V):List (κ×V):=
 if(kvs.any λkv=>decide (kv.1=k))=true then kvs.map (λkv=>if kv.1=k then(kv.1,v)else kv)else kvs++[(k,v)]
noncomputable def oE(kvs:List (κ×V))(k:κ):List (κ×V):=kvs.filter λkv=>decide (kv.1≠k)
def cZ{p:κ×V}{r:List (κ×V)}{k:κ}(e:p.1=k):cH (p::r) k=some p.2:=by simp[cH,iF,e]
def dg{p:κ×V}{r:List (κ×V)}{k:κ}(e:¬ p.1=k):cH (p::r) k=cH r k:=by simp[cH,iF,e]
theorem qg(k:κ):∀kvs:List (κ×V),(kvs.any λi=>decide (i.1=k))=(cH kvs k).isSome
 |[]=>rfl
 |p::r=>by
  rw[ft];by_cases e:p.1=k
  ·simp only[cZ e,fe e,Bool.true_or,Option.isSome_some]
  ·rw[dg e,ed e,Bool.false_or];exact qg k r
theorem zT(k j:κ)(y:V):∀kvs:List (κ×V),cH (kvs.map λi=>if i.1=k then(i.1,y)else i) j=(cH kvs j).map λx=>if j=k then y else x
 |[]=>rfl
 |p::r=>by
  have l:=zT k j y r;rw[bb];by_cases h:p.1=k
  ·rw[bX h]
   by_cases e:p.1=j
   ·rw[cZ (p:=(p.1,y)) e,cZ e,iL,bX (e.symm.trans h)]
   ·rw[dg (p:=(p.1,y)) e,dg e,l]
  ·rw[bt h]
   by_cases e:p.1=j
   ·rw[cZ (p:=p) e,cZ e,iL,bt (λz=>h (e.trans z))]
   ·rw[dg (p:=p) e,dg e,l]
theorem yq(k j:κ)(y:V):∀kvs:List (κ×V),cH kvs k=none->cH (kvs++[(k,y)]) j=if j=k then some y else cH kvs j
 |[],_=>by
  by_cases e:k=j
  ·rw[bX e.symm];exact cZ (p:=(k,y)) e
  ·rw[bt (λz=>e z.symm)];exact dg (p:=(k,y)) e
 |p::r,hn=>by
  rw[og];have i:¬ p.1=k:=λz=>by rw[cZ z]at hn;cases hn
  rw[dg i]at hn;have l:=yq k j y r hn;by_cases e:p.1=j
  ·rw[cZ e,cZ e,bt (λz=>i (e.trans z))]
  ·rw[dg e,dg e,l]
def uJ(kvs:List (κ×V))(k j:κ)(y:V):cH (putK kvs k y) j=if j=k then some y else cH kvs j:=by
 unfold putK;by_cases a:(kvs.any λi=>decide (i.1=k))=true
 ·rw[bX a,zT]
  rw[qg]at a;by_cases e:j=k
  ·obtain⟨x,l⟩:=kq.mp a
   rw[bX e,e,l,iL,bX rfl]
  ·rw[bt e]
   cases cH kvs j with
   |none=>rfl
   |some x=>rw[iL,bt e]
 ·rw[bt a]
  refine yq k j y kvs ?_;rw[qg]at a;cases q:cH kvs k with
  |none=>rfl
  |some x=>rw[q]at a;exact(a rfl).elim
def uw(kvs:List (κ×V))(k:κ)(v:V):(putK kvs k v).length<=kvs.length+1:=by
 unfold putK;split
 ·rw[ay];omega
 ·rw[ci,cv,gs];omega
def GA.Ki{o:Option V}{u:Option Value}(r:GA o u):o.isSome=u.isSome:=by
 cases o with
 |none=>cases u with
  |none=>rfl
  |some _=>exact(show False from r).elim
 |some _=>cases u with
  |none=>exact(show False from r).elim
  |some _=>rfl
def GA.getD{o:Option V}{u:Option Value}{d:V}{d':Value}(r:GA o u)(i:RelV d d'):RelV (o.getD d) (u.getD d'):=by
 cases o with
 |none=>cases u with
  |none=>exact i
  |some _=>exact(show False from r).elim
 |some _=>cases u with
  |none=>exact(show False from r).elim
  |some _=>exact r
def KV.val{kvs:List (κ×V)}{vs:List (κ×Value)}(r:KV kvs vs)(k:κ):GA (cH kvs k) (valueAt vs k):=by
 unfold KV at r;induction r with
 |nil=>exact ii
 |@cons p q ps i h t l=>
  obtain⟨h1,h2⟩:=h;by_cases e:p.1=k
  ·have j:q.1=k:=h1.symm.trans e
   have b:valueAt (q::i) k=some q.2:=by simp[valueAt,iF,j]
   rw[cZ e,b];exact h2
  ·have j:¬ q.1=k:=λz=>e (h1.trans z)
   have b:valueAt (q::i) k=valueAt i k:=by simp[valueAt,iF,j]
   rw[dg e,b];exact l
def KV.any{kvs:List (κ×V)}{vs:List (κ×Value)}(r:KV kvs vs)(k:κ):(kvs.any λi=>decide (i.1=k))=vs.any λi=>decide (i.1=k):=by
 unfold KV at r;induction r with
 |nil=>rfl
 |cons h t j=>rw[ft,ft,j,h.1]
def KV.YM{kvs:List (κ×V)}{vs:List (κ×Value)}(r:KV kvs vs)(k:κ){y:V}(j:RelV y u):
  KV (kvs.map λi=>if i.1=k then(i.1,y)else i) (vs.map λi=>if i.1=k then(i.1,u)else i):=by
 unfold KV at r ⊢;induction r with
 |nil=>exact .nil
 |@cons p q ps n h t l=>
  rw[bb,bb];refine .cons ?_ l;obtain⟨h1,h2⟩:=h;by_cases e:p.1=k
  ·rw[bX e,bX (h1.symm.trans e)];exact⟨h1,j⟩
  ·rw[bt e,bt (λz=>e (h1.trans z))];exact⟨h1,h2⟩
def KV.put{kvs:List (κ×V)}{vs:List (κ×Value)}(r:KV kvs vs)(k:κ){y:V}(i:RelV y u):KV (putK kvs k y) (stored vs k u):=by
 unfold putK stored;rw[r.any k];by_cases e:(vs.any λj=>decide (j.1=k))=true
 ·rw[bX e,bX e];exact r.YM k i
 ·rw[bt e,bt e];exact Paired.snoc r ⟨rfl,i⟩
def KV.drop{kvs:List (κ×V)}{vs:List (κ×Value)}(r:KV kvs vs)(k:κ):KV (oE kvs k) (without vs k):=by
 unfold KV at r ⊢;unfold oE without;induction r with
 |nil=>exact .nil
 |@cons p q ps l h t i=>
  obtain⟨h1,h2⟩:=h;rw[k9,k9];by_cases e:p.1=k
  ·have a:¬ decide (p.1≠k)=true:=by simp[e]
   have b:¬ decide (q.1≠k)=true:=by simp[h1.symm.trans e]
   rw[bt a,bt b];exact i
  ·have j:¬ q.1=k:=λz=>e (h1.trans z)
   have a:decide (p.1≠k)=true:=by simp[e]
   have b:decide (q.1≠k)=true:=by simp[j]
   rw[bX a,bX b];exact .cons ⟨h1,h2⟩ i
def KV.length{kvs:List (κ×V)}{vs:List (κ×Value)}(r:KV kvs vs):kvs.length=vs.length:=iO r
def Ke(kvs:List (κ×V))(k:κ):(oE kvs k).length<=kvs.length:=gy _ _
end
def vI{k:Key}(r:RelV (kV k) u):(fc P w).is k u=true:=by
 cases k with
 |inl i=>obtain⟨t,e⟩:=(show ∃t,u=Value.int i t from r);subst e;exact CZ P w i t
 |inr x=>obtain⟨t,e⟩:=(show ∃t,u=Value.str x t from r);subst e;exact C_ P w x t
def zU{k:Key}(r:RelV (kV k) u):du k u=true:=by
 cases k with
 |inl i=>obtain⟨t,e⟩:=(show ∃t,u=Value.int i t from r);subst e;exact ou (rG i t)
 |inr x=>obtain⟨t,e⟩:=(show ∃t,u=Value.str x t from r);subst e;exact ou (rH x t)
theorem oV{j q i:Type}{F:j->q->Prop}{G:q->i->Prop}{R:j->i->Prop}(f:∀a b c,F a b->G b c->R a c):∀{l:List j}{m:List q}{n:List i},Paired F l m->Paired G m n->Paired R l n
 |_,_,_,.nil,.nil=>.nil
 |_,_,_,.cons h t,.cons h' t'=>.cons (f _ _ _ h h') (oV f t t')
def Ng{d:Nat}{vs:sx}(i:KB ks vs)(r:Vals vs us):Paired (F9 d h) ks us:=by
 obtain⟨x,b,rfl,rfl⟩:=i;cases r with
 |cons h1 t=>cases t with
  |cons h2 t=>
   cases t;cases(show _=Value.bool b from h2);exact .cons (.leaf (zU (k:=.inr x) h1)) (.cons (.leaf (CW b)) .nil)
theorem Nh{P:Program}{w:World}{K:W.Frag}{H:Hp}{h:Heap}(B:K.In h)(ok:GY P w K H h):∀(d:Nat) (n:DF) (v:V) (u:Value),NV K H d n v->RelV v u->F9 d h n u
 |0,n,v,u,⟨x,e,i⟩,r=>by subst e i;exact⟨x,rfl,zU r⟩
 |d+1,n,v,u,q,r=>by
  rcases q with⟨x,e,i⟩|⟨ns,a,vs,e,i,ta,q⟩
  ·subst e i;exact .inl ⟨x,rfl,zU r⟩
  ·subst e i
   cases(show u=Value.ref a from r);refine .inr ⟨ns,a,rfl,rfl,?_⟩;have j:∀us:List Value,Vals vs us->Paired (F9 d h) ns us:=λus z=>q.elim (λp=>oV (λx y c h1 h2=>Nh B ok d x y c h1 h2) p z) λp=>Ng p z;rcases ta with e|⟨o,l,n,e1,e2,e3,_,r⟩
   ·obtain⟨_,l,r,o,h1,h2,n,D,_⟩:=(show DZ P w K H h a (.tup vs)from ok a _ e)
    exact⟨o,l.toArray,n,h1,h2,D,by simpa using j _ r⟩
   ·exact⟨o,l,n,B a o e1,e2,e3,j _ r⟩
def yr{vs:sx}(j:K.In h)(ok:GY P w K H h)(i:MH K H ks vs)(r:Vals vs us):Paired (F9 2 h) ks us:=
 i.elim (λp=>oV (λx y c h1 h2=>Nh j ok 2 x y c h1 h2) p r) λp=>Ng p r
abbrev KT(K:PySem.W.Frag)(H:Hp):List (List DF×V)->List (List DF×Addr×Value)->Prop:=Paired λp q=>p.1=q.1/\FV K H q.2.1 p.1/\RelV p.2 q.2.2
variable {kvs:List (List DF×V)}{xs:List (List DF×Addr×Value)}
def KT.val(r:KT K H kvs xs)(k:List DF):GA (cH kvs k) ((atKey xs k).map (·.2)):=by
 induction r with
 |nil=>exact ii
 |@cons p q ps j h t l=>
  obtain⟨h1,_,h2⟩:=h;by_cases e:p.1=k
  ·have i:q.1=k:=h1.symm.trans e
   have b:atKey (q::j) k=some q.2:=by simp[atKey,iF,i]
   rw[cZ e,b];exact h2
  ·have i:¬ q.1=k:=λz=>e (h1.trans z)
   have b:atKey (q::j) k=atKey j k:=by simp[atKey,iF,i]
   rw[dg e,b];exact l
def KT.YM(r:KT K H kvs xs)(k:List DF){y:V}(j:RelV y u):
  KT K H (kvs.map λi=>if i.1=k then(i.1,y)else i) (xs.map (putAt k u)):=by
 induction r with
 |nil=>exact .nil
 |@cons p q ps B h t n=>
  rw[bb,bb];refine .cons ?_ n;obtain⟨h1,h2,l⟩:=h;unfold putAt;by_cases e:p.1=k
  ·rw[bX e,bX (h1.symm.trans e)];exact⟨h1,h2,j⟩
  ·rw[bt e,bt (λz=>e (h1.trans z))];exact⟨h1,h2,l⟩
def KT.put(r:KT K H kvs xs)(k:List DF){y:V}(j:FV K H b k)(i:RelV y u):
  KT K H (putK kvs k y) (storedH xs k b u):=by
 have e:(kvs.any λl=>decide (l.1=k))=(atKey xs k).isSome:=by
  rw[qg,(r.val k).Ki,Option.isSome_map]
 unfold putK storedH;rw[e];by_cases q:(atKey xs k).isSome=true
 ·rw[bX q,bX q];exact r.YM k i
 ·rw[bt q,bt q];exact Paired.snoc r ⟨rfl,j,i⟩
def KT.keeps{K:W.Frag}{H H':Hp}{kvs:List (List DF×V)}{xs:List (List DF×Addr×Value)}(r:KT K H kvs xs)(i:∀b ys,H b=some (.tup ys)->H' b=some (.tup ys)):KT K H' kvs xs:=
 Paired.YF r λ_ _ z=>⟨z.1,z.2.1.keeps i,z.2.2⟩
section
variable {P:Program}{w:World}{K:W.Frag}{H:Hp}{h:Heap}{a:Addr}
def Ni{u:HO}(ok:GY P w K H h)(e:Rd H a u):DZ P w K H h a u:=e.ok ok
def qi{kvs:List (Key×V)}(ok:GY P w K H h)(e:Rd H a (.dK kvs)):kvs.length<=sizeLine/\(a == sysModules)=false/\∃vs,KV kvs vs/\h.DictOf (fc P w) a vs:=
 show DZ P w K H h a (.dK kvs)from Ni ok e
def oF{kvs:List (Key×V)}(ok:GY P w K H h)(e:H a=some (.dK kvs)):kvs.length<=sizeLine/\(a == sysModules)=false/\∃vs,KV kvs vs/\h.DictOf (fc P w) a vs:=qi ok (.inl e)
def QZ(l:K.In h)(ok:GY P w K H h)(e:Qz K H a ks):(dC P w).is h ks a:=by
 obtain⟨vs,e,j⟩:=e;obtain⟨_,i,r,o,h1,h2,n,q,_⟩:=(show DZ P w K H h a (.tup vs)from ok a _ e);exact⟨o,i.toArray,n,h1,h2,q,by simpa using yr l ok j r⟩
def jO(i:K.In h)(ok:GY P w K H h)(e:FV K H a ks):(dC P w).is h ks a:=by
 rcases e with e|⟨vs,⟨o,DL,n,e1,e2,e3,_,r⟩,kt⟩
 ·exact QZ i ok e
 ·exact⟨o,DL,n,i a o e1,e2,e3,yr i ok kt r⟩
def zV(I:K.In h)(ok:GY P w K H h)(e:Rd H a (.dT kvs)):kvs.length<=sizeLine/\(a == sysModules)=false/\∃xs,KT K H kvs xs/\EB (dC P w) h a xs:=by
 obtain⟨z,y,xs,r,o,es,ep,h1,h2,B,n,D,F⟩:=(show DZ P w K H h a (.dT kvs)from Ni ok e);subst F;refine⟨z,y,xs,r,o,es,h1,h2,B,n,λx i=>?_,D⟩;have all:∀{l:List (List DF×V)}{m:List (List DF×Addr×Value)},KT K H l m->∀x∈m,(dC P w).is h x.1 x.2.1:=by
  intro l m q;induction q with
  |nil=>intro x i;exact nomatch i
  |cons j t G=>
   intro x i;rcases br.mp i with e|i
   ·rw[e];exact jO I ok (by rw[←j.1];exact j.2.1)
   ·exact G x i
 exact all r x i
def vJ(i:K.In h)(ok:GY P w K H h)(e:Rd H a (.dT kvs)):kvs.length<=sizeLine/\(a == sysModules)=false /\
  ∃xs,KT K H kvs xs/\h.DictOfH (dC P w) a xs:=let ⟨z,y,xs,r,q⟩:=zV i ok e;⟨z,y,xs,r,q.of⟩
end
def EN(K:W.Frag)(H:Hp)(a:Addr)(y:V)(r:Option V):Prop:=
 (∃kvs k,Rd H a (.dK kvs)/\y=kV k/\r=cH kvs k)\/∃kvs k b,Rd H a (.dT kvs)/\y=.ref b/\FV K H b k/\r=cH kvs k
def LJ(K:W.Frag)(H:Hp)(a:Addr)(y v:V)(H':Hp):Prop:=
 (∃kvs k,H a=some (.dK kvs)/\y=kV k/\kvs.length<sizeLine/\H'=upd H a (.dK (putK kvs k v))) \/
 ∃kvs k b,H a=some (.dT kvs)/\y=.ref b/\FV K H b k/\kvs.length<sizeLine/\H'=upd H a (.dT (putK kvs k v))
def EN.k{K:W.Frag}{H:Hp}{a:Addr}{kvs:List (Key×V)}{k:Key}(e:H a=some (.dK kvs)):EN K H a (kV k) (cH kvs k):=.inl ⟨kvs,k,.inl e,rfl,rfl⟩
def EN.t{k:List DF}(e:H a=some (.dT kvs))(i:FV K H b k):EN K H a (.ref b) (cH kvs k):=.inr ⟨kvs,k,b,.inl e,rfl,i,rfl⟩
def LJ.k{K:W.Frag}{H:Hp}{a:Addr}{kvs:List (Key×V)}{k:Key}{v:V}(e:H a=some (.dK kvs))(i:kvs.length<sizeLine):LJ K H a (kV k) v (upd H a (.dK (putK kvs k v))):=.inl ⟨kvs,k,e,rfl,i,rfl⟩
def LJ.t{k:List DF}{v:V}(e:H a=some (.dT kvs))(i:FV K H b k)(j:kvs.length<sizeLine):
  LJ K H a (.ref b) v (upd H a (.dT (putK kvs k v))):=.inr ⟨kvs,k,b,e,rfl,i,j,rfl⟩
section
variable {X:Cx}{DE:oI}{EK:St}{H:Hp}{s:Shared}{a:Addr}{y v:V}{u r:Value}{o:Option V}{A:Around}{E:gV}
def Inv.big(I:Inv X DE EK H s):sysModules<s.heap.objs.size:=by
 have h:mainGlobals<s.heap.objs.size:=(I.mod.glob.keeps I.bk).lt;exact l6 (by decide) h
def HW{Q:gV}(L:A.units+9<cLine)(I:Inv X DE EK H s)(g:EN X.K H a y (some v))(D:RelV y u)(h:∀j s',Inv X DE EK H s'->RelV v j->Q j s'):
  wpAny (model X.prog X.w) A (getItem (.ref a) u) Q E s:=by
 rcases g with⟨kvs,k,e,B,l⟩|⟨kvs,k,b,e,B,eb,l⟩
 ·subst B
  obtain⟨z,F,vs,i,dd⟩:=qi I.DV e;obtain⟨j,q,n⟩:=GA.some_of (v:=v) (o:=valueAt vs k) (by rw[l];exact i.val k);exact wpAny_getItem_of (vI D) dd.mapOf q (h j _ (I.tok _) n)
 ·subst B
  cases(show u=Value.ref b from D);obtain⟨z,F,xs,i,dd⟩:=vJ I.HI I.DV e;obtain⟨j,q,n⟩:=GA.some_of (v:=v) (o:=(atKey xs k).map (·.2)) (by rw[l];exact i.val k);obtain⟨p,J,G⟩:=ba.mp q;refine wpAny_getItem_heap (Iq L) (jO I.HI I.DV eb) dd J ?_;rw[G];exact h j _ (I.tok _) n
def DG{Q:gV}(D:A.units+9<cLine)(I:Inv X DE EK H s)(g:EN X.K H a y o)(B:RelV y u)(h:∀s',Inv X DE EK H s'->Q (.bool (!o.isSome)) s'):
  wpAny (model X.prog X.w) A (compareOp .NotIn u (.ref a)) Q E s:=by
 rcases g with⟨kvs,k,e,n,l⟩|⟨kvs,k,b,e,n,eb,l⟩
 ·subst n
  obtain⟨z,j,vs,i,dd⟩:=qi I.DV e;refine wpAny_notIn_of (vI B) j dd.mapOf ?_;rw[←(i.val k).Ki,←l];exact h _ (I.tok _)
 ·subst n
  cases(show u=Value.ref b from B);obtain⟨z,j,xs,i,dd⟩:=vJ I.HI I.DV e;refine wpAny_notIn_heap (Iq D) (jO I.HI I.DV eb) j dd ?_;have q:=(i.val k).Ki;rw[Option.isSome_map]at q;rw[←q,←l];exact h _ (I.tok _)
def tQ{h':Heap}{t':Nat}{i:HO}(I:Inv X DE EK H s)(l:Mut (H a))(B:Heap.SameBut a s.heap h')(j:∃q,h'.get? a=some q)(new:DZ X.prog X.w X.K (upd H a i) h' a i):
  Inv X DE EK (upd H a i) {s with heap:=h',toks:=t'}:=
 I.write (x:=a) (e:=a) l (.inl rfl) (λb q n z=>(B.2 b n).trans z) j new
def zW{H':Hp}{h':Heap}{kvs:List (Key×V)}{vs:List (Key×Value)}(z:kvs.length<=sizeLine)(j:(a == sysModules)=false)(i:KV kvs vs)(dd:h'.DictOf (fc P w) a vs):
  DZ P w K H' h' a (.dK kvs):=⟨z,j,vs,i,dd⟩
def HX{H':Hp}(hu:A.units+9<cLine)(I:Inv X DE EK H s)(g:LJ X.K H a y v H')(L:RelV y u)(N:RelV v r)(h:∀s',Inv X DE EK H' s'->Q () s'):
  wpAny (model X.prog X.w) A (setItem (.ref a) u r) Q E s:=by
 rcases g with⟨kvs,k,e,G,l,F⟩|⟨kvs,k,b,e,G,eb,l,F⟩
 ·subst G F
  obtain⟨z,D,vs,i,dd⟩:=oF I.DV e;have hz:vs.length<=sizeLine:=by rw[←i.length];exact z
  have J:(putK kvs k v).length<=sizeLine:=by have:=uw kvs k v;omega
  refine wpAny_setItem_pairs (hsz:=hz) (vI L) dd λh' n B=>h _ ?_;have O:∃q,h'.get? a=some q:=let ⟨q,_,_,j,_⟩:=n;⟨q,j⟩;exact tQ I (by rw[e];exact ii) B O (zW J D (i.put k N) n)
 ·subst G F
  cases(show u=Value.ref b from L);obtain⟨z,D,xs,i,dd⟩:=zV I.HI I.DV (.inl e);have hz:xs.length<=sizeLine:=by rw[←iO i];exact z
  have J:(putK kvs k v).length<=sizeLine:=by have:=uw kvs k v;omega
  refine JZ (Iq hu) (jO I.HI I.DV eb) dd hz λh' n B=>h _ ?_;obtain⟨q,es,j,h2,Y,U,_,Z⟩:=n;refine tQ I (by rw[e];exact ii) B ⟨q,j⟩ ⟨J,D,_,(i.put k eb N).keeps λc ys M=>?_,q,es,_,j,h2,Y,U,Z,rfl⟩;rw[az (bW M e (λz=>nomatch z))];exact M
end
section
variable {X:Cx}{DE:oI}{EK:St}{H:Hp}{s:Shared}{a:Addr}{kvs:List (Key×V)}{k:Key}{u:Value}{A:Around}{E:gV}
def UJ{v:V}{more:re}{Q:gV}(I:Inv X DE EK H s)(e:H a=some (.dK kvs))(B:RelV (kV k) u)(l:cH kvs k=some v)(D:more=[]\/∃x,more=[x])
  (h:∀n s',Inv X DE EK (upd H a (.dK (oE kvs k))) s'->RelV v n->Q n s'):wpAny (model X.prog X.w) A (call (.builtin "dict.pop") (.ref a::u::more)) Q E s:=by
 obtain⟨z,N,vs,j,dd⟩:=oF I.DV e;obtain⟨n,M,L⟩:=GA.some_of (v:=v) (o:=valueAt vs k) (by rw[←l];exact j.val k);have U:(keyPart u).isSome=true:=by
  cases k with
  |inl i=>obtain⟨t,q⟩:=(show ∃t,u=Value.int i t from B);subst q;rfl
  |inr x=>obtain⟨t,q⟩:=(show ∃t,u=Value.str x t from B);subst q;rfl
 have Y:argsOk "dict.pop" ⟨.ref a::u::more,[]⟩:=by
  rcases D with q|⟨x,q⟩
  ·subst q;exact PySem.F.args_dict_pop_2 _ _
  ·subst q;exact PySem.F.args_dict_pop_3 _ _ _
 refine call_meetsIn pE dd.typeIs PySem.F.entry_dict_pop Y (meets_dict_pop_there (fc X.prog X.w) a (vI B) more D U)
  ⟨vs,n,dd,by rw[←j.length];exact z,M,λh' G O=>h n _ ?_ L⟩
 have J:∃q,h'.get? a=some q:=let ⟨q,_,_,hq,_⟩:=G;⟨q,hq⟩;exact tQ I (by rw[e];exact ii) O J (zW (df (Ke kvs k) z) N (j.drop k) G)
def UL{Q:gV}(I:Inv X DE EK H s)(e:Rd H a (.dK kvs))(h:∀t s',Inv X DE EK H s'->Q (.int kvs.length t) s'):wpAny (model X.prog X.w) A (call (.builtin "len") [.ref a]) Q E s:=by
 obtain⟨z,j,vs,i,dd⟩:=qi I.DV e;refine call_len_dict j dd (by rw[←i.length];rw[ib]at z;omega) ?_;rw[←i.length];exact h _ _ (I.tok _)
end
def Kf(i:Expr):Prop:=∀ov iv,subscripted i false ov iv=operate [ov,iv] (getItem ov iv)
def Ov{prog:Program}{s:Shared}{env:Env}{value j:Expr}{T id:String}{Q:gV}
  (I:typeLookup (.type T) "__getitem__" = pure (some (.builtin id))) (G:Kf j)
  (h:wpAny (model prog w) A (eval value env) (λo B=>wpAny (model prog w) A (eval j env) (λi n=>n.TypeIs o T/\wpAny (model prog w) A (getItem o i) Q E n) E B) E s):
  wpAny (model prog w) A (eval (.Subscript value j pos) env) Q E s:=by
 refine Subscript_ (cS h (λo B h₁=>cS h₁ (λi n q=>?_) λ_ _ x=>x) λ_ _ x=>x);obtain⟨D,q⟩:=q;unfold subscriptTail;refine ac ?_;rw[getitemInPython_of_ne D.not_modules];refine ac (iE D I ?_);have l:wpAny (model prog w) A (subscripted j false o i) (λr z=>wpAny (model prog w) A (letTemporaryGo value o r >>= λ_=>pure r) Q E z) E n:=by
  rw[G o i];exact wpAny_operating (cS q (λr z F=>ac (wpAny_letTemporaryGo (al F))) λ_ _ x=>x)
 first
  |exact al (ac l)
  |exact ac (al (ac l))
  |exact ac l
def Dc{X:Cx}{s:Shared}{y:V}{o:Option V}(I:Inv X DE EK H s)(g:EN X.K H a y o):s.TypeIs (.ref a) "dict" := by
 rcases g with⟨kvs,k,e,_,_⟩|⟨kvs,k,b,e,_,_,_⟩
 ·obtain⟨_,_,vs,_,dd⟩:=qi I.DV e
  exact dd.typeIs
 ·obtain⟨_,_,xs,_,dd⟩:=vJ I.HI I.DV e
  exact dd.typeIs
def qj(K:W.Frag)(td ty:TE):TE:=fun EK H Q=>td EK H λx H1=>ty EK H1 λy H2=>∃a v,x=.ref a/\EN K H2 a y (some v)/\Q v H2
def h_(K:W.Frag)(ty td:TE):TE:=fun EK H Q=>ty EK H λy H1=>td EK H1 λx H2=>∃a o,x=.ref a/\EN K H2 a y o/\Q (.bl (!o.isSome)) H2
def mq(K:W.Frag)(td ty tv:TE):TS:=λD EK H=>tv EK H λv H1=>td EK H1 λx H2=>ty EK H2 λy H3=>∃a H4,x=.ref a/\LJ K H3 a y v H4/\D.nx EK H4
section
variable {X:Cx}{o i e value:Expr}{pos pos' tpos:Pos}{td ty tv:TE}
def tR(N:X.A.units+9<cLine)(J:PE X o td)(G:PE X i ty)(D:Kf i):PE X (.Subscript o i pos) (qj X.K td ty):=by
 intro DE s EK H Q I h;refine Ov PySem.F.slot_dict_getitem.lookup D (D8 (J DE s EK H _ I h) λu B ⟨x,H1,n,M,O⟩=>D8 (G DE B EK H1 _ n O) ?_);rintro U Y ⟨y,H2,j,l,a,v,ex,g,q⟩;subst ex;obtain rfl:u=Value.ref a:=M;exact⟨Dc j g,HW N j g l λw' Z L z=>⟨v,H2,L,z,q⟩⟩
def oG(J:X.A.units+9<cLine)(B:PE X i ty)(F:PE X o td):PC X .NotIn i o (h_ X.K ty td):=by
 intro DE s EK H Q I h;refine D8 (B DE s EK H _ I h) λN z ⟨y,H1,l,j,M⟩=>D8 (F DE z EK H1 _ l M) ?_;rintro u O ⟨x,H2,D,L,a,q,ex,g,n⟩;subst ex;obtain rfl:u=Value.ref a:=L;exact DG J D g j λU G=>⟨.bl (!q.isSome),H2,G,rfl,n⟩
def pI(G:X.A.units+9<cLine)(z:PE X o td)(q:PE X i ty)(B:PE X value tv)(n:swapsWith value (some (.Subscript o i pos')) pos.line X.env=pure false):
  PS X (.Assign [.Subscript o i pos'] value pos) (mq X.K td ty tv):=by
 intro DE s EK H D I h;refine wpAny_Assign_Subscript (D8 (B DE s EK H _ I h) λr l ⟨v,H1,M,F,q1⟩=>D8 (z DE l EK H1 _ M q1) λu O ⟨x,H2,U,rx,L⟩=>D8 (q DE O EK H2 _ U L) ?_) n;rintro iv s3 ⟨y,H3,Z,j,a,N,ex,g,J⟩;subst ex;obtain rfl:u=Value.ref a:=rx;exact HX G Z g j F λs4 Y=>⟨EK,N,Y,J⟩
end
def Kg(h:Heap)(j:sysModules<h.objs.size):DZ P w K H (h.push {cls:=.type "dict",data:=.dict #[]}) h.objs.size (.dK []):=
 ⟨cm _,fb.mpr (fm (bP j)),[],.nil,Heap.DictOf.new h⟩
def zX(h:Heap)(j:sysModules<h.objs.size):DZ P w K H (h.push {cls:=.type "dict",data:=.dict #[]}) h.objs.size (.dT []):=
 ⟨cm _,fb.mpr (fm (bP j)),[],.nil,_,#[],0,av _ rfl,⟨rfl,rfl,rfl⟩,rfl,rfl,List.nodup_nil,rfl⟩
def HY:TE:=λ_ H Q=>∀p,H p=none->Q (.ref p) (upd H p (.dK []))
def zY:TE:=λ_ H Q=>∀p,H p=none->Q (.ref p) (upd H p (.dT []))
section
variable {X:Cx}{pos:Pos}
def zZ:PE X (.Dict [] [] pos) HY:=λDE s EK H Q I h=>
 wpAny_Dict_empty ⟨.ref s.heap.objs.size,_,I.laid (a:=s.heap.objs.size) (o:=.dK []) (t':=s.toks) (λ_ _ q=>ae _ q) (ax _) (Kg s.heap I.big),rfl,h _ (I.DV.fresh (ax _))⟩
def z9:PE X (.Dict [] [] pos) zY:=λDE s EK H Q I h=>
 wpAny_Dict_empty ⟨.ref s.heap.objs.size,_,I.laid (a:=s.heap.objs.size) (o:=.dT []) (t':=s.toks) (λ_ _ q=>ae _ q) (ax _) (zX s.heap I.big),rfl,h _ (I.DV.fresh (ax _))⟩
end
structure M1(X:Cx)(o:Expr)(m:Str)(apos:Pos)(e:Expr)(D3:Pos):Prop where
 base:Xh X o m
 few:ZQ X D3 [e]
 line:(apos.endLine == D3.line)=true
 trees:backTo D3 (starEach [e] X.env)=[(false,eval e X.env)]
structure M2(X:Cx)(o:Expr)(m:Str)(apos:Pos)(e f:Expr)(D3:Pos):Prop where
 base:Xh X o m
 few:ZQ X D3 [e,f]
 line:(apos.endLine == D3.line)=true
 trees:backTo D3 (starEach [e,f] X.env)=[(false,eval e X.env),(false,eval f X.env)]
def IsD(H:Hp)(a:Addr):Prop:=(∃kvs,Rd H a (.dK kvs))\/∃kvs,Rd H a (.dT kvs)
def z_{X:Cx}{s:Shared}(I:Inv X DE EK H s)(d:IsD H a):
  s.TypeIs (.ref a) "dict" /\ (∀b,Value.ref a=.ref b->∃j,s.heap.get? b=some j/\j.dict=none)/\(a == sysModules)=false:=by
 rcases d with⟨kvs,e⟩|⟨kvs,e⟩
 ·obtain⟨_,l,vs,_,dd⟩:=qi I.DV e
  refine⟨dd.typeIs,λb q=>?_,l⟩;cases q;obtain⟨j,_,_,h1,h2,_⟩:=dd;exact⟨j,h1,h2.2.1⟩
 ·obtain⟨_,l,xs,_,dd⟩:=vJ I.HI I.DV e
  refine⟨dd.typeIs,λb q=>?_,l⟩;cases q;obtain⟨j,_,_,h1,h2,_⟩:=dd;exact⟨j,h1,h2.2.1⟩
section
variable {X:Cx}{DE:oI}{EK:St}{H:Hp}{s:Shared}{a:Addr}{y d:V}{u r:Value}{o:Option V}{A:Around}{E:gV}
def Q0{Q:gV}(G:A.units+9<cLine)(I:Inv X DE EK H s)(g:EN X.K H a y o)(B:RelV y u)(D:RelV d r)(h:∀F s',Inv X DE EK H s'->RelV (o.getD d) F->Q F s'):
  wpAny (model X.prog X.w) A (call (.builtin "dict.get") [.ref a,u,r]) Q E s:=by
 rcases g with⟨kvs,k,e,q,l⟩|⟨kvs,k,b,e,q,eb,l⟩
 ·subst q
  obtain⟨z,n,vs,j,dd⟩:=qi I.DV e;refine call_meetsIn kX dd.typeIs o0 (oj _ _ _) (meets_dict_get_default (fc X.prog X.w) a (vI B) n r) ⟨_,dd.mapOf,h _ _ (I.tok _) ?_⟩;rw[l];exact(j.val k).getD D
 ·subst q
  cases(show u=Value.ref b from B);obtain⟨z,n,xs,j,dd⟩:=vJ I.HI I.DV e;refine call_meetsIn kX dd.typeIs o0 (oj _ _ _) (meetsH_dict_get_default (dC X.prog X.w) a b n r) ⟨Iq G,k,xs,jO I.HI I.DV eb,dd,h _ _ (I.tok _) ?_⟩;rw[l];exact(j.val k).getD D
end
def Q3(K:W.Frag)(td ty tx:TE):TE:=fun EK H Q=>td EK H λx H1=>∃a,x=.ref a/\IsD H1 a/\ty EK H1 λy H2=>tx EK H2 λz H3=>∃o,EN K H3 a y o/\Q (o.getD z) H3
def Q4(td ty:TE):TE:=fun EK H Q=>td EK H λx H1=>∃a,x=.ref a/\IsD H1 a/\ty EK H1 λy H2=>∃kvs k v,H2 a=some (.dK kvs)/\y=kV k/\cH kvs k=some v/\Q v (upd H2 a (.dK (oE kvs k)))
section
variable {X:Cx}{o e f:Expr}{apos D3:Pos}{td ty tx:TE}
def Kh(G:X.A.units+9<cLine)(D:PE X o td)(U:PE X e ty)(O:PE X f tx)(m:M2 X o "get" apos e f D3):PE X (.Call (.Attribute o "get" apos) [e,f] [] D3) (Q3 X.K td ty tx):=by
 intro DE s EK H Q I h;refine ny m.base m.few m.line om kX PySem.F.type_dict_get (D8 (D DE s EK H _ I h) ?_);rintro u q ⟨x,H1,j,rx,a,ex,d,q1⟩;subst ex;obtain rfl:u=Value.ref a:=rx;obtain⟨Y,N,_⟩:=z_ j d;refine⟨Y,N,?_⟩;rw[m.trees];refine kH rfl (i9 (gd (D8 (U DE q EK H1 _ j q1) λiv Z ⟨y,H2,I2,l,L⟩=>
  gd (D8 (O DE Z EK H2 _ I2 L) λfv s3 ⟨z,M,I3,B,ov,g,J⟩=>g9 ?_))))
 exact Q0 G I3 g l B λw' s4 I4 n=>⟨_,M,I4,n,J⟩
def Kl(B:PE X o td)(M:PE X e ty)(m:M1 X o "pop" apos e D3):PE X (.Call (.Attribute o "pop" apos) [e] [] D3) (Q4 td ty):=by
 intro DE s EK H Q I h;refine ny m.base m.few m.line om pE PySem.F.type_dict_pop (D8 (B DE s EK H _ I h) ?_);rintro u z ⟨x,H1,j,Y,a,ex,d,Z⟩;subst ex;obtain rfl:u=Value.ref a:=Y;obtain⟨N,J,_⟩:=z_ j d;refine⟨N,J,?_⟩;rw[m.trees];refine kH rfl (i9 (gd (D8 (M DE z EK H1 _ j Z) λiv s2 ⟨y,H2,O,n,kvs,k,v,L,D,l,G⟩=>g9 ?_)));subst D;exact UJ O L n l (.inl rfl) λw' s3 U q=>⟨v,_,U,q,G⟩
end
end Lake.L2
namespace Lake.HT
open PySem PyProof.Rows
section
variable {prog:Program}{w:World}{A:Around}{E:gV}{s:Shared}
def Xn{t b:Addr}{vs j:re}{Q:gV}(U:IsTup s.heap t vs.toArray)(Y:IsTup s.heap b j.toArray)(M:vs≠[])
  (h1:j=[]->Q (.ref t) s) (h2:j≠[]->Q (.ref s.heap.objs.size) {s with heap:=s.heap.push {cls:=.type "tuple",data:=.seq (vs++j).toArray}})
  (hsz:vs.length+j.length<=sizeLine):wpAny (model prog w) A (binaryOp .Add (.ref t) (.ref b)) Q E s:=by
 obtain⟨⟨cls,dd,data,F⟩,z,I,n,L⟩:=id U;obtain⟨⟨D,J,B,N⟩,q,G,O,l⟩:=id Y;simp only at I L G l;subst I L G l;have e:vs.toArray++j.toArray=(vs++j).toArray:=by simp
 by_cases hw:j=[]
 ·exact concat_meets ⟨_,z,rfl⟩ ⟨_,q,rfl⟩ on qA kK kD (kr _ _)
   (tuple_addW1 t b vs.toArray j.toArray n O dd J F N (by simpa using M) (by simp[hw])) ⟨z,q,h1 hw⟩
 ·refine concat_meets ⟨_,z,rfl⟩ ⟨_,q,rfl⟩ on qA kK kD (kr _ _)
   (tuple_addW2 t b vs.toArray j.toArray n O dd J F N (by simpa using M) (by simpa using hw) (by rw[aE,aE];exact hsz)) ⟨z,q,?_⟩
  rw[e];exact h2 hw
noncomputable def EA(n d:Nat):Option Int->Nat
 |none=>d
 |some v=>if v<0 then(v+(n:Int)).toNat else min v.toNat n
def Po(n d k:Nat):EA n d (some (k:Int))=min k n:=by
 show(if(k:Int)<0 then((k:Int)+(n:Int)).toNat else min (k:Int).toNat n)=min k n;rw[bt (by omega),fE]
def Tb(n d:Nat)(j:d<=n)(o:Option Int):EA n d o<=n:=by
 cases o with
 |none=>exact j
 |some v=>
  show(if v<0 then(v+(n:Int)).toNat else min v.toNat n)<=n;by_cases hv:v<0
  ·rw[bX hv];omega
  ·rw[bt hv];exact Nat.min_le_right _ _
def DK(v:Int)(n d:Nat):(if v<0 then max (v+(n:Int)) 0 else min v (n:Int))=((EA n d (some v):Nat):Int):=by
 show(if v<0 then max (v+(n:Int)) 0 else min v (n:Int))=(((if v<0 then(v+(n:Int)).toNat else min v.toNat n):Nat):Int);by_cases hv:v<0
 ·simp only[bX hv];omega
 ·simp only[bt hv];omega
def Fv(lo j:Option Int)(n:Nat):Builtin.Slice.sliceAdjust lo j 1 (n:Int)=(((EA n 0 lo:Nat):Int),((EA n n j:Nat):Int)):=by
 have h1:¬ ((1:Int)<0):=by omega
 unfold Builtin.Slice.sliceAdjust;simp only[h1,fw];refine Prod.ext ?_ ?_
 ·cases lo with
  |none=>rfl
  |some v=>exact DK v n 0
 ·cases j with
  |none=>rfl
  |some v=>exact DK v n n
def Fw(i j:Nat):Builtin.Slice.slicePlaces (i:Int) (j:Int) 1=j - i:=by
 unfold Builtin.Slice.slicePlaces;have h1:(1:Int)>0:=by omega
 simp only[h1,fT,Int.ediv_one];split<;>omega
def vK{v:Value}{o:Option Int}{Q:Option Int->Shared->Prop}(p:IsPart v o)(h:Q o s):wpAny (model prog w) A (Builtin.Slice.slicePartIndex v) Q E s:=by
 cases p with
 |none=>exact slicePart_none h
 |int i t=>exact slicePart_int h
def mR{D:Addr}{q B:Value}{lo l:Option Int}{n:Nat}{Q:Int×Int×Nat->Shared->Prop}(G:s.heap.IsSliceOf D q B .none)(pl:IsPart q lo)(F:IsPart B l)
  (h:Q (((EA n 0 lo:Nat):Int),1,EA n n l - EA n 0 lo) s):wpAny (model prog w) A (Builtin.Slice.sliceApplied (.ref D) (pure (n:Int))) Q E s:=by
 obtain⟨J,z,I,j⟩:=id G;unfold Builtin.Slice.sliceApplied Builtin.Slice.sliceFields;refine ac (ac (d3 z j (x:=q) rfl (ac (d3 z j (x:=B) rfl (ac (d3 z j (x:=.none) rfl (al ?_)))))));refine ac (slicePart_none ?_);show wpAny _ _ (if((1:Int) == 0)=true then _ else _) _ _ s;rw[bt (by decide)];refine ac (vK pl (ac (vK F (ac (al ?_)))));show wpAny _ _ (match Builtin.Slice.sliceAdjust lo l 1 (n:Int)with|(lo,l)=>pure (lo,(1:Int),Builtin.Slice.slicePlaces lo l 1)) _ _ s;rw[Fv lo l n];show wpAny _ _ (pure (((EA n 0 lo:Nat):Int),(1:Int),Builtin.Slice.slicePlaces ((EA n 0 lo:Nat):Int) ((EA n n l:Nat):Int) 1)) _ _ s;rw[Fw];exact al h
def Km(xs:rV)(i k:Nat):((List.range k).filterMap λ(m:Nat)=>xs[((i:Int)+(m:Int)*1).toNat]?).toArray=((xs.toList.drop i).take k).toArray:=by
 have e:(λ(m:Nat)=>xs[((i:Int)+(m:Int)*1).toNat]?)=λm=>xs[i+m]?:=by
  funext m
  have:((i:Int)+(m:Int)*1).toNat=i+m:=by omega
  rw[this]
 rw[e];have:=pick_run xs i k;rw[List.filterMap_map]at this;have e2:((λx=>xs[x]?)∘λx=>i+x)=λm=>xs[i+m]?:=rfl;rw[e2]at this;rw[this]
def IZ{t z:Addr}{items:rV}{G J:Value}{lo j:Option Int}{Q:gV}(l:IsTup s.heap t items)(I:s.heap.IsSliceOf z G J .none)(pl:IsPart G lo)(N:IsPart J j)
  (M:¬ (EA items.size 0 lo=0/\EA items.size items.size j=items.size))
  (h:Q (.ref s.heap.objs.size) {s with heap:=s.heap.push {cls:=.type "tuple",data:=.seq ((items.toList.drop (EA items.size 0 lo)).take (EA items.size items.size j - EA items.size 0 lo)).toArray}})
  (hsz:items.size<=sizeLine):wpAny (model prog w) A (getItem (.ref t) (.ref z)) Q E s:=by
 have n:sizeOk (.seq ((items.toList.drop (EA items.size 0 lo)).take (EA items.size items.size j - EA items.size 0 lo)).toArray):=by
  show((items.toList.drop (EA items.size 0 lo)).take (EA items.size items.size j - EA items.size 0 lo)).toArray.size<=sizeLine;rw[aE,jS,oo,gt];omega
 have Z:EA items.size items.size j<=items.size:=Tb _ _ (ax _) j;obtain⟨U,L,B,O⟩:=id I;have F:s.TypeIs (.ref z) "slice" := ⟨U,L,B⟩;unfold getItem
 try with_reducible refine eD ?_
 first|refine ac (al ?_)|skip
 refine ac (nn l.typeIs (by decide) ?_);refine ac (dc (name:=Str.ofString "__getitem__") l.typeIs eI
  (dv eI l.typeIs entry_tuple_getitem ?_ (args_tuple_getitem _ _)))
 show wpAny _ _ (Builtin.Tuple.tupleItemsOf (.ref t) >>= _) _ _ s;refine ac (tupleItemsOf_ l ?_);refine ac (kc F ?_);rw[bX (by decide)];refine ac (mR I pl N ?_);have D:¬ ((((EA items.size 0 lo:Nat):Int) == 0&&(1:Int) == 1&&(EA items.size items.size j - EA items.size 0 lo) == items.size)=true):=by
  intro q;rw[cb,cb]at q;have q1:((EA items.size 0 lo:Nat):Int)=0:=eq_of_beq q.1.1;have Y:EA items.size items.size j - EA items.size 0 lo=items.size:=eq_of_beq q.2;exact M ⟨by omega,by omega⟩
 show wpAny _ _ (if(((EA items.size 0 lo:Nat):Int) == 0&&(1:Int) == 1&&(EA items.size items.size j - EA items.size 0 lo) == items.size)=true then _ else _) _ _ s;rw[bt D,Km]
 first
  |exact ac (m:=Builtin.Tuple.tupleExact _) (dE (al ⟨_,rfl,al h⟩) n)
  |exact ac (m:=Builtin.Tuple.tupleExact _) (dE (ac (al (al ⟨_,rfl,al h⟩))) n)
  |exact ac (ac (m:=Builtin.Tuple.tupleExact _) (dE (al (al ⟨_,rfl,al h⟩)) n))
  |exact ac (ac (m:=Builtin.Tuple.tupleExact _) (dE (al ⟨_,rfl,al h⟩) n))
end
end Lake.HT
namespace Lake.L2
open PySem PySem.Spec PyProof.Rows
abbrev TO:=St->Hp->(Option Int->Hp->Prop)->Prop
def PO(X:Cx)(e:Option Expr)(t:TO):Prop:=
 ∀(DE:oI) (s:Shared) (EK:St) (H:Hp) (Q:Option Int->Hp->Prop),Inv X DE EK H s->t EK H Q->
  wpAny (model X.prog X.w) X.A (evalPart e X.env) (λu s'=>∃o H',Inv X DE EK H' s'/\IsPart u o/\Q o H') X.xe s
def Ox:TO:=λ_ H Q=>Q none H
def UT(t:TE):TO:=fun EK H Q=>t EK H λx H1=>∃i,x=.int i/\Q (some i) H1
variable {r:V->Option Int->Option Int->Hp->VK->Prop}
section
variable {X:Cx}{e:Expr}{te:TE}{lo hi:Option Expr}{tl th:TO}{pos p2:Pos}
def Oz:PO X none Ox:=by
 intro DE s EK H Q I h;rw[evalPart_none];exact al ⟨none,H,I,.none,h⟩
def OJ(h:PE X e te):PO X (some e) (UT te):=by
 intro DE s EK H Q I n;rw[evalPart_some];refine D8 (h DE s EK H _ I n) ?_;rintro u B ⟨x,H1,j,l,z⟩;obtain⟨i,rfl,q⟩:=z;obtain⟨t,rfl⟩:=l;exact⟨some i,H1,j,.int i t,q⟩
def To(X:Cx)(r:V->Option Int->Option Int->Hp->VK->Prop):Prop:=
 ∀(DE:oI) (s:Shared) (EK:St) (H:Hp) (x:V) (v vl vu:Value) (lo hi:Option Int) (sl:Addr) (Q:VK),Inv X DE EK H s->RelV x v->s.heap.IsSliceOf sl vl vu .none->IsPart vl lo->IsPart vu hi->r x lo hi H Q->
  ∃T id,typeLookup (.type T) "__getitem__" = pure (some (.builtin id))/\s.TypeIs v T/\wpAny (model X.prog X.w) X.A (getItem v (.ref sl)) (EP X DE EK Q) X.xe s
def To.or{B:V->Option Int->Option Int->Hp->VK->Prop}(h:To X r)(h':To X B):To X (λx lo hi H Q=>r x lo hi H Q\/B x lo hi H Q):=by
 intro DE s EK H x v j F lo hi l Q I D n pl z q;rcases q with q|q
 ·exact h DE s EK H x v j F lo hi l Q I D n pl z q
 ·exact h' DE s EK H x v j F lo hi l Q I D n pl z q
def tSl(r:V->Option Int->Option Int->Hp->VK->Prop)(te:TE)(tl th:TO):TE:=fun EK H Q=>te EK H λx H1=>tl EK H1 λl H2=>th EK H2 λu H3=>r x l u H3 Q
def Aa(hr:To X r)(Z:PE X e te)(N:PO X lo tl)(L:PO X hi th):PE X (.Subscript e (.Slice lo hi none p2) pos) (tSl r te tl th):=by
 intro DE s EK H Q I h;refine Subscript_ (D8 (Z DE s EK H _ I h) ?_);rintro v G ⟨x,H1,U,D,q1⟩;refine wpAny_Slice (D8 (N DE G EK H1 _ U q1) λn s2 ⟨l,H2,I2,pl,O⟩=>D8 (L DE s2 EK H2 _ I2 O) ?_);rintro z j ⟨u,B,I3,J,M⟩;rw[evalPart_none];refine al ?_;have I4:Inv X DE EK B {j with heap:=j.heap.push {cls:=.type "slice",data:=.fields #[n,z,.none]}}:=I3.kept (t':=j.toks) λb ob q=>ae _ q;obtain⟨T,id,hT,F,Y⟩:=hr DE {j with heap:=j.heap.push {cls:=.type "slice",data:=.fields #[n,z,.none]}} EK B x v n z l u j.heap.objs.size Q I4 D (Heap.IsSliceOf.new ..) pl J M;show wpAny (model X.prog X.w) X.A (subscriptTail e (.Slice lo hi none p2) v (.ref j.heap.objs.size)) (EP X DE EK Q) X.xe {j with heap:=j.heap.push {cls:=.type "slice",data:=.fields #[n,z,.none]}};exact tail_any (ops:=[.ref j.heap.objs.size,v]) F hT Y (by with_unfolding_all rfl)
noncomputable def rW(xs:sx)(lo hi:Option Int):List V:=(xs.drop (HT.EA xs.length 0 lo)).take (HT.EA xs.length xs.length hi - HT.EA xs.length 0 lo)
def ux(xs:sx)(lo hi:Option Int):(rW xs lo hi).length<=xs.length:=by
 unfold rW;rw[jS,oo];omega
def Q5(K:W.Frag):V->Option Int->Option Int->Hp->VK->Prop:=λx lo hi H Q=>∃a xs,x=.ref a/\F0 K H a xs /\
 ¬ (HT.EA xs.length 0 lo=0/\HT.EA xs.length xs.length hi=xs.length)/\∀p,H p=none->Q (.ref p) (upd H p (.tup (rW xs lo hi)))
def Q6:To X (Q5 X.K):=by
 intro DE s EK H x v J N lo hi L Q I G D pl F h;obtain⟨a,xs,rfl,z,B,q⟩:=h;cases G;obtain⟨n,r,l,hz⟩:=I.tuple z;have j:n.toArray.size=xs.length:=by rw[aE];exact r.length.symm
 refine⟨"tuple",_,eI.lookup,l.typeIs,?_⟩;refine HT.IZ l D pl F (by rw[j];exact B) ?_ (by rw[j];exact hz);rw[j];refine⟨.ref s.heap.objs.size,_,I.laid (t':=s.toks) (o:=.tup (rW xs lo hi)) (λb M q=>ae _ q) (ax _) ?_,rfl,q _ (I.DV.fresh (ax _))⟩;exact⟨df (ux xs lo hi) hz,_,(r.drop (HT.EA xs.length 0 lo)).take (HT.EA xs.length xs.length hi - HT.EA xs.length 0 lo),⟨_,av _ rfl,rfl,0,rfl,rfl⟩⟩
def vL(K:W.Frag):R2:=λx y H Q=>∃a b xs ys,x=.ref a/\y=.ref b/\F0 K H a xs/\F0 K H b ys/\xs≠[]/\xs.length+ys.length<=sizeLine /\
 (ys=[]->Q (.ref a) H)/\(ys≠[]->∀p,H p=none->Q (.ref p) (upd H p (.tup (xs++ys))))
def Vals.ML{xs:sx}{us:re}(r:Vals xs us):us=[]↔xs=[]:=by
 cases r with
 |nil=>simp
 |cons _ _=>simp
def O3:F3 X (binaryOp .Add) (vL X.K):=by
 intro DE s EK H x y v u Q I G n h;obtain⟨a,b,xs,ys,rfl,rfl,J,F,D,hz,L,B⟩:=h;cases G;cases n;obtain⟨M,l,p1,_⟩:=I.tuple J;obtain⟨O,j,p2,_⟩:=I.tuple F;refine HT.Xn p1 p2 (λz=>D (l.ML.mp z)) (λz=>⟨.ref a,H,I,rfl,L (j.ML.mp z)⟩) (λz=>?_) (by rw[←l.length,←j.length];exact hz);refine⟨.ref s.heap.objs.size,_,I.laid (t':=s.toks) (o:=.tup (xs++ys)) (λb N q=>ae _ q) (ax _) ?_,rfl,B (λw=>z (j.ML.mpr w)) _ (I.DV.fresh (ax _))⟩;exact⟨by rw[ci];exact hz,_,l.append j,⟨_,av _ rfl,rfl,0,rfl,rfl⟩⟩
end
noncomputable def OL(n:Nat)(i:Int):Option Nat:=if 0<=i then(if i<n then some i.toNat else none)else if -(n:Int)<=i then some (i+n).toNat else none
noncomputable def Fm{EL:Type}(xs:List EL)(i:Int):Option EL:=(OL xs.length i).bind λj=>xs[j]?
def DN{n:Nat}{i:Int}{j:Nat}(h:OL n i=some j):seqIndex? i n=some j/\j<n/\-(n:Int)<=i/\i<n:=by
 unfold OL at h;by_cases h0:0<=i
 ·rw[bX h0]at h
  by_cases h1:i<n
  ·rw[bX h1]at h
   have e:i.toNat=j:=bq h;exact⟨by rw[seqIndex_of h0 h1,e],by omega,by omega,h1⟩
  ·rw[bt h1]at h;cases h
 ·rw[bt h0]at h
  by_cases h1:-(n:Int)<=i
  ·rw[bX h1]at h
   have e:(i+n).toNat=j:=bq h;exact⟨by rw[seqIndex_neg (by omega) h1,e],by omega,h1,by omega⟩
  ·rw[bt h1]at h;cases h
def wY{l:Type}{xs:List l}{i:Int}{v:l}(h:Fm xs i=some v):∃j,seqIndex? i xs.length=some j/\xs[j]?=some v/\j<xs.length/\-(xs.length:Int)<=i/\i<xs.length:=by
 unfold Fm at h;cases e:OL xs.length i with
 |none=>rw[e]at h;cases h
 |some j=>
  rw[e]at h;obtain⟨h1,h2,q,n⟩:=DN e;exact⟨j,h1,h,h2,q,n⟩
def mJ{l:Type}{xs:List l}{j:Nat}{v:l}(h:xs[j]?=some v):Fm xs (j:Int)=some v:=by
 have n:j<xs.length:=(ap.mp h).1;have e:OL xs.length (j:Int)=some j:=by
  unfold OL;rw[bX (by omega),bX (by omega)];simp
 unfold Fm;rw[e];exact h
def DQ(b:Expr):Prop:=∀o i,subscripted b false o i=operate [o,i] (getItem o i)
def Ts(X:Cx)(r:R2):Prop:=
 ∀(value slice:Expr) (DE:oI) (s:Shared) (EK:St) (H:Hp) (x y:V) (v u:Value) (Q:VK),Inv X DE EK H s->RelV x v->RelV y u->r x y H Q->
  subscripted slice false v u=operate [v,u] (getItem v u)->wpAny (model X.prog X.w) X.A (subscriptTail value slice v u) (EP X DE EK Q) X.xe s
def MtR(X:Cx)(id:String)(r:V->List V->Hp->VK->Prop):Prop:=
 ∀(DE:oI) (s:Shared) (EK:St) (H:Hp) (x:V) (xs:sx) (v:Value) (us:re) (Q:VK),Inv X DE EK H s->RelV x v->Vals xs us->r x xs H Q->
  wpAny (model X.prog X.w) X.A (call (.builtin id) (v::us)) (EP X DE EK Q) X.xe s
section
variable {X:Cx}{a b:Expr}{ta tb:TE}{pos:Pos}
def Ts.or{r z:R2}(h:Ts X r)(h':Ts X z):Ts X (λx y H Q=>r x y H Q\/z x y H Q):=by
 intro value j DE s EK H x y v u Q I B l q n;rcases q with q|q
 ·exact h value j DE s EK H x y v u Q I B l q n
 ·exact h' value j DE s EK H x y v u Q I B l q n
def tU{r:R2}(G:Ts X r)(D:PE X a ta)(l:PE X b tb)(n:DQ b):PE X (.Subscript a b pos) (QO r ta tb):=by
 intro DE s EK H Q I h;exact Subscript_ (J9 D l I h λv u z x y H2 B F j q=>G a b DE z EK H2 x y v u Q B F j q (n _ _))
def uK(K:W.Frag):R2:=λx y H Q=>∃p xs i v,x=.ref p/\y=.int i/\EJ K H p xs/\Fm xs i=some v/\Q v H
def Fx(K:W.Frag):R2:=λx y H Q=>∃p xs i v,x=.ref p/\y=.int i/\F0 K H p xs/\Fm xs i=some v/\Q v H
def Q7:R2:=λx y H Q=>∃z i c,x=.str z/\y=.int i/\z.length<=sizeLine/\Fm z.cps.toList i=some c/\Q (.str ⟨#[c]⟩) H
def Pw:Ts X (uK X.K):=by
 intro value n DE s EK H x y v u Q I Z G h D;obtain⟨p,xs,i,z,rfl,rfl,N,Y,q⟩:=h;cases Z;obtain⟨t,rfl⟩:=G;obtain⟨J,r,pl,hz⟩:=I.list N;obtain⟨j,h1,h2,h3,L,O⟩:=wY Y;obtain⟨w,F,M⟩:=r.get h2;have U:=r.length;have hn:=pF;have l:EP X DE EK Q w s:=⟨z,H,I,M,q⟩;by_cases h0:0<=i
 ·have B:i.toNat=j:=by
   rw[seqIndex_of h0 O]at h1;exact bq h1
  exact item_listR pl.isList h0 (by omega) (by rw[B];simpa using F) l D
 ·have B:(i+(J.toArray.size:Int)).toNat=j:=by
   rw[seqIndex_neg (by omega) L]at h1;rw[aE,←U];exact bq h1
  exact subscriptTail_builtinR (x:=w) pl.isList.typeIs slot_list_getitem.lookup
   (wpAny_getItem_list_neg (Q:=λr s'=>r=w/\EP X DE EK Q r s') pl.isList (by omega) (by rw[aE]<;>omega) (by omega) (by rw[B];simpa using F) ⟨rfl,l⟩) D
def Tx:Ts X (Fx X.K):=by
 intro value l DE s EK H x y v u Q I M B h G;obtain⟨p,xs,i,z,rfl,rfl,F,L,q⟩:=h;cases M;obtain⟨t,rfl⟩:=B;obtain⟨O,r,pl,hz⟩:=I.tuple F;obtain⟨j,h1,h2,Z,U,h5⟩:=wY L;obtain⟨w,N,D⟩:=r.get h2;have J:=r.length;have Y:=pF;have n:EP X DE EK Q w s:=⟨z,H,I,D,q⟩;exact subscriptTail_builtinR (x:=w) pl.typeIs slot_tuple_getitem.lookup
  (getItem_tuple (j:=j) (Q:=λr s'=>r=w/\EP X DE EK Q r s') pl (by omega) (by omega) (by rw[aE,←J];exact h1) (by simpa using N) ⟨rfl,n⟩) G
def Q8:Ts X Q7:=by
 intro value l DE s EK H x y v u Q I J n h F;obtain⟨z,i,c,rfl,rfl,hz,B,q⟩:=h;obtain⟨t,rfl⟩:=J;obtain⟨t',rfl⟩:=n;obtain⟨j,h1,h2,N,D,G⟩:=wY B;have L:z.cps.toList.length=z.length:=by simp[Str.length]
 rw[L]at h1 D G;have M:=pF;exact tail_any (typeIs_str s z t) slot_str_getitem.lookup (getItem_str (c:=c) (by
  have e1:decide (i < -(2 ^ 63:Int))=false:=ed (by omega);have e2:decide (i ≥ 2 ^ 63)=false:=ed (by omega);rw[e1,e2,qB]) (by rw[h1];simpa using h2) ⟨.str ⟨#[c]⟩,H,I.tok _,⟨_,rfl⟩,q⟩) F
def rIx(K:W.Frag):R2:=λx y H Q=>uK K x y H Q\/Fx K x y H Q\/Q7 x y H Q
def Q9:Ts X (rIx X.K):=Pw.or (Tx.or Q8)
def Fy(l:re)(n j:Nat)(u:Value):Obj.mapSeq (·.setIfInBounds j u) {cls:=.type "list",data:=.seq l.toArray n}={cls:=.type "list",data:=.seq (l.set j u).toArray n}:=by
 simp[Obj.mapSeq]
def Inv.lst{DE:oI}{EK:St}{H:Hp}{s:Shared}{p:Addr}{xs:sx}(I:Inv X DE EK H s)(h:H p=some (.lst xs)):
  ∃(j:re) (n:Nat),Vals xs j/\s.heap.get? p=some {cls:=.type "list",data:=.seq j.toArray n}/\xs.length<=sizeLine:=by
 obtain⟨z,j,n,r,e⟩:=I.DV p _ h;exact⟨j,n,r,e,z⟩
def Inv.YO{DE:oI}{EK:St}{H:Hp}{s:Shared}{p:Addr}{xs ys:sx}{z its':re}{n j:Nat}{f:Obj->Obj}(I:Inv X DE EK H s)(h:H p=some (.lst xs))
  (D:s.heap.get? p=some {cls:=.type "list",data:=.seq z.toArray n}) (l:f {cls:=.type "list",data:=.seq z.toArray n}={cls:=.type "list",data:=.seq its'.toArray j}) (r:Vals ys its') (hz:ys.length<=sizeLine) (t:Nat):
  Inv X DE EK (upd H p (.lst ys)) {s with heap:=s.heap.update p f,toks:=t}:=by
 have e:(s.heap.update p f).get? p=some {cls:=.type "list",data:=.seq its'.toArray j}:=by
  rw[eJ f D (by rw[l]<;>rfl),l]
 refine I.write (x:=p) (e:=p) (by rw[h];trivial) (.inl rfl) (λb u B q=>(eP _ _ (fm B)).trans q) ⟨_,e⟩ ?_;exact⟨hz,its',j,r,e⟩
def UV:V->V->V->Hp->(Hp->Prop)->Prop:=λo i v H Q=>∃p xs k j,o=.ref p/\i=.int k/\H p=some (.lst xs)/\OL xs.length k=some j/\Q (upd H p (.lst (xs.set j v)))
def set_list:QK X UV:=by
 intro DE s EK H o i v Z U u Q I ro N O h;obtain⟨p,xs,k,j,rfl,rfl,G,M,q⟩:=h;cases ro;obtain⟨t,rfl⟩:=N;obtain⟨J,n,r,l,hz⟩:=I.lst G;obtain⟨h1,h2,D,L⟩:=DN M;have z:=r.length;have Y:=pF;have F:Inv X DE EK (upd H p (.lst (xs.set j v))) {s with heap:=s.heap.update p (Obj.mapSeq (·.setIfInBounds j u))}:=
  I.YO G l (Fy J n j u) (r.set O j) (by rw[eg];exact hz) s.toks
 by_cases h0:0<=k
 ·have B:k.toNat=j:=by
   rw[seqIndex_of h0 L]at h1;exact bq h1
  exact W.ki_setAt l h0 (by omega) (by rw[aE,←z];exact L) (by rw[B];exact⟨_,F,q⟩)
 ·have B:(k+(J.toArray.size:Int)).toNat=j:=by
   rw[seqIndex_neg (by omega) D]at h1;rw[aE,←z];exact bq h1
  exact W.ki_setBack l (by omega) (by rw[aE,←z];exact D) (by omega) (by rw[B];exact⟨_,F,q⟩)
def Ab(lo hi:Option Int)(n:Nat):(sliceBounds lo hi none n).1=((HT.EA n 0 lo:Nat):Int)/\(sliceBounds lo hi none n).2.1=((HT.EA n n hi:Nat):Int)/\(sliceBounds lo hi none n).2.2=1:=by
 refine⟨?_,?_,rfl⟩
 ·cases lo with
  |none=>simp[sliceBounds,HT.EA]
  |some i=>
   simp only[sliceBounds,HT.EA,Option.getD_none,show(1:Int)>0 by decide,fT];by_cases h:i<0
   ·simp only[h,fT]<;>omega
   ·simp only[h,fw]<;>omega
 ·cases hi with
  |none=>simp[sliceBounds,HT.EA]
  |some i=>
   simp only[sliceBounds,HT.EA,Option.getD_none,show(1:Int)>0 by decide,fT];by_cases h:i<0
   ·simp only[h,fT]<;>omega
   ·simp only[h,fw]<;>omega
def yN(j:re)(lo hi:Option Int):slicePick j.toArray lo hi none=((j.drop (HT.EA j.length 0 lo)).take (HT.EA j.length j.length hi - HT.EA j.length 0 lo)).toArray:=by
 obtain⟨h1,h2,l⟩:=Ab lo hi j.toArray.size;unfold slicePick;rw[h1,h2,l];simp only[sliceRange_one,pick_run,aE]<;>rfl
def Q_(K:W.Frag):V->Option Int->Option Int->Hp->VK->Prop:=λx lo hi H Q=>∃a xs,x=.ref a/\EJ K H a xs/\∀p,H p=none->Q (.ref p) (upd H p (.lst (rW xs lo hi)))
def Xo:To X (Q_ X.K):=by
 intro DE s EK H x v G M lo hi J Q I D z pl B h;obtain⟨a,xs,rfl,n,q⟩:=h;cases D;obtain⟨F,r,l,hz⟩:=I.list n;have j:=r.length;refine⟨"list",_,slot_list_getitem.lookup,l.isList.typeIs,?_⟩;refine wpAny_getItem_list_slice l.isList z pl B .none (by simp) ?_ (by rw[aE]<;>omega);rw[yN,←j];refine⟨.ref s.heap.objs.size,_,I.laid (t':=s.toks) (o:=.lst (rW xs lo hi)) (λb L q=>ae _ q) (ax _) ?_,rfl,q _ (I.DV.fresh (ax _))⟩;exact⟨df (ux xs lo hi) hz,_,0,(r.drop (HT.EA xs.length 0 lo)).take (HT.EA xs.length xs.length hi - HT.EA xs.length 0 lo),av _ rfl⟩
noncomputable def jw:V->Bool
 |.DS=>true
 |.bl _=>true
 |.int _=>true
 |.str _=>true
 |_=>false
noncomputable def Xp:V->V->Bool
 |.DS,.DS=>true
 |.bl a,.bl b=>a == b
 |.bl a,.int b=>(if a then 1 else 0) == b
 |.int a,.bl b=>a == (if b then 1 else 0)
 |.int a,.int b=>a == b
 |.str a,.str b=>a == b
 |_,_=>false
def Ra{A:Around}{s:Shared}{y x:V}{u v:Value}(l:RelV y u)(j:RelV x v)(q:jw y=true)(n:jw x=true):SeqAt.EqAt A s u v (Xp y x):=by
 cases y with
 |DS=>
  cases l;cases x with
  |DS=>cases j;exact SeqAt.EqAt.same _
  |bl b=>cases j;exact SeqAt.EqAt.none_bool b
  |int b=>obtain⟨t,rfl⟩:=j;exact SeqAt.EqAt.none_int b t
  |str b=>obtain⟨t,rfl⟩:=j;exact SeqAt.EqAt.none_str b t
  |_=>exact absurd (show false=true from n) bi
 |bl a=>
  cases l;cases x with
  |DS=>cases j;exact SeqAt.EqAt.bool_none a
  |bl b=>cases j;exact SeqAt.EqAt.bool_bool a b
  |int b=>obtain⟨t,rfl⟩:=j;exact SeqAt.EqAt.bool_int a b t
  |str b=>obtain⟨t,rfl⟩:=j;exact SeqAt.EqAt.bool_str a b t
  |_=>exact absurd (show false=true from n) bi
 |int a=>
  obtain⟨t',rfl⟩:=l;cases x with
  |DS=>cases j;exact SeqAt.EqAt.int_none a t'
  |bl b=>cases j;exact SeqAt.EqAt.int_bool a t' b
  |int b=>obtain⟨t,rfl⟩:=j;exact ml a t' b t
  |str b=>obtain⟨t,rfl⟩:=j;exact l9 a t' b t
  |_=>exact absurd (show false=true from n) bi
 |str a=>
  obtain⟨t',rfl⟩:=l;cases x with
  |DS=>cases j;exact SeqAt.EqAt.str_none a t'
  |bl b=>cases j;exact SeqAt.EqAt.str_bool a t' b
  |int b=>obtain⟨t,rfl⟩:=j;exact ma a t' b t
  |str b=>obtain⟨t,rfl⟩:=j;exact SeqAt.EqAt.str_str a t' b t
  |_=>exact absurd (show false=true from n) bi
 |_=>exact absurd (show false=true from q) bi
noncomputable def OM(x:V)(u:Value):Bool:=match u with
 |.none=>Xp .DS x
 |.bool b=>Xp (.bl b) x
 |.int i _=>Xp (.int i) x
 |.str z _=>Xp (.str z) x
 |_=>false
def H_{x y:V}{u:Value}(r:RelV y u)(f:jw y=true):OM x u=Xp y x:=by
 cases y with
 |DS=>cases r;rfl
 |bl b=>cases r;rfl
 |int i=>obtain⟨t,rfl⟩:=r;rfl
 |str z=>obtain⟨t,rfl⟩:=r;rfl
 |_=>exact absurd (show false=true from f) bi
theorem pJ{x:V}:∀{xs:sx}{us:re},Vals xs us->xs.all jw=true->us.any (OM x)=xs.any λy=>Xp y x
 |_,_,.nil,_=>rfl
 |y::xs,u::us,.cons r t,f=>by
  rw[iN,cb]at f;rw[ft,ft,H_ r f.1,pJ t f.2]
theorem mU{A:Around}{s:Shared}{x:V}{v:Value}(n:RelV x v)(l:jw x=true):∀{xs:sx}{us:re},Vals xs us->xs.all jw=true->∀u∈us,SeqAt.EqAt A s u v (OM x u)
 |_,_,.nil,_=>λu j=>by cases j
 |y::xs,u::us,.cons r t,f=>λq j=>by
  rw[iN,cb]at f;rcases br.mp j with rfl|j
  ·rw[H_ r f.1];exact Ra r n f.1 l
  ·exact mU n l t f.2 q j
noncomputable def inV(x:V)(xs:sx):Bool:=xs.any λy=>Xp y x
def ZT(K:W.Frag)(neg:Bool):R2:=λx y H Q=>∃p xs,y=.ref p/\(EJ K H p xs\/F0 K H p xs)/\jw x=true/\xs.all jw=true/\Q (.bl (if neg then !inV x xs else inV x xs)) H
def Ia:F3 X (compareOp .In) (ZT X.K false):=by
 intro DE s EK H x y v u Q I B D h;obtain⟨p,xs,rfl,l,z,fs,q⟩:=h;cases D;rcases l with l|l
 ·obtain⟨j,r,pl,hz⟩:=I.list l
  refine SeqAt.in_listAt (OM x) pl.isList (λw n=>mU B z r fs w (by simpa using n)) ⟨.bl _,H,I,rfl,?_⟩;rw[show j.toArray.any (OM x)=j.any (OM x) by simp,pJ r fs];exact q
 ·obtain⟨j,r,pl,hz⟩:=I.tuple l
  refine SeqAt.in_tupleAt (OM x) pl (λw n=>mU B z r fs w (by simpa using n)) ⟨.bl _,H,I,rfl,?_⟩;rw[show j.toArray.any (OM x)=j.any (OM x) by simp,pJ r fs];exact q
def Ac:F3 X (compareOp .NotIn) (ZT X.K true):=by
 intro DE s EK H x y v u Q I B D h;obtain⟨p,xs,rfl,l,z,fs,q⟩:=h;cases D;rcases l with l|l
 ·obtain⟨j,r,pl,hz⟩:=I.list l
  refine SeqAt.notIn_listAt (OM x) pl.isList (λw n=>mU B z r fs w (by simpa using n)) ⟨.bl _,H,I,rfl,?_⟩;rw[show j.toArray.any (OM x)=j.any (OM x) by simp,pJ r fs];exact q
 ·obtain⟨j,r,pl,hz⟩:=I.tuple l
  refine SeqAt.notIn_tupleAt (OM x) pl (λw n=>mU B z r fs w (by simpa using n)) ⟨.bl _,H,I,rfl,?_⟩;rw[show j.toArray.any (OM x)=j.any (OM x) by simp,pJ r fs];exact q
def rY:EE X (.builtin "len") (λxs H Q=>∃p ys,xs=[.ref p]/\(EJ X.K H p ys\/F0 X.K H p ys)/\Q (.int ys.length) H):=by
 intro DE s EK H xs us Q I r h;obtain⟨p,ys,rfl,l,q⟩:=h;obtain⟨u,rfl,B⟩:=vals1 r;cases B;have D:=pF;rcases l with l|l
 ·obtain⟨z,n,pl,hz⟩:=I.list l
  have j:=n.length;exact Calls.call_len_list pl.isList (by simp only[aE]<;>omega) ⟨.int ys.length,H,I.tok _,⟨s.toks+1,by rw[aE,j]⟩,q⟩
 ·obtain⟨z,n,pl,hz⟩:=I.tuple l
  have j:=n.length;exact len_tuple pl (by simp only[aE]<;>omega) ⟨.int ys.length,H,I.tok _,⟨s.toks+1,by rw[aE,j]⟩,q⟩
def Ad:EE X (.builtin "len") (λxs H Q=>∃z,xs=[.str z]/\z.length<=sizeLine/\Q (.int z.length) H):=by
 intro DE s EK H xs us Q I r h;obtain⟨z,rfl,hz,q⟩:=h;obtain⟨u,rfl,t,rfl⟩:=vals1 r;have j:=pF;exact len_str (by omega) ⟨.int z.length,H,I.tok _,⟨_,rfl⟩,q⟩
def EE.or{f:Value}{r j:List V->Hp->VK->Prop}(h:EE X f r)(h':EE X f j):EE X f (λxs H Q=>r xs H Q\/j xs H Q):=by
 intro DE s EK H xs us Q I l q;rcases q with q|q
 ·exact h DE s EK H xs us Q I l q
 ·exact h' DE s EK H xs us Q I l q
def Ae:EE X (.type "list") (λxs H Q=>∃p ys,xs=[.ref p]/\(EJ X.K H p ys\/F0 X.K H p ys)/\∀l,H l=none->Q (.ref l) (upd H l (.lst ys))):=by
 intro DE s EK H xs us Q I r h;obtain⟨p,ys,rfl,D,q⟩:=h;obtain⟨u,rfl,O⟩:=vals1 r;cases O;have G:∀(j:re),Vals ys j->ys.length<=sizeLine->∀(h':Heap) (B:Nat),(∀b o',s.heap.get? b=some o'->h'.get? b=some o')->
   h'.get? s.heap.objs.size=some {cls:=.type "list",dict:=none,data:=.seq j.toArray B,slots:=#[]}->EP X DE EK Q (.ref s.heap.objs.size) {s with heap:=h'}:=λj z hz h' B J e=>
  ⟨.ref s.heap.objs.size,_,I.laid (t':=s.toks) J (ax _) (show DZ X.prog X.w X.K _ h' _ (.lst ys)from⟨hz,j,B,z,e⟩),rfl,q _ (I.DV.fresh (ax _))⟩
 rcases D with D|D
 ·obtain⟨j,z,pl,hz⟩:=I.list D
  have F:=z.length;obtain⟨o,M,N,n,L⟩:=pl.isList;exact call_list_seq p (.inl rfl) M N L (λh' B J e=>G j z hz h' B J e) (by simp only[aE]<;>omega)
 ·obtain⟨j,z,pl,hz⟩:=I.tuple D
  have F:=z.length;obtain⟨o,M,N,n,L⟩:=pl;exact call_list_seq p (.inr rfl) M N L (λh' B J e=>G j z hz h' B J e) (by simp only[aE]<;>omega)
def q_:EE X (.type "tuple") (λxs H Q=>∃p ys,xs=[.ref p]/\((EJ X.K H p ys/\∀l,H l=none->Q (.ref l) (upd H l (.tup ys)))\/(F0 X.K H p ys/\Q (.ref p) H))):=by
 intro DE s EK H xs us Q I r h;obtain⟨p,ys,rfl,h⟩:=h;obtain⟨u,rfl,G⟩:=vals1 r;cases G;rcases h with⟨n,q⟩|⟨n,q⟩
 ·obtain⟨j,z,pl,hz⟩:=I.list n
  have D:=z.length;refine call_tuple_list pl.isList (λh' J=>?_) (by simp only[aE]<;>omega);have B:Inv X DE EK H {s with heap:=h'}:=I.kept (t':=s.toks) J;have F:Inv X DE EK (upd H h'.objs.size (.tup ys)) {s with heap:=h'.push {cls:=.type "tuple",data:=.seq j.toArray}}:=
   B.laid (t':=s.toks) (λb o e=>ae _ e) (ax _) (show DZ X.prog X.w X.K _ _ _ (.tup ys)from⟨hz,j,z,⟨_,av _ rfl,rfl,0,rfl,rfl⟩⟩)
  exact⟨.ref h'.objs.size,_,F,rfl,q _ (B.DV.fresh (ax _))⟩
 ·obtain⟨j,z,pl,hz⟩:=I.tuple n
  exact call_tuple_same pl ⟨.ref p,H,I,rfl,q⟩
def tyV(K:W.Frag)(T:String)(x:V)(H:Hp):Prop:=match x with
 |.str _=>T = "str"
 |.int _=>T = "int"
 |.ref p=>(T = "list" /\ ∃xs,EJ K H p xs)\/(T = "tuple" /\ ∃o,K.lookup p=some o/\o.cls=.type "tuple" /\ o.dict=none) \/
   (T = "dict" /\ ((∃kvs,H p=some (.dK kvs))\/∃kvs,H p=some (.dT kvs)))\/(T = "set" /\ ∃S n,H p=some (.set S n))
 |_=>False
def Rb{DE:oI}{EK:St}{H:Hp}{s:Shared}{T:String}{x:V}{v:Value}(I:Inv X DE EK H s)(r:RelV x v)(ty:tyV X.K T x H):
  s.TypeIs v T/\∀a,v=.ref a->∃q,s.heap.get? a=some q/\q.dict=none:=by
 cases x with
 |str z=>
  obtain⟨t,rfl⟩:=r;cases(show T = "str" from ty);exact⟨typeIs_str s z t,λ_ e=>nomatch e⟩
 |int i=>
  obtain⟨t,rfl⟩:=r;cases(show T = "int" from ty);exact⟨pc s i t,λ_ e=>nomatch e⟩
 |ref p=>
  cases r;rcases ty with⟨rfl,xs,B⟩|⟨rfl,o,j,hc,l⟩|⟨rfl,j⟩|⟨rfl,S,n,j⟩
  ·obtain⟨D,_,pl,_⟩:=I.list B
   refine⟨pl.isList.typeIs,λa e=>?_⟩;cases e;obtain⟨o,n,e,c,l,_⟩:=pl;exact⟨o,e,l⟩
  ·refine⟨⟨o,I.HI p o j,hc⟩,λa e=>?_⟩
   cases e;exact⟨o,I.HI _ o j,l⟩
  ·have z:∃o,s.heap.get? p=some o/\o.ExactDict:=by
    rcases j with⟨kvs,j⟩|⟨kvs,j⟩
    ·obtain⟨_,_,_,_,o,_,_,e,ex,_⟩:=I.DV p _ j
     exact⟨o,e,ex⟩
    ·obtain⟨_,_,_,_,o,_,_,e,ex,_⟩:=I.DV p _ j
     exact⟨o,e,ex⟩
   obtain⟨o,e,ex⟩:=z;refine⟨⟨o,e,ex.1⟩,λa e2=>?_⟩;cases e2;exact⟨o,e,ex.2.1⟩
  ·obtain⟨o,_,_,_,e,ex,_⟩:=I.DV p _ j
   refine⟨⟨o,e,ex.1⟩,λa e2=>?_⟩;cases e2;exact⟨o,e,ex.2.1⟩
 |_=>exact False.elim ty
def Yc(K:W.Frag)(T:String)(r:V->List V->Hp->VK->Prop)(to:TE)(t:TA):TE:=fun EK H Q=>to EK H λx H1=>tyV K T x H1/\t EK H1 λxs H2=>r x xs H2 Q
variable {o e:Expr}{es:rh}{to:TE}{t:TA}{name:Str}{apos D3:Pos}{T id:String}{r:V->List V->Hp->VK->Prop}
def Fz(D:PlainAttrs T)(j:Slot T name id)(l:typeOf (.builtin id)=pure (.type "method_descriptor"))(M:MtR X id r)(O:PE X o to)(Y:PA X (e::es) t)
  (Z:autoParam (Xh X o name) r0_)
  (U:autoParam (ZQ X D3 (e::es)) r0_)
  (HM:autoParam ((apos.endLine == D3.line)=true) r0_) (J:autoParam (GB X e es) r0_) (OP:autoParam (JI X D3 es) r0_):
  PE X (.Call (.Attribute o name apos) (e::es) [] D3) (Yc X.K T r to t):=by
 intro DE s EK H Q I h;refine wpAny_Call_method_late Z U HM rfl (D8 (O DE s EK H _ I h) ?_);rintro v G ⟨x,H1,n,q,ty,q1⟩;obtain⟨h1,h2⟩:=Rb n q ty;refine⟨T,id,D,j,l,h1,h2,?_⟩;have z:=Y D3 DE G EK H1 _ n q1;rw[J]at z ⊢;refine kH (by show(false||(backTo D3 (starEach es X.env)).any (·.1))=false;rw[OP]<;>rfl) (i9 ?_);exact D8 z λus L ⟨vs,H2,N,F,B⟩=>M DE L EK H2 x vs v us Q N q F B
end
def MtM(X:Cx)(id:String)(r:V->List V->Hp->VK->Prop):Prop:=
 ∀(DE:oI) (s:Shared) (EK:St) (H:Hp) (x:V) (xs:sx) (v:Value) (us:re) (Q:VK),Inv X DE EK H s->RelV x v->Vals xs us->r x xs H Q->
  wpAny (model X.prog X.w) X.A (call (.builtin id) (v::us)) (EP X DE EK Q) X.xe s
def Vals.one{x:V}{us:re}(h:Vals [x] us):∃u,us=[u]/\RelV x u:=by
 cases h with
 |cons r t=>cases t;exact⟨_,rfl,r⟩
def Vals.reverse{xs:sx}{us:re}(h:Vals xs us):Vals xs.reverse us.reverse:=by
 induction h with
 |nil=>exact .nil
 |cons r t j=>rw[kL,kL];exact Vals.append j (.cons r .nil)
section
variable {X:Cx}{DE:oI}{EK:St}{H:Hp}{s:Shared}{l b:Addr}{xs ys zs:sx}
def Inv.lset{j its':re}{n:Nat}{f:Array Value->Array Value}{t':Nat}(I:Inv X DE EK H s)(G:H l=some (.lst xs))
  (e:s.heap.get? l=some {cls:=.type "list",data:=.seq j.toArray n}) (B:f j.toArray=its'.toArray) (z:Vals ys its') (hz:ys.length<=sizeLine):
  Inv X DE EK (upd H l (.lst ys)) {s with heap:=s.heap.update l (Obj.mapSeq f),toks:=t'}:=by
 have q:=PySem.IsL.update e f;rw[B]at q;refine I.write (x:=l) (e:=l) (by rw[G];exact trivial) (.inl rfl) (λJ u F D=>(eP s.heap (Obj.mapSeq f) (fm F)).trans D) ⟨_,q⟩ ?_;exact⟨hz,its',_,z,q⟩
def Inv.lnew{j:re}{t':Nat}(I:Inv X DE EK H s)(n:Vals ys j)(hz:ys.length<=sizeLine):
  Inv X DE EK (upd H s.heap.objs.size (.lst ys)) {s with heap:=s.heap.push {cls:=.type "list",data:=.seq j.toArray},toks:=t'}:=
 I.laid (λ_ _ q=>ae _ q) (ax _) ⟨hz,j,0,n,av _ rfl⟩
def Inv.fresh(I:Inv X DE EK H s):H s.heap.objs.size=none:=I.DV.fresh (ax _)
def Inv.TB(I:Inv X DE EK H s)(q:H l=some (.lst xs)):xs.length<=sizeLine/\∃(j:re) (n:Nat),Vals xs j/\xs.length=j.length/\s.heap.get? l=some {cls:=.type "list",data:=.seq j.toArray n}:=by
 obtain⟨z,j,n,r,e⟩:=I.DV l _ q;exact⟨z,j,n,r,r.length,e⟩
def Ko{n:Nat}(h:n<=sizeLine):Builtin.List.listTooLong n=false:=by
 unfold Builtin.List.listTooLong;exact ed (by omega)
end
section
variable {X:Cx}
def tW:V->List V->Hp->VK->Prop:=λx vs H Q=>∃l xs y,x=.ref l/\vs=[y]/\H l=some (.lst xs)/\xs.length<sizeLine/\Q .DS (upd H l (.lst (xs++[y])))
def lH:MtM X "list.append" tW:=by
 intro DE s EK H x vs v us Q I J G h;obtain⟨l,xs,y,rfl,rfl,B,hz,q⟩:=h;cases J;obtain⟨u,rfl,D⟩:=G.one;obtain⟨z,j,n,r,L,e⟩:=I.TB B;refine le F.slot_list_append ⟨_,e,rfl⟩ F.entry_list_append (F.args_list_append_2 _ _) (PySem.list_append l j.toArray n u (by rw[aE];omega)) ⟨e,?_⟩;refine⟨.DS,_,I.lset (its':=j++[u]) B e (by simp) (r.append (.cons D .nil)) ?_,rfl,q⟩;rw[ci,k6];omega
def O4:V->List V->Hp->VK->Prop:=λx vs H Q=>∃l b xs zs,x=.ref l/\vs=[.ref b]/\H l=some (.lst xs)/\H b=some (.lst zs)/\xs.length+zs.length<=sizeLine/\Q .DS (upd H l (.lst (xs++zs)))
def Ib:MtM X "list.extend" O4:=by
 intro DE s EK H x vs v us Q I O M h;obtain⟨l,b,xs,zs,rfl,rfl,G,N,hz,q⟩:=h;cases O;obtain⟨u,rfl,J⟩:=M.one;cases J;obtain⟨z,B,n,r,Z,e⟩:=I.TB G;obtain⟨Y,D,U,L,OQ,e2⟩:=I.TB N;have hsz:B.toArray.size+D.toArray.size<=sizeLine:=by rw[aE,aE];omega
 have j:¬ (!B.toArray.isEmpty&&Builtin.List.listTooLong (B.toArray.size+D.toArray.size))=true:=by
  rw[Ko hsz,Bool.and_false];exact bi
 refine le F.slot_list_extend ⟨_,e,rfl⟩ F.entry_list_extend (F.args_list_extend_2 _ _)
  (AutoSeq1.list_extend_list_list_0 l B.toArray n b D.toArray U j (by rw[aE];omega) (by omega)) ⟨e,e2,?_⟩
 refine⟨.DS,_,I.lset (its':=B++D) G e (by simp) (r.append L) ?_,rfl,q⟩;rw[ci];omega
def Kq:R2:=λx y H Q=>∃l b xs zs,x=.ref l/\y=.ref b/\H l=some (.lst xs)/\H b=some (.lst zs)/\xs.length+zs.length<=sizeLine/\∀p,H p=none->Q (.ref p) (upd H p (.lst (xs++zs)))
def Ie:F3 X (binaryOp .Add) Kq:=by
 intro DE s EK H x y v u Q I L D h;obtain⟨l,b,xs,zs,rfl,rfl,M,J,hz,q⟩:=h;cases L;cases D;obtain⟨z,j,n,r,U,e⟩:=I.TB M;obtain⟨N,B,Y,G,O,e2⟩:=I.TB J;refine PySem.P.add_list e e2 ?_ (by rw[aE,aE];omega);have F:j.toArray++B.toArray=(j++B).toArray:=by simp
 rw[F];exact⟨.ref _,_,I.lnew (t':=s.toks) (r.append G) (by rw[ci];omega),rfl,q _ I.fresh⟩
end
end Lake.L2
namespace Lake.Att
open PySem PySem.W PySem.Calls PyProof.Rows
def vM{P:Params}{h:Heap}:∀(j:rL) (vs:re),WellAll P h vs (j.map WData.int)->IntsAre vs j:=by
 intro j;induction j with
 |nil=>
  intro vs w;rw[js]at w;cases w;exact .nil
 |cons n j q=>
  intro vs w;rw[bb]at w;cases w with
  |cons a b=>
   cases a;exact .cons _ _ (q _ b)
def Ig{l:OpenLaw}{n:Nat}(L:l.most=some n){P:Params}{h:Heap}{args:List WData}{z:re}
  (I:l.row.toRowW.claim.pre args=true) (Z:WellAll P h z args):
  ∃a vs j,z=[Value.ref a]/\args=[WData.list (j.map WData.int)]/\h.get? a=some {cls:=.type "list",data:=.seq vs.toArray}/\IntsAre vs j/\j.length<=n:=by
 have G:WShape.hasAll [] args [.list .int]=true:=(pre_splitW I).1;have J:l.pre.holds [] {args:=args}=true:=(pre_splitW I).2;obtain⟨d,r,rfl,h1,h2⟩:=hasAllW_cons G;obtain rfl:=hasAllW_nil h2;obtain⟨xs,rfl,M⟩:=hasW_list h1;obtain⟨j,rfl⟩:=items_int M;have B:j.length<=n:=by
  unfold OpenLaw.pre at J;have D:(WTm.not (.lt (.lit (.int (n:Int))) (.len (.arg 0)))).holds [] {args:=[.list (j.map .int)]}=true:=by
   have D:=(holds_andW J).1;rw[L]at D;exact D
  have F:=condW_of D (w_not (w_lt w_lit (w_len_list (w_arg rfl))));rw[ay]at F;refine Nat.le_of_not_lt λq=>?_;have N:(n:Int)<((j.length:Nat):Int):=by omega
  first
   |(rw[fe N]at F;exact absurd F (by decide))
   |(simp at F;omega)
 cases Z with
 |cons O w2=>
  cases w2;cases O with
  |list U Y=>exact⟨_,_,j,rfl,rfl,U,vM j _ Y,B⟩
def Ih(l:OpenLaw)(args:List WData):l.row.toRowW.claim.post args (.bool true) args=true:=
 postW_of (r:=l.row.toRowW) (X:=(true == true))
  (show WShape.has [] (.bool true) .bool=true by first|rfl|decide|simp[WShape.has,WShape.arms,WShape.armsAll])
  (show(WTm.eq .res (.lit (.bool true))).value [] {args:=args,res:=some (.bool true),after:=args}=some (.bool (true == true))from w_eq_bool (w_res rfl) w_lit) rfl
def NR{l:OpenLaw}{n:Nat}{q:Program}{j:rj}{XP:(Str->Option Value)->Heap->Prop}{Z:World->Heap->Prop}{d:DefRec}
  (hn:l.most=some n) (O:d.params.defaults=[])
  (call:∀(w:World) (s₀ z:Shared) (J N:rX) (F:Addr) (o:Obj) (pm M B:Value) (a:Addr) (vs:re) (L:rL),
   Ground q j [] XP w s₀ J N z.heap->Z w z.heap->
   z.heap.get? F=some o->o.data=.func (docDef d.name d.params d.body d.scope pm M B)->z.heap.CodeRec M d.name->J d.name=some (.ref F)->
   z.heap.get? a=some {cls:=.type "list",data:=.seq vs.toArray}->IntsAre vs L->L.length<=n->z.gens=#[]->
   codeAny (model l.prog w) callerA (.call (.ref F) ⟨[.ref a],[]⟩) (λr s'=>r=.ok (.ret (.bool true))/\OldK z.heap s'.heap/\s'.os=z.os/\AllBare s'.gens) z):
  WalkO q j XP Z l.row.toRowW d [] (λf vs=>PySem.call f vs):=by
 intro w s₀ z J N G Y F o pm M B dV kV ho hd GI hD U hg args vals as Xq hlay hrd IE Yd;obtain rfl:dV=.none:=Dflts.none hD O;obtain rfl:kV=.none:=Dflts.noKw hD;obtain⟨a,vs,L,rfl,rfl,YQ,D,I⟩:=Ig hn Xq IE;refine enter_call (jI (call w s₀ z J N F o pm M B a vs L G Y ho (fd_plain hd) GI U YQ D I hg) λr s' hq=>?_);obtain⟨rfl,h2,h3,h4⟩:=hq;exact⟨.inl ⟨.bool true,.bool true,[],rfl,λ_=>rfl,.bool true,Ih l _,λ_=>⟨List.Pairwise.nil,λ_ hm=>(nomatch hm)⟩⟩,h2,h3,h4⟩
end Lake.Att
namespace Lake.L2
open PySem PySem.Spec PyProof.Rows
theorem yt:∀{vs:re}{ns:rL},IntsAre vs ns->Vals (ns.map V.int) vs
 |_,_,.nil=>.nil
 |_,_,.cons n t h=>.cons ⟨t,rfl⟩ (yt h)
def Xr(H:Hp):Prop:=∀b,H b=none\/∃o xs,H b=some (.frz o (.lst xs))
variable {K:W.Frag}{fd:FuncData}
def Kr{P:Program}{w:World}{M mb:rX}{CX:QU}{k:Nat}{fa a:Addr}{x:Str}{sp:Sp}{j:Shared}{vs:re}{N:rL}
  (KX:K.In j.heap) (YR:j.heap.Ns mainGlobals M) (B:j.heap.Ns builtinsNs mb) (hbb:∀x:Str,x ≠ "__name__" -> mb x=bootBuiltins x) (Y:j.heap.NoLimit) (hg:j.gens=#[])
  (Z:j.heap.get? a=some {cls:=.type "list",data:=.seq vs.toArray}) (hi:IntsAre vs N) (hl:N.length<=sizeLine) (hr:Ee k callerA)
  (F:∀base:Heap,K.In base->base.Ns mainGlobals M->EC P w K M base CX k fa fd [x] sp) (I:∀(s:Shared) (u:Value),BindsTo s fd ⟨[u],[]⟩ [(x,u)])
  (QY:∀H:Hp,Xr H->EJ K H a (N.map V.int)->sp [.ref a] H (λv _=>v=.bl true) λ_ _ _=>False)
  (hCX:∀H e s',CX [] H j (λ_ _ _=>False) e s'->False):
  codeAny (model P w) callerA (.call (.ref fa) ⟨[.ref a],[]⟩) (λr s'=>r=.ok (.ret (.bool true))/\OldK j.heap s'.heap/\s'.os=j.os/\AllBare s'.gens) j:=by
 have rv:=yt hi;have F6:=hi.length;have G:∀H:Hp,Xr H->EJ K H a (N.map V.int)->GY P w K H j.heap->(∀b,H b≠none->b=a)->(H a≠none->K.lookup a=none)->
   codeAny (model P w) callerA (.call (.ref fa) ⟨[.ref a],[]⟩) (λr s'=>r=.ok (.ret (.bool true))/\OldK j.heap s'.heap/\s'.os=j.os/\AllBare s'.gens) j:=by
  intro H hO hS DV hA hK;have PD:∀{b:Addr}{o:Obj},j.heap.get? b=some o->H b=none->(qd j.heap H).get? b=some o:=λe n=>J2 e n;have noA:∀{b:Addr}{o:Obj}{es:Array DictEntry}{ep:Nat},j.heap.get? b=some o->o.data=.dict es ep->H b=none:=λ{b o es ep} e d=>by
   cases q:H b with
   |none=>rfl
   |some u=>
    have e':b=a:=hA b (by rw[q];simp);subst e';rw[Z]at e;cases e;have d':Data.seq vs.toArray _=Data.dict es ep:=d;cases d'
  have D:∀{b:Addr}{m:rX},j.heap.Ns b m->(qd j.heap H).Ns b m:=λ{b m} ⟨o,es,ep,e,d,r⟩=>⟨o,es,ep,PD e (noA e d),d,r⟩;have U:K.In (qd j.heap H):=λb o e=>PD (KX b o e) (by
   cases q:H b with
   |none=>rfl
   |some u=>
    have e':b=a:=hA b (by rw[q];simp);subst e';rw[hK (by rw[q];simp)]at e;cases e)
  have hM:Mod K M (qd j.heap H):=⟨U,D YR,⟨mb,D B,hbb⟩,let ⟨mc,h1,h2⟩:=Y;⟨mc,D h1,h2⟩⟩;have e0:OK P w K M (qd j.heap H) callerA [] j H:=⟨rfl,hM,λb o e=>Oc e,Nat.le_of_eq (Ho _ _),trivial,λb B=>absurd (show b∈([]:rS)from B) (by simp),DV,.of_eq hg⟩;refine jI ((F _ U (D YR)).run callerA [] j H ⟨[.ref a],[]⟩ [.ref a] [.ref a] _ _ hr e0 (I j (.ref a)) (.cons rfl .nil) (QY H hO hS)) λr s' h=>?_;cases r with
  |error e=>exact(hCX H e s' h).elim
  |ok fl=>
   cases fl with
   |next=>exact False.elim h
   |brk=>exact False.elim h
   |cont=>exact False.elim h
   |ret u=>
    obtain⟨v,H',os,L,un,O,r',q⟩:=h;have q':v=.bl true:=q;subst q';obtain rfl:u=Value.bool true:=r';refine⟨rfl,OldK.of_keep λb o e=>?_,os,L⟩;cases q:H b with
    |none=>exact un.keep b o e q (by intro z;exact absurd (show b∈([]:rS)from z) (by simp)) (by simp)
    |some u=>
     rcases hO b with z|⟨ob,xs,z⟩
     ·rw[q]at z;cases z
     ·have z2:=un.IQ b ob _ z
      obtain⟨e1,_⟩:=DV b _ z;obtain⟨e2,_⟩:=O b _ z2;rw[e]at e1;cases e1;exact e2
 cases hk:K.lookup a with
 |some o=>
  have e:=KX a o hk;rw[Z]at e;cases e;refine G (λ_=>none) (λ_=>.inl rfl) (.inr ⟨_,vs.toArray,_,hk,rfl,rfl,rfl,by rw[aE,F6];exact hl,by simpa using rv⟩) (λb u z=>by have J:(none:Option HO)=some u:=z;cases J) (λb z=>absurd rfl z) λz=>absurd rfl z
 |none=>
  refine G (λb=>if b=a then some (.frz {cls:=.type "list",data:=.seq vs.toArray} (.lst (N.map V.int)))else none) (λb=>?_) (.inl (.inr ⟨{cls:=.type "list",data:=.seq vs.toArray},bX rfl⟩)) (λb u z=>?_) (λb z=>?_) λ_=>hk
  ·by_cases B:b=a
   ·exact .inr ⟨_,_,bX B⟩
   ·exact .inl (bt B)
  ·by_cases B:b=a
   ·have J:=(bX B).symm.trans z
    cases J;subst B;exact⟨Z,by rw[ay];exact hl,vs,_,rv,Z⟩
   ·have J:=(bt B).symm.trans z
    cases J
  ·by_cases B:b=a
   ·exact B
   ·exact absurd (bt B) z
def Xs{l:W.OpenLaw}{n k:Nat}{q:Program}{z:rj}{XP:(Str->Option Value)->Heap->Prop}{U:World->Heap->Prop}{d:DefRec}{K:Params->W.Frag}{CX:World->QU}{sp:World->Sp}{x:Str}
  (hn:l.most=some n) (L:n<=sizeLine) (M:d.params.defaults=[]) (hr:Ee k callerA)
  (hY:∀(w:World) (h:Heap),U w h->(K w.params).In h)
  (F:∀(w:World) (D:rX) (I:Addr) (h:Heap),(K w.params).In h->h.Ns mainGlobals D->D d.name=some (.ref I)->
   ∃fd:FuncData,(∀(s:Shared) (u:Value),BindsTo s fd ⟨[u],[]⟩ [(x,u)]) /\
    ∀base:Heap,(K w.params).In base->base.Ns mainGlobals D->EC l.prog w (K w.params) D base (CX w) k I fd [x] (sp w))
  (QY:∀(w:World) (H:Hp) (a:Addr) (J:rL),J.length<=n->Xr H->EJ (K w.params) H a (J.map V.int)->sp w [.ref a] H (λv _=>v=.bl true) λ_ _ _=>False)
  (N:∀(w:World) (H:Hp) (s:Shared) (e:Value) (s':Shared),CX w [] H s (λ_ _ _=>False) e s'->False):
  W.WalkO q z XP U l.row.toRowW d [] (λf vs=>PySem.call f vs):=by
 refine Att.NR hn M λw s₀ EZ D mb I o pm cd doc a vs J G Y ho hd GI O YQ B j hg=>?_;have Z:=hY w _ Y;obtain⟨fd,hb,hF⟩:=F w D I _ Z G.T.g O;exact Kr Z G.T.g G.T.b G.T.builtins G.T.nolimit hg YQ B (df j L) hr hF hb (λH hO hS=>QY w H a J j hO hS) λH e s'=>N w H EZ e s'
noncomputable def inClass(s:Stmt)(j:Nat):Stmt:=match s with
 |.ClassDef _ _ _ body _ _ _ _ _ _ _=>body.getD j (.Pass ⟨0,0,0,0⟩)
 |_=>.Pass ⟨0,0,0,0⟩
def gk(s:Stmt):Arguments:=match s with
 |.FunctionDef _ a _ _ _ _ _ _ _ _=>a
 |_=>{posonlyargs:=[],args:=[],vararg:=none,kwonlyargs:=[],kw_defaults:=[],kwarg:=none,defaults:=[]}
noncomputable def dz(s:Stmt):List Stmt:=match s with
 |.FunctionDef _ _ b _ _ _ _ _ _ _=>b
 |_=>[]
def aA(s:Stmt):Scope:=match s with
 |.FunctionDef _ _ _ _ _ _ sc _ _ _=>sc
 |_=>{kind:=.function,names:=[],isGenerator:=false,isCoroutine:=false}
abbrev IP:QU:=λ_ _ _ _ _ _=>False
abbrev E0:XK:=λ_ _ _=>False
def vN{X:Cx}:pH IP X E0:=λ_ _ _ _ _ _ _ h=>h.elim
structure G0(K:W.Frag)(x qual:Str)(st:Stmt)(f:Addr)(fd:FuncData):Prop where
 ex:∃(oc:Value) (od:Option Addr) (kV doc pm:Value) (an:Option Addr) (FF ct:Value) (Xm:Array (Option Value)),
  fd=W.fnOf x qual (gk st) (dz st) (aA st) .none kV doc pm an FF ct/\K.lookup f=some ⟨oc,od,.func fd,Xm⟩/\W.codeIn K FF qual=true
 kp:W.keepIn K (.ref f)=true
section
variable {P:Program}{w:World}{K:W.Frag}{mg:rX}{base:Heap}
def G0.ok{x n:Str}{st:Stmt}{f:Addr}{N ps:rj}{k:Nat}{sp:Sp}(F:G0 K x n st f fd)(S:DJ N ps (aA st))(len:∀vs H Q E,sp vs H Q E->vs.length=ps.length)
  (B:∀(z:Value) (A:Around) (j:List Env) (s:Shared) (H:Hp) (vs:sx) (Q:VK) (E:XK),Ee k (A.deeper (envOfC n (aA st) s.heap.objs.size f z))->sp vs H Q E->
   ∃t,FX (cD IP P w K mg base N n (aA st) f z A j s H E).LV (dz st) t/\t {nx:=λ_ H'=>Q .DS H',rt:=Q} (start N vs) H):EC P w K mg base IP (k+1) f fd ps sp:=by
 obtain⟨M,Y,kV,L,pm,U,z,ct,O,rfl,G,I⟩:=F.ex;refine Nf G I S len λA j s H vs Q E J D=>?_;obtain⟨t,h,q⟩:=B z A j s H vs Q E J D;exact⟨t,h.LV,q⟩
def G0.binds{x j:Str}{st:Stmt}{f:Addr}{ps:rj}(F:G0 K x j st f fd)
  (h:∀(kV n pm:Value) (z:Option Addr) (q ct:Value) (us:re),us.length=ps.length->bindArgs (W.fnOf x j (gk st) (dz st) (aA st) .none kV n pm z q ct) ⟨us,[]⟩=pure (ps.zip us)):Binds K fd ps []:=by
 obtain⟨D,I,kV,n,pm,z,q,ct,G,rfl,J,B⟩:=F.ex;exact .all (h kV n pm z q ct)
def TH{x j:Str}{st:Stmt}{f:Addr}{B:Value}{F z:Option Addr}{D:Array (Option Value)}{kV n pm q ct:Value}(l:K.lookup f=some ⟨B,F,.func (W.fnOf x j (gk st) (dz st) (aA st) .none kV n pm z q ct),D⟩)
  (c:W.codeIn K q j=true) (k:W.keepIn K (.ref f)=true):G0 K x j st f (W.fnOf x j (gk st) (dz st) (aA st) .none kV n pm z q ct):=⟨⟨B,F,kV,n,pm,z,q,ct,D,rfl,l,c⟩,k⟩
end
def d7{A:Around}{k:Nat}(j:Ee k A):A.units+9<cLine:=gv (qc (by decide:9<=64) _) j.units
def Ii{n:Nat}(h:n<=1000):n<sizeLine:=gv h (by decide)
section
variable {X:Cx}
def r4_q(j:True:=by first|exact d5 rfl|exact dQ (d5 rfl)|exact dQ (dQ rfl)):True:=trivial
def r4_:Lean.Syntax:=r4_q._auto_1
def pv(i:Nat){x:Str}{pos:Pos}(q:autoParam (X.N[i]?=some x) r0_)(j:autoParam (N3 X.env.scope x) r4_)(z:autoParam (GG x) r1_)
  (n:autoParam (NJ x) r1_):PE X (.Name x pos) (DM i):=dW q j z n
end
def jP{A B:Prop}(h:B):if false=true then A else B:=by
 rw[bt bi];exact h
def iD{A B:Prop}(h:A):if true=true then A else B:=by
 rw[bX rfl];exact h
def DH(H H':Hp):Prop:=∀b o,H b=some o->H' b=some o
def DH.refl(H:Hp):DH H H:=λ_ _ h=>h
def DH.trans{H H1 H2:Hp}(a:DH H H1)(b:DH H1 H2):DH H H2:=λc o h=>b c o (a c o h)
def DH.free{H H':Hp}(e:DH H H'){l:Addr}(h:H' l=Option.none):H l=Option.none:=by
 cases q:H l with
 |none=>rfl
 |some o=>
  rw[e l o q]at h;cases h
section
variable {X:Cx}
def Ik:EE X (.builtin "len") (λxs H Q=>∃a kvs,xs=[V.ref a]/\H a=some (.dK kvs)/\Q (.int kvs.length) H):=by
 intro DE s EK H xs us Q I r h;obtain⟨a,kvs,rfl,z,q⟩:=h;obtain⟨u,rfl,j⟩:=vals1 r;cases j;exact UL I (.inl z) λt s' n=>⟨.int kvs.length,H,n,⟨t,rfl⟩,q⟩
end
def uL{n j:Type}{l:List n}{f:n->j->Sem (ForInStep j)}(g:n->j->j):∀(c:j),(∀x∈l,∀c,f x c=pure (.yield (g x c)))->
  forIn l c f=pure (l.foldl (λc x=>g x c) c):=by
 induction l with
 |nil=>intro c _;rfl
 |cons x l z=>
  intro c h;rw[lP,h x bp,pure_bind];exact z _ λy q=>h y (aI _ q)
noncomputable def gG(env:Env)(x:Str×NameKind)(c:List (Str×Addr)):List (Str×Addr):=if x.2=.free then(x.1,(env.cells.lookup x.1).getD 0)::c else c
noncomputable def rZ(env:Env)(names:List (Str×NameKind)):List (Str×Addr):=names.foldl (λc x=>gG env x c) []
variable {scope:Scope}
def yO{env:Env}(h:∀x∈scope.names,x.2=.free->∃c,env.cells.lookup x.1=some c):closureFor scope env=pure (rZ env scope.names):=by
 simp only[closureFor];rw[uL (gG env) [] (λx B c=>by
  obtain⟨n,j⟩:=x;by_cases e:j=.free
  ·subst e
   obtain⟨a,z⟩:=h _ B rfl;have q:env.cells.lookup n=some a:=z;simp[gG,cellOf,q]
  ·have:(j == NameKind.free)=false:=by simpa using e
   simp[gG,e,this])]
 rfl
theorem vO{env:Env}:∀(l:List (Str×NameKind)) (cs:List (Str×Addr)),(∀x∈l,x.2=.free->∃c,env.cells.lookup x.1=some c)->(∀y c,cs.lookup y=some c->env.cells.lookup y=some c)->
  ∀y c,(l.foldl (λc x=>gG env x c) cs).lookup y=some c->env.cells.lookup y=some c
 |[],cs,_,h2,y,c,e=>h2 y c e
 |x::r,cs,h1,h2,y,c,e=>by
  refine vO r (gG env x cs) (λz hz=>h1 z (aI _ hz)) (λz d q=>?_) y c e;unfold gG at q;by_cases k:x.2=.free
  ·rw[bX k]at q
   obtain⟨a,j⟩:=h1 x bp k;rw[db]at q;cases hb:z == x.1 with
   |true=>
    rw[hb]at q;have n:z=x.1:=by simpa using hb
    rw[j]at q;have B:a=d:=by simpa using q
    rw[n,j,B]
   |false=>
    rw[hb]at q;exact h2 z d q
  ·rw[bt k]at q
   exact h2 z d q
variable {names:List (Str×NameKind)}
def lJ{env:Env}(h:∀x∈names,x.2=.free->∃c,env.cells.lookup x.1=some c){y:Str}{c:Addr}(e:(rZ env names).lookup y=some c):env.cells.lookup y=some c:=
 vO names [] h (λy c q=>by simp at q) y c e
theorem vP{env:Env}{y:Str}:∀(l:List (Str×NameKind)) (cs:List (Str×Addr)),((y,.free)∈l\/∃c,cs.lookup y=some c)->∃c,(l.foldl (λc x=>gG env x c) cs).lookup y=some c
 |[],cs,h=>by
  rcases h with h|h
  ·simp at h
  ·exact h
 |x::r,cs,h=>by
  refine vP r (gG env x cs) ?_;rcases h with h|⟨c,h⟩
  ·rcases br.mp h with e|e
   ·refine .inr ⟨(env.cells.lookup y).getD 0,?_⟩
    rw[←e];simp[gG]
   ·exact .inl e
  ·refine .inr ?_
   unfold gG;split
   ·rw[db]
    split
    ·exact⟨_,rfl⟩
    ·exact⟨c,h⟩
   ·exact⟨c,h⟩
def Il{env:Env}{y:Str}(h:(y,.free)∈names):∃c,(rZ env names).lookup y=some c:=vP names [] (.inl h)
theorem mem_of_lookup{x:Str}{k:NameKind}:∀{l:List (Str×NameKind)},l.lookup x=some k->(x,k)∈l
 |[],h=>by simp at h
 |(n,j)::r,h=>by
  rw[db]at h;cases hb:x == n with
  |true=>
   rw[hb]at h;have e:x=n:=by simpa using hb
   have e2:j=k:=by simpa using h
   rw[e,e2];exact bp
  |false=>
   rw[hb]at h;exact aI _ (mem_of_lookup h)
theorem sr{env:Env}:∀{names:List (Str×NameKind)}{x:Str},names.lookup x=some .free->
  (names.map λ(n,k)=>if(k == NameKind.free&&env.scope.kind == .function&&env.kindOf n == some .cell)then(n,NameKind.cell)else(n,k)).lookup x=some .cell \/
  (names.map λ(n,k)=>if(k == NameKind.free&&env.scope.kind == .function&&env.kindOf n == some .cell)then(n,NameKind.cell)else(n,k)).lookup x=some .free
 |[],_,h=>by simp at h
 |(n,k)::r,x,h=>by
  have j:=@sr env r x;cases hx:x == n with
  |true=>
   simp only[db,hx]at h;cases h;by_cases hc:(NameKind.free == NameKind.free&&env.scope.kind == .function&&env.kindOf n == some .cell)=true
   ·refine .inl ?_
    simp only[bb,bX hc,db,hx]
   ·refine .inr ?_
    simp only[bb,bt hc,db,hx]
  |false=>
   simp only[db,hx]at h;have j:=j h;by_cases hc:(k == NameKind.free&&env.scope.kind == .function&&env.kindOf n == some .cell)=true
   ·simp only[bb,bX hc,db,hx]
    exact j
   ·simp only[bb,bt hc,db,hx]
    exact j
theorem ql{env:Env}:∀{names:List (Str×NameKind)}{x:Str}{j:NameKind},(j=.cell\/j=.free)->
  (names.map λ(n,k)=>if(k == NameKind.free&&env.scope.kind == .function&&env.kindOf n == some .cell)then(n,NameKind.cell)else(n,k)).lookup x=some j->(x,.free)∈names\/(x,.cell)∈names
 |[],_,_,_,h=>by simp at h
 |(n,k)::r,x,j,hj,h=>by
  have B:=@ql env r x j hj;cases hx:x == n with
  |true=>
   have e:x=n:=by simpa using hx
   subst e;by_cases hc:(k == NameKind.free&&env.scope.kind == .function&&env.kindOf x == some .cell)=true
   ·have q:k=.free:=by
     simp only[cb,hU]at hc;exact hc.1.1
    subst q;exact .inl bp
   ·simp only[bb,bt hc,db,hx]at h
    have q:k=j:=by simpa using h
    rcases hj with z|z
    ·rw[q,z]
     exact .inr bp
    ·rw[q,z]
     exact .inl bp
  |false=>
   by_cases hc:(k == NameKind.free&&env.scope.kind == .function&&env.kindOf n == some .cell)=true
   ·simp only[bb,bX hc,db,hx]at h
    exact(B h).imp (aI _) (aI _)
   ·simp only[bb,bt hc,db,hx]at h
    exact(B h).imp (aI _) (aI _)
noncomputable def Ye:Option Str->Addr->List (Str×Addr)
 |some z,c=>[(z,c)]
 |none,_=>[]
noncomputable def qm:Option Str->Heap->Heap
 |some _,h=>h.push {cls:=.type "cell",data:=.cell none}
 |none,h=>h
abbrev Cx.Fs(X:Cx)(z:Option Str)(N:rj)(scope:Scope)(C:Addr)(s:Shared)(H:Hp)(fp:rS):Cx where
 prog:=X.prog
 w:=X.w
 K:=X.K
 mg:=X.mg
 base:=X.base
 A:=X.A
 N:=N
 s₀:=s
 H₀:=H
 env:=compEnvC scope (Ye z (C+1)++rZ X.env scope.names) C X.env
 outer:=X.stack
 stack:=X.stack
 ex:=fp
 fn:=match z with
  |some z=>λx=>x == z
  |none=>λ_=>false
 calm:=X.calm
 pn:=[]
 xe:=λ_ _=>False
abbrev Cx.comp(X:Cx)(N:rj)(scope:Scope)(C:Addr)(s:Shared)(H:Hp)(fp:rS):Cx:=X.Fs none N scope C s H fp
noncomputable def vQ(scope:Scope)(ON N:rj)(DT:List (Option Nat)):Bool:=
 DT.length == N.length&&(List.range N.length).all λj=>match DT[j]? with
  |some (some i)=>(match N[j]?,ON[i]? with
   |some x,some y=>x == y&&(scope.names.lookup x == some NameKind.free)
   |_,_=>false)
  |_=>true
structure Yf(Fu scope:Scope)(ON N:rj)(DT:List (Option Nat)):Prop where
 kind:scope.kind=.function
 noc:∀y∈scope.names,y.2≠.cell
 loc:∀y∈scope.names,y.2=.local->scope.names.lookup y.1=some .local
 fr:∀y∈scope.names,y.2=.free->Fu.names.lookup y.1=some .cell\/Fu.names.lookup y.1=some .free
 DT:vQ scope ON N DT=true
structure MM(Fu scope:Scope)(z:Option Str)(ON N:rj)(DT:List (Option Nat)):Prop where
 kind:scope.kind=.function
 loc:∀y∈scope.names,y.2=.local->scope.names.lookup y.1=some .local
 fr:∀y∈scope.names,y.2=.free->Fu.names.lookup y.1=some .cell\/Fu.names.lookup y.1=some .free
 DT:vQ scope ON N DT=true
 one:∀n cl,cellsFrom n scope.names cl=Ye z n++cl
 push:∀h,pushCells h scope.names=qm z h
 zc:∀y∈scope.names,y.2=.cell->z=some y.1
 nz:∀y∈scope.names,y.2=.free->z≠some y.1
theorem qp:∀{names:List (Str×NameKind)},(∀y∈names,y.2≠.cell)->(∀n j,cellsFrom n names j=j)/\∀h,pushCells h names=h
 |[],_=>⟨λ_ _=>rfl,λ_=>rfl⟩
 |(a,k)::r,h=>by
  have q:=qp λy B=>h y (aI (a,k) B);have z:¬ (k == NameKind.cell)=true:=by simpa using h (a,k) bp
  refine⟨λn j=>?_,λg=>?_⟩
  ·unfold cellsFrom
   rw[bt z];exact q.1 n j
  ·unfold pushCells
   rw[bt z];exact q.2 g
def Yf.g{Fu:Scope}{ON N:rj}{DT:List (Option Nat)}(S:Yf Fu scope ON N DT):MM Fu scope none ON N DT:=
 ⟨S.kind,S.loc,S.fr,S.DT,(qp S.noc).1,(qp S.noc).2,λy h e=>absurd e (S.noc y h),λ_ _ _ e=>nomatch e⟩
def MM.at{Fu scope:Scope}{z:Option Str}{ON N:rj}{DT:List (Option Nat)}(S:MM Fu scope z ON N DT){j i:Nat}{x:Str}(h:DT[j]?=some (some i))(q:N[j]?=some x):ON[i]?=some x/\scope.names.lookup x=some .free:=by
 have n:=S.DT;unfold vQ at n;rw[cb]at n;have B:j<N.length:=(ap.mp q).1;have h1:=eS.mp n.2 j (fz.mpr B);rw[h]at h1;dsimp only at h1;rw[q]at h1;cases hy:ON[i]? with
 |none=>rw[hy]at h1;simp at h1
 |some y=>
  rw[hy]at h1;simp only[cb,hU]at h1;exact⟨by rw[h1.1],h1.2⟩
def MM.len{Fu:Scope}{z:Option Str}{ON N:rj}{DT:List (Option Nat)}(S:MM Fu scope z ON N DT):DT.length=N.length:=by
 have j:=S.DT;unfold vQ at j;rw[cb,hU]at j;exact j.1
noncomputable def Af(EK:St):Option Nat->Option V
 |some i=>(EK[i]?).getD none
 |none=>none
def cU(DT:List (Option Nat))(EK:St):St:=DT.map (Af EK)
def oW(X:Cx)(ifs:rh)(t:TT):Prop:=
 ∀(DE:oI) (s:Shared) (EK:St) (H:Hp) (Q:Bool->Hp->Prop),Inv X DE EK H s->t EK H Q->
  wpAny (model X.prog X.w) X.A (forIn ifs true λc r=>if r=true then do let ok ←isTrue c X.env (eval c X.env);pure (ForInStep.yield ok)else pure (ForInStep.yield r)) (TP X DE EK Q) X.xe s
def qt:TT:=λ_ H Q=>Q true H
def mV{X:Cx}:oW X [] qt:=λ_ _ _ H _ I h=>wpAny_tests_nil ⟨H,I,h⟩
def jQ{X:Cx}{c:Expr}{t:TT}(h:PT X c t):oW X [c] t:=λDE s EK H Q I q=>wpAny_tests_one (h DE s EK H Q I q)
def nZ{prog:Program}{w:World}{A:Around}{R:Result->Shared->Prop}{s:Shared}{D j q:Expr}{z:rh}{pos:Pos}{it B:Value}{env:Env}(I:Nat->Shared->Prop)
  (turn:∀n s,I n s->wpAny (model prog w) A (pyNext it) (λr G=>match r with
   |none=>R (.ok .next) G
   |some v=>wpAny (model prog w) A (letOwnedTupleGo j it v) (λ_ s₁'=>wpAny (model prog w) A (assign j env v) (λ_ L=>
     wpAny (model prog w) A (forIn z true λc r=>if r=true then do let ok ←isTrue c env (eval c env);pure (ForInStep.yield ok)else pure (ForInStep.yield r)) (λok F=>
      if ok=true then wpAny (model prog w) A (eval D env) (λx M=>
       wpAny (model prog w) A (call (.builtin "list.append") [B,x]) (λ_ s₅=>∃m,m<n/\I m s₅) (λ_ _=>False) M) (λ_ _=>False) F
      else ∃m,m<n/\I m F) (λ_ _=>False) L) (λ_ _=>False) s₁') (λ_ _=>False) G) (λ_ _=>False) s)
  (n:Nat) (h:I n s):
  codeAny (model prog w) A (.compLoop (.ListComp D [⟨j,q,z,0⟩] scope pos) 0 it B env) R s:=by
 refine codeAny_loop rfl I (λn s O=>?_) n h;show wpAny _ A ((compTurn (.ListComp D [⟨j,q,z,0⟩] scope pos) 0 it B env).onRaise (λx=>do noteFrame x env;theTreesLotGoes x)) _ _ s;refine wpAny_noted ?_;rw[compTurn_list];refine ac (qr (ac (cS (turn n s O) (λr G h₁=>?_) λ_ _ h'=>h'.elim)));cases r with
 |none=>exact al h₁
 |some v=>
  refine ac (cS h₁ (λ_ s₁' h₁'=>?_) λ_ _ h'=>h'.elim);refine ac (cS h₁' (λ_ L N=>ac (cS N (λok F J=>?_) λ_ _ h'=>h'.elim)) λ_ _ h'=>h'.elim);cases ok with
  |false=>exact al ⟨rfl,J⟩
  |true=>
   exact ac (ac (cS J (λx M h₄=>ac (cS h₄ (λ_ s₅ h₅=>al (al ⟨rfl,h₅⟩)) λ_ _ h'=>h'.elim)) λ_ _ h'=>h'.elim))
def Kp(EK E9:St):Prop:=EK.length=E9.length/\∀(i:Nat) (v:V),EK[i]?=some (some v)->E9[i]?=some (some v)
def wZ{rest:St}{x:V}:Kp (none::rest) (some x::rest):=⟨rfl,λi v e=>by
 cases i with
 |zero=>cases e
 |succ i=>exact e⟩
structure TComp(wi:TI)(DT:List (Option Nat))(g:TG)(tt:TT)(te:TE)(EK:St)(H:Hp)(Q:VK):Prop where
 ex:wi EK H λJ H1=>∀D,H1 D=none->∃W:Nat->Nat->List V->Hp->Prop,
 (∃m,W 0 m [] (upd H1 D (.lst [])))/\∀i m ys H,W i m ys H->H D=some (.lst ys)/\((J.stop i H/\Q (.ref D) H) \/
  (J.go i H/\∃N:List V->Hp->Prop,(∀L7 H',N L7 H'->∃m',m'<m/\W (i+1) m' L7 H')/\∀x H',J.S2 i H x H'->g x (cU DT EK) H' fun E9 H2=>Kp (cU DT EK) E9/\tt E9 H2 λb H3=>
   if b=true then te E9 H3 λy H4=>H4 D=some (.lst ys)/\ys.length<sizeLine/\N (ys++[y]) (upd H4 D (.lst (ys++[y])))else N ys H3))
def ig(wi:TI)(DT:List (Option Nat))(g:TG)(tt:TT)(te:TE):TE:=fun EK H Q=>TComp wi DT g tt te EK H Q
variable {cl:List (Str×Addr)}
def O5{M:Model}{A:Around}{E:gV}{s:Shared}{z:Option Str}{q:Addr}{D:Str}{B:Env}{j:Addr}{Q:Env->Shared->Prop}(one:∀n cl,cellsFrom n scope.names cl=Ye z n++cl)(push:∀h,pushCells h scope.names=qm z h)
  (h:Q (newEnv scope s.heap.objs.size q (Ye z (s.heap.objs.size+1)++cl) D none .none (some B) j) {s with heap:=qm z (s.heap.push {cls:=.type "dict",data:=.dict #[]})}):
  wpAny M A (newFunctionEnv scope q cl [] D none .none (some B) j) Q E s:=by
 simp only[newFunctionEnv,Option.isSome_some,fT];refine ac (wpAny_alloc ?_);refine ac (wpAny_layCells _ (λname F G=>by cases hkc:F == NameKind.cell<;>simp[hkc]) _ _ _ _ ?_);rw[one,push];refine ac ?_;rw[mv];refine al (al ?_);rw[show({s with heap:=s.heap.push {cls:=.type "dict",data:=.dict #[]}}:Shared).heap.objs.size=s.heap.objs.size+1 from c9 ..];exact h
section
variable {X:Cx}{tg iter elt:Expr}{ifs:rh}{scope Fu:Scope}{z:Option Str}{ON N:rj}{DT:List (Option Nat)}{wi:TI}{g:TG}{tt:TT}{te:TE}{pos:Pos}
def qu{c d:Addr}{x:Str}(e:(Ye z d++cl).lookup x=some c):(z=some x/\c=d)\/(z≠some x/\cl.lookup x=some c):=by
 cases z with
 |none=>exact .inr ⟨(λq=>nomatch q),e⟩
 |some z=>
  have e:((z,d)::cl).lookup x=some c:=e;rw[db]at e;cases hx:x == z with
  |true=>
   rw[hx]at e;exact .inl ⟨by rw[show x=z by simpa using hx],(bq e).symm⟩
  |false=>
   rw[hx]at e;exact .inr ⟨λq=>by rw[bq q]at hx;simp at hx,e⟩
def Im{c d:Addr}{x:Str}(n:z≠some x)(e:cl.lookup x=some c):(Ye z d++cl).lookup x=some c:=by
 cases z with
 |none=>exact e
 |some z=>
  show((z,d)::cl).lookup x=some c;rw[db,show(x == z)=false by simpa usingλq:x=z=>n (by rw[q])];exact e
def Rc{d:Addr}{x:Str}(e:z=some x):(Ye z d++cl).lookup x=some d:=by
 rw[e];show((x,d)::cl).lookup x=some d;rw[db,show(x == x)=true by simp]
def O6{DE:oI}{EK:St}{H2:Hp}{F:Shared}{L:rS}{C:Addr}(j:Inv X DE EK H2 F)(S:MM Fu scope z ON N DT)(O:X.env.scope=Fu)(J:∀b∈L,jM X DE H2 b)
  (M:∀b∈L,b<F.heap.objs.size) (D:F.heap.objs.size<=C):(X.Fs z N scope C F H2 L).Ok:=by
 have I:∀x∈scope.names,x.2=.free->∃c,X.env.cells.lookup x.1=some c:=λx Y e=>j.ok.has x.1 (by
  rcases S.fr x Y e with z|z
  ·exact .inl (by rw[Env.kindOf,O];exact z)
  ·exact .inr (by rw[Env.kindOf,O];exact z))
 have G:∀{x:Str}{c:Addr},(rZ X.env scope.names).lookup x=some c->c<F.heap.objs.size:=λ{x c} e=>by
  obtain⟨v,q⟩:=j.cell x c (lJ I e);exact q.lt
 refine⟨j.mod,S.kind,j.ok.glob,j.ok.blt,D,λx y c h1 h2=>?_,λx h=>?_,λx c h e=>?_,j.ok.hd,j.ok.frames,.inl rfl,λb n=>⟨?_,λx c e=>?_⟩,λb o e=>j.bs b o e,?_,λb o e n=>?_,λb n hz=>?_,j.stack,j.LU⟩
 ·rcases qu h1 with⟨e1,e2⟩|⟨e1,e2⟩<;>rcases qu h2 with⟨e3,e4⟩|⟨e3,e4⟩
  ·exact bq (e1.symm.trans e3)
  ·have q:=G e4;rw[e2]at q;exact absurd q (Nat.not_lt.mpr (df D (hJ _)))
  ·have q:=G e2;rw[e4]at q;exact absurd q (Nat.not_lt.mpr (df D (hJ _)))
  ·exact j.ok.inj x y c (lJ I e2) (lJ I e4)
 ·have B:(x,NameKind.free)∈scope.names\/(x,NameKind.cell)∈scope.names:=by
   rcases h with h|h
   ·exact ql (env:=X.env) (.inl rfl) h
   ·exact ql (env:=X.env) (.inr rfl) h
  rcases B with B|B
  ·obtain⟨c,Z⟩:=Il (env:=X.env) B
   exact⟨c,Im (S.nz _ B rfl) Z⟩
  ·exact⟨C+1,Rc (S.zc _ B rfl)⟩
 ·rcases qu e with⟨_,e2⟩|⟨e1,_⟩
  ·rw[e2];exact df D (hJ _)
  ·cases z with
   |none=>cases h
   |some z=>exact absurd (by rw[show x=z by simpa using h]) e1
 ·exact bP (bS (M b n) D)
 ·rcases qu e with⟨_,e2⟩|⟨_,e2⟩
  ·rw[e2];exact dy (bS (M b n) (df D (hJ _)))
  ·exact(J b n).2.2.2.2.1 x c (lJ I e2)
 ·exact df j.ok.WZ j.sz
 ·rcases(J b n).2.2.2.1 with z|z
  ·exact j.ok.QI b o e z
  ·exact absurd (bS (ar e) (df j.ok.WZ z)) (fg _)
 ·obtain⟨_,U,f3,_⟩:=J b n
  rcases br.mp (j.JY b hz)with z|z
  ·exact U z
  ·exact f3 z
def yu{DE:oI}{s:Shared}{EK:St}{H:Hp}{Q:VK}{RR:Value->Addr->Result->Shared->Prop}(hc:X.calm=true)(S:MM Fu scope z ON N DT)(LL:X.env.scope=Fu)(hN:X.N=ON)
  (hi:PI X tg iter wi) (hg:∀C s H B,PG (X.Fs z N scope C s H B) tg g) (ht:∀C s H B,oW (X.Fs z N scope C s H B) ifs tt) (he:∀C s H B,PE (X.Fs z N scope C s H B) elt te)
  (I:Inv X DE EK H s) (h:ig wi DT g tt te EK H Q)
  (fin:∀D C H' s',Inv X DE EK H' s'->jM X DE H' C->(∃m,s'.heap.Ns C m)->Q (.ref D) H'->RR (.ref D) C (.ok .next) s'):
  wpAny (model X.prog X.w) X.A (eval iter X.env) (λx EZ=>wpAny (model X.prog X.w) X.A (pyIter x) (λitv FC=>wpAny (model X.prog X.w) X.A (newList []) (λacc FU=>
   wpAny (model X.prog X.w) X.A (newFunctionEnv scope X.env.globals (rZ X.env scope.names) [] X.env.qual none .none (some X.env)) (λO Ic=>
    codeAny (model X.prog X.w) X.A (.compStart (.ListComp elt [⟨tg,iter,ifs,0⟩] scope pos) 0 itv acc {O with scope:=relabel scope X.env}) (RR acc O.locals) Ic) X.xe FU) X.xe FC) X.xe EZ) X.xe s:=by
 refine D8 (hi DE s EK H _ I h.ex) λv s1 h1=>D8 h1 λitv F h2=>?_;obtain⟨it,B,tn,J,H2,e,L,T,st2,f2,q2⟩:=h2;subst e;refine dE (O5 S.one S.push ?_);dsimp only;generalize Y:F.heap.push {cls:=.type "list",dict:=none,data:=.seq ([]:re).toArray}=P2;generalize hD:F.heap.objs.size=D;have OR:(P2.push {cls:=.type "dict",data:=.dict #[]}).Ns P2.objs.size (λ_=>none):=Heap.Ns.new P2 (.type "dict");have hq₀:=c9 P2 {cls:=.type "dict",data:=.dict #[]};have OS:∀b o,P2.get? b=some o->(P2.push {cls:=.type "dict",data:=.dict #[]}).get? b=some o:=λb o e=>ae _ e;generalize P2.push {cls:=.type "dict",data:=.dict #[]}=P3 at OR hq₀ OS ⊢;obtain⟨OR,YT,OS⟩:(qm z P3).Ns P2.objs.size (λ_=>none)/\(z.isSome=true->(qm z P3).IsCell (P2.objs.size+1) none)/\∀b o,P2.get? b=some o->(qm z P3).get? b=some o:=by
  cases z with
  |none=>exact⟨OR,(λq=>nomatch q),OS⟩
  |some z=>exact⟨OR.keeps λb o e=>ae _ e,(λ_=>⟨_,hq₀▸av _ rfl,rfl⟩),λb o e=>ae _ (OS b o e)⟩
 generalize qm z P3=h₁ at OR YT OS ⊢;generalize hCe:P2.objs.size=C at OR YT ⊢;have hCD:C=D+1:=by rw[←hCe,←Y,c9,hD]
 have TK:F.heap.objs.size<=C:=by rw[hCD,hD];exact hJ _
 have YS:∀b∈B,b<F.heap.objs.size:=λb G=>by
  obtain⟨o,e,_⟩:=T.obj 0 _ st2 b G;exact ar e
 have Z:∀b,b<F.heap.objs.size->b≠C:=λb G=>bP (bS G TK);have k1:∀b o,F.heap.get? b=some o->h₁.get? b=some o:=λb o e=>OS b o (Y▸ae _ e);have hDC:D≠C:=by rw[hCD];exact bP (ia _)
 have gD:h₁.get? D=some {cls:=.type "list",dict:=none,data:=.seq ([]:re).toArray}:=by
  refine OS D _ ?_;rw[←Y,←hD];exact av _ rfl
 have nD:H2 D=none:=L.DV.fresh (by rw[hD];exact ax _);have nC:H2 C=none:=L.DV.fresh TK;have NC:∀x∈scope.names,x.2=.free->∃c,X.env.cells.lookup x.1=some c:=λx hx e=>L.ok.has x.1 (by
  rcases S.fr x hx e with z|z
  ·exact .inl (by rw[Env.kindOf,LL];exact z)
  ·exact .inr (by rw[Env.kindOf,LL];exact z))
 obtain⟨W,⟨m0,w0⟩,turn⟩:=q2 D nD;have IY:Inv (X.Fs z N scope C F H2 B) [] (cU DT EK) (upd H2 D (.lst [])) {F with heap:=h₁}:=by
  have hp:F.heap.objs.size<=D:=by rw[hD];exact ax _
  refine⟨O6 L S LL f2 YS TK,rfl,L.bare,Un.laid k1 hp nD,⟨_,OR,λj x v e1 e2 e3=>?_⟩,λx c e=>?_,?_,λx c e=>?_,λp hp=>by simp at hp,L.DV.laid k1 hp ⟨cm _,[],_,.nil,gD⟩,?_⟩
  ·have Xt:(DT.map (Af EK))[j]?=some (some v):=e2
   rw[cp]at Xt;cases q:DT[j]? with
   |none=>rw[q]at Xt;cases Xt
   |some o=>
    rw[q]at Xt;have e4:Af EK o=some v:=bq Xt;cases o with
    |none=>cases e4
    |some i=>
     have Fh:EK[i]?=some (some v):=by
      have e5:(EK[i]?).getD none=some v:=e4;cases z:EK[i]? with
      |none=>rw[z]at e5;cases e5
      |some w=>rw[z]at e5;exact iA some e5
     obtain⟨Xu,Q1⟩:=S.at q e1;have hk:X.env.kindOf x=some .cell\/X.env.kindOf x=some .free:=by
      rcases S.fr _ (mem_of_lookup Q1) rfl with z|z
      ·exact .inl (by rw[Env.kindOf,LL];exact z)
      ·exact .inr (by rw[Env.kindOf,LL];exact z)
     obtain⟨m,hn,hl⟩:=L.loc;obtain⟨u,r,l⟩:=hl i x v (by rw[hN];exact Xu) Fh (by
      rcases hk with z|z
      ·exact .inr (.inl z)
      ·exact .inr (.inr z))
     refine⟨u,r,?_⟩;rcases l with⟨z,_⟩|⟨_,c,hc',Pm⟩
     ·rcases hk with y|y
      ·rw[y]at z;cases z
      ·rw[y]at z;cases z
     ·obtain⟨c',Ta⟩:=Il (env:=X.env) (mem_of_lookup Q1)
      have e6:=lJ NC Ta;rw[hc']at e6;have e7:c=c':=bq e6;subst e7;obtain⟨oc,ho,hd⟩:=Pm;exact .inr ⟨sr (env:=X.env) Q1,c,Im (S.nz _ (mem_of_lookup Q1) rfl) Ta,⟨oc,k1 c oc ho,hd⟩⟩
  ·rcases qu e with⟨e1,e2⟩|⟨_,e2⟩
   ·rw[e2];exact⟨none,YT (by rw[e1];rfl)⟩
   ·obtain⟨v,oc,ho,hd⟩:=L.cell x c (lJ NC e2)
    exact⟨v,oc,k1 c oc ho,hd⟩
  ·show upd H2 D (.lst []) C=none
   rw[az (fm hDC)];exact nC
  ·rcases qu e with⟨_,e2⟩|⟨_,e2⟩
   ·show upd H2 D (.lst []) c=none
    rw[e2,az (show C+1≠D by omega)];exact L.DV.fresh (by omega)
   ·have e':=lJ NC e2
    obtain⟨v,oc,ho,hd⟩:=L.cell x c e';show upd H2 D (.lst []) c=none;rw[az (λz=>absurd (ar ho) (by rw[z,hD];exact fg _))];exact L.FE x c e'
  ·show(DT.map (Af EK)).length=N.length
   rw[ay];exact S.len
 have OH:∀{H':Hp},(∀b∈B,H' b=none)->∀b∈B,jM (X.Fs z N scope C F H2 B) [] H' b:=λhn b G=>by
  obtain⟨_,f1,f3,f4,f5,f6⟩:=f2 b G;refine⟨hn b G,Z b (YS b G),λhz=>?_,.inl G,λx c e=>(qu e).elim (λq=>by rw[q.2];exact dy (bS (YS b G) (df TK (hJ _)))) λq=>f5 x c (lJ NC q.2),λp hp=>by simp at hp⟩;rcases br.mp (L.JY b hz)with z|z
  ·exact f1 z
  ·exact f3 z
 have back:∀{EU:St}{H':Hp}{s':Shared},Inv (X.Fs z N scope C F H2 B) [] EU H' s'->Inv X DE EK H' s':=λ{EU H' s'} I'=>
  L.X7 (ch:=B) I'.os I'.base I'.DV I'.bare λb G=>let ⟨_,f1,_,f4,f5,f6⟩:=f2 b G;⟨f4,f1,f5,f6⟩
 have st1:tn 0 h₁:=T.keep 0 _ _ st2 λb _ o e=>k1 b o e;have fr1:∀b∈B,upd H2 D (.lst []) b=none:=λb G=>by
  rw[az (λz=>absurd (YS b G) (by rw[z,hD];exact fg _))];exact(f2 b G).1
 have U:codeAny (model X.prog X.w) X.A (.compLoop (.ListComp elt [⟨tg,iter,ifs,0⟩] scope pos) 0 (.ref it) (.ref D) (compEnvC scope (Ye z (C+1)++rZ X.env scope.names) C X.env)) (RR (.ref D) C) {F with heap:=h₁}:=by
  refine nZ (λn s'=>∃i ys H',Inv (X.Fs z N scope C F H2 B) [] (cU DT EK) H' s'/\tn i s'.heap/\(∀b∈B,H' b=none)/\W i n ys H') ?_ m0 ⟨0,[],_,IY,st1,fr1,w0⟩;rintro n s3 ⟨i,ys,H3,I3,st3,fr3,w3⟩;obtain⟨hDy,hturn⟩:=turn i n ys H3 w3;rcases hturn with⟨stop,qn⟩|⟨go,Nx,hNx,step⟩
  ·refine D8 (T.done (X.Fs z N scope C F H2 B) rfl rfl rfl hc i [] s3 (cU DT EK) H3 _ I3 (OH fr3) st3 stop) ?_
   rintro r s4 ⟨hr,I4⟩;subst hr;obtain⟨m,hm,_⟩:=I4.loc;exact fin D C H3 s4 (back I4) (L.OG TK I4.free) ⟨m,hm⟩ qn
  ·refine D8 (T.item (X.Fs z N scope C F H2 B) rfl rfl rfl hc i [] s3 (cU DT EK) H3 _ I3 (OH fr3) st3 go) ?_
   rintro r s4 ⟨u,hr,h4⟩;subst hr;refine D8 h4 ?_;rintro _ s5 ⟨x,H5,I5,r5,y5,YJ,fr5⟩;have I5':=I5.pinned (OH fr5) (T.obj _ _ YJ);refine D8 (hg C F H2 B _ s5 (cU DT EK) H5 x u _ I5' r5 (step x H5 y5)) ?_;rintro _ s6 ⟨GU,H6,I6,kp6,q6⟩;refine D8 (ht C F H2 B _ s6 GU H6 _ I6 q6) ?_;rintro b s7 ⟨H7,I7,q7⟩;have M:∀{L7:sx}{H7:Hp}{s7:Shared},Inv (X.Fs z N scope C F H2 B) ([]++rO B s5.heap) GU H7 s7->Nx L7 H7->∃m,m<n/\∃i ys H',Inv (X.Fs z N scope C F H2 B) [] (cU DT EK) H' s7/\tn i s7.heap/\(∀b∈B,H' b=none)/\W i m ys H':=λ{L7 H7 s7} I7 n7=>by
    obtain⟨m',hm,w7⟩:=hNx L7 H7 n7;refine⟨m',hm,i+1,L7,H7,I7.IX.weak kp6.1 kp6.2,T.keep _ _ _ YJ λb G o e=>(I7.pin (b,o) (cE _ (cE _ (lZ G e)))).1,λb G=>?_,w7⟩;obtain⟨o,e,d⟩:=T.obj _ _ YJ b G;exact(I7.pin (b,o) (cE _ (cE _ (lZ G e)))).2.1
   cases b with
   |false=>
    rw[bt bi]at q7 ⊢;exact M I7 q7
   |true=>
    rw[bX rfl]at q7 ⊢;refine D8 (he C F H2 B _ s7 GU H7 _ I7 q7) ?_;rintro xv s8 ⟨y,H8,I8,r8,hD8,hl8,n8⟩;refine D8 (lH (X:=X.Fs z N scope C F H2 B) _ s8 GU H8 (.ref D) [y] (.ref D) [xv] (λ_ H9=>Nx (ys++[y]) H9) I8 rfl (.cons r8 .nil) ⟨D,ys,y,rfl,rfl,hD8,hl8,n8⟩) ?_;rintro _ s9 ⟨_,H9,I9,_,n9⟩;exact M I9 n9
 subst hD hCe;exact codeAny_compStart_list U (T.self _ 0 _ _ _ st1 U)
def Ag{DE:oI}{s:Shared}{EK:St}{H:Hp}(S:MM Fu scope z ON N DT)(j:X.env.scope=Fu)(I:Inv X DE EK H s):closureFor scope X.env=pure (rZ X.env scope.names):=
 yO λx n e=>I.ok.has x.1 (by
  rcases S.fr x n e with z|z
  ·exact .inl (by rw[Env.kindOf,j];exact z)
  ·exact .inr (by rw[Env.kindOf,j];exact z))
def Inv.Yg{DE:oI}{s':Shared}{EK:St}{H':Hp}{C:Addr}{h':Heap}(I:Inv X DE EK H' s')(f:jM X DE H' C)(n:Heap.SameBut C s'.heap h'):Inv X DE EK H' {s' with heap:=h'}:=
 I.turned (t':=s'.toks) (it:=C) (λb o j e=>(n.2 b j).trans e) f.1 f.2.1 f.2.2.2.1 f.2.2.2.2.1 f.2.2.2.2.2
def Ah(S:MM Fu scope z ON N DT)(hi:PI X tg iter wi)(G:∀C s H j,PG (X.Fs z N scope C s H j) tg g)(L:∀C s H j,oW (X.Fs z N scope C s H j) ifs tt)(J:∀C s H j,PE (X.Fs z N scope C s H j) elt te)
  (M:autoParam (X.calm=true) r0_) (F:autoParam (X.env.scope=Fu) r0_) (U:autoParam (X.N=ON) r0_) (O:autoParam (∀x,foldedSetIterable iter X.env x=pure x) r5_):PE X (.ListComp elt [⟨tg,iter,ifs,0⟩] scope pos) (ig wi DT g tt te):=by
 intro DE s EK H Q I h;rw[eval_ListComp];refine nK (use:=none) rfl O (Ag S F I) S.kind S.loc ?_;refine yu (RR:=λn C=>compPost (model X.prog X.w) X.A X.xe none (EP X DE EK Q) n C) M S F U hi G L J I h λD C H' s' Y f B q=>?_;obtain⟨m,B⟩:=B;exact⟨m,B,λh' Z=>⟨.ref D,H',Y.Yg f Z,rfl,q⟩⟩
def tY(S:Yf Fu scope ON N DT)(hi:PI X tg iter wi)(q:∀C s H j,PG (X.comp N scope C s H j) tg g)(D:∀C s H j,oW (X.comp N scope C s H j) ifs tt)(B:∀C s H j,PE (X.comp N scope C s H j) elt te)
  (F:autoParam (X.calm=true) r0_) (I:autoParam (X.env.scope=Fu) r0_) (n:autoParam (X.N=ON) r0_) (G:autoParam (∀x,foldedSetIterable iter X.env x=pure x) r5_):PE X (.ListComp elt [⟨tg,iter,ifs,0⟩] scope pos) (ig wi DT g tt te):=
 Ah S.g hi q D B F I n G
def DR{i:Nat}{y:Str}{j Y:Pos}(S:Yf Fu scope ON N DT)(G:X.N.Nodup)(Of:X.N[i]?=some y)(hy:Loc X.env.scope y)(hi:PI X tg iter wi)(hg:∀C s H n,PG (X.comp N scope C s H n) tg g)(Z:∀C s H n,oW (X.comp N scope C s H n) ifs tt)(he:∀C s H n,PE (X.comp N scope C s H n) elt te)
  (W9:autoParam (swapsWith (.ListComp elt [⟨tg,iter,ifs,0⟩] scope pos) (some (.Name y j)) Y.line X.env=pure true) r0_)
  (hc:autoParam (X.calm=true) r0_) (U:autoParam (X.env.scope=Fu) r0_) (hN:autoParam (X.N=ON) r0_) (hs:autoParam (∀x,foldedSetIterable iter X.env x=pure x) r5_)
  (hf:autoParam (QE X y) r3_):
  PS X (.Assign [.Name y j] (.ListComp elt [⟨tg,iter,ifs,0⟩] scope pos) Y) (cG (ig wi DT g tt te) (aW i)):=by
 intro DE s EK H O I h;rw[exec_Assign_Name_used _ _ _ _ W9];refine ac (qr (ac ?_));show wpAny _ _ (do let _ ←comprehension (.ListComp elt [⟨tg,iter,ifs,0⟩] scope pos) scope X.env _ (newList []) false (eval iter X.env) (some (assign (.Name y j) X.env))) _ _ s;refine ac (cS (nK (use:=some (assign (.Name y j) X.env)) (Q:=λ_ s'=>SP X DE O .next s') rfl hs (Ag S.g U I) S.kind S.loc
  (yu (RR:=λB C=>compPost (model X.prog X.w) X.A X.xe (some (assign (.Name y j) X.env)) (λ_ s'=>SP X DE O .next s') B C) hc S.g U hN hi hg Z he I h λD C H' s' I' f J q=>?_))
  (λ_ s' hq=>al (al hq)) λ_ _ e=>e)
 obtain⟨m,J⟩:=J;show wpAny _ _ (assign (.Name y j) X.env (.ref D)) _ _ s';refine wpAny_assign_Name (yh I' G Of hy (v:=.ref D) rfl (λN9 M Sj=>?_) hf);obtain⟨a,L,ha⟩:=Sj;have F:C≠a:=by
  rintro rfl;rcases ha with z|z
  ·exact f.2.1 z
  ·exact f.2.2.2.2.1 y C z rfl
 refine⟨m,J.sameBut L F,λh' L4=>⟨_,H',M.Yg f L4,q⟩⟩
end
section
variable {tt:TT}{te:TE}{Q:VK}{F8 rest:St}{H:Hp}{D:Addr}
def Io{a:Addr}{xs:sx}(U:F8=none::rest)(j:Nat->List V->Hp->Prop)(M:j 0 [] (upd H D (.lst [])))
  (O:∀i ys H,i<=xs.length->j i ys H->EJ K H a xs/\H D=some (.lst ys))
  (L:∀i x ys H,xs[i]?=some x->j i ys H->tt (some x::rest) H λb n=>if b=true then te (some x::rest) n λy B=>B D=some (.lst ys)/\ys.length<sizeLine/\j (i+1) (ys++[y]) (upd B D (.lst (ys++[y])))else j (i+1) ys n)
  (J:∀ys H,j xs.length ys H->Q (.ref D) H):
  ∃W:Nat->Nat->List V->Hp->Prop,(∃m,W 0 m [] (upd H D (.lst [])))/\∀i m ys H,W i m ys H->H D=some (.lst ys)/\(((Xj K a).stop i H/\Q (.ref D) H) \/
   ((Xj K a).go i H/\∃N:List V->Hp->Prop,(∀F H',N F H'->∃G,G<m/\W (i+1) G F H')/\∀x H',(Xj K a).S2 i H x H'->aW 0 x F8 H' fun E9 H2=>Kp F8 E9/\tt E9 H2 λb n=>
    if b=true then te E9 n λy B=>B D=some (.lst ys)/\ys.length<sizeLine/\N (ys++[y]) (upd B D (.lst (ys++[y])))else N ys n)):=by
 subst U;refine⟨λi m ys H=>m=xs.length - i/\i<=xs.length/\j i ys H,⟨xs.length,by simp,cm _,M⟩,?_⟩;rintro i m ys H ⟨rfl,hi,p⟩;obtain⟨q,I⟩:=O i ys H hi p;refine⟨I,?_⟩;by_cases FA:i<xs.length
 ·refine .inr ⟨⟨xs,xs[i],q,by simp[FA]⟩,j (i+1),λF H' p'=>⟨xs.length - (i+1),by omega,rfl,FA,p'⟩,λx H' y=>?_⟩
  obtain⟨e,y⟩:=y;subst e;exact⟨wZ,L i x ys _ (y xs q) p⟩
 ·have e:i=xs.length:=by omega
  subst e;exact .inl ⟨⟨xs,q,ax _⟩,J ys H p⟩
def Ks{a:Addr}{xs:sx}(U:F8=none::rest)(j:Nat->List V->Hp->Prop)(M:j 0 [] (upd H D (.lst [])))
  (O:∀i ys H,i<=xs.length->j i ys H->F0 K H a xs/\H D=some (.lst ys))
  (L:∀i x ys H,xs[i]?=some x->j i ys H->tt (some x::rest) H λb n=>if b=true then te (some x::rest) n λy B=>B D=some (.lst ys)/\ys.length<sizeLine/\j (i+1) (ys++[y]) (upd B D (.lst (ys++[y])))else j (i+1) ys n)
  (J:∀ys H,j xs.length ys H->Q (.ref D) H):
  ∃W:Nat->Nat->List V->Hp->Prop,(∃m,W 0 m [] (upd H D (.lst [])))/\∀i m ys H,W i m ys H->H D=some (.lst ys)/\(((Xk K a).stop i H/\Q (.ref D) H) \/
   ((Xk K a).go i H/\∃N:List V->Hp->Prop,(∀F H',N F H'->∃G,G<m/\W (i+1) G F H')/\∀x H',(Xk K a).S2 i H x H'->aW 0 x F8 H' fun E9 H2=>Kp F8 E9/\tt E9 H2 λb n=>
    if b=true then te E9 n λy B=>B D=some (.lst ys)/\ys.length<sizeLine/\N (ys++[y]) (upd B D (.lst (ys++[y])))else N ys n)):=by
 subst U;refine⟨λi m ys H=>m=xs.length - i/\i<=xs.length/\j i ys H,⟨xs.length,by simp,cm _,M⟩,?_⟩;rintro i m ys H ⟨rfl,hi,p⟩;obtain⟨q,I⟩:=O i ys H hi p;refine⟨I,?_⟩;by_cases FA:i<xs.length
 ·refine .inr ⟨⟨xs,xs[i],q,by simp[FA]⟩,j (i+1),λF H' p'=>⟨xs.length - (i+1),by omega,rfl,FA,p'⟩,λx H' y=>?_⟩
  obtain⟨e,y⟩:=y;subst e;exact⟨wZ,L i x ys _ (y xs q) p⟩
 ·have e:i=xs.length:=by omega
  subst e;exact .inl ⟨⟨xs,q,ax _⟩,J ys H p⟩
def FJ{lo:Int}{n:Nat}(O:F8=none::rest)(j:Nat->List V->Hp->Prop)(L:j 0 [] (upd H D (.lst [])))
  (M:∀i ys H,i<=n->j i ys H->H D=some (.lst ys))
  (J:∀i ys H,i<n->j i ys H->tt (some (.int (lo+i))::rest) H λb q=>if b=true then te (some (.int (lo+i))::rest) q λy B=>B D=some (.lst ys)/\ys.length<sizeLine/\j (i+1) (ys++[y]) (upd B D (.lst (ys++[y])))else j (i+1) ys q)
  (I:∀ys H,j n ys H->Q (.ref D) H):
  ∃W:Nat->Nat->List V->Hp->Prop,(∃m,W 0 m [] (upd H D (.lst [])))/\∀i m ys H,W i m ys H->H D=some (.lst ys)/\(((Sk lo n).stop i H/\Q (.ref D) H) \/
   ((Sk lo n).go i H/\∃N:List V->Hp->Prop,(∀F H',N F H'->∃G,G<m/\W (i+1) G F H')/\∀x H',(Sk lo n).S2 i H x H'->aW 0 x F8 H' fun E9 H2=>Kp F8 E9/\tt E9 H2 λb q=>
    if b=true then te E9 q λy B=>B D=some (.lst ys)/\ys.length<sizeLine/\N (ys++[y]) (upd B D (.lst (ys++[y])))else N ys q)):=by
 subst O;refine⟨λi m ys H=>m=n - i/\i<=n/\j i ys H,⟨n,by simp,cm _,L⟩,?_⟩;rintro i m ys H ⟨rfl,hi,p⟩;refine⟨M i ys H hi p,?_⟩;by_cases FA:i<n
 ·refine .inr ⟨FA,j (i+1),λF H' p'=>⟨n - (i+1),by omega,rfl,FA,p'⟩,λx H' y=>?_⟩
  obtain⟨e,y⟩:=y;subst e y;exact⟨wZ,J i ys _ FA p⟩
 ·have e:i=n:=by omega
  subst e;exact .inl ⟨ax _,I ys H p⟩
end
section
variable {X:Cx}{DE:oI}{EK:St}{H H':Hp}{s:Shared}{h':Heap}
def Inv.PF{t':Nat}{ch:rS}{a:Addr}{o:HO}(I:Inv X DE EK H s)(k:∀b u,b∉ch->s.heap.get? b=some u->h'.get? b=some u)(U:∀b u,s.heap.get? b=some u->∃u',h'.get? b=some u')(J:∀b∈ch,jM X DE H b)
  (L:s.heap.objs.size<=a) (new:DZ X.prog X.w X.K (upd H a o) h' a o):Inv X DE EK (upd H a o) {s with heap:=h',toks:=t'}:=by
 have F:H a=none:=I.DV.fresh L;have O:∀b u,H b=some u->b∉ch:=λb u e j=>by
  rw[(J b j).1]at e;cases e
 have Y:∀b u,s.heap.get? b=some u->b≠a:=λb u e=>bP (bS (ar e) L);have G:GY X.prog X.w X.K (upd H a o) h':=λb u e=>by
  by_cases j:b=a
  ·subst j;rw[aq]at e;cases e;exact new
  ·rw[az j]at e
   refine(I.DV b u e).LG (λc v B q=>k c v ?_ q) (λc q=>by rw[az (au q F)];exact q) λc xs q=>by rw[az (au q F)];exact q
   rcases B with rfl|B
   ·exact O c u e
   ·exact O c _ B
 refine I.step (g':=s.gens) (d':=s.drawn) (ch:=ch) (λb j=>let ⟨_,f1,_,f4,f5,f6⟩:=J b j;⟨f4,f1,f5,f6⟩) (λb o _ _ B e _=>k b o B e) (λb o _ _ B e _=>⟨o.slots,k b o B e⟩)
  (λb o _ e n=>by rw[az (Y b o e)];exact n) (λb o _ e=>U b o e) (λb xs q=>by rw[az (au q F)];exact q) (λb u xs q=>by rw[az (au q F)];exact q)
  (λb ps q=>⟨#[],by rw[az (au q F),q];simp⟩) (λm Z=>?_) G I.bare
 obtain⟨M,es,ep,ho,r⟩:=Z;have nL:X.env.locals∉ch:=λj=>(J _ j).2.1 rfl;exact⟨M,es,ep,k _ M nL ho,r⟩
end
def Its(x:Str):It:=⟨λi _=>i<x.cps.size,λi H v H'=>H'=H/\∃c,x.cps[i]?=some c/\v=.str ⟨#[c]⟩,λi _=>i=x.cps.size⟩
def Ai{P:Program}{w:World}{tg:Expr}(it:Addr)(x:Str)(t:Tok)(ty:String)(M:["enumerate","zip","dict_itemiterator","dict_reverseitemiterator","odict_iterator","itertools.zip_longest","itertools.pairwise"].contains ty=false)
  (W:∀A:Around,A.handled=none->Walks P w A it [it] [it] x.cps.size (SignAt x) (λi h=>h.IsStrIter it ty x t i))
  (slf:∀(A:Around) (i:Nat) (s:Shared) (Q:gV) (E:gV),s.heap.IsStrIter it ty x t i->Q (.ref it) s->wpAny (model P w) A (pyIter (.ref it)) Q E s):
  Turn P w K tg (Its x) [it] it (λi h=>h.IsStrIter it ty x t i) where
 mem:=by simp
 obj:=λi h st b j=>by
  have e:b=it:=by simpa using j
  subst e;obtain⟨o,e,c,d⟩:=st;exact⟨o,e,λv z=>by rw[d]at z;cases z⟩
 keep:=λi h h' st k=>by
  obtain⟨o,e,r⟩:=st;exact⟨o,k it (by simp) o e,r⟩
 item:=by
  intro X hP B L Z i DE s EK H E I n st Y;subst hP B L;obtain⟨F,J,f2,f3,G,O⟩:=n it (by simp);refine(W X.A (I.ok.hd Z)).item i s _ _ Y st λv h' U hv GL kk=>?_;obtain⟨c,u,hx,rfl⟩:=hv;have I1:Inv X DE EK H {s with heap:=h',toks:=U}:=I.turned (λb o j e=>kk b o (by simpa using j) e) F J f3 G O;obtain⟨o,e,cc,d⟩:=id GL;exact⟨_,rfl,zf (s:={s with heap:=h',toks:=U}) e cc d M ⟨.str ⟨#[c]⟩,H,I1,⟨u,rfl⟩,⟨rfl,c,hx,rfl⟩,GL,λb j=>(n b j).1⟩⟩
 done:=by
  intro X hP B L Z i DE s EK H E I n st Y;subst hP B L;obtain⟨F,J,f2,f3,G,O⟩:=n it (by simp);have q:i=x.cps.size:=Y;subst q;exact(W X.A (I.ok.hd Z)).done s _ _ st λh' U kk=>⟨rfl,I.turned (λb o j e=>kk b o (by simpa using j) e) F J f3 G O⟩
 self:=slf
section
variable {X:Cx}{tg:Expr}
def Vv(tl:TE):TI:=fun EK H R=>tl EK H λx H1=>∃z,x=.str z/\R (Its z) H1
def Rf{l:Expr}{tl:TE}(M:PE X l tl):PI X tg l (Vv tl):=by
 intro DE s EK H R I h;refine D8 (M DE s EK H _ I h) ?_;rintro v j ⟨x,H1,n,J,L⟩;obtain⟨z,e,q⟩:=L;subst e;obtain⟨t,rfl⟩:=J;have F:∀b∈[j.heap.objs.size],jM X DE H1 b:=λb G=>by
  have e:b=j.heap.objs.size:=by simpa using G
  subst e;exact n.OG (ax _) (n.DV.fresh (ax _))
 cases ha:z.cps.all (·<128)
 ·exact wpAny_pyIter_wide ha ⟨j.heap.objs.size,[j.heap.objs.size],_,_,H1,rfl,n.kept (t':=j.toks) λb o e=>ae _ e,Ai _ z t "str_iterator" (by decide) (λA B=>Walks.strWide B _ z t) (λA i s Q E st h=>wpAny_pyIter_striter_wide st h),⟨_,av _ rfl,rfl,rfl⟩,F,q⟩
 ·exact wpAny_pyIter_ascii ha ⟨j.heap.objs.size,[j.heap.objs.size],_,_,H1,rfl,n.kept (t':=j.toks) λb o e=>ae _ e,Ai _ z t "str_ascii_iterator" (by decide) (λA B=>Walks.strAscii B _ z t) (λA i s Q E st h=>wpAny_pyIter_striter_ascii st h),⟨_,av _ rfl,rfl,rfl⟩,F,q⟩
end
section
variable {X:Cx}
def xg(hc:autoParam (X.calm=true) r0_):EE X (.type "list") (λxs H Q=>∃p kvs,xs=[.ref p]/\H p=some (.dK kvs)/\∀l,H l=none->Q (.ref l) (upd H l (.lst (kvs.map λF=>kV F.1)))):=by
 intro DE s EK H xs us Q I r h;obtain⟨p,kvs,rfl,hp,q⟩:=h;obtain⟨u,rfl,rx⟩:=vals1 r;cases rx;obtain⟨hz,lo,vs,n,hD⟩:=oF I.DV hp;obtain⟨o,es,ep,ho,hx,hd,O,L,hn⟩:=hD;have Z:=n.length;refine W.kdl_call (W.kdl_dict (knd:=fc X.prog X.w) (kvs:=vs) (ep:=ep) lo) (I.ok.hd hc) ⟨o,es,ho,hx,hd,O,L,hn⟩ (by omega) λh' tk M c' kk hS IG=>?_;have hv:Vals (kvs.map λF=>kV F.1) M.toList:=by
  have Y:∀(l:List (Key×V)) (B:List (Key×Value)) (us:re),KV l B->us.length=B.length->(∀(j:Nat) (v:Value),us[j]?=some v->∃k x,B[j]?=some (k,x)/\(fc X.prog X.w).is k v=true)->Vals (l.map λF=>kV F.1) us:=by
   intro l;induction l with
   |nil=>
    intro B us U G J;cases U;have:us=[]:=oq.mp G;subst this;exact .nil
   |cons a r ih=>
    intro B us U G J;cases U with
    |@cons _ b _ r2 h1 h2=>
     cases us with
     |nil=>simp at G
     |cons v us=>
      obtain⟨k,x,e,O⟩:=J 0 v rfl;have e':b=(k,x):=by simpa using e
      have ek:a.1=k:=by rw[h1.1,e']
      refine .cons ?_ (ih r2 us h2 (by simpa using G) λj w e=>by simpa using J (j+1) w (by simpa using e));show RelV (kV a.1) v;rw[ek];rcases bY O with⟨i,t,rfl,rfl⟩|⟨x,t,rfl,rfl⟩
      ·exact⟨t,rfl⟩
      ·exact⟨t,rfl⟩
  refine Y kvs vs M.toList n (by rw[gt];exact IG.1) λj v e=>IG.2 j v (by rw[←pS];exact e)
 refine⟨.ref s.heap.objs.size,_,I.laid kk (ax _) (show DZ X.prog X.w X.K _ h' _ (.lst _)from⟨?_,M.toList,c',hv,?_⟩),rfl,q _ I.fresh⟩
 ·rw[ay];omega
 ·simpa using hS
mutual
inductive Dt(K:W.Frag)(H:Hp):V->PyData->Prop
 |DS:Dt K H .DS .none
 |bl (b:Bool):Dt K H (.bl b) (.bool b)
 |int (i:Int):Dt K H (.int i) (.int i)
 |str (x:Str):Dt K H (.str x) (.str x)
 |lst {a:Addr}{xs:sx}{ds:List PyData}:EJ K H a xs->PH K H xs ds->Dt K H (.ref a) (.list ds)
 |tup {a:Addr}{xs:sx}{ds:List PyData}:F0 K H a xs->PH K H xs ds->Dt K H (.ref a) (.tuple ds)
inductive PH(K:W.Frag)(H:Hp):List V->List PyData->Prop
 |nil:PH K H [] []
 |cons {x:V}{xs:sx}{d:PyData}{ds:List PyData}:Dt K H x d->PH K H xs ds->PH K H (x::xs) (d::ds)
end
mutual
theorem Dt.reads{DE:oI}{EK:St}{H:Hp}{s:Shared}(I:Inv X DE EK H s):∀{x:V}{d:PyData}{u:Value},Dt X.K H x d->RelV x u->∃q,Reads s.heap u d q
 |_,_,_,.DS,r=>by cases r;exact⟨[],.none⟩
 |_,_,_,.bl b,r=>by cases r;exact⟨[],.bool b⟩
 |_,_,_,.int i,r=>by obtain⟨t,rfl⟩:=r;exact⟨[],.int i t⟩
 |_,_,_,.str x,r=>by obtain⟨t,rfl⟩:=r;exact⟨[],.str x t⟩
 |_,_,_,.lst hq hs,r=>by
  cases r;obtain⟨F,B,pl,_⟩:=I.list hq;obtain⟨o,e,c,n,d⟩:=pl.isList;obtain⟨q,j⟩:=PH.reads I hs B;exact⟨_,.list e c d (by simpa using j)⟩
 |_,_,_,.tup hq hs,r=>by
  cases r;obtain⟨F,B,pl,_⟩:=I.tuple hq;obtain⟨o,e,c,n,d⟩:=pl;obtain⟨q,j⟩:=PH.reads I hs B;exact⟨_,.tuple e c d (by simpa using j)⟩
theorem PH.reads{DE:oI}{EK:St}{H:Hp}{s:Shared}(I:Inv X DE EK H s):∀{xs:sx}{ds:List PyData}{us:re},PH X.K H xs ds->Vals xs us->∃j,ReadsAll s.heap us ds j
 |_,_,_,.nil,r=>by cases r;exact⟨[],.nil⟩
 |_,_,_,.cons h hs,r=>by
  cases r with
  |cons B q=>
   obtain⟨j,n⟩:=Dt.reads I h B;obtain⟨bs,F⟩:=PH.reads I hs q;exact⟨_,.cons n F⟩
end
def Rg(L:X.A.units+64<cLine):F3 X (compareOp .Eq) (λx y H Q=>∃d e,Dt X.K H x d/\Dt X.K H y e/\SeqAt.shaped d=true/\SeqAt.shaped e=true/\Q (.bl (PyData.eqv d e)) H):=by
 intro DE s EK H x y v u Q I J j h;obtain⟨d,e,h1,h2,B,F,q⟩:=h;obtain⟨M,n⟩:=h1.reads I J;obtain⟨bs,G⟩:=h2.reads I j;exact eq_dataH n G B F L ⟨.bl _,H,I,rfl,q⟩
def Rh(L:X.A.units+64<cLine):F3 X (compareOp .NotEq) (λx y H Q=>∃d e,Dt X.K H x d/\Dt X.K H y e/\SeqAt.shaped d=true/\SeqAt.shaped e=true/\Q (.bl (!PyData.eqv d e)) H):=by
 intro DE s EK H x y v u Q I J j h;obtain⟨d,e,h1,h2,B,F,q⟩:=h;obtain⟨M,n⟩:=h1.reads I J;obtain⟨bs,G⟩:=h2.reads I j;exact ne_dataH n G B F L ⟨.bl _,H,I,rfl,q⟩
end
structure Oy(P:Program)(w:World)(K:W.Frag)(mg:rX)(base:Heap)(k:Nat)(x:Str)(ps:rj)(sp:Sp):Prop where
 ex:∃f fd,EC P w K mg base IP k f fd ps sp/\Binds K fd ps []/\W.keepIn K (.ref f)=true/\mg x=some (.ref f)
def Ri{P:Program}{w:World}{mg:rX}{base:Heap}{k:Nat}{x:Str}{ps:rj}{sp:Sp}{st:Stmt}{f:Addr}(F:G0 K x x st f fd)
  (j:mg x=some (.ref f)) (n:Binds K fd ps []) (G:EC P w K mg base IP k f fd ps sp):Oy P w K mg base k x ps sp:=⟨f,fd,G,n,F.kp,j⟩
def fC{X:Cx}{k j:Nat}{x:Str}{ps:rj}{sp:Sp}{p pos:Pos}{e:Expr}{es:rh}{t:TA}(c:Oy X.prog X.w X.K X.mg X.base k x ps sp)(O:Ee j X.A)(L:PA X (e::es) t)(n:autoParam (k<=j) r1_)(q:autoParam (Gl X x) r0_)
  (J:autoParam (GG x) r1_) (B:autoParam (GB X e es) r0_) (M:autoParam (JI X pos es) r0_):
  PE X (.Call (.Name x p) (e::es) [] pos) (eZ sp [] E0 t):=by
 obtain⟨f,fd,G,F,U,I⟩:=c.ex;exact Ot G (O.mono n) q I U F .nil vN L J B M
def aG{H:Hp}{p:Addr}(h:H p=none)(o:HO):DH H (upd H p o):=λb u q=>by rw[az (au q h)];exact q
def DH.new{H H':Hp}{p:Addr}(s:DH H H')(h:H' p=none)(o:HO):DH H (upd H' p o):=s.trans (aG h o)
def DH.over{H H':Hp}{p:Addr}(s:DH H H')(h:H p=none)(o:HO):DH H (upd H' p o):=λb u q=>by rw[az (au q h)];exact s b u q
def small{n:Nat}(h:n<=1000):n<=sizeLine:=gg (Ii h)
def cg{n:Nat}(h:n<=1000000):n<sizeLine:=gv h (by decide)
section
variable (K:W.Frag){X:Cx}
theorem qw(h:autoParam (X.K=K) r0_):Ts X (uK K):=by subst h;exact Pw
theorem O7(h:autoParam (X.K=K) r0_):Ts X (Fx K):=by subst h;exact Tx
theorem oH(h:autoParam (X.K=K) r0_):EE X (.builtin "len") (λxs H Q=>∃p ys,xs=[.ref p]/\(EJ K H p ys\/F0 K H p ys)/\Q (.int ys.length) H):=by subst h;exact rY
theorem ik{e:Expr}{f:Str}{pos:Pos}{ta:TE}(n:PE X e ta)(j:autoParam (Xh X e f) r0_)(h:autoParam (X.K=K) r0_):PE X (.Attribute e f pos) (jN K ta f):=by subst h;exact HR n j
theorem Aj{o e:Expr}{es:rh}{to:TE}{t:TA}{name:Str}{apos D3:Pos}{T id:String}{r:V->List V->Hp->VK->Prop}(q:PlainAttrs T)(j:Slot T name id)(n:typeOf (.builtin id)=pure (.type "method_descriptor"))(F:MtR X id r)(G:PE X o to)(J:PA X (e::es) t)
  (L:autoParam (Xh X o name) r0_)
  (I:autoParam (ZQ X D3 (e::es)) r0_)
  (O:autoParam ((apos.endLine == D3.line)=true) r0_) (B:autoParam (GB X e es) r0_) (M:autoParam (JI X D3 es) r0_) (h:autoParam (X.K=K) r0_):
  PE X (.Call (.Attribute o name apos) (e::es) [] D3) (Yc K T r to t):=by subst h;exact Fz q j n F G J L I O B M
end
noncomputable def sy(x:Str)(lo hi:Option Int):Str:=⟨((x.cps.toList.drop (HT.EA x.length 0 lo)).take (HT.EA x.length x.length hi - HT.EA x.length 0 lo)).toArray⟩
def O8(lo hi:Option Int)(n:Nat):Builtin.Str.strSliceIndices lo hi 1 n=(List.range (HT.EA n n hi - HT.EA n 0 lo)).map (HT.EA n 0 lo+·):=by
 rw[←sliceRange_one];unfold Builtin.Str.strSliceIndices;have cl:∀(o:Option Int) (d:Nat),d<=n->(match o with|none=>(d:Int)|some i=>let i:=if i<0 then i+(n:Int)else i;if(1:Int)>0 then max 0 (min i (n:Int))else max (-1) (min i ((n:Int) - 1)))=((HT.EA n d o:Nat):Int):=λo d B=>by
  cases o with
  |none=>rfl
  |some i=>
   simp only[HT.EA,show(1:Int)>0 by decide,fT];by_cases h:i<0
   ·simp only[h,fT]<;>omega
   ·simp only[h,fw]<;>omega
 have q:=cl lo 0 (cm _);have j:=cl hi n (ax _);simp only[show(1:Int)>0 by decide,fT]at q j ⊢;exact congr (iA sliceRange q) j▸rfl
def Ku(x:Str)(t:Tok)(l u:Option (Int×Tok)){Q:gV}{s:Shared}(B:x.length<=sizeLine)
  (h:∀t' s',(s'=s\/s'={s with toks:=s.toks+1})->Q (.str (sy x (l.map (·.1)) (u.map (·.1))) t') s'):(sliceMade x t l u none).post Q s:=by
 unfold sliceMade slicePicked;have e:Builtin.Str.strSliceIndices (l.map (·.1)) (u.map (·.1)) ((((none:Option (Int×Tok)).map (·.1)).getD 1)) x.length=_:=O8 (l.map (·.1)) (u.map (·.1)) x.length;rw[e];have n:=pick_run x.cps (HT.EA x.length 0 (l.map (·.1))) (HT.EA x.length x.length (u.map (·.1)) - HT.EA x.length 0 (l.map (·.1)));have F:HT.EA x.length x.length (u.map (·.1))<=x.length:=HT.Tb _ _ (ax _) _;have j:x.length=x.cps.toList.length:=by simp[Str.length]
 by_cases hw:((((none:Option (Int×Tok)).map (·.1)).getD 1 == 1&&((List.range (HT.EA x.length x.length (u.map (·.1)) - HT.EA x.length 0 (l.map (·.1)))).map (HT.EA x.length 0 (l.map (·.1))+·)).length == x.length)=true)
 ·rw[bX hw]
  show Q (.str x t) s;have q:HT.EA x.length x.length (u.map (·.1)) - HT.EA x.length 0 (l.map (·.1))=x.length:=by
   have:=(cb _ _▸hw).2;simpa using this
  have e2:sy x (l.map (·.1)) (u.map (·.1))=x:=by
   unfold sy;rw[q];by_cases h0:x.length=0
   ·have:x.cps.toList=[]:=ic (by omega)
    cases x with|mk c=>simp at this;subst this;simp
   ·have h1:HT.EA x.length 0 (l.map (·.1))=0:=by omega
    rw[h1,List.drop_zero,j,ow]
  have:=h t s (.inl rfl);rw[e2]at this;exact this
 ·rw[bt hw,n]
  refine⟨?_,h _ _ (.inr rfl)⟩;show((x.cps.toList.drop _).take _).toArray.size<=sizeLine;rw[aE,jS,oo,←j];omega
section
variable {X:Cx}
def Rj:V->Option Int->Option Int->Hp->VK->Prop:=λx lo hi H Q=>∃z,x=.str z/\z.length<=sizeLine/\Q (.str (sy z lo hi)) H
def Rk:To X Rj:=by
 intro DE s EK H x v J M lo hi L Q I F n pl B h;obtain⟨z,rfl,hz,q⟩:=h;obtain⟨t,rfl⟩:=F;refine⟨"str",_,slot_str_getitem.lookup,typeIs_str s z t,?_⟩;have j:∀{v:Value}{o:Option Int},IsPart v o->∃p:Option (Int×Tok),v=partValue p/\p.map (·.1)=o:=λp=>by
  cases p with
  |none=>exact⟨none,rfl,rfl⟩
  |int i t=>exact⟨some (i,t),rfl,rfl⟩
 obtain⟨l,rfl,rfl⟩:=j pl;obtain⟨u,rfl,rfl⟩:=j B;refine wpAny_getItem_str_slice (l:=l) (u:=u) (st:=none) n rfl (Ku z t l u hz λt' s' G=>?_);rcases G with rfl|rfl
 ·exact⟨.str (sy z (l.map (·.1)) (u.map (·.1))),H,I,⟨t',rfl⟩,q⟩
 ·exact⟨.str (sy z (l.map (·.1)) (u.map (·.1))),H,I.tok _,⟨t',rfl⟩,q⟩
def Rm(K:W.Frag):V->Option Int->Option Int->Hp->VK->Prop:=λx lo hi H Q=>Q_ K x lo hi H Q\/Rj x lo hi H Q
def Rn:To X (Rm X.K):=Xo.or Rk
end
end Lake.L2
namespace Lake.MR
open PySem L2
inductive PV where
 |DS|bl (b:Bool)|int (i:Int)|str (x:Str)
 |lst (xs:List PV)|frz (xs:List PV)|tup (xs:List PV)|ktp (xs:List PV)
 |dK (kvs:List (Key×PV))|dT (kvs:List (List DF×PV))
 |obj (c:Nat) (fs:List (Str×PV))
structure MC where
 K:W.Frag
 cl:Nat->Addr
mutual
inductive Rep(C:MC)(A:se)(H:Hp):V->PV->Prop
 |DS:Rep C A H .DS .DS
 |bl (b:Bool):Rep C A H (.bl b) (.bl b)
 |int (i:Int):Rep C A H (.int i) (.int i)
 |str (x:Str):Rep C A H (.str x) (.str x)
 |lst {a:Addr}{vs:sx}{xs:List PV}:H a=some (.lst vs)->A a->DI C A H vs xs->Rep C A H (.ref a) (.lst xs)
 |Q2 {a:Addr}{o:Obj}{vs:sx}{xs:List PV}:H a=some (.frz o (.lst vs))->DI C A H vs xs->Rep C A H (.ref a) (.frz xs)
 |lstK {a:Addr}{vs:sx}{xs:List PV}:EJ C.K (λ_=>none) a vs->DI C A H vs xs->Rep C A H (.ref a) (.frz xs)
 |tup {a:Addr}{vs:sx}{xs:List PV}:H a=some (.tup vs)->DI C A H vs xs->Rep C A H (.ref a) (.tup xs)
 |GN {a:Addr}{vs:sx}{xs:List PV}:LF C.K a vs->DI C A H vs xs->Rep C A H (.ref a) (.tup xs)
 |tupK {a:Addr}{vs:sx}{xs:List PV}:F0 C.K (λ_=>none) a vs->DI C A H vs xs->Rep C A H (.ref a) (.ktp xs)
 |dK {a:Addr}{kv:List (Key×V)}{kvs:List (Key×PV)}:H a=some (.dK kv)->A a->D9 C A H kv kvs->Rep C A H (.ref a) (.dK kvs)
 |dT {a:Addr}{kv:List (List DF×V)}{kvs:List (List DF×PV)}:H a=some (.dT kv)->A a->D7 C A H kv kvs->Rep C A H (.ref a) (.dT kvs)
 |obj {a dx:Addr}{c:Nat}{f:List (Str×V)}{fs:List (Str×PV)}:H a=some (.ins (C.cl c) dx f)->A a->FK C A H f fs->Rep C A H (.ref a) (.obj c fs)
inductive DI(C:MC)(A:se)(H:Hp):List V->List PV->Prop
 |nil:DI C A H [] []
 |cons {v:V}{p:PV}{vs:sx}{ps:List PV}:Rep C A H v p->DI C A H vs ps->DI C A H (v::vs) (p::ps)
inductive D9(C:MC)(A:se)(H:Hp):List (Key×V)->List (Key×PV)->Prop
 |nil:D9 C A H [] []
 |cons {k:Key}{v:V}{p:PV}{vs:List (Key×V)}{ps:List (Key×PV)}:Rep C A H v p->D9 C A H vs ps->D9 C A H ((k,v)::vs) ((k,p)::ps)
inductive D7(C:MC)(A:se)(H:Hp):List (List DF×V)->List (List DF×PV)->Prop
 |nil:D7 C A H [] []
 |cons {k:List DF}{v:V}{p:PV}{vs:List (List DF×V)}{ps:List (List DF×PV)}:Rep C A H v p->D7 C A H vs ps->D7 C A H ((k,v)::vs) ((k,p)::ps)
inductive FK(C:MC)(A:se)(H:Hp):List (Str×V)->List (Str×PV)->Prop
 |nil:FK C A H [] []
 |cons {k:Str}{v:V}{p:PV}{vs:List (Str×V)}{ps:List (Str×PV)}:Rep C A H v p->FK C A H vs ps->FK C A H ((k,v)::vs) ((k,p)::ps)
end
noncomputable def iU:HO->Bool
 |.lst _=>true
 |.dK _=>true
 |.dT _=>true
 |.ins _ _ _=>true
 |_=>false
def Ex(A:se)(H:Hp)(A':se)(H':Hp):Prop:=∀a o,H a=some o->(A a->H' a=some o/\A' a)/\(iU o=false->H' a=some o)
def Ex.refl(A:se)(H:Hp):Ex A H A H:=λa o h=>⟨λq=>⟨h,q⟩,λ_=>h⟩
variable {A:se}{H:Hp}
def Ex.trans{B C:se}{I J:Hp}(e:Ex A H B I)(f:Ex B I C J):Ex A H C J:=λa o h=>⟨λq=>by
 obtain⟨h1,j⟩:=(e a o h).1 q;exact(f a o h1).1 j,λm=>(f a o ((e a o h).2 m)).2 m⟩
variable {H':Hp}
def Ex.of_same(s:DH H H'):Ex A H A H':=λa o h=>⟨λq=>⟨s a o h,q⟩,λ_=>s a o h⟩
variable {C:MC}{M4:List (List DF×V)->List (List DF×PV)->Prop}
def Rep.nd{M1:V->PV->Prop}{M2:List V->List PV->Prop}{M3:List (Key×V)->List (Key×PV)->Prop}{M5:List (Str×V)->List (Str×PV)->Prop}(F:M1 .DS .DS)(a2:∀b,M1 (.bl b) (.bl b))(a3:∀i,M1 (.int i) (.int i))(J:∀x,M1 (.str x) (.str x))
  (j:∀{a vs xs},H a=some (.lst vs)->A a->DI C A H vs xs->M2 vs xs->M1 (.ref a) (.lst xs))(B:∀{a o vs xs},H a=some (.frz o (.lst vs))->DI C A H vs xs->M2 vs xs->M1 (.ref a) (.frz xs))(Z:∀{a vs xs},EJ C.K (λ_=>none) a vs->DI C A H vs xs->M2 vs xs->M1 (.ref a) (.frz xs))
  (U:∀{a vs xs},H a=some (.tup vs)->DI C A H vs xs->M2 vs xs->M1 (.ref a) (.tup xs))(a9:∀{a vs xs},LF C.K a vs->DI C A H vs xs->M2 vs xs->M1 (.ref a) (.tup xs))(b1:∀{a vs xs},F0 C.K (λ_=>none) a vs->DI C A H vs xs->M2 vs xs->M1 (.ref a) (.ktp xs))
  (b2:∀{a kv kvs},H a=some (.dK kv)->A a->D9 C A H kv kvs->M3 kv kvs->M1 (.ref a) (.dK kvs))(b3:∀{a kv kvs},H a=some (.dT kv)->A a->D7 C A H kv kvs->M4 kv kvs->M1 (.ref a) (.dT kvs))(n:∀{a dx c f fs},H a=some (.ins (C.cl c) dx f)->A a->FK C A H f fs->M5 f fs->M1 (.ref a) (.obj c fs))
  (M:M2 [] [])(G:∀{v p vs ps},Rep C A H v p->DI C A H vs ps->M1 v p->M2 vs ps->M2 (v::vs) (p::ps))(O:M3 [] [])(I:∀{k v p vs ps},Rep C A H v p->D9 C A H vs ps->M1 v p->M3 vs ps->M3 ((k,v)::vs) ((k,p)::ps))
  (c5:M4 [] [])(L:∀{k v p vs ps},Rep C A H v p->D7 C A H vs ps->M1 v p->M4 vs ps->M4 ((k,v)::vs) ((k,p)::ps))(q:M5 [] [])(Y:∀{k v p vs ps},Rep C A H v p->FK C A H vs ps->M1 v p->M5 vs ps->M5 ((k,v)::vs) ((k,p)::ps)):
  (∀{v p},Rep C A H v p->M1 v p)/\(∀{v p},DI C A H v p->M2 v p)/\(∀{v p},D9 C A H v p->M3 v p)/\(∀{v p},D7 C A H v p->M4 v p)/\(∀{v p},FK C A H v p->M5 v p):=
 ⟨λ{v p} h=>@Rep.rec C A H (λv p _=>M1 v p) (λv p _=>M2 v p) (λv p _=>M3 v p) (λv p _=>M4 v p) (λv p _=>M5 v p) F a2 a3 J @j @B @Z @U @a9 @b1 @b2 @b3 @n M @G O @I c5 @L q @Y v p h,
  λ{v p} h=>@DI.rec C A H (λv p _=>M1 v p) (λv p _=>M2 v p) (λv p _=>M3 v p) (λv p _=>M4 v p) (λv p _=>M5 v p) F a2 a3 J @j @B @Z @U @a9 @b1 @b2 @b3 @n M @G O @I c5 @L q @Y v p h,
  λ{v p} h=>@D9.rec C A H (λv p _=>M1 v p) (λv p _=>M2 v p) (λv p _=>M3 v p) (λv p _=>M4 v p) (λv p _=>M5 v p) F a2 a3 J @j @B @Z @U @a9 @b1 @b2 @b3 @n M @G O @I c5 @L q @Y v p h,
  λ{v p} h=>@D7.rec C A H (λv p _=>M1 v p) (λv p _=>M2 v p) (λv p _=>M3 v p) (λv p _=>M4 v p) (λv p _=>M5 v p) F a2 a3 J @j @B @Z @U @a9 @b1 @b2 @b3 @n M @G O @I c5 @L q @Y v p h,
  λ{v p} h=>@FK.rec C A H (λv p _=>M1 v p) (λv p _=>M2 v p) (λv p _=>M3 v p) (λv p _=>M4 v p) (λv p _=>M5 v p) F a2 a3 J @j @B @Z @U @a9 @b1 @b2 @b3 @n M @G O @I c5 @L q @Y v p h⟩
variable {A':se}
def Rep.ex5(e:Ex A H A' H'):(∀{v p},Rep C A H v p->Rep C A' H' v p)/\(∀{v p},DI C A H v p->DI C A' H' v p)/\(∀{v p},D9 C A H v p->D9 C A' H' v p)/\(∀{v p},D7 C A H v p->D7 C A' H' v p)/\(∀{v p},FK C A H v p->FK C A' H' v p):=
 Rep.nd .DS .bl .int .str (λh q _ r=>.lst ((e _ _ h).1 q).1 ((e _ _ h).1 q).2 r) (λh _ r=>.Q2 ((e _ _ h).2 rfl) r) (λh _ r=>.lstK h r) (λh _ r=>.tup ((e _ _ h).2 rfl) r) (λh _ r=>.GN h r) (λh _ r=>.tupK h r)
  (λh q _ r=>.dK ((e _ _ h).1 q).1 ((e _ _ h).1 q).2 r) (λh q _ r=>.dT ((e _ _ h).1 q).1 ((e _ _ h).1 q).2 r) (λh q _ r=>.obj ((e _ _ h).1 q).1 ((e _ _ h).1 q).2 r) .nil (λ_ _ h t=>.cons h t) .nil (λ_ _ h t=>.cons h t) .nil (λ_ _ h t=>.cons h t) .nil (λ_ _ h t=>.cons h t)
variable {v:V}
def Rep.ex(e:Ex A H A' H'){p:PV}:Rep C A H v p->Rep C A' H' v p:=(Rep.ex5 e).1
def DI.ex(e:Ex A H A' H'){v:sx}{p:List PV}:DI C A H v p->DI C A' H' v p:=(Rep.ex5 e).2.1
def D9.ex(e:Ex A H A' H'){v:List (Key×V)}{p:List (Key×PV)}:D9 C A H v p->D9 C A' H' v p:=(Rep.ex5 e).2.2.1
def D7.ex(e:Ex A H A' H'){v:List (List DF×V)}{p:List (List DF×PV)}:D7 C A H v p->D7 C A' H' v p:=(Rep.ex5 e).2.2.2.1
def FK.ex(e:Ex A H A' H'){v:List (Str×V)}{p:List (Str×PV)}:FK C A H v p->FK C A' H' v p:=(Rep.ex5 e).2.2.2.2
def bf(h:∀a o,H a=some o->A a->A' a):Ex A H A' H:=λa o e=>⟨λq=>⟨e,h a o e q⟩,λ_=>e⟩
theorem DI.length{C:MC}{A:se}{H:Hp}:∀{vs:sx}{ps:List PV},DI C A H vs ps->vs.length=ps.length
 |_,_,.nil=>rfl
 |_,_,.cons _ t=>by simp[DI.length t]
theorem DI.append{C:MC}{A:se}{H:Hp}:∀{vs us:sx}{ps qs:List PV},DI C A H vs ps->DI C A H us qs->DI C A H (vs++us) (ps++qs)
 |_,_,_,_,.nil,h=>h
 |_,_,_,_,.cons h t,r=>.cons h (DI.append t r)
theorem DI.get{C:MC}{A:se}{H:Hp}:∀{vs:sx}{ps:List PV}{i:Nat}{p:PV},DI C A H vs ps->ps[i]?=some p->∃v,vs[i]?=some v/\Rep C A H v p
 |_,_,_,_,.nil,e=>by simp at e
 |_,_,0,_,.cons h t,e=>by simp at e;subst e;exact⟨_,rfl,h⟩
 |_,_,i+1,p,.cons h t,e=>by
  obtain⟨v,e1,r⟩:=DI.get (i:=i) (p:=p) t (by simpa using e);exact⟨v,by simpa using e1,r⟩
theorem DI.get'{C:MC}{A:se}{H:Hp}:∀{vs:sx}{ps:List PV}{i:Nat}{v:V},DI C A H vs ps->vs[i]?=some v->∃p,ps[i]?=some p/\Rep C A H v p
 |_,_,_,_,.nil,e=>by simp at e
 |_,_,0,_,.cons h t,e=>by simp at e;subst e;exact⟨_,rfl,h⟩
 |_,_,i+1,v,.cons h t,e=>by
  obtain⟨p,e1,r⟩:=DI.get' (i:=i) (v:=v) t (by simpa using e);exact⟨p,by simpa using e1,r⟩
theorem DI.drop{C:MC}{A:se}{H:Hp}:∀{vs:sx}{ps:List PV}(n:Nat),DI C A H vs ps->DI C A H (vs.drop n) (ps.drop n)
 |_,_,0,h=>by simpa using h
 |_,_,n+1,.nil=>by simpa using DI.nil
 |_,_,n+1,.cons _ t=>by simpa using DI.drop n t
theorem DI.take{C:MC}{A:se}{H:Hp}:∀{vs:sx}{ps:List PV}(n:Nat),DI C A H vs ps->DI C A H (vs.take n) (ps.take n)
 |_,_,0,h=>by simpa using DI.nil
 |_,_,n+1,.nil=>by simpa using DI.nil
 |_,_,n+1,.cons h t=>by simpa using DI.cons h (DI.take n t)
theorem DI.set{C:MC}{A:se}{H:Hp}{v:V}{p:PV}(r:Rep C A H v p):∀{vs:sx}{ps:List PV}(n:Nat),DI C A H vs ps->DI C A H (vs.set n v) (ps.set n p)
 |_,_,_,.nil=>.nil
 |_,_,0,.cons _ t=>.cons r t
 |_,_,n+1,.cons h t=>.cons h (DI.set r n t)
theorem DI.reverse{C:MC}{A:se}{H:Hp}:∀{vs:sx}{ps:List PV},DI C A H vs ps->DI C A H vs.reverse ps.reverse
 |_,_,.nil=>.nil
 |_,_,.cons h t=>by
  rw[kL,kL];exact(DI.reverse t).append (.cons h .nil)
theorem jR{C:MC}{A:se}{H:Hp}{j:Type}(f:j->V)(g:j->PV)(h:∀x,Rep C A H (f x) (g x)):∀l:List j,DI C A H (l.map f) (l.map g)
 |[]=>.nil
 |x::l=>.cons (h x) (jR f g h l)
theorem D9.val{C:MC}{A:se}{H:Hp}{k:Key}:∀{j:List (Key×V)}{kvs:List (Key×PV)},D9 C A H j kvs->(∃v p,cH j k=some v/\(kvs.find? λx=>decide (x.1=k)).map (·.2)=some p/\Rep C A H v p)\/(cH j k=none/\(kvs.find? λx=>decide (x.1=k)).map (·.2)=none)
 |_,_,.nil=>.inr ⟨rfl,rfl⟩
 |_,_,.cons (k:=k') (v:=v) (p:=p) h t=>by
  by_cases e:k'=k
  ·subst e
   exact .inl ⟨v,p,cZ rfl,by simp,h⟩
  ·rw[dg e,pd (by simpa using e)]
   exact D9.val t
theorem D7.val{C:MC}{A:se}{H:Hp}{k:List DF}:∀{j:List (List DF×V)}{kvs:List (List DF×PV)},D7 C A H j kvs->(∃v p,cH j k=some v/\(kvs.find? λx=>decide (x.1=k)).map (·.2)=some p/\Rep C A H v p)\/(cH j k=none/\(kvs.find? λx=>decide (x.1=k)).map (·.2)=none)
 |_,_,.nil=>.inr ⟨rfl,rfl⟩
 |_,_,.cons (k:=k') (v:=v) (p:=p) h t=>by
  by_cases e:k'=k
  ·subst e
   exact .inl ⟨v,p,cZ rfl,by simp,h⟩
  ·rw[dg e,pd (by simpa using e)]
   exact D7.val t
theorem FK.look{C:MC}{A:se}{H:Hp}{k:Str}{p:PV}:∀{f:List (Str×V)}{fs:List (Str×PV)},FK C A H f fs->fs.lookup k=some p->∃v,f.lookup k=some v/\Rep C A H v p
 |_,_,.nil,e=>by cases e
 |_,_,.cons (k:=k') (v:=v) (p:=p') h t,e=>by
  rw[db]at e ⊢;cases q:k == k' with
  |true=>rw[q]at e;cases e;exact⟨v,rfl,h⟩
  |false=>rw[q]at e;exact FK.look t e
theorem FK.Yh{C:MC}{A:se}{H:Hp}{k:Str}:∀{f:List (Str×V)}{fs:List (Str×PV)},FK C A H f fs->fs.lookup k=none->f.lookup k=none
 |_,_,.nil,e=>rfl
 |_,_,.cons (k:=k') (v:=v) (p:=p') h t,e=>by
  rw[db]at e ⊢;cases q:k == k' with
  |true=>rw[q]at e;cases e
  |false=>rw[q]at e;exact FK.Yh t e
def Top(C:MC)(A:se)(H:Hp)(a:Addr):PV->Prop
 |.lst xs=>∃vs,H a=some (.lst vs)/\DI C A H vs xs
 |.dK kvs=>∃kv,H a=some (.dK kv)/\D9 C A H kv kvs
 |.dT kvs=>∃kv,H a=some (.dT kv)/\D7 C A H kv kvs
 |.obj c fs=>∃dx f,H a=some (.ins (C.cl c) dx f)/\FK C A H f fs
 |_=>False
def Top.ex{C:MC}{A A':se}{H H':Hp}{a:Addr}{p:PV}(e:Ex A H A' H')(h:∀o,H a=some o->H' a=some o)(t:Top C A H a p):Top C A' H' a p:=by
 cases p with
 |lst xs=>obtain⟨vs,q,r⟩:=t;exact⟨vs,h _ q,r.ex e⟩
 |dK kvs=>obtain⟨vs,q,r⟩:=t;exact⟨vs,h _ q,r.ex e⟩
 |dT kvs=>obtain⟨vs,q,r⟩:=t;exact⟨vs,h _ q,r.ex e⟩
 |obj c fs=>obtain⟨dx,f,q,r⟩:=t;exact⟨dx,f,h _ q,r.ex e⟩
 |_=>exact t
variable {a:Addr}
def Top.live{p:PV}(t:Top C A H a p):∃o,H a=some o/\iU o=true:=by
 cases p with
 |lst xs=>obtain⟨vs,q,r⟩:=t;exact⟨_,q,rfl⟩
 |dK kvs=>obtain⟨vs,q,r⟩:=t;exact⟨_,q,rfl⟩
 |dT kvs=>obtain⟨vs,q,r⟩:=t;exact⟨_,q,rfl⟩
 |obj c fs=>obtain⟨dx,f,q,r⟩:=t;exact⟨_,q,rfl⟩
 |_=>exact t.elim
def Top.rep{p:PV}(t:Top C A H a p)(h:A a):Rep C A H (.ref a) p:=by
 cases p with
 |lst xs=>obtain⟨vs,q,r⟩:=t;exact .lst q h r
 |dK kvs=>obtain⟨vs,q,r⟩:=t;exact .dK q h r
 |dT kvs=>obtain⟨vs,q,r⟩:=t;exact .dT q h r
 |obj c fs=>obtain⟨dx,f,q,r⟩:=t;exact .obj q h r
 |_=>exact t.elim
def DO(C:MC)(A:se)(H:Hp)(v:V)(p:PV):Prop:=Rep C A H v p\/∃a,v=.ref a/\Top C A H a p
def DO.ex{C:MC}{A A':se}{H H':Hp}{v:V}{p:PV}(e:Ex A H A' H')(s:DH H H')(h:DO C A H v p):DO C A' H' v p:=by
 rcases h with h|⟨a,q,t⟩
 ·exact .inl (h.ex e)
 ·exact .inr ⟨a,q,t.ex e λo z=>s _ _ z⟩
variable {K:W.Frag}{vs:sx}
section
variable {C:MC}{A:se}{H:Hp}{v:V}
def ZU(h:EJ K (λ_=>none) a vs):EJ K H a vs:=by
 rcases h with(h|⟨o,h⟩)|h
 ·cases h
 ·cases h
 ·exact .inr h
def mW(h:F0 K (λ_=>none) a vs):F0 K H a vs:=by
 rcases h with(h|⟨o,h⟩)|h
 ·cases h
 ·cases h
 ·exact .inr h
def DO.lst{xs:List PV}(h:DO C A H v (.lst xs)):∃a vs,v=.ref a/\H a=some (.lst vs)/\DI C A H vs xs:=by
 rcases h with h|⟨a,rfl,vs,q,r⟩
 ·cases h with
  |lst q _ r=>exact⟨_,_,rfl,q,r⟩
 ·exact⟨a,vs,rfl,q,r⟩
def DO.frz{xs:List PV}(h:DO C A H v (.frz xs)):∃a vs,v=.ref a/\EJ C.K H a vs/\DI C A H vs xs:=by
 rcases h with h|⟨a,rfl,t⟩
 ·cases h with
  |Q2 q r=>exact⟨_,_,rfl,.inl (.inr ⟨_,q⟩),r⟩
  |lstK q r=>exact⟨_,_,rfl,ZU q,r⟩
 ·exact t.elim
def IB(K:W.Frag)(H:Hp)(a:Addr)(vs:sx):Prop:=H a=some (.tup vs)\/LF K a vs
def IB.sq{H:Hp}(h:IB K H a vs):F0 K H a vs:=h.elim (λq=>F0.of q) dQ
def IB.rep{C:MC}{A:se}{H:Hp}{xs:List PV}(h:IB C.K H a vs)(r:DI C A H vs xs):Rep C A H (.ref a) (.tup xs):=h.elim (λq=>.tup q r) λq=>.GN q r
def IB.ex{A:se}{H:Hp}(h:IB K H a vs)(e:Ex A H A' H'):IB K H' a vs:=h.imp (λq=>(e _ _ q).2 rfl) id
def IB.up{H:Hp}(h:IB K H a vs)(s:DH H H'):IB K H' a vs:=h.imp (λq=>s _ _ q) id
def IB.key{H:Hp}{ks:List DF}(h:IB K H a vs)(k:MH K H ks vs):FV K H a ks:=h.imp (λq=>⟨vs,q,k⟩) λq=>⟨vs,q,k⟩
def DO.tup{xs:List PV}(h:DO C A H v (.tup xs)):∃a vs,v=.ref a/\IB C.K H a vs/\DI C A H vs xs:=by
 rcases h with h|⟨a,rfl,t⟩
 ·cases h with
  |tup q r=>exact⟨_,_,rfl,.inl q,r⟩
  |GN q r=>exact⟨_,_,rfl,.inr q,r⟩
 ·exact t.elim
def DO.ktp{xs:List PV}(h:DO C A H v (.ktp xs)):∃a vs,v=.ref a/\F0 C.K H a vs/\DI C A H vs xs:=by
 rcases h with h|⟨a,rfl,t⟩
 ·cases h with
  |tupK q r=>exact⟨_,_,rfl,mW q,r⟩
 ·exact t.elim
def DO.dK{kvs:List (Key×PV)}(h:DO C A H v (.dK kvs)):∃a j,v=.ref a/\H a=some (.dK j)/\D9 C A H j kvs:=by
 rcases h with h|⟨a,rfl,vs,q,r⟩
 ·cases h with
  |dK q _ r=>exact⟨_,_,rfl,q,r⟩
 ·exact⟨a,vs,rfl,q,r⟩
def DO.dT{kvs:List (List DF×PV)}(h:DO C A H v (.dT kvs)):∃a j,v=.ref a/\H a=some (.dT j)/\D7 C A H j kvs:=by
 rcases h with h|⟨a,rfl,vs,q,r⟩
 ·cases h with
  |dT q _ r=>exact⟨_,_,rfl,q,r⟩
 ·exact⟨a,vs,rfl,q,r⟩
def DO.obj{c:Nat}{fs:List (Str×PV)}(h:DO C A H v (.obj c fs)):∃a dx f,v=.ref a/\H a=some (.ins (C.cl c) dx f)/\FK C A H f fs:=by
 rcases h with h|⟨a,rfl,dx,vs,q,r⟩
 ·cases h with
  |obj q _ r=>exact⟨_,_,_,rfl,q,r⟩
 ·exact⟨a,dx,vs,rfl,q,r⟩
def DO.int{i:Int}(h:DO C A H v (.int i)):v=.int i:=by
 rcases h with h|⟨a,rfl,t⟩
 ·cases h;rfl
 ·exact t.elim
def DO.str{x:Str}(h:DO C A H v (.str x)):v=.str x:=by
 rcases h with h|⟨a,rfl,t⟩
 ·cases h;rfl
 ·exact t.elim
def DO.bl{x:Bool}(h:DO C A H v (.bl x)):v=.bl x:=by
 rcases h with h|⟨a,rfl,t⟩
 ·cases h;rfl
 ·exact t.elim
def DO.DS(h:DO C A H v .DS):v=.DS:=by
 rcases h with h|⟨a,rfl,t⟩
 ·cases h;rfl
 ·exact t.elim
end
structure BX where
 C:MC
 A:Addr->Prop
 H0:Hp
 fx:Nat->Option V
abbrev Env:=List (Option PV)
abbrev sw:=List (List DF×PV)
abbrev sv:=List PV
abbrev ss:=PV->PV->Option PV
abbrev sj:=Env->Option (List PV)
abbrev si:=Env->Option Bool
abbrev sg:=List PV->Option PV
abbrev sf:=Env->Option PV
def Bs(b:BX)(Ow:se)(a:Addr):Prop:=¬ Ow a/\(b.A a\/b.H0 a=none)
structure ER(b:BX)(Ow:se)(G:oT)(EK:St)(env:Env)(H:Hp):Prop where
 len:EK.length=env.length
 same:DH b.H0 H
 live:∀a,Ow a->∃o,H a=some o
 new:∀a,Ow a->b.H0 a=none
 val:∀i p,env[i]?=some (some p)->i∉G->∃v,EK[i]?=some (some v)/\Rep b.C (Bs b Ow) H v p
 own:∀i p,env[i]?=some (some p)->i∈G->∃a,EK[i]?=some (some (.ref a))/\Ow a/\Top b.C (Bs b Ow) H a p
 sep:∀i j a p q,env[i]?=some (some p)->i∈G->EK[i]?=some (some (.ref a))->env[j]?=some (some q)->j∈G->EK[j]?=some (some (.ref a))->i=j
 fix:∀i v,b.fx i=some v->EK[i]?=some (some v)
inductive Md where|val|own|bor
def Res(b:BX)(Ow:se)(H H':Hp)(m:Md)(v:V)(p:PV):Prop:=match m with
 |.val=>Rep b.C (Bs b Ow) H' v p
 |.own=>∃a,v=.ref a/\H a=none/\Top b.C (λc=>Bs b Ow c/\c≠a) H' a p
 |.bor=>DO b.C (Bs b Ow) H' v p
inductive tM(b:BX)(G:oT)(m:Md)(f:sf)(EK:St)(H:Hp)(Q:VK):Prop
 |mk (Ow:se) (env:Env) (p:PV) (E:ER b Ow G EK env H) (hf:f env=some p) (k:∀v H',DH H H'->Res b Ow H H' m v p->Q v H'):tM b G m f EK H Q
inductive Xv(b:BX)(G:oT)(f:si)(EK:St)(H:Hp)(Q:Bool->Hp->Prop):Prop
 |mk (Ow:se) (env:Env) (c:Bool) (E:ER b Ow G EK env H) (hf:f env=some c) (k:∀H',DH H H'->Q c H'):Xv b G f EK H Q
section
variable {b:BX}{Ow:se}{G:oT}{EK:St}{env:Env}{H H':Hp}
def ER.up(E:ER b Ow G EK env H)(s:DH H H'):ER b Ow G EK env H':=
 ⟨E.len,E.same.trans s,λa h=>let ⟨o,e⟩:=E.live a h;⟨o,s _ _ e⟩,E.new,λi p h n=>let ⟨v,e,r⟩:=E.val i p h n;⟨v,e,r.ex (.of_same s)⟩,
  λi p h n=>let ⟨a,e,w,t⟩:=E.own i p h n;⟨a,e,w,t.ex (.of_same s) λo z=>s _ _ z⟩,E.sep,E.fix⟩
def ER.fresh(E:ER b Ow G EK env H)(h:H a=none):Bs b Ow a:=
 ⟨λw=>(by obtain⟨o,e⟩:=E.live a w;rw[h]at e;cases e),.inr (E.same.free h)⟩
def Res.val{m:Md}{v:V}{p:PV}(E:ER b Ow G EK env H)(n:m≠.bor)(r:Res b Ow H H' m v p):Res b Ow H H' .val v p:=by
 cases m with
 |val=>exact r
 |bor=>exact absurd rfl n
 |own=>
  obtain⟨a,rfl,h,t⟩:=r;have j:Ex (λc=>Bs b Ow c/\c≠a) H' (Bs b Ow) H':=bf λ_ _ _ z=>z.1;exact(t.ex j λo z=>z).rep (E.fresh h)
def Res.bor{m:Md}{v:V}{p:PV}(r:Res b Ow H H' m v p):Res b Ow H H' .bor v p:=by
 cases m with
 |val=>exact .inl r
 |bor=>exact r
 |own=>
  obtain⟨a,rfl,h,t⟩:=r;have j:Ex (λc=>Bs b Ow c/\c≠a) H' (Bs b Ow) H':=bf λ_ _ _ z=>z.1;exact .inr ⟨a,rfl,t.ex j λo z=>z⟩
def Res.up{m:Md}{p:PV}{j:Hp}(r:Res b Ow H H' m v p)(s:DH H' j):Res b Ow H j m v p:=by
 cases m with
 |val=>exact Rep.ex (.of_same s) r
 |bor=>exact DO.ex (.of_same s) s r
 |own=>
  obtain⟨a,e,h,t⟩:=r;exact⟨a,e,h,t.ex (.of_same s) λo z=>s _ _ z⟩
def Res.down{m:Md}{p:PV}{j:Hp}(s:DH H H')(r:Res b Ow H' j m v p):Res b Ow H j m v p:=by
 cases m with
 |val=>exact r
 |bor=>exact r
 |own=>
  obtain⟨a,e,h,t⟩:=r;exact⟨a,e,s.free h,t⟩
end
variable {X:Cx}
def PE.imp{e:Expr}{t u:TE}(h:PE X e t)(i:∀ EK H Q,u EK H Q->t EK H Q):PE X e u:=λDE s EK H Q I q=>h DE s EK H Q I (i EK H Q q)
def PT.imp{e:Expr}{t u:TT}(h:PT X e t)(i:∀ EK H Q,u EK H Q->t EK H Q):PT X e u:=λDE s EK H Q I q=>h DE s EK H Q I (i EK H Q q)
def PS.imp{e:Stmt}{t u:TS}(h:PS X e t)(i:∀D EK H,u D EK H->t D EK H):PS X e u:=λDE s EK H D I q=>h DE s EK H D I (i D EK H q)
def PE.or{e:Expr}{t u:TE}(h:PE X e t)(h':PE X e u):PE X e (fun EK H Q=>t EK H Q\/u EK H Q):=λDE s EK H Q I q=>q.elim (h DE s EK H Q I) (h' DE s EK H Q I)
def F3.or{op:Value->Value->Sem Value}{r n:R2}(h:F3 X op r)(h':F3 X op n):F3 X op (λx y H Q=>r x y H Q\/n x y H Q):=λDE s EK H x y v u Q I B j q=>q.elim (h DE s EK H x y v u Q I B j) (h' DE s EK H x y v u Q I B j)
abbrev SE(X:Cx)(b:BX)(G:oT)(m:Md)(e:Expr)(f:sf):Prop:=PE X e (tM b G m f)
abbrev ST(X:Cx)(b:BX)(G:oT)(e:Expr)(f:si):Prop:=PT X e (Xv b G f)
def SE.bor{X:Cx}{b:BX}{G:oT}{m:Md}{e:Expr}{f:sf}(h:SE X b G m e f):SE X b G .bor e f:=
 PE.imp h fun EK H Q ⟨Ow,env,p,E,hf,k⟩=>⟨Ow,env,p,E,hf,λv H' s r=>k v H' s r.bor⟩
def SE.val{X:Cx}{b:BX}{G:oT}{e:Expr}{f:sf}(h:SE X b G .own e f):SE X b G .val e f:=
 PE.imp h fun EK H Q ⟨Ow,env,p,E,hf,k⟩=>⟨Ow,env,p,E,hf,λv H' s r=>k v H' s (r.val E (by intro z;cases z))⟩
noncomputable def bC(p:PV)(env:Env):Option PV:=some p
@[simp] def FN(p:PV)(env:Env):bC p env=(some p):=id rfl
noncomputable def bV(i:Nat)(env:Env):Option PV:=match env[i]? with|some o=>o|none=>none
@[simp] def Nj(i:Nat)(env:Env):bV i env=(match env[i]? with|some o=>o|none=>none):=id rfl
noncomputable def b1(g:PV->Option PV)(f:sf)(env:Env):Option PV:=(f env).bind g
@[simp] def WK(g:PV->Option PV)(f:sf)(env:Env):b1 g f env=((f env).bind g):=id rfl
noncomputable def b2(g:ss)(f h:sf)(env:Env):Option PV:=(f env).bind λx=>(h env).bind λy=>g x y
@[simp] def zg(g:ss)(f h:sf)(env:Env):b2 g f h env=((f env).bind λx=>(h env).bind λy=>g x y):=id rfl
noncomputable def b3(g:PV->PV->PV->Option PV)(f h k:sf)(env:Env):Option PV:=(f env).bind λx=>(h env).bind λy=>(k env).bind λz=>g x y z
@[simp] def WL(g:PV->PV->PV->Option PV)(f h k:sf)(env:Env):b3 g f h k env=((f env).bind λx=>(h env).bind λy=>(k env).bind λz=>g x y z):=id rfl
noncomputable def qx(f g:sf)(env:Env):Option PV:=(f env).bind λx=>match x with|.bl true=>g env|.bl false=>some (.bl false)|_=>none
@[simp] def VR(f g:sf)(env:Env):qx f g env=((f env).bind λx=>match x with|.bl true=>g env|.bl false=>some (.bl false)|_=>none):=id rfl
noncomputable def bOr(f g:sf)(env:Env):Option PV:=(f env).bind λx=>match x with|.bl true=>some (.bl true)|.bl false=>g env|_=>none
@[simp] def Wg(f g:sf)(env:Env):bOr f g env=((f env).bind λx=>match x with|.bl true=>some (.bl true)|.bl false=>g env|_=>none):=id rfl
noncomputable def Xa(c:si)(f g:sf)(env:Env):Option PV:=(c env).bind λx=>if x=true then f env else g env
@[simp] def Wh(c:si)(f g:sf)(env:Env):Xa c f g env=((c env).bind λx=>if x=true then f env else g env):=id rfl
noncomputable def tV(f:sf)(env:Env):Option Bool:=(f env).bind λx=>match x with|.bl c=>some c|_=>none
@[simp] def Nk(f:sf)(env:Env):tV f env=((f env).bind λx=>match x with|.bl c=>some c|_=>none):=id rfl
noncomputable def tA(f g:si)(env:Env):Option Bool:=(f env).bind λx=>if x=true then g env else some false
@[simp] def WM(f g:si)(env:Env):tA f g env=((f env).bind λx=>if x=true then g env else some false):=id rfl
noncomputable def tO(f g:si)(env:Env):Option Bool:=(f env).bind λx=>if x=true then some true else g env
@[simp] def WN(f g:si)(env:Env):tO f g env=((f env).bind λx=>if x=true then some true else g env):=id rfl
noncomputable def tN(f:si)(env:Env):Option Bool:=(f env).bind λx=>some (!x)
@[simp] def WP(f:si)(env:Env):tN f env=((f env).bind λx=>some (!x)):=id rfl
noncomputable def aK(env:Env):Option (List PV):=some []
@[simp] def O9(env:Env):aK env=(some []):=id rfl
noncomputable def ak(f:sf)(g:sj)(env:Env):Option (List PV):=(f env).bind λx=>(g env).bind λxs=>some (x::xs)
abbrev DC(n:Int):=bC (.int n)
abbrev DD(i:Nat):=ak (bV i)
@[simp] def Kv(f:sf)(g:sj)(env:Env):ak f g env=((f env).bind λx=>(g env).bind λxs=>some (x::xs)):=id rfl
noncomputable def fQ(g:sj)(env:Env):Option PV:=(g env).bind λxs=>if xs.length<=1000000 then some (.lst xs)else none
@[simp] def VV(g:sj)(env:Env):fQ g env=((g env).bind λxs=>if xs.length<=1000000 then some (.lst xs)else none):=id rfl
noncomputable def bQ(g:sj)(env:Env):Option PV:=(g env).bind λxs=>if xs.length<=1000000 then some (.tup xs)else none
@[simp] def V0(g:sj)(env:Env):bQ g env=((g env).bind λxs=>if xs.length<=1000000 then some (.tup xs)else none):=id rfl
noncomputable def bh(m:sg)(g:sj)(env:Env):Option PV:=(g env).bind m
@[simp] def Kw(m:sg)(g:sj)(env:Env):bh m g env=((g env).bind m):=id rfl
section
variable {b:BX}{G:oT}{m:Md}{EK:St}{H:Hp}{Q:VK}
def NF(b:BX)(m:Md)(r:R2)(g:ss):Prop:=∀(Ow:se) (H:Hp) (v1 v2:V) (p1 p2 p:PV) (Q:VK),(∀a,H a=none->Bs b Ow a)->DO b.C (Bs b Ow) H v1 p1->DO b.C (Bs b Ow) H v2 p2->g p1 p2=some p->
 (∀v H',DH H H'->Res b Ow H H' m v p->Q v H')->r v1 v2 H Q
def FQ{r:R2}{g:ss}{B F:sf}(O:NF b m r g)(h:tM b G m (b2 g B F) EK H Q):QO r (tM b G .bor B) (tM b G .bor F) EK H Q:=by
 obtain⟨Ow,env,p,E,j,k⟩:=h;unfold b2 at j;cases h1:B env with
 |none=>rw[h1]at j;cases j
 |some p1=>
  rw[h1]at j;cases h2:F env with
  |none=>rw[h2]at j;cases j
  |some p2=>
   rw[h2]at j;exact⟨Ow,env,p1,E,h1,λI H1 n L=>⟨Ow,env,p2,E.up n,h2,λM H2 q J=>O Ow H2 I M p1 p2 p Q (λa=>(E.up (n.trans q)).fresh) (L.up q) J j λv H' s r=>k v H' (n.trans (q.trans s)) (r.down (n.trans q))⟩⟩
def Op1(b:BX)(m:Md)(r:V->Hp->VK->Prop)(g:PV->Option PV):Prop:=∀(Ow:se) (H:Hp) (v1:V) (p1 p:PV) (Q:VK),(∀a,H a=none->Bs b Ow a)->DO b.C (Bs b Ow) H v1 p1->g p1=some p->
 (∀v H',DH H H'->Res b Ow H H' m v p->Q v H')->r v1 H Q
def FT{r:V->Hp->VK->Prop}{g:PV->Option PV}{q:sf}(I:Op1 b m r g)(h:tM b G m (b1 g q) EK H Q):tM b G .bor q EK H λx H1=>r x H1 Q:=by
 obtain⟨Ow,env,p,E,j,k⟩:=h;unfold b1 at j;cases h1:q env with
 |none=>rw[h1]at j;cases j
 |some p1=>
  rw[h1]at j;exact⟨Ow,env,p1,E,h1,λB H1 n F=>I Ow H1 B p1 p Q (λa=>(E.up n).fresh) F j λv H' s r=>k v H' (n.trans s) (r.down n)⟩
end
@[simp] noncomputable def lN:PV->PV->Option PV
 |.int i,.int j=>some (.int (i+j))
 |.str x,.str y=>if x.length+y.length<=1000000 then some (.str (x++y))else none
 |.lst xs,.lst ys=>if xs.length+ys.length<=1000000 then some (.lst (xs++ys))else none
 |_,_=>none
@[simp] noncomputable def Ak:PV->PV->Option PV
 |.lst xs,.lst ys=>if xs.length+ys.length<=1000000 then some (.lst (xs++ys))else none
 |_,_=>none
noncomputable def Ro:PV->PV->Option PV
 |.tup xs,.tup ys=>if xs≠[]/\xs.length+ys.length<=1000000 then some (.tup (xs++ys))else none
 |_,_=>none
@[simp] noncomputable def Xw:PV->PV->Option PV
 |.int i,.int j=>some (.int (i - j))
 |_,_=>none
@[simp] noncomputable def uM:PV->PV->Option PV
 |.int i,.int j=>if 0<j/\j<1073741824 then some (.int (i / j))else none
 |_,_=>none
@[simp] noncomputable def jT:PV->PV->Option PV
 |.int i,.int j=>if 0<j then some (.int (i%j))else none
 |_,_=>none
@[simp] noncomputable def mX(g:Int->Int->Bool):PV->PV->Option PV
 |.int i,.int j=>some (.bl (g i j))
 |_,_=>none
def gn{n:Nat}(h:n<=1000000):n<=sizeLine:=gg (cg h)
section
variable {b:BX}
def O_{g:Int->Int->Int}{f:ss}(n:∀x y p,f x y=some p->∃i j,x=.int i/\y=.int j/\p=.int (g i j)):NF b .val (S3 λi j=>.int (g i j)) f:=by
 intro Ow H F J p1 p2 p Q I B q e k;obtain⟨i,j,rfl,rfl,rfl⟩:=n _ _ _ e;rw[B.int,q.int];exact⟨i,j,rfl,rfl,k _ H (DH.refl _) (.int _)⟩
def Ip{g:Int->Int->Bool}:NF b .val (S3 λi j=>.bl (g i j)) (mX g):=by
 intro Ow H B I p1 p2 p Q F q n e k;unfold mX at e;split at e
 ·cases e
  rw[q.int,n.int];exact⟨_,_,rfl,rfl,k _ H (DH.refl _) (.bl _)⟩
 ·cases e
def Rp:NF b .val (S3 λi j=>.int (i - j)) Xw:=O_ λx y p e=>by
 unfold Xw at e;split at e
 ·cases e;exact⟨_,_,rfl,rfl,rfl⟩
 ·cases e
set_option tactic.hygienic true in def Rq:NF b .val (rI QS λi j=>.int (i / j)) uM:=by
 intro Ow H B F p1 p2 p Q I q n e k;unfold uM at e;split at e
 ·split at e
  ·rename_i h
   cases e;rw[q.int,n.int];exact⟨_,_,rfl,rfl,h,k _ H (DH.refl _) (.int _)⟩
  ·cases e
 ·cases e
set_option tactic.hygienic true in def Rr:NF b .val (rI (λ_ j=>0<j) λi j=>.int (i%j)) jT:=by
 intro Ow H B I p1 p2 p Q F q n e k;unfold jT at e;split at e
 ·split at e
  ·rename_i h
   cases e;rw[q.int,n.int];exact⟨_,_,rfl,rfl,h,k _ H (DH.refl _) (.int _)⟩
  ·cases e
 ·cases e
end
variable {Ow:se}
def eE{b:BX}{xs:sv}(h:H a=none)(r:DI b.C (Bs b Ow) H vs xs):Res b Ow H (upd H a (.lst vs)) .own (.ref a) (.lst xs):=by
 refine⟨a,rfl,h,vs,aq,r.ex λc o e=>?_⟩;have j:c≠a:=au e h;exact⟨λq=>⟨by rw[az j];exact e,q,j⟩,λ_=>by rw[az j];exact e⟩
def pK{b:BX}{H0:Hp}{xs:sv}(h:H a=none)(r:DI b.C (Bs b Ow) H vs xs):Res b Ow H0 (upd H a (.tup vs)) .val (.ref a) (.tup xs):=
 Rep.tup aq (r.ex (.of_same (aG h _)))
section
variable {b:BX}
set_option tactic.hygienic true in def Rt:NF b .val (λx y H Q=>(S3 (λi j=>.int (i+j)) x y H Q\/∃i j,x=.str i/\y=.str j/\i.length+j.length<=sizeLine/\Q (.str (i++j)) H)\/Kq x y H Q) lN:=by
 intro Ow H U Y p1 p2 p Q M B n e k;unfold lN at e;split at e
 ·cases e
  rw[B.int,n.int];exact .inl (.inl ⟨_,_,rfl,rfl,k _ H (DH.refl _) (.int _)⟩)
 ·split at e
  ·rename_i h
   cases e;rw[B.str,n.str];exact .inl (.inr ⟨_,_,rfl,rfl,gn h,k _ H (DH.refl _) (.str _)⟩)
  ·cases e
 ·split at e
  ·rename_i h
   cases e;obtain⟨a,vs,rfl,O,I⟩:=B.lst;obtain⟨c,us,rfl,L,J⟩:=n.lst;exact .inr ⟨a,c,vs,us,rfl,rfl,O,L,gn (by rw[I.length,J.length];exact h),λq F=>k _ _ (aG F _) (.lst aq (M q F) ((I.append J).ex (.of_same (aG F _))))⟩
  ·cases e
 ·cases e
set_option tactic.hygienic true in def Ru:NF b .own Kq Ak:=by
 intro Ow H M U p1 p2 p Q O I F e k;unfold Ak at e;split at e
 ·split at e
  ·rename_i h
   cases e;obtain⟨a,vs,rfl,L,j⟩:=I.lst;obtain⟨c,us,rfl,J,B⟩:=F.lst;refine⟨a,c,vs,us,rfl,rfl,L,J,gn (by rw[j.length,B.length];exact h),λq n=>k _ _ (aG n _) (eE n (j.append B))⟩
  ·cases e
 ·cases e
set_option tactic.hygienic true in def Pa:NF b .val (vL b.C.K) Ro:=by
 intro Ow H O Y p1 p2 p Q U J I e k;unfold Ro at e;split at e
 ·split at e
  ·rename_i h
   cases e;obtain⟨a,vs,rfl,F,j⟩:=J.tup;obtain⟨c,us,rfl,L,n⟩:=I.tup;refine⟨a,c,vs,us,rfl,rfl,F.sq,L.sq,?_,gn (by rw[j.length,n.length];exact h.2),λM=>?_,λ_ q B=>k _ _ (aG B _) (pK B (j.append n))⟩;rotate_left
   ·subst M
    cases n;rw[cy]at k;exact k _ H (DH.refl _) (F.rep j)
   intro z;have:=j.length;rw[z]at this;exact h.1 (oq.mp this.symm)
  ·cases e
 ·cases e
end
section
variable {X:Cx}{b:BX}{G:oT}{m:Md}{e e1 e2:Expr}{f f1 f2:sf}{pos:Pos}
def ao{i j pos}:SE X b G .val (.Constant (.int i) j pos) (DC i):=PE.imp fj<|by rintro EK H Q ⟨Ow,env,p,E,n,k⟩;cases n;exact k _ H (DH.refl _) (.int i)
def tZ{i j pos}:SE X b G .val (.Constant (.bool i) j pos) (bC (.bl i)):=PE.imp Uq<|by rintro EK H Q ⟨Ow,env,p,E,n,k⟩;cases n;exact k _ H (DH.refl _) (.bl i)
def aQ{i j pos}:SE X b G .val (.Constant (.str i) j pos) (bC (.str i)):=PE.imp QB<|by rintro EK H Q ⟨Ow,env,p,E,n,k⟩;cases n;exact k _ H (DH.refl _) (.str i)
def cF{j pos}:SE X b G .val (.Constant .none j pos) (bC .DS):=PE.imp vB<|by rintro EK H Q ⟨Ow,env,p,E,n,k⟩;cases n;exact k _ H (DH.refl _) .DS
set_option tactic.hygienic true in def eF{i:Nat}{env:Env}{p:PV}(h:bV i env=some p):env[i]?=some (some p):=by
 unfold bV at h;split at h
 ·rename_i o e;rw[e,h]
 ·cases h
def aj(i:Nat){x:Str}{pos:Pos}(F:autoParam (X.N[i]?=some x) r0_)(B:autoParam (N3 X.env.scope x) r4_)(I:autoParam (i∉G) r1_)(q:autoParam (GG x) r1_)
  (j:autoParam (NJ x) r1_):SE X b G .val (.Name x pos) (bV i):=PE.imp (dW F B q j)<|by
 rintro EK H Q ⟨Ow,env,p,E,n,k⟩;obtain⟨v,e,r⟩:=E.val i p (eF n) I;exact⟨v,e,k v H (DH.refl _) r⟩
def je(i:Nat){x:Str}{pos:Pos}(F:autoParam (X.N[i]?=some x) r0_)(B:autoParam (N3 X.env.scope x) r4_)(q:autoParam (GG x) r1_)
  (n:autoParam (NJ x) r1_):SE X b G .bor (.Name x pos) (bV i):=PE.imp (dW F B q n)<|by
 rintro EK H Q ⟨Ow,env,p,E,j,k⟩;by_cases hG:i∈G
 ·obtain⟨a,e,_,t⟩:=E.own i p (eF j) hG
  exact⟨_,e,k _ H (DH.refl _) (.inr ⟨a,rfl,t⟩)⟩
 ·obtain⟨v,e,r⟩:=E.val i p (eF j) hG
  exact⟨v,e,k v H (DH.refl _) (.inl r)⟩
def UW{x z:Str}{t:Tok}{pos:Pos}(B:X.mg x=some (.str z t))(n:autoParam (Gl X x) r0_)(q:autoParam (GG x) r1_):SE X b G .val (.Name x pos) (bC (.str z)):=
 PE.imp (jo n B (v:=.str z) ⟨_,rfl⟩ q)<|by rintro EK H Q ⟨Ow,env,p,E,j,k⟩;cases j;exact k _ H (DH.refl _) (.str z)
def U0{x:Str}{q:PV}{pos:Pos}(I:X.mg x=some (.ref a))(B:∀A H,Rep b.C A H (.ref a) q)(n:autoParam (Gl X x) r0_)(F:autoParam (GG x) r1_):SE X b G .val (.Name x pos) (bC q):=
 PE.imp (jo n I (v:=.ref a) rfl F)<|by rintro EK H Q ⟨Ow,env,p,E,j,k⟩;cases j;exact k _ H (DH.refl _) (B _ _)
def t6{op:Operator}{r:R2}{g:ss}(j:F3 X (binaryOp op) r)(B:NF b m r g){n q:Md}(h1:SE X b G n e1 f1)(h2:SE X b G q e2 f2):SE X b G m (.BinOp e1 op e2 pos) (b2 g f1 f2):=
 PE.imp (Ff j h1.bor h2.bor) fun EK H Q h=>FQ B h
def jx{j n:Md}(h1:SE X b G j e1 f1)(h2:SE X b G n e2 f2):SE X b G .val (.BinOp e1 .Add e2 pos) (b2 lN f1 f2):=t6 (F3.or (F3.or HB Fg) Ie) Rt h1 h2
def Ir{j n:Md}(h1:SE X b G j e1 f1)(h2:SE X b G n e2 f2):SE X b G .own (.BinOp e1 .Add e2 pos) (b2 Ak f1 f2):=t6 Ie Ru h1 h2
def Rv{j n:Md}(h1:SE X b G j e1 f1)(h2:SE X b G n e2 f2):SE X b G .val (.BinOp e1 .Sub e2 pos) (b2 Xw f1 f2):=t6 QT Rp h1 h2
def vR{j n:Md}(h1:SE X b G j e1 f1)(h2:SE X b G n e2 f2):SE X b G .val (.BinOp e1 .FloorDiv e2 pos) (b2 uM f1 f2):=t6 Oh Rq h1 h2
def iK{j n:Md}(h1:SE X b G j e1 f1)(h2:SE X b G n e2 f2):SE X b G .val (.BinOp e1 .Mod e2 pos) (b2 jT f1 f2):=t6 QV Rr h1 h2
end
@[simp] noncomputable def eqN:PV->Option Bool
 |.DS=>some true
 |.int _=>some false
 |.bl _=>some false
 |.str _=>some false
 |_=>none
@[simp] noncomputable def eqI(i:Int):PV->Option Bool
 |.DS=>some false
 |.int j=>some (decide (i=j))
 |.str _=>some false
 |_=>none
@[simp] noncomputable def eqB(i:Bool):PV->Option Bool
 |.DS=>some false
 |.bl j=>some (decide (i=j))
 |.str _=>some false
 |_=>none
@[simp] noncomputable def eqT(i:Str):PV->Option Bool
 |.DS=>some false
 |.int _=>some false
 |.bl _=>some false
 |.str j=>some (decide (i=j))
 |_=>none
@[simp] noncomputable def TL:PV->PV->Option Bool
 |.DS,y=>eqN y
 |.int i,y=>eqI i y
 |.bl i,y=>eqB i y
 |.str i,y=>eqT i y
 |_,_=>none
mutual
noncomputable def toD:PV->Option PyData
 |.DS=>some .none
 |.bl b=>some (.bool b)
 |.int i=>some (.int i)
 |.str x=>some (.str x)
 |.lst xs=>(fG xs).map .list
 |.frz xs=>(fG xs).map .list
 |.tup xs=>(fG xs).map .tuple
 |.ktp xs=>(fG xs).map .tuple
 |_=>none
noncomputable def fG:List PV->Option (List PyData)
 |[]=>some []
 |x::xs=>match toD x,fG xs with
  |some d,some ds=>some (d::ds)
  |_,_=>none
end
noncomputable def Sm(x y:PV):Option Bool:=match toD x,toD y with
 |some d,some e=>if SeqAt.shaped d=true/\SeqAt.shaped e=true then some (PyData.eqv d e)else none
 |_,_=>none
noncomputable def JJ(x y:PV):Option Bool:=match TL x y with
 |some k=>some k
 |none=>Sm x y
noncomputable def eqQ(x y:PV):Option PV:=(JJ x y).map .bl
@[simp] def Wk(x y:PV):eqQ x y=((JJ x y).map .bl):=id rfl
noncomputable def Xx(x y:PV):Option PV:=(JJ x y).map λk=>.bl (!k)
@[simp] def Wl(x y:PV):Xx x y=((JJ x y).map λk=>.bl (!k)):=id rfl
def Rep.dt2:(∀{v p},Rep C A H v p->∀d,toD p=some d->Dt C.K H v d)/\(∀{v p},DI C A H v p->∀d,fG p=some d->PH C.K H v d):=by
 have l:∀{a vs xs},EJ C.K H a vs->(∀d,fG xs=some d->PH C.K H vs d)->∀d,(fG xs).map .list=some d->Dt C.K H (.ref a) d:=by
  intro a vs xs h r d e;obtain⟨x,j,rfl⟩:=ba.mp e;exact .lst h (r x j)
 have t:∀{a vs xs},F0 C.K H a vs->(∀d,fG xs=some d->PH C.K H vs d)->∀d,(fG xs).map .tuple=some d->Dt C.K H (.ref a) d:=by
  intro a vs xs h r d e;obtain⟨x,j,rfl⟩:=ba.mp e;exact .tup h (r x j)
 have nd:=Rep.nd (C:=C) (A:=A) (H:=H) (M1:=λv p=>∀d,toD p=some d->Dt C.K H v d) (M2:=λv p=>∀d,fG p=some d->PH C.K H v d) (M3:=λ_ _=>True) (M4:=λ_ _=>True) (M5:=λ_ _=>True)
  ?_ ?_ ?_ ?_ ?_ ?_ ?_ ?_ ?_ ?_ ?_ ?_ ?_ ?_ ?_ trivial (λ_ _ _ _=>trivial) trivial (λ_ _ _ _=>trivial) trivial (λ_ _ _ _=>trivial)
 ·exact⟨nd.1,nd.2.1⟩
 ·intro d e;simp only[toD]at e;cases e;exact .DS
 ·intro b d e;simp only[toD]at e;cases e;exact .bl b
 ·intro b d e;simp only[toD]at e;cases e;exact .int b
 ·intro b d e;simp only[toD]at e;cases e;exact .str b
 ·intro a vs xs h _ _ r d e;simp only[toD]at e;exact l (EJ.of h) r d e
 ·intro a o vs xs h _ r d e;simp only[toD]at e;exact l (.inl (.inr ⟨_,h⟩)) r d e
 ·intro a vs xs h _ r d e;simp only[toD]at e;exact l (ZU h) r d e
 ·intro a vs xs h _ r d e;simp only[toD]at e;exact t (F0.of h) r d e
 ·intro a vs xs h _ r d e;simp only[toD]at e;exact t (.inr h) r d e
 ·intro a vs xs h _ r d e;simp only[toD]at e;exact t (mW h) r d e
 ·intro a vs xs h _ _ _ d e;simp only[toD]at e;cases e
 ·intro a vs xs h _ _ _ d e;simp only[toD]at e;cases e
 ·intro a dx c f fs h _ _ _ d e;simp only[toD]at e;cases e
 ·intro d e;simp only[fG]at e;cases e;exact .nil
 ·intro v p vs ps _ _ h t d e
  simp only[fG]at e;cases q:toD p with
  |none=>rw[q]at e;cases e
  |some d=>
   cases q2:fG ps with
   |none=>rw[q,q2]at e;cases e
   |some ds=>rw[q,q2]at e;cases e;exact .cons (h _ q) (t _ q2)
def Rep.dt{p:PV}{d:PyData}(h:Rep C A H v p)(e:toD p=some d):Dt C.K H v d:=Rep.dt2.1 h d e
def DO.dt{C:MC}{A:se}{H:Hp}{v:V}{p:PV}{d:PyData}(h:DO C A H v p)(e:toD p=some d):Dt C.K H v d:=by
 rcases h with h|⟨a,rfl,t⟩
 ·exact h.dt e
 ·cases p with
  |lst xs=>
   obtain⟨vs,q,r⟩:=t;exact(Rep.lst (A:=λ_=>True) q ii (r.ex (bf λ_ _ _ _=>ii))).dt e
  |dK kvs=>simp only[toD]at e;cases e
  |dT kvs=>simp only[toD]at e;cases e
  |obj c fs=>simp only[toD]at e;cases e
  |_=>exact t.elim
def Al{u:V}{p q:PV}{k:Bool}(h:DO C A H v p)(h':DO C A H u q)(e:TL p q=some k):J_ v u=true/\decide (v=u)=k:=by
 unfold TL at e;split at e
 ·unfold eqN at e
  split at e<;>cases e
  ·rw[h.DS,h'.DS];exact⟨rfl,rfl⟩
  ·rw[h.DS,h'.int];exact⟨rfl,rfl⟩
  ·rw[h.DS,h'.bl];exact⟨rfl,rfl⟩
  ·rw[h.DS,h'.str];exact⟨rfl,rfl⟩
 ·unfold eqI at e
  split at e<;>cases e
  ·rw[h.int,h'.DS];exact⟨rfl,rfl⟩
  ·rw[h.int,h'.int];exact⟨rfl,by simp⟩
  ·rw[h.int,h'.str];exact⟨rfl,rfl⟩
 ·unfold eqB at e
  split at e<;>cases e
  ·rw[h.bl,h'.DS];exact⟨rfl,rfl⟩
  ·rw[h.bl,h'.bl];exact⟨rfl,by simp⟩
  ·rw[h.bl,h'.str];exact⟨rfl,rfl⟩
 ·unfold eqT at e
  split at e<;>cases e
  ·rw[h.str,h'.DS];exact⟨rfl,rfl⟩
  ·rw[h.str,h'.int];exact⟨rfl,rfl⟩
  ·rw[h.str,h'.bl];exact⟨rfl,rfl⟩
  ·rw[h.str,h'.str];exact⟨rfl,by simp⟩
 ·cases e
def Rx(K:W.Frag):R2:=λx y H Q=>rEq x y H Q\/∃d e,Dt K H x d/\Dt K H y e/\SeqAt.shaped d=true/\SeqAt.shaped e=true/\Q (.bl (PyData.eqv d e)) H
def Ry(K:W.Frag):R2:=λx y H Q=>rNe x y H Q\/∃d e,Dt K H x d/\Dt K H y e/\SeqAt.shaped d=true/\SeqAt.shaped e=true/\Q (.bl (!PyData.eqv d e)) H
section
variable {b:BX}
set_option tactic.hygienic true in def U3:NF b .val (Rx b.C.K) eqQ:=by
 intro Ow H F J p1 p2 p Q I n j e k;unfold eqQ JJ at e;cases q:TL p1 p2 with
 |some c=>
  rw[q]at e;cases e;obtain⟨h1,h2⟩:=Al n j q;exact .inl ⟨h1,by rw[h2];exact k _ H (DH.refl _) (.bl c)⟩
 |none=>
  rw[q]at e;simp only[Sm]at e;cases q1:toD p1 with
  |none=>rw[q1]at e;cases e
  |some d=>
   cases q2:toD p2 with
   |none=>rw[q1,q2]at e;cases e
   |some d'=>
    rw[q1,q2]at e;simp only at e;split at e
    ·rename_i B
     cases e;exact .inr ⟨d,d',n.dt q1,j.dt q2,B.1,B.2,k _ H (DH.refl _) (.bl _)⟩
    ·cases e
set_option tactic.hygienic true in def U4:NF b .val (Ry b.C.K) Xx:=by
 intro Ow H F J p1 p2 p Q I n j e k;unfold Xx JJ at e;cases q:TL p1 p2 with
 |some c=>
  rw[q]at e;cases e;obtain⟨h1,h2⟩:=Al n j q;exact .inl ⟨h1,by rw[h2];exact k _ H (DH.refl _) (.bl _)⟩
 |none=>
  rw[q]at e;simp only[Sm]at e;cases q1:toD p1 with
  |none=>rw[q1]at e;cases e
  |some d=>
   cases q2:toD p2 with
   |none=>rw[q1,q2]at e;cases e
   |some d'=>
    rw[q1,q2]at e;simp only at e;split at e
    ·rename_i B
     cases e;exact .inr ⟨d,d',n.dt q1,j.dt q2,B.1,B.2,k _ H (DH.refl _) (.bl _)⟩
    ·cases e
end
@[simp] noncomputable def keyOf:PV->Option Key
 |.int i=>some (.inl i)
 |.str x=>some (.inr x)
 |_=>none
@[simp] noncomputable def FW:PV->Option DF
 |.int i=>some (.k (.inl i))
 |.str x=>some (.k (.inr x))
 |_=>none
@[simp] noncomputable def uN(f:PV->Option DF):List PV->Option (List DF)
 |[]=>some []
 |x::xs=>(f x).bind λk=>(uN f xs).bind λks=>some (k::ks)
@[simp] noncomputable def jy(f:PV->Option DF):List PV->Option (List DF)
 |[.str x,.bl b]=>some [.k (.inr x),.k (.inl (if b=true then 1 else 0))]
 |xs=>uN f xs
@[simp] noncomputable def FZ(f:PV->Option DF):PV->Option DF
 |.tup xs=>(jy f xs).map .tp
 |.ktp xs=>(jy f xs).map .tp
 |x=>FW x
@[simp] noncomputable def EG(xs:sv):Option (List DF):=jy (FZ (FZ FW)) xs
@[simp] noncomputable def iu:PV->Bool
 |.DS=>true
 |.bl _=>true
 |.int _=>true
 |.str _=>true
 |_=>false
noncomputable def Yi:PV->PV->Bool
 |.DS,.DS=>true
 |.bl a,.bl b=>a == b
 |.bl a,.int b=>(if a then 1 else 0) == b
 |.int a,.bl b=>a == (if b then 1 else 0)
 |.int a,.int b=>a == b
 |.str a,.str b=>a == b
 |_,_=>false
noncomputable def aV{κ:Type}[DecidableEq κ](kvs:List (κ×PV))(k:κ):Option PV:=(kvs.find? λx=>decide (x.1=k)).map (·.2)
def xj{p:PV}{k:DF}(r:Rep C A H v p)(e:FW p=some k):∃x,k=.k x/\v=kV x:=by
 cases r with
 |int i=>cases e;exact⟨_,rfl,rfl⟩
 |str x=>cases e;exact⟨_,rfl,rfl⟩
 |_=>cases e
theorem DW{C:MC}{A:se}{H:Hp}{f:PV->Option DF}{R:DF->V->Prop}(n:∀v p k,Rep C A H v p->f p=some k->R k v):∀{vs:sx}{ps:sv}{ks:List DF},DI C A H vs ps->uN f ps=some ks->Paired R ks vs
 |_,_,_,.nil,e=>by cases e;exact .nil
 |_,_,_,.cons (p:=p) (ps:=ps) h t,e=>by
  unfold uN at e;obtain⟨k,q,e⟩:=ai.mp e;obtain⟨ks,j,e⟩:=ai.mp e;cases e;exact .cons (n _ _ _ h q) (DW n t j)
def t7{f:PV->Option DF}{R:DF->V->Prop}(j:∀v p k,Rep C A H v p->f p=some k->R k v){ps:sv}{ks:List DF}(r:DI C A H vs ps)(e:jy f ps=some ks):Paired R ks vs\/KB ks vs:=by
 unfold jy at e;split at e
 ·cases e
  cases r with
  |cons h1 t=>cases t with
   |cons h2 t=>cases t;cases h1;cases h2;exact .inr ⟨_,_,rfl,rfl⟩
 ·exact .inl (DW j r e)
def DX{f:PV->Option DF}{d:Nat}(n:∀v p k,Rep C A H v p->f p=some k->NV C.K H d k v)(v:V)(p:PV)(k:DF)(r:Rep C A H v p)(e:FZ f p=some k):NV C.K H (d+1) k v:=by
 cases r with
 |tup h q=>
  obtain⟨ks,j,e⟩:=ba.mp (show(jy f _).map DF.tp=some k from e);exact .inr ⟨ks,_,_,e.symm,rfl,.inl h,t7 n q j⟩
 |GN h q=>
  obtain⟨ks,j,e⟩:=ba.mp (show(jy f _).map DF.tp=some k from e);exact .inr ⟨ks,_,_,e.symm,rfl,.inr h,t7 n q j⟩
 |tupK h q=>
  obtain⟨ks,j,e⟩:=ba.mp (show(jy f _).map DF.tp=some k from e);refine .inr ⟨ks,_,_,e.symm,rfl,.inr ?_,t7 n q j⟩;rcases h with(h|⟨o,h⟩)|h
  ·cases h
  ·cases h
  ·exact h
 |int i=>exact .inl (xj (Rep.int (C:=C) (A:=A) (H:=H) i) e)
 |str x=>exact .inl (xj (Rep.str (C:=C) (A:=A) (H:=H) x) e)
 |_=>cases e
def DI.EG{C:MC}{A:se}{H:Hp}{vs:sx}{ps:sv}{ks:List DF}(r:DI C A H vs ps)(e:EG ps=some ks):MH C.K H ks vs:=
 t7 (DX (d:=1) (DX (d:=0) λv p k r e=>show ∃x,k=.k x/\v=kV x from xj r e)) r e
def DO.key{p:PV}{k:Key}(h:DO C A H v p)(e:keyOf p=some k):v=kV k:=by
 unfold keyOf at e;split at e
 ·cases e;exact h.int
 ·cases e;exact h.str
 ·cases e
def DO.flat{p:PV}(h:DO C A H v p)(e:iu p=true):jw v=true:=by
 unfold iu at e;split at e
 ·rw[h.DS];rfl
 ·rw[h.bl];rfl
 ·rw[h.int];rfl
 ·rw[h.str];rfl
 ·cases e
noncomputable def fV:PV->V
 |.bl b=>.bl b
 |.int i=>.int i
 |.str x=>.str x
 |_=>.DS
def DO.fV{C:MC}{A:se}{H:Hp}{v:V}{p:PV}(h:DO C A H v p)(e:iu p=true):v=fV p:=by
 cases p with
 |DS=>exact h.DS
 |bl b=>exact h.bl
 |int i=>exact h.int
 |str x=>exact h.str
 |_=>cases e
def U5(p q:PV)(n:iu p=true)(j:iu q=true):L2.Xp (fV p) (fV q)=Yi p q:=by
 cases p<;>cases q<;>first|rfl|(cases n;done)|(cases j;done)
theorem DI.flat{C:MC}{A:se}{H:Hp}{v:V}{p:PV}(h:DO C A H v p)(e:iu p=true):∀{vs:sx}{ps:sv},DI C A H vs ps->ps.all iu=true->vs.all jw=true/\inV v vs=ps.any λy=>Yi y p
 |_,_,.nil,_=>⟨rfl,rfl⟩
 |_,_,.cons (v:=v') (p:=p') (vs:=vs) (ps:=ps) q t,e'=>by
  rw[iN,cb]at e';obtain⟨h1,h2⟩:=DI.flat h e t e'.2;have n:jw v'=true:=DO.flat (.inl q) e'.1;refine⟨by rw[iN,n,h1];rfl,?_⟩;unfold inV at h2 ⊢;rw[ft,ft,h2];have B:=h.fV e;have j:=DO.fV (.inl q) e'.1;rw[B,j,U5 _ _ e'.1 e]
section
variable {X:Cx}
def Iu(F:X.A.units+9<cLine):F3 X (compareOp .NotIn) (λx y H Q=>∃a o,y=.ref a/\EN X.K H a x o/\Q (.bl (!o.isSome)) H):=by
 intro DE s EK H x y v u Q I B j h;obtain⟨a,o,rfl,g,q⟩:=h;obtain rfl:u=Value.ref a:=j;exact DG F I g B λJ n=>⟨.bl (!o.isSome),H,n,rfl,q⟩
end
@[simp] noncomputable def iG:PV->Bool
 |.DS=>true
 |_=>false
noncomputable def OT(x y:PV):Option PV:=match y with
 |.DS=>some (.bl (iG x))
 |_=>none
@[simp] def Wm(x y:PV):OT x y=(match y with
 |.DS=>some (.bl (iG x))
 |_=>none):=id rfl
noncomputable def gf(x y:PV):Option PV:=match y with
 |.DS=>some (.bl (!iG x))
 |_=>none
@[simp] def Vm(x y:PV):gf x y=(match y with
 |.DS=>some (.bl (!iG x))
 |_=>none):=id rfl
def DO.OT{p:PV}(h:DO C A H v p):decide (v=.DS)=iG p:=by
 cases p with
 |DS=>rw[h.DS];rfl
 |bl b=>rw[h.bl];rfl
 |int b=>rw[h.int];rfl
 |str b=>rw[h.str];rfl
 |lst b=>obtain⟨a,_,rfl,_⟩:=h.lst;rfl
 |frz b=>obtain⟨a,_,rfl,_⟩:=h.frz;rfl
 |tup b=>obtain⟨a,_,rfl,_⟩:=h.tup;rfl
 |ktp b=>obtain⟨a,_,rfl,_⟩:=h.ktp;rfl
 |dK b=>obtain⟨a,_,rfl,_⟩:=h.dK;rfl
 |dT b=>obtain⟨a,_,rfl,_⟩:=h.dT;rfl
 |obj c b=>obtain⟨a,_,_,rfl,_⟩:=h.obj;rfl
section
variable {b:BX}
def Rz:NF b .val (λx y H Q=>y=.DS/\Q (.bl (decide (x=.DS))) H) OT:=by
 intro Ow H q F p1 p2 p Q B n j e k;cases p2 with
 |DS=>
  simp only[OT]at e;cases e;exact⟨j.DS,by rw[n.OT];exact k _ H (DH.refl _) (.bl _)⟩
 |_=>simp only[OT]at e;cases e
def Iv:NF b .val (λx y H Q=>y=.DS/\Q (.bl (!decide (x=.DS))) H) gf:=by
 intro Ow H q F p1 p2 p Q B n j e k;cases p2 with
 |DS=>
  simp only[gf]at e;cases e;exact⟨j.DS,by rw[n.OT];exact k _ H (DH.refl _) (.bl _)⟩
 |_=>simp only[gf]at e;cases e
end
section
variable {X:Cx}{b:BX}{G:oT}{m:Md}{e e1 e2 e3:Expr}{f f1 f2 f3:sf}{pos:Pos}{m1 m2 m3:Md}
structure SC(X:Cx)(b:BX)(G:oT)(op:CmpOp)(e1 e2:Expr)(f:sf):Prop where
 pe:∀pos,SE X b G .val (.Compare e1 [op] [e2] pos) f
 pt:∀pos,ST X b G (.Compare e1 [op] [e2] pos) (tV f)
def iW{op:CmpOp}{r:R2}{g:ss}(B:F3 X (compareOp op) r)(F:NF b .val r g)(h1:SE X b G m1 e1 f1)(h2:SE X b G m2 e2 f2)(n:behindInMarks op e2=false):SC X b G op e1 e2 (b2 g f1 f2):=by
 refine⟨λpos=>PE.imp (Oj B h1.bor h2.bor n) fun EK H Q h=>FQ F h,λpos=>PT.imp (Ol B h1.bor h2.bor n) fun EK H Q h=>?_⟩;obtain⟨Ow,env,c,E,j,k⟩:=h;unfold tV at j;cases q:b2 g f1 f2 env with
 |none=>rw[q]at j;cases j
 |some p=>
  rw[q]at j;refine FQ (Q:=λx H'=>∃k,x=.bl k/\_) F ⟨Ow,env,p,E,q,λv H' s r=>?_⟩;cases p with
  |bl d=>
   cases j;cases r;exact⟨_,rfl,k H' s⟩
  |_=>cases j
def bT{j:Nat}(n:Ee j X.A)(h1:SE X b G m1 e1 f1)(h2:SE X b G m2 e2 f2)(q:autoParam (X.K=b.C.K) r0_):SC X b G .Eq e1 e2 (b2 eqQ f1 f2):=iW (r:=Rx b.C.K) (by rw[←q];exact F3.or Uw (Rg n.units)) U3 h1 h2 (lG _)
def vU{j:Nat}(n:Ee j X.A)(h1:SE X b G m1 e1 f1)(h2:SE X b G m2 e2 f2)(q:autoParam (X.K=b.C.K) r0_):SC X b G .NotEq e1 e2 (b2 Xx f1 f2):=iW (r:=Ry b.C.K) (by rw[←q];exact F3.or Ux (Rh n.units)) U4 h1 h2 (lG _)
def Nm(h1:SE X b G m1 e1 f1)(h2:SE X b G m2 e2 f2):SC X b G .Lt e1 e2 (b2 (mX λi j=>decide (i<j)) f1 f2):=iW Uy Ip h1 h2 (lG _)
def vV(h1:SE X b G m1 e1 f1)(h2:SE X b G m2 e2 f2):SC X b G .Gt e1 e2 (b2 (mX λi j=>decide (j<i)) f1 f2):=iW Uz Ip h1 h2 (lG _)
def t8(h1:SE X b G m1 e1 f1)(h2:SE X b G m2 e2 f2):SC X b G .Is e1 e2 (b2 OT f1 f2):=iW QX Rz h1 h2 (lG _)
def jU(h1:SE X b G m1 e1 f1)(h2:SE X b G m2 e2 f2):SC X b G .IsNot e1 e2 (b2 gf f1 f2):=iW Oi Iv h1 h2 (lG _)
def cV{op:CmpOp}(h:SC X b G op e1 e2 f):SE X b G .val (.Compare e1 [op] [e2] pos) f:=h.pe pos
def aR{op:CmpOp}(h:SC X b G op e1 e2 f):ST X b G (.Compare e1 [op] [e2] pos) (tV f):=h.pt pos
def mY{op}(h:SE X b G m e f):SE X b G m (.BoolOp op [e] pos) f:=Ht h
def pL{rest:rh}(h1:SE X b G .val e1 f1)(h2:SE X b G .val (.BoolOp .And (e2::rest) pos) f2):SE X b G .val (.BoolOp .And (e1::e2::rest) pos) (qx f1 f2):=
 PE.imp (QG h1 h2)<|by
  rintro EK H Q ⟨Ow,env,p,E,j,k⟩;unfold qx at j;cases q1:f1 env with
  |none=>rw[q1]at j;cases j
  |some p1=>
   rw[q1]at j;refine⟨Ow,env,p1,E,q1,λB H1 n q=>?_⟩;cases p1 with
   |bl c=>
    cases q;refine⟨c,rfl,?_⟩;cases c with
    |true=>exact⟨Ow,env,p,E.up n,j,λv H' s r=>k v H' (n.trans s) r⟩
    |false=>cases j;exact k _ H1 n (.bl false)
   |_=>cases j
def Np{rest:rh}(h1:SE X b G .val e1 f1)(h2:SE X b G .val (.BoolOp .Or (e2::rest) pos) f2):SE X b G .val (.BoolOp .Or (e1::e2::rest) pos) (bOr f1 f2):=
 PE.imp (Nb h1 h2)<|by
  rintro EK H Q ⟨Ow,env,p,E,j,k⟩;unfold bOr at j;cases q1:f1 env with
  |none=>rw[q1]at j;cases j
  |some p1=>
   rw[q1]at j;refine⟨Ow,env,p1,E,q1,λB H1 n q=>?_⟩;cases p1 with
   |bl c=>
    cases q;refine⟨c,rfl,?_⟩;cases c with
    |false=>exact⟨Ow,env,p,E.up n,j,λv H' s r=>k v H' (n.trans s) r⟩
    |true=>cases j;exact k _ H1 n (.bl true)
   |_=>cases j
@[simp] noncomputable def xm:PV->Option PV
 |.int i=>some (.int (-i))
 |_=>none
def vW(h1:SE X b G m e1 f1):SE X b G .val (.UnaryOp .USub e1 pos) (b1 xm f1):=
 PE.imp (Uv QW h1.bor) fun EK H Q h=>FT (r:=rU λi=>.int (-i)) (λOw H n p1 p Q q j e k=>by
  cases p1<;>simp only[xm]at e<;>cases e;exact⟨_,j.int,k _ H (DH.refl _) (.int _)⟩) h
def iM(h:SE X b G .val e f)(q:autoParam (∀j,isTrue e X.env j=(do let v ←j;standAt e.pos;holding [v] (truthy v))) r5_):ST X b G e (tV f):=
 PT.imp (vC h q)<|by
  rintro EK H Q ⟨Ow,env,c,E,n,k⟩;unfold tV at n;cases q1:f env with
  |none=>rw[q1]at n;cases n
  |some p1=>
   rw[q1]at n;refine⟨Ow,env,p1,E,q1,λI H1 F B=>?_⟩;cases p1 with
   |bl d=>cases B;cases n;exact⟨_,rfl,k H1 F⟩
   |_=>cases n
def sE{g:si}(h:ST X b G e g):ST X b G (.UnaryOp .Not e pos) (tN g):=
 PT.imp (Hs h)<|by
  rintro EK H Q ⟨Ow,env,c,E,j,k⟩;unfold tN at j;cases q1:g env with
  |none=>rw[q1]at j;cases j
  |some p1=>rw[q1]at j;cases j;exact⟨Ow,env,p1,E,q1,λH' s=>k H' s⟩
abbrev SW(X:Cx)(b:BX)(G:oT)(e:Expr)(g:si):Prop:=PW X e (Xv b G g)
def PW.imp{t u:TT}(h:PW X e t)(i:∀ EK H Q,u EK H Q->t EK H Q):PW X e u:=λj DE s EK H Q I q=>h j DE s EK H Q I (i EK H Q q)
variable {g1 g2:si}
def dR(h:ST X b G e g1):SW X b G (.BoolOp .And [e] pos) g1:=Du h
def Iw(h:ST X b G e g1):SW X b G (.BoolOp .Or [e] pos) g1:=Hq h
def eQ{rest:rh}(h1:ST X b G e1 g1)(h2:SW X b G (.BoolOp .And (e2::rest) pos) g2):SW X b G (.BoolOp .And (e1::e2::rest) pos) (tA g1 g2):=
 PW.imp (Hr h1 h2)<|by
  rintro EK H Q ⟨Ow,env,c,E,j,k⟩;unfold tA at j;cases q1:g1 env with
  |none=>rw[q1]at j;cases j
  |some p1=>
   rw[q1]at j;refine⟨Ow,env,p1,E,q1,λH1 n=>?_⟩;cases p1 with
   |true=>exact⟨Ow,env,c,E.up n,j,λH' s=>k H' (n.trans s)⟩
   |false=>cases j;exact k H1 n
def Nq{rest:rh}(h1:ST X b G e1 g1)(h2:SW X b G (.BoolOp .Or (e2::rest) pos) g2):SW X b G (.BoolOp .Or (e1::e2::rest) pos) (tO g1 g2):=
 PW.imp (M_ h1 h2)<|by
  rintro EK H Q ⟨Ow,env,c,E,j,k⟩;unfold tO at j;cases q1:g1 env with
  |none=>rw[q1]at j;cases j
  |some p1=>
   rw[q1]at j;refine⟨Ow,env,p1,E,q1,λH1 n=>?_⟩;cases p1 with
   |false=>exact⟨Ow,env,c,E.up n,j,λH' s=>k H' (n.trans s)⟩
   |true=>cases j;exact k H1 n
def SW.st(h:SW X b G e g1):ST X b G e g1:=h _
def qy{c:Expr}(q:ST X b G c g1)(h1:SE X b G m e1 f1)(h2:SE X b G m e2 f2):SE X b G m (.IfExp c e1 e2 pos) (Xa g1 f1 f2):=
 PE.imp (J6 q h1 h2)<|by
  rintro EK H Q ⟨Ow,env,p,E,j,k⟩;unfold Xa at j;cases q1:g1 env with
  |none=>rw[q1]at j;cases j
  |some c=>
   rw[q1]at j;refine⟨Ow,env,c,E,q1,λH1 n=>?_⟩;cases c with
   |true=>exact⟨Ow,env,p,E.up n,j,λv H' s r=>k v H' (n.trans s) (r.down n)⟩
   |false=>exact⟨Ow,env,p,E.up n,j,λv H' s r=>k v H' (n.trans s) (r.down n)⟩
end
def ArA(b:BX)(Ow:se)(L:Bool)(H:Hp)(a:Addr):Prop:=Bs b Ow a\/(L=true/\∃vs,H a=some (.lst vs))
inductive tMA(b:BX)(G:oT)(L:Bool)(g:sj)(EK:St)(H:Hp)(Q:(List V->Hp->Prop)):Prop
 |mk (Ow:_) (env:_) (ps:_) (h0:ER b Ow G EK env H) (h1:g env=some ps) (h2:∀vs H',DH H H'->DI b.C (ArA b Ow L H') H' vs ps->Q vs H'):tMA b G L g EK H Q
abbrev SA(X:Cx)(b:BX)(G:oT)(L:Bool)(es:rh)(g:sj):Prop:=PA X es (tMA b G L g)
def PA.imp{es:rh}{t u:TA}(h:PA X es t)(i:∀ EK H Q,u EK H Q->t EK H Q):PA X es u:=λpos DE s EK H Q I q=>h pos DE s EK H Q I (i EK H Q q)
variable {r:List V->Hp->VK->Prop}{EK:St}{ro:Bool}
section
variable {X:Cx}{b:BX}{G:oT}{m m1 m2:Md}{L:Bool}{e e1 e2:Expr}{es:rh}{f f1 f2:sf}{g:sj}{pos p:Pos}
def aD:SA X b G L [] aK:=PA.imp aM<|by rintro EK H Q ⟨Ow,env,ps,E,j,k⟩;cases j;exact k [] H (DH.refl _) .nil
def aa(h1:SE X b G .val e f)(h2:SA X b G L es g)(M:autoParam (GB X e es) r0_):SA X b G L (e::es) (ak f g):=
 PA.imp (aB h1 h2 M)<|by
  rintro EK H Q ⟨Ow,env,ps,E,j,k⟩;unfold ak at j;cases q1:f env with
  |none=>rw[q1]at j;cases j
  |some p1=>
   rw[q1]at j;cases q2:g env with
   |none=>rw[q2]at j;cases j
   |some B=>
    rw[q2]at j;cases j;exact⟨Ow,env,p1,E,q1,λv H1 F J=>⟨Ow,env,B,E.up F,q2,λvs H2 n I=>k (v::vs) H2 (F.trans n) (.cons (Rep.ex (λa o h=>⟨λq=>⟨n _ _ h,.inl q⟩,λ_=>n _ _ h⟩) J) I)⟩⟩
noncomputable def bL(f:sf)(env:Env):Option PV:=(f env).bind λp=>match p with|.lst xs=>some (.lst xs)|_=>none
@[simp] def WQ(f:sf)(env:Env):bL f env=((f env).bind λp=>match p with|.lst xs=>some (.lst xs)|_=>none):=id rfl
def Ky(h1:SE X b G m e f)(h2:SA X b G true es g)(U:autoParam (GB X e es) r0_):SA X b G true (e::es) (ak (bL f) g):=
 PA.imp (aB h1.bor h2 U)<|by
  rintro EK H Q ⟨Ow,env,ps,E,j,k⟩;unfold ak bL at j;cases q1:f env with
  |none=>rw[q1]at j;cases j
  |some p1=>
   rw[q1]at j;cases p1 with
   |lst xs=>
    simp only[bE]at j;cases q2:g env with
    |none=>rw[q2]at j;cases j
    |some B=>
     rw[q2]at j;cases j;refine⟨Ow,env,_,E,q1,λv H1 F O=>⟨Ow,env,B,E.up F,q2,λvs H2 n M=>k (v::vs) H2 (F.trans n) (.cons ?_ M)⟩⟩;have Y:DO b.C (Bs b Ow) H1 v (.lst xs):=O;obtain⟨a,us,rfl,I,J⟩:=Y.lst;exact .lst (n _ _ I) (.inr ⟨rfl,us,n _ _ I⟩) (J.ex λa o h=>⟨λq=>⟨n _ _ h,.inl q⟩,λ_=>n _ _ h⟩)
   |_=>cases j
def vX{b:BX}{ps:sv}(h:DI b.C (ArA b Ow false H) H vs ps):DI b.C (Bs b Ow) H vs ps:=h.ex (bf λa o _ q=>q.elim id λz=>by cases z.1)
set_option tactic.hygienic true in def dG(h:SA X b G false es g):SE X b G .own (.List es pos) (fQ g):=PE.imp (ju h)<|by
 rintro EK H Q ⟨Ow,env,p,E,j,k⟩;unfold fQ at j;cases q1:g env with
 |none=>rw[q1]at j;cases j
 |some ps=>
  rw[q1]at j;simp only[bE]at j;split at j
  ·rename_i F
   cases j;refine⟨Ow,env,ps,E,q1,λvs H1 B r=>⟨gn (by rw[r.length];exact F),λq n=>k _ _ (B.trans (aG n _)) (Res.down B (eE n (vX r)))⟩⟩
  ·cases j
set_option tactic.hygienic true in def bw{x1}(h:SA X b G false es g):SE X b G .val (.Tuple es x1 pos) (bQ g):=PE.imp (jt h)<|by
 rintro EK H Q ⟨Ow,env,p,E,j,k⟩;unfold bQ at j;cases q1:g env with
 |none=>rw[q1]at j;cases j
 |some ps=>
  rw[q1]at j;simp only[bE]at j;split at j
  ·rename_i F
   cases j;refine⟨Ow,env,ps,E,q1,λvs H1 B r=>⟨gn (by rw[r.length];exact F),λq n=>k _ _ (B.trans (aG n _)) (pK n (vX r))⟩⟩
  ·cases j
def F_:SE X b G .own (.Dict [] [] pos) (bC (.dK [])):=PE.imp zZ<|by
 rintro EK H Q ⟨Ow,env,p,E,n,k⟩ q j;cases n;exact k _ _ (aG j _) ⟨q,rfl,j,[],aq,.nil⟩
def Nr:SE X b G .own (.Dict [] [] pos) (bC (.dT [])):=PE.imp z9<|by
 rintro EK H Q ⟨Ow,env,p,E,n,k⟩ q j;cases n;exact k _ _ (aG j _) ⟨q,rfl,j,[],aq,.nil⟩
@[simp] noncomputable def D6:PV->PV->Option PV
 |.lst xs,.int i=>Fm xs i
 |.frz xs,.int i=>Fm xs i
 |.tup xs,.int i=>Fm xs i
 |.ktp xs,.int i=>Fm xs i
 |.str x,.int i=>if x.length<=1000000 then(Fm x.cps.toList i).map λc=>.str ⟨#[c]⟩else none
 |.dK kvs,y=>(keyOf y).bind λk=>aV kvs k
 |.dT kvs,.tup ys=>(EG ys).bind λk=>aV kvs k
 |_,_=>none
def DI.Fm{C:MC}{A:se}{H:Hp}{vs:sx}{ps:sv}{i:Int}{p:PV}(h:DI C A H vs ps)(e:Fm ps i=some p):∃v,L2.Fm vs i=some v/\Rep C A H v p:=by
 unfold L2.Fm at e ⊢;rw[h.length];cases q:OL ps.length i with
 |none=>rw[q]at e;cases e
 |some j=>rw[q]at e;exact h.get e
set_option tactic.hygienic true in def aH{j:Nat}(hr:Ee j X.A)(h1:SE X b G m1 e1 f1)(h2:SE X b G m2 e2 f2)(hs:autoParam (DQ e2) r9_)(L4:autoParam (Kf e2) r9_)(hK:autoParam (X.K=b.C.K) r0_):SE X b G .val (.Subscript e1 e2 pos) (b2 D6 f1 f2):=by
 refine PE.imp (PE.or (tU (r:=rIx b.C.K) (by rw[←hK];exact Q9) h1.bor h2.bor hs) (tR (d7 hr) h1.bor h2.bor L4)) fun EK H Q h=>?_
 obtain⟨Ow,env,p,E,n,k⟩:=h;unfold b2 at n;cases q1:f1 env with
 |none=>rw[q1]at n;cases n
 |some p1=>
  rw[q1]at n;cases q2:f2 env with
  |none=>rw[q2]at n;cases n
  |some p2=>
   rw[q2]at n;simp only[bE]at n;have step:∀(R:V->V->Hp->VK->Prop),(∀H2 J I,DO b.C (Bs b Ow) H2 J p1->DO b.C (Bs b Ow) H2 I p2->DH H H2->R J I H2 Q)->tM b G .bor f1 EK H λx H1=>tM b G .bor f2 EK H1 λy H2=>R x y H2 Q:=λR hR=>
    ⟨Ow,env,p1,E,q1,λJ H1 Z B=>⟨Ow,env,p2,E.up Z,q2,λI H2 s2 q=>hR H2 J I (Res.up (m:=.bor) B s2) q (Z.trans s2)⟩⟩
   unfold D6 at n;split at n
   ·refine .inl (step _ λH2 J I B q s=>?_)
    obtain⟨a,vs,rfl,O,M⟩:=B.lst;obtain⟨v,U,F⟩:=M.Fm n;rw[q.int];exact .inl ⟨a,vs,_,v,rfl,rfl,EJ.of O,U,k v H2 s F⟩
   ·refine .inl (step _ λH2 J I B q s=>?_)
    obtain⟨a,vs,rfl,O,M⟩:=B.frz;obtain⟨v,U,F⟩:=M.Fm n;rw[q.int];exact .inl ⟨a,vs,_,v,rfl,rfl,O,U,k v H2 s F⟩
   ·refine .inl (step _ λH2 J I B q s=>?_)
    obtain⟨a,vs,rfl,O,M⟩:=B.tup;obtain⟨v,U,F⟩:=M.Fm n;rw[q.int];exact .inr (.inl ⟨a,vs,_,v,rfl,rfl,O.sq,U,k v H2 s F⟩)
   ·refine .inl (step _ λH2 J I B q s=>?_)
    obtain⟨a,vs,rfl,O,M⟩:=B.ktp;obtain⟨v,U,F⟩:=M.Fm n;rw[q.int];exact .inr (.inl ⟨a,vs,_,v,rfl,rfl,O,U,k v H2 s F⟩)
   ·split at n
    ·rename_i x i hx
     cases q3:Fm x.cps.toList i with
     |none=>rw[q3]at n;cases n
     |some c=>
      rw[q3]at n;cases n;refine .inl (step _ λH2 J I B q s=>?_);rw[B.str,q.int];exact .inr (.inr ⟨x,i,c,rfl,rfl,gn hx,q3,k _ H2 s (.str _)⟩)
    ·cases n
   ·rename_i kvs
    cases q3:keyOf p2 with
    |none=>rw[q3]at n;cases n
    |some Y=>
     rw[q3]at n;simp only[bE]at n;refine .inr (step (λx y H2 Q=>∃a v,x=.ref a/\EN X.K H2 a y (some v)/\Q v H2) λH2 J I B q s=>?_);obtain⟨a,kv,rfl,O,M⟩:=B.dK;rw[q.key q3];unfold aV at n;rcases D9.val (k:=Y) M with⟨v,p',h1,h2,F⟩|⟨h1,h2⟩
     ·rw[h2]at n
      cases n;exact⟨a,v,rfl,by rw[←h1];exact EN.k O,k v H2 s F⟩
     ·rw[h2]at n;cases n
   ·rename_i kvs ys
    cases q3:EG ys with
    |none=>rw[q3]at n;cases n
    |some Y=>
     rw[q3]at n;simp only[bE]at n;refine .inr (step (λx y H2 Q=>∃a v,x=.ref a/\EN X.K H2 a y (some v)/\Q v H2) λH2 J I B q s=>?_);obtain⟨a,kv,rfl,O,M⟩:=B.dT;obtain⟨c,vs,rfl,hc,rc⟩:=q.tup;unfold aV at n;rcases D7.val (k:=Y) M with⟨v,p',h1,h2,F⟩|⟨h1,h2⟩
     ·rw[h2]at n
      cases n;exact⟨a,v,rfl,by rw[←h1,hK];exact EN.t O (hc.key (rc.EG q3)),k v H2 s F⟩
     ·rw[h2]at n;cases n
   ·cases n
noncomputable def gH(xs:sv)(lo hi:Option Int):List PV:=(xs.drop (HT.EA xs.length 0 lo)).take (HT.EA xs.length xs.length hi - HT.EA xs.length 0 lo)
def DI.cut{ps:sv}(h:DI C A H vs ps)(lo hi:Option Int):DI C A H (rW vs lo hi) (gH ps lo hi):=by
 unfold rW gH;rw[h.length];exact(h.drop _).take _
noncomputable def oN(env:Env):Option (Option Int):=some none
@[simp] def WW(env:Env):oN env=(some none):=id rfl
noncomputable def oS(f:sf)(env:Env):Option (Option Int):=(f env).bind λp=>match p with|.int i=>some (some i)|_=>none
@[simp] def WX(f:sf)(env:Env):oS f env=((f env).bind λp=>match p with|.int i=>some (some i)|_=>none):=id rfl
inductive tMO(b:BX)(G:oT)(f:Env->Option (Option Int))(EK:St)(H:Hp)(Q:(Option Int->Hp->Prop)):Prop
 |mk (Ow:_) (env:_) (o:_) (h0:ER b Ow G EK env H) (h1:f env=some o) (h2:∀H',DH H H'->Q o H'):tMO b G f EK H Q
def PO.imp{x:Option Expr}{t u:TO}(h:PO X x t)(i:∀ EK H Q,u EK H Q->t EK H Q):PO X x u:=by
 intro DE s EK H Q I q;exact h DE s EK H Q I (i EK H Q q)
abbrev SO(X:Cx)(b:BX)(G:oT)(e:Option Expr)(f:Env->Option (Option Int)):Prop:=PO X e (tMO b G f)
def xn:SO X b G none oN:=PO.imp Oz<|by rintro EK H Q ⟨Ow,env,o,E,j,k⟩;cases j;exact k H (DH.refl _)
def jV(h:SE X b G m e f):SO X b G (some e) (oS f):=PO.imp (OJ h.bor)<|by
 rintro EK H Q ⟨Ow,env,o,E,j,k⟩;unfold oS at j;cases q1:f env with
 |none=>rw[q1]at j;cases j
 |some p1=>
  rw[q1]at j;refine⟨Ow,env,p1,E,q1,λv H1 B q=>?_⟩;have n:DO b.C (Bs b Ow) H1 v p1:=q;cases p1<;>simp only[bE]at j<;>cases j;exact⟨_,n.int,k H1 B⟩
noncomputable def YU(f:sf)(lo hi:Env->Option (Option Int))(env:Env):Option PV:=(f env).bind λx=>(lo env).bind λl=>(hi env).bind λh=>match x with
 |.lst xs=>some (.lst (gH xs l h))
 |.frz xs=>some (.lst (gH xs l h))
 |.str x=>if x.length<=1000000 then some (.str (sy x l h))else none
 |_=>none
@[simp] def Wn(f:sf)(lo hi:Env->Option (Option Int))(env:Env):YU f lo hi env=((f env).bind λx=>(lo env).bind λl=>(hi env).bind λh=>match x with
 |.lst xs=>some (.lst (gH xs l h))
 |.frz xs=>some (.lst (gH xs l h))
 |.str x=>if x.length<=1000000 then some (.str (sy x l h))else none
 |_=>none):=id rfl
set_option tactic.hygienic true in def zj{lo hi:Option Expr}{p2:Pos}{J U:Env->Option (Option Int)}(h1:SE X b G m e f)(hl:SO X b G lo J)(Z:SO X b G hi U)(hK:autoParam (X.K=b.C.K) r0_):SE X b G .val (.Subscript e (.Slice lo hi none p2) pos) (YU f J U):=by
 refine PE.imp (Aa (r:=Rm b.C.K) (by rw[←hK];exact Rn) h1.bor hl Z) fun EK H Q ⟨Ow,env,p,E,hf,k⟩=>?_
 unfold YU at hf;cases q1:f env with
 |none=>rw[q1]at hf;cases hf
 |some p1=>
  rw[q1]at hf;cases q2:J env with
  |none=>rw[q2]at hf;cases hf
  |some l=>
   rw[q2]at hf;cases q3:U env with
   |none=>rw[q3]at hf;cases hf
   |some h=>
    rw[q3]at hf;refine⟨Ow,env,p1,E,q1,λv H1 j r1=>⟨Ow,env,l,E.up j,q2,λH2 n=>⟨Ow,env,h,E.up (j.trans n),q3,λY B=>?_⟩⟩⟩;have M:DO b.C (Bs b Ow) Y v p1:=Res.up (m:=.bor) r1 (n.trans B);cases p1<;>simp only[bE]at hf
    case lst xs=>
     cases hf;obtain⟨a,vs,rfl,O,I⟩:=M.lst;exact .inl ⟨a,vs,rfl,EJ.of O,λq F=>k _ _ (j.trans (n.trans (B.trans (aG F _)))) (Res.val (m:=.own) E (λz=>nomatch z) (Res.down (j.trans (n.trans B)) (eE F (I.cut l h))))⟩
    case frz xs=>
     cases hf;obtain⟨a,vs,rfl,O,I⟩:=M.frz;exact .inl ⟨a,vs,rfl,O,λq F=>k _ _ (j.trans (n.trans (B.trans (aG F _)))) (Res.val (m:=.own) E (λz=>nomatch z) (Res.down (j.trans (n.trans B)) (eE F (I.cut l h))))⟩
    case str x=>
     split at hf
     ·rename_i hx
      cases hf;exact .inr ⟨x,M.str,gn hx,k _ _ (j.trans (n.trans B)) (.str _)⟩
     ·cases hf
    all_goals cases hf
def RB{id:String}{x:Str}{g:PV->Option PV}(F:EE X (.builtin id) r)(B:Op1 b m (λv H Q=>r [v] H Q) g)(J:X.mg x=none)(n:bootBuiltins x=some (.builtin id))(h:SE X b G m1 e f)
  (q:autoParam (Gl X x) r0_) (I:x ≠ "__name__" := by decide) (M:autoParam (GG x) r1_) (j:autoParam (GB X e []) r0_):
  SE X b G m (.Call (.Name x p) [e] [] pos) (b1 g f):=
 PE.imp (eX F q J n (aB h.bor aM j) I M j rfl) fun EK H Q h=>FT B h
def pM{id:String}{x:Str}{g:PV->Option PV}(F:EE X (.type id) r)(B:Op1 b m (λv H Q=>r [v] H Q) g)(J:X.mg x=none)(n:bootBuiltins x=some (.type id))(h:SE X b G m1 e f)
  (q:autoParam (Gl X x) r0_) (I:x ≠ "__name__" := by decide) (M:autoParam (GG x) r1_) (j:autoParam (GB X e []) r0_):
  SE X b G m (.Call (.Name x p) [e] [] pos) (b1 g f):=
 PE.imp (rT F q J n (aB h.bor aM j) I M j rfl) fun EK H Q h=>FT B h
@[simp] noncomputable def F6:PV->Option PV
 |.lst xs=>some (.int xs.length)
 |.frz xs=>some (.int xs.length)
 |.tup xs=>some (.int xs.length)
 |.ktp xs=>some (.int xs.length)
 |.str x=>if x.length<=1000000 then some (.int x.length)else none
 |.dK kvs=>some (.int kvs.length)
 |_=>none
theorem D9.length{C:MC}{A:se}{H:Hp}:∀{vs:List (Key×V)}{ps:List (Key×PV)},D9 C A H vs ps->vs.length=ps.length
 |_,_,.nil=>rfl
 |_,_,.cons _ t=>by simp[D9.length t]
set_option tactic.hygienic true in def cW(J:X.mg "len" = none)(h:SE X b G m1 e f)(M:autoParam (X.K=b.C.K) r0_)(B:Gl X "len" := by rfl)(F:autoParam (GB X e []) r0_):SE X b G .val (.Call (.Name "len" p) [e] [] pos) (b1 F6 f):=by
 refine RB (EE.or (EE.or rY Ad) Ik) (λOw H O p1 p Q U q e k=>?_) J kM h B (by decide) (by decide) F;rw[M];cases p1<;>simp only[F6]at e
 case lst xs=>cases e;obtain⟨a,vs,rfl,n,j⟩:=q.lst;exact .inl (.inl ⟨a,vs,rfl,.inl (EJ.of n),by rw[j.length];exact k _ H (DH.refl _) (.int _)⟩)
 case frz xs=>cases e;obtain⟨a,vs,rfl,n,j⟩:=q.frz;exact .inl (.inl ⟨a,vs,rfl,.inl n,by rw[j.length];exact k _ H (DH.refl _) (.int _)⟩)
 case tup xs=>cases e;obtain⟨a,vs,rfl,n,j⟩:=q.tup;exact .inl (.inl ⟨a,vs,rfl,.inr n.sq,by rw[j.length];exact k _ H (DH.refl _) (.int _)⟩)
 case ktp xs=>cases e;obtain⟨a,vs,rfl,n,j⟩:=q.ktp;exact .inl (.inl ⟨a,vs,rfl,.inr n,by rw[j.length];exact k _ H (DH.refl _) (.int _)⟩)
 case str x=>
  split at e
  ·rename_i I
   cases e;rw[q.str];exact .inl (.inr ⟨x,rfl,gn I,k _ H (DH.refl _) (.int _)⟩)
  ·cases e
 case dK kvs=>cases e;obtain⟨a,vs,rfl,n,j⟩:=q.dK;exact .inr ⟨a,vs,rfl,n,by rw[j.length];exact k _ H (DH.refl _) (.int _)⟩
 all_goals cases e
noncomputable def qz:Key->PV
 |.inl i=>.int i
 |.inr x=>.str x
@[simp] noncomputable def vY:PV->Option PV
 |.lst xs=>some (.lst xs)
 |.frz xs=>some (.lst xs)
 |.tup xs=>some (.lst xs)
 |.ktp xs=>some (.lst xs)
 |.dK kvs=>some (.lst (kvs.map λkv=>qz kv.1))
 |_=>none
def Pb(k:Key):Rep C A H (kV k) (qz k):=by cases k with|inl i=>exact .int i|inr x=>exact .str x
theorem D9.keys{C:MC}{A:se}{H:Hp}:∀{vs:List (Key×V)}{ps:List (Key×PV)},D9 C A H vs ps->DI C A H (vs.map λj=>kV j.1) (ps.map λj=>qz j.1)
 |_,_,.nil=>.nil
 |_,_,.cons (k:=k) _ t=>.cons (Pb k) (D9.keys t)
def xq(M:X.mg "list" = none)(h:SE X b G m1 e f)(F:autoParam (X.calm=true) r0_)(O:autoParam (X.K=b.C.K) r0_)(I:Gl X "list" := by rfl)(J:autoParam (GB X e []) r0_):SE X b G .own (.Call (.Name "list" p) [e] [] pos) (b1 vY f):=by
 refine pM (EE.or Ae (xg F)) (λOw H U p1 p Q Y B e k=>?_) M ip h I (by decide) (by decide) J;rw[O];cases p1<;>simp only[vY]at e<;>cases e
 case lst xs=>obtain⟨a,vs,rfl,q,n⟩:=B.lst;exact .inl ⟨a,vs,rfl,.inl (EJ.of q),λl j=>k _ _ (aG j _) (eE j n)⟩
 case frz xs=>obtain⟨a,vs,rfl,q,n⟩:=B.frz;exact .inl ⟨a,vs,rfl,.inl q,λl j=>k _ _ (aG j _) (eE j n)⟩
 case tup xs=>obtain⟨a,vs,rfl,q,n⟩:=B.tup;exact .inl ⟨a,vs,rfl,.inr q.sq,λl j=>k _ _ (aG j _) (eE j n)⟩
 case ktp xs=>obtain⟨a,vs,rfl,q,n⟩:=B.ktp;exact .inl ⟨a,vs,rfl,.inr q,λl j=>k _ _ (aG j _) (eE j n)⟩
 case dK kvs=>obtain⟨a,vs,rfl,q,n⟩:=B.dK;exact .inr ⟨a,vs,rfl,q,λl j=>k _ _ (aG j _) (eE j n.keys)⟩
def YV(C:MC)(A:se)(H:Hp)(ro:Bool)(H':Hp)(v:V)(p:PV):Prop:=match ro with
 |true=>∃a,v=.ref a/\H a=none/\Top C (λc=>(A c\/H c=none)/\c≠a) H' a p
 |false=>Rep C (λc=>A c\/H c=none) H' v p
inductive spN(C:MC)(m:sg)(ro:Bool)(vs:sx)(H:Hp)(Q:VK):Prop
 |mk (A:_) (ps:_) (p:_) (h0:DI C A H vs ps) (h1:m ps=some p) (h2:∀v H',DH H H'->YV C A H ro H' v p->Q v H'):spN C m ro vs H Q
def HA(C:MC)(m:sg)(ro:Bool):Sp:=λvs H Q _=>spN C m ro vs H Q
def Kz:Bool->Md
 |true=>.own
 |false=>.val
def YV.res{env:Env}{H1:Hp}{q:PV}(E:ER b Ow G EK env H)(s:DH H H1)(r:YV b.C (Bs b Ow) H1 ro H' v q):Res b Ow H H' (Kz ro) v q:=by
 cases ro with
 |true=>
  obtain⟨a,rfl,h,t⟩:=r;exact⟨a,rfl,s.free h,t.ex (bf λc o _ z=>⟨z.1.elim id λw=>(E.up s).fresh w,z.2⟩) λo z=>z⟩
 |false=>exact Rep.ex (bf λc o _ z=>z.elim id λw=>(E.up s).fresh w) r
def Pg{k j:Nat}{x:Str}{ps:rj}{F:sg}(c:Oy X.prog X.w X.K X.mg X.base k x ps (HA b.C F ro))(hr:Ee j X.A)(Y:SA X b G false (e::es) g)(B:autoParam (k<=j) r1_)(M:autoParam (Gl X x) r0_)
  (U:autoParam (GG x) r1_) (O:autoParam (GB X e es) r0_) (Z:autoParam (JI X pos es) r0_):
  SE X b G (Kz ro) (.Call (.Name x p) (e::es) [] pos) (bh F g):=by
 refine PE.imp (fC c hr Y B M U O Z) ?_;rintro EK H Q ⟨Ow,env,q,E,n,kk⟩;unfold bh at n;cases q1:g env with
 |none=>rw[q1]at n;cases n
 |some J=>
  rw[q1]at n;refine⟨Ow,env,J,E,q1,λvs H1 I r=>?_⟩;rw[cy];exact⟨Bs b Ow,J,q,vX r,n,λv H' s' rr=>kk v H' (I.trans s') (YV.res E I rr)⟩
mutual
noncomputable def NG:PV->Bool
 |.lst _=>false
 |.tup xs=>xr xs
 |.ktp xs=>xr xs
 |.frz xs=>xr xs
 |.dK kvs=>Ga kvs
 |.dT kvs=>Gb kvs
 |.obj _ fs=>Ge fs
 |_=>true
noncomputable def xr:List PV->Bool
 |[]=>true
 |x::xs=>NG x&&xr xs
noncomputable def Ga:List (Key×PV)->Bool
 |[]=>true
 |x::xs=>NG x.2&&Ga xs
noncomputable def Gb:List (List DF×PV)->Bool
 |[]=>true
 |x::xs=>NG x.2&&Gb xs
noncomputable def Ge:List (Str×PV)->Bool
 |[]=>true
 |x::xs=>NG x.2&&Ge xs
end
def NL(A A':se)(H:Hp):Prop:=∀a o,H a=some o->A a->A' a\/∃vs,o=.lst vs
def Rep.nl5(e:NL A A' H):(∀{v p},Rep C A H v p->NG p=true->Rep C A' H v p)/\(∀{v p},DI C A H v p->xr p=true->DI C A' H v p)/\(∀{v p},D9 C A H v p->Ga p=true->D9 C A' H v p)/\(∀{v p},D7 C A H v p->Gb p=true->D7 C A' H v p)/\(∀{v p},FK C A H v p->Ge p=true->FK C A' H v p):=by
 refine Rep.nd (λ_=>.DS) (λb _=>.bl b) (λb _=>.int b) (λb _=>.str b) ?_ ?_ ?_ ?_ ?_ ?_ ?_ ?_ ?_ (λ_=>.nil) ?_ (λ_=>.nil) ?_ (λ_=>.nil) ?_ (λ_=>.nil) ?_
 ·intro a vs xs h q _ _ n;simp only[NG]at n;cases n
 ·intro a o vs xs h _ r n;simp only[NG]at n;exact .Q2 h (r n)
 ·intro a vs xs h _ r n;simp only[NG]at n;exact .lstK h (r n)
 ·intro a vs xs h _ r n;simp only[NG]at n;exact .tup h (r n)
 ·intro a vs xs h _ r n;simp only[NG]at n;exact .GN h (r n)
 ·intro a vs xs h _ r n;simp only[NG]at n;exact .tupK h (r n)
 ·intro a vs xs h q _ r n;simp only[NG]at n;exact .dK h ((e _ _ h q).elim id λz=>nomatch z.choose_spec) (r n)
 ·intro a vs xs h q _ r n;simp only[NG]at n;exact .dT h ((e _ _ h q).elim id λz=>nomatch z.choose_spec) (r n)
 ·intro a dx c f fs h q _ r n;simp only[NG]at n;exact .obj h ((e _ _ h q).elim id λz=>nomatch z.choose_spec) (r n)
 ·intro v p vs ps _ _ h t n;simp only[xr,cb]at n;exact .cons (h n.1) (t n.2)
 ·intro k v p vs ps _ _ h t n;simp only[Ga,cb]at n;exact .cons (h n.1) (t n.2)
 ·intro k v p vs ps _ _ h t n;simp only[Gb,cb]at n;exact .cons (h n.1) (t n.2)
 ·intro k v p vs ps _ _ h t n;simp only[Ge,cb]at n;exact .cons (h n.1) (t n.2)
def Rep.nl(e:NL A A' H){p:PV}:Rep C A H v p->NG p=true->Rep C A' H v p:=(Rep.nl5 e).1
noncomputable def vZ(mi:sg)(g:sj)(env:Env):Option PV:=((g env).bind mi).bind λp=>if NG p=true then some p else none
@[simp] def Vn(j:sg)(g:sj)(env:Env):vZ j g env=(((g env).bind j).bind λp=>if NG p=true then some p else none):=id rfl
set_option tactic.hygienic true in def KC{k j:Nat}{x:Str}{ps:rj}{J:sg}(c:Oy X.prog X.w X.K X.mg X.base k x ps (HA b.C J false))(hr:Ee j X.A)(B:SA X b G true (e::es) g)(I:autoParam (k<=j) r1_)(U:autoParam (Gl X x) r0_)
  (Z:autoParam (GG x) r1_) (Y:autoParam (GB X e es) r0_) (ES:autoParam (JI X pos es) r0_):
  SE X b G .val (.Call (.Name x p) (e::es) [] pos) (vZ J g):=by
 refine PE.imp (fC c hr B I U Z Y ES) ?_;rintro EK H Q ⟨Ow,env,q,E,n,kk⟩;unfold vZ at n;cases q1:g env with
 |none=>rw[q1]at n;cases n
 |some M=>
  rw[q1]at n;simp only[bE]at n;cases q2:J M with
  |none=>rw[q2]at n;cases n
  |some q'=>
   rw[q2]at n;simp only[bE]at n;split at n
   ·rename_i hl
    cases n;refine⟨Ow,env,M,E,q1,λvs H1 O r=>?_⟩;rw[cy];refine⟨ArA b Ow true H1,M,q,r,q2,λv H' s' rr=>kk v H' (O.trans s') ?_⟩;have F:Rep b.C (λc=>ArA b Ow true H1 c\/H1 c=none) H' v q:=rr;refine F.nl (λa o B z=>?_) hl;rcases z with(z|⟨_,us,z⟩)|z
    ·exact .inl z
    ·have:=s' _ _ z
     rw[this]at B;exact .inr ⟨us,(bq B).symm⟩
    ·exact .inl ((E.up O).fresh z)
   ·cases n
noncomputable def qC(c:Nat)(x:Str)(f:sf)(env:Env):Option PV:=(f env).bind λp=>match p with
 |.obj c' fs=>if c'=c then fs.lookup x else none
 |_=>none
@[simp] def V3(c:Nat)(x:Str)(f:sf)(env:Env):qC c x f env=((f env).bind λp=>match p with
 |.obj j fs=>if j=c then fs.lookup x else none
 |_=>none):=id rfl
set_option tactic.hygienic true in def pN{c:Nat}{x:Str}(I:N4 b.C.K (b.C.cl c))(J:ED b.C.K (b.C.cl c) x)(h:SE X b G m e f)(F:autoParam (Xh X e x) r0_)(hK:autoParam (X.K=b.C.K) r0_):SE X b G .val (.Attribute e x pos) (qC c x f):=
 PE.imp (HR h.bor F)<|by
  rintro EK H Q ⟨Ow,env,p,E,j,k⟩;unfold qC at j;cases q1:f env with
  |none=>rw[q1]at j;cases j
  |some p1=>
   rw[q1]at j;refine⟨Ow,env,p1,E,q1,λv H1 M B=>?_⟩;have Z:DO b.C (Bs b Ow) H1 v p1:=B;cases p1<;>simp only[bE]at j<;>first|cases j|skip
   rename_i c' fs;split at j
   ·rename_i O
    subst O;obtain⟨a,dx,fv,rfl,ha,q⟩:=Z.obj;obtain⟨n,U,Y⟩:=q.look j;rw[hK];exact⟨a,_,dx,fv,n,rfl,ha,I,J,U,k n H1 M Y⟩
   ·cases j
structure Kj(P:Program)(w:World)(K:W.Frag)(mg:rX)(base:Heap)(C:Addr)(k:Nat)(x:Str)(ps:rj)(sp:Sp):Prop where
 ex:∃f fd,EC P w K mg base IP k f fd ps sp/\Binds K fd ps []/\Meth K C x f
noncomputable def t_(c:Nat)(x:Str)(mi:sg)(f:sf)(g:sj)(env:Env):Option PV:=(f env).bind λp=>match p with
 |.obj c' fs=>if c'=c/\fs.lookup x=none then(g env).bind λps=>mi (p::ps)else none
 |_=>none
@[simp] def Vw(c:Nat)(x:Str)(j:sg)(f:sf)(g:sj)(env:Env):t_ c x j f g env=((f env).bind λp=>match p with
 |.obj n fs=>if n=c/\fs.lookup x=none then(g env).bind λps=>j (p::ps)else none
 |_=>none):=id rfl
set_option tactic.hygienic true in def Ph{c k j:Nat}{o:Expr}{fo:sf}{x:Str}{ps:rj}{Y:sg}{apos:Pos}(cM:Kj X.prog X.w X.K X.mg X.base (b.C.cl c) k x ps (HA b.C Y ro))(hc:N4 X.K (b.C.cl c))(hr:Ee j X.A)(ho:SE X b G .val o fo)(ha:SA X b G false (e::es) g)(I:autoParam (k<=j) r1_)
  (L6:autoParam (GB X e es) r0_) (ES:autoParam (JI X pos es) r0_){pl:Sem Bool}
  (ht:eval (.Call (.Attribute o x apos) (e::es) [] pos) X.env=(do
   let ov ←eval o X.env
   standAt apos.atName
   let (f,first) ←holding [ov] (getMethod ov x pl)
   callWith pos f first (backTo pos (starEach (e::es) X.env)) (backToKw pos (keywordEach [] X.env))):=by rfl):
  SE X b G (Kz ro) (.Call (.Attribute o x apos) (e::es) [] pos) (t_ c x Y fo g):=by
 obtain⟨f,fd,F,hb,hM⟩:=cM.ex;refine PE.imp (Dz (pl:=pl) ho hc hM F (hr.mono I) hb .nil vN ha L6 ES ht) ?_;rintro EK H Q ⟨Ow,env,q,E,n,kk⟩;unfold t_ at n;cases q1:fo env with
 |none=>rw[q1]at n;cases n
 |some p1=>
  rw[q1]at n;refine⟨Ow,env,p1,E,q1,λv H1 J r1=>?_⟩;have B:Rep b.C (Bs b Ow) H1 v p1:=r1;cases p1<;>simp only[bE]at n<;>first|cases n|skip
  rename_i c' fs;split at n
  ·rename_i ZS
   obtain⟨rfl,O⟩:=ZS;cases q2:g env with
   |none=>rw[q2]at n;cases n
   |some Z=>
    rw[q2]at n;obtain⟨a,dx,fv,rfl,M,ra⟩:=DO.obj (.inl B);refine⟨a,dx,fv,rfl,M,ra.Yh O,Ow,env,Z,E.up J,q2,λvs H2 U r2=>?_⟩;rw[cy];exact⟨Bs b Ow,_::Z,q,.cons (B.ex (.of_same U)) (vX r2),n,λv' H' s' rr=>kk v' H' (J.trans (U.trans s')) (YV.res E (J.trans U) rr)⟩
  ·cases n
def aO{k j:Nat}{x:Str}{ps:rj}{q:sg}(c:Oy X.prog X.w X.K X.mg X.base k x ps (HA b.C q false))(O:Ee j X.A)(J:SA X b G false (e::es) g)(n:autoParam (k<=j) r1_)(B:autoParam (Gl X x) r0_)
  (F:autoParam (GG x) r1_) (I:autoParam (GB X e es) r0_) (M:autoParam (JI X pos es) r0_):
  SE X b G .val (.Call (.Name x p) (e::es) [] pos) (bh q g):=Pg c O J n B F I M
def Am{c k j:Nat}{o:Expr}{fo:sf}{x:Str}{ps:rj}{q:sg}{apos:Pos}(O:Kj X.prog X.w X.K X.mg X.base (b.C.cl c) k x ps (HA b.C q false))(I:N4 X.K (b.C.cl c))(Y:Ee j X.A)(J:SE X b G .val o fo)(M:SA X b G false (e::es) g)(n:autoParam (k<=j) r1_)
  (B:autoParam (GB X e es) r0_) (U:autoParam (JI X pos es) r0_){pl:Sem Bool}
  (F:eval (.Call (.Attribute o x apos) (e::es) [] pos) X.env=(do
   let ov ←eval o X.env
   standAt apos.atName
   let (f,first) ←holding [ov] (getMethod ov x pl)
   callWith pos f first (backTo pos (starEach (e::es) X.env)) (backToKw pos (keywordEach [] X.env))):=by rfl):
  SE X b G .val (.Call (.Attribute o x apos) (e::es) [] pos) (t_ c x q fo g):=Ph (pl:=pl) O I Y J M n B U F
end
section
variable {b:BX}{Ow:se}{G:oT}{EK:St}{env:Env}{H H':Hp}
set_option tactic.hygienic true in def ER.set(E:ER b Ow G EK env H){i:Nat}{v:V}{p:PV}(hi:i∉G)(r:Rep b.C (Bs b Ow) H v p)(Y:b.fx i=none):ER b Ow G (EK.set i (some v)) (env.set i (some p)) H:=by
 refine⟨by rw[eg,eg];exact E.len,E.same,E.live,E.new,λj q e n=>?_,λj q e n=>?_,λj k a q Z e1 O J e2 U M=>?_,λk w I=>?_⟩
 ·by_cases B:i=j
  ·subst B
   rw[iP]at e;split at e
   ·split at e
    ·rename_i hl
     have:=bq (bq e);subst this;exact⟨v,by rw[dS (by rw[E.len];exact hl)],r⟩
    ·cases e
   ·exact absurd rfl ‹_›
  ·rw[bv B]at e ⊢
   exact E.val j q e n
 ·have B:i≠j:=λz=>hi (z▸n)
  rw[bv B]at e ⊢;exact E.own j q e n
 ·have B:i≠j:=λz=>hi (z▸O)
  have F:i≠k:=λz=>hi (z▸U);rw[bv B]at e1 J;rw[bv F]at e2 M;exact E.sep j k a q Z e1 O J e2 U M
 ·by_cases F:i=k
  ·subst F;rw[Y]at I;cases I
  ·rw[bv F];exact E.fix k w I
set_option tactic.hygienic true in def ER.setO(E:ER b Ow G EK env H){i:Nat}{p:PV}{H0:Hp}{G':oT}(U:∀j,j∈G'↔(j∈G\/j=i))(s0:DH H0 H)(Z:H0 a=none)(I:ER b Ow G EK env H0)(t:Top b.C (λc=>Bs b Ow c/\c≠a) H a p)(hx:b.fx i=none):
  ER b (λc=>Ow c\/c=a) G' (EK.set i (some (.ref a))) (env.set i (some p)) H/\Ex (Bs b Ow) H0 (Bs b λc=>Ow c\/c=a) H:=by
 have O:Ex (Bs b Ow) H0 (Bs b λc=>Ow c\/c=a) H:=λc o h=>⟨λq=>⟨s0 _ _ h,λz=>z.elim q.1 (au h Z),q.2⟩,λ_=>s0 _ _ h⟩;have ht:Top b.C (Bs b λc=>Ow c\/c=a) H a p:=t.ex (bf λc o _ q=>⟨λz=>z.elim q.1.1 q.2,q.1.2⟩) λo z=>z;refine⟨⟨by rw[eg,eg];exact E.len,E.same,λc w=>w.elim (E.live c) λz=>by subst z;obtain⟨o,h,_⟩:=t.live;exact⟨o,h⟩,λc w=>w.elim (E.new c) λz=>by subst z;exact I.same.free Z,λj q e n=>?_,λj q e n=>?_,λj k c q q' e1 n1 J e2 n2 M=>?_,λk w hw=>?_⟩,O⟩
 ·have B:i≠j:=λz=>n ((U j).mpr (.inr z.symm))
  rw[bv B]at e ⊢;obtain⟨v,h1,h2⟩:=I.val j q e λz=>n ((U j).mpr (.inl z));exact⟨v,h1,h2.ex O⟩
 ·by_cases B:i=j
  ·subst B
   rw[iP]at e;split at e
   ·split at e
    ·rename_i F
     have:=bq (bq e);subst this;exact⟨a,by rw[dS (by rw[E.len];exact F)],.inr rfl,ht⟩
    ·cases e
   ·exact absurd rfl ‹_›
  ·rw[bv B]at e ⊢
   have nG:j∈G:=((U j).mp n).elim id λz=>absurd z.symm B;obtain⟨c,h1,h2,h3⟩:=I.own j q e nG;exact⟨c,h1,.inl h2,h3.ex O λo z=>s0 _ _ z⟩
 ·have Y:∀{j:Nat}{q:PV},i≠j->j∈G'->env[j]?=some (some q)->EK[j]?=some (some (.ref c))->c≠a:=λ{j q} B n e s=>by
   have nG:j∈G:=((U j).mp n).elim id λz=>absurd z.symm B;obtain⟨c',h1,h2,h3⟩:=I.own j q e nG;rw[s]at h1;cases h1;obtain⟨o,h4,_⟩:=h3.live;exact au h4 Z
  by_cases B:i=j
  ·by_cases hk:i=k
   ·exact B.symm.trans hk
   ·subst B
    rw[bv hk]at e2 M;have F:i<EK.length:=by
     by_cases F:i<EK.length
     ·exact F
     ·rw[eK (by rw[eg];omega)]at J;cases J
    rw[dS F]at J;cases J;exact absurd rfl (Y hk n2 e2 M)
  ·by_cases hk:i=k
   ·subst hk
    rw[bv B]at e1 J;have F:i<EK.length:=by
     by_cases F:i<EK.length
     ·exact F
     ·rw[eK (by rw[eg];omega)]at M;cases M
    rw[dS F]at M;cases M;exact absurd rfl (Y B n1 e1 J)
   ·rw[bv B]at e1 J
    rw[bv hk]at e2 M;have g1:j∈G:=((U j).mp n1).elim id λz=>absurd z.symm B;have g2:k∈G:=((U k).mp n2).elim id λz=>absurd z.symm hk;exact E.sep j k c q q' e1 g1 J e2 g2 M
 ·by_cases hk:i=k
  ·subst hk;rw[hx]at hw;cases hw
  ·rw[bv hk];exact E.fix k w hw
def ER.write(E:ER b Ow G EK env H){i:Nat}{p p':PV}{o':HO}(hi:i∈G)(Y:EK[i]?=some (some (.ref a)))(U:env[i]?=some (some p))(J:Ow a)(t:Top b.C (Bs b Ow) H a p)(t':Top b.C (Bs b Ow) (upd H a o') a p'):
  ER b Ow G EK (env.set i (some p')) (upd H a o')/\Ex (Bs b Ow) H (Bs b Ow) (upd H a o'):=by
 obtain⟨o,ho,hm⟩:=t.live;have O:Ex (Bs b Ow) H (Bs b Ow) (upd H a o'):=λc u h=>⟨λq=>⟨by rw[az (λz:c=a=>q.1 (z▸J))];exact h,q⟩,λm=>by
  have F:c≠a:=λz=>by subst z;rw[ho]at h;cases h;rw[hm]at m;cases m
  rw[az F];exact h⟩
 refine⟨⟨by rw[eg];exact E.len,λc u h=>?_,λc w=>?_,E.new,λj q e n=>?_,λj q e n=>?_,λj k c q q' e1 n1 s1 e2 n2 s2=>?_,E.fix⟩,O⟩
 ·have F:c≠a:=au h (E.new a J)
  rw[az F];exact E.same c u h
 ·by_cases F:c=a
  ·subst F;exact⟨o',aq⟩
  ·obtain⟨u,h⟩:=E.live c w
   exact⟨u,by rw[az F];exact h⟩
 ·have I:i≠j:=λz=>n (z▸hi)
  rw[bv I]at e;obtain⟨v,h1,h2⟩:=E.val j q e n;exact⟨v,h1,h2.ex O⟩
 ·by_cases I:i=j
  ·subst I
   rw[iP]at e;split at e
   ·split at e
    ·have:=bq (bq e)
     subst this;exact⟨a,Y,J,t'⟩
    ·cases e
   ·exact absurd rfl ‹_›
  ·rw[bv I]at e
   obtain⟨c,h1,h2,h3⟩:=E.own j q e n;have F:c≠a:=λz=>by subst z;exact I (E.sep i j c p q U hi Y e n h1)
   exact⟨c,h1,h2,h3.ex O λu z=>by rw[az F];exact z⟩
 ·have B:∀{j:Nat}{q:PV},(env.set i (some p'))[j]?=some (some q)->∃q,env[j]?=some (some q):=λ{j q} e=>by
   by_cases I:i=j
   ·subst I;exact⟨p,U⟩
   ·rw[bv I]at e;exact⟨q,e⟩
  obtain⟨r1,M⟩:=B e1;obtain⟨Z,Xt⟩:=B e2;exact E.sep j k c r1 Z M n1 s1 Xt n2 s2
def ER.weak{G':oT}(E:ER b Ow G EK env H)(h:∀j,j∈G'->j∈G):∃I,ER b I G' EK env H/\Ex (Bs b Ow) H (Bs b I) H:=by
 refine⟨λa=>Ow a/\∃j q,j∈G'/\env[j]?=some (some q)/\EK[j]?=some (some (.ref a)),?_⟩;have B:Ex (Bs b Ow) H (Bs b λa=>Ow a/\∃j q,j∈G'/\env[j]?=some (some q)/\EK[j]?=some (some (.ref a))) H:=bf λc o _ q=>⟨λz=>q.1 z.1,q.2⟩;refine⟨⟨E.len,E.same,λa w=>E.live a w.1,λa w=>E.new a w.1,λi p e n=>?_,λi p e n=>?_,λi j a p q e1 U M e2 Y O=>E.sep i j a p q e1 (h i U) M e2 (h j Y) O,E.fix⟩,B⟩
 ·by_cases hi:i∈G
  ·obtain⟨a,h1,h2,F⟩:=E.own i p e hi
   refine⟨_,h1,(F.ex B λo z=>z).rep ⟨λz=>?_,.inr (E.new a h2)⟩⟩;obtain⟨_,j,q,J,Z,s'⟩:=z;have:=E.sep i j a p q e hi h1 Z (h j J) s';subst this;exact n J
  ·obtain⟨v,h1,h2⟩:=E.val i p e hi
   exact⟨v,h1,h2.ex B⟩
 ·obtain⟨a,h1,h2,F⟩:=E.own i p e (h i n)
  exact⟨a,h1,⟨h2,i,p,n,e,h1⟩,F.ex B λo z=>z⟩
def ER.forget(E:ER b Ow G EK env H)(i:Nat):ER b Ow G EK (env.set i none) H:=by
 have B:∀{j:Nat}{q:PV},(env.set i none)[j]?=some (some q)->env[j]?=some (some q):=λ{j q} e=>by
  by_cases hj:i=j
  ·subst hj
   rw[iP]at e;split at e
   ·split at e<;>cases e
   ·exact absurd rfl ‹_›
  ·rw[bv hj]at e;exact e
 exact⟨by rw[eg];exact E.len,E.same,E.live,E.new,λj q e n=>E.val j q (B e) n,λj q e n=>E.own j q (B e) n,λj k a q M e1 F I e2 O J=>E.sep j k a q M (B e1) F I (B e2) O J,E.fix⟩
@[simp] noncomputable def Iy:List Nat->Env->Env
 |[],env=>env
 |i::r,env=>Iy r (env.set i none)
theorem ER.Iy:∀{ds:oT}{env:Env},ER b Ow G EK env H->ER b Ow G EK (Iy ds env) H
 |[],_,E=>E
 |i::r,env,E=>ER.Iy (ds:=r) (E.forget i)
end
inductive Out where
 |nx (e:Env)|bk (e:Env)|ct (e:Env)|rt (p:PV)
def Xy(b:BX)(Ow:se)(H:Hp)(G L:oT)(ro:Bool)(D:Ends):Out->Prop
 |.nx e=>∀EH EU H',ER b EH G EU e H'->Ex (Bs b Ow) H (Bs b EH) H'->D.nx EU H'
 |.bk e=>∀EH EU H',ER b EH L EU e H'->Ex (Bs b Ow) H (Bs b EH) H'->D.bk EU H'
 |.ct e=>∀EH EU H',ER b EH L EU e H'->Ex (Bs b Ow) H (Bs b EH) H'->D.ct EU H'
 |.rt p=>∀v H',DH b.H0 H'->YV b.C b.A b.H0 ro H' v p->D.rt v H'
inductive tS(b:BX)(G G' L:oT)(ro:Bool)(f:Env->Option Out)(D:Ends)(EK:St)(H:Hp):Prop
 |mk (Ow:se) (env:Env) (out:Out) (E:ER b Ow G EK env H) (hf:f env=some out) (k:Xy b Ow H G' L ro D out):tS b G G' L ro f D EK H
abbrev SS(X:Cx)(b:BX)(G G' L:oT)(ro:Bool)(st:Stmt)(f:Env->Option Out):Prop:=PS X st (tS b G G' L ro f)
abbrev MO(X:Cx)(b:BX)(G G' L:oT)(ro:Bool)(st:rg)(f:Env->Option Out):Prop:=FX X st (tS b G G' L ro f)
def FX.imp{e:rg}{t u:TS}(h:FX X e t)(i:∀D EK H,u D EK H->t D EK H):FX X e u:=λDE s EK H D I q=>h DE s EK H D I (i D EK H q)
def PS.or{e:Stmt}{t u:TS}(h:PS X e t)(h':PS X e u):PS X e (λD EK H=>t D EK H\/u D EK H):=λDE s EK H D I q=>q.elim (h DE s EK H D I) (h' DE s EK H D I)
def Xy.ex{b:BX}{q:se}{H1:Hp}{G L:oT}{D:Ends}{o:Out}(e:Ex (Bs b Ow) H (Bs b q) H1)(h:Xy b Ow H G L ro D o):Xy b q H1 G L ro D o:=by
 cases o with
 |nx B=>exactλj n H' E x=>h j n H' E (e.trans x)
 |bk B=>exactλj n H' E x=>h j n H' E (e.trans x)
 |ct B=>exactλj n H' E x=>h j n H' E (e.trans x)
 |rt p=>exact h
noncomputable def LX(env:Env):Option Out:=some (.nx env)
@[simp] def Wo(env:Env):LX env=(some (.nx env)):=id rfl
noncomputable def sNo(env:Env):Option Out:=none
@[simp] def Wq(env:Env):sNo env=(none):=id rfl
noncomputable def aN(f g:Env->Option Out)(env:Env):Option Out:=(f env).bind λo=>match o with|.nx e=>g e|o=>some o
@[simp] def V4(f g:Env->Option Out)(env:Env):aN f g env=((f env).bind λo=>match o with|.nx e=>g e|o=>some o):=id rfl
noncomputable def aZ(i:Nat)(f:sf)(env:Env):Option Out:=(f env).bind λp=>some (.nx (env.set i (some p)))
@[simp] def V5(i:Nat)(f:sf)(env:Env):aZ i f env=((f env).bind λp=>some (.nx (env.set i (some p)))):=id rfl
noncomputable def bA(f:sf)(env:Env):Option Out:=(f env).bind λp=>some (.rt p)
@[simp] def V6(f:sf)(env:Env):bA f env=((f env).bind λp=>some (.rt p)):=id rfl
noncomputable def LN(c:si)(f g:Env->Option Out)(env:Env):Option Out:=(c env).bind λk=>if k=true then f env else g env
@[simp] def Wr(c:si)(f g:Env->Option Out)(env:Env):LN c f g env=((c env).bind λk=>if k=true then f env else g env):=id rfl
noncomputable def zm(f:sf)(env:Env):Option Out:=(f env).bind λ_=>some (.nx env)
@[simp] def Vx(f:sf)(env:Env):zm f env=((f env).bind λ_=>some (.nx env)):=id rfl
noncomputable def e_(g:ss)(i:Nat)(f:sf)(env:Env):Option Out:=(bV i env).bind λx=>(f env).bind λp=>(g x p).bind λy=>some (.nx (env.set i (some y)))
@[simp] def Vy(g:ss)(i:Nat)(f:sf)(env:Env):e_ g i f env=((bV i env).bind λx=>(f env).bind λp=>(g x p).bind λy=>some (.nx (env.set i (some y)))):=id rfl
noncomputable def uc(g:PV->PV->PV->Option PV)(i:Nat)(f h:sf)(env:Env):Option Out:=(bV i env).bind λx=>(f env).bind λp=>(h env).bind λq=>(g x p q).bind λy=>some (.nx (env.set i (some y)))
@[simp] def Vz(g:PV->PV->PV->Option PV)(i:Nat)(f h:sf)(env:Env):uc g i f h env=((bV i env).bind λx=>(f env).bind λp=>(h env).bind λq=>(g x p q).bind λy=>some (.nx (env.set i (some y)))):=id rfl
@[simp] noncomputable def mZ:PV->PV->Option PV
 |.lst xs,p=>if xs.length<1000000 then some (.lst (xs++[p]))else none
 |_,_=>none
noncomputable def cT{κ:Type}[DecidableEq κ](kvs:List (κ×PV))(k:κ)(v:PV):List (κ×PV):=
 if(kvs.any λkv=>decide (kv.1=k))=true then kvs.map (λkv=>if kv.1=k then(kv.1,v)else kv)else kvs++[(k,v)]
@[simp] noncomputable def xu:PV->PV->PV->Option PV
 |.dK kvs,k,v=>(keyOf k).bind λk=>if kvs.length<1000000 then some (.dK (cT kvs k v))else none
 |.dT kvs,.tup ks,v=>(EG ks).bind λk=>if kvs.length<1000000 then some (.dT (cT kvs k v))else none
 |.lst xs,.int i,v=>(OL xs.length i).map λj=>.lst (xs.set j v)
 |_,_,_=>none
variable {tg:Expr}{fr:Bool}
section
variable {X:Cx}{b:BX}{G G' G1 L:oT}{ro:Bool}{st:Stmt}{rest:rg}{f g:Env->Option Out}{e e1 e2:Expr}{h h1 h2:sf}{m m1 m2:Md}{pos:Pos}
def cB:MO X b G G L ro [] LX:=FX.imp gZ<|by rintro D EK H ⟨Ow,env,o,E,j,k⟩;cases j;exact k Ow EK H E (Ex.refl _ _)
def aF(a:SS X b G G1 L ro st f)(c:MO X b G1 G' L ro rest g):MO X b G G' L ro (st::rest) (aN f g):=FX.imp (aP a c)<|by
 rintro D EK H ⟨Ow,env,o,E,j,k⟩;unfold aN at j;cases q:f env with
 |none=>rw[q]at j;cases j
 |some B=>
  rw[q]at j;refine⟨Ow,env,B,E,q,?_⟩;cases B with
  |nx n=>exactλI J H' F x=>⟨I,n,o,F,j,k.ex x⟩
  |bk n=>cases j;exact k
  |ct n=>cases j;exact k
  |rt p=>cases j;exact k
def aJ(a:SS X b G G' L ro st f):MO X b G G' L ro [st] f:=bH a
def pO(c:MO X b G1 G' L ro rest g)(F:autoParam (∀j,j∈G1->j∈G) r1_):MO X b G G' L ro rest g:=FX.imp c<|by
 rintro D EK H ⟨Ow,env,o,E,q,k⟩;obtain⟨B,n,x⟩:=E.weak F;exact⟨B,env,o,n,q,k.ex x⟩
def RC:SS X b G G' L ro st sNo:=PS.imp J7<|by rintro D EK H ⟨Ow,env,o,E,j,k⟩;cases j
def U6{j:rg}:MO X b G G' L ro j sNo:=FX.imp rK<|by rintro D EK H ⟨Ow,env,o,E,n,k⟩;cases n
inductive BS{EL Fc:Type}(x:Option EL)(k:EL->Option Fc)(y:Fc):Prop
 |mk (a:EL) (h:x=some a) (e:k a=some y):BS x k y
def aC{j n:Type}{x:Option j}{k:j->Option n}{y:n}(h:x.bind k=some y):BS x k y:=by
 cases x with
 |none=>cases h
 |some a=>exact⟨a,rfl,h⟩
def RD{i:Nat}{D:Ends}(hi:i∉G)(n:b.fx i=none)(q:tS b G G L ro (aZ i h) D EK H):tM b G .val h EK H λv H1=>D.nx (EK.set i (some v)) H1:=by
 obtain⟨Ow,env,o,E,j,k⟩:=q;obtain⟨p,B,e⟩:=aC j;cases e;exact⟨Ow,env,p,E,B,λv H' s r=>k Ow _ H' ((E.up s).set hi r n) (.of_same s)⟩
def Nt{i:Nat}{D:Ends}(J:∀j,j∈G'↔(j∈G\/j=i))(F:b.fx i=none)(q:tS b G G' L ro (aZ i h) D EK H):tM b G .own h EK H λv H1=>D.nx (EK.set i (some v)) H1:=by
 obtain⟨Ow,env,o,E,B,k⟩:=q;obtain⟨p,O,e⟩:=aC B;cases e;refine⟨Ow,env,p,E,O,?_⟩;rintro v H' s ⟨a,M,I,t⟩;subst M;obtain⟨n,x⟩:=(E.up s).setO J s I E t F;exact k _ _ H' n x
def r6_q(j:True:=by first|exact d5 rfl|exact dQ rfl):True:=trivial
def r6_:Lean.Syntax:=r6_q._auto_1
def bR(i:Nat){x:Str}{pos':Pos}(nd:X.N.Nodup)(n:SE X b G .val e h)(j:autoParam (i∉G) r1_)(F:autoParam (b.fx i=none) r7_)(hi:autoParam (X.N[i]?=some x) r0_)(I:autoParam (Loc X.env.scope x) r6_)
  (J:autoParam (swapsWith e (some (.Name x pos')) pos.line X.env=pure false) r0_) (B:autoParam (QE X x) r3_):SS X b G G L ro (.Assign [.Name x pos'] e pos) (aZ i h):=
 PS.imp (cz nd hi I n J B) λD EK H q=>RD j F q
def gJ(i:Nat){x:Str}{pos':Pos}(nd:X.N.Nodup)(B:SE X b G .own e h)(n:autoParam (i∈G) r1_)(I:autoParam (b.fx i=none) r7_)(hi:autoParam (X.N[i]?=some x) r0_)(J:autoParam (Loc X.env.scope x) r6_)
  (M:autoParam (swapsWith e (some (.Name x pos')) pos.line X.env=pure false) r0_) (F:autoParam (QE X x) r3_):SS X b G G L ro (.Assign [.Name x pos'] e pos) (aZ i h):=
 PS.imp (cz nd hi J B M F) λD EK H q=>Nt (λj=>⟨.inl,λz=>z.elim id λy=>y▸n⟩) I q
def bc(n:SE X b G .val e h):SS X b G G' L false (.Return (some e) pos) (bA h):=PS.imp (eN n)<|by
 rintro D EK H ⟨Ow,env,o,E,j,k⟩;obtain⟨p,F,B⟩:=aC j;clear j;cases B;exact⟨Ow,env,p,E,F,λv H' s r=>k v H' (E.same.trans s) (Rep.ex (bf λc o _ q=>q.2) r)⟩
def RG(i:Nat){x:Str}{p1:Pos}(hi:autoParam (i∈G) r1_)(J:autoParam (X.N[i]?=some x) r0_)(I:autoParam (N3 X.env.scope x) r4_)(F:autoParam (GG x) r1_)
  (n:autoParam (NJ x) r1_):SS X b G G' L true (.Return (some (.Name x p1)) pos) (bA (bV i)):=PS.imp (eN (dW J I F n))<|by
 rintro D EK H ⟨Ow,env,o,E,j,k⟩;obtain⟨p,M,B⟩:=aC j;clear j;cases B;obtain⟨a,e,w,t⟩:=E.own i p (eF M) hi;exact⟨_,e,k _ H E.same ⟨a,rfl,E.new a w,t.ex (bf λc o _ q=>⟨q.2,λz=>q.1 (z▸w)⟩) λo z=>z⟩⟩
def dH{c:Expr}{k:si}{q B:rg}(J:ST X b G c k)(M:MO X b G G' L ro q f)(I:MO X b G G' L ro B g):SS X b G G' L ro (.If c q B pos) (LN k f g):=PS.imp (kO J M I)<|by
 rintro D EK H ⟨Ow,env,o,E,j,F⟩;obtain⟨p,O,n⟩:=aC j;clear j;refine⟨Ow,env,p,E,O,λH' s=>?_⟩;cases p with
 |true=>exact iD ⟨Ow,env,o,E.up s,n,F.ex (.of_same s)⟩
 |false=>exact jP ⟨Ow,env,o,E.up s,n,F.ex (.of_same s)⟩
def Iz(n:SE X b G m e h)(F:autoParam (swapsWith e none pos.line X.env=pure false) r0_):SS X b G G L ro (.Expr e pos) (zm h):=PS.imp (g_ n.bor F)<|by
 rintro D EK H ⟨Ow,env,o,E,j,k⟩;obtain⟨p,q,B⟩:=aC j;clear j;cases B;exact⟨Ow,env,p,E,q,λv H' s r=>k Ow EK H' (E.up s) (.of_same s)⟩
set_option tactic.hygienic true in def my(i:Nat){x:Str}{p1 apos D3:Pos}(he:SE X b G .val e h)(hi:autoParam (i∈G) r1_)(hN:autoParam (X.N[i]?=some x) r0_)(hv:autoParam (N3 X.env.scope x) r4_)(Z:autoParam (GG x) r1_)
  (GI:autoParam (NJ x) r1_) (HL:autoParam (attributeBase (.Name x p1) "append" X.env (eval (.Name x p1) X.env)=eval (.Name x p1) X.env) r0_)
  (OO:autoParam (ZQ X D3 [e]) r0_)
  (HM:autoParam ((apos.endLine == D3.line)=true) r0_) (B:autoParam (GB X e []) r0_):
  SS X b G G L ro (.Expr (.Call (.Attribute (.Name x p1) "append" apos) [e] [] D3) pos) (e_ mZ i h):=
 PS.imp (g_ (Fz gp hV hZ lH (dW hN hv Z GI) (aB he aM B) HL OO HM B rfl))<|by
  rintro D EK H ⟨Ow,env,o,E,M,k⟩;obtain⟨U,I,Y⟩:=aC M;clear M;obtain⟨p,hp,F⟩:=aC Y;clear Y;obtain⟨y,j,z3⟩:=aC F;clear F;cases z3;obtain⟨a,O,w,t⟩:=E.own i U (eF I) hi;cases U<;>simp only[mZ]at j<;>first|cases j|skip
  rename_i xs;split at j
  ·rename_i hl
   cases j;obtain⟨vs,n,J⟩:=id t;refine⟨_,O,.inl ⟨rfl,_,EJ.of n⟩,Ow,env,p,E,hp,λv H' s r=>?_⟩;refine⟨a,vs,v,rfl,rfl,s _ _ n,cg (by rw[J.length];omega),?_⟩;have Yj:DI b.C (Bs b Ow) (upd H' a (.lst (vs++[v]))) (vs++[v]) (xs++[p]):=by
    refine(J.ex (.of_same s)).append (.cons r .nil) |>.ex λc o h=>⟨λq=>⟨by rw[az (λz:c=a=>q.1 (z▸w))];exact h,q⟩,λm=>?_⟩;have hc:c≠a:=λz=>by subst z;rw[s _ _ n]at h;cases h;cases m
    rw[az hc];exact h
   obtain⟨E',x⟩:=(E.up s).write hi O (eF I) w (t.ex (.of_same s) λo z=>s _ _ z) (o':=.lst (vs++[v])) (p':=.lst (xs++[p])) ⟨_,aq,Yj⟩;exact k Ow EK _ E' ((Ex.of_same s).trans x)
  ·cases j
set_option tactic.hygienic true in def D9.put{k:Key}{p:PV}(r:Rep C A H v p){j:List (Key×V)}{kvs:List (Key×PV)}(t:D9 C A H j kvs):D9 C A H (putK j k v) (cT kvs k p):=by
 have B:∀{j:List (Key×V)}{kvs:List (Key×PV)},D9 C A H j kvs->(j.any λx=>decide (x.1=k))=(kvs.any λx=>decide (x.1=k)):=by
  intro j kvs t;induction j generalizing kvs with
  |nil=>cases t;rfl
  |cons x l n=>cases t with|cons h t=>rw[ft,ft,n t]
 have J:∀{j:List (Key×V)}{kvs:List (Key×PV)},D9 C A H j kvs->D9 C A H (j.map λx=>if x.1=k then(x.1,v)else x) (kvs.map λx=>if x.1=k then(x.1,p)else x):=by
  intro j kvs t;induction j generalizing kvs with
  |nil=>cases t;exact .nil
  |cons x l n=>
   cases t with
   |cons h t=>
    rw[bb,bb];rename_i I M p' F;by_cases e:I=k
    ·simp only[e,fT];exact .cons r (n t)
    ·simp only[e,fw];exact .cons h (n t)
 have q:∀{j:List (Key×V)}{kvs:List (Key×PV)},D9 C A H j kvs->D9 C A H (j++[(k,v)]) (kvs++[(k,p)]):=by
  intro j kvs t;induction j generalizing kvs with
  |nil=>cases t;exact .cons r .nil
  |cons x l n=>cases t with|cons h t=>exact .cons h (n t)
 unfold putK cT;rw[B t];split
 ·exact J t
 ·exact q t
set_option tactic.hygienic true in def D7.put{k:List DF}{p:PV}(r:Rep C A H v p){j:List (List DF×V)}{kvs:sw}(t:D7 C A H j kvs):D7 C A H (putK j k v) (cT kvs k p):=by
 have B:∀{j:List (List DF×V)}{kvs:sw},D7 C A H j kvs->(j.any λx=>decide (x.1=k))=(kvs.any λx=>decide (x.1=k)):=by
  intro j kvs t;induction j generalizing kvs with
  |nil=>cases t;rfl
  |cons x l n=>cases t with|cons h t=>rw[ft,ft,n t]
 have J:∀{j:List (List DF×V)}{kvs:sw},D7 C A H j kvs->D7 C A H (j.map λx=>if x.1=k then(x.1,v)else x) (kvs.map λx=>if x.1=k then(x.1,p)else x):=by
  intro j kvs t;induction j generalizing kvs with
  |nil=>cases t;exact .nil
  |cons x l n=>
   cases t with
   |cons h t=>
    rw[bb,bb];rename_i I M p' F;by_cases e:I=k
    ·simp only[e,fT];exact .cons r (n t)
    ·simp only[e,fw];exact .cons h (n t)
 have q:∀{j:List (List DF×V)}{kvs:sw},D7 C A H j kvs->D7 C A H (j++[(k,v)]) (kvs++[(k,p)]):=by
  intro j kvs t;induction j generalizing kvs with
  |nil=>cases t;exact .cons r .nil
  |cons x l n=>cases t with|cons h t=>exact .cons h (n t)
 unfold putK cT;rw[B t];split
 ·exact J t
 ·exact q t
theorem D7.length{C:MC}{A:se}{H:Hp}:∀{vs:List (List DF×V)}{ps:sw},D7 C A H vs ps->vs.length=ps.length
 |_,_,.nil=>rfl
 |_,_,.cons _ t=>by simp[D7.length t]
def m6{o o':HO}(w:Ow a)(j:H a=some o)(B:iU o=true):Ex (Bs b Ow) H (Bs b Ow) (upd H a o'):=λc u h=>⟨λq=>⟨by rw[az (λz:c=a=>q.1 (z▸w))];exact h,q⟩,λm=>by
 have n:c≠a:=λz=>by subst z;rw[j]at h;cases h;rw[B]at m;cases m
 rw[az n];exact h⟩
set_option tactic.hygienic true in def zp(i:Nat){x:Str}{p1 p2:Pos}{j:Nat}(hr:Ee j X.A)(hk:SE X b G .val e1 h1)(hv':SE X b G .val e2 h2)(hi:autoParam (i∈G) r1_)(hN:autoParam (X.N[i]?=some x) r0_)(hv:autoParam (N3 X.env.scope x) r4_)(hd:autoParam (GG x) r1_)
  (GI:autoParam (NJ x) r1_) (hs:autoParam (swapsWith e2 (some (.Subscript (.Name x p1) e1 p2)) pos.line X.env=pure false) r0_) (IL:autoParam (swapsWithSole [.Subscript (.Name x p1) e1 p2] e2 pos.line X.env=pure false) r0_) (hw:autoParam (swappedStores [.Subscript (.Name x p1) e1 p2] e2 X.env=pure none) r0_)
  (ha1:autoParam ((assignEach [.Subscript (.Name x p1) e1 p2] X.env).map (·.2)=[assign (.Subscript (.Name x p1) e1 p2) X.env]) r0_)
  (F:∀v,assign (.Subscript (.Name x p1) e1 p2) X.env v=(do
   let ov ←holding [v] (eval (.Name x p1) X.env)
   let iv ←holding [v,ov] (eval e1 X.env)
   standAt p2
   holding [v,ov,iv] (setItem ov iv v)
   release [v,ov,iv] []):=by intro _;rfl) (hK:autoParam (X.K=b.C.K) r0_):SS X b G G L ro (.Assign [.Subscript (.Name x p1) e1 p2] e2 pos) (uc xu i h1 h2):=by
 refine PS.imp (PS.or (pI (d7 hr) (dW hN hv hd GI) hk hv' hs) (QM hv' (QL (dW hN hv hd GI) hk set_list F) IL hw ha1)) ?_;rintro D EK H ⟨Ow,env,o,E,hf,k⟩;obtain⟨px,TM,z1⟩:=aC hf;clear hf;obtain⟨pk,U,z2⟩:=aC z1;clear z1;obtain⟨pv,O,z3⟩:=aC z2;clear z2;obtain⟨y,B,z4⟩:=aC z3;clear z3;cases z4;obtain⟨a,ea,w,t⟩:=E.own i px (eF TM) hi;have Y:∀{H2:Hp}{o':HO},DH H H2->Top b.C (Bs b Ow) (upd H2 a o') a y->D.nx EK (upd H2 a o'):=λ{H2 o'} s t'=>by
  obtain⟨E',x⟩:=(E.up s).write hi ea (eF TM) w (t.ex (.of_same s) λo z=>s _ _ z) t';exact k Ow EK _ E' ((Ex.of_same s).trans x)
 unfold xu at B;split at B
 ·obtain⟨ky,Z,B⟩:=aC B
  split at B
  ·rename_i hl
   cases B;obtain⟨kv,F,J⟩:=id t;refine .inl ⟨Ow,env,pv,E,O,λv H1 I r1=>⟨_,ea,Ow,env,pk,E.up I,U,λu H2 M r2=>?_⟩⟩;have s:=I.trans M;have eu:=DO.key (.inl r2) Z;subst eu;refine⟨a,_,rfl,LJ.k (s _ _ F) (cg (by rw[J.length];omega)),Y s ⟨_,aq,?_⟩⟩;exact(D9.put (k:=ky) (Rep.ex (.of_same M) r1) (J.ex (.of_same s))).ex (m6 w (s _ _ F) rfl)
  ·cases B
 ·obtain⟨ky,Z,B⟩:=aC B
  split at B
  ·rename_i hl
   cases B;obtain⟨kv,F,J⟩:=id t;refine .inl ⟨Ow,env,pv,E,O,λv H1 I r1=>⟨_,ea,Ow,env,_,E.up I,U,λu H2 M r2=>?_⟩⟩;have s:=I.trans M;obtain⟨c,us,rfl,hc,rc⟩:=DO.tup (.inl r2);refine⟨a,_,rfl,LJ.t (s _ _ F) (by rw[hK];exact hc.key (rc.EG Z)) (cg (by rw[J.length];omega)),Y s ⟨_,aq,?_⟩⟩;exact(D7.put (k:=ky) (Rep.ex (.of_same M) r1) (J.ex (.of_same s))).ex (m6 w (s _ _ F) rfl)
  ·cases B
 ·rename_i xs n
  cases q:OL xs.length n with
  |none=>rw[q]at B;cases B
  |some jj=>
   rw[q]at B;cases B;obtain⟨vs,F,J⟩:=id t;refine .inr ⟨Ow,env,pv,E,O,λv H1 I r1=>⟨_,ea,Ow,env,_,E.up I,U,λu H2 M r2=>?_⟩⟩;have s:=I.trans M;have eu:=DO.int (.inl r2);subst eu;refine⟨a,vs,n,jj,rfl,rfl,s _ _ F,by rw[J.length];exact q,Y s ⟨_,aq,?_⟩⟩;exact(DI.set (Rep.ex (.of_same M) r1) jj (J.ex (.of_same s))).ex (m6 w (s _ _ F) rfl)
 ·cases B
def IW(b:BX)(Ow:se)(fr:Bool)(H1:Hp)(J:It)(ps:sv):Prop:=∀EH H,(fr=false->DH H1 H)->Ex (Bs b Ow) H1 (Bs b EH) H->(∀a,H a=none->Bs b EH a)->
 (∀i p,ps[i]?=some p->J.go i H/\∀x H',J.S2 i H x H'->DH H H'/\Rep b.C (Bs b EH) H' x p)/\J.stop ps.length H
inductive tMI(b:BX)(G:oT)(fr:Bool)(g:sj)(EK:St)(H:Hp)(R:(It->Hp->Prop)):Prop
 |mk (Ow:_) (env:_) (ps:_) (h0:ER b Ow G EK env H) (h1:g env=some ps) (h2:∀J H1,DH H H1->IW b Ow fr H1 J ps->R J H1):tMI b G fr g EK H R
abbrev SI(X:Cx)(b:BX)(G:oT)(fr:Bool)(tg it:Expr)(g:sj):Prop:=PI X tg it (tMI b G fr g)
def PI.imp{it:Expr}{t u:TI}(h:PI X tg it t)(i:∀ EK H R,u EK H R->t EK H R):PI X tg it u:=λDE s EK H R I q=>h DE s EK H R I (i EK H R q)
def PI.or{it:Expr}{t u:TI}(h:PI X tg it t)(h':PI X tg it u):PI X tg it (fun EK H R=>t EK H R\/u EK H R):=λDE s EK H R I q=>q.elim (h DE s EK H R I) (h' DE s EK H R I)
noncomputable def chV(x:Str):List PV:=x.cps.toList.map λc=>.str ⟨#[c]⟩
@[simp] noncomputable def LO:PV->Option (List PV)
 |.lst xs=>some xs
 |.frz xs=>some xs
 |.tup xs=>some xs
 |.ktp xs=>some xs
 |.str x=>some (chV x)
 |_=>none
noncomputable def iV(f:sf)(env:Env):Option (List PV):=(f env).bind LO
@[simp] def WY(f:sf)(env:Env):iV f env=((f env).bind LO):=id rfl
def xF{H1:Hp}{xs:sv}(B:∀j H,(fr=false->DH H1 H)->Ex (Bs b Ow) H1 (Bs b j) H->EJ b.C.K H a vs/\DI b.C (Bs b j) H vs xs):IW b Ow fr H1 (Xj b.C.K a) xs:=by
 intro j H F h1 M;obtain⟨q,r⟩:=B j H F h1;refine⟨λi p J=>?_,⟨vs,q,by rw[r.length];exact ax _⟩⟩;obtain⟨v,n,I⟩:=r.get J;refine⟨⟨vs,v,q,n⟩,λx H' y=>?_⟩;obtain⟨e,y⟩:=y;subst e;have e2:=y vs q;rw[n]at e2;cases e2;exact⟨DH.refl _,I⟩
def IK{H1:Hp}{xs:sv}(B:∀j H,(fr=false->DH H1 H)->Ex (Bs b Ow) H1 (Bs b j) H->F0 b.C.K H a vs/\DI b.C (Bs b j) H vs xs):IW b Ow fr H1 (Xk b.C.K a) xs:=by
 intro j H F h1 M;obtain⟨q,r⟩:=B j H F h1;refine⟨λi p J=>?_,⟨vs,q,by rw[r.length];exact ax _⟩⟩;obtain⟨v,n,I⟩:=r.get J;refine⟨⟨vs,v,q,n⟩,λx H' y=>?_⟩;obtain⟨e,y⟩:=y;subst e;have e2:=y vs q;rw[n]at e2;cases e2;exact⟨DH.refl _,I⟩
def RJ{H1:Hp}{x:Str}:IW b Ow fr H1 (Its x) (chV x):=by
 intro F H J h1 I;refine⟨λi p j=>?_,by show(chV x).length=x.cps.size;unfold chV;rw[ay,gt]⟩;unfold chV at j;rw[cp]at j;cases q:x.cps.toList[i]? with
 |none=>rw[q]at j;cases j
 |some c=>
  rw[q]at j;cases j;have n:x.cps[i]?=some c:=by rw[←pS];exact q
  refine⟨(Array.getElem?_eq_some_iff.mp n).1,λv H' y=>?_⟩;obtain⟨e,M,h',B⟩:=y;subst e;rw[n]at h';cases h';subst B;exact⟨DH.refl _,.str _⟩
def dI(Y:SE X b G m e h)(hm:autoParam (fr=true->m≠.bor) r10_)(hK:autoParam (X.K=b.C.K) r0_):SI X b G fr tg e (iV h):=by
 have U:=PI.or (tg:=tg) (PI.or (tL Y) (zN Y)) (Rf Y);refine PI.imp U ?_;rintro EK H R ⟨Ow,env,ps,E,hg,k⟩;rw[hK];obtain⟨p,O,F⟩:=aC hg;have keep:∀{H1 q H2}{v:V},DH H H1->Res b Ow H H1 m v p->(fr=false->DH H1 H2)->Ex (Bs b Ow) H1 (Bs b q) H2->DO b.C (Bs b q) H2 v p:=λ{H1 q H2 v} s r B h1=>by
  cases fr with
  |false=>exact DO.ex h1 (B rfl) r.bor
  |true=>exact .inl (Rep.ex h1 (r.val E (hm rfl)))
 unfold LO at F;split at F
 ·cases F
  refine .inl (.inl ⟨Ow,env,_,E,O,λv H1 s r=>?_⟩);have j:DO b.C (Bs b Ow) H1 v (.lst _):=r.bor;obtain⟨a,vs,rfl,I,Z⟩:=j.lst;refine⟨a,rfl,⟨vs,EJ.of I⟩,k _ _ s (xF (vs:=vs) λq H2 B h1=>?_)⟩;obtain⟨a',MQ,e',M,Yj⟩:=(keep s r B h1).lst;cases e';have:H2 a=some (.lst vs):=by
   cases fr with
   |false=>exact B rfl _ _ I
   |true=>
    have rv:Rep b.C (Bs b Ow) H1 (.ref a) (.lst _):=r.val E (hm rfl);cases rv with
    |lst n q2 J=>rw[I]at n;cases n;exact((h1 _ _ I).1 q2).1
  rw[M]at this;cases this;exact⟨EJ.of M,Yj⟩
 ·cases F
  refine .inl (.inl ⟨Ow,env,_,E,O,λv H1 s r=>?_⟩);have j:Rep b.C (Bs b Ow) H1 v (.frz _):=(by rcases r.bor with z|⟨_,_,z⟩;exact z;exact z.elim);cases j with
  |Q2 n J=>exact⟨_,rfl,⟨_,.inl (.inr ⟨_,n⟩)⟩,k _ _ s (xF λq H2 B h1=>⟨.inl (.inr ⟨_,(h1 _ _ n).2 rfl⟩),J.ex h1⟩)⟩
  |lstK n J=>exact⟨_,rfl,⟨_,ZU n⟩,k _ _ s (xF λq H2 B h1=>⟨ZU n,J.ex h1⟩)⟩
 ·cases F
  refine .inl (.inr ⟨Ow,env,_,E,O,λv H1 s r=>?_⟩);have j:DO b.C (Bs b Ow) H1 v (.tup _):=r.bor;obtain⟨a,vs,rfl,I,Z⟩:=j.tup;exact⟨a,rfl,⟨vs,I.sq⟩,k _ _ s (IK (vs:=vs) λq H2 B h1=>⟨(I.ex h1).sq,Z.ex h1⟩)⟩
 ·cases F
  refine .inl (.inr ⟨Ow,env,_,E,O,λv H1 s r=>?_⟩);have j:DO b.C (Bs b Ow) H1 v (.ktp _):=r.bor;rcases j with j|⟨_,_,t⟩
  ·cases j with
   |tupK n J=>exact⟨_,rfl,⟨_,mW n⟩,k _ _ s (IK λq H2 B h1=>⟨mW n,J.ex h1⟩)⟩
  ·exact t.elim
 ·cases F
  refine .inr ⟨Ow,env,_,E,O,λv H1 s r=>?_⟩;have j:DO b.C (Bs b Ow) H1 v (.str _):=r.bor;exact⟨_,j.str,k _ _ s RJ⟩
 ·cases F
noncomputable def PM(i:Int):Bool:=@decide (-4611686018427387904<=i/\i<4611686018427387904) (Classical.propDecidable _)
def OU{i:Int}(h:-4611686018427387904<=i)(h':i<4611686018427387904):PM i=true:=@fe _ (Classical.propDecidable _) ⟨h,h'⟩
def pQ{i:Int}(h:PM i=true):-(2 ^ 62)<=i/\i<2 ^ 62:=by
 simp only[PM,kN]at h;exact h
noncomputable def fH(lo hi:Int):List PV:=(List.range (hi - lo).toNat).map λi=>.int (lo+(i:Nat))
noncomputable def iR1(f:sf)(env:Env):Option (List PV):=(f env).bind λp=>match p with
 |.int j=>if PM j=true then some (fH 0 j)else none
 |_=>none
@[simp] def Wu(f:sf)(env:Env):iR1 f env=((f env).bind λp=>match p with
 |.int j=>if PM j=true then some (fH 0 j)else none
 |_=>none):=id rfl
noncomputable def iR2(f g:sf)(env:Env):Option (List PV):=(f env).bind λp=>(g env).bind λq=>match p,q with
 |.int i,.int j=>if(PM i&&PM j)=true then some (fH i j)else none
 |_,_=>none
@[simp] def RK(f g:sf)(env:Env):iR2 f g env=((f env).bind λp=>(g env).bind λq=>match p,q with
 |.int i,.int j=>if(PM i&&PM j)=true then some (fH i j)else none
 |_,_=>none):=id rfl
def IV{H1:Hp}{lo hi:Int}:IW b Ow fr H1 (Sk lo (hi - lo).toNat) (fH lo hi):=by
 intro F H B h1 I;have n:(fH lo hi).length=(hi - lo).toNat:=by unfold fH;rw[ay,kP]
 refine⟨λi p j=>?_,by show(hi - lo).toNat<=(fH lo hi).length;rw[n];exact ax _⟩;have q:i<(hi - lo).toNat:=by rw[←n];exact(ap.mp j).1
 refine⟨q,λx H' y=>?_⟩;obtain⟨e,ex⟩:=y;subst e ex;unfold fH at j;rw[cp,List.getElem?_range q]at j;cases j;exact⟨DH.refl _,.int _⟩
set_option tactic.hygienic true in def U7{p pos:Pos}(U:X.mg "range" = none)(J:SE X b G m e h)(I:Gl X "range" := by rfl)(O:autoParam (starEach [e] X.env=[(false,eval e X.env)]) r0_)(Z:autoParam (GB X e []) r0_):SI X b G fr tg (.Call (.Name "range" p) [e] [] pos) (iR1 h):=by
 refine PI.imp (rM I U (aB J.bor aM Z) O) ?_;rintro EK H R ⟨Ow,env,ps,E,F,k⟩;obtain⟨p1,Y,n⟩:=aC F;refine⟨Ow,env,p1,E,Y,λv H1 s r=>?_⟩;have M:DO b.C (Bs b Ow) H1 v p1:=r;cases p1<;>simp only at n<;>first|cases n|skip
 rename_i j;split at n
 ·rename_i B
  cases n;have q:IW b Ow fr H1 (Sk 0 (j - 0).toNat) (fH 0 j):=IV;rw[Int.sub_zero]at q;exact⟨j,by rw[M.int],(pQ B).1,(pQ B).2,k _ _ s q⟩
 ·cases n
set_option tactic.hygienic true in def Nu{p pos:Pos}(hm:X.mg "range" = none)(he:SE X b G m1 e1 h1)(M:SE X b G m2 e2 h2)(hg:Gl X "range" := by rfl)(hs:autoParam (starEach [e1,e2] X.env=[(false,eval e1 X.env),(false,eval e2 X.env)]) r0_)(J:autoParam (starEach [e2] X.env=[(false,eval e2 X.env)]) r0_)
  (Z:autoParam (starEach [e1,e2] X.env=(false,eval e1 X.env)::starEach [e2] X.env) r0_) (F:autoParam (GB X e2 []) r0_):SI X b G fr tg (.Call (.Name "range" p) [e1,e2] [] pos) (iR2 h1 h2):=by
 refine PI.imp (Hx hg hm (aB he.bor (aB M.bor aM F) Z) hs J) ?_;rintro EK H R ⟨Ow,env,ps,E,I,k⟩;obtain⟨p1,Y,n⟩:=aC I;clear I;obtain⟨p2,S4,q⟩:=aC n;clear n;refine⟨Ow,env,p1,E,Y,λv H1 s r=>⟨Ow,env,p2,E.up s,S4,λU H2 s2 r2=>?_⟩⟩;have O:DO b.C (Bs b Ow) H1 v p1:=r;have TN:DO b.C (Bs b Ow) H2 U p2:=r2;cases p1<;>cases p2<;>simp only at q<;>first|cases q|skip
 rename_i i j;split at q
 ·rename_i B
  cases q;exact⟨i,j,by rw[O.int,TN.int],(by rw[cb]at B;exact⟨(pQ B.1).1,(pQ B.1).2,(pQ B.2).1,(pQ B.2).2⟩),k _ _ (s.trans s2) IV⟩
 ·cases q
noncomputable def mz(n:Nat):List PV->List PV
 |[]=>[]
 |x::xs=>.tup [.int (n:Nat),x]::mz (n+1) xs
theorem yw{p:PV}:∀{xs:sv}{n i:Nat},(mz n xs)[i]?=some p->∃x,xs[i]?=some x/\p=.tup [.int ((n+i:Nat):Int),x]
 |[],n,i,e=>by simp[mz]at e
 |x::xs,n,0,e=>by
  simp[mz]at e;exact⟨x,rfl,by rw[←e];rfl⟩
 |x::xs,n,i+1,e=>by
  simp only[mz,kF]at e;obtain⟨y,h1,h2⟩:=yw e;exact⟨y,by simpa using h1,by rw[h2,Nat.add_right_comm,qq]⟩
theorem sG:∀{xs:sv}{n:Nat},(mz n xs).length=xs.length
 |[],_=>rfl
 |x::xs,n=>by simp[mz,sG (xs:=xs)]
end
noncomputable def gN(i:Nat)(p:PV)(env:Env):Option Env:=some (env.set i (some p))
@[simp] def W5(i:Nat)(p:PV)(env:Env):gN i p env=(some (env.set i (some p))):=id rfl
@[simp] noncomputable def ZV:List Nat->List PV->Env->Option Env
 |[],[],env=>some env
 |i::is,p::ps,env=>ZV is ps (env.set i (some p))
 |_,_,_=>none
noncomputable def gT(is:oT)(p:PV)(env:Env):Option Env:=match p with
 |.tup xs=>ZV is xs env
 |_=>none
@[simp] def W6(is:oT)(p:PV)(env:Env):gT is p env=(match p with
 |.tup xs=>ZV is xs env
 |_=>none):=id rfl
inductive tMG(b:BX)(G:oT)(g:PV->Env->Option Env)(v:V)(EK:St)(H:Hp)(Q:(St->Hp->Prop)):Prop
 |mk (Ow:_) (env:_) (p:_) (env':_) (h0:ER b Ow G EK env H) (h1:Rep b.C (Bs b Ow) H v p) (h2:g p env=some env') (h3:∀ EU,ER b Ow G EU env' H->Q EU H):tMG b G g v EK H Q
inductive tMGs(b:BX)(G:oT)(is:oT)(vs:sx)(EK:St)(H:Hp)(Q:(St->Hp->Prop)):Prop
 |mk (Ow:_) (env:_) (ps:_) (env':_) (h0:ER b Ow G EK env H) (h1:DI b.C (Bs b Ow) H vs ps) (h2:ZV is ps env=some env') (h3:∀ EU,ER b Ow G EU env' H->Q EU H):tMGs b G is vs EK H Q
abbrev SG(X:Cx)(b:BX)(G:oT)(tg:Expr)(g:PV->Env->Option Env):Prop:=PG X tg (tMG b G g)
abbrev SGs(X:Cx)(b:BX)(G:oT)(tgs:rh)(is:oT):Prop:=W7 X tgs (tMGs b G is)
def PG.imp{t u:TG}(h:PG X tg t)(i:∀v EK H Q,u v EK H Q->t v EK H Q):PG X tg u:=λDE s EK H v w Q I r q=>h DE s EK H v w Q I r (i v EK H Q q)
def W7.imp{tg:rh}{t u:X8}(h:W7 X tg t)(i:∀v EK H Q,u v EK H Q->t v EK H Q):W7 X tg u:=λDE s EK H v w Q I r q=>h DE s EK H v w Q I r (i v EK H Q q)
variable {f:Env->Option Out}
section
variable {X:Cx}{b:BX}{G G' L:oT}{ro:Bool}{pos:Pos}
def lO(i:Nat){x:Str}(nd:X.N.Nodup)(q:autoParam (i∉G) r1_)(n:autoParam (b.fx i=none) r7_)(hi:autoParam (X.N[i]?=some x) r0_)(B:autoParam (Loc X.env.scope x) r6_)
  (j:autoParam (QE X x) r3_):SG X b G (.Name x pos) (gN i):=
 PG.imp (cX nd hi B j)<|by rintro v EK H Q ⟨Ow,env,p,env',E,r,e,k⟩;cases e;exact k _ (E.set q r n)
def ud:SGs X b G [] []:=W7.imp jL<|by
 rintro vs EK H Q ⟨Ow,env,ps,env',E,r,e,k⟩;cases ps with
 |nil=>cases r;cases e;exact⟨rfl,k EK E⟩
 |cons p ps=>cases e
def fU(i:Nat){x:Str}{es:rh}{is:oT}{p1:Pos}(nd:X.N.Nodup)(h2:SGs X b G es is)(I:autoParam (i∉G) r1_)(q:autoParam (b.fx i=none) r7_)(hi:autoParam (X.N[i]?=some x) r0_)(J:autoParam (Loc X.env.scope x) r6_)
  (j:autoParam (QE X x) r3_) (F:autoParam ((assignEach (.Name x p1::es) X.env).map (·.2)=assign (.Name x p1) X.env::(assignEach es X.env).map (·.2)) r0_):SGs X b G (.Name x p1::es) (i::is):=
 W7.imp (cY (cX nd hi J j) h2 F)<|by
  rintro vs EK H Q ⟨Ow,env,ps,env',E,r,e,k⟩;cases ps with
  |nil=>cases e
  |cons p ps=>
   cases r with
   |cons B n=>exact⟨_,_,rfl,Ow,env.set i (some p),ps,env',E.set I B q,n,e,k⟩
theorem xG:∀{is:oT}{ps:sv}{env env':Env},ZV is ps env=some env'->ps.length=is.length
 |[],[],_,_,_=>rfl
 |i::is,p::ps,env,env',e=>by simp[xG (is:=is) (ps:=ps) e]
 |[],_::_,_,_,e=>by cases e
 |_::_,[],_,_,e=>by cases e
set_option tactic.hygienic true in def Gg{es:rh}{k:Nat}{is:oT}(h:SGs X b G es is)(q:autoParam (X.calm=true) r0_)(B:autoParam ((assignEach es X.env).length=is.length) r0_)(n:autoParam ((assignEach es X.env).findIdx? (·.1)=none) r0_)(F:autoParam (X.K=b.C.K) r0_):SG X b G (.Tuple es k pos) (gT is):=
 PG.imp (mL q h B n)<|by
  rintro v EK H Q ⟨Ow,env,p,env',E,r,e,k⟩;cases p<;>simp only[gT]at e<;>first|cases e|skip
  rename_i xs;obtain⟨a,vs,rfl,I,j⟩:=DO.tup (.inl r);rw[F];exact⟨a,vs,rfl,I.sq,by rw[j.length];exact xG e,Ow,env,xs,env',E,j,e,k⟩
noncomputable def cP(g:PV->Env->Option Env)(ds:oT)(body:Env->Option Out):List PV->Env->Option Out
 |[],env=>some (.nx env)
 |x::xs,env=>(g x env).bind λe1=>(body e1).bind λo=>match o with
  |.nx e=>cP g ds body xs (Iy ds e)
  |.ct e=>cP g ds body xs (Iy ds e)
  |.bk e=>some (.nx (Iy ds e))
  |.rt p=>some (.rt p)
noncomputable def gK(g:PV->Env->Option Env)(src:sj)(ds:oT)(body:Env->Option Out)(env:Env):Option Out:=(src env).bind λxs=>cP g ds body xs (Iy ds env)
@[simp] def Pj(g:PV->Env->Option Env)(j:sj)(ds:oT)(body:Env->Option Out)(env:Env):gK g j ds body env=((j env).bind λxs=>cP g ds body xs (Iy ds env)):=id rfl
def fW{it:Expr}{body:rg}{g:PV->Env->Option Env}{O:sj}(ds:oT)(hi:SI X b G true tg it O)(hg:SG X b G tg g)(hb:MO X b G G G ro body f)(hp:PassesOwn (model X.prog X.w) X.A X.env X.xe)(hc:autoParam (X.calm=true) r0_)
  (hs:autoParam (∀x,foldedSetIterable it X.env x=pure x) r5_):SS X b G G L ro (.For tg it body [] pos) (gK g O ds f):=by
 refine PS.imp (mO hp hc hi hg hb hs) ?_;rintro D EK H ⟨Ow,env,out,E,hf,k⟩;obtain⟨ps,Lu,hl⟩:=aC hf;refine⟨Ow,env,ps,E,Lu,λJ H1 s1 iw=>?_⟩;refine⟨λi m E9 H2=>m=ps.length - i/\i<=ps.length/\∃n B,ER b n G E9 B H2/\Ex (Bs b Ow) H1 (Bs b n) H2/\cP g ds f (ps.drop i) B=some out,⟨ps.length,by simp,cm _,Ow,Iy ds env,(E.up s1).Iy,Ex.refl _ _,by simpa using hl⟩,?_⟩;rintro i m E9 H2 ⟨rfl,hi,n,B,E2,Y,j⟩;obtain⟨w1,w2⟩:=iw n H2 (λz=>by cases z) Y λa=>E2.fresh;have xk:Ex (Bs b Ow) H (Bs b n) H2:=(Ex.of_same s1).trans Y;by_cases FA:i<ps.length
 ·rw[cq FA]at j
  obtain⟨e1,Xb,j⟩:=aC j;obtain⟨o,ho,j⟩:=aC j;obtain⟨g1,g2⟩:=w1 i ps[i] (aw FA);refine .inr ⟨g1,fun F H'=>i+1<=ps.length/\∃n B,ER b n G F B H'/\Ex (Bs b Ow) H1 (Bs b n) H'/\cP g ds f (ps.drop (i+1)) B=some out,fun F H' q=>⟨ps.length - (i+1),by omega,rfl,q⟩,λx H' y=>?_⟩;obtain⟨Z,r3⟩:=g2 x H' y;refine⟨n,B,_,e1,E2.up Z,r3,Xb,fun FG E3=>⟨n,e1,o,E3,ho,?_⟩⟩;cases o with
  |nx e'=>exactλI F ND U M=>⟨FA,I,_,U.Iy,Y.trans ((Ex.of_same Z).trans M),j⟩
  |ct e'=>exactλI F ND U M=>⟨FA,I,_,U.Iy,Y.trans ((Ex.of_same Z).trans M),j⟩
  |bk e'=>cases j;exactλI F ND U M=>k I F ND U.Iy (xk.trans ((Ex.of_same Z).trans M))
  |rt p=>cases j;exact k
 ·have e:i=ps.length:=by omega
  subst e;rw[ox]at j;cases j;exact .inl ⟨w2,k n E9 H2 E2 xk⟩
noncomputable def ue(c:si)(ds:oT)(body:Env->Option Out):Nat->Env->Option Out
 |0,_=>none
 |n+1,env=>(c env).bind λk=>if k=true then(body env).bind λo=>match o with
   |.nx e=>ue c ds body n (Iy ds e)
   |.ct e=>ue c ds body n (Iy ds e)
   |.bk e=>some (.nx (Iy ds e))
   |.rt p=>some (.rt p)
  else some (.nx env)
noncomputable def An(n:Nat)(c:si)(ds:oT)(body:Env->Option Out)(env:Env):Option Out:=ue c ds body n (Iy ds env)
@[simp] def Vo(n:Nat)(c:si)(ds:oT)(body:Env->Option Out)(env:Env):An n c ds body env=(ue c ds body n (Iy ds env)):=id rfl
def Pk{c:Expr}{body:rg}{t:si}(n:Nat)(ds:oT)(hc:ST X b G c t)(hb:MO X b G G G ro body f)(hp:PassesOwn (model X.prog X.w) X.A X.env X.xe):SS X b G G L ro (.While c body [] pos) (An n t ds f):=by
 refine PS.imp (zM hp hc hb) ?_;rintro D EK H ⟨Ow,env,out,E,hf,k⟩;refine⟨λm Z H2=>∃B F,ER b B G Z F H2/\Ex (Bs b Ow) H (Bs b B) H2/\ue t ds f m F=some out,⟨n,Ow,Iy ds env,E.Iy,Ex.refl _ _,hf⟩,?_⟩;rintro m Z H2 ⟨B,F,E2,Y,j⟩;cases m with
 |zero=>cases j
 |succ m=>
  obtain⟨kk,hk,j⟩:=aC j;refine⟨B,F,kk,E2,hk,λH3 J=>?_⟩;cases kk with
  |false=>cases j;exact jP (k B Z H3 (E2.up J) (Y.trans (.of_same J)))
  |true=>
   refine iD ⟨fun I H'=>∃B F,ER b B G I F H'/\Ex (Bs b Ow) H (Bs b B) H'/\ue t ds f m F=some out,fun I H' q=>⟨m,ia m,q⟩,?_⟩;obtain⟨o,ho,j⟩:=aC j;refine⟨B,F,o,E2.up J,ho,?_⟩;cases o with
   |nx e'=>exactλM I ND U O=>⟨M,_,U.Iy,Y.trans ((Ex.of_same J).trans O),j⟩
   |ct e'=>exactλM I ND U O=>⟨M,_,U.Iy,Y.trans ((Ex.of_same J).trans O),j⟩
   |bk e'=>cases j;exactλM I ND U O=>k M I ND U.Iy (Y.trans ((Ex.of_same J).trans O))
   |rt p=>cases j;exact k
end
noncomputable def m7(DT:List (Option Nat))(env:Env):Env:=DT.map λo=>match o with|some i=>(env[i]?).getD none|none=>none
@[simp] def V7(DT:List (Option Nat))(env:Env):m7 DT env=(DT.map λo=>match o with|some i=>(env[i]?).getD none|none=>none):=id rfl
noncomputable def jf(DT:List (Option Nat))(G:oT):List Nat:=(List.range DT.length).filter λj=>match DT[j]? with|some (some i)=>decide (i∈G)|_=>false
def BX.in(b:BX):BX:={b with fx:=λ_=>none}
noncomputable def fX(env:Env)(g:PV->Env->Option Env)(t:si)(f:sf):List PV->Option (List PV)
 |[]=>some []
 |x::xs=>(g x env).bind λe=>(t e).bind λk=>if k=true then(f e).bind λy=>(fX env g t f xs).bind λys=>some (y::ys)else fX env g t f xs
noncomputable def d8(DT:List (Option Nat))(src:sj)(g:PV->Env->Option Env)(t:si)(f:sf)(env:Env):Option PV:=(src env).bind λxs=>if xs.length<=1000000 then(fX (m7 DT env) g t f xs).bind λys=>some (.lst ys)else none
@[simp] def VB(DT:List (Option Nat))(j:sj)(g:PV->Env->Option Env)(t:si)(f:sf)(env:Env):d8 DT j g t f env=((j env).bind λxs=>if xs.length<=1000000 then(fX (m7 DT env) g t f xs).bind λys=>some (.lst ys)else none):=id rfl
noncomputable def iY(env:Env):Option Bool:=some true
@[simp] def VD(env:Env):iY env=(some true):=id rfl
set_option tactic.hygienic true in def HU{DT:List (Option Nat)}{G:oT}{j:Nat}:j∈jf DT G↔∃i,DT[j]?=some (some i)/\i∈G:=by
 unfold jf;rw[ef,fz];constructor
 ·rintro⟨h1,h2⟩
  split at h2
  ·rename_i i e;exact⟨i,e,by simpa using h2⟩
  ·cases h2
 ·rintro⟨i,e,h⟩
  refine⟨(ap.mp e).1,?_⟩;rw[e];simpa using h
def qF{DT:List (Option Nat)}{env:Env}{j:Nat}{p:PV}(h:(m7 DT env)[j]?=some (some p)):∃i,DT[j]?=some (some i)/\env[i]?=some (some p):=by
 unfold m7 at h;rw[cp]at h;cases q:DT[j]? with
 |none=>rw[q]at h;cases h
 |some o=>
  rw[q]at h;cases o with
  |none=>cases h
  |some i=>
   refine⟨i,rfl,?_⟩;have h':(env[i]?).getD none=some p:=by simpa using h
   cases q2:env[i]? with
   |none=>rw[q2]at h';cases h'
   |some o=>rw[q2]at h';simp at h';rw[h']
def oJ{DT:List (Option Nat)}{j i:Nat}(h:DT[j]?=some (some i))(e:EK[i]?=some (some v)):(cU DT EK)[j]?=some (some v):=by
 unfold cU;rw[cp,h];simp[Af,e]
noncomputable def pR(DT:List (Option Nat)):Bool:=(List.range DT.length).all λj=>(List.range DT.length).all λk=>match DT[j]?,DT[k]? with
 |some (some i),some (some i')=>decide (i=i'->j=k)
 |_,_=>true
def I_{DT:List (Option Nat)}(h:pR DT=true){j k i:Nat}(h1:DT[j]?=some (some i))(h2:DT[k]?=some (some i)):j=k:=by
 have a:=eS.mp h j (fz.mpr (ap.mp h1).1);have c:=eS.mp a k (fz.mpr (ap.mp h2).1);rw[h1,h2]at c;simpa using c
def ER.DT{b:BX}{Ow:se}{G:oT}{EK:St}{env:Env}{H:Hp}{DT:List (Option Nat)}(E:ER b Ow G EK env H)(hc:pR DT=true):ER b.in Ow (jf DT G) (cU DT EK) (m7 DT env) H:=by
 refine⟨by unfold cU m7;rw[ay,ay],E.same,E.live,E.new,λj p e n=>?_,λj p e n=>?_,λj k a p q e1 n1 s1 e2 n2 s2=>?_,λk v z=>by cases z⟩
 ·obtain⟨i,h1,h2⟩:=qF e
  obtain⟨v,B,F⟩:=E.val i p h2 λz=>n (HU.mpr ⟨i,h1,z⟩);exact⟨v,oJ h1 B,F⟩
 ·obtain⟨i,h1,h2⟩:=qF e
  obtain⟨i',M,O⟩:=HU.mp n;rw[h1]at M;cases M;obtain⟨a,B,F,h5⟩:=E.own i p h2 O;exact⟨a,oJ h1 B,F,h5⟩
 ·obtain⟨i,h1,h2⟩:=qF e1
  obtain⟨i',M,O⟩:=HU.mp n1;rw[h1]at M;cases M;obtain⟨Z,B,F⟩:=qF e2;obtain⟨k'',I,J⟩:=HU.mp n2;rw[B]at I;cases I;obtain⟨c,g1,_,_⟩:=E.own i p h2 O;obtain⟨c2,g2,_,_⟩:=E.own Z q F J;have Y:=oJ (DT:=DT) h1 g1;have U:=oJ (DT:=DT) B g2;rw[s1]at Y;cases Y;rw[s2]at U;cases U;have:=E.sep i Z _ p q h2 O g1 F J g2;subst this;exact I_ hc h1 B
def ER.more{b:BX}{G:oT}{env:Env}{D:Addr}(E:ER b Ow G EK env H)(B:H D=none)(s:DH H H')(F:∃o,H' D=some o):ER b (λc=>Ow c\/c=D) G EK env H'/\Ex (Bs b Ow) H (Bs b λc=>Ow c\/c=D) H':=by
 have j:Ex (Bs b Ow) H (Bs b λc=>Ow c\/c=D) H':=λc o h=>⟨λq=>⟨s _ _ h,λz=>z.elim q.1 (au h B),q.2⟩,λ_=>s _ _ h⟩;exact⟨⟨E.len,E.same.trans s,λc w=>w.elim (λz=>let ⟨o,h⟩:=E.live c z;⟨o,s _ _ h⟩) λz=>by subst z;exact F,λc w=>w.elim (E.new c) λz=>by subst z;exact E.same.free B,λi p e n=>let ⟨v,h1,h2⟩:=E.val i p e n;⟨v,h1,h2.ex j⟩,
  λi p e n=>let ⟨a,h1,h2,h3⟩:=E.own i p e n;⟨a,h1,.inl h2,h3.ex j λo z=>s _ _ z⟩,E.sep,E.fix⟩,j⟩
structure Rl(K:W.Frag)(DT:List (Option Nat))(g:TG)(gm:PV->Env->Option Env):Prop where
 go:∀(b:BX) (Ow:se) (G:oT) (EK:St) (env e:Env) (H:Hp) (v:V) (p:PV) (Q:St->Hp->Prop),b.C.K=K->(∀i,b.fx i=none)->ER b Ow (jf DT G) (cU DT EK) (m7 DT env) H->Rep b.C (Bs b Ow) H v p->gm p (m7 DT env)=some e->
  (∀ EU,Kp (cU DT EK) EU->ER b Ow (jf DT G) EU e H->Q EU H)->g v (cU DT EK) H Q
def Ja{n:St}{i:Nat}(h:Kp EK n)(q:∀w,EK[i]?≠some (some w)):Kp EK (n.set i (some v)):=by
 refine⟨by rw[eg];exact h.1,λj w e=>?_⟩;by_cases hj:i=j
 ·subst hj;exact absurd e (q w)
 ·rw[bv hj];exact h.2 j w e
def DY(EK:St):Kp EK EK:=⟨rfl,λ_ _ e=>e⟩
def v4{DT:List (Option Nat)}{i:Nat}(h:DT[i]?=some none)(w:V):(cU DT EK)[i]?≠some (some w):=by
 unfold cU;rw[cp,h];intro z;cases z
def yx{DT:List (Option Nat)}{G:oT}{i:Nat}(h:DT[i]?=some none):i∉jf DT G:=λz=>by
 obtain⟨k,e,_⟩:=HU.mp z;rw[h]at e;cases e
def qG{DT:List (Option Nat)}(i:Nat)(h:autoParam (DT[i]?=some none) r0_):Rl K DT (aW i) (gN i):=
 ⟨λb Ow G EK env e H v p Q q n E r j k=>by
  cases j;exact k _ (Ja (DY _) (v4 h)) (E.set (yx h) r (n _))⟩
def Ao:List Nat->X8
 |[]=>zL
 |i::is=>IU (aW i) (Ao is)
set_option tactic.hygienic true in def Gh{DT:List (Option Nat)}(is:oT)(h:autoParam ((is.all λi=>decide (DT[i]?=some none))=true) r0_):Rl K DT (QN K is.length (Ao is)) (gT is):=
 ⟨λb Ow G EK env e H v p Q Y Z E r q k=>by
  subst Y;cases p<;>simp only[gT]at q<;>first|cases q|skip
  rename_i xs;obtain⟨a,vs,rfl,ha,O⟩:=DO.tup (.inl r);refine⟨a,vs,rfl,ha.sq,by rw[O.length];exact xG q,?_⟩;have J:∀(is:oT) (vs:sx) (xs:sv) (j:St) (n:Env),(is.all λi=>decide (DT[i]?=some none))=true->Kp (cU DT EK) j->ER b Ow (jf DT G) j n H->DI b.C (Bs b Ow) H vs xs->ZV is xs n=some e->Ao is vs j H Q:=by
   intro is;induction is with
   |nil=>
    intro vs xs j n _ I M B e1;cases xs with
    |nil=>cases B;cases e1;exact⟨rfl,k j I M⟩
    |cons x xs=>cases e1
   |cons i is ih=>
    intro vs xs j n F I M B e1;cases xs with
    |nil=>cases e1
    |cons x xs=>
     cases B with
     |cons U r3=>
      rw[iN,cb]at F;have hi:DT[i]?=some none:=by simpa using F.1
      exact⟨_,_,rfl,ih _ xs _ _ F.2 (Ja I (v4 hi)) (M.set (yx hi) U (Z _)) r3 e1⟩
  exact J is vs xs _ _ h (DY _) E O q⟩
section
variable {X:Cx}{b:BX}{G L:oT}{ro:Bool}{pos:Pos}{tg iter elt:Expr}{ifs:rh}{scope Fu:Scope}{ON N:rj}{DT:List (Option Nat)}{src:sj}{g:TG}{gm:PV->Env->Option Env}{t:si}{f:sf}
set_option tactic.hygienic true in def Gi{Q:VK}(YY:Rl b.C.K DT g gm)(hc:pR DT=true)(h:tM b G .own (d8 DT src gm t f) EK H Q):
  ig (tMI b G false src) DT g (Xv b.in (jf DT G) t) (tM b.in (jf DT G) .val f) EK H Q:=by
 obtain⟨Ow,env,p,E,j,k⟩:=h;obtain⟨xs,YZ,j⟩:=aC j;split at j
 ·rename_i hlen
  obtain⟨ys,hys,j⟩:=aC j;cases j;refine⟨Ow,env,xs,E,YZ,λJ H1 s1 iw D M=>?_⟩;have E1:=E.up s1;have nD:H D=none:=s1.free M;refine⟨λi m vs H2=>m=xs.length - i/\i<=xs.length/\DH H1 H2/\H2 D=some (.lst vs)/\vs.length<=i/\∃done rest,DI b.C (Bs b λc=>Ow c\/c=D) H2 vs done/\fX (m7 DT env) gm t f (xs.drop i)=some rest/\done++rest=ys,
   ⟨xs.length,by simp,cm _,aG M _,aq,ax _,[],ys,.nil,by simpa using hys,rfl⟩,?_⟩
  rintro i m vs H2 ⟨rfl,hi,B,I,hv,done,rest,rd,cl,F⟩;refine⟨I,?_⟩;obtain⟨E2,x2⟩:=E1.more M B ⟨_,I⟩;obtain⟨w1,w2⟩:=iw _ H2 (λ_=>B) x2 λa=>E2.fresh;by_cases FA:i<xs.length
  ·rw[cq FA]at cl
   obtain⟨e1,Xb,cl⟩:=aC cl;obtain⟨kk,hk,cl⟩:=aC cl;obtain⟨g1,g2⟩:=w1 i xs[i] (aw FA);refine .inr ⟨g1,λY H'=>i+1<=xs.length/\DH H1 H'/\H' D=some (.lst Y)/\Y.length<=i+1/\∃done rest,DI b.C (Bs b λc=>Ow c\/c=D) H' Y done/\fX (m7 DT env) gm t f (xs.drop (i+1))=some rest/\done++rest=ys,λY H' q=>⟨xs.length - (i+1),by omega,rfl,q⟩,λx H' y=>?_⟩;obtain⟨s3,r3⟩:=g2 x H' y;have E3:=(E2.up s3).DT hc;refine YY.go b.in _ G EK env e1 H' x _ _ rfl (λ_=>rfl) E3 r3 Xb fun FG kp E4=>⟨kp,_,e1,kk,E4,hk,λH4 s4=>?_⟩
   have d4:H4 D=some (.lst vs):=s4 _ _ (s3 _ _ I);have U:DH H2 H4:=s3.trans s4;cases kk with
   |false=>
    refine jP ⟨FA,B.trans U,d4,nE hv,done,rest,rd.ex (.of_same U),?_,F⟩;simpa using cl
   |true=>
    simp only[fT]at cl;obtain⟨y1,hy1,cl⟩:=aC cl;obtain⟨ys1,n,cl⟩:=aC cl;cases cl;refine iD ⟨_,e1,y1,E4.up s4,hy1,λv5 H5 O r5=>⟨O _ _ d4,cg (by omega),FA,?_,aq,by rw[ci];show vs.length+1<=i+1;omega,done++[y1],ys1,?_,n,by rw[kQ];exact F⟩⟩
    ·exactλc o h=>by rw[az (au h M)];exact O _ _ (U _ _ (B _ _ h))
    ·have Z:Rep b.C (Bs b λc=>Ow c\/c=D) H5 v5 y1:=r5
     refine((rd.ex (.of_same (U.trans O))).append (.cons Z .nil)).ex ?_;exact m6 (b:=b) (Ow:=λc=>Ow c\/c=D) (.inr rfl) (O _ _ d4) rfl
  ·have e:i=xs.length:=by omega
   subst e;rw[ox]at cl;cases cl;rw[cy]at F;subst F;refine .inl ⟨w2,k _ H2 (s1.trans B) ⟨D,rfl,nD,vs,I,rd.ex (bf λc o _ q=>⟨⟨λz=>q.1 (.inl z),q.2⟩,λz=>q.1 (.inr z)⟩)⟩⟩
 ·cases j
def jg{X:Cx}:oW X [] (Xv b G iY):=by rintro DE s EK H Q I ⟨Ow,env,k,E,j,n⟩;cases j;exact mV DE s EK H Q I (n H (DH.refl _))
def jW(S:Yf Fu scope ON N DT)(B:Rl b.C.K DT g gm)(hi:SI X b G false tg iter src)(n:∀C s H j,PG (X.comp N scope C s H j) tg g)(F:∀C s H j,oW (X.comp N scope C s H j) ifs (Xv b.in (jf DT G) t))(q:∀C s H j,SE (X.comp N scope C s H j) b.in (jf DT G) .val elt f)
  (M:autoParam (pR DT=true) r0_) (I:autoParam (X.calm=true) r0_) (U:autoParam (X.env.scope=Fu) r0_) (O:autoParam (X.N=ON) r0_) (J:autoParam (∀x,foldedSetIterable iter X.env x=pure x) r5_):SE X b G .own (.ListComp elt [⟨tg,iter,ifs,0⟩] scope pos) (d8 DT src gm t f):=
 PE.imp (tY S hi n F q I U O J) fun EK H Q h=>Gi B M h
def sH(i:Nat){y:Str}{B F:Pos}(nd:X.N.Nodup)(S:Yf Fu scope ON N DT)(I:Rl b.C.K DT g gm)(hi:SI X b G false tg iter src)(hg:∀C s H j,PG (X.comp N scope C s H j) tg g)(J:∀C s H j,oW (X.comp N scope C s H j) ifs (Xv b.in (jf DT G) t))(he:∀C s H j,SE (X.comp N scope C s H j) b.in (jf DT G) .val elt f)
  (U:autoParam (i∉G) r1_) (hx:autoParam (b.fx i=none) r7_) (O:autoParam (X.N[i]?=some y) r0_) (hy:autoParam (Loc X.env.scope y) r6_) (TR:autoParam (pR DT=true) r0_)
  (Y:autoParam (swapsWith (.ListComp elt [⟨tg,iter,ifs,0⟩] scope pos) (some (.Name y B)) F.line X.env=pure true) r0_)
  (hc:autoParam (X.calm=true) r0_) (Z:autoParam (X.env.scope=Fu) r0_) (hN:autoParam (X.N=ON) r0_) (M:autoParam (∀x,foldedSetIterable iter X.env x=pure x) r5_)
  (n:autoParam (QE X y) r3_):
  SS X b G G L ro (.Assign [.Name y B] (.ListComp elt [⟨tg,iter,ifs,0⟩] scope pos) F) (aZ i (d8 DT src gm t f)):=
 PS.imp (DR S nd O hy hi hg J he Y hc Z hN M n) λD EK H q=>Gi I TR (by
  obtain⟨Ow,env,p,E,n,k⟩:=RD U hx q;exact⟨Ow,env,p,E,n,λv H' s r=>k v H' s (r.val E (by intro z;cases z))⟩)
def Pn(i:Nat){y:Str}{B F:Pos}(nd:X.N.Nodup)(S:Yf Fu scope ON N DT)(U:Rl b.C.K DT g gm)(hi:SI X b G false tg iter src)(J:∀C s H n,PG (X.comp N scope C s H n) tg g)(Y:∀C s H n,oW (X.comp N scope C s H n) ifs (Xv b.in (jf DT G) t))(M:∀C s H n,SE (X.comp N scope C s H n) b.in (jf DT G) .val elt f)
  (hG:autoParam (i∈G) r1_) (O:autoParam (b.fx i=none) r7_) (Of:autoParam (X.N[i]?=some y) r0_) (hy:autoParam (Loc X.env.scope y) r6_) (TR:autoParam (pR DT=true) r0_)
  (W9:autoParam (swapsWith (.ListComp elt [⟨tg,iter,ifs,0⟩] scope pos) (some (.Name y B)) F.line X.env=pure true) r0_)
  (Z:autoParam (X.calm=true) r0_) (LL:autoParam (X.env.scope=Fu) r0_) (hN:autoParam (X.N=ON) r0_) (hs:autoParam (∀x,foldedSetIterable iter X.env x=pure x) r5_)
  (I:autoParam (QE X y) r3_):
  SS X b G G L ro (.Assign [.Name y B] (.ListComp elt [⟨tg,iter,ifs,0⟩] scope pos) F) (aZ i (d8 DT src gm t f)):=
 PS.imp (DR S nd Of hy hi J Y M W9 Z LL hN hs I) λD EK H q=>Gi U TR (Nt (λj=>⟨.inl,λz=>z.elim id λy=>y▸hG⟩) O q)
end
noncomputable def bM(n k:Nat)(ro:Bool)(f:Env->Option Out)(ps:sv):Option PV:=if ps.length=k then(f (ps.map some++List.replicate (n - k) none)).bind λo=>match o with
 |.nx _=>if ro=true then none else some .DS
 |.rt p=>some p
 |_=>none
 else none
@[simp] def V8(n k:Nat)(ro:Bool)(f:Env->Option Out)(ps:sv):bM n k ro f ps=(if ps.length=k then(f (ps.map some++List.replicate (n - k) none)).bind λo=>match o with
 |.nx _=>if ro=true then none else some .DS
 |.rt p=>some p
 |_=>none
 else none):=id rfl
def uO{N:rj}{ps:sv}{G:oT}(r:DI C A H vs ps)(I:∀i,i∈G->ps.length<=i)(O:ps.length<=N.length):ER ⟨C,A,H,λ_=>none⟩ (λ_=>False) G (L2.start N vs) (ps.map some++List.replicate (N.length - ps.length) none) H:=by
 have Z:=r.length;have B:∀i p,(ps.map some++List.replicate (N.length - ps.length) none)[i]?=some (some p)->ps[i]?=some p:=λi p e=>by
  by_cases hi:i<ps.length
  ·rw[dP (by rw[ay];exact hi),cp]at e
   cases q:ps[i]? with
   |none=>rw[q]at e;cases e
   |some p'=>rw[q]at e;cases e;rfl
  ·rw[i8 (by rw[ay];omega),nX]at e
   split at e<;>cases e
 refine⟨?_,DH.refl _,λa w=>w.elim,λa w=>w.elim,λi p e n=>?_,λi p e n=>?_,λi j a p q e1 M U e2 n2 Y=>?_,λk v z=>by cases z⟩
 ·unfold L2.start
  simp only[ci,ay,pz];omega
 ·obtain⟨v,F,J⟩:=r.get (B i p e)
  refine⟨v,?_,J.ex (bf λa o _ q=>⟨λz=>z,.inl q⟩)⟩;unfold L2.start;have hi:i<vs.length:=(ap.mp F).1;rw[dP (by rw[ay];exact hi),cp,F];rfl
 ·have h1:=(ap.mp (B i p e)).1
  have h2:=I i n;omega
 ·have h1:=(ap.mp (B i p e1)).1
  have h2:=I i M;omega
set_option tactic.hygienic true in def D_{N:rj}{n k:Nat}{G G' L:oT}{body:rg}(Y:N.length=n)(hk:k<=n)(M:(G.all λi=>decide (k<=i))=true)(I:∀A H,MO X ⟨C,A,H,λ_=>none⟩ G G' L ro body f)
  {vs:sx}{H:Hp}{Q:VK}{E:XK}(h:HA C (bM n k ro f) ro vs H Q E):∃t,FX X body t/\t {nx:=λ_ H'=>Q .DS H',rt:=Q} (L2.start N vs) H:=by
 obtain⟨A,ps,p,r,j,F⟩:=h;refine⟨_,I A H,?_⟩;unfold bM at j;split at j
 ·rename_i B
  obtain⟨o,J,j⟩:=aC j;refine⟨_,_,o,uO (N:=N) (G:=G) r (λi hi=>by rw[B];simpa using eS.mp M i hi) (by omega),by rw[Y,B];exact J,?_⟩;cases o with
  |nx e=>
   cases ro with
   |true=>cases j
   |false=>cases j;exactλZ EU H' U _=>F .DS H' U.same .DS
  |rt q=>cases j;exactλv H' s O=>F v H' s O
  |bk e=>cases j
  |ct e=>cases j
 ·cases j
set_option tactic.hygienic true in def Pq{n k:Nat}{j:Bool}{Q:VK}{E:XK}(h:HA C (bM n k j f) ro vs H Q E):vs.length=k:=by
 obtain⟨A,ps,p,r,q,F⟩:=h;unfold bM at q;split at q
 ·rename_i B;rw[r.length];exact B
 ·cases q
structure Y0(P:Program)(w:World)(K:W.Frag)(mg:rX)(base:Heap)(C:Addr)(k:Nat)(x:Str)(ps:rj)(sp:Sp):Prop where
 ex:∃f fd,EC P w K mg base IP k f fd ps sp/\Binds K fd ps []/\Mk K C f/\mg x=some (.ref C)
end Lake.MR
namespace Lake.L2
open PySem PySem.Spec PyProof.Rows
section
variable {X:Cx}{DE:oI}{EK:St}{H H':Hp}{s:Shared}{h':Heap}
def Inv.XA{t':Nat}{ch:rS}(I:Inv X DE EK H s)(k:∀b u,b∉ch->s.heap.get? b=some u->h'.get? b=some u)(F:∀b∈ch,jM X DE H b):Inv X DE EK H {s with heap:=h',toks:=t'}:=by
 have M:∀b u,H b=some u->b∉ch:=λb u e B=>by
  rw[(F b B).1]at e;cases e
 refine I.step (g':=s.gens) (d':=s.drawn) (ch:=ch) (λb B=>let ⟨_,f1,_,f4,f5,f6⟩:=F b B;⟨f4,f1,f5,f6⟩) (λb o _ _ j e _=>k b o j e) (λb o _ _ j e _=>⟨o.slots,k b o j e⟩)
  (λ_ _ _ _ n=>n) (λb o j e=>⟨o,k b o j e⟩) (λ_ _ e=>e) (λ_ _ _ e=>e) (λb ps e=>⟨#[],by rw[e];simp⟩) (λm O=>?_) (λb u e=>?_) I.bare
 ·obtain⟨J,es,ep,U,r⟩:=O
  have Y:X.env.locals∉ch:=λB=>(F _ B).2.1 rfl;exact⟨J,es,ep,k _ J Y U,r⟩
 ·refine(I.DV b u e).LG (λc v j q=>k c v ?_ q) (λ_ q=>q) λ_ _ q=>q
  rcases j with z|z
  ·rw[z];exact M b u e
  ·exact M c _ z
end
end Lake.L2
namespace Lake.MR
open PySem L2
section
variable {X:Cx}{b:BX}{G G' L:oT}{ro:Bool}{pos p:Pos}{m m1 m2:Md}{e e1 e2:Expr}{f f1 f2:sf}
@[simp] noncomputable def KD:PV->PV->Option PV
 |.int i,.int j=>some (.int (if j<i then j else i))
 |_,_=>none
@[simp] noncomputable def RE:PV->PV->Option PV
 |.int i,.int j=>some (.int (if j>i then j else i))
 |_,_=>none
def RL(hm:X.mg "min" = none)(h1:SE X b G m1 e1 f1)(h2:SE X b G m2 e2 f2)(U:autoParam (X.calm=true) r0_)(F:Gl X "min" := by rfl)(Y:autoParam (bootBuiltins "min" = some (.builtin "min")) r2_)
  (B:autoParam (starEach [e1,e2] X.env=(false,eval e1 X.env)::starEach [e2] X.env) r0_) (I:autoParam (GB X e2 []) r0_) (ES:autoParam ((backTo pos (starEach [e2] X.env)).any (·.1)=false) r0_):
  SE X b G .val (.Call (.Name "min" p) [e1,e2] [] pos) (b2 KD f1 f2):=by
 refine PE.imp (eX (HJ U) F hm Y (aB h1.bor (aB h2.bor aM I) B) (by decide) (by decide) B ES) ?_;rintro EK H Q ⟨Ow,env,q,E,j,kk⟩;obtain⟨p1,n,j⟩:=aC j;obtain⟨p2,S4,j⟩:=aC j;refine⟨Ow,env,p1,E,n,λv H1 s r=>⟨Ow,env,p2,E.up s,S4,λv2 H2 Z J=>?_⟩⟩;have M:DO b.C (Bs b Ow) H1 v p1:=r;have O:DO b.C (Bs b Ow) H2 v2 p2:=J;cases p1<;>cases p2<;>simp only[KD]at j<;>cases j;exact⟨_,_,by rw[M.int,O.int],kk _ H2 (s.trans Z) (.int _)⟩
def Jb(hm:X.mg "max" = none)(h1:SE X b G m1 e1 f1)(h2:SE X b G m2 e2 f2)(U:autoParam (X.calm=true) r0_)(F:Gl X "max" := by rfl)(Y:autoParam (bootBuiltins "max" = some (.builtin "max")) r2_)
  (B:autoParam (starEach [e1,e2] X.env=(false,eval e1 X.env)::starEach [e2] X.env) r0_) (I:autoParam (GB X e2 []) r0_) (ES:autoParam ((backTo pos (starEach [e2] X.env)).any (·.1)=false) r0_):
  SE X b G .val (.Call (.Name "max" p) [e1,e2] [] pos) (b2 RE f1 f2):=by
 refine PE.imp (eX (HH U) F hm Y (aB h1.bor (aB h2.bor aM I) B) (by decide) (by decide) B ES) ?_;rintro EK H Q ⟨Ow,env,q,E,j,kk⟩;obtain⟨p1,n,j⟩:=aC j;obtain⟨p2,S4,j⟩:=aC j;refine⟨Ow,env,p1,E,n,λv H1 s r=>⟨Ow,env,p2,E.up s,S4,λv2 H2 Z J=>?_⟩⟩;have M:DO b.C (Bs b Ow) H1 v p1:=r;have O:DO b.C (Bs b Ow) H2 v2 p2:=J;cases p1<;>cases p2<;>simp only[RE]at j<;>cases j;exact⟨_,_,by rw[M.int,O.int],kk _ H2 (s.trans Z) (.int _)⟩
end
section
variable {X:Cx}{b:BX}{G G' L:oT}{ro:Bool}{pos p:Pos}{m m1 m2:Md}{e e1 e2:Expr}{f f1 f2 h:sf}
@[simp] noncomputable def Aq:PV->PV->Option PV
 |.lst xs,.lst ys=>if xs.length+ys.length<=1000000 then some (.lst (xs++ys))else none
 |_,_=>none
def Jc{x y z:PV}(e:Aq x y=some z):∃xs ys,x=.lst xs/\y=.lst ys/\xs.length+ys.length<=1000000/\z=.lst (xs++ys):=by
 unfold Aq at e;split at e
 ·split at e
  ·cases e;exact⟨_,_,rfl,rfl,‹_›,rfl⟩
  ·cases e
 ·cases e
def Nv(i:Nat){x:Str}{p1 apos D3:Pos}(he:SE X b G .val e h)(hi:autoParam (i∈G) r1_)(hN:autoParam (X.N[i]?=some x) r0_)(hv:autoParam (N3 X.env.scope x) r4_)(Z:autoParam (GG x) r1_)
  (GI:autoParam (NJ x) r1_) (HL:autoParam (attributeBase (.Name x p1) "extend" X.env (eval (.Name x p1) X.env)=eval (.Name x p1) X.env) r0_)
  (OO:autoParam (ZQ X D3 [e]) r0_)
  (HM:autoParam ((apos.endLine == D3.line)=true) r0_) (n:autoParam (GB X e []) r0_):
  SS X b G G L ro (.Expr (.Call (.Attribute (.Name x p1) "extend" apos) [e] [] D3) pos) (e_ Aq i h):=
 PS.imp (g_ (Fz gp PySem.F.slot_list_extend PySem.F.type_list_extend Ib (dW hN hv Z GI) (aB he aM n) HL OO HM n rfl))<|by
  rintro D EK H ⟨Ow,env,o,E,O,k⟩;obtain⟨px,J,Y⟩:=aC O;clear O;obtain⟨p,hp,B⟩:=aC Y;clear Y;obtain⟨y,hy,z3⟩:=aC B;clear B;cases z3;obtain⟨xs,ys,rfl,rfl,hl,rfl⟩:=Jc hy;obtain⟨a,U,w,t⟩:=E.own i _ (eF J) hi;obtain⟨vs,j,M⟩:=id t;refine⟨_,U,.inl ⟨rfl,_,EJ.of j⟩,Ow,env,_,E,hp,λv H' s r=>?_⟩;cases r with
  |@lst c us _ q1 q2 I=>
   refine⟨a,c,vs,us,rfl,rfl,s _ _ j,q1,gn (by rw[M.length,I.length];exact hl),?_⟩;have Yj:DI b.C (Bs b Ow) (upd H' a (.lst (vs++us))) (vs++us) (xs++ys):=by
    refine(M.ex (.of_same s)).append I |>.ex λc o h=>⟨λq=>⟨by rw[az (λz:c=a=>q.1 (z▸w))];exact h,q⟩,λm=>?_⟩;have hc:c≠a:=λz=>by subst z;rw[s _ _ j]at h;cases h;cases m
    rw[az hc];exact h
   obtain⟨E',x⟩:=(E.up s).write hi U (eF J) w (t.ex (.of_same s) λo z=>s _ _ z) (o':=.lst (vs++us)) (p':=.lst (xs++ys)) ⟨_,aq,Yj⟩;exact k Ow EK _ E' ((Ex.of_same s).trans x)
@[simp] noncomputable def v7:PV->Option PV
 |.lst xs=>some (.tup xs)
 |.frz xs=>some (.tup xs)
 |.tup xs=>some (.tup xs)
 |_=>none
def Ar(J:X.mg "tuple" = none)(h:SE X b G m1 e f)(M:autoParam (X.K=b.C.K) r0_)(F:Gl X "tuple" := by rfl)(I:autoParam (GB X e []) r0_):SE X b G .val (.Call (.Name "tuple" p) [e] [] pos) (b1 v7 f):=by
 refine pM q_ (λOw H O p1 p Q U B e k=>?_) J oy h F (by decide) (by decide) I;rw[M];cases p1<;>simp only[v7]at e<;>cases e
 case lst xs=>obtain⟨a,vs,rfl,j,n⟩:=B.lst;exact⟨a,vs,rfl,.inl ⟨EJ.of j,λl q=>k _ _ (aG q _) (pK q n)⟩⟩
 case frz xs=>obtain⟨a,vs,rfl,j,n⟩:=B.frz;exact⟨a,vs,rfl,.inl ⟨j,λl q=>k _ _ (aG q _) (pK q n)⟩⟩
 case tup xs=>obtain⟨a,vs,rfl,j,n⟩:=B.tup;exact⟨a,vs,rfl,.inr ⟨j.sq,k _ _ (DH.refl _) (j.rep n)⟩⟩
@[simp] noncomputable def zq:PV->Option PV
 |.int j=>if 0<=j/\j<=1000000 then some (.lst (fH 0 j))else none
 |_=>none
@[simp] noncomputable def zr:PV->Option PV
 |.lst xs=>some (.lst xs.reverse)
 |_=>none
end
end Lake.MR
namespace Lake.L2
open PySem PySem.Spec PyProof.Rows
section
variable {X:Cx}
noncomputable def xH(n:Nat):List V:=(List.range n).map λi=>.int (i:Nat)
theorem uP:∀(n k:Nat) (l:re),l.length=n->(∀(j:Nat) v,l[j]?=some v->∃t,v=.int ((k+j:Nat):Int) t)->Vals ((List.range' k n).map λi=>V.int (i:Nat)) l
 |0,k,l,h,_=>by
  have:=ic h;subst this;exact .nil
 |n+1,k,l,h,hv=>by
  cases l with
  |nil=>cases h
  |cons v l=>
   rw[List.range'_succ,bb];refine .cons ?_ (uP n (k+1) l (by simpa using h) λj u q=>?_)
   ·obtain⟨t,e⟩:=hv 0 v rfl
    exact⟨t,e⟩
   ·obtain⟨t,e⟩:=hv (j+1) u (by simpa using q)
    exact⟨t,by rw[e];congr 1;omega⟩
def RM(ta:TA):TE:=fun EK H Q=>ta EK H λvs H1=>∃n:Nat,vs=[.int (n:Nat)]/\n<=1000000/\∀l,H1 l=none->Q (.ref l) (upd H1 l (.lst (xH n)))
def KH{a:Expr}{ta:TA}{p p2 pos B:Pos}(hg:Gl X "list")(hm:X.mg "list" = none)(TU:Gl X "range")(Y:X.mg "range" = none)(hc:X.calm=true)(ha:PA X [a] ta)(hs:autoParam (starEach [a] X.env=[(false,eval a X.env)]) r0_)
  (M:autoParam (starEach [.Call (.Name "range" p2) [a] [] B] X.env=(false,eval (.Call (.Name "range" p2) [a] [] B) X.env)::starEach [] X.env) r0_) (ES:autoParam (JI X pos []) r0_):
  PE X (.Call (.Name "list" p) [.Call (.Name "range" p2) [a] [] B] [] pos) (RM ta):=by
 intro DE s EK H Q I h;refine e8 (fB I hg hm ip ?_ (by decide) (by decide));refine cf ?_ M ES;rw[M];show wpAny _ _ (spliced ((false,eval (.Call (.Name "range" p2) [a] [] B) X.env)::backTo pos (starEach [] X.env))) _ _ s;refine gd ?_;refine Call_ (fB I TU Y oz (cf (D8 (ha B DE s EK H _ I h) ?_) hs rfl));rintro us O ⟨vs,H1,J,Z,q1⟩;obtain⟨n,e,hn,q⟩:=q1;subst e;cases Z with
 |cons r rr=>
  cases rr;obtain⟨t,rfl⟩:=r;refine call_range_1 (g9 ?_);have Y2:(2 ^ 62:Int)=4611686018427387904:=by decide
  refine call_list_range (n:=n) (J.ok.hd hc) (IsRange.new ..) (small_one (by omega) (by omega) (by omega) (by omega)) (by rw[qv];split<;>omega) (by omega) λh' tk F c' kp e it=>?_;obtain⟨i1,i2⟩:=it;have hv:Vals (xH n) F.toList:=by
   have:=uP n 0 F.toList (by simpa using i1) λj v hj=>by
    obtain⟨t,e⟩:=i2 j v (by simpa using hj);exact⟨t,by rw[e];congr 1;omega⟩
   unfold xH;rw[p4];exact this
  have I2:=J.laid (a:=O.heap.objs.size+1) (o:=.lst (xH n)) (h':=h') (t':=tk) (λb o U=>kp b o (ae _ U)) (by omega)
   (show DZ X.prog X.w X.K _ h' _ (.lst (xH n))from⟨(by unfold xH;rw[ay,kP];exact gg (cg hn)),F.toList,c',hv,by
    have:=e;rw[c9]at this;simpa using this⟩)
  refine⟨.ref (O.heap.objs.size+1),_,I2,?_,q _ (J.DV.fresh (by omega))⟩;show Value.ref _=Value.ref _;rw[c9]
end
def Jd:typeLookup (.type "list_reverseiterator") "__len__" = pure none:=by rw[kB,gz];kernel_rfl
def KJ:typeLookup (.type "list_reverseiterator") "__length_hint__" = pure (some (.builtin "list_reverseiterator.__length_hint__")):=by rw[kB,gz];kernel_rfl
section
variable {prog:Program}{w:World}{A:Around}{E:gV}{s:Shared}
def Gj{J l N:Addr}{items:rV}{IJ:Nat}{R:Result->Shared->Prop}(hh:A.handled=none)(j:s.heap.IsRevIter J l ((items.size:Int) - 1))(hl:s.heap.IsList l items)(M:l≠J)(q:N≠J)(O:N≠l)(hn:items.size<=sizeLine)
  (hN:s.heap.get? N=some {cls:=.type "list",data:=.seq #[] IJ})
  (hR:∀h' tk n c,(∀b o,b≠J->b≠N->s.heap.get? b=some o->h'.get? b=some o)->h'.get? N=some {cls:=.type "list",dict:=none,data:=.seq n c,slots:=#[]}->ItemsOf (λi v=>items[items.size - 1 - i]?=some v) n items.size->R (.ok (.ret .none)) {s with heap:=h',toks:=tk}):
  wpAny (model prog w) A.in1 (Builtin.List.listExtendWith (.ref N) (.ref J) .none)
   (λY s'=>match Y with|.done f=>R (.ok f) s'|.again c'=>c'.quiet=true/\codeAny (model prog w) A c' R s') (λe s'=>R (.error e) s') s:=by
 have W:=(Walks.listRev (prog:=prog) (w:=w) (A:=A.in1) hh J l M items).toS;have B:(0:Nat)<=items.size/\s.heap.IsRevIter J l ((items.size:Int) - 1 - ((0:Nat):Int))/\s.heap.IsList l items:=⟨cm _,by simpa using j,hl⟩;unfold Builtin.List.listExtendWith;have hr:Builtin.List.listSameRef (.ref N) (.ref J)=false:=by simp[Builtin.List.listSameRef,q]
 refine ac (kc j.typeIs ?_);rw[bt (by rw[hr];decide)];refine ac (wpAny_pyIter_revIter j (ac (eD ?_)));unfold Builtin.List.listLengthHint;refine ac (iE j.typeIs Jd ?_);show wpAny _ A.in1 (specialOf (Value.ref J) (Str.ofString "__length_hint__") >>= _) _ _ _;refine ac (iE j.typeIs KJ ?_);(generalize hid:("list_reverseiterator.__length_hint__" : String)=nm;(fail_if_success (clear hid nm));wp_delta;rw[show splitId nm=some ("list_reverseiterator","__length_hint__")from by subst hid;decide +kernel];subst hid);refine ac (jv (b:=true) j.typeIs (by rw[isSubtype_type];kernel_rfl) (al ?_));rw[bt (by decide)];have U:N∉[J,l]:=by simp[q,O]
 refine al ⟨lh F.plain_extend_loop _,codeAny_extend_loopS W hn N U .none items.size 0 _ _ _ rfl (cm _) B hN (ItemsOf.nil _) λs' n c Z I it=>?_⟩;rw[Moved.eq_with Z];exact hR s'.heap s'.toks n c (λb o h1 h2 e=>Z.heap b o (by simp[h1,h2]) e) I it
def yP{J l:Addr}{items:rV}{Q:gV}(hh:A.handled=none)(n:s.heap.IsRevIter J l ((items.size:Int) - 1))(hl:s.heap.IsList l items)(U:l≠J)(hn:items.size<=sizeLine)
  (hQ:∀h' B j c,(∀b o,b≠J->s.heap.get? b=some o->h'.get? b=some o)->h'.get? s.heap.objs.size=some {cls:=.type "list",dict:=none,data:=.seq j c,slots:=#[]}->ItemsOf (λi v=>items[items.size - 1 - i]?=some v) j items.size->Q (.ref s.heap.objs.size) {s with heap:=h',toks:=B}):
  wpAny (model prog w) A (call (.type "list") [.ref J]) Q E s:=by
 have lt:∀{b:Addr}{o:Obj},s.heap.get? b=some o->b≠s.heap.objs.size:=λe=>bP (ar e);have Y:J≠s.heap.objs.size:=let ⟨_,e,_⟩:=n;lt e;have nl:l≠s.heap.objs.size:=let ⟨_,e,_⟩:=hl;lt e;refine callType_codes (Q₁:=λx t=>x=.ref s.heap.objs.size/\t={s with heap:=s.heap.push {cls:=.type "list",data:=.seq #[]}}) F.called_list (F.typeCall_list_1 _) F.entry_list_init (code_list_new _ ⟨rfl,rfl⟩) λx t ht=>?_;obtain⟨rfl,rfl⟩:=ht;have q:(s.heap.push {cls:=.type "list",data:=.seq #[]}).get? s.heap.objs.size=some {cls:=.type "list",data:=.seq #[]}:=av _ rfl;refine⟨⟨_,q,rfl⟩,F.args_list_init_2 _ _,?_⟩;generalize Z:s.heap.objs.size=N at *;have up:∀b o,b≠N->s.heap.get? b=some o->((s.heap.push {cls:=.type "list",data:=.seq #[]}).update N (Obj.mapSeq (λ_=>(#[]:rV)))).get? b=some o:=λb o O e=>(eP _ _ (fm O)).trans (ae _ e);show wpAny _ A.in1.in1 (do let old ←Builtin.List.listItems (.ref N);Builtin.List.listUpdate (.ref N) (λ_=>#[]);letGo old.toList.reverse;Builtin.List.listExtendWith (.ref N) (.ref J) .none) _ _ _;refine ac ?_;unfold Builtin.List.listItems;refine ac (ff q rfl (al ?_));show wpAny _ A.in1.in1 (updateSeq N (λ_=>#[]) >>= λ_=>letGo (#[]:rV).toList.reverse >>= λ_=>Builtin.List.listExtendWith (.ref N) (.ref J) .none) _ _ _;refine ac (lS q rfl (ac (nI ?_)));have M:=eJ (Obj.mapSeq (λ_=>(#[]:rV))) q rfl;refine Gj (A:=A.in1) hh (n.at λo e=>up J o Y e) (hl.at λo e=>up l o nl e) U (fm Y) (fm nl) hn M λh' B j c k e it=>⟨rfl,hQ h' B j c (λb o O I=>k b o O (Z▸lt I) (up b o (Z▸lt I) I)) e it⟩
end
section
variable {X:Cx}{tg:Expr}
def Je{xs:sx}{n:re}(r:Vals xs n)(j:re)(q:j.length=n.length)(h:∀(i:Nat) v,j[i]?=some v->n[n.length - 1 - i]?=some v):Vals xs.reverse j:=by
 have e:j=n.reverse:=by
  refine List.ext_getElem? λi=>?_;rcases pf i j.length with hi|hi
  ·have:=h i j[i] (aw hi)
   rw[aw hi,List.getElem?_reverse (by omega),this]
  ·rw[eK hi,eK (by rw[qf];omega)]
 rw[e];exact r.reverse
def RN(K:W.Frag)(ta:TA):TE:=fun EK H Q=>ta EK H λvs H1=>∃a xs,vs=[.ref a]/\EJ K H1 a xs/\∀l,H1 l=none->Q (.ref l) (upd H1 l (.lst xs.reverse))
def KN{a:Expr}{ta:TA}{p p2 pos n:Pos}(hg:Gl X "list")(hm:X.mg "list" = none)(TU:Gl X "reversed")(Z:X.mg "reversed" = none)(hb:bootBuiltins "reversed" = some (.type "reversed"))(hc:X.calm=true)(ha:PA X [a] ta)(hs:autoParam (GB X a []) r0_)(S4:autoParam (JI X n []) r0_)
  (M:autoParam (starEach [.Call (.Name "reversed" p2) [a] [] n] X.env=(false,eval (.Call (.Name "reversed" p2) [a] [] n) X.env)::starEach [] X.env) r0_) (ES:autoParam (JI X pos []) r0_):
  PE X (.Call (.Name "list" p) [.Call (.Name "reversed" p2) [a] [] n] [] pos) (RN X.K ta):=by
 intro DE s EK H Q I h;refine e8 (fB I hg hm ip (cf ?_ M ES) (by decide) (by decide));rw[M];show wpAny _ _ (spliced ((false,eval (.Call (.Name "reversed" p2) [a] [] n) X.env)::backTo pos (starEach [] X.env))) _ _ s;refine gd (Call_ (fB I TU Z hb (cf (D8 (ha n DE s EK H _ I h) ?_) hs S4)));rintro us F ⟨vs,H1,B,r1,q1⟩;obtain⟨a,xs,e,hq,q⟩:=q1;subst e;obtain⟨u,rfl,ru⟩:=vals1 r1;cases ru;obtain⟨DL,O,pl,hz⟩:=B.list hq;have Y:=O.length;have FA:a≠F.heap.objs.size:=let ⟨_,e,_⟩:=pl.isList;bP (ar e);refine call_reversed_list pl.isList (g9 ?_);refine yP (B.ok.hd hc) ⟨_,av _ rfl,rfl,rfl⟩ (pl.isList.at λo e=>ae _ e) FA (by rw[aE];omega) λh' tk j c k e it=>?_;obtain⟨U,i2⟩:=it;rw[aE]at U;have hv:Vals xs.reverse j.toList:=Je O j.toList (by simpa using U) λi v hi=>by
  have:=i2 i v (by simpa using hi);simpa using this
 have I2:=B.laid (a:=F.heap.objs.size+1) (o:=.lst xs.reverse) (h':=h') (t':=tk) (λb o J=>k b o (bP (ar J)) (ae _ J)) (by omega)
  (show DZ X.prog X.w X.K _ h' _ (.lst xs.reverse)from⟨(by rw[qf];exact hz),j.toList,c,hv,by
   have:=e;rw[c9]at this;simpa using this⟩)
 refine⟨.ref (F.heap.objs.size+1),_,I2,?_,q _ (B.DV.fresh (by omega))⟩;show Value.ref _=Value.ref _;rw[c9]
end
end Lake.L2
namespace Lake.MR
open PySem L2
section
variable {X:Cx}{b:BX}{G G' L:oT}{ro:Bool}{pos p p2 EO:Pos}{m m1 m2:Md}{e e1 e2:Expr}{f f1 f2 h:sf}
set_option tactic.hygienic true in def Gk{x q:PV}(e:zq x=some q):∃n:Nat,x=.int (n:Nat)/\n<=1000000/\q=.lst (fH 0 (n:Nat)):=by
 unfold zq at e;split at e
 ·split at e
  ·rename_i j F
   cases e;have B:j=((j.toNat:Nat):Int):=by omega
   exact⟨j.toNat,by rw[←B],by omega,by rw[←B]⟩
  ·cases e
 ·cases e
def KQ(hm:X.mg "list" = none)(I:X.mg "range" = none)(h:SE X b G m1 e f)(U:autoParam (X.calm=true) r0_)(F:Gl X "list" := by rfl)(TU:Gl X "range" := by rfl)(Z:autoParam (starEach [e] X.env=[(false,eval e X.env)]) r0_)(L4:autoParam (GB X e []) r0_)
  (J:autoParam (starEach [.Call (.Name "range" p2) [e] [] EO] X.env=(false,eval (.Call (.Name "range" p2) [e] [] EO) X.env)::starEach [] X.env) r0_) (ES:autoParam (JI X pos []) r0_):
  SE X b G .own (.Call (.Name "list" p) [.Call (.Name "range" p2) [e] [] EO] [] pos) (b1 zq f):=by
 refine PE.imp (KH F hm TU I U (aB h.bor aM L4) Z J ES) ?_;rintro EK H Q ⟨Ow,env,q,E,j,k⟩;obtain⟨x,M,j⟩:=aC j;obtain⟨n,rfl,Y,rfl⟩:=Gk j;refine⟨Ow,env,_,E,M,λv H1 s r=>?_⟩;have O:DO b.C (Bs b Ow) H1 v (.int (n:Nat)):=r;refine⟨n,by rw[O.int],Y,λl B=>k _ _ (s.new B _) (Res.down s (eE B ?_))⟩;have rr:DI b.C (Bs b Ow) H1 ((List.range n).map λi=>V.int (i:Nat)) ((List.range n).map λi=>PV.int (i:Nat)):=jR _ _ (λi=>.int _) _;have e1:fH 0 (n:Nat)=(List.range n).map λi=>PV.int (i:Nat):=by unfold fH;simp
 rw[e1];exact rr
def Gm{x q:PV}(e:zr x=some q):∃xs,x=.lst xs/\q=.lst xs.reverse:=by
 unfold zr at e;split at e
 ·cases e;exact⟨_,rfl,rfl⟩
 ·cases e
def KR(hm:X.mg "list" = none)(J:X.mg "reversed" = none)(h:SE X b G m1 e f)(Y:autoParam (bootBuiltins "reversed" = some (.type "reversed")) r2_)(hK:autoParam (X.K=b.C.K) r0_)(Z:autoParam (X.calm=true) r0_)(I:Gl X "list" := by rfl)(TU:Gl X "reversed" := by rfl)(B:autoParam (GB X e []) r0_)(S4:autoParam (JI X EO []) r0_)
  (M:autoParam (starEach [.Call (.Name "reversed" p2) [e] [] EO] X.env=(false,eval (.Call (.Name "reversed" p2) [e] [] EO) X.env)::starEach [] X.env) r0_) (ES:autoParam (JI X pos []) r0_):
  SE X b G .own (.Call (.Name "list" p) [.Call (.Name "reversed" p2) [e] [] EO] [] pos) (b1 zr f):=by
 refine PE.imp (KN I hm TU J Y Z (aB h.bor aM B) B S4 M ES) ?_;rintro EK H Q ⟨Ow,env,q,E,j,k⟩;rw[hK];obtain⟨x,O,j⟩:=aC j;obtain⟨xs,rfl,rfl⟩:=Gm j;refine⟨Ow,env,_,E,O,λv H1 s r=>?_⟩;have U:DO b.C (Bs b Ow) H1 v (.lst xs):=r;obtain⟨a,vs,rfl,ha,F⟩:=U.lst;exact⟨a,vs,rfl,EJ.of ha,λl n=>k _ _ (s.new n _) (Res.down s (eE n F.reverse))⟩
end
def oX{q:Type}{n:Nat}{us:List q}(j:us.length=n+1):∃a r,us=a::r/\r.length=n:=by
 cases us with
 |nil=>cases j
 |cons a r=>exact⟨a,r,rfl,Nat.succ.inj j⟩
@[elab_as_elim] theorem len0{j:Type}{P:List j->Prop}(us:List j)(n:us.length=0)(h:P []):P us:=by
 cases us with
 |nil=>exact h
 |cons a r=>cases n
@[elab_as_elim] theorem RQ{j:Type}{P:List j->Prop}(us:List j)(q:us.length=1)(h:∀a,P [a]):P us:=by
 obtain⟨a,r,rfl,n⟩:=oX q;exact len0 (P:=λr=>P (a::r)) r n (h a)
@[elab_as_elim] theorem RT{j:Type}{P:List j->Prop}(us:List j)(q:us.length=2)(h:∀a b,P [a,b]):P us:=by
 obtain⟨a,r,rfl,n⟩:=oX q;exact RQ (P:=λr=>P (a::r)) r n (h a)
@[elab_as_elim] theorem RV{j:Type}{P:List j->Prop}(us:List j)(q:us.length=3)(h:∀a b c,P [a,b,c]):P us:=by
 obtain⟨a,r,rfl,n⟩:=oX q;exact RT (P:=λr=>P (a::r)) r n (h a)
@[elab_as_elim] theorem RW{j:Type}{P:List j->Prop}(us:List j)(q:us.length=4)(h:∀a b c d,P [a,b,c,d]):P us:=by
 obtain⟨a,r,rfl,n⟩:=oX q;exact RV (P:=λr=>P (a::r)) r n (h a)
@[elab_as_elim] theorem VF{j:Type}{P:List j->Prop}(us:List j)(q:us.length=5)(h:∀a b c d e,P [a,b,c,d,e]):P us:=by
 obtain⟨a,r,rfl,n⟩:=oX q;exact RW (P:=λr=>P (a::r)) r n (h a)
end Lake.MR
namespace Lake.L2
open PySem PySem.Spec PyProof.Rows
section
variable {prog:Program}{w:World}{A:Around}{E:gV}{s:Shared}
def nextT{it t:Addr}{i:Nat}{items:rV}{x:Value}{Q:gV}(j:s.heap.IsTupleIter it t i)(F:s.heap.IsTuple t items)(B:items[i]?=some x)
  (q:∀h',h'.IsTupleIter it t (i+1)->Heap.SameBut it s.heap h'->Q x {s with heap:=h'}):wpAny (model prog w) A (Builtin.SmallTypes.nextOf (.ref it)) Q E s:=by
 obtain⟨o,n,I,fo⟩:=id j;obtain⟨p,ep,_,np,J⟩:=F;unfold Builtin.SmallTypes.nextOf;refine ac (dc (name:=Str.ofString "__next__") j.typeIs gx (dv gx j.typeIs l7 ?_ (lT _)));show wpAny _ _ (field (.ref it) 0 >>= _) _ _ _;refine ac (d3 n fo (x:=.ref t) rfl ?_);show wpAny _ _ (if(Value.ref t == Value.none)=true then _ else _) _ _ _;rw[bt (λz:(Value.ref t == Value.none)=true=>bi z)];show wpAny _ _ (field (.ref it) 1 >>= _) _ _ _;refine ac (d3 n fo (x:=.int i 0) rfl ?_);show wpAny _ _ (seqItems? (.ref t) >>= _) _ _ _;refine ac (ff ep J ?_);simp only[fE,B];refine ac (mB n fo (by simp) (al ⟨x,rfl,al (q _ ⟨_,eJ _ n (Obj.isFreed_of_fields (Obj.data_mapFields fo _)),(Obj.cls_mapFields ..).trans I,?_⟩ (eT ..))⟩));rw[Obj.data_mapFields fo];simp[rawInt]
def Jf{it t:Addr}{i:Nat}{items:rV}{Q:gV}(q:A.handled=none)(j:s.heap.IsTupleIter it t i)(F:s.heap.IsTuple t items)(B:items[i]?=none)
  (J:∀h' e,Heap.ExtBut it s.heap h'->(∃o,h'.get? e=some o/\o.cls=.type "StopIteration")->E (.ref e) {s with heap:=h'}):wpAny (model prog w) A (Builtin.SmallTypes.nextOf (.ref it)) Q E s:=by
 obtain⟨o,n,M,fo⟩:=id j;obtain⟨p,ep,_,np,I⟩:=F;unfold Builtin.SmallTypes.nextOf;refine ac (dc (name:=Str.ofString "__next__") j.typeIs gx (dv gx j.typeIs l7 ?_ (lT _)));show wpAny _ _ (field (.ref it) 0 >>= _) _ _ _;refine ac (d3 n fo (x:=.ref t) rfl ?_);show wpAny _ _ (if(Value.ref t == Value.none)=true then _ else _) _ _ _;rw[bt (λz:(Value.ref t == Value.none)=true=>bi z)];show wpAny _ _ (field (.ref it) 1 >>= _) _ _ _;refine ac (d3 n fo (x:=.int i 0) rfl ?_);show wpAny _ _ (seqItems? (.ref t) >>= _) _ _ _;refine ac (ff ep I ?_);simp only[fE,B];refine ac (i6 (ac (mB n fo (by simp) ?_)));show wpAny _ _ (newExc (.type "StopIteration") [] >>= _) _ _ _;refine ac ?_;simp only[newExc,newTuple];refine ac (dE (ac (m:=firstArgMember _ _) (wpAny_of_eq (a:=Value.none) (by first|rfl|(simp only[firstArgMember];rfl)) (dE ?_ (by size_fits)))) (by size_fits));simp only[raiseNew];refine ac (qE ?_);rw[q];refine ac (al (wpAny_throw ?_));exact J _ _ (((eT ..).extBut.push _).push _) ⟨_,av _ rfl,rfl⟩
def RZ(n:A.handled=none)(it t:Addr)(B:t≠it)(items:rV):Draws prog w A it [it,t] items.size (λi v=>items[i]?=some v) (λi h=>h.IsTupleIter it t i/\h.IsTuple t items) where
 live:=λi h st=>let ⟨o,e,_⟩:=st.1;⟨o,e⟩
 frame:=λi h h' st k=>⟨st.1.at λo e=>k it (by simp) o e,let ⟨o,e,c⟩:=st.2;⟨o,k t (by simp) o e,c⟩⟩
 item:=λi s Q E hi st j=>nextT st.1 st.2 (e9 hi) λh' a b=>j _ h' s.toks (e9 hi) ⟨a,let ⟨o,e,c⟩:=st.2;⟨o,(b.2 t B).trans e,c⟩⟩ b
 done:=λs Q E st q=>Jf n st.1 st.2 (kR (ax _)) q
structure ZA(z TI TO i1 i2:Addr)(RF RH:rS):Prop where
 TIz:TI≠z
 TOz:TO≠z
 TIO:TI≠TO
 m1:i1∈RF
 m2:i2∈RH
 z1:z∉RF
 z2:z∉RH
 o1:TO∉RF
 o2:TO∉RH
 x12:i1∉RH
 x21:i2∉RF
variable {z TI TO i1 i2:Addr}{RF RH:rS}{n1 n2:Nat}{P1 P2:Nat->Value->Prop}{Y3 Yk:Nat->Heap->Prop}
def ZA.i1z(D:ZA z TI TO i1 i2 RF RH):i1≠z:=λe=>D.z1 (e▸D.m1)
def ZA.i2z(D:ZA z TI TO i1 i2 RF RH):i2≠z:=λe=>D.z2 (e▸D.m2)
def ZA.i1o(D:ZA z TI TO i1 i2 RF RH):i1≠TO:=λe=>D.o1 (e▸D.m1)
def ZA.i2o(D:ZA z TI TO i1 i2 RF RH):i2≠TO:=λe=>D.o2 (e▸D.m2)
def eG{b:Addr}{h h':Heap}{j:rS}(n:Heap.SameBut b h h')(B:b∉j):∀c∈j,∀o,h.get? c=some o->h'.get? c=some o:=λc F o e=>(n.2 c (λq=>B (q▸F))).trans e
def Jg{k:Nat}{a b:Value}{Q:gV}(D:ZA z TI TO i1 i2 RF RH)(F:Draws prog w A i1 RF n1 P1 Y3)(I:Draws prog w A i2 RH n2 P2 Yk)(hz:IsZip s.heap z TI TO .none)(OV:IsPair s.heap TI (.ref i1) (.ref i2))(PY:IsPair s.heap TO a b)
  (t1:Y3 k s.heap) (t2:Yk k s.heap) (k1:k<n1) (k2:k<n2)
  (hQ:∀h' tk x y,P1 k x->P2 k y->IsZip h' z TI TO (rawInt s.heap.objs.size)->IsPair h' TO x y->Y3 (k+1) h'->Yk (k+1) h'->IsPair h' s.heap.objs.size x y->h'.objs.size=s.heap.objs.size+1->
   (∀c o,c≠z->c≠TO->c≠i1->c≠i2->s.heap.get? c=some o->h'.get? c=some o)->Q (.ref s.heap.objs.size) {s with heap:=h',toks:=tk}):
  wpAny (model prog w) A (Builtin.«zip.__next__» ⟨[.ref z],[]⟩) (λfin s'=>∃v,fin=.done (.ret v)/\Q v s') E s:=by
 show wpAny _ _ (field (.ref z) 2 >>= _) _ _ _;refine ac (d3 hz rfl (x:=.bool false) rfl ?_);show wpAny _ _ (field (.ref z) 3 >>= _) _ _ _;refine ac (d3 hz rfl (x:=.ref TI) rfl (ac (ff OV rfl ?_)));show wpAny _ _ (Builtin.SmallTypes.ownedTupleIsFree (.ref z) >>= _) _ _ _;refine ac ?_;unfold Builtin.SmallTypes.ownedTupleIsFree;refine ac (d3 hz rfl (x:=.none) rfl (al ?_));simp only[fT];refine ac (i6 (ac (d3 hz rfl (x:=.ref TO) rfl (ac (dL hz (by simp) λg1 z1 J=>?_)))));replace z1:IsZip g1 z TI TO .ellipsis:=z1;refine ac ?_;simp only[List.zipIdx_cons,List.zipIdx_nil,lP,mv];refine ac (ac (nN ?_));show wpAny _ _ (Builtin.SmallTypes.nextOf (.ref i1) >>= _) _ _ _;refine ac (F.item k _ _ _ k1 (F.frame k _ _ t1 (eG J D.z1)) λx g2 tk2 px u2 U=>al ?_);have o2:IsPair g2 TO a b:=U.extBut _ _ D.i1o.symm (J.extBut _ _ D.TOz PY);refine ac (ff o2 rfl (ac (li o2 λg3 o3 Y=>ac (nI (al ?_)))));replace o3:IsPair g3 TO x b:=o3;refine ac (ac (nN ?_));show wpAny _ _ (Builtin.SmallTypes.nextOf (.ref i2) >>= _) _ _ _;have v3:Yk k g3:=I.frame k _ _ (I.frame k _ _ (I.frame k _ _ t2 (eG J D.z2)) (eG U D.x12)) (eG Y D.o2);refine ac (I.item k _ _ _ k2 v3 λy g4 tk4 py u4 M=>al ?_);have o4:IsPair g4 TO x b:=M.extBut _ _ D.i2o.symm o3;refine ac (ff o4 rfl (ac (li o4 λj Z O=>ac (nI (al (al ?_))))));replace Z:IsPair j TO x y:=Z;refine ac (ff Z rfl (ac (mE ?_)));have sz:j.objs.size=s.heap.objs.size:=by rw[O.1,M.1,Y.1,U.1,J.1]
 have z5:IsZip j z TI TO .ellipsis:=O.extBut _ _ D.TOz.symm (M.extBut _ _ D.i2z.symm (Y.extBut _ _ D.TOz.symm (U.extBut _ _ D.i1z.symm z1)));have k5:∀c o,c≠z->c≠TO->c≠i1->c≠i2->s.heap.get? c=some o->j.get? c=some o:=λc o n c2 c3 c4 e=>O.extBut _ _ c2 (M.extBut _ _ c4 (Y.extBut _ _ c2 (U.extBut _ _ c3 (J.extBut _ _ n e))));have w1:Y3 (k+1) j:=F.frame _ _ _ (F.frame _ _ _ (F.frame _ _ _ u2 (eG Y D.o1)) (eG M D.x21)) (eG O D.o1);have w2:Yk (k+1) j:=I.frame _ _ _ u4 (eG O D.o2);have lz:z<j.objs.size:=ar z5;show wpAny _ _ (Builtin.SmallTypes.ownedTupleHandOut (.ref z) (.ref j.objs.size) >>= _) _ _ _;refine ac ?_;unfold Builtin.SmallTypes.ownedTupleHandOut;have z6:IsZip (j.push {cls:=.type "tuple",data:=.seq #[x,y]}) z TI TO .ellipsis:=ae _ z5;refine ac (dL z6 (by simp) λg7 z7 s7=>?_);replace z7:IsZip g7 z TI TO (rawInt j.objs.size):=z7;refine dL z7 (by simp) λB z8 s8=>?_;replace z8:IsZip B z TI TO (rawInt j.objs.size):=z8;have up:∀c o,c≠z->j.get? c=some o->B.get? c=some o:=λc o n e=>s8.extBut _ _ n (s7.extBut _ _ n (ae _ e));have p8:IsPair B j.objs.size x y:=s8.extBut _ _ (dy lz) (s7.extBut _ _ (dy lz) (av _ rfl));have y8:B.objs.size=j.objs.size+1:=by rw[s8.1,s7.1,c9]
 have fr:∀{fp:rS},z∉fp->∀c∈fp,∀o,j.get? c=some o->B.get? c=some o:=λhz' c hc o e=>up c o (λq=>hz' (q▸hc)) e;rw[sz]at z8 p8 y8;refine al ⟨_,rfl,?_⟩;show Q (.ref j.objs.size) _;rw[sz];exact hQ B _ x y px py z8 (up _ _ D.TOz Z) (F.frame _ _ _ w1 (fr D.z1)) (I.frame _ _ _ w2 (fr D.z2)) p8 y8 λc o n c2 c3 c4 e=>up c o n (k5 c o n c2 c3 c4 e)
def KY{k:Nat}{a b:Value}{Q:Fin->Shared->Prop}(D:ZA z TI TO i1 i2 RF RH)(D1:Draws prog w A i1 RF n1 P1 Y3)(O:Draws prog w A i2 RH n2 P2 Yk)(hz:IsZip s.heap z TI TO .none)(OV:IsPair s.heap TI (.ref i1) (.ref i2))(PY:IsPair s.heap TO a b)
  (t1:Y3 k s.heap) (t2:Yk k s.heap) (hk:k=n1\/(k<n1/\k=n2))
  (hE:∀h' tk e,(∀c o,c≠z->c≠TO->c≠i1->c≠i2->s.heap.get? c=some o->h'.get? c=some o)->(∃o,h'.get? e=some o/\o.cls=.type "StopIteration")->E (.ref e) {s with heap:=h',toks:=tk}):
  wpAny (model prog w) A (Builtin.«zip.__next__» ⟨[.ref z],[]⟩) Q E s:=by
 show wpAny _ _ (field (.ref z) 2 >>= _) _ _ _;refine ac (d3 hz rfl (x:=.bool false) rfl ?_);show wpAny _ _ (field (.ref z) 3 >>= _) _ _ _;refine ac (d3 hz rfl (x:=.ref TI) rfl (ac (ff OV rfl ?_)));show wpAny _ _ (Builtin.SmallTypes.ownedTupleIsFree (.ref z) >>= _) _ _ _;refine ac ?_;unfold Builtin.SmallTypes.ownedTupleIsFree;refine ac (d3 hz rfl (x:=.none) rfl (al ?_));simp only[fT];refine ac (i6 (ac (d3 hz rfl (x:=.ref TO) rfl (ac (dL hz (by simp) λg1 z1 J=>?_)))));replace z1:IsZip g1 z TI TO .ellipsis:=z1;refine ac ?_;simp only[List.zipIdx_cons,List.zipIdx_nil,lP,mv];refine ac (ac (nN ?_));show wpAny _ _ (Builtin.SmallTypes.nextOf (.ref i1) >>= _) _ _ _;have v1:Y3 k g1:=D1.frame k _ _ t1 (eG J D.z1);rcases hk with rfl|⟨hk1,rfl⟩
 ·refine ac (D1.done _ _ _ v1 λg2 e n he=>?_)
  obtain⟨Z,B,I⟩:=he;have z2:IsZip g2 z TI TO .ellipsis:=n _ _ D.i1z.symm z1;have j:e≠z:=λq=>by subst q;rw[z2]at B;cases B;simp at I
  exact dL z2 (by simp) λY _ F=>hE Y _ e (λc o M _ U _ q=>F.extBut _ _ M (n _ _ U (J.extBut _ _ M q))) ⟨Z,F.extBut _ _ j B,I⟩
 ·refine ac (D1.item k _ _ _ hk1 v1 λx g2 tk2 px u2 n=>al ?_)
  have o2:IsPair g2 TO a b:=n.extBut _ _ D.i1o.symm (J.extBut _ _ D.TOz PY);refine ac (ff o2 rfl (ac (li o2 λY o3 F=>ac (nI (al ?_)))));refine ac (ac (nN ?_));show wpAny _ _ (Builtin.SmallTypes.nextOf (.ref i2) >>= _) _ _ _;have v3:Yk k Y:=O.frame k _ _ (O.frame k _ _ (O.frame k _ _ t2 (eG J D.z2)) (eG n D.x12)) (eG F D.o2);refine ac (O.done _ _ _ v3 λg4 e s4 he=>?_);obtain⟨Z,B,I⟩:=he;have z4:IsZip g4 z TI TO .ellipsis:=s4 _ _ D.i2z.symm (F.extBut _ _ D.TOz.symm (n.extBut _ _ D.i1z.symm z1));have j:e≠z:=λq=>by subst q;rw[z4]at B;cases B;simp at I
  exact dL z4 (by simp) λg5 _ s5=>hE g5 _ e (λc o M c2 U c4 q=>s5.extBut _ _ M (s4 _ _ c4 (F.extBut _ _ c2 (n.extBut _ _ U (J.extBut _ _ M q))))) ⟨Z,s5.extBut _ _ j B,I⟩
end
inductive SK where|L|T
def SK.ty:SK->String
 |.L => "list_iterator"
 |.T => "tuple_iterator"
def SK.is(k:SK)(h:Heap)(a:Addr)(items:rV):Prop:=match k with
 |.L=>h.IsList a items
 |.T=>h.IsTuple a items
def SK.at(k:SK)(h:Heap)(it a:Addr)(i:Nat):Prop:=match k with
 |.L=>h.IsListIter it a i
 |.T=>h.IsTupleIter it a i
def SK.at_of{k:SK}{h:Heap}{it a:Addr}(e:h.get? it=some {cls:=.type k.ty,data:=.fields #[.ref a,.int 0 0]}):k.at h it a 0:=by
 cases k with
 |L=>exact⟨_,e,rfl,rfl⟩
 |T=>exact⟨_,e,rfl,rfl⟩
def SK.GO{k:SK}{h:Heap}{it a:Addr}{i:Nat}(st:k.at h it a i):∃o,h.get? it=some o/\∀v,o.data≠.cell v:=by
 cases k with
 |L=>obtain⟨o,e,c,d⟩:=st;exact⟨o,e,λv y=>by rw[d]at y;cases y⟩
 |T=>obtain⟨o,e,c,d⟩:=st;exact⟨o,e,λv y=>by rw[d]at y;cases y⟩
def SK.IA{k:SK}{h h':Heap}{it a:Addr}{i:Nat}(st:k.at h it a i)(q:∀o,h.get? it=some o->h'.get? it=some o):k.at h' it a i:=by
 cases k with
 |L=>exact Heap.IsListIter.at st q
 |T=>exact Heap.IsTupleIter.at st q
def SK.is_lt{k:SK}{h:Heap}{a:Addr}{items:rV}(p:k.is h a items):a<h.objs.size:=by
 cases k with
 |L=>obtain⟨o,e,_⟩:=p;exact ar e
 |T=>obtain⟨o,e,_⟩:=p;exact ar e
def SK.draws{prog:Program}{w:World}{A:Around}(k:SK)(j:A.handled=none)(it a:Addr)(n:a≠it)(items:rV):Draws prog w A it [it,a] items.size (λi v=>items[i]?=some v) (λi h=>k.at h it a i/\k.is h a items):=by
 cases k with
 |L=>exact Draws.list j it a n items
 |T=>exact RZ j it a n items
noncomputable def zh1(k1:SK)(h:Heap)(l1:Addr):Heap:=h.push {cls:=.type k1.ty,data:=.fields #[.ref l1,.int 0 0]}
noncomputable def zh2(k1 k2:SK)(h:Heap)(l1 l2:Addr):Heap:=(zh1 k1 h l1).push {cls:=.type k2.ty,data:=.fields #[.ref l2,.int 0 0]}
noncomputable def zh3(k1 k2:SK)(h:Heap)(l1 l2:Addr):Heap:=(zh2 k1 k2 h l1 l2).push {cls:=.type "tuple",data:=.seq #[.ref h.objs.size,.ref (zh1 k1 h l1).objs.size]}
noncomputable def zh4(k1 k2:SK)(h:Heap)(l1 l2:Addr):Heap:=(zh3 k1 k2 h l1 l2).push {cls:=.type "tuple",data:=.seq #[.none,.none]}
noncomputable def Y5(k1 k2:SK)(h:Heap)(l1 l2:Addr):Heap:=(zh4 k1 k2 h l1 l2).push {cls:=.type "zip",data:=.fields #[.none,.bool false,.bool false,.ref (zh2 k1 k2 h l1 l2).objs.size,.ref (zh3 k1 k2 h l1 l2).objs.size]}
def R0(k1 k2:SK)(j n:Addr)(xs ys:rV):Meets (Builtin.«zip.__new__» ⟨[.type "zip",.ref j,.ref n],[]⟩) (λ_ R s=>k1.is s.heap j xs/\k2.is s.heap n ys /\
   R (.ok (.ret (.ref (zh4 k1 k2 s.heap j n).objs.size))) {s with heap:=Y5 k1 k2 s.heap j n}):=
 .of_wp λprog w A R s h=>by
  obtain⟨B,g,d,q,F⟩:=s;obtain⟨M,I,h⟩:=h;have J:=sub_zip;cases k1 with
  |L=>
   have e1:Heap.IsList (Shared.heap ⟨B,g,d,q,F⟩) j xs:=M;cases k2 with
   |L=>
    have e2:Heap.IsList (Shared.heap ⟨B.push {cls:=.type "list_iterator",data:=.fields #[.ref j,.int 0 0]},g,d,q,F⟩) n ys:=Heap.IsList.push I _;wp_walk using fA e1,fA e2;exact⟨_,rfl,h⟩
   |T=>
    have e2:Heap.IsTuple (Shared.heap ⟨B.push {cls:=.type "list_iterator",data:=.fields #[.ref j,.int 0 0]},g,d,q,F⟩) n ys:=let ⟨o,e,c⟩:=I;⟨o,ae _ e,c⟩;wp_walk using fA e1,eW e2;exact⟨_,rfl,h⟩
  |T=>
   have e1:Heap.IsTuple (Shared.heap ⟨B,g,d,q,F⟩) j xs:=M;cases k2 with
   |L=>
    have e2:Heap.IsList (Shared.heap ⟨B.push {cls:=.type "tuple_iterator",data:=.fields #[.ref j,.int 0 0]},g,d,q,F⟩) n ys:=Heap.IsList.push I _;wp_walk using eW e1,fA e2;exact⟨_,rfl,h⟩
   |T=>
    have e2:Heap.IsTuple (Shared.heap ⟨B.push {cls:=.type "tuple_iterator",data:=.fields #[.ref j,.int 0 0]},g,d,q,F⟩) n ys:=let ⟨o,e,c⟩:=I;⟨o,ae _ e,c⟩;wp_walk using eW e1,eW e2;exact⟨_,rfl,h⟩
section
variable {prog:Program}{w:World}{A:Around}{E:gV}{s:Shared}
def Jh{k1 k2:SK}{j n:Addr}{xs ys:rV}{Q:gV}(Z:k1.is s.heap j xs)(U:k2.is s.heap n ys)
  (h:∀h',IsZip h' (s.heap.objs.size+4) (s.heap.objs.size+2) (s.heap.objs.size+3) .none->IsPair h' (s.heap.objs.size+2) (.ref s.heap.objs.size) (.ref (s.heap.objs.size+1))->
   IsPair h' (s.heap.objs.size+3) .none .none->k1.at h' s.heap.objs.size j 0->k2.at h' (s.heap.objs.size+1) n 0->h'.objs.size=s.heap.objs.size+5->
   (∀c o,s.heap.get? c=some o->h'.get? c=some o)->Q (.ref (s.heap.objs.size+4)) {s with heap:=h'}):
  wpAny (model prog w) A (call (.type "zip") [.ref j,.ref n]) Q E s:=by
 refine callType_new F.called_zip (by decide) (F.typeCall_zip_2 _ _) (F.newCall_zip_2 _ _) (λobj=>F.args_object_init_3 obj _ _) F.entry_zip_new (R0 k1 k2 j n xs ys) ⟨Z,U,?_⟩;have I:(zh1 k1 s.heap j).objs.size=s.heap.objs.size+1:=c9 ..;have B:(zh2 k1 k2 s.heap j n).objs.size=s.heap.objs.size+2:=(c9 ..).trans (by rw[I]);have M:(zh3 k1 k2 s.heap j n).objs.size=s.heap.objs.size+3:=(c9 ..).trans (by rw[B]);have q:(zh4 k1 k2 s.heap j n).objs.size=s.heap.objs.size+4:=(c9 ..).trans (by rw[M]);have Y:(Y5 k1 k2 s.heap j n).objs.size=s.heap.objs.size+5:=(c9 ..).trans (by rw[q]);have J:(Y5 k1 k2 s.heap j n).get? (zh4 k1 k2 s.heap j n).objs.size=some {cls:=.type "zip",data:=.fields #[.none,.bool false,.bool false,.ref (zh2 k1 k2 s.heap j n).objs.size,.ref (zh3 k1 k2 s.heap j n).objs.size]}:=av _ rfl;have O:(Y5 k1 k2 s.heap j n).get? (zh3 k1 k2 s.heap j n).objs.size=some {cls:=.type "tuple",data:=.seq #[.none,.none]}:=ae _ (av _ rfl);have b3:(Y5 k1 k2 s.heap j n).get? (zh2 k1 k2 s.heap j n).objs.size=some {cls:=.type "tuple",data:=.seq #[.ref s.heap.objs.size,.ref (zh1 k1 s.heap j).objs.size]}:=ae _ (ae _ (av _ rfl));have b2:(Y5 k1 k2 s.heap j n).get? (zh1 k1 s.heap j).objs.size=some {cls:=.type k2.ty,data:=.fields #[.ref n,.int 0 0]}:=ae _ (ae _ (ae _ (av _ rfl)));have b1:(Y5 k1 k2 s.heap j n).get? s.heap.objs.size=some {cls:=.type k1.ty,data:=.fields #[.ref j,.int 0 0]}:=ae _ (ae _ (ae _ (ae _ (av _ rfl))));rw[B,M,q]at J;rw[M]at O;rw[I,B]at b3;rw[I]at b2;show _/\_;rw[q];exact⟨⟨_,J,rfl⟩,h _ J b3 O (SK.at_of b1) (SK.at_of b2) Y λc o x=>ae _ (ae _ (ae _ (ae _ (ae _ x))))⟩
end
def SK.sq(k:SK)(K:W.Frag)(H:Hp)(a:Addr)(xs:sx):Prop:=match k with
 |.L=>EJ K H a xs
 |.T=>F0 K H a xs
section
variable {X:Cx}{DE:oI}{EK:St}{H:Hp}{s:Shared}
def Inv.sk(I:Inv X DE EK H s){k:SK}{a:Addr}{xs:sx}(h:k.sq X.K H a xs):∃j:List Value,Vals xs j/\k.is s.heap a j.toArray:=by
 cases k with
 |L=>obtain⟨j,r,p,_⟩:=I.list h;exact⟨j,r,p.isList⟩
 |T=>obtain⟨j,r,p,_⟩:=I.tuple h;exact⟨j,r,p⟩
def Inv.OW(I:Inv X DE EK H s){k:SK}{a:Addr}{xs ys:sx}(h:k.sq X.K H a xs)(h':k.sq X.K H a ys):xs=ys:=by
 cases k with
 |L=>exact I.NM h h'
 |T=>exact I.MA h h'
end
def Itk(K:W.Frag)(k1 k2:SK)(a b:Addr):It:=
  ⟨λi H=>∃xs x ys y,k1.sq K H a xs/\xs[i]?=some x/\k2.sq K H b ys/\ys[i]?=some y,
   λi H v H'=>∃t x y,H t=none/\v=.ref t/\H'=upd H t (.tup [x,y])/\(∀xs,k1.sq K H a xs->xs[i]?=some x)/\∀ys,k2.sq K H b ys->ys[i]?=some y,
   λi H=>∃xs ys,k1.sq K H a xs/\k2.sq K H b ys/\(xs.length=i\/(i<xs.length/\ys.length=i))⟩
def ZAt(k1 k2:SK)(z TI TO i1 i2 l1 l2:Addr)(i:Nat)(h:Heap):Prop:=IsZip h z TI TO .none/\IsPair h TI (.ref i1) (.ref i2)/\(∃a b,IsPair h TO a b)/\k1.at h i1 l1 i/\k2.at h i2 l2 i
def Ny{z TI TO i1 i2 n j:Addr}(D:ZipApart z TI TO i1 i2 n j):ZA z TI TO i1 i2 [i1,n] [i2,j] where
 TIz:=D.TIz
 TOz:=D.TOz
 TIO:=D.TITO
 m1:=by simp
 m2:=by simp
 z1:=by simp[D.i1z.symm,D.l1z.symm]
 z2:=by simp[D.i2z.symm,D.l2z.symm]
 o1:=by simp[D.TOi1,D.l1TO.symm]
 o2:=by simp[D.TOi2,D.l2TO.symm]
 x12:=by simp[D.i12,D.l2i1.symm]
 x21:=by simp[D.i12.symm,D.l1i2.symm]
def yz{P:Program}{w:World}{K:W.Frag}{es:rh}{x1:Nat}{tpos:Pos}{k1 k2:SK}{z TI TO i1 i2 l1 l2:Addr}(D:ZipApart z TI TO i1 i2 l1 l2):Turn P w K (.Tuple es x1 tpos) (Itk K k1 k2 l1 l2) [z,TI,TO,i1,i2] z (ZAt k1 k2 z TI TO i1 i2 l1 l2) where
 mem:=by simp
 obj:=λi h st b j=>by
  obtain⟨hz,B,⟨a,c,J⟩,O,M⟩:=st;simp only[br,b6,fq]at j;rcases j with rfl|rfl|rfl|rfl|rfl
  ·exact⟨_,hz,λv y=>by have n:Data.fields _=Data.cell v:=y;cases n⟩
  ·exact⟨_,B,λv y=>by have n:Data.seq _ _=Data.cell v:=y;cases n⟩
  ·exact⟨_,J,λv y=>by have n:Data.seq _ _=Data.cell v:=y;cases n⟩
  ·exact(SK.GO O)
  ·exact(SK.GO M)
 keep:=λi h h' st k=>by
  obtain⟨hz,B,⟨a,c,J⟩,O,M⟩:=st;exact⟨k z (by simp) _ hz,k TI (by simp) _ B,⟨a,c,k TO (by simp) _ J⟩,SK.IA O λo q=>k i1 (by simp) o q,SK.IA M λo q=>k i2 (by simp) o q⟩
 item:=by
  intro X hP hw hK hc i DE s EK H E I hf st hg;subst hP hw hK;obtain⟨xs,x,ys,y,ZW,hx,ZX,hy⟩:=hg;obtain⟨hz,B,⟨a,b,J⟩,O,M⟩:=st;obtain⟨U,Y,p1⟩:=I.sk ZW;obtain⟨He,Z,p2⟩:=I.sk ZX;obtain⟨u,hu,ru⟩:=Y.get hx;obtain⟨v,hv,rv⟩:=Z.get hy;have hh:=I.ok.hd hc;have hT:s.TypeIs (.ref z) "zip" := ⟨_,hz,rfl⟩;have hi1:i<U.toArray.size:=by
   rcases pf i U.length with q|q
   ·simpa using q
   ·rw[eK q]at hu;cases hu
  have hi2:i<He.toArray.size:=by
   rcases pf i He.length with q|q
   ·simpa using q
   ·rw[eK q]at hv;cases hv
  unfold pyNext;refine ac (kx (dc (name:=Str.ofString "__next__") hT l0 (dv l0 hT F.entry_zip_next
   (Jg (Ny D) (SK.draws (prog:=X.prog) (w:=X.w) (A:=X.A.in1) k1 hh i1 l1 D.l1i1 U.toArray) (SK.draws (prog:=X.prog) (w:=X.w) (A:=X.A.in1) k2 hh i2 l2 D.l2i2 He.toArray) hz B J ⟨O,p1⟩ ⟨M,p2⟩ hi1 hi2 λh' tk x' n ex ey z1 t1 j1 j2 tp hsz hk=>al ⟨_,rfl,?_⟩) (F.args_zip_next_1 _))))
  have eu:x'=u:=bq (by rw[←ex,←hu];simp);have ev:n=v:=bq (by rw[←ey,←hv];simp);subst eu ev;refine wpAny_letOwnedTupleGo_zip (s:={s with heap:=h',toks:=tk}) z1 λh2 z2 sb=>?_;have lz:z<s.heap.objs.size:=ar hz;have g2:h2.get? s.heap.objs.size=some {cls:=.type "tuple",data:=.seq #[x',n]}:=(sb.2 _ (dy lz)).trans tp;have kp:∀c o,c∉[z,TO,i1,i2]->s.heap.get? c=some o->h2.get? c=some o:=λc o j q=>by
   simp only[br,b6,fq,not_or]at j;exact(sb.2 c j.1).trans (hk c o j.1 j.2.1 j.2.2.1 j.2.2.2 q)
  have gTO:IsPair h2 TO x' n:=(sb.2 _ D.TOz).trans t1;have g1:k1.at h2 i1 l1 (i+1):=SK.IA j1.1 λo e=>(sb.2 i1 D.i1z).trans e;have g2':k2.at h2 i2 l2 (i+1):=SK.IA j2.1 λo e=>(sb.2 i2 D.i2z).trans e;have Sn:∀c o,s.heap.get? c=some o->∃o',h2.get? c=some o':=λc o q=>by
   by_cases n1:c=z
   ·subst n1;exact⟨_,z2⟩
   ·by_cases n2:c=TO
    ·subst n2;exact⟨_,gTO⟩
    ·by_cases n3:c=i1
     ·subst n3;obtain⟨o',e',_⟩:=(SK.GO g1);exact⟨o',e'⟩
     ·by_cases n4:c=i2
      ·subst n4;obtain⟨o',e',_⟩:=(SK.GO g2');exact⟨o',e'⟩
      ·exact⟨o,kp c o (by simp[n1,n2,n3,n4]) q⟩
  have I2:Inv X DE EK (upd H s.heap.objs.size (.tup [x,y])) {s with heap:=h2,toks:=tk}:=
   I.PF (ch:=[z,TO,i1,i2]) kp Sn (λb j=>hf b (by simp only[br,b6,fq]at j ⊢;rcases j with e|e|e|e<;>simp[e])) (ax _)
    ⟨by show 2<=sizeLine;decide,[x',n],.cons ru (.cons rv .nil),⟨_,g2,rfl,_,rfl,rfl⟩⟩
  refine⟨.ref s.heap.objs.size,_,I2,rfl,⟨s.heap.objs.size,x,y,I.fresh,rfl,rfl,λzs hy=>by rw[I.OW hy ZW];exact hx,λzs hy'=>by rw[I.OW hy' ZX];exact hy⟩,⟨z2,?_,⟨x',n,gTO⟩,g1,g2'⟩,λb j=>?_⟩
  ·exact kp TI _ (by simp[D.TIz,D.TITO,D.TIi1,D.TIi2]) B
  ·have hb0:=(hf b j).1
   rw[az ?_]
   ·exact hb0
   ·have FA:b<s.heap.objs.size:=by
     simp only[br,b6,fq]at j;rcases j with rfl|rfl|rfl|rfl|rfl
     ·exact lz
     ·exact ar B
     ·exact ar J
     ·obtain⟨o,e1,_⟩:=(SK.GO O);exact ar e1
     ·obtain⟨o,e1,_⟩:=(SK.GO M);exact ar e1
    exact bP FA
 done:=by
  intro X hP hw hK hc i DE s EK H E I hf st hg;subst hP hw hK;obtain⟨xs,ys,ZW,ZX,hl⟩:=hg;obtain⟨hz,B,⟨a,b,J⟩,O,M⟩:=st;obtain⟨U,Y,p1⟩:=I.sk ZW;obtain⟨He,Z,p2⟩:=I.sk ZX;have l1':=Y.length;have l2':=Z.length;have hh:=I.ok.hd hc;have hT:s.TypeIs (.ref z) "zip" := ⟨_,hz,rfl⟩;have hk:i=U.toArray.size\/(i<U.toArray.size/\i=He.toArray.size):=by
   rw[aE,aE];omega
  unfold pyNext;refine ac (kx (dc (name:=Str.ofString "__next__") hT l0 (dv l0 hT F.entry_zip_next
   (KY (Ny D) (SK.draws (prog:=X.prog) (w:=X.w) (A:=X.A.in1) k1 hh i1 l1 D.l1i1 U.toArray) (SK.draws (prog:=X.prog) (w:=X.w) (A:=X.A.in1) k2 hh i2 l2 D.l2i2 He.toArray) hz B J ⟨O,p1⟩ ⟨M,p2⟩ hk λh' tk e kp he=>?_) (F.args_zip_next_1 _))))
  obtain⟨o,ho,Pe⟩:=he;refine ac (jv (T := "StopIteration") (b:=true) ⟨o,ho,Pe⟩ p5 (al ⟨rfl,?_⟩));refine I.XA (ch:=[z,TO,i1,i2]) (λc o j q=>?_) (λb j=>hf b (by simp only[br,b6,fq]at j ⊢;rcases j with e|e|e|e<;>simp[e]));simp only[br,b6,fq,not_or]at j;exact kp c o j.1 j.2.1 j.2.2.1 j.2.2.2 q
 self:=λA i s Q E st h=>wpAny_pyIter_zip st.1 h
section
variable {X:Cx}
def zu(K:W.Frag)(k1 k2:SK)(ta:TA):TI:=fun EK H R=>ta EK H λvs H1=>∃a b,vs=[.ref a,.ref b]/\(∃xs,k1.sq K H1 a xs)/\(∃ys,k2.sq K H1 b ys)/\R (Itk K k1 k2 a b) H1
def Ea{k1 k2:SK}{l r:Expr}{ta:TA}{es:rh}{x1:Nat}{tpos p pos:Pos}(hg:Gl X "zip")(hm:X.mg "zip" = none)(ha:PA X [l,r] ta)(Y:autoParam (starEach [l,r] X.env=(false,eval l X.env)::starEach [r] X.env) r0_)(hp:autoParam ((backTo pos (starEach [r] X.env)).any (·.1)=false) r0_):
  PI X (.Tuple es x1 tpos) (.Call (.Name "zip" p) [l,r] [] pos) (zu X.K k1 k2 ta):=by
 intro DE s EK H R I h;refine Call_ (fB I hg hm PyProof.Rows.boot_zip (cf (D8 (ha pos DE s EK H _ I h) ?_) Y hp));rintro us j ⟨vs,H1,n,O,q1⟩;obtain⟨a,b,e,⟨xs,ZW⟩,⟨ys,ZX⟩,q⟩:=q1;subst e;obtain⟨u,v,rfl,ru,Z⟩:=vals2 O;cases ru;cases Z;obtain⟨NW,rv1,p1⟩:=n.sk ZW;obtain⟨He,rv2,p2⟩:=n.sk ZX;refine Jh p1 p2 λh' hz OV U F B hsz hk=>?_;have I2:Inv X DE EK H1 {j with heap:=h'}:=n.kept (t':=j.toks) hk;have D:=zipApart_new (SK.is_lt p1) (SK.is_lt p2);have st:ZAt k1 k2 (j.heap.objs.size+4) (j.heap.objs.size+2) (j.heap.objs.size+3) j.heap.objs.size (j.heap.objs.size+1) a b 0 h':=⟨hz,OV,⟨_,_,U⟩,F,B⟩;refine(yz (P:=X.prog) (w:=X.w) (K:=X.K) (es:=es) (x1:=x1) (tpos:=tpos) D).self X.A 0 {j with heap:=h'} _ _ st ?_;refine⟨j.heap.objs.size+4,_,_,_,H1,rfl,I2,yz D,st,λc J=>?_,q⟩;have M:j.heap.objs.size<=c:=by
  simp only[br,b6,fq]at J;rcases J with e|e|e|e|e<;>rw[e]<;>omega
 exact n.OG M (n.DV.fresh M)
end
end Lake.L2
namespace Lake.MR
open PySem L2
@[simp] noncomputable def Gn:PV->Option (List PV)
 |.lst xs=>some xs
 |.frz xs=>some xs
 |.tup xs=>some xs
 |.ktp xs=>some xs
 |_=>none
def kd:PV->SK
 |.tup _=>.T
 |.ktp _=>.T
 |_=>.L
section
variable {X:Cx}{b:BX}{G G' L:oT}{ro:Bool}{pos p:Pos}{m m1 m2:Md}{e e1 e2:Expr}
def KZ{Ow:se}{EK:St}{env:Env}{H H2:Hp}{fr:Bool}{v:V}{p:PV}{xs:sv}(E:ER b Ow G EK env H)(r:Res b Ow H H2 m v p)(Y6:fr=true->m≠.bor)(I:Gn p=some xs):
  ∃a vs,v=.ref a/\SK.sq (kd p) b.C.K H2 a vs/\DI b.C (Bs b Ow) H2 vs xs/\∀F q,(fr=false->DH H2 q)->Ex (Bs b Ow) H2 (Bs b F) q->SK.sq (kd p) b.C.K q a vs/\DI b.C (Bs b F) q vs xs:=by
 have b1:DO b.C (Bs b Ow) H2 v p:=r.bor;unfold Gn at I;split at I
 ·cases I
  obtain⟨a,vs,rfl,J,M⟩:=b1.lst;refine⟨a,vs,rfl,EJ.of J,M,λF q O j=>?_⟩;have Z:q a=some (.lst vs):=by
   cases fr with
   |false=>exact O rfl _ _ J
   |true=>
    have rv:Rep b.C (Bs b Ow) H2 (.ref a) (.lst _):=r.val E (Y6 rfl);cases rv with
    |lst n Y B=>rw[J]at n;cases n;exact((j _ _ J).1 Y).1
  exact⟨EJ.of Z,M.ex j⟩
 ·cases I
  have U:Rep b.C (Bs b Ow) H2 v (.frz _):=(by rcases b1 with z|⟨_,_,z⟩;exact z;exact z.elim);cases U with
  |Q2 n B=>exact⟨_,_,rfl,.inl (.inr ⟨_,n⟩),B,λF q O j=>⟨.inl (.inr ⟨_,(j _ _ n).2 rfl⟩),B.ex j⟩⟩
  |lstK n B=>exact⟨_,_,rfl,ZU n,B,λF q O j=>⟨ZU n,B.ex j⟩⟩
 ·cases I
  obtain⟨a,vs,rfl,J,M⟩:=b1.tup;exact⟨a,vs,rfl,J.sq,M,λF q O j=>⟨(J.ex j).sq,M.ex j⟩⟩
 ·cases I
  have U:Rep b.C (Bs b Ow) H2 v (.ktp _):=(by rcases b1 with z|⟨_,_,z⟩;exact z;exact z.elim);cases U with
  |tupK n B=>exact⟨_,_,rfl,mW n,B,λF q O j=>⟨mW n,B.ex j⟩⟩
 ·cases I
def PI.all{j:Type}{tg iter:Expr}{wi:j->TI}(h:∀a,PI X tg iter (wi a)):PI X tg iter (fun EK H R=>∃a,wi a EK H R):=λDE s EK H R I ⟨a,q⟩=>h a DE s EK H R I q
end
end Lake.MR
namespace Lake.L2
open PySem PySem.Spec PyProof.Rows
noncomputable def en1(k:SK)(h:Heap)(l:Addr):Heap:=h.push {cls:=.type k.ty,data:=.fields #[.ref l,.int 0 0]}
noncomputable def en2(k:SK)(h:Heap)(l:Addr):Heap:=(en1 k h l).push {cls:=.type "enumerate",data:=.fields #[.none,.bool false,.ref h.objs.size,rawInt 0,.none,.none]}
set_option tactic.hygienic true in def Pr(k:SK)(l:Addr)(xs:rV):Meets (Builtin.«enumerate.__new__» ⟨[.type "enumerate",.ref l],[]⟩) (λ_ R s=>k.is s.heap l xs/\R (.ok (.ret (.ref (en1 k s.heap l).objs.size))) {s with heap:=en2 k s.heap l}):=
 .of_wp λprog w A R s h=>by
  obtain⟨q,g,d,j,F⟩:=s;obtain⟨B,h⟩:=h;have n:=sub_enumerate;cases k with
  |L=>
   have e1:Heap.IsList (Shared.heap ⟨q,g,d,j,F⟩) l xs:=B;wp_walk using fA e1;refine wpAny_stack_any λst=>al ?_;split
   ·rename_i c _ _ _ _ _
    cases(c == Value.type "enumerate")<;>(wp_walk using fA e1;exact⟨_,rfl,h⟩)
   ·wp_walk using fA e1
    exact⟨_,rfl,h⟩
  |T=>
   have e1:Heap.IsTuple (Shared.heap ⟨q,g,d,j,F⟩) l xs:=B;wp_walk using eW e1;refine wpAny_stack_any λst=>al ?_;split
   ·rename_i c _ _ _ _ _
    cases(c == Value.type "enumerate")<;>(wp_walk using eW e1;exact⟨_,rfl,h⟩)
   ·wp_walk using eW e1
    exact⟨_,rfl,h⟩
def Gp{prog:Program}{w:World}{A:Around}{E:gV}{s:Shared}{k:SK}{l:Addr}{xs:rV}{Q:gV}(n:k.is s.heap l xs)
  (h:∀h',IsEnum h' (s.heap.objs.size+1) s.heap.objs.size 0 .none->k.at h' s.heap.objs.size l 0->(∀b o,s.heap.get? b=some o->h'.get? b=some o)->Q (.ref (s.heap.objs.size+1)) {s with heap:=h'}):
  wpAny (model prog w) A (call (.type "enumerate") [.ref l]) Q E s:=by
 refine callType_new F.called_enumerate (by decide) (F.typeCall_enumerate_1 _) (F.newCall_enumerate_1 _) (λobj=>F.args_object_init_2 obj _) F.entry_enumerate_new (Pr k l xs) ⟨n,?_⟩;have hz:(en1 k s.heap l).objs.size=s.heap.objs.size+1:=c9 ..;show _/\_;rw[hz];have j:IsEnum (en2 k s.heap l) (s.heap.objs.size+1) s.heap.objs.size 0 .none:=by
  have z:=av (en1 k s.heap l) (o:={cls:=.type "enumerate",data:=.fields #[.none,.bool false,.ref s.heap.objs.size,rawInt 0,.none,.none]}) rfl;rw[hz]at z;exact z
 exact⟨⟨_,j,rfl⟩,h _ j (SK.at_of (ae _ (av _ rfl))) λb o x=>ae _ (ae _ x)⟩
def R3(K:W.Frag)(k:SK)(a:Addr):It:=
 ⟨λi H=>∃xs x,k.sq K H a xs/\xs[i]?=some x,λi H v H'=>∃t x,H t=none/\v=.ref t/\H'=upd H t (.tup [.int (i:Nat),x])/\∀xs,k.sq K H a xs->xs[i]?=some x,λi H=>∃xs,k.sq K H a xs/\xs.length=i⟩
def EAt(k:SK)(e it a:Addr)(i:Nat)(h:Heap):Prop:=(∃old,IsEnum h e it (i:Nat) old)/\k.at h it a i
def Gq{P:Program}{w:World}{K:W.Frag}{es:rh}{x1:Nat}{tpos:Pos}(k:SK)(a e it:Addr)(L5:e≠it)(hae:a≠e)(O:a≠it):Turn P w K (.Tuple es x1 tpos) (R3 K k a) [it,e] e (EAt k e it a) where
 mem:=by simp
 obj:=λi h st b j=>by
  obtain⟨⟨n,J⟩,B⟩:=st;simp only[br,b6,fq]at j;rcases j with rfl|rfl
  ·exact SK.GO B
  ·exact⟨_,J,λv y=>by have y':Data.fields _=Data.cell v:=y;cases y'⟩
 keep:=λi h h' st kk=>by
  obtain⟨⟨n,J⟩,B⟩:=st;exact⟨⟨n,kk e (by simp) _ J⟩,SK.IA B λo q=>kk it (by simp) o q⟩
 item:=by
  intro X hP hw hK hc i DE s EK H E I hf st hg;subst hP hw hK;obtain⟨xs,x,hq,hx⟩:=hg;obtain⟨⟨n,J⟩,B⟩:=st;obtain⟨M,rv,p1⟩:=I.sk hq;obtain⟨u,hu,ru⟩:=rv.get hx;have hh:=I.ok.hd hc;have hi1:i<M.toArray.size:=by
   rcases pf i M.length with q|q
   ·simpa using q
   ·rw[eK q]at hu;cases hu
  refine wpAny_pyNext_enum_itemD (SK.draws (prog:=X.prog) (w:=X.w) (A:=X.A.in1) k hh it a O M.toArray) J ⟨B,p1⟩ hi1 L5 (by simp[L5,hae.symm]) λY h' Z ex X0 j1 Y7 hsz hk=>⟨_,rfl,?_⟩;have eu:Y=u:=bq (by rw[←ex,←hu];simp);subst eu;refine wpAny_letOwnedTupleGo_enum (s:={s with heap:=h',toks:=Z+1}) X0 λh2 PR IL=>?_;have U:e<s.heap.objs.size:=ar J;have g2:h2.get? s.heap.objs.size=some {cls:=.type "tuple",data:=.seq #[.int i Z,Y]}:=(IL.2 _ (dy U)).trans Y7;have k2:∀b o,b∉[it,e]->s.heap.get? b=some o->h2.get? b=some o:=λb o j q=>by
   simp only[br,b6,fq,not_or]at j;exact(IL.2 b j.2).trans (hk b o j.2 j.1 q)
  have g1:k.at h2 it a (i+1):=SK.IA j1.1 λo q=>(IL.2 it (fm L5)).trans q;have Sn:∀b o,s.heap.get? b=some o->∃o',h2.get? b=some o':=λb o q=>by
   by_cases n1:b=it
   ·subst n1;obtain⟨o',e',_⟩:=SK.GO g1;exact⟨o',e'⟩
   ·by_cases n2:b=e
    ·subst n2;exact⟨_,PR⟩
    ·exact⟨o,k2 b o (by simp[n1,n2]) q⟩
  have I2:Inv X DE EK (upd H s.heap.objs.size (.tup [.int (i:Nat),x])) {s with heap:=h2,toks:=Z+1}:=
   I.PF (ch:=[it,e]) k2 Sn hf (ax _) ⟨by show 2<=sizeLine;decide,[.int i Z,Y],.cons ⟨_,rfl⟩ (.cons ru .nil),⟨_,g2,rfl,_,rfl,rfl⟩⟩
  refine⟨.ref s.heap.objs.size,_,I2,rfl,⟨s.heap.objs.size,x,I.fresh,rfl,rfl,λys hy=>by rw[I.OW hy hq];exact hx⟩,⟨⟨Y,PR⟩,g1⟩,λb j=>?_⟩;have hb0:=(hf b j).1;rw[az ?_]
  ·exact hb0
  ·simp only[br,b6,fq]at j
   rcases j with rfl|rfl
   ·obtain⟨o,e1,_⟩:=SK.GO B;exact bP (ar e1)
   ·exact bP U
 done:=by
  intro X hP hw hK hc i DE s EK H E I hf st hg;subst hP hw hK;obtain⟨xs,hq,hx⟩:=hg;obtain⟨⟨n,J⟩,B⟩:=st;obtain⟨M,rv,p1⟩:=I.sk hq;obtain⟨f0,f1,f2,f3,f4,f5⟩:=hf it (by simp);have hl:=rv.length;have hi:i=M.toArray.size:=by rw[aE];omega
  rw[hi]at B;exact wpAny_pyNext_enum_endD (SK.draws (prog:=X.prog) (w:=X.w) (A:=X.A.in1) k (I.ok.hd hc) it a O M.toArray) J ⟨B,p1⟩ λh' eb=>⟨rfl,I.turned (t':=s.toks) (λb o j q=>eb b o j q) f0 f1 f3 f4 f5⟩
 self:=λA i s Q E st h=>by
  obtain⟨⟨n,J⟩,B⟩:=st;have hT:s.TypeIs (.ref e) "enumerate" := ⟨_,J,rfl⟩;refine wpAny_pyIter_slot hT F.slot_enumerate_iter (dv F.slot_enumerate_iter hT F.entry_enumerate_iter ?_ (F.args_enumerate_iter_1 _));show wpAny _ _ (ret (.ref e)) _ _ s;exact al ⟨_,rfl, "enumerate",_,hT,F.slot_enumerate_next.lookup,h⟩
section
variable {X:Cx}
def R4(K:W.Frag)(k:SK)(ta:TA):TI:=fun EK H R=>ta EK H λvs H1=>∃a,vs=[.ref a]/\(∃xs,k.sq K H1 a xs)/\R (R3 K k a) H1
def K_{k:SK}{l:Expr}{ta:TA}{es:rh}{x1:Nat}{tpos p pos:Pos}(Z:Gl X "enumerate")(hm:X.mg "enumerate" = none)(ha:PA X [l] ta)(Y:autoParam (starEach [l] X.env=[(false,eval l X.env)]) r0_):
  PI X (.Tuple es x1 tpos) (.Call (.Name "enumerate" p) [l] [] pos) (R4 X.K k ta):=by
 intro DE s EK H R I h;refine Call_ (fB I Z hm PyProof.Rows.boot_enumerate (cf (D8 (ha pos DE s EK H _ I h) ?_) Y rfl));rintro us j ⟨vs,H1,n,O,q1⟩;obtain⟨a,e,⟨xs,U⟩,q⟩:=q1;subst e;obtain⟨u,rfl,ru⟩:=vals1 O;cases ru;obtain⟨DL,rv,p1⟩:=n.sk U;refine Gp p1 λh' he B hk=>?_;have I2:Inv X DE EK H1 {j with heap:=h'}:=n.kept (t':=j.toks) hk;have F:=SK.is_lt p1;have st:EAt k (j.heap.objs.size+1) j.heap.objs.size a 0 h':=⟨⟨.none,he⟩,B⟩;have T:=Gq (P:=X.prog) (w:=X.w) (K:=X.K) (es:=es) (x1:=x1) (tpos:=tpos) k a (j.heap.objs.size+1) j.heap.objs.size (Nat.succ_ne_self _) (bP (Nat.lt_succ_of_lt F)) (bP F);refine T.self X.A 0 {j with heap:=h'} _ _ st ?_;refine⟨j.heap.objs.size+1,[j.heap.objs.size,j.heap.objs.size+1],_,_,H1,rfl,I2,T,st,λb J=>?_,q⟩;have M:j.heap.objs.size<=b:=by
  simp only[br,b6,fq]at J;rcases J with z|z
  ·rw[z];exact ax _
  ·rw[z];exact hJ _
 exact n.OG M (n.DV.fresh M)
end
end Lake.L2
namespace Lake.MR
open PySem L2
noncomputable def iE2(f:sf)(env:Env):Option (List PV):=(f env).bind λp=>(Gn p).bind λxs=>some (mz 0 xs)
@[simp] def Wv(f:sf)(env:Env):iE2 f env=((f env).bind λp=>(Gn p).bind λxs=>some (mz 0 xs)):=id rfl
section
variable {X:Cx}{b:BX}{G G' L:oT}{ro:Bool}{pos p:Pos}{m m1 m2:Md}{e e1 e2:Expr}
def Av{fr:Bool}{h:sf}{es:rh}{x1:Nat}{tpos:Pos}(hm:X.mg "enumerate" = none)(he:SE X b G m e h)(Y6:autoParam (fr=true->m≠.bor) r10_)(hK:autoParam (X.K=b.C.K) r0_)(hg:Gl X "enumerate" := by rfl)(Z:autoParam (starEach [e] X.env=[(false,eval e X.env)]) r0_)(L4:autoParam (GB X e []) r0_):
  SI X b G fr (.Tuple es x1 tpos) (.Call (.Name "enumerate" p) [e] [] pos) (iE2 h):=by
 refine PI.imp (PI.all λk:SK=>K_ (k:=k) hg hm (aB he aM L4) Z) ?_;rintro EK H R ⟨Ow,env,ps,E,M,k⟩;rw[hK];obtain⟨p1,F,O⟩:=aC M;clear M;obtain⟨xs,YZ,z4⟩:=aC O;clear O;cases z4;refine⟨kd p1,Ow,env,p1,E,F,λv H1 s r=>?_⟩;obtain⟨a,vs,rfl,qa,ra,ka⟩:=KZ (fr:=fr) E r Y6 YZ;refine⟨a,rfl,⟨vs,qa⟩,k _ _ s λY H3 h0 hx hn=>?_⟩;obtain⟨j,U⟩:=ka Y H3 h0 hx;refine⟨λi p n=>?_,⟨vs,j,by rw[sG,U.length]⟩⟩;obtain⟨x,q,rfl⟩:=yw n;obtain⟨v,J,rv⟩:=U.get q;refine⟨⟨vs,v,j,J⟩,λy H' B=>?_⟩;obtain⟨t,x',I,e1,e2,B⟩:=B;subst e1 e2;have e3:=B vs j;rw[J]at e3;cases e3;refine⟨aG I _,.tup aq (.cons ?_ (.cons (rv.ex (.of_same (aG I _))) .nil))⟩;rw[Nat.zero_add];exact .int _
end
inductive Inn(C:MC)(A:se)(H:Hp):List Addr->List (List PV)->Prop
 |nil:Inn C A H [] []
 |cons {c:Addr}{cs:rS}{us:sx}{ys:sv}{yss:List (List PV)}:H c=some (.lst us)->DI C A H us ys->Inn C A H cs yss->Inn C A H (c::cs) (ys::yss)
def bn(b:BX)(i:Nat)(a:Addr)(cs:rS)(H:Hp):BX:=⟨b.C,λx=>b.A x/\x∉a::cs,λx=>if x∈a::cs then H x else b.H0 x,λj=>if j=i then some (.ref a)else b.fx j⟩
noncomputable def hid(i:Nat)(f:Env->Option Out)(env:Env):Option Out:=(f (env.set i none)).bind λo=>match o with
 |.nx e=>some (.nx (e.set i (env.getD i none)))
 |_=>none
end Lake.MR
namespace Lake.L2
open PySem PySem.Spec PyProof.Rows
section
variable {X:Cx}
noncomputable def Aw(a n:Nat):List V:=(List.range' a n).map λi=>.int (i:Nat)
def R5(ta:TA):TE:=fun EK H Q=>ta EK H λvs H1=>∃a n:Nat,vs=[.int (a:Nat),.int ((a+n:Nat):Int)]/\a+n<=1000000/\∀l,H1 l=none->Q (.ref l) (upd H1 l (.lst (Aw a n)))
def La{a c:Expr}{ta:TA}{p p2 pos EO:Pos}(hg:Gl X "list")(hm:X.mg "list" = none)(TU:Gl X "range")(Z:X.mg "range" = none)(hc:X.calm=true)(ha:PA X [a,c] ta)(hs:autoParam (starEach [a,c] X.env=[(false,eval a X.env),(false,eval c X.env)]) r0_)(B:autoParam (starEach [c] X.env=[(false,eval c X.env)]) r0_)
  (O:autoParam (starEach [.Call (.Name "range" p2) [a,c] [] EO] X.env=(false,eval (.Call (.Name "range" p2) [a,c] [] EO) X.env)::starEach [] X.env) r0_) (ES:autoParam (JI X pos []) r0_):
  PE X (.Call (.Name "list" p) [.Call (.Name "range" p2) [a,c] [] EO] [] pos) (R5 ta):=by
 intro DE s EK H Q I h;refine e8 (fB I hg hm ip ?_ (by decide) (by decide));refine cf ?_ O ES;rw[O];show wpAny _ _ (spliced ((false,eval (.Call (.Name "range" p2) [a,c] [] EO) X.env)::backTo pos (starEach [] X.env))) _ _ s;refine gd ?_;refine Call_ (fB I TU Z oz (cf (D8 (ha EO DE s EK H _ I h) λus U ⟨vs,H1,M,r1,q1⟩=>?_) (by rw[hs,B]) (by rw[B];rfl)));obtain⟨i,n,e,hn,q⟩:=q1;subst e;cases r1 with
 |cons r F=>
  cases F with
  |cons r' F=>
   cases F;obtain⟨t,rfl⟩:=r;obtain⟨t',rfl⟩:=r';refine call_range_2 (g9 ?_);have Y2:(2 ^ 62:Int)=4611686018427387904:=by decide
   refine call_list_range (n:=n) (M.ok.hd hc) (IsRange.new ..) (small_one (by omega) (by omega) (by omega) (by omega)) (by rw[qv];split<;>omega) (by omega) λh' tk J c' kp e it=>?_;obtain⟨i1,i2⟩:=it;have hv:Vals (Aw i n) J.toList:=uP n i J.toList (by simpa using i1) λj v hj=>by
    obtain⟨t,e⟩:=i2 j v (by simpa using hj);exact⟨t,by rw[e];congr 1;omega⟩
   have I2:=M.laid (a:=U.heap.objs.size+1) (o:=.lst (Aw i n)) (h':=h') (t':=tk) (λb o Y=>kp b o (ae _ Y)) (by omega)
    (show DZ X.prog X.w X.K _ h' _ (.lst (Aw i n))from⟨(by unfold Aw;rw[ay,List.length_range'];exact gg (cg (by omega))),J.toList,c',hv,by
     have:=e;rw[c9]at this;simpa using this⟩)
   refine⟨.ref (U.heap.objs.size+1),_,I2,?_,q _ (M.DV.fresh (by omega))⟩;show Value.ref _=Value.ref _;rw[c9]
end
end Lake.L2
namespace Lake.MR
open PySem L2
@[simp] noncomputable def Ax:PV->PV->Option PV
 |.int i,.int j=>if 0<=i/\i<=j/\j<=1000000 then some (.lst ((List.range' i.toNat (j - i).toNat).map λk=>.int (k:Nat)))else none
 |_,_=>none
section
variable {X:Cx}{b:BX}{G:oT}{pos p p2 EO:Pos}{m1 m2:Md}{e1 e2:Expr}{f1 f2:sf}
set_option tactic.hygienic true in def Ld(hm:X.mg "list" = none)(U:X.mg "range" = none)(h1:SE X b G m1 e1 f1)(h2:SE X b G m2 e2 f2)(hc:autoParam (X.calm=true) r0_)(hg:Gl X "list" := by rfl)(TU:Gl X "range" := by rfl)(Z:autoParam (starEach [e1,e2] X.env=[(false,eval e1 X.env),(false,eval e2 X.env)]) r0_)(F:autoParam (starEach [e2] X.env=[(false,eval e2 X.env)]) r0_)
  (L4:autoParam (starEach [e1,e2] X.env=(false,eval e1 X.env)::starEach [e2] X.env) r0_) (B:autoParam (GB X e2 []) r0_)
  (O:autoParam (starEach [.Call (.Name "range" p2) [e1,e2] [] EO] X.env=(false,eval (.Call (.Name "range" p2) [e1,e2] [] EO) X.env)::starEach [] X.env) r0_) (ES:autoParam (JI X pos []) r0_):
  SE X b G .own (.Call (.Name "list" p) [.Call (.Name "range" p2) [e1,e2] [] EO] [] pos) (b2 Ax f1 f2):=by
 refine PE.imp (La hg hm TU U hc (aB h1.bor (aB h2.bor aM B) L4) Z F O ES) ?_;rintro EK H Q ⟨Ow,env,q,E,n,k⟩;obtain⟨x,hx,J⟩:=aC n;clear n;obtain⟨y,hy,n⟩:=aC J;clear J;cases x<;>cases y<;>simp only[Ax]at n<;>first|cases n|skip
 rename_i i j;split at n
 ·rename_i hij
  cases n;refine⟨Ow,env,_,E,hx,λv H1 s r=>⟨Ow,env,_,E.up s,hy,λv2 H2 M Y=>?_⟩⟩;have NU:DO b.C (Bs b Ow) H1 v (.int i):=r;have TN:DO b.C (Bs b Ow) H2 v2 (.int j):=Y;have e1:((i.toNat:Nat):Int)=i:=by omega
  have e2:((i.toNat+(j - i).toNat:Nat):Int)=j:=by omega
  refine⟨i.toNat,(j - i).toNat,by rw[NU.int,TN.int,e1,e2],by omega,λl I=>k _ _ ((s.trans M).new I _) (Res.down (s.trans M) (eE I ?_))⟩;exact jR _ _ (λi=>.int _) _
 ·cases n
end
@[simp] noncomputable def v8:PV->PV->PV->Option PV
 |.dK kvs,y,z=>(keyOf y).map λk=>(aV kvs k).getD z
 |.dT kvs,.tup ys,z=>(EG ys).map λk=>(aV kvs k).getD z
 |_,_,_=>none
section
variable {X:Cx}{b:BX}{G:oT}{apos D3:Pos}{m1 m2:Md}{e1 e2 e3:Expr}{f1 f2 f3:sf}
set_option tactic.hygienic true in def xJ{j:Nat}(hr:Ee j X.A)(h1:SE X b G m1 e1 f1)(h2:SE X b G m2 e2 f2)(h3:SE X b G .val e3 f3)(m:autoParam (M2 X e1 "get" apos e2 e3 D3) r11_)(hK:autoParam (X.K=b.C.K) r0_):SE X b G .val (.Call (.Attribute e1 "get" apos) [e2,e3] [] D3) (b3 v8 f1 f2 f3):=by
 refine PE.imp (Kh (d7 hr) h1.bor h2.bor h3 m) fun EK H Q h=>?_
 obtain⟨Ow,env,p,E,B,k⟩:=h;obtain⟨p1,q1,z1⟩:=aC B;clear B;obtain⟨p2,q2,z2⟩:=aC z1;clear z1;obtain⟨p3,q3,B⟩:=aC z2;clear z2;refine⟨Ow,env,p1,E,q1,λv1 H1 I r1=>?_⟩;unfold v8 at B;split at B
 ·rename_i kvs
  obtain⟨ky,hk,e⟩:=ba.mp B;obtain⟨a,kv,rfl,J,Z⟩:=r1.dK;refine⟨a,rfl,.inl ⟨kv,.inl J⟩,Ow,env,p2,E.up I,q2,λU H2 n M=>⟨Ow,env,p3,(E.up I).up n,q3,λv3 Y q r3=>?_⟩⟩;have TN:DO b.C (Bs b Ow) H2 U p2:=M;rw[TN.key hk];have F:=q _ _ (n _ _ J);refine⟨_,EN.k F,k _ Y ((I.trans n).trans q) ?_⟩;unfold aV at e;rcases D9.val (k:=ky) Z with⟨v,p',g1,g2,O⟩|⟨g1,g2⟩
  ·rw[g2]at e
   rw[g1,←e];exact O.ex (.of_same (n.trans q))
  ·rw[g2]at e
   rw[g1,←e];exact r3
 ·rename_i kvs ys
  obtain⟨ky,hk,e⟩:=ba.mp B;obtain⟨a,kv,rfl,J,Z⟩:=r1.dT;refine⟨a,rfl,.inr ⟨kv,.inl J⟩,Ow,env,_,E.up I,q2,λU H2 n M=>⟨Ow,env,p3,(E.up I).up n,q3,λv3 Y q r3=>?_⟩⟩;have TN:DO b.C (Bs b Ow) H2 U (.tup ys):=M;obtain⟨c,vs,rfl,hc,rc⟩:=TN.tup;have F:=q _ _ (n _ _ J);refine⟨_,EN.t F (by rw[hK];exact(hc.up q).key ((rc.ex (.of_same q)).EG hk)),k _ Y ((I.trans n).trans q) ?_⟩;unfold aV at e;rcases D7.val (k:=ky) Z with⟨v,p',g1,g2,O⟩|⟨g1,g2⟩
  ·rw[g2]at e
   rw[g1,←e];exact O.ex (.of_same (n.trans q))
  ·rw[g2]at e
   rw[g1,←e];exact r3
 ·cases B
end
noncomputable def jX:PV->PV->Option Bool
 |x,.lst ys=>if iu x=true/\ys.all iu=true then some (ys.any λy=>Yi y x)else none
 |x,.tup ys=>if iu x=true/\ys.all iu=true then some (ys.any λy=>Yi y x)else none
 |_,_=>none
noncomputable def m8(x y:PV):Option PV:=(jX x y).map λk=>.bl (!k)
@[simp] def Ji(x y:PV):m8 x y=((jX x y).map λk=>.bl (!k)):=id rfl
set_option tactic.hygienic true in def yC{b:BX}:NF b .val (ZT b.C.K true) m8:=by
 intro Ow H J O p1 p2 p Q M n I e k;unfold m8 at e;obtain⟨c,q,rfl⟩:=ba.mp e;have j:=k (.bl (!c)) H (DH.refl _) (.bl _);unfold jX at q;split at q
 ·split at q
  ·rename_i h
   cases q;obtain⟨a,vs,rfl,F,B⟩:=I.lst;obtain⟨h1,h2⟩:=DI.flat n h.1 B h.2;rw[←h2]at j;exact⟨a,vs,rfl,.inl (EJ.of F),n.flat h.1,h1,j⟩
  ·cases q
 ·split at q
  ·rename_i h
   cases q;obtain⟨a,vs,rfl,F,B⟩:=I.tup;obtain⟨h1,h2⟩:=DI.flat n h.1 B h.2;rw[←h2]at j;exact⟨a,vs,rfl,.inr F.sq,n.flat h.1,h1,j⟩
  ·cases q
 ·cases q
def sI{X:Cx}{b:BX}{G:oT}{m1 m2:Md}{e1 e2:Expr}{f1 f2:sf}(h1:SE X b G m1 e1 f1)(h2:SE X b G m2 e2 f2)(n:autoParam (behindInMarks .NotIn e2=false) r0_)(j:autoParam (X.K=b.C.K) r0_):SC X b G .NotIn e1 e2 (b2 m8 f1 f2):=
 iW (r:=ZT b.C.K true) (by rw[←j];exact Ac) yC h1 h2 n
end Lake.MR
namespace Lake.L2
open PySem PySem.Spec PyProof.Rows
section
variable {X:Cx}{tg:Expr}{DE:oI}{EK:St}{H:Hp}{s:Shared}{apos D3 pos:Pos}{td ty tx tv:TE}{o e f:Expr}
def Gr(K:W.Frag)(tk tv:TE):TE:=fun EK H Q=>∀p,H p=none->tk EK (upd H p (.dT [])) λy H1=>tv EK H1 λz H2=>H2 p=some (.dT [])/\∃b ks,y=.ref b/\FV K H2 b ks/\Q (.ref p) (upd H2 p (.dT [(ks,z)]))
def Eb(hu:X.A.units+9<cLine)(hk:PE X e ty)(hv:PE X f tv):PE X (.Dict [some e] [f] pos) (Gr X.K ty tv):=by
 intro DE s EK H Q I q;have U:=I.DV.fresh (ax s.heap.objs.size);have I1:=I.laid (a:=s.heap.objs.size) (o:=.dT []) (h':=s.heap.push {cls:=.type "dict",data:=.dict #[]}) (t':=s.toks) (λ_ _ q=>ae _ q) (ax _) (zX s.heap I.big);refine wpAny_Dict_any rfl rfl (λz=>nomatch z) (show(1:Nat)<=15 by decide) ?_;refine pairTrees_cons_walk (D8 (hk DE _ EK _ _ I1 (q _ U)) λu Y ⟨y,H1,I2,M,q1⟩=>D8 (hv DE Y EK H1 _ I2 q1) λw2 s2 ⟨z,H2,j,rz,e1,b,ks,e2,J,q2⟩=>pairTrees_nil_walk ?_);subst e2;cases(show u=Value.ref b from M);obtain⟨_,Z,xs,n,dd⟩:=zV j.HI j.DV (.inl e1);cases n;unfold storeAll;rw[lP];refine ac (ac (uE (show X.A.units+3<cLine from by omega) (jO j.HI j.DV J) dd (cm _) λh' Sl hs=>al ?_));show wpAny _ _ (forIn [] _ _) _ _ _;rw[mv];refine al ?_;obtain⟨o,es,F,h2,h3,O,_,h5⟩:=Sl;have new:DZ X.prog X.w X.K (upd H2 s.heap.objs.size (.dT [(ks,z)])) h' s.heap.objs.size (.dT [(ks,z)]):=⟨by show(1:Nat)<=sizeLine;decide,Z,_,((KT.put (H:=H2) (kvs:=[]) .nil ks J rz)).keeps λc ys B=>by rw[az (bW B e1 (λz=>nomatch z))];exact B,o,es,_,F,h2,h3,O,h5,rfl⟩;exact⟨.ref s.heap.objs.size,_,tQ (t':=s2.toks+(dC X.prog X.w).draws ks) j (by rw[e1];exact ii) hs ⟨o,F⟩ new,rfl,q2⟩
end
variable {i:Nat}{Q:Option Value->Shared->Prop}
section
variable {prog:Program}{w:World}{κ:Type}[DecidableEq κ]{kd:HeapKind prog w κ}{A:Around}{E:gV}{s:Shared}{d a it vw:Addr}{xs:List (κ×Addr×Value)}{k:κ}{v ok ov:Value}
def Ay(kd:HeapKind prog w κ)(d:Addr)(j:(d == sysModules)=false):
  MeetsIn prog w (Builtin.«dict.items» ⟨[.ref d],[]⟩) (λ_ R s=>(∃xs,EB kd s.heap d xs) /\
   R (.ok (.ret (.ref s.heap.objs.size))) {s with heap:=s.heap.push {cls:=.type "dict_items",data:=.fields #[.ref d]}}):=
 .of_wp<|by
  rintro A R s ⟨⟨xs,m⟩,h⟩;unfold Builtin.«dict.items»;refine ac ?_;unfold Builtin.Dict.noArgs;refine ac (kU m.of.typeIs ?_);show wpAny _ _ (pure d) _ _ s;refine al ?_;show wpAny _ _ (Builtin.Dict.showsAll d >>= _) _ _ s;unfold Builtin.Dict.showsAll;rw[bt (by rw[j];decide)];exact ac (al (ac (dE (al ⟨_,rfl,h⟩))))
def R6{Q:gV}(j:s.heap.IsItemsView vw d)(m:EB kd s.heap d xs)
  (q:∀h',h'=s.heap.push {cls:=.type "dict_itemiterator",data:=.fields #[.none,.bool false,.ref d,.int 0 0,.int xs.length 0,.int xs.length 0,.none,.none]}->Q (.ref s.heap.objs.size) {s with heap:=h'}):wpAny (model prog w) A (pyIter (.ref vw)) Q E s:=by
 obtain⟨u,J,U,M⟩:=id j;obtain⟨o,es,B,Z,n,I,Y,O⟩:=id m;have sz:=ix I;refine wpAny_pyIter_slot j.typeIs F.slot_dict_items_iter (dv F.slot_dict_items_iter j.typeIs F.entry_dict_items_iter ?_ (F.args_dict_items_iter_1 _));unfold Builtin.«dict_items.__iter__»;refine ac (al (ac ?_));unfold Builtin.Dict_items.dictOf;refine ac (d3 J M (x:=.ref d) rfl (al (ac ?_)));unfold Builtin.Dict_items.newIterator;refine ac (iS B n (ac (kC B n ?_)));have own:Builtin.Dict_items.ownsTuple "dict_itemiterator" = true:=by decide
 simp only[own,fT];refine dE (al ⟨_,rfl, "dict_itemiterator",_,⟨_,av _ rfl,rfl⟩,cK.lookup,?_⟩)
  (by simp only[sizeOk,Builtin.Dict_items.ownedTupleFields,aE,ci,cv,gs,ib];omega)
 simpa[rawInt,sz,Builtin.Dict_items.ownedTupleFields]using q _ rfl
def R7{b:Addr}(hi:IsItemIter s.heap it d i xs.length xs.length ok ov)(m:EB kd s.heap d xs)(hx:xs[i]?=some (k,b,v))
  (q:∀h',IsItemIterOut h' it d (i+1) xs.length xs.length (.ref b) v s.heap.objs.size->h'.get? s.heap.objs.size=some {cls:=.type "tuple",data:=.seq #[.ref b,v]}->h'.objs.size=s.heap.objs.size+1->
   (∀c o,c≠it->s.heap.get? c=some o->h'.get? c=some o)->Q (some (.ref s.heap.objs.size)) {s with heap:=h'}):wpAny (model prog w) A (pyNext (.ref it)) Q E s:=by
 obtain⟨j,g,B,I,F⟩:=s;obtain⟨o,es,o1,o2,o3,o4,o5,o6⟩:=id m;have ty:Shared.TypeIs ⟨j,g,B,I,F⟩ (.ref it) "dict_itemiterator" := ⟨_,hi,rfl⟩;have sz:=ix o4;unfold pyNext;refine ac (kx (dc (name:=Str.ofString "__next__") ty cK (dv cK ty ge ?_ (fR _))));refine ac (al (ac (ac ?_)))
 first|refine ac (de ty (al ?_))|refine ac (d6 ty (al ?_))
 refine ac (mI hi rfl ?_);have own:Builtin.Dict_items.ownsTuple "dict_itemiterator" = true:=by decide
 simp only[own,fT];show wpAny _ _ (if(Value.ref d == Value.none)=true then _ else _) _ _ _;rw[bt (by intro z;cases z)];refine ac (al (ac (iS o1 o3 ?_)));rw[bt (by rw[sz];simp)];refine ac (al (ac (kC o1 o3 ?_)));rw[bt (by simp)];refine al ?_;have lt:i<es.size:=by rw[sz];exact(ap.mp hx).1
 have ee:es[i]=entryOfKey kd (k,b,v):=by
  have z:=entry_at o4 i;rw[hx,e9 lt]at z;exact bq z
 have ek:es[i].key=.ref b:=by rw[ee];rfl
 have ev:es[i].val=v:=by rw[ee];rfl
 simp only[show ¬ ((i:Int)<0) by omega,fw,fE,e9 lt];refine ac ?_
 first|refine ac (de ty (al ?_))|refine ac (d6 ty (al ?_))
 refine ac (fF ty ?_);show wpAny _ _ (setField (.ref it) 3 (rawInt ((i:Int)+1)) >>= _) _ _ ⟨j,g,B,I,F⟩;refine ac (dL hi (by simp) λh1 e1 O=>?_);have O:Heap.SameBut it j h1:=O;have e1:IsItemIter h1 it d (i+1) xs.length xs.length ok ov:=by
  have e:((i+1:Nat):Int)=(i:Int)+1:=by omega
  unfold IsItemIter;rw[e];simpa[rawInt]using e1
 have t1:Shared.TypeIs ⟨h1,g,B,I,F⟩ (.ref it) "dict_itemiterator" := ⟨_,e1,rfl⟩;refine ac (eD (ac (fF t1 (ac (fF t1 ?_)))));show wpAny _ _ (Builtin.Dict_items.pairFromOwner (.ref it) 6 es[i].key es[i].val) _ _ ⟨h1,g,B,I,F⟩;rw[ek,ev];unfold Builtin.Dict_items.pairFromOwner;refine ac (mE ?_);have z1:h1.objs.size=j.objs.size:=O.1;have il:it<j.objs.size:=ar hi;have e2:IsItemIter (h1.push {cls:=.type "tuple",data:=.seq #[.ref b,v]}) it d (i+1) xs.length xs.length ok ov:=ae _ e1;have t2:(h1.push {cls:=.type "tuple",data:=.seq #[.ref b,v]}).get? j.objs.size=some {cls:=.type "tuple",data:=.seq #[.ref b,v]}:=by rw[←z1];exact av _ rfl
 have z2:(h1.push {cls:=.type "tuple",data:=.seq #[.ref b,v]}).objs.size=j.objs.size+1:=by rw[c9,z1]
 have k2:∀c o,c≠it->j.get? c=some o->(h1.push {cls:=.type "tuple",data:=.seq #[.ref b,v]}).get? c=some o:=λc o n e=>ae _ (O.extBut c o n e);generalize h1.push {cls:=.type "tuple",data:=.seq #[.ref b,v]}=h2 at e2 t2 z2 k2 ⊢;show wpAny _ _ (Builtin.Dict_items.ownedTupleIsFree (.ref it) >>= _) _ _ ⟨h2,g,B,I,F⟩;rw[z1];refine ac ?_;unfold Builtin.Dict_items.ownedTupleIsFree;refine ac (d3 e2 rfl (x:=.none) rfl (al ?_));simp only[fT];refine ac (d3 e2 rfl (x:=ok) rfl (ac (d3 e2 rfl (x:=ov) rfl ?_)));refine ac (dL e2 (by simp) λh3 e3 Z=>?_);have Z:Heap.SameBut it h2 h3:=Z;have e3:IsItemIter h3 it d (i+1) xs.length xs.length (.ref b) ov:=e3;refine ac (dL e3 (by simp) λh4 e4 U=>?_);have U:Heap.SameBut it h3 h4:=U;have e4:IsItemIter h4 it d (i+1) xs.length xs.length (.ref b) v:=e4;refine ac (dL e4 (by simp) λh5 e5 Y=>?_);have Y:Heap.SameBut it h4 h5:=Y;have e5:IsItemIterOut h5 it d (i+1) xs.length xs.length (.ref b) v j.objs.size:=e5;refine ac (dL e5 (by simp) λJ e6 M=>?_);have M:Heap.SameBut it h5 J:=M;have e6:IsItemIterOut J it d (i+1) xs.length xs.length (.ref b) v j.objs.size:=e6;have kk:∀c o,c≠it->h2.get? c=some o->J.get? c=some o:=λc o n e=>M.extBut c o n (Y.extBut c o n (U.extBut c o n (Z.extBut c o n e)));refine ac (nI (al (al ⟨_,rfl,al (q J e6 (kk _ _ (dy il) t2) ?_ λc o n e=>kk c o n (k2 c o n e))⟩)));show J.objs.size=j.objs.size+1;rw[M.1,Y.1,U.1,Z.1,z2]
def U8(B:A.handled=none)(hi:IsItemIter s.heap it d i xs.length xs.length ok ov)(m:EB kd s.heap d xs)(J:xs.length<=i)
  (q:∀h',Heap.ExtBut it s.heap h'->Q none {s with heap:=h'}):wpAny (model prog w) A (pyNext (.ref it)) Q E s:=by
 obtain⟨o,es,j,O,n,F,I,M⟩:=id m;have ty:s.TypeIs (.ref it) "dict_itemiterator" := ⟨_,hi,rfl⟩;have sz:=ix F;unfold pyNext;refine ac (kx (dc (name:=Str.ofString "__next__") ty cK (dv cK ty ge ?_ (fR _))));refine ac (al (ac (ac ?_)))
 first|refine ac (de ty (al ?_))|refine ac (d6 ty (al ?_))
 refine ac (mI hi rfl ?_);have own:Builtin.Dict_items.ownsTuple "dict_itemiterator" = true:=by decide
 simp only[own,fT];show wpAny _ _ (if(Value.ref d == Value.none)=true then _ else _) (λ_ _=>_) _ s;rw[bt (by intro z;cases z)];refine ac (al (ac (iS j n ?_)));rw[bt (by rw[sz];simp)];refine ac (al (ac (kC j n ?_)));rw[bt (by simp)];refine al ?_;simp only[show ¬ ((i:Int)<0) by omega,fw,fE,kR (show es.size<=i by omega)];refine ac ?_
 first|refine ac (de ty (al ?_))|refine ac (d6 ty (al ?_))
 show wpAny _ _ (setField (.ref it) 2 .none >>= λ_=>_) _ _ s;refine ac (mB hi rfl (by simp) ?_);show wpAny _ _ (newExc (.type "StopIteration") [] >>= λ_=>_) _ _ _;refine ac ?_;simp only[newExc,newTuple];refine ac (dE (ac (m:=firstArgMember _ _) (wpAny_of_eq (a:=Value.none) (by first|rfl|(simp only[firstArgMember];rfl)) (dE ?_ (by size_fits)))) (by size_fits));simp only[raiseNew];refine ac (qE ?_);rw[show A.in1.handled=none by exact B];refine ac (al (wpAny_throw ?_));refine ac (jv (b:=true) (T := "StopIteration") ⟨_,av _ rfl,rfl⟩ p5 ?_);exact al (q _ (((eT ..).extBut.push _).push _))
end
open PySem.W (KdxIt kdx_alive kdx_hint)
section
variable {prog:Program}{w:World}{κ:Type}[DecidableEq κ]{kd:HeapKind prog w κ}{A:Around}{E:gV}{s:Shared}{d a it vw S:Addr}{xs:List (κ×Addr×Value)}{k:κ}{v ok ov:Value}{fl:Bool}
def R8{b:Addr}{Y:Obj}(hi:KdxIt s.heap it d i xs.length xs.length ok ov a fl)(ha:s.heap.get? a=some Y)(ne:a≠it)(m:EB kd s.heap d xs)(hx:xs[i]?=some (k,b,v))
  (q:∀h',KdxIt h' it d (i+1) xs.length xs.length ok ov a true->h'.get? s.heap.objs.size=some {cls:=.type "tuple",data:=.seq #[.ref b,v]}->h'.objs.size=s.heap.objs.size+1->
   (∀c o,c≠it->s.heap.get? c=some o->h'.get? c=some o)->Q (some (.ref s.heap.objs.size)) {s with heap:=h'}):wpAny (model prog w) A (pyNext (.ref it)) Q E s:=by
 obtain⟨n,g,J,I,F⟩:=s;obtain⟨o,es,o1,o2,o3,o4,o5,o6⟩:=id m;have ty:Shared.TypeIs ⟨n,g,J,I,F⟩ (.ref it) "dict_itemiterator" := ⟨_,hi,rfl⟩;have sz:=ix o4;unfold pyNext;refine ac (kx (dc (name:=Str.ofString "__next__") ty cK (dv cK ty ge ?_ (fR _))));refine ac (al (ac (ac ?_)))
 first|refine ac (de ty (al ?_))|refine ac (d6 ty (al ?_))
 refine ac (mI hi rfl ?_);have own:Builtin.Dict_items.ownsTuple "dict_itemiterator" = true:=by decide
 simp only[own,fT];show wpAny _ _ (if(Value.ref d == Value.none)=true then _ else _) _ _ _;rw[bt (by intro z;cases z)];refine ac (al (ac (iS o1 o3 ?_)));rw[bt (by rw[sz];simp)];refine ac (al (ac (kC o1 o3 ?_)));rw[bt (by simp)];refine al ?_;have lt:i<es.size:=by rw[sz];exact(ap.mp hx).1
 have ee:es[i]=entryOfKey kd (k,b,v):=by
  have z:=entry_at o4 i;rw[hx,e9 lt]at z;exact bq z
 have ek:es[i].key=.ref b:=by rw[ee];rfl
 have ev:es[i].val=v:=by rw[ee];rfl
 simp only[show ¬ ((i:Int)<0) by omega,fw,fE,e9 lt];refine ac ?_
 first|refine ac (de ty (al ?_))|refine ac (d6 ty (al ?_))
 refine ac (fF ty ?_);show wpAny _ _ (setField (.ref it) 3 (rawInt ((i:Int)+1)) >>= _) _ _ ⟨n,g,J,I,F⟩;refine ac (dL hi (by simp) λh1 e1 O=>?_);have O:Heap.SameBut it n h1:=O;have e1:KdxIt h1 it d (i+1) xs.length xs.length ok ov a fl:=by
  have e:((i+1:Nat):Int)=(i:Int)+1:=by omega
  unfold KdxIt;rw[e];simpa[rawInt]using e1
 have t1:Shared.TypeIs ⟨h1,g,J,I,F⟩ (.ref it) "dict_itemiterator" := ⟨_,e1,rfl⟩;refine ac (eD (ac (fF t1 (ac (fF t1 ?_)))));show wpAny _ _ (Builtin.Dict_items.pairFromOwner (.ref it) 6 es[i].key es[i].val) _ _ ⟨h1,g,J,I,F⟩;rw[ek,ev];unfold Builtin.Dict_items.pairFromOwner;refine ac (mE ?_);have Z:h1.objs.size=n.objs.size:=O.1;have il:it<n.objs.size:=ar hi;have e2:KdxIt (h1.push {cls:=.type "tuple",data:=.seq #[.ref b,v]}) it d (i+1) xs.length xs.length ok ov a fl:=ae _ e1;have t2:(h1.push {cls:=.type "tuple",data:=.seq #[.ref b,v]}).get? n.objs.size=some {cls:=.type "tuple",data:=.seq #[.ref b,v]}:=by rw[←Z];exact av _ rfl
 have z2:(h1.push {cls:=.type "tuple",data:=.seq #[.ref b,v]}).objs.size=n.objs.size+1:=by rw[c9,Z]
 have k2:∀c o,c≠it->n.get? c=some o->(h1.push {cls:=.type "tuple",data:=.seq #[.ref b,v]}).get? c=some o:=λc o U e=>ae _ (O.extBut c o U e);generalize h1.push {cls:=.type "tuple",data:=.seq #[.ref b,v]}=h2 at e2 t2 z2 k2 ⊢;show wpAny _ _ (Builtin.Dict_items.ownedTupleIsFree (.ref it) >>= _) _ _ ⟨h2,g,J,I,F⟩;rw[Z];have a2:h2.get? a=some Y:=k2 a Y ne ha;refine ac ?_;unfold Builtin.Dict_items.ownedTupleIsFree;refine ac (d3 e2 rfl (x:=rawInt a) rfl ?_);show wpAny _ _ (loadIfAlive ((a:Int).toNat) >>= _) _ _ _;rw[fE];refine ac (kdx_alive a2 ?_);simp only[Option.isNone_some,eM,fw];refine ac (d3 e2 rfl (x:=.bool fl) rfl ?_);have M:∀j:Heap,KdxIt j it d (i+1) xs.length xs.length ok ov a true->Heap.SameBut it h2 j->Q (some (.ref n.objs.size)) ⟨j,g,J,I,F⟩:=λj e3 B=>
  q j e3 (B.extBut _ _ (dy il) t2) (by show j.objs.size=n.objs.size+1;rw[B.1,z2]) λc o U e=>B.extBut c o U (k2 c o U e)
 cases fl with
 |true=>
  rw[bt (show ¬ ((Value.bool true != Value.bool true)=true)from bi)];refine al ?_;simp only[eM,fw];exact al (al ⟨_,rfl,al (M h2 e2 (Heap.SameBut.refl _ _))⟩)
 |false=>
  rw[bX (show(Value.bool false != Value.bool true)=true from rfl)];refine ac (dL e2 (by simp) λj e3 B=>?_);have B:Heap.SameBut it h2 j:=B;have e3:KdxIt j it d (i+1) xs.length xs.length ok ov a true:=e3;refine al ?_;simp only[eM,fw];exact al (al ⟨_,rfl,al (M j e3 B)⟩)
def U9(B:A.handled=none)(hi:KdxIt s.heap it d i xs.length xs.length ok ov a fl)(m:EB kd s.heap d xs)(J:xs.length<=i)
  (q:∀h',Heap.ExtBut it s.heap h'->Q none {s with heap:=h'}):wpAny (model prog w) A (pyNext (.ref it)) Q E s:=by
 obtain⟨o,es,j,O,n,F,I,M⟩:=id m;have ty:s.TypeIs (.ref it) "dict_itemiterator" := ⟨_,hi,rfl⟩;have sz:=ix F;unfold pyNext;refine ac (kx (dc (name:=Str.ofString "__next__") ty cK (dv cK ty ge ?_ (fR _))));refine ac (al (ac (ac ?_)))
 first|refine ac (de ty (al ?_))|refine ac (d6 ty (al ?_))
 refine ac (mI hi rfl ?_);have own:Builtin.Dict_items.ownsTuple "dict_itemiterator" = true:=by decide
 simp only[own,fT];show wpAny _ _ (if(Value.ref d == Value.none)=true then _ else _) (λ_ _=>_) _ s;rw[bt (by intro z;cases z)];refine ac (al (ac (iS j n ?_)));rw[bt (by rw[sz];simp)];refine ac (al (ac (kC j n ?_)));rw[bt (by simp)];refine al ?_;simp only[show ¬ ((i:Int)<0) by omega,fw,fE,kR (show es.size<=i by omega)];refine ac ?_
 first|refine ac (de ty (al ?_))|refine ac (d6 ty (al ?_))
 show wpAny _ _ (setField (.ref it) 2 .none >>= λ_=>_) _ _ s;refine ac (mB hi rfl (by simp) ?_);show wpAny _ _ (newExc (.type "StopIteration") [] >>= λ_=>_) _ _ _;refine ac ?_;simp only[newExc,newTuple];refine ac (dE (ac (m:=firstArgMember _ _) (wpAny_of_eq (a:=Value.none) (by first|rfl|(simp only[firstArgMember];rfl)) (dE ?_ (by size_fits)))) (by size_fits));simp only[raiseNew];refine ac (qE ?_);rw[show A.in1.handled=none by exact B];refine ac (al (wpAny_throw ?_));refine ac (jv (b:=true) (T := "StopIteration") ⟨_,av _ rfl,rfl⟩ p5 ?_);exact al (q _ (((eT ..).extBut.push _).push _))
def Y8(h:Heap)(it d S:Addr)(i n:Nat):Prop:=(i=0/\∃ok ov,IsItemIter h it d 0 n n ok ov)\/∃ok ov a fl oa,KdxIt h it d i n n ok ov a fl/\h.get? a=some oa/\a≠it/\a≠S
def Y8.keep{h h':Heap}{n:Nat}(x:Y8 h it d S i n)(j:∀b o,b≠S->h.get? b=some o->h'.get? b=some o)(B:it≠S):Y8 h' it d S i n:=by
 rcases x with⟨e,ok,ov,q⟩|⟨ok,ov,a,fl,oa,q,ha,n1,n2⟩
 ·exact .inl ⟨e,ok,ov,j _ _ B q⟩
 ·exact .inr ⟨ok,ov,a,fl,oa,j _ _ B q,j _ _ n2 ha,n1,n2⟩
def U_{b:Addr}(st:Y8 s.heap it d S i xs.length)(n:S<s.heap.objs.size)(m:EB kd s.heap d xs)(j:xs[i]?=some (k,b,v))
  (q:∀h',Y8 h' it d S (i+1) xs.length->h'.get? s.heap.objs.size=some {cls:=.type "tuple",data:=.seq #[.ref b,v]}->h'.objs.size=s.heap.objs.size+1->
   (∀c o,c≠it->s.heap.get? c=some o->h'.get? c=some o)->Q (some (.ref s.heap.objs.size)) {s with heap:=h'}):wpAny (model prog w) A (pyNext (.ref it)) Q E s:=by
 rcases st with⟨rfl,ok,ov,hi⟩|⟨ok,ov,a,fl,oa,hi,ha,n1,n2⟩
 ·exact R7 hi m j λh' e1 e2 e3 e4=>q h' (.inr ⟨_,_,_,false,_,e1,e2,dy (ar hi),dy n⟩) e2 e3 e4
 ·exact R8 hi ha n1 m j λh' e1 e2 e3 e4=>q h' (.inr ⟨ok,ov,a,true,oa,e1,e4 a oa n1 ha,n1,n2⟩) e2 e3 e4
def Va(j:A.handled=none)(st:Y8 s.heap it d S i xs.length)(m:EB kd s.heap d xs)(n:xs.length<=i)
  (q:∀h',Heap.ExtBut it s.heap h'->Q none {s with heap:=h'}):wpAny (model prog w) A (pyNext (.ref it)) Q E s:=by
 rcases st with⟨rfl,ok,ov,hi⟩|⟨ok,ov,a,fl,oa,hi,ha,n1,n2⟩
 ·exact U8 j hi m n q
 ·exact U9 j hi m n q
def ZY(h:Heap)(lo:Addr)(xs:List (κ×Addr×Value))(as:rS):Prop:=∀(j:Nat) (c:Addr),as[j]?=some c->lo<c/\∃k b v,xs[j]?=some (k,b,v)/\h.get? c=some {cls:=.type "tuple",data:=.seq #[.ref b,v]}
def uQ{h h':Heap}(m:EB kd h d xs)(M:∀(x:κ) (b:Addr),kd.is h x b->kd.is h' x b)(I:∀o,h.get? d=some o->h'.get? d=some o):EB kd h' d xs:=by
 obtain⟨o,es,j,O,J,n,q,F⟩:=m;exact⟨o,es,I o j,O,J,n,λx B=>M _ _ (q x B),F⟩
def Vb{R:Result->Shared->Prop}{I:Addr}(hh:A.handled=none)(hSI:S<I)(hSd:d≠S)(hId:d≠I)(hn:xs.length<=sizeLine)(res:Value){h₁:Heap}
  (kp:∀h h':Heap,(∀b o,h.get? b=some o->o.cls=.type "tuple" -> h'.get? b=some o)->∀(x:κ) (b:Addr),kd.is h x b->kd.is h' x b)
  (hR:∀h' F n c B,(∀b o,b≠S->b≠I->h₁.get? b=some o->h'.get? b=some o)->h'.get? S=some {cls:=.type "list",dict:=none,data:=.seq n c,slots:=#[]}->B.length=xs.length->ZY h' I xs B->
   n.toList=B.map Value.ref->R (.ok (.ret res)) {s with heap:=h',toks:=F}):
  ∀(j i:Nat) (h:Heap) (F c:Nat) (n:rV) (B:rS),xs.length - i=j->i<=xs.length->Y8 h I d S i xs.length->EB kd h d xs->(∀b o,b≠S->b≠I->h₁.get? b=some o->h.get? b=some o)->
   h.get? S=some {cls:=.type "list",dict:=none,data:=.seq n c,slots:=#[]}->n.toList=B.map Value.ref->B.length=i->ZY h I xs B->I<h.objs.size->
   codeAny (model prog w) A (.builtin "list.extend.loop" ⟨[.ref S,.ref I,res],[]⟩) R {s with heap:=h,toks:=F}:=by
 have L5:S≠I:=bP hSI;intro j;induction j with
 |zero=>
  intro i h F c n B hk hi L6 hD keep U IG Yl hG J;refine gS mT ?_;rw[ja f8 _];show wpAny _ A.in1 (pyNext (.ref I) >>= _) _ _ _;refine ac (Va (s:={s with heap:=h,toks:=F}) (A:=A.in1) hh L6 hD (by omega) λh' he=>?_);refine al (hR h' F n c B (λb o n1 n2 e=>he b o n2 (keep b o n1 n2 e)) (he S _ L5 U) (by omega) (λj c M=>?_) IG);obtain⟨Y,k,b,v,e1,e2⟩:=hG j c M;exact⟨Y,k,b,v,e1,he c _ (dy Y) e2⟩
 |succ j ih=>
  intro i h F c n B hk hi L6 hD keep U IG Yl hG J;have FA:i<xs.length:=by omega
  obtain⟨⟨kk,b,x⟩,hx⟩:∃p,xs[i]?=some p:=⟨xs[i],aw FA⟩;have hsz:n.size=i:=by rw[←gt,IG,ay,Yl]
  refine gS mT ?_;rw[ja f8 _];show wpAny _ A.in1 (pyNext (.ref I) >>= _) _ _ _;refine ac (U_ (s:={s with heap:=h,toks:=F}) (S:=S) L6 (ar U) hD hx λh' GL ht hz O=>?_);dsimp only at ht hz O ⊢;have So:=O S _ L5 U;have up:∀b o,b≠S->h'.get? b=some o->(h'.update S (Obj.mapSeq (·.push (Value.ref h.objs.size)))).get? b=some o:=λb o hb e=>(eP _ _ (fm hb)).trans e;have Z:S<h.objs.size:=ar U;have tS:∀b o,h.get? b=some o->o.cls=.type "tuple" -> b≠S:=λb o e q z=>by rw[z,U]at e;cases e;exact absurd (jp q) (by decide)
  have tI:∀b o,h.get? b=some o->o.cls=.type "tuple" -> b≠I:=λb o e q z=>by
   rcases L6 with⟨_,ok,ov,y⟩|⟨ok,ov,a,fl,oa,y,_⟩<;>(rw[z,y]at e;cases e;exact absurd (jp q) (by decide))
  show wpAny _ A.in1 (updateSeq S (·.push (Value.ref h.objs.size)) >>= _) _ _ _;refine ac ?_;refine lS So rfl (al ⟨lh f8 _,ih (i+1) _ F _ (n.push (Value.ref h.objs.size)) (B++[h.objs.size]) (by omega) FA (GL.keep up (fm L5))
   (uQ hD (kp _ _ λb o e q=>up b o (tS b o e q) (O b o (tI b o e q) e)) λo e=>up d o hSd (O d o hId e))
   (λb o n1 n2 e=>up b o n1 (O b o n2 (keep b o n1 n2 e))) (eJ _ So rfl) (by rw[Array.toList_push,IG,fk];rfl) (by rw[ci,Yl];rfl) ?_ ?_⟩) (by rw[hsz];omega) (by rw[Array.size_push,hsz];omega)
  ·intro j c M
   rcases Nat.lt_trichotomy j B.length with h1|h1|h1
   ·rw[dP h1]at M
    obtain⟨Y,k',b',v',e1,e2⟩:=hG j c M;exact⟨Y,k',b',v',e1,up c _ (dy (l6 hSI Y)) (O c _ (dy Y) e2)⟩
   ·subst h1
    have hb:h.objs.size=c:=by simpa using M
    subst hb;exact⟨J,kk,b,x,by rw[Yl];exact hx,up _ _ (dy Z) ht⟩
   ·rw[eK (by rw[ci,k6];omega)]at M;cases M
  ·have e:(h'.update S (Obj.mapSeq (·.push (Value.ref h.objs.size)))).get? h.objs.size=_:=up _ _ (dy Z) ht
   exact l6 J (ar e)
end
end Lake.L2
namespace Lake.HT
open PySem PyProof.Rows
def R9(A:Around)(s:Shared)(x y:Value)(r:Bool):Prop:=∀(prog:Program) (w:World) (E Q:gV),Q (.bool r) s->wpAny (model prog w) A (richCompare .Lt x y) Q E s
section
open PySem.SeqAt
open PySem.AutoSeq1 (wpAny_loadPart')
open PySem.MeetsSeq PySem.MeetsSeq2 PySem.MeetsSeq3
def MS(l b:Addr)(x1 q F B:Value)(n n2:Nat)(dd Y:Option Addr)(O Z:Array (Option Value))(e1 e2 M J:Bool):
  Meets (Builtin.«tuple.__lt__» ⟨[.ref l,.ref b],[]⟩)
   (λA R s=>s.heap.get? l=some {cls:=.type "tuple",dict:=dd,data:=.seq #[x1,q] n,slots:=O}/\s.heap.get? b=some {cls:=.type "tuple",dict:=Y,data:=.seq #[F,B] n2,slots:=Z} /\
    EqAt A.in1 s x1 F e1/\(e1=true->EqAt A.in1 s q B e2)/\(e1=false->R9 A.in1 s x1 F M)/\(e1=true->e2=false->R9 A.in1 s q B J) /\
    R (.ok (.ret (.bool (if e1=true then(if e2=true then false else J)else M)))) s):=
 .of_wp λprog w A R s h=>by
  obtain⟨hp,g,d,tk,os⟩:=s;obtain⟨hl,U,q1,q2,q3,q4,h⟩:=h;have f2:=AutoSeq1.sub_tuple_tuple;wp_walk using gL hl,gL U,nS _ (λrest b s'=>b.1=none/\s'=⟨hp,g,d,tk,os⟩/\(rest=[(x1,F),(q,B)]\/(rest=[(q,B)]/\e1=true)\/(rest=[]/\e1=true/\e2=true))) _
  case turn=>
   rintro⟨y,x⟩ rest b s' ⟨I,rfl,hz⟩;rcases hz with hz|⟨hz,Xb⟩|⟨hz,_⟩
   ·injection hz with hyx T1
    injection hyx with hy hx;subst hy hx;refine ac (q1 prog w _ _ ?_);cases e1 with
    |true=>
     wp_walk
     exact⟨rfl,rfl,.inr (.inl ⟨T1,rfl⟩)⟩
    |false=>
     have j:=q3 rfl prog w;wp_walk using j;exact⟨_,rfl,by simpa using h⟩
   ·injection hz with hyx T1
    injection hyx with hy hx;subst hy hx Xb;refine ac (q2 rfl prog w _ _ ?_);cases e2 with
    |true=>
     wp_walk
     exact⟨rfl,rfl,.inr (.inr ⟨T1,rfl,rfl⟩)⟩
    |false=>
     have j:=q4 rfl rfl prog w;wp_walk using j;exact⟨_,rfl,by simpa using h⟩
   ·cases hz
  case fin=>
   rintro⟨b1,b2⟩ s' ⟨I,rfl,hz⟩;simp only at I;subst I;rcases hz with hz|⟨hz,Xb⟩|⟨_,Xb,PR⟩
   ·cases hz
   ·cases hz
   ·subst Xb PR
    wp_walk
    exact⟨_,rfl,by simpa[Builtin.Tuple.tupleCompareSizes]using h⟩
  case h=>
   exact⟨rfl,rfl,.inl rfl⟩
end
end Lake.HT
namespace Lake.L2
open PySem PySem.Spec PyProof.Rows
open PySem.W (KasT kas_asc kas_desc kas_tail3 kas_descPart kas_count kas_place kas_bin kas_sort kas_rev)
def xK{EL:Type}(lt:Nat->Nat->Bool):KasT EL->EL
 |.ret a=>a
 |.ask i j k=>xK lt (k (lt i j))
def Kt{EL:Type}(n:Nat)(P:EL->Prop):KasT EL->Prop
 |.ret a=>P a
 |.ask i j k=>i<n/\j<n/\∀b,Kt n P (k b)
variable {p:Array Nat}
section
variable {EL Fc:Type}{n:Nat}
theorem Kt.bind{P:EL->Prop}{R:Fc->Prop}{f:EL->KasT Fc}(q:∀a,P a->Kt n R (f a)):∀t:KasT EL,Kt n P t->Kt n R (t.bind f)
 |.ret a,h=>q a h
 |.ask i j k,h=>⟨h.1,h.2.1,λb=>Kt.bind q (k b) (h.2.2 b)⟩
theorem Kt.run{P:EL->Prop}(lt:Nat->Nat->Bool):∀t:KasT EL,Kt n P t->P (xK lt t)
 |.ret _,h=>h
 |.ask _ _ k,h=>Kt.run lt (k _) (h.2.2 _)
theorem Kt.wp{P:EL->Prop}{lt:Nat->Nat->Bool}{s:Shared}{B:Nat->Nat->(Bool->Shared->Prop)->Shared->Prop}(F:∀i j (C:Bool->Shared->Prop),i<n->j<n->C (lt i j) s->B i j C s){Q:EL->Shared->Prop}:∀t:KasT EL,Kt n P t->Q (xK lt t) s->t.kasWp B Q s
 |.ret _,_,q=>q
 |.ask i j k,h,q=>F i j _ h.1 h.2.1 (Kt.wp F (k _) (h.2.2 _) q)
def Rw(n:Nat)(p:Array Nat):Prop:=p.Perm (List.range n).toArray
def Rw.at(h:Rw n p)(j:0<n)(i:Nat):p.getD i 0<n:=by
 by_cases hi:i<p.size
 ·have e:p.getD i 0=p[i]:=by simp[Array.getD,hi]
  rw[e];have m:p[i]∈(List.range n).toArray:=(Array.Perm.mem_iff h).mp (Array.getElem_mem hi);simpa using m
 ·have e:p.getD i 0=0:=by simp[Array.getD,hi]
  rw[e];exact j
def Rw.rev(h:Rw n p)(i j:Nat):Rw n (kas_rev p i j):=(mirror_perm _ _ _ _).trans h
def Rw.bub(h:Rw n p)(i j:Nat):Rw n (bubble p i j):=(bubble_perm _ _ _).trans h
theorem Az{p:Array Nat}(h:Rw n p)(j:0<n):∀f m,Kt n (λ_=>True) (kas_asc p f m)
 |0,_=>trivial
 |f+1,m=>⟨h.at j _,h.at j _,λc=>by
  cases c with
  |true=>exact trivial
  |false=>exact Az h j f (m+1)⟩
theorem uf(j:0<n):∀f (p:Array Nat) m q,Rw n p->Kt n (λr=>Rw n r.1) (kas_desc f p m q)
 |0,p,_,_,h=>h
 |f+1,p,m,q,h=>⟨h.at j _,h.at j _,λc=>by
  cases c with
  |true=>
   show Kt n _ (if q>0 then kas_desc f (kas_rev p (m - (q+1)) m) (m+1) 0 else kas_desc f p (m+1) 0);split
   ·exact uf j f _ _ _ (h.rev _ _)
   ·exact uf j f _ _ _ h
  |false=>
   refine⟨h.at j _,h.at j _,λd=>?_⟩;cases d with
   |true=>exact h
   |false=>exact uf j f _ _ _ h⟩
def A_(h:Rw n p)(j:0<n)(m r:Nat):Kt n (λr=>Rw n r.2) (kas_tail3 m r p):=by
 unfold kas_tail3;refine Kt.bind (P:=λ_=>True) (λ_ _=>?_) _ (Az (h.rev 0 m) j _ _);exact h.rev 0 m
def uy(h:Rw n p)(j:0<n)(m r:Nat):Kt n (λr=>Rw n r.2) (kas_descPart m r p):=Kt.bind (λa q=>by
 split
 ·exact A_ (q.rev _ _) j _ _
 ·exact A_ q j _ _) _ (uf j _ _ _ _ h)
def Le(h:Rw n p)(j:0<n)(r:Nat):Kt n (λr=>Rw n r.2) (kas_count r p):=Kt.bind (λa _=>by
 split
 ·exact h
 ·split
  ·refine⟨h.at j _,h.at j _,λc=>?_⟩
   cases c with
   |true=>exact h
   |false=>exact uy (h.rev _ _) j _ _
  ·exact uy h j _ _) _ (Az h j _ _)
theorem uR{p:Array Nat}(h:Rw n p)(j:0<n)(k:Nat):∀f l r,Kt n (λ_=>True) (kas_place p k f l r)
 |0,_,_=>trivial
 |f+1,l,r=>by
  unfold kas_place;split
  ·exact trivial
  ·refine⟨h.at j _,h.at j _,λc=>?_⟩
   cases c with
   |true=>exact uR h j k f _ _
   |false=>exact uR h j k f _ _
theorem Jj(j:0<n):∀f (p:Array Nat) k,Rw n p->Kt n (Rw n) (kas_bin f p k)
 |0,_,_,h=>h
 |f+1,p,k,h=>Kt.bind (λ_ _=>Jj j f _ _ (h.bub _ _)) _ (uR h j k _ _ _)
def Ec(j:0<n):Kt n (Rw n) (kas_sort n):=Kt.bind (λr h=>by
 split
 ·exact Jj j _ _ _ h
 ·exact h) _ (Le (Array.Perm.refl _) j n)
end
noncomputable def oY(lt:Nat->Nat->Bool)(n:Nat):List Nat:=if n<2 then List.range n else(xK lt (kas_sort n)).toList
def qH(lt:Nat->Nat->Bool)(n:Nat):(oY lt n).Perm (List.range n):=by
 unfold oY;split
 ·exact List.Perm.refl _
 ·have:=(Ec (n:=n) (by omega)).run lt
  have h:((xK lt (kas_sort n)).toList).Perm ((List.range n).toArray.toList):=Array.perm_iff_toList_perm.mp this;simpa using h
noncomputable def ltK(p q:Int×Str):Bool:=if decide (p.1=q.1)=true then(if decide (p.2=q.2)=true then false else decide (p.2.cps.toList<q.2.cps.toList))else decide (p.1<q.1)
noncomputable def ltI(p q:(Int×Str)×Int):Bool:=if decide (p.1=q.1)=true then(if decide (p.2=q.2)=true then false else decide (p.2<q.2))else ltK p.1 q.1
def T2(h:Heap)(p:Int×Str)(b:Addr):Prop:=∃t u,IsTup h b #[.int p.1 t,.str p.2 u]
def PrT(h:Heap)(p:(Int×Str)×Int)(c:Addr):Prop:=∃b t,IsTup h c #[.ref b,.int p.2 t]/\T2 h p.1 b
section
variable {prog:Program}{w:World}{A:Around}{E:gV}{s:Shared}
def Jk{p:Int×Str}{b:Addr}(h:T2 s.heap p b):F5 (F9 0 s.heap) s.heap [.k (.inl p.1),.k (.inr p.2)] b:=by
 obtain⟨t,u,o,h1,h2,n,j⟩:=h;exact⟨o,_,n,h1,h2,j,.cons ⟨_,rfl,ou (rG _ _)⟩ (.cons ⟨_,rfl,ou (rH _ _)⟩ .nil)⟩
def R_{p q:Int×Str}{b d:Addr}(J:A.units+1<cLine)(B:T2 s.heap p b)(F:T2 s.heap q d):SeqAt.EqAt A s (.ref b) (.ref d) (decide (p=q)):=by
 have h:=E_ (A:=A) (R:=F9 0 s.heap) (λx y v=>F9.inj x y v) (by omega) (Jk B) (Jk F) λp q u v h1 h2=>F9.eq p q u v (by rw[in1_units];omega) h1 h2;have e:decide (([.k (.inl p.1),.k (.inr p.2)]:List DF)=[.k (.inl q.1),.k (.inr q.2)])=decide (p=q):=by
  obtain⟨p1,p2⟩:=p;obtain⟨I,j⟩:=q;by_cases z:p1=I<;>by_cases z2:p2=j<;>simp[z,z2]
 rw[←e];exact h
def Sd{p q:Int×Str}{b d:Addr}(hu:A.units+1<cLine)(hx:T2 s.heap p b)(hy:T2 s.heap q d){Q:gV}(h:Q (.bool (ltK p q)) s):wpAny (model prog w) A (compareOp .Lt (.ref b) (.ref d)) Q E s:=by
 obtain⟨t,u,⟨cls,dd,M,sl⟩,Z,U,n,Y⟩:=hx;obtain⟨t',u',⟨I,Ya,B,Yb⟩,J,O,n2,j⟩:=hy;simp only at U Y O j;subst U Y O j;refine richCompare_meets_room (op:=.Lt) ⟨_,Z,rfl⟩ ⟨_,J,rfl⟩ PySem.F.slot_tuple_lt PySem.F.entry_tuple_lt (PySem.F.args_tuple_lt_2 _ _) (HT.MS b d _ _ _ _ n n2 dd Ya sl Yb (decide (p.1=q.1)) (decide (p.2=q.2)) (decide (p.1<q.1)) (decide (p.2.cps.toList<q.2.cps.toList)))
  ⟨Z,J,?_,λ_=>?_,λ_ prog w E Q q=>?_,λ_ _ prog w E Q q=>?_,?_⟩ (by omega)
 ·have:=ml (A:=A.in1) (s:=s) p.1 t q.1 t'
  rw[pT]at this;exact this
 ·have:=SeqAt.EqAt.str_str (A:=A.in1) (s:=s) p.2 u q.2 u'
  rw[show(p.2 == q.2)=decide (p.2=q.2) by by_cases z:p.2=q.2<;>simp[z]]at this;exact this
 ·exact lt_int q
 ·exact lt_str q
 ·exact(show Value.bool (ltK p q)≠Value.notImplemented/\Q (.bool (ltK p q)) s from⟨(λx=>nomatch x),h⟩)
def Sg{p q:(Int×Str)×Int}{c d:Addr}(I:A.units+1<cLine)(O:PrT s.heap p c)(Y:PrT s.heap q d){Q:Bool->Shared->Prop}(h:Q (ltI p q) s):wpAny (model prog w) A (keyLt' (tuples' false) (.ref c) (.ref d)) Q E s:=by
 obtain⟨b,t,⟨o,h1,h2,n,U⟩,F⟩:=O;obtain⟨b',t',⟨o',M,J,Z,B⟩,j⟩:=Y;refine W.kat_lt h1 U M B ?_;refine W.kat_cons ((R_ I F j) _ _ _ _ ?_);unfold ltI at h;refine W.kat_go (λe=>W.kat_yes ?_) λe=>W.kat_no ?_
 ·rw[e]at h
  simp only[fT]at h;refine W.kat_cons ?_;have key:=ml (A:=A) (s:=s) p.2 t q.2 t';rw[pT]at key;refine key _ _ _ _ ?_;refine W.kat_go (λe2=>W.kat_yes (W.kat_nil ?_)) λe2=>W.kat_no ?_
  ·rw[e2]at h
   simpa using h
  ·rw[e2]at h
   simp only[eM,fw]at h;exact W.kat_one _ _ (lt_int h)
 ·rw[e]at h
  simp only[eM,fw]at h;exact W.kat_one _ _ (Sd I F j h)
variable {κ:Type}[DecidableEq κ]{kd:HeapKind prog w κ}{d r S:Addr}{xs:List (κ×Addr×Value)}
def Pu{R:Result->Shared->Prop}(hh:A.handled=none)(Z:s.heap.IsItemsView r d)(m:EB kd s.heap d xs)
  (kp:∀h h':Heap,(∀b o,h.get? b=some o->o.cls=.type "tuple" -> h'.get? b=some o)->∀(x:κ) (b:Addr),kd.is h x b->kd.is h' x b)
  (hSr:S≠r) (U:d≠S) (res:Value) (IJ:Nat) (hS:s.heap.get? S=some {cls:=.type "list",data:=.seq #[] IJ})
  (hR:∀h' J B c O,(∀b o,b≠S->s.heap.get? b=some o->h'.get? b=some o)->h'.get? S=some {cls:=.type "list",dict:=none,data:=.seq B c,slots:=#[]}->O.length=xs.length->ZY h' s.heap.objs.size xs O->
   B.toList=O.map Value.ref->R (.ok (.ret res)) {s with heap:=h',toks:=J}) (hn:xs.length<=sizeLine):
  wpAny (model prog w) A.in1 (Builtin.List.listExtendWith (.ref S) (.ref r) res)
   (λfin s'=>match fin with|.done f=>R (.ok f) s'|.again c'=>c'.quiet=true/\codeAny (model prog w) A c' R s') (λe s'=>R (.error e) s') s:=by
 have M:S<s.heap.objs.size:=ar hS;have hdI:d<s.heap.objs.size:=by obtain⟨o,es,o1,_⟩:=m;exact ar o1
 have key:∀(h:Heap) (KG J:Nat),(∀b o,b≠S->(s.heap.push {cls:=.type "dict_itemiterator",data:=.fields #[.none,.bool false,.ref d,.int 0 0,.int xs.length 0,.int xs.length 0,.none,.none]}).get? b=some o->h.get? b=some o)->
   h.get? S=some {cls:=.type "list",data:=.seq #[] KG}->codeAny (model prog w) A (.builtin "list.extend.loop" ⟨[.ref S,.ref s.heap.objs.size,res],[]⟩) R {s with heap:=h,toks:=J}:=by
  intro h KG J Y I;have hI:=Y s.heap.objs.size _ (dy M) (av _ rfl);have tS:∀b o,s.heap.get? b=some o->o.cls=.type "tuple" -> b≠S:=λb o e q z=>by rw[z,hS]at e;cases e;exact absurd (jp q) (by decide)
  refine Vb (kd:=kd) (xs:=xs) (s:=s) (h₁:=s.heap) hh M U (bP hdI) hn res kp (λh' tk' B c O hk' So hl hG IG=>hR h' tk' B c O (λb o F e=>hk' b o F (bP (ar e)) e) So hl hG IG)
   xs.length 0 h J KG #[] [] (Nat.sub_zero _) (cm _) (.inl ⟨rfl,.none,.none,hI⟩) (uQ m (kp _ _ λb o e q=>Y b o (tS b o e q) (ae _ e)) λo e=>Y d o U (ae _ e)) (λb o F _ e=>Y b o F (ae _ e)) I rfl rfl
   (λj a hj=>by simp at hj) (ar hI)
 unfold Builtin.List.listExtendWith;refine ac (kc (T := "dict_items") Z.typeIs ?_);have g1:Builtin.List.listSameRef (.ref S) (.ref r)=false:=by simp[Builtin.List.listSameRef,hSr]
 have g2:(Value.type "dict_items" == Value.type "list")=false:=by decide
 have g3:(Value.type "dict_items" == Value.type "tuple")=false:=by decide
 simp only[g1,g2,g3,qB,eM,fw];refine ac (R6 Z m λh' eh=>?_);subst eh;have I:=ae {cls:=.type "dict_itemiterator",data:=.fields #[.none,.bool false,.ref d,.int 0 0,.int xs.length 0,.int xs.length 0,.none,.none]} hS;refine ac (eD (W.kdx_hint (let ⟨o,ho,hc,_⟩:=Z;⟨o,ae _ ho,hc⟩) ?_));refine wpAny_ite_split (λ_=>?_) (λ_=>al ⟨lh f8 _,key _ IJ _ (λb o _ e=>e) I⟩);refine ac (i6 ?_);refine ac ?_;show wpAny _ _ (updateSeq S (·.push .none) >>= λ_=>updateSeq S (·.pop)) _ _ _;refine ac (lS I rfl ?_);have hS₂:=eJ (Obj.mapSeq (·.push Value.none)) I rfl;refine lS (hz:=by seq_fits) hS₂ rfl ?_;have hS₃:=eJ (Obj.mapSeq (·.pop)) hS₂ rfl;refine al ⟨lh f8 _,key _ _ _ (λb o F e=>?_) hS₃⟩;exact(eP _ _ (fm F)).trans ((eP _ _ (fm F)).trans e)
def Lf{R:List Value->Shared->Prop}(hh:A.handled=none)(hv:s.heap.IsItemsView r d)(m:EB kd s.heap d xs)
  (kp:∀h h':Heap,(∀b o,h.get? b=some o->o.cls=.type "tuple" -> h'.get? b=some o)->∀(x:κ) (b:Addr),kd.is h x b->kd.is h' x b) (hn:xs.length<=sizeLine)
  (q:∀h' J I,(∀b o,s.heap.get? b=some o->h'.get? b=some o)->s.heap.objs.size<h'.objs.size->I.length=xs.length->ZY h' s.heap.objs.size xs I->R (I.map Value.ref) {s with heap:=h',toks:=J}):wpAny (model prog w) A (collect (.ref r)) R E s:=by
 have lr:r<s.heap.objs.size:=by obtain⟨o,ho,_⟩:=hv;exact ar ho
 have ld:d<s.heap.objs.size:=by obtain⟨o,es,o1,_⟩:=m;exact ar o1
 unfold collect;refine ac (wpAny_runValue (gS entry_proto_collect' ?_));rw[ja PySem.F.plain_proto_collect _];show wpAny _ A.in1 (newList [] >>= λl=>again (.builtin "list.__iadd__" ⟨[l,.ref r],[]⟩)) _ _ s;refine ac (dE ?_);refine al ⟨lh oB _,gS entry_list_iadd' ?_⟩;rw[ja oB _];have Y9:(s.heap.push {cls:=.type "list",data:=.seq ([]:re).toArray}).get? s.heap.objs.size=some {cls:=.type "list",data:=.seq #[]}:=av _ rfl;show wpAny _ A.in1 (Builtin.List.listExtendWith (.ref s.heap.objs.size) (.ref r) (.ref s.heap.objs.size)) _ _ _;have hv1:(s.heap.push {cls:=.type "list",data:=.seq ([]:re).toArray}).IsItemsView r d:=by obtain⟨o,ho,e⟩:=hv;exact⟨o,ae _ ho,e⟩
 have m1:EB kd (s.heap.push {cls:=.type "list",data:=.seq ([]:re).toArray}) d xs:=uQ m (kp _ _ λb o e _=>ae _ e) λo e=>ae _ e;have key:=Pu (A:=A) (s:={s with heap:=s.heap.push {cls:=.type "list",data:=.seq ([]:re).toArray}}) (S:=s.heap.objs.size)
  (R:=λ(z:Result) (s':Shared)=>∃(h':Heap) (J:Nat) (B:rV) (c:Nat) (I:rS),z=.ok (.ret (.ref s.heap.objs.size))/\s'={s with heap:=h',toks:=J} /\
   (∀b o,s.heap.get? b=some o->h'.get? b=some o)/\h'.get? s.heap.objs.size=some {cls:=.type "list",dict:=none,data:=.seq B c,slots:=#[]}/\I.length=xs.length/\ZY h' s.heap.objs.size xs I/\B.toList=I.map Value.ref)
  hh hv1 m1 kp (dy lr) (bP ld) (.ref s.heap.objs.size) 0 Y9
  (λh' J B c I Y M U O Z=>⟨h',J,B,c,I,rfl,rfl,λb o e=>Y b o (bP (ar e)) (ae _ e),M,U,λj c hj=>by
   obtain⟨e0,e1⟩:=O j c hj;have e0:(s.heap.push {cls:=.type "list",data:=.seq ([]:re).toArray}).objs.size<c:=e0;rw[size_push']at e0;exact⟨l6 (ia _) e0,e1⟩,Z⟩) hn
 refine cS key (λfin s' x=>?_) λe s' x=>?_
 ·cases fin with
  |done f=>
   obtain⟨h',J,B,c,I,e,rfl,Y,M,U,O,Z⟩:=x;cases e;show wpAny _ A (load s.heap.objs.size >>= _) _ _ _;refine ac (wpAny_load M (al ?_));show R B.toList _;rw[Z];exact q h' J I Y (ar M) U O
  |again KG=>
   refine⟨x.1,jI x.2 λz FC y=>?_⟩;obtain⟨h',J,B,c,I,rfl,rfl,Y,M,U,O,Z⟩:=y;show wpAny _ A (load s.heap.objs.size >>= _) _ _ _;refine ac (wpAny_load M (al ?_));show R B.toList _;rw[Z];exact q h' J I Y (ar M) U O
 ·obtain⟨_,_,_,_,_,e',_⟩:=x
  cases e'
end
open PySem.W (kas_sort kas_ask kat_run kat_snds kat_kind KatTups)
section
variable {prog:Program}{w:World}{A:Around}{E:gV}{s:Shared}
noncomputable def lQ(lt:Nat->Nat->Bool)(vs:re):List Value:=(oY lt vs.length).map λi=>vs.getD i Value.none
def Lh(lt:Nat->Nat->Bool)(vs:re):(lQ lt vs).length=vs.length:=by
 unfold lQ;rw[ay,(qH lt vs.length).length_eq,kP]
def Gs{lt:Nat->Nat->Bool}{vs:re}(h:vs.length<2):lQ lt vs=vs:=by
 unfold lQ oY;rw[bX h];match vs,h with
 |[],_=>rfl
 |[v],_=>rfl
 |_::_::_,h=>exact absurd h (by simp only[cv];omega)
def Px(vs:re):(vs.toArray.zip vs.toArray).map (·.2)=vs.toArray:=by
 apply Array.toList_inj.mp;simp[List.map_snd_zip]
noncomputable def jz(h:Heap)(a:Addr)(vs:re):Heap:=((h.update a (Obj.mapSeq λ_=>(#[]:rV))).push (seqObj "tuple" vs.toArray 0)).push (seqObj "list" #[] 0)
def Lj{h:Heap}{a b:Addr}{vs:re}{o:Obj}(j:b≠a)(e:h.get? b=some o):(jz h a vs).get? b=some o:=
 ae _ (ae _ ((eP _ _ (fm j)).trans e))
def Sh{a:Addr}{vs:re}{n:Nat}{P:PySem.Fin->Shared->Prop}(lt:Nat->Nat->Bool)(M:s.heap.get? a=some (seqObj "list" vs.toArray n))(Y2:vs.length<64)
  (Z:2<=vs.length->∀Q:SortKind->Shared->Prop,Q (tuples' false) {s with heap:=jz s.heap a vs}->wpAny (model prog w) A (keyKind' vs.toArray) Q (λ_ _=>False) {s with heap:=jz s.heap a vs})
  (hc:∀i j (C:Bool->Shared->Prop),i<vs.length->j<vs.length->C (lt i j) {s with heap:=jz s.heap a vs}->kas_ask prog w A (tuples' false) vs i j C {s with heap:=jz s.heap a vs})
  (h:P (.done (.ret .none)) {s with heap:=sortedHeap s.heap a vs (lQ lt vs).toArray}):
  wpAny (model prog w) A (Builtin.«list.sort» ⟨[.ref a],[]⟩) P E s:=by
 rw[list_sort_plain];have U:a<s.heap.objs.size:=ar M;have hz:vs.length<=sizeLine:=by rw[ib];omega
 refine ac (listItems_at M rfl ?_);refine ac (listUpdate_at M rfl ?_ (by rw[aE,ib];omega) (cm _));obtain⟨e1,F⟩:∃e1,(s.heap.update a (Obj.mapSeq λ_=>#[])).get? a=some (seqObj "list" #[] e1):=⟨_,get?_update_seq M (λ_=>#[])⟩;refine ac (seqEpoch_at F rfl ?_);refine ac (mE ?_ (by show vs.length<=_;exact hz));refine ac (wpAny_newList ?_ (cm _));refine eD ?_;have I:(jz s.heap a vs).get? a=some (seqObj "list" #[] e1):=by
  unfold jz;rw[Heap.get?_push_ne _ _ _ (by rw[size_push',Heap.size_update];exact bP (Nat.lt_succ_of_lt U)),Heap.get?_push_ne _ _ _ (by rw[Heap.size_update];exact bP U)];exact F
 show wpAny (model prog w) A _ P E {s with heap:=jz s.heap a vs};dsimp only;by_cases h2:vs.toArray.size<2
 ·rw[bX h2,bX h2]
  have q:vs.length<2:=by rwa [aE]at h2
  refine ac (al ?_);rw[StateT.run_pure];refine ac (al ?_);dsimp only;refine ac (seqEpoch_at I rfl ?_);have eo:(arrOf (SortSt.mk' general' (vs.toArray.zip vs.toArray) #[] 7 none)).map (·.2)=vs.toArray:=by
   exact Px vs
  rw[eo];refine ac (listUpdate_at I rfl ?_ (cm _) (by show vs.toArray.size<=_;rw[aE];exact nE hz));simp only[bne_self_eq_false,eM,fw];rw[Gs q]at h;exact al h
 ·rw[bt h2,bt h2]
  have q:2<=vs.length:=by rw[aE]at h2;omega
  refine ac (cS (Z q (fun κ s'=>κ=tuples' false/\s'={s with heap:=jz s.heap a vs}) ⟨rfl,rfl⟩) (fun κ s0 hκ=>?_) λ_ _ x=>x.elim);obtain⟨rfl,rfl⟩:=hκ;refine ac (cS (kat_run (A:=A) (κ:=tuples' false) (ks:=vs) (vs:=vs) (Q:=λJ s'=>s'={s with heap:=jz s.heap a vs}/\(arrOf J).map (·.2)=(lQ lt vs).toArray/\failedOf J=none)
   (G:=λp s'=>s'={s with heap:=jz s.heap a vs}/\p=xK lt (kas_sort vs.length)) rfl q Y2 (λp J s' a1 a2 a3 O=>⟨O.1,?_,a3⟩) (Kt.wp (s:={s with heap:=jz s.heap a vs}) hc _ (Ec (by omega)) ⟨rfl,rfl⟩)) ?_ λ_ _ e=>e)
  ·rw[kat_snds rfl a2,O.2]
   unfold lQ oY;rw[bt (by omega)]
  ·rintro⟨⟨⟩,J⟩ s' ⟨rfl,B,Y⟩
   dsimp only;rw[B];refine ac (seqEpoch_at I rfl ?_);refine ac (listUpdate_at I rfl ?_ (cm _) (by show(lQ lt vs).toArray.size<=_;rw[aE,Lh];exact nE hz));rw[Y];simp only[bne_self_eq_false,eM,fw];exact al h
variable {κ:Type}[DecidableEq κ]{kd:HeapKind prog w κ}{d r:Addr}{xs:List (κ×Addr×Value)}
noncomputable def ltAt(L:List ((Int×Str)×Int))(i j:Nat):Bool:=match L[i]?,L[j]? with
 |some p,some q=>ltI p q
 |_,_=>false
def Lk{h h':Heap}{p:Int×Str}{b:Addr}(x:T2 h p b)(k:∀o,h.get? b=some o->h'.get? b=some o):T2 h' p b:=by
 obtain⟨t,u,o,h1,h2⟩:=x;exact⟨t,u,o,k o h1,h2⟩
theorem Ed{h:Heap}:∀q:List Addr,(∀c∈q,∃p,PrT h p c)->∃fs:List Value,fs.length=q.length/\KatTups h (q.map Value.ref) fs/\∀f∈fs,∃b o,f=.ref b/\h.get? b=some o/\o.cls=.type "tuple"
 |[],_=>⟨[],rfl,.nil,λf j=>nomatch j⟩
 |c::q,hp=>by
  obtain⟨fs,h1,h2,F⟩:=Ed q λc B=>hp c (aI _ B);obtain⟨p,b,t,⟨o,e1,e2,n,e3⟩,M,J,I,b1,b2,_⟩:=hp c bp;refine⟨.ref b::fs,by simp[h1],.cons e1 e2 e3 rfl h2,λf j=>?_⟩;rcases br.mp j with rfl|j
  ·exact⟨b,I,rfl,b1,b2⟩
  ·exact F f j
def Py{Q:gV}(L:List ((Int×Str)×Int))(hh:A.handled=none)(hu:A.units+9<cLine)(hv:s.heap.IsItemsView r d)(m:EB kd s.heap d xs)
  (kp:∀h h':Heap,(∀b o,h.get? b=some o->o.cls=.type "tuple" -> h'.get? b=some o)->∀(x:κ) (b:Addr),kd.is h x b->kd.is h' x b) (M:L.length=xs.length) (Y2:xs.length<64)
  (hL:∀(j:Nat) (k:κ) (b:Addr) (v:Value),xs[j]?=some (k,b,v)->∃p:(Int×Str)×Int,L[j]?=some p/\T2 s.heap p.1 b/\∃t,v=Value.int p.2 t)
  (q:∀h' Y D e B,s.heap.objs.size<=D->(∀b o,s.heap.get? b=some o->h'.get? b=some o)->B.length=xs.length->(∀c∈B,s.heap.objs.size<=c/\c≠D)->ZY h' s.heap.objs.size xs B->
   h'.get? D=some (seqObj "list" ((oY (ltAt L) L.length).map λi=>Value.ref (B.getD i 0)).toArray e)->Q (.ref D) {s with heap:=h',toks:=Y}):
  wpAny (model prog w) A (call (.builtin "sorted") [.ref r]) Q E s:=by
 refine Calls.call_function_entry kind_sorted plain_sorted entry_sorted (args_sorted1 _) ?_;unfold Builtin.«sorted»;refine ac (m:=checkCount "sorted" 1 1 _) (al ?_);refine ac (Lf (A:=A.in1) (kd:=kd) hh hv m kp (by rw[ib];omega) λh1 Y B k1 sz1 Yl hG=>?_);have O:(B.map Value.ref).length=xs.length:=by rw[ay,Yl]
 refine ac (wpAny_newList ?_ (by rw[O,ib];omega));have hD:(h1.push (seqObj "list" (B.map Value.ref).toArray 0)).get? h1.objs.size=some (seqObj "list" (B.map Value.ref).toArray 0):=av _ rfl;have szl:(B.map Value.ref).length<64:=by omega
 have Z:∀(j:Nat) (c:Addr),B[j]?=some c->c<h1.objs.size/\s.heap.objs.size<c/\∃p,L[j]?=some p/\∀h2:Heap,(∀b o,b<h1.objs.size->h1.get? b=some o->h2.get? b=some o)->PrT h2 p c:=λj c F=>by
  obtain⟨e0,k,b,v,e1,e2⟩:=hG j c F;obtain⟨p,hp,pk,t,rfl⟩:=hL j k b v e1;refine⟨ar e2,e0,p,hp,λh2 k2=>⟨b,t,⟨_,k2 c _ (ar e2) e2,rfl,0,rfl⟩,Lk pk λo e=>?_⟩⟩;have e':=k1 b o e;exact k2 b o (ar e') e'
 have kS:∀b o,b<h1.objs.size->h1.get? b=some o->(jz (h1.push (seqObj "list" (B.map Value.ref).toArray 0)) h1.objs.size (B.map Value.ref)).get? b=some o:=λb o U e=>Lj (bP U) (ae _ e);refine ac (eD (dv slot_list_sort ⟨_,hD,rfl⟩ entry_list_sort ?body (args_list_sort _)))
 case body=>
  refine Sh (A:=A.in1.in1) (s:={s with heap:=h1.push (seqObj "list" (B.map Value.ref).toArray 0),toks:=Y}) (ltAt L) hD szl (λh2 Q I=>?_) (λi j C hi F I=>?_) ?_
  ·obtain⟨fs,f1,f2,f3⟩:=Ed (h:=jz (h1.push (seqObj "list" (B.map Value.ref).toArray 0)) h1.objs.size (B.map Value.ref)) B λc hc=>by
    obtain⟨j,F⟩:=d0.mp hc;obtain⟨_,_,p,_,e⟩:=Z j c F;exact⟨p,e _ kS⟩
   refine kat_kind (T:=.type "tuple") f2 (by rw[f1];simp at h2;omega) (λv hv=>?_) (by decide) I;obtain⟨b,o,rfl,e1,e2⟩:=f3 v hv;rw[←e2];exact(oC e1).andThen .now
  ·rw[ay]at hi F
   obtain⟨_,_,p,hp,e1⟩:=Z i B[i] (aw hi);obtain⟨_,_,q',Xl,e2⟩:=Z j B[j] (aw F);have g1:(B.map Value.ref).getD i Value.none=.ref B[i]:=by simp[hi]
   have g2:(B.map Value.ref).getD j Value.none=.ref B[j]:=by simp[F]
   unfold kas_ask;rw[g1,g2];unfold ltAt at I;rw[hp,Xl]at I;exact Sg (by rw[in1_units,in1_units];omega) (e1 _ kS) (e2 _ kS) I
  ·refine⟨_,rfl,al ⟨_,rfl,?_⟩⟩
   have J:∀b o,b<h1.objs.size->h1.get? b=some o->(sortedHeap (h1.push (seqObj "list" (B.map Value.ref).toArray 0)) h1.objs.size (B.map Value.ref) (lQ (ltAt L) (B.map Value.ref)).toArray).get? b=some o:=λb o U e=>by
    rw[sortedHeap_old (bP U) (bS U (by rw[size_push'];exact hJ _))];exact ae _ e
   obtain⟨e,he⟩:=sortedHeap_at (out:=(lQ (ltAt L) (B.map Value.ref)).toArray) hD;refine q _ Y h1.objs.size e B (gg sz1) (λb o eb=>J b o (ar (k1 b o eb)) (k1 b o eb)) Yl (λc hc=>?_) (λj c F=>?_) ?_
   ·obtain⟨j,F⟩:=d0.mp hc
    obtain⟨a1,a2,_⟩:=Z j c F;exact⟨gg a2,bP a1⟩
   ·obtain⟨e0,k,b,v,e1,e2⟩:=hG j c F
    exact⟨e0,k,b,v,e1,J c _ (ar e2) e2⟩
   ·rw[he]
    have eo:lQ (ltAt L) (B.map Value.ref)=(oY (ltAt L) L.length).map λi=>Value.ref (B.getD i 0):=by
     unfold lQ;rw[O,M];refine qh λi hi=>?_;have Of:i<B.length:=by
      have:=(qH _ _).mem_iff.mp hi;rw[fz]at this;omega
     simp[Of]
    rw[eo]
end
noncomputable def Gu(L:List ((Int×Str)×Int)):List ((Int×Str)×Int):=(oY (ltAt L) L.length).map λi=>L.getD i ((0, ""),0)
def IH(p a:Addr)(h:Heap):Prop:=h.get? p=some {cls:=.type "dict_items",data:=.fields #[.ref a]}
noncomputable def kI(p:(Int×Str)×Int):List DF×V:=([.k (.inl p.1.1),.k (.inr p.1.2)],.int p.2)
def xM(K:W.Frag)(H:Hp)(p:(Int×Str)×Int)(v:V):Prop:=∃c b,v=.ref c/\H c=some (.tup [.ref b,.int p.2])/\(H b=some (.tup [.int p.1.1,.str p.1.2])\/LF K b [.int p.1.1,.str p.1.2])
section
variable {X:Cx}{DE:oI}{EK:St}{H:Hp}{s:Shared}{apos D3:Pos}{td:TE}{o:Expr}
def Sq(td:TE):TE:=fun EK H Q=>td EK H λx H1=>∃a kvs,x=.ref a/\Rd H1 a (.dT kvs)/\∀p,H1 p=none->Q (.ref p) (upd H1 p (.ext (IH p a)))
def Ln(ho:PE X o td)(HL:Xh X o "items" := by rfl)(HM:autoParam ((apos.endLine == D3.line)=true) r0_):
  PE X (.Call (.Attribute o "items" apos) [] [] D3) (Sq td):=by
 intro DE s EK H Q I h;refine ny (T := "dict") (id := "dict.items") HL rfl HM F.plainAttrs_dict F.slot_dict_items F.type_dict_items (D8 (ho DE s EK H _ I h) ?_);rintro u j ⟨x,H1,B,rx,a,kvs,ex,O,q⟩;subst ex;cases(show u=Value.ref a from rx);obtain⟨M,U,_⟩:=z_ B (.inr ⟨kvs,O⟩);refine⟨M,U,?_⟩;obtain⟨_,Z,xs,Y,dd⟩:=zV B.HI B.DV O;have J:IH j.heap.objs.size a (j.heap.push {cls:=.type "dict_items",data:=.fields #[.ref a]}):=av _ rfl;have I2:Inv X DE EK (upd H1 j.heap.objs.size (.ext (IH j.heap.objs.size a))) {j with heap:=j.heap.push {cls:=.type "dict_items",data:=.fields #[.ref a]},toks:=j.toks}:=
  B.laid (λb o e=>ae _ e) (ax _) ⟨J,⟨_,J⟩,λh1 h2 e k=>k _ e⟩
 refine method_meetsIn F.slot_dict_items F.entry_dict_items rfl (PySem.evalArgs_none ⟨rfl,M,F.args_dict_items_1 _,_,Ay (dC X.prog X.w) a Z,⟨xs,dd⟩,?_⟩);exact⟨.ref j.heap.objs.size,_,I2,rfl,q _ (B.DV.fresh (ax _))⟩
def Ss{K:W.Frag}{h:Heap}{b:Addr}{p:Int×Str}{P:Program}{w:World}(I:K.In h)(ok:GY P w K H h)(c:FV K H b [.k (.inl p.1),.k (.inr p.2)]):(H b=some (.tup [.int p.1,.str p.2])\/LF K b [.int p.1,.str p.2])/\T2 h p b:=by
 have j:∀vs,MH K H [.k (.inl p.1),.k (.inr p.2)] vs->vs=[.int p.1,.str p.2]:=λvs k=>by
  rcases k with k|⟨x,b,e,_⟩
  ·cases k with
   |cons a k=>cases k with
    |cons b k=>
     cases k;rcases a with⟨x,e,rfl⟩|⟨ns,_,_,e,_⟩
     ·cases e
      rcases b with⟨y,e,rfl⟩|⟨ns,_,_,e,_⟩
      ·cases e;rfl
      ·exact(DF.Xg e.symm).elim
     ·exact(DF.Xg e.symm).elim
  ·cases e
 have q:∀us:List Value,Vals [.int p.1,.str p.2] us->∃t u,us=[.int p.1 t,.str p.2 u]:=λus r=>by
  cases r with
  |cons a r=>cases r with
   |cons b r=>
    cases r;obtain⟨t,rfl⟩:=a;obtain⟨u,rfl⟩:=b;exact⟨t,u,rfl⟩
 rcases c with⟨vs,e,k⟩|⟨vs,e,k⟩
 ·cases j vs k
  refine⟨.inl e,?_⟩;obtain⟨_,F,r,it⟩:=(show DZ P w K H h b (.tup [.int p.1,.str p.2])from ok b _ e);have it:=it.tup;obtain⟨t,u,rfl⟩:=q _ r;exact⟨t,u,it⟩
 ·cases j vs k
  refine⟨.inr e,?_⟩;obtain⟨o,F,n,e1,e2,e3,_,r⟩:=e;obtain⟨t,u,B⟩:=q _ r;refine⟨t,u,o,I b o e1,e2,n,?_⟩;rw[e3];congr 1;exact Array.toList_inj.mp B
noncomputable def LO(o:Obj):List V:=match o.data with
 |.seq DL _=>DL.toList.filterMap QJ
 |_=>[]
def Gv(hc:X.calm=true)(hu:X.A.units+9<cLine):EE X (.builtin "sorted") (λxs H Q=>∃p a L,xs=[.ref p]/\H p=some (.ext (IH p a))/\Rd H a (.dT (L.map kI))/\L.length<64 /\
  ∀H2 l vs,DH H H2->H l=none->H2 l=none->Paired (xM X.K H2) (Gu L) vs->Q (.ref l) (upd H2 l (.lst vs))):=by
 intro DE s EK H xs us Q I r h;obtain⟨p,a,L,rfl,hp,ha,Y2,q⟩:=h;obtain⟨u,rfl,ru⟩:=Vals.one r;cases(show u=Value.ref p from ru);have vw:IH p a s.heap:=(show DZ X.prog X.w X.K H s.heap p (.ext (IH p a))from I.DV p _ hp).1;obtain⟨_,hd,ys,rel,dd⟩:=zV I.HI I.DV ha;have hlen:L.length=ys.length:=by rw[←iO rel,ay]
 have at':∀(j:Nat) (k:List DF) (b:Addr) (v:Value),ys[j]?=some (k,b,v)->∃p:(Int×Str)×Int,L[j]?=some p/\(H b=some (.tup [.int p.1.1,.str p.1.2])\/LF X.K b [.int p.1.1,.str p.1.2])/\T2 s.heap p.1 b/\∃t,v=Value.int p.2 t:=λj k b v e=>by
  obtain⟨⟨k',v'⟩,e1,e2,e3,e4⟩:=oA rel e;rw[cp]at e1;obtain⟨p,hp,ep⟩:=ba.mp e1;cases ep;obtain⟨g1,g2⟩:=Ss I.HI I.DV e3;exact⟨p,hp,g1,g2,e4⟩
 refine Py (kd:=dC X.prog X.w) L (I.ok.hd hc) hu ⟨_,vw,rfl,rfl⟩ dd (λh h' k x b e=>?_) hlen (by omega) (λj k b v e=>let ⟨p,h1,_,F⟩:=at' j k b v e;⟨p,h1,F⟩) λh' tk D e B O kp Yl U lie hL=>?_
 ·obtain⟨o,DL,n,h1,h2,F,r⟩:=e
  have go:∀(n:Nat) (x:DF) (v:Value),F9 n h x v->F9 n h' x v:=by
   intro n;induction n with
   |zero=>exactλ_ _ z=>z
   |succ n ih=>exactλx v z=>z.imp id λ⟨ns,a,e,ev,o,DL,m,h1,h2,F,p⟩=>⟨ns,a,e,ev,o,DL,m,k a o h1 h2,h2,F,fP p ih⟩
  exact⟨o,DL,n,k b o h1 h2,h2,F,fP r (go 2)⟩
 ·have new:∀c,s.heap.objs.size<=c->H c=none:=λc hc=>I.DV.fresh hc
  have Z:∀b o,s.heap.get? b=some o->b≠D/\b∉B:=λb o e=>⟨bP (bS (ar e) O),λJ=>absurd (ar e) (Nat.not_lt.mpr (U b J).1)⟩;have tp:∀(j:Nat) (c:Addr),B[j]?=some c->∃(p:(Int×Str)×Int) (b:Addr) (t:Tok),L[j]?=some p/\(H b=some (.tup [.int p.1.1,.str p.1.2])\/LF X.K b [.int p.1.1,.str p.1.2])/\h'.get? c=some {cls:=.type "tuple",data:=.seq #[.ref b,.int p.2 t]}:=λj c M=>by
   obtain⟨_,k,b,v,e1,e2⟩:=lie j c M;obtain⟨p,h1,h2,_,t,rfl⟩:=at' j k b v e1;exact⟨p,b,t,h1,h2,e2⟩
  have HTd:∃HT:Hp,(∀c,c∉B->HT c=H c)/\∀(j:Nat) (c:Addr),B[j]?=some c->∀(p:(Int×Str)×Int) (b:Addr) (t:Tok),h'.get? c=some {cls:=.type "tuple",data:=.seq #[.ref b,.int p.2 t]}->HT c=some (.tup [.ref b,.int p.2]):=by
   refine⟨λc=>if c∈B then some (.tup (LO ((h'.get? c).getD {cls:=.none,data:=.fields #[]})))else H c,λc hc=>bt hc,λj c M p b t e=>?_⟩;show(if c∈B then _ else _)=_;rw[bX (et M),e];rfl
  obtain⟨HT,t1,t2⟩:=HTd;have Y:DH H HT:=λb o e=>by rw[t1 b λJ=>by rw[new b (U b J).1]at e;cases e];exact e
  have fD:HT D=none:=by rw[t1 D λJ=>(U D J).2 rfl];exact new D O
  have out:∃vs:List V,Paired (xM X.K HT) (Gu L) vs/\Vals vs ((oY (ltAt L) L.length).map λi=>Value.ref (B.getD i 0))/\vs.length=L.length:=by
   refine⟨(oY (ltAt L) L.length).map λi=>V.ref (B.getD i 0),?_,?_,?_⟩
   ·unfold Gu
    have go:∀l:List Nat,(∀i∈l,i<L.length)->Paired (xM X.K HT) (l.map λi=>L.getD i ((0, ""),0)) (l.map λi=>V.ref (B.getD i 0)):=by
     intro l;induction l with
     |nil=>exactλ_=>.nil
     |cons i l ih=>
      intro hl;refine .cons ?_ (ih λj M=>hl j (aI _ M));have hi:i<L.length:=hl i bp;have Of:i<B.length:=by omega
      obtain⟨p,b,t,h1,h2,F⟩:=tp i B[i] (aw Of);have eL:L.getD i ((0, ""),0)=p:=by rw[fN,h1];rfl
      have eA:B.getD i 0=B[i]:=by simp[Of]
      show xM X.K HT (L.getD i ((0, ""),0)) (V.ref (B.getD i 0));rw[eL,eA];exact⟨B[i],b,rfl,t2 i _ (aw Of) p b t F,h2.imp (λz=>Y _ _ z) id⟩
    exact go _ λi hi=>by
     have:=(qH _ _).mem_iff.mp hi;exact fz.mp this
   ·have go:∀l:List Nat,Vals (l.map λi=>V.ref (B.getD i 0)) (l.map λi=>Value.ref (B.getD i 0)):=by
     intro l;induction l with
     |nil=>exact .nil
     |cons i l ih=>exact .cons rfl ih
    exact go _
   ·rw[ay,(qH _ _).length_eq,kP]
  obtain⟨vs,p1,p2,p3⟩:=out;refine⟨.ref D,upd HT D (.lst vs),I.step (g':=s.gens) (d':=s.drawn) (ch:=[]) (λ_ z=>nomatch z) (λb o _ _ _ e _=>kp b o e) (λb o _ _ _ e _=>⟨o.slots,kp b o e⟩)
   (λb o _ e z=>?_) (λb o _ e=>⟨o,kp b o e⟩) (λb xs z=>?_) (λb o u z=>?_) (λb ps z=>⟨#[],?_⟩) (λm ⟨o,es,ep,ho,r⟩=>⟨o,es,ep,kp _ _ ho,r⟩) (λb u z=>?_) I.bare,rfl,q HT D vs Y (new D O) fD p1⟩
  ·rw[az (Z b o e).1,t1 b (Z b o e).2];exact z
  ·rw[az (au z (new D O))];exact Y _ _ z
  ·rw[az (au z (new D O))];exact Y _ _ z
  ·rw[az (au z (new D O)),Y _ _ z];simp
  ·by_cases J:b=D
   ·rw[J,aq]at z
    cases z;rw[J];exact⟨by rw[p3,ib];omega,_,e,p2,hL⟩
   ·rw[az J]at z
    by_cases hb2:b∈B
    ·obtain⟨j,M⟩:=d0.mp hb2
     obtain⟨p,c,t,_,_,F⟩:=tp j b M;rw[t2 j b M p c t F]at z;cases z;exact⟨by show(2:Nat)<=sizeLine;decide,[.ref c,.int p.2 t],.cons rfl (.cons ⟨t,rfl⟩ .nil),_,F,rfl,0,rfl,rfl⟩
    ·rw[t1 b hb2]at z
     exact(I.DV b u z).LG (λa v _ w=>kp a v w) (λa w=>by rw[az (au w (new D O))];exact Y _ _ w) λa xs w=>by rw[az (au w (new D O))];exact Y _ _ w
end
end Lake.L2
namespace Lake.MR
open PySem L2
noncomputable def Gw:List (List DF×PV)->Option (List ((Int×Str)×Int))
 |[]=>some []
 |([.k (.inl i),.k (.inr x)],.int n)::r=>(Gw r).bind λl=>some (((i,x),n)::l)
 |_=>none
noncomputable def itP(p:(Int×Str)×Int):PV:=.tup [.tup [.int p.1.1,.str p.1.2],.int p.2]
@[simp] noncomputable def Ba:PV->Option PV
 |.dT kvs=>(Gw kvs).bind λL=>if L.length<64 then some (.lst ((Gu L).map itP))else none
 |_=>none
set_option tactic.hygienic true in theorem Bb{C:MC}{A:se}{H:Hp}:∀{j:List (List DF×V)}{kvs:sw}{L:List ((Int×Str)×Int)},D7 C A H j kvs->Gw kvs=some L->j=L.map kI
 |_,_,_,.nil,e=>by cases e;rfl
 |_,_,_,.cons (k:=k) (v:=v) (p:=p) r t,e=>by
  unfold Gw at e;split at e
  ·rename_i h;cases h
  ·rename_i h
   cases h;obtain⟨l,q,e⟩:=ai.mp e;cases e;cases r;rw[Bb t q];rfl
  ·cases e
variable {C:MC}{H:Hp}
section
variable {X:Cx}{b:BX}{G:oT}{apos D3 p pos:Pos}{m:Md}{e:Expr}{f:sf}
def Lp{A:se}{p:(Int×Str)×Int}{v:V}(h:xM C.K H p v):Rep C A H v (itP p):=by
 obtain⟨c,b,rfl,h1,h2⟩:=h;refine .tup h1 (.cons ?_ (.cons (.int _) .nil));have r:DI C A H [.int p.1.1,.str p.1.2] [.int p.1.1,.str p.1.2]:=.cons (.int _) (.cons (.str _) .nil);rcases h2 with h2|h2
 ·exact .tup h2 r
 ·exact .GN h2 r
theorem yD{C:MC}{A:se}{H:Hp}:∀{L:List ((Int×Str)×Int)}{vs:sx},Paired (xM C.K H) L vs->DI C A H vs (L.map itP)
 |_,_,.nil=>.nil
 |_,_,.cons h t=>.cons (Lp h) (yD t)
set_option tactic.hygienic true in def Lq{k:Nat}(hr:Ee k X.A)(hm:X.mg "sorted" = none)(h:SE X b G m e f)(F:autoParam (X.calm=true) r0_)(hK:autoParam (X.K=b.C.K) r0_)(hg:Gl X "sorted" := by rfl)(HL:Xh X e "items" := by rfl)(HM:autoParam ((apos.endLine == D3.line)=true) r0_)
  (J:autoParam (starEach [.Call (.Attribute e "items" apos) [] [] D3] X.env=(false,eval (.Call (.Attribute e "items" apos) [] [] D3) X.env)::starEach [] X.env) r0_) (ES:autoParam (JI X pos []) r0_):
  SE X b G .own (.Call (.Name "sorted" p) [.Call (.Attribute e "items" apos) [] [] D3] [] pos) (b1 Ba f):=by
 refine PE.imp (eX (Gv F (d7 hr)) hg hm PyProof.Rows.boot_sorted (aB (Ln h.bor HL HM) aM J) (by decide) (by decide) J ES) ?_;rintro EK H Q ⟨Ow,env,q,E,j,k⟩;obtain⟨x,hx,j⟩:=aC j;unfold Ba at j;split at j
 ·rename_i kvs
  obtain⟨L,Y,j⟩:=ai.mp j;split at j
  ·rename_i Y2
   cases j;refine⟨Ow,env,_,E,hx,λv H1 s r=>?_⟩;have Z:DO b.C (Bs b Ow) H1 v (.dT kvs):=r;obtain⟨a,kv,rfl,I,ra⟩:=Z.dT;have ek:=Bb ra Y;subst ek;refine⟨a,_,rfl,.inl I,λp M=>?_⟩;have nap:a≠p:=au I M;have B:=aG M (.ext (IH p a));refine⟨p,a,L,rfl,aq,.inl (B _ _ I),Y2,λH2 l vs s2 hl OQ O=>?_⟩;have U:H1 l=none:=B.free hl;refine k _ _ (((s.trans B).trans s2).over (s.free U) _) ⟨l,rfl,s.free U,vs,aq,?_⟩;rw[hK]at O;exact(yD (A:=λ_=>False) O).ex λc o e=>⟨λz=>z.elim,λ_=>by rw[az (au e OQ)];exact e⟩
  ·cases j
 ·cases j
end
structure WS where
 ZP:List (List DF×PV)
 most:Int
 fin:PV
 NA:List PV
 nums:List (List DF×PV)
 XY:List (Key×PV)
structure WC where
 n:Nat
 a:Addr
 dx:Addr
 ah:Addr
 lp:Addr
 ln:Addr
 lo:Addr
 fin:V
noncomputable def WC.fs(c:WC)(m:Int):List (Str×V):=[("ahead",.ref c.ah),("most",.int m),("end",c.fin),("places",.ref c.lp),("numbers",.ref c.ln),("onward",.ref c.lo)]
structure WR(C:MC)(F:se)(H:Hp)(c:WC)(w:WS):Prop where
 ob:H c.a=some (.ins (C.cl c.n) c.dx (c.fs w.most))
 ah:∃kv,H c.ah=some (.dT kv)/\D7 C F H kv w.ZP
 fn:Rep C F H c.fin w.fin
 lp:∃vs,H c.lp=some (.lst vs)/\DI C F H vs w.NA
 ln:∃kv,H c.ln=some (.dT kv)/\D7 C F H kv w.nums
 lo:∃kv,H c.lo=some (.dK kv)/\D9 C F H kv w.XY
 ne:c.ah≠c.ln
 dm:∀b,F b->∃o,H b=some o
 nF:¬ F c.a/\¬ F c.ah/\¬ F c.lp/\¬ F c.ln/\¬ F c.lo
structure WT(K:W.Frag)(Cl:Addr):Prop where
 cl:N4 K Cl
 XD:ED K Cl "ahead"
 Zb:ED K Cl "most"
 n_end:ED K Cl "end"
 I0:ED K Cl "places"
 GH:ED K Cl "numbers"
 NX:ED K Cl "onward"
section
variable {C:MC}{F F':se}{H H':Hp}{c:WC}{w:WS}
def WR.ex(W:WR C F H c w)(e:Ex F H F' H')(k:∀b o,(b=c.a\/b=c.ah\/b=c.lp\/b=c.ln\/b=c.lo)->H b=some o->H' b=some o)(dm:∀b,F' b->∃o,H' b=some o)(n:¬ F' c.a/\¬ F' c.ah/\¬ F' c.lp/\¬ F' c.ln/\¬ F' c.lo):WR C F' H' c w where
 ob:=k _ _ (.inl rfl) W.ob
 ah:=let ⟨kv,h,r⟩:=W.ah;⟨kv,k _ _ (.inr (.inl rfl)) h,r.ex e⟩
 fn:=W.fn.ex e
 lp:=let ⟨kv,h,r⟩:=W.lp;⟨kv,k _ _ (.inr (.inr (.inl rfl))) h,r.ex e⟩
 ln:=let ⟨kv,h,r⟩:=W.ln;⟨kv,k _ _ (.inr (.inr (.inr (.inl rfl)))) h,r.ex e⟩
 lo:=let ⟨kv,h,r⟩:=W.lo;⟨kv,k _ _ (.inr (.inr (.inr (.inr rfl)))) h,r.ex e⟩
 ne:=W.ne
 dm:=dm
 nF:=n
def WR.same(W:WR C F H c w)(s:DH H H'):WR C F H' c w:=W.ex (.of_same s) (λb o _ e=>s b o e) (λb f=>let ⟨o,e⟩:=W.dm b f;⟨o,s b o e⟩) W.nF
noncomputable def WS.pv(w:WS)(n:Nat):PV:=.obj n [("ahead",.dT w.ZP),("most",.int w.most),("end",w.fin),("places",.lst w.NA),("numbers",.dT w.nums),("onward",.dK w.XY)]
def WR.rep(W:WR C F H c w):Rep C (λb=>F b\/b=c.a\/b=c.ah\/b=c.lp\/b=c.ln\/b=c.lo) H (.ref c.a) (w.pv c.n):=by
 have e:Ex F H (λb=>F b\/b=c.a\/b=c.ah\/b=c.lp\/b=c.ln\/b=c.lo) H:=bf λ_ _ _ z=>.inl z;obtain⟨k1,h1,I⟩:=W.ah;obtain⟨k2,h2,q⟩:=W.lp;obtain⟨k3,M,j⟩:=W.ln;obtain⟨O,B,J⟩:=W.lo;exact .obj W.ob (.inr (.inl rfl)) (.cons (.dT h1 (.inr (.inr (.inl rfl))) (I.ex e)) (.cons (.int _) (.cons (W.fn.ex e) (.cons (.lst h2 (.inr (.inr (.inr (.inl rfl)))) (q.ex e)) (.cons (.dT M (.inr (.inr (.inr (.inr (.inl rfl))))) (j.ex e)) (.cons (.dK B (.inr (.inr (.inr (.inr (.inr rfl))))) (J.ex e)) .nil))))))
end
noncomputable def Gx(w:WS)(p:PV):Option (Int×WS):=match p with
 |.tup xs=>(EG xs).bind λk=>match aV w.nums k with
  |some (.int n)=>some (n,w)
  |none=>if w.NA.length<1000000/\w.nums.length<1000000 then some ((w.NA.length:Nat),{w with nums:=cT w.nums k (.int (w.NA.length:Nat)),NA:=w.NA++[.tup xs]})else none
  |_=>none
 |_=>none
def Kept(c:WC)(F:se)(H H':Hp):Prop:=∀b o,H b=some o->b≠c.lp->b≠c.ln->b≠c.lo->H' b=some o
def ug(C:MC):Sp:=λvs H Q _=>∃F c w v p n w',vs=[.ref c.a,v]/\WT C.K (C.cl c.n)/\WR C F H c w/\Rep C F H v p/\Gx w p=some (n,w')/\∀H',Kept c F H H'->WR C F H' c w'->Q (.int n) H'
variable {vs:sx}{Q:VK}
def Jl{E:XK}(h:ug C vs H Q E):vs.length=2:=by
 obtain⟨F,c,w,v,p,n,j,e,_⟩:=h;rw[e];rfl
abbrev Gy(K:PySem.W.Frag):List V->Hp->VK->Prop:=λxs H Q=>∃p ys,xs=[.ref p]/\(EJ K H p ys\/F0 K H p ys)/\Q (.int ys.length) H
def Ls(K:W.Frag):TS:=
 bG (iC (tB (h_ K (DM 1) (jN K (DM 0) "numbers")))
   (bG (mq K (jN K (DM 0) "numbers") (DM 1) (X9 (Gy K) (aL (jN K (DM 0) "places") bu)))
    (kJ (Yc K "list" tW (jN K (DM 0) "places") (aL (DM 1) bu))))
   gB)
  (d9 (qj K (jN K (DM 0) "numbers") (DM 1)))
set_option tactic.hygienic true in def Pz{E:XK}(h:ug C vs H Q E):Ls C.K {nx:=λ_ H'=>Q .DS H',rt:=Q} (L2.start ["self","place"] vs) H:=by
 obtain⟨F,c,w,v,p,n,w',rfl,T,W,rp,O,q⟩:=h;obtain⟨I,M,rn⟩:=W.ln;obtain⟨pl,J,rl⟩:=W.lp;cases p<;>first|(cases O;done)|skip
 rename_i xs;obtain⟨k,hk,O⟩:=ai.mp (show((EG xs).bind _)=_ from O);obtain⟨b,us,rfl,hb,rb⟩:=DO.tup (.inl rp);have ck:FV C.K H b k:=hb.key (rb.EG hk);have e0:(L2.start ["self","place"] [V.ref c.a,V.ref b])[0]?=some (some (.ref c.a)):=rfl;have e1:(L2.start ["self","place"] [V.ref c.a,V.ref b])[1]?=some (some (.ref b)):=rfl;have j:∀(f:Str) (x:V) (H1:Hp),ED C.K (C.cl c.n) f->(c.fs w.most).lookup f=some x->H1 c.a=some (.ins (C.cl c.n) c.dx (c.fs w.most))->∀R:VK,R x H1->jN C.K (DM 0) f (L2.start ["self","place"] [V.ref c.a,V.ref b]) H1 R:=λf x H1 na lk U R r=>⟨_,e0,c.a,_,_,_,x,rfl,U,T.cl,na,lk,r⟩;unfold Ls;dsimp only[bG,iC,tB,h_,mq,X9,kJ,Yc,d9,qj,gB,aL,bu];refine⟨_,e1,j "numbers" _ _ T.GH rfl W.ob _ ⟨c.ln,_,rfl,EN.t M ck,_,rfl,?_⟩⟩;rcases D7.val (k:=k) rn with⟨y,py,g1,g2,ry⟩|⟨g1,g2⟩
 ·have B:(match aV w.nums k with|some (.int n)=>some (n,w)|none=>if w.NA.length<1000000/\w.nums.length<1000000 then some (((w.NA.length:Nat):Int),{w with nums:=cT w.nums k (.int (w.NA.length:Nat)),NA:=w.NA++[.tup xs]})else none|_=>none)=some (n,w'):=O
  have eL:aV w.nums k=some py:=g2;rw[eL]at B;cases py<;>first|(cases B;done)|skip
  cases B;cases ry;rw[g1];refine jP ?_;refine j "numbers" _ _ T.GH rfl W.ob _ ?_;refine⟨_,e1,c.ln,_,rfl,by rw[←g1];exact EN.t M ck,?_⟩;exact q H (λb o e _ _ _=>e) W
 ·have B:(match aV w.nums k with|some (.int n)=>some (n,w)|none=>if w.NA.length<1000000/\w.nums.length<1000000 then some (((w.NA.length:Nat):Int),{w with nums:=cT w.nums k (.int (w.NA.length:Nat)),NA:=w.NA++[.tup xs]})else none|_=>none)=some (n,w'):=O
  have eL:aV w.nums k=none:=g2;rw[eL]at B;dsimp only at B;split at B
  ·rename_i hz
   cases B;rw[g1];refine iD ?_;have lpl:pl.length=w.NA.length:=rl.length;have Y:c.lp≠c.ln:=bW J M (λz=>nomatch z);have nal:c.a≠c.ln:=bW W.ob M (λz=>nomatch z);have nap:c.a≠c.lp:=bW W.ob J (λz=>nomatch z);refine j "places" _ _ T.I0 rfl W.ob _ ?_;refine⟨c.lp,pl,rfl,.inl (EJ.of J),?_⟩;refine j "numbers" _ _ T.GH rfl W.ob _ ?_;refine⟨_,e1,c.ln,_,rfl,LJ.t M ck (cg (by rw[rn.length];omega)),?_⟩;have W1:upd H c.ln (.dT (putK I k (.int (pl.length:Nat)))) c.a=some (.ins (C.cl c.n) c.dx (c.fs w.most)):=by rw[az nal];exact W.ob
   have P1:upd H c.ln (.dT (putK I k (.int (pl.length:Nat)))) c.lp=some (.lst pl):=by rw[az Y];exact J
   refine j "places" _ _ T.I0 rfl W1 _ ?_;refine⟨.inl ⟨rfl,pl,EJ.of P1⟩,_,e1,c.lp,pl,.ref b,rfl,rfl,P1,cg (by omega),?_⟩;have W2:upd (upd H c.ln (.dT (putK I k (.int (pl.length:Nat))))) c.lp (.lst (pl++[.ref b])) c.a=some (.ins (C.cl c.n) c.dx (c.fs w.most)):=by rw[az nap];exact W1
   refine j "numbers" _ _ T.GH rfl W2 _ ?_;have L2:upd (upd H c.ln (.dT (putK I k (.int (pl.length:Nat))))) c.lp (.lst (pl++[.ref b])) c.ln=some (.dT (putK I k (.int (pl.length:Nat)))):=by rw[az Y.symm,aq]
   have Z:∀x o,H x=some o->x≠c.lp->x≠c.ln->upd (upd H c.ln (.dT (putK I k (.int (pl.length:Nat))))) c.lp (.lst (pl++[.ref b])) x=some o:=λx o e n1 n2=>by rw[az n1,az n2];exact e
   have ex:Ex F H F (upd (upd H c.ln (.dT (putK I k (.int (pl.length:Nat))))) c.lp (.lst (pl++[.ref b]))):=λx o e=>⟨λf=>⟨Z x o e (λz=>W.nF.2.2.1 (z▸f)) (λz=>W.nF.2.2.2.1 (z▸f)),f⟩,λm=>Z x o e (λz=>by rw[z,J]at e;cases e;cases m) λz=>by rw[z,M]at e;cases e;cases m⟩;have ck2:FV C.K _ b k:=ck.keeps (H':=upd (upd H c.ln (.dT (putK I k (.int (pl.length:Nat))))) c.lp (.lst (pl++[.ref b]))) λx ys e=>(ex x _ e).2 rfl;have g3:cH (putK I k (.int (pl.length:Nat))) k=some (.int (pl.length:Nat)):=by rw[uJ,bX rfl]
   refine⟨_,e1,c.ln,_,rfl,by rw[←g3];exact EN.t L2 ck2,?_⟩;rw[lpl]at *;obtain⟨ka,ha,ra⟩:=W.ah;obtain⟨ko,U,ro⟩:=W.lo;refine q _ (λx o e n1 n2 _=>Z x o e n1 n2) ⟨W2,⟨ka,Z _ _ ha (bW ha J (λz=>nomatch z)) W.ne,ra.ex ex⟩,W.fn.ex ex,⟨_,aq,(rl.ex ex).append (.cons (rp.ex ex) .nil)⟩,⟨_,L2,D7.put (.int _) (rn.ex ex)⟩,⟨ko,Z _ _ U (bW U J (λz=>nomatch z)) (bW U M (λz=>nomatch z)),ro.ex ex⟩,W.ne,λx f=>(let ⟨o,e⟩:=W.dm x f;⟨o,((ex x o e).1 f).1⟩),W.nF⟩
  ·cases B
section
variable {C:MC}{A F:se}{H:Hp}
theorem Bc{f:PV->Option DF}(q:∀v p k,Rep C A H v p->f p=some k->Rep C F H v p):∀{vs:sx}{ps:sv}{ks:List DF},DI C A H vs ps->uN f ps=some ks->DI C F H vs ps
 |_,_,_,.nil,_=>.nil
 |_,_,_,.cons (p:=p) (ps:=ps) h t,e=>by
  unfold uN at e;obtain⟨k,B,e⟩:=ai.mp e;obtain⟨ks,j,e⟩:=ai.mp e;exact .cons (q _ _ _ h B) (Bc q t j)
def m9{f:PV->Option DF}(j:∀v p k,Rep C A H v p->f p=some k->Rep C F H v p){ps:sv}{ks:List DF}(r:DI C A H vs ps)(e:jy f ps=some ks):DI C F H vs ps:=by
 unfold jy at e;split at e
 ·cases r with
  |cons h1 t=>cases t with
   |cons h2 t=>cases t;cases h1;cases h2;exact .cons (.str _) (.cons (.bl _) .nil)
 ·exact Bc j r e
def Be(v:V)(p:PV)(k:DF)(r:Rep C A H v p)(e:FW p=some k):Rep C F H v p:=by
 cases r with
 |int i=>exact .int i
 |str x=>exact .str x
 |_=>cases e
def qI{f:PV->Option DF}(B:∀v p k,Rep C A H v p->f p=some k->Rep C F H v p)(v:V)(p:PV)(k:DF)(r:Rep C A H v p)(e:FZ f p=some k):Rep C F H v p:=by
 cases r with
 |tup h q=>
  obtain⟨ks,j,e⟩:=ba.mp (show(jy f _).map DF.tp=some k from e);exact .tup h (m9 B q j)
 |GN h q=>
  obtain⟨ks,j,e⟩:=ba.mp (show(jy f _).map DF.tp=some k from e);exact .GN h (m9 B q j)
 |tupK h q=>
  obtain⟨ks,j,e⟩:=ba.mp (show(jy f _).map DF.tp=some k from e);exact .tupK h (m9 B q j)
 |int i=>exact .int i
 |str x=>exact .str x
 |_=>cases e
def Ef{v:V}{xs:sv}{ks:List DF}(r:Rep C A H v (.tup xs))(e:EG xs=some ks):Rep C F H v (.tup xs):=by
 cases r with
 |tup h q=>exact .tup h (m9 (qI (qI Be)) q e)
 |GN h q=>exact .GN h (m9 (qI (qI Be)) q e)
end
noncomputable def Lw(pb:sg)(cn:Nat)(num:Int):List PV->WS->Option (List PV×WS)
 |[],w=>some ([],w)
 |s::S,w=>(pb [w.pv cn,.int num,s]).bind λp=>(Gx w p).bind λr=>(Lw pb cn num S r.2).bind λq=>some (.int r.1::q.1,q.2)
noncomputable def Bf(pb:sg)(cn:Nat)(S:sv)(w:WS)(num:Int):Option (PV×WS):=match aV w.XY (.inl num)with
 |some l=>some (l,w)
 |none=>(Lw pb cn num S w).bind λr=>if r.2.XY.length<1000000/\r.1.length<1000000 then some (.lst r.1,{r.2 with XY:=cT r.2.XY (.inl num) (.lst r.1)})else none
def L9(F F':se)(H:Hp):Prop:=(∀b,F b->F' b)/\∀b,F' b->F b\/H b=none
def v9(C:MC)(cn:Nat)(pb:sg)(S:sv):Sp:=λvs H Q _=>∃F c w n l w',vs=[.ref c.a,.int n]/\c.n=cn/\WT C.K (C.cl c.n)/\WR C F H c w/\Bf pb c.n S w n=some (l,w') /\
 ∀H' F' v,Kept c F H H'->L9 F F' H->WR C F' H' c w'->Rep C F' H' v l->Q v H'
def sJ(C:MC)(aS:Addr)(S:sv):Prop:=∃us,F0 C.K (λ_=>none) aS us/\∀B H,DI C B H us S
def Lx(C:MC)(cn:Nat)(pb:sg)(aS:Addr):TS:=
 bG (iC (tB (h_ C.K (DM 1) (jN C.K (DM 0) "onward")))
   (mq C.K (jN C.K (DM 0) "onward") (DM 1) (ig (Fe C.K (tC (.ref aS))) [none,some 0,some 1] (aW 0) qt
    (l_ (C.cl cn) "number_of_place" (ug C) [] E0 (DM 1) (aL (l_ (C.cl cn) "place_behind" (HA C pb false) [] E0 (DM 1) (aL (DM 2) (aL (DM 0) bu))) bu))))
   gB)
  (d9 (qj C.K (jN C.K (DM 0) "onward") (DM 1)))
set_option tactic.hygienic true in def Jm{w j:WS}{p:PV}{n:Int}(h:Gx w p=some (n,j)):∃xs ks,p=.tup xs/\EG xs=some ks/\j.most=w.most:=by
 cases p<;>first|(cases h;done)|skip
 rename_i xs;obtain⟨k,q,h⟩:=ai.mp (show((EG xs).bind _)=_ from h);refine⟨xs,k,rfl,q,?_⟩;split at h
 ·cases h;rfl
 ·split at h
  ·cases h;rfl
  ·cases h
 ·cases h
variable {F:se}
def Ly{c:WC}{w I:WS}{O:sg}{j k:Int}{s p:PV}{x:V}{D:Addr}{ys:sx}{R:VK}(T:WT C.K (C.cl c.n))(W:WR C F H c w)(rs:∀B H,Rep C B H x s)(Z:O [w.pv c.n,.int j,s]=some p)(J:Gx w p=some (k,I))
  (q:∀H',Kept c F H H'->WR C F H' c I->R (.int k) H'):
  l_ (C.cl c.n) "number_of_place" (ug C) [] E0 (DM 1) (aL (l_ (C.cl c.n) "place_behind" (HA C O false) [] E0 (DM 1) (aL (DM 2) (aL (DM 0) bu))) bu) [some x,some (.ref c.a),some (.int j)] H R:=by
 obtain⟨xs,ks,rfl,hk,_⟩:=Jm J;refine⟨_,rfl,c.a,c.dx,_,rfl,W.ob,rfl,?_⟩;refine⟨_,rfl,c.a,c.dx,_,rfl,W.ob,rfl,?_⟩;refine⟨_,rfl,_,rfl,?_⟩;refine⟨_,[w.pv c.n,.int j,s],_,.cons W.rep (.cons (.int _) (.cons (rs _ _) .nil)),Z,λv H1 M U=>?_⟩;have Y:Rep C F H1 v (.tup xs):=Ef (show Rep C _ H1 v (.tup xs)from U) hk;exact⟨F,c,w,v,.tup xs,k,I,rfl,T,W.same M,Y,J,λH' kp W'=>q H' (λb o e n1 n2 n3=>kp b o (M _ _ e) n1 n2 n3) W'⟩
variable {cn:Nat}
def Jo{j:sg}{S:sv}{E:XK}(h:v9 C cn j S vs H Q E):vs.length=2:=by
 obtain⟨F,c,w,n,l,q,e,_⟩:=h;rw[e];rfl
def Gz{K:W.Frag}{q:Addr}{us:sx}{DT:List (Option Nat)}{tt:TT}{te:TE}{EK rest:St}(O:cU DT EK=none::rest)(M:F0 K H q us)
  (k:∀D,H D=none->∃j:Nat->List V->Hp->Prop,j 0 [] (upd H D (.lst []))/\(∀i ys H,i<=us.length->j i ys H->F0 K H q us/\H D=some (.lst ys)) /\
   (∀i x ys H,us[i]?=some x->j i ys H->tt (some x::rest) H λb B=>if b=true then te (some x::rest) B λy I=>I D=some (.lst ys)/\ys.length<sizeLine/\j (i+1) (ys++[y]) (upd I D (.lst (ys++[y])))else j (i+1) ys B) /\
   ∀ys H,j us.length ys H->Q (.ref D) H):ig (Fe K (tC (.ref q))) DT (aW 0) tt te EK H Q:=
 ⟨⟨q,rfl,⟨us,M⟩,λD J=>let ⟨j,h0,h1,h2,h3⟩:=k D J;Ks O j h0 h1 h2 h3⟩⟩
set_option tactic.hygienic true in def PB{pb:sg}{S:sv}{aS:Addr}{E:XK}(hS:sJ C aS S)(h:v9 C cn pb S vs H Q E):Lx C cn pb aS {nx:=λ_ H'=>Q .DS H',rt:=Q} (L2.start ["self","number"] vs) H:=by
 obtain⟨F,c,w,I,l,w',rfl,rfl,T,W,Y,q⟩:=h;obtain⟨us,XF,Zc⟩:=hS;obtain⟨ko,Yd,ro⟩:=W.lo;have e0:(L2.start ["self","number"] [V.ref c.a,V.int I])[0]?=some (some (.ref c.a)):=rfl;have e1:(L2.start ["self","number"] [V.ref c.a,V.int I])[1]?=some (some (.int I)):=rfl;have U:∀(x:V) (H1:Hp) (m:Int),(c.fs m).lookup ("onward" : Str)=some x->H1 c.a=some (.ins (C.cl c.n) c.dx (c.fs m))->∀R:VK,R x H1->jN C.K (DM 0) "onward" (L2.start ["self","number"] [V.ref c.a,V.int I]) H1 R:=λx H1 m lk ho R r=>⟨_,e0,c.a,_,_,_,x,rfl,ho,T.cl,T.NX,lk,r⟩;unfold Lx;dsimp only[bG,iC,tB,h_,mq,d9,qj,gB];refine⟨_,e1,U _ _ _ rfl W.ob _ ⟨c.lo,_,rfl,EN.k (k:=.inl I) Yd,_,rfl,?_⟩⟩;unfold Bf at Y;rcases D9.val (k:=(.inl I:Key)) ro with⟨y,py,g1,g2,ry⟩|⟨g1,g2⟩
 ·have eL:aV w.XY (.inl I)=some py:=g2
  rw[eL]at Y;cases Y;rw[g1];refine jP ?_;refine U _ _ _ rfl W.ob _ ?_;refine⟨_,e1,c.lo,_,rfl,by rw[←g1];exact EN.k (k:=.inl I) Yd,?_⟩;exact q H F _ (λb o e _ _ _=>e) ⟨λ_ z=>z,λ_ z=>.inl z⟩ W ry
 ·have eL:aV w.XY (.inl I)=none:=g2
  rw[eL]at Y;obtain⟨⟨ls,w1⟩,hF,Y⟩:=ai.mp Y;split at Y
  ·rename_i hz
   cases Y;rw[g1];refine iD ?_;refine Gz (us:=us) (rest:=[some (.ref c.a),some (.int I)]) rfl (mW XF) λD J=>?_;have j:∀b,b=c.a\/b=c.ah\/b=c.lp\/b=c.ln\/b=c.lo->b≠D:=λb hb z=>by
    subst z;obtain⟨_,h1,_⟩:=W.ah;obtain⟨_,h2,_⟩:=W.lp;obtain⟨_,h3,_⟩:=W.ln;rcases hb with rfl|rfl|rfl|rfl|rfl
    ·rw[W.ob]at J;cases J
    ·rw[h1]at J;cases J
    ·rw[h2]at J;cases J
    ·rw[h3]at J;cases J
    ·rw[Yd]at J;cases J
   have nFD:¬ F D:=λz=>by obtain⟨o,e⟩:=W.dm D z;rw[J]at e;cases e
   have oX:us.length=S.length:=(Zc F H).length;refine⟨λi ys O=>∃wi rest ns,Lw pb c.n I (S.drop i) wi=some (rest,w1)/\ls=ns.map PV.int++rest/\ys=ns.map V.int/\ns.length=i/\WR C F O c wi/\O D=some (.lst ys)/\∀b o,H b=some o->b≠c.lp->b≠c.ln->b≠c.lo->O b=some o,
    ⟨w,ls,[],hF,rfl,rfl,rfl,W.same (aG J _),aq,λb o e _ _ _=>aG J _ b o e⟩,λi ys O _ ⟨wi,rest,ns,_,_,_,_,_,d,_⟩=>⟨mW XF,d⟩,λi x ys O hx ⟨wi,rest,ns,h1,h2,h3,h4,M,d,kp⟩=>?_,λys O ⟨wi,rest,ns,h1,h2,h3,h4,M,d,kp⟩=>?_⟩
   ·dsimp only[qt]
    refine iD ?_;have hi:i<us.length:=(ap.mp hx).1;have hs:S[i]?=some (S[i]'(by omega)):=aw (by omega);generalize S[i]'(by omega)=s at hs;have rs:∀B H,Rep C B H x s:=λB H=>by
     obtain⟨p,e,r⟩:=(Zc B H).get' hx;rw[hs]at e;cases e;exact r
    have PZ:S.drop i=s::S.drop (i+1):=by
     rw[cq (by omega)];congr 1;exact(ap.mp hs).2
    rw[PZ]at h1;obtain⟨p,hp,h1⟩:=ai.mp (show((pb [wi.pv c.n,.int I,s]).bind _)=_ from h1);obtain⟨⟨k,w2⟩,hn,h1⟩:=ai.mp h1;obtain⟨⟨r2,w3⟩,h5,he⟩:=ai.mp h1;cases he;refine Ly (D:=D) (ys:=ys) T M rs hp hn λH4 k4 W4=>?_;have d4:H4 D=some (.lst ys):=k4 D _ d (j c.lp (.inr (.inr (.inl rfl)))).symm (j c.ln (.inr (.inr (.inr (.inl rfl))))).symm (j c.lo (.inr (.inr (.inr (.inr rfl))))).symm;refine⟨d4,cg (by rw[h3,ay,h4];have:=hz.2;rw[h2]at this;simp at this;omega),w2,r2,ns++[k],h5,by rw[h2];simp,by rw[h3];simp,by simp[h4],?_,aq,λb o e n1 n2 n3=>?_⟩
    ·have nD:∀b,F b->b≠D:=λb f z=>nFD (z▸f)
     refine W4.ex (λb o e=>⟨λf=>⟨by rw[az (nD b f)];exact e,f⟩,λm=>?_⟩) (λb o hb e=>by rw[az (j b hb)];exact e) (λb f=>?_) W4.nF
     ·rw[az ?_]
      ·exact e
      ·intro z;rw[z,d4]at e;cases e;cases m
     ·obtain⟨o,e⟩:=W4.dm b f
      exact⟨o,by rw[az (nD b f)];exact e⟩
    ·have nb:b≠D:=au e J
     rw[az nb];exact k4 b o (kp b o e n1 n2 n3) n1 n2 n3
   ·have PZ:S.drop us.length=[]:=by rw[oX];simp
    rw[PZ]at h1;cases h1;rw[cy]at h2;obtain⟨k2,RO,ro2⟩:=M.lo;refine U _ _ _ rfl M.ob _ ?_;refine⟨_,e1,c.lo,_,rfl,LJ.k (k:=.inl I) RO (cg (by rw[ro2.length];exact gg hz.1)),?_⟩;have nal:c.a≠c.lo:=bW M.ob RO (λz=>nomatch z);have nDl:D≠c.lo:=(j c.lo (.inr (.inr (.inr (.inr rfl))))).symm;have ob4:upd O c.lo (.dK (putK k2 (.inl I) (.ref D))) c.a=some (.ins (C.cl c.n) c.dx (c.fs w1.most)):=by rw[az nal];exact M.ob
    refine U _ _ _ rfl ob4 _ ?_;have g3:cH (putK k2 (.inl I) (.ref D)) (.inl I)=some (.ref D):=by rw[uJ,bX rfl]
    refine⟨_,e1,c.lo,_,rfl,by rw[←g3];exact EN.k (k:=.inl I) aq,?_⟩;have Z:∀b o,O b=some o->b≠c.lo->upd O c.lo (.dK (putK k2 (.inl I) (.ref D))) b=some o:=λb o e n=>by rw[az n];exact e
    have ex:Ex F O (λb=>F b\/b=D) (upd O c.lo (.dK (putK k2 (.inl I) (.ref D)))):=λb o e=>⟨λf=>⟨Z b o e (λz=>M.nF.2.2.2.2 (z▸f)),.inl f⟩,λm=>Z b o e λz=>by rw[z,RO]at e;cases e;cases m⟩;have rD:Rep C (λb=>F b\/b=D) (upd O c.lo (.dK (putK k2 (.inl I) (.ref D)))) (.ref D) (.lst ls):=by
     refine .lst (Z D _ d nDl) (.inr rfl) ?_;rw[h2,h3];exact jR _ _ (λi=>.int i) ns
    refine q _ (λb=>F b\/b=D) _ (λb o e n1 n2 n3=>Z b o (kp b o e n1 n2 n3) n3) ⟨λb z=>.inl z,λb z=>z.imp id λz=>by rw[z];exact J⟩ ⟨ob4,?_,M.fn.ex ex,?_,?_,⟨_,aq,D9.put rD (ro2.ex ex)⟩,M.ne,λb f=>?_,?_⟩ rD
    ·obtain⟨kv,e,r⟩:=M.ah
     exact⟨kv,Z _ _ e (bW e RO (λz=>nomatch z)),r.ex ex⟩
    ·obtain⟨kv,e,r⟩:=M.lp
     exact⟨kv,Z _ _ e (bW e RO (λz=>nomatch z)),r.ex ex⟩
    ·obtain⟨kv,e,r⟩:=M.ln
     exact⟨kv,Z _ _ e (bW e RO (λz=>nomatch z)),r.ex ex⟩
    ·rcases f with f|f
     ·obtain⟨o,e⟩:=M.dm b f
      exact⟨o,((ex b o e).1 f).1⟩
     ·exact⟨_,by rw[f];exact Z D _ d nDl⟩
    ·obtain⟨n1,n2,n3,n4,n5⟩:=M.nF
     exact⟨λz=>z.elim n1 (j _ (.inl rfl)),λz=>z.elim n2 (j _ (.inr (.inl rfl))),λz=>z.elim n3 (j _ (.inr (.inr (.inl rfl)))),λz=>z.elim n4 (j _ (.inr (.inr (.inr (.inl rfl))))),λz=>z.elim n5 (j _ (.inr (.inr (.inr (.inr rfl)))))⟩
  ·cases Y
def Su{rest:St}{x y:V}:Kp (none::none::rest) (some x::some y::rest):=⟨rfl,λi v e=>by
 cases i with
 |zero=>cases e
 |succ i=>cases i with
  |zero=>cases e
  |succ i=>exact e⟩
def GC{K:W.Frag}{k1 k2:SK}{a b:Addr}{xs ys:sx}{ta:TA}{DT:List (Option Nat)}{tt:TT}{te:TE}{EK rest:St}(Z:∀R:List V->Hp->Prop,R [.ref a,.ref b] H->ta EK H R)(Fh:cU DT EK=none::none::rest)(O:ys.length=xs.length)(ha:k1.sq K H a xs)(Y:k2.sq K H b ys)
  (k:∀D,H D=none->∃q:Nat->List V->Hp->Prop,q 0 [] (upd H D (.lst []))/\(∀i zs j,i<=xs.length->q i zs j->k1.sq K j a xs/\k2.sq K j b ys/\j D=some (.lst zs)) /\
   (∀i x y zs j,xs[i]?=some x->ys[i]?=some y->q i zs j->∀t,j t=none->tt (some x::some y::rest) (upd j t (.tup [x,y])) λb J=>if b=true then te (some x::some y::rest) J λz M=>M D=some (.lst zs)/\zs.length<sizeLine/\q (i+1) (zs++[z]) (upd M D (.lst (zs++[z])))else q (i+1) zs J) /\
   ∀zs j,q xs.length zs j->Q (.ref D) j):ig (zu K k1 k2 ta) DT (QN K 2 (IU (aW 0) (IU (aW 1) zL))) tt te EK H Q:=by
 refine⟨Z _ ⟨a,b,rfl,⟨xs,ha⟩,⟨ys,Y⟩,λD hD=>?_⟩⟩;obtain⟨q,h0,h1,h2,h3⟩:=k D hD;refine⟨λi m zs j=>m=xs.length - i/\i<=xs.length/\q i zs j,⟨xs.length,by simp,cm _,h0⟩,?_⟩;rintro i m zs j ⟨rfl,hi,p⟩;obtain⟨I,B,qD⟩:=h1 i zs j hi p;refine⟨qD,?_⟩;by_cases FA:i<xs.length
 ·refine .inr ⟨⟨xs,xs[i],ys,ys[i]'(by omega),I,by simp[FA],B,aw (by omega)⟩,q (i+1),λL7 H' p'=>⟨xs.length - (i+1),by omega,rfl,FA,p'⟩,λv H' yd=>?_⟩
  obtain⟨t,x,y,U,rfl,rfl,e1,e2⟩:=yd;rw[Fh];refine⟨t,[x,y],rfl,F0.of aq,rfl,x,[y],rfl,?_⟩;refine⟨y,[],rfl,rfl,Su,?_⟩;exact h2 i x y zs j (e1 xs I) (e2 ys B) p t U
 ·have e:i=xs.length:=by omega
  subst e;exact .inl ⟨⟨xs,ys,I,B,.inl rfl⟩,h3 zs j p⟩
def Lz{K:W.Frag}{k1 k2:SK}{a b:Addr}{xs ys:sx}{g:TG}{tb:TS}{D:Ends}{EK:St}(I:ys.length=xs.length)(j:Nat->St->Hp->Prop)(Y:j 0 EK H)(Z:∀i EK H,i<=xs.length->j i EK H->k1.sq K H a xs/\k2.sq K H b ys)
  (U:∀i x y EK H,xs[i]?=some x->ys[i]?=some y->j i EK H->∀t,H t=none->g (.ref t) EK (upd H t (.tup [x,y])) fun E9 H2=>tb {D with nx:=j (i+1),ct:=j (i+1),bk:=D.nx} E9 H2) (O:∀ EK H,j xs.length EK H->D.nx EK H):
  ∃W:Nat->Nat->St->Hp->Prop,(∃m,W 0 m EK H)/\∀i m EK H,W i m EK H->
   ((Itk K k1 k2 a b).stop i H/\D.nx EK H)\/((Itk K k1 k2 a b).go i H/\∃N:St->Hp->Prop,(∀ EU H',N EU H'->∃J,J<m/\W (i+1) J EU H')/\∀x H',(Itk K k1 k2 a b).S2 i H x H'->g x EK H' fun E9 H2=>tb {D with nx:=N,ct:=N,bk:=D.nx} E9 H2):=by
 refine⟨λi m EK H=>m=xs.length - i/\i<=xs.length/\j i EK H,⟨xs.length,by simp,cm _,Y⟩,?_⟩;rintro i m EK H ⟨rfl,hi,p⟩;obtain⟨B,q⟩:=Z i EK H hi p;by_cases FA:i<xs.length
 ·refine .inr ⟨⟨xs,xs[i],ys,ys[i]'(by omega),B,by simp[FA],q,aw (by omega)⟩,j (i+1),λL7 H' p'=>⟨xs.length - (i+1),by omega,rfl,FA,p'⟩,λv H' yd=>?_⟩
  obtain⟨t,x,y,M,rfl,rfl,e1,e2⟩:=yd;exact U i x y EK H (e1 xs B) (e2 ys q) p t M
 ·have e:i=xs.length:=by omega
  subst e;exact .inl ⟨⟨xs,ys,B,q,.inl rfl⟩,O EK H p⟩
structure Lv(C:MC)(cn:Nat)(F:se)(H:Hp)(cs:List WC)(ws:List WS):Prop where
 len:cs.length=ws.length
 all:∀(i:Nat) (c:WC) (w:WS),cs[i]?=some c->ws[i]?=some w->c.n=cn/\WR C F H c w
 sep:∀(i j:Nat) (c d:WC),cs[i]?=some c->cs[j]?=some d->i≠j->d.lp≠c.lp/\d.ln≠c.ln/\d.lo≠c.lo/\d.ah≠c.ln
def EI(cs:List WC)(H H':Hp):Prop:=∀b o,H b=some o->(∀c∈cs,b≠c.lp/\b≠c.ln/\b≠c.lo)->H' b=some o
variable {cs:List WC}
def EI.trans{H1 H2:Hp}(a:EI cs H H1)(b:EI cs H1 H2):EI cs H H2:=λx o e n=>b x o (a x o e n) n
def L9.trans{q j:se}{H1:Hp}(a:L9 F q H)(b:L9 q j H1)(s:∀x,H1 x=none->H x=none):L9 F j H:=⟨λx z=>b.1 x (a.1 x z),λx z=>(b.2 x z).elim (a.2 x) λn=>.inr (s x n)⟩
def Lv.same{C:MC}{cn:Nat}{F:se}{H H':Hp}{cs:List WC}{j:List WS}(W:Lv C cn F H cs j)(s:DH H H'):Lv C cn F H' cs j:=⟨W.len,λi c w e1 e2=>⟨(W.all i c w e1 e2).1,(W.all i c w e1 e2).2.same s⟩,W.sep⟩
def Lv.set{C:MC}{cn:Nat}{F F':se}{H H':Hp}{cs:List WC}{ws:List WS}{i:Nat}{c:WC}{w':WS}(W:Lv C cn F H cs ws)(hi:cs[i]?=some c)(kp:Kept c F H H')(gr:L9 F F' H)(Y:WR C F' H' c w')(Z0:c.n=cn):Lv C cn F' H' cs (ws.set i w'):=by
 have OA:i<ws.length:=by rw[←W.len];exact(ap.mp hi).1
 obtain⟨_,UA,_⟩:=id Y.lp;refine⟨by rw[eg];exact W.len,λj d v e1 e2=>?_,W.sep⟩;by_cases hij:i=j
 ·subst hij
  rw[hi]at e1;cases e1;rw[dS OA]at e2;cases e2;exact⟨Z0,Y⟩
 ·rw[bv hij]at e2
  obtain⟨n0,q⟩:=W.all j d v e1 e2;have I:∃w,WR C F H c w:=⟨_,(W.all i c _ hi (aw OA)).2⟩;obtain⟨w0,I⟩:=I;obtain⟨s1,s2,s3,s4⟩:=W.sep i j c d hi e1 hij;obtain⟨_,J,_⟩:=I.lp;obtain⟨_,U,_⟩:=I.ln;obtain⟨_,O,_⟩:=I.lo;obtain⟨_,b1,_⟩:=q.ah;obtain⟨_,b2,_⟩:=q.lp;obtain⟨_,b3,_⟩:=q.ln;obtain⟨_,Z,_⟩:=q.lo;have Z2:∀b,(b=d.a\/b=d.ah\/b=d.lp\/b=d.ln\/b=d.lo)->∃o,H b=some o:=λb B=>by
   rcases B with rfl|rfl|rfl|rfl|rfl
   ·exact⟨_,q.ob⟩
   ·exact⟨_,b1⟩
   ·exact⟨_,b2⟩
   ·exact⟨_,b3⟩
   ·exact⟨_,Z⟩
  have keep:∀b o,(b=d.a\/b=d.ah\/b=d.lp\/b=d.ln\/b=d.lo)->H b=some o->H' b=some o:=λb o B e=>by
   refine kp b o e ?_ ?_ ?_
   ·rcases B with rfl|rfl|rfl|rfl|rfl
    ·exact bW q.ob J (λz=>nomatch z)
    ·exact bW b1 J (λz=>nomatch z)
    ·exact s1
    ·exact bW b3 J (λz=>nomatch z)
    ·exact bW Z J (λz=>nomatch z)
   ·rcases B with rfl|rfl|rfl|rfl|rfl
    ·exact bW q.ob U (λz=>nomatch z)
    ·exact s4
    ·exact bW b2 U (λz=>nomatch z)
    ·exact s2
    ·exact bW Z U (λz=>nomatch z)
   ·rcases B with rfl|rfl|rfl|rfl|rfl
    ·exact bW q.ob O (λz=>nomatch z)
    ·exact bW b1 O (λz=>nomatch z)
    ·exact bW b2 O (λz=>nomatch z)
    ·exact bW b3 O (λz=>nomatch z)
    ·exact s3
  have M:∀b,(b=d.a\/b=d.ah\/b=d.lp\/b=d.ln\/b=d.lo)->¬ F b->¬ F' b:=λb B n z=>(gr.2 b z).elim n λe=>by obtain⟨o,e'⟩:=Z2 b B;rw[e]at e';cases e'
  obtain⟨n1,n2,n3,n4,n5⟩:=I.nF;have ex:Ex F H F' H':=λb o e=>⟨λf=>⟨kp b o e (λz=>n3 (z▸f)) (λz=>n4 (z▸f)) (λz=>n5 (z▸f)),gr.1 b f⟩,λm=>kp b o e (λz=>by rw[z,J]at e;cases e;cases m) (λz=>by rw[z,U]at e;cases e;cases m) λz=>by rw[z,O]at e;cases e;cases m⟩;obtain⟨m1,m2,m3,m4,m5⟩:=q.nF;exact⟨n0,q.ex ex keep Y.dm ⟨M _ (.inl rfl) m1,M _ (.inr (.inl rfl)) m2,M _ (.inr (.inr (.inl rfl))) m3,M _ (.inr (.inr (.inr (.inl rfl)))) m4,M _ (.inr (.inr (.inr (.inr rfl)))) m5⟩⟩
variable {ws:List WS}
def Lv.own{D:Addr}{u o:HO}(W:Lv C cn F H cs ws)(M:H D=some u)(m:iU u=true)(nF:¬ F D)(nc:∀c∈cs,D≠c.a/\D≠c.ah/\D≠c.lp/\D≠c.ln/\D≠c.lo):Lv C cn F (upd H D o) cs ws:=by
 have nD:∀b,F b->b≠D:=λb f z=>nF (z▸f);refine⟨W.len,λi c w e1 e2=>?_,W.sep⟩;obtain⟨O,j⟩:=W.all i c w e1 e2;obtain⟨n1,n2,I,U,J⟩:=nc c (et e1);refine⟨O,j.ex (λb o e=>⟨λf=>⟨by rw[az (nD b f)];exact e,f⟩,λq=>?_⟩) (λb o B e=>?_) (λb f=>?_) j.nF⟩
 ·rw[az ?_]
  ·exact e
  ·intro z;rw[z,M]at e;cases e;rw[m]at q;cases q
 ·rw[az ?_]
  ·exact e
  ·rcases B with rfl|rfl|rfl|rfl|rfl
   ·exact n1.symm
   ·exact n2.symm
   ·exact I.symm
   ·exact U.symm
   ·exact J.symm
 ·obtain⟨o,e⟩:=j.dm b f
  exact⟨o,by rw[az (nD b f)];exact e⟩
def Lv.nc{D:Addr}(W:Lv C cn F H cs ws)(q:H D=none):∀c∈cs,D≠c.a/\D≠c.ah/\D≠c.lp/\D≠c.ln/\D≠c.lo:=λc J=>by
 obtain⟨i,hi⟩:=d0.mp J;have I:i<ws.length:=by rw[←W.len];exact(ap.mp hi).1
 obtain⟨_,j⟩:=W.all i c _ hi (aw I);obtain⟨_,b1,_⟩:=j.ah;obtain⟨_,b2,_⟩:=j.lp;obtain⟨_,b3,_⟩:=j.ln;obtain⟨_,B,_⟩:=j.lo;exact⟨(au j.ob q).symm,(au b1 q).symm,(au b2 q).symm,(au b3 q).symm,(au B q).symm⟩
noncomputable def nbF(pb:sg)(cn:Nat)(S:sv):List WS->List Int->Option (List PV×List WS)
 |[],[]=>some ([],[])
 |w::ws,n::ns=>(Bf pb cn S w n).bind λr=>(nbF pb cn S ws ns).bind λq=>some (r.1::q.1,r.2::q.2)
 |_,_=>none
noncomputable def v_:List PV->Option (List Int)
 |[]=>some []
 |.int i::r=>(v_ r).bind λl=>some (i::l)
 |_=>none
noncomputable def zx(m:Nat):List PV->Option (List (List Int))
 |[]=>some []
 |.lst l::r=>(v_ l).bind λk=>(zx m r).bind λq=>if k.length=m then some (k::q)else none
 |_=>none
noncomputable def nbW(pb:sg)(cn:Nat)(S:sv)(ws:List WS)(ns:rL):Option (List (List Int)×List WS):=
 (nbF pb cn S ws ns).bind λr=>(zx S.length r.1).bind λrows=>some ((List.range S.length).map λi=>rows.map λk=>k.getD i 0,r.2)
noncomputable def IM(n:rL):PV:=.tup (n.map PV.int)
def Bg(C:MC)(cn:Nat)(pb:sg)(S:sv):Sp:=λvs H Q _=>∃F cs ws ns nodes MB wl vn,vs=[.ref wl,vn]/\cs≠[]/\WT C.K (C.cl cn)/\Lv C cn F H cs ws/\H wl=some (.lst (cs.map λc=>V.ref c.a))/\¬ F wl/\(∀c∈cs,wl≠c.lp)/\cs.length<=1000/\Rep C F H vn (IM ns)/\nbW pb cn S ws ns=some (nodes,MB) /\
 ∀H' F' l MQ,EI cs H H'->L9 F F' H->Lv C cn F' H' cs MB->H l=none->¬ F' l->H' l=some (.lst MQ)->DI C F' H' MQ (nodes.map IM)->Q (.ref l) H'
def LC{q:sg}{S:sv}{E:XK}(h:Bg C cn q S vs H Q E):vs.length=2:=by
 obtain⟨F,cs,ws,B,j,M,I,J,e,_⟩:=h;rw[e];rfl
def Sv(C:MC)(cn:Nat)(pb:sg)(S:sv):TE:=ig (zu C.K .L .T (aL (DM 0) (aL (DM 1) bu))) [none,none] (QN C.K 2 (IU (aW 0) (IU (aW 1) zL))) qt (l_ (C.cl cn) "later" (v9 C cn pb S) [] E0 (DM 0) (aL (DM 1) bu))
theorem sO{C:MC}{A:se}{H:Hp}:∀{j:rL}{vs:sx},DI C A H vs (j.map PV.int)->vs=j.map V.int
 |[],_,r=>by cases r;rfl
 |n::j,_,r=>by
  cases r with
  |cons h t=>
   cases h;rw[sO t];rfl
theorem xN{q:sg}{cn:Nat}{S:sv}:∀{ws j:List WS}{ns:rL}{ls:sv},nbF q cn S ws ns=some (ls,j)->ws.length=ns.length/\ls.length=ws.length/\j.length=ws.length
 |[],_,[],_,h=>by cases h;exact⟨rfl,rfl,rfl⟩
 |[],_,_::_,_,h=>by cases h
 |_::_,_,[],_,h=>by cases h
 |w::ws,j,n::ns,ls,h=>by
  obtain⟨r,_,h2⟩:=ai.mp (show((Bf q cn S w n).bind _)=_ from h);obtain⟨⟨Y,U⟩,I,J⟩:=ai.mp h2;cases J;obtain⟨M,O,B⟩:=xN I;exact⟨by simp[M],by simp[O],by simp[B]⟩
def EI.tup{H':Hp}(W:Lv C cn F H cs ws)(I:EI cs H H'){b:Addr}{o:HO}(e:H b=some o)(m:iU o=false):H' b=some o:=by
 refine I b o e λc J=>?_;obtain⟨i,hi⟩:=d0.mp J;have B:i<ws.length:=by rw[←W.len];exact(ap.mp hi).1
 obtain⟨_,j⟩:=W.all i c _ hi (aw B);obtain⟨_,b2,_⟩:=j.lp;obtain⟨_,b3,_⟩:=j.ln;obtain⟨_,q,_⟩:=j.lo;exact⟨λz=>(by rw[z,b2]at e;cases e;cases m),λz=>(by rw[z,b3]at e;cases e;cases m),λz=>(by rw[z,q]at e;cases e;cases m)⟩
def EI.lst{C:MC}{cn:Nat}{F:se}{H H':Hp}{cs:List WC}{ws:List WS}(W:Lv C cn F H cs ws)(J:EI cs H H'){b:Addr}{xs:sx}(e:H b=some (.lst xs))(n:∀c∈cs,b≠c.lp):H' b=some (.lst xs):=by
 refine J b _ e λc q=>?_;obtain⟨i,hi⟩:=d0.mp q;have I:i<ws.length:=by rw[←W.len];exact(ap.mp hi).1
 obtain⟨_,j⟩:=W.all i c _ hi (aw I);obtain⟨_,b3,_⟩:=j.ln;obtain⟨_,B,_⟩:=j.lo;exact⟨n c q,bW e b3 (λz=>nomatch z),bW e B (λz=>nomatch z)⟩
def EI.Z2{H':Hp}(B:EI cs H H')(W:Lv C cn F H' cs ws){x:Addr}(e:H' x=none):H x=none:=by
 cases q:H x with
 |none=>rfl
 |some o=>
  have nc:=W.nc e;rw[B x o q λc j=>⟨(nc c j).2.2.1,(nc c j).2.2.2.1,(nc c j).2.2.2.2⟩]at e;cases e
def Kept.S{c:WC}{H':Hp}(k:Kept c F H H')(j:c∈cs):EI cs H H':=λb o e n=>k b o e (n c j).1 (n c j).2.1 (n c j).2.2
def nb1{pb:sg}{S:sv}{MB:List WS}{ns:rL}{ls:sv}{wl b:Addr}{rest:St}{R:VK}(T:WT C.K (C.cl cn))(W:Lv C cn F H cs ws)(IE:H wl=some (.lst (cs.map λc=>V.ref c.a)))(RU:∀c∈cs,wl≠c.lp)(hz:cs.length<=1000)
  (hb:IB C.K H b (ns.map V.int)) (hn:nbF pb cn S ws ns=some (ls,MB)) (dF:∀D,H D=none->¬ F D)
  (q:∀H' F' D zs,EI cs H H'->L9 F F' H->Lv C cn F' H' cs MB->H D=none->¬ F' D->H' D=some (.lst zs)->DI C F' H' zs ls->R (.ref D) H'):
  Sv C cn pb S (some (.ref wl)::some (.ref b)::rest) H R:=by
 obtain⟨l1,l2,l3⟩:=xN hn;have lc:=W.len;refine GC (a:=wl) (b:=b) (xs:=cs.map λc=>V.ref c.a) (ys:=ns.map V.int) (rest:=[]) (λR r=>⟨_,rfl,_,rfl,r⟩) rfl (by simp;omega) (EJ.of IE) hb.sq λD Y=>?_;have wD:wl≠D:=au IE Y;refine⟨λi zs j=>∃M B I O J,nbF pb cn S (ws.drop i) (ns.drop i)=some (B,I)/\ls=O++B/\MB=J++I/\O.length=i/\J.length=i/\Lv C cn M j cs (J++ws.drop i)/\DI C M j zs O/\L9 F M H/\EI cs H j/\j D=some (.lst zs)/\¬ M D,
  ⟨F,ls,MB,[],[],hn,rfl,rfl,rfl,rfl,W.same (aG Y _),.nil,⟨λ_ z=>z,λ_ z=>.inl z⟩,λx o e _=>aG Y _ x o e,aq,dF D Y⟩,
  λi zs j _ ⟨M,B,I,O,J,h1,h2,h3,h4,h5,Wi,ri,gi,ki,di,ni⟩=>⟨EJ.of (ki.lst W IE RU),IB.sq (hb.imp (λz=>ki.tup W z rfl) id),di⟩,λi x y zs j hx hy ⟨M,B,I,O,J,h1,h2,h3,h4,h5,Wi,ri,gi,ki,di,ni⟩ t ht=>?_,
  λzs j ⟨M,B,I,O,J,h1,h2,h3,h4,h5,Wi,ri,gi,ki,di,ni⟩=>?_⟩
 ·dsimp only[qt]
  refine iD ?_;rw[cp]at hx hy;obtain⟨c,hc,rfl⟩:=ba.mp hx;obtain⟨n,OE,rfl⟩:=ba.mp hy;have hi:i<cs.length:=(ap.mp hc).1;have hw:ws.drop i=ws[i]'(by omega)::ws.drop (i+1):=cq (by omega);have YR:ns.drop i=n::ns.drop (i+1):=by
   rw[cq (by omega)];congr 1;exact(ap.mp OE).2
  generalize ws[i]'(by omega)=w at hw;rw[hw,YR]at h1;obtain⟨⟨l,w1⟩,hl,h1⟩:=ai.mp (show((Bf pb cn S w n).bind _)=_ from h1);obtain⟨⟨q1,q2⟩,hr,he⟩:=ai.mp h1;cases he;have cur:(J++ws.drop i)[i]?=some w:=by rw[hw,i8 (by omega),h5];simp
  have s1:=aG ht (.tup [V.ref c.a,V.int n]);have Wt:=Wi.same s1;obtain⟨Yo,Wc⟩:=Wt.all i c w hc cur;have dt:upd j t (.tup [V.ref c.a,V.int n]) D=some (.lst zs):=s1 _ _ di;refine⟨_,rfl,c.a,c.dx,_,rfl,by rw[←Yo];exact Wc.ob,rfl,_,rfl,?_⟩;refine⟨M,c,w,n,l,w1,rfl,Yo,by rw[Yo];exact T,Wc,by rw[Yo];exact hl,λH' F' v kp gr W' rv=>?_⟩;have mc:=et hc;have Z:=W.nc Y c mc;have dD:H' D=some (.lst zs):=kp D _ dt Z.2.2.1 Z.2.2.2.1 Z.2.2.2.2;have XG:¬ F' D:=λz=>(gr.2 D z).elim ni λe=>by rw[dt]at e;cases e
  have Ws:=Wt.set hc kp gr W' Yo;have es:(J++ws.drop i).set i w1=(J++[w1])++ws.drop (i+1):=by
   rw[hw,List.set_append_right _ _ (by omega),h5];simp
  rw[es]at Ws;have kS:EI cs j H':=EI.trans (λx o e _=>s1 x o e) (kp.S mc);have exz:Ex M j F' H':=λx o e=>by
   have U:=s1 x o e;obtain⟨m1,m2,m3,m4,m5⟩:=Wc.nF;obtain⟨_,a1,_⟩:=Wc.lp;obtain⟨_,a2,_⟩:=Wc.ln;obtain⟨_,a3,_⟩:=Wc.lo;exact⟨λf=>⟨kp x o U (λz=>m3 (z▸f)) (λz=>m4 (z▸f)) (λz=>m5 (z▸f)),gr.1 x f⟩,λm=>kp x o U (λz=>by rw[z,a1]at U;cases U;cases m) (λz=>by rw[z,a2]at U;cases U;cases m) λz=>by rw[z,a3]at U;cases U;cases m⟩
  have exD:Ex F' H' F' (upd H' D (.lst (zs++[v]))):=λx o e=>⟨λf=>⟨by rw[az (show x≠D fromλz=>XG (z▸f))];exact e,f⟩,λm=>by
   rw[az (show x≠D fromλz=>by rw[z,dD]at e;cases e;cases m)];exact e⟩
  have lz:zs.length=O.length:=ri.length;refine⟨dD,cg (by omega),F',q1,q2,O++[l],J++[w1],hr,by rw[h2];simp,by rw[h3];simp,by simp[h4],by simp[h5],Ws.own dD rfl XG (λd hd=>W.nc Y d hd),((ri.ex exz).ex exD).append (.cons (rv.ex exD) .nil),gi.trans gr (λx e=>ki.Z2 Wi (s1.free e)),λx o e n=>?_,aq,XG⟩;rw[az (au e Y)];exact(ki.trans kS) x o e n
 ·have hdw:ws.drop (cs.map λc=>V.ref c.a).length=[]:=by rw[ay,lc];simp
  have Yp:ns.drop (cs.map λc=>V.ref c.a).length=[]:=by rw[ay,lc,l1];simp
  rw[hdw,Yp]at h1;cases h1;rw[cy]at h2 h3;rw[hdw,cy]at Wi;subst h2 h3;exact q j M D zs ki gi Wi Y ni di ri
def Dd{K:W.Frag}{a:Addr}{us:sx}{tl:TE}{DT:List (Option Nat)}{tt:TT}{te:TE}{EK rest:St}(I:∀R:VK,R (.ref a) H->tl EK H R)(O:cU DT EK=none::rest)(M:EJ K H a us)
  (k:∀D,H D=none->∃j:Nat->List V->Hp->Prop,j 0 [] (upd H D (.lst []))/\(∀i ys H,i<=us.length->j i ys H->EJ K H a us/\H D=some (.lst ys)) /\
   (∀i x ys H,us[i]?=some x->j i ys H->tt (some x::rest) H λb q=>if b=true then te (some x::rest) q λy B=>B D=some (.lst ys)/\ys.length<sizeLine/\j (i+1) (ys++[y]) (upd B D (.lst (ys++[y])))else j (i+1) ys q) /\
   ∀ys H,j us.length ys H->Q (.ref D) H):ig (vD K tl) DT (aW 0) tt te EK H Q:=
 ⟨I _ ⟨a,rfl,⟨us,M⟩,λD J=>let ⟨j,h0,h1,h2,h3⟩:=k D J;Io O j h0 h1 h2 h3⟩⟩
def GD{n:Nat}{ta:TA}{DT:List (Option Nat)}{tt:TT}{te:TE}{EK rest:St}(I:∀R:List V->Hp->Prop,R [.int (n:Nat)] H->ta EK H R)(Y:n<=1000000)(U:cU DT EK=none::rest)
  (k:∀D,H D=none->∃j:Nat->List V->Hp->Prop,j 0 [] (upd H D (.lst []))/\(∀i ys H,i<=n->j i ys H->H D=some (.lst ys)) /\
   (∀i ys H,i<n->j i ys H->tt (some (.int (0+(i:Nat)))::rest) H λb q=>if b=true then te (some (.int (0+(i:Nat)))::rest) q λy B=>B D=some (.lst ys)/\ys.length<sizeLine/\j (i+1) (ys++[y]) (upd B D (.lst (ys++[y])))else j (i+1) ys q) /\
   ∀ys H,j n ys H->Q (.ref D) H):ig (vG ta) DT (aW 0) tt te EK H Q:=by
 refine⟨I _ ⟨(n:Nat),rfl,by omega,by omega,λD J=>?_⟩⟩;obtain⟨j,M,h1,h2,O⟩:=k D J;have e:((n:Nat):Int).toNat=n:=rfl;rw[e];exact FJ U j M h1 h2 O
abbrev VG(K:PySem.W.Frag):List V->Hp->VK->Prop:=λxs H Q=>∃p ys,xs=[.ref p]/\((EJ K H p ys/\∀l,H l=none->Q (.ref l) (upd H l (.tup ys)))\/(F0 K H p ys/\Q (.ref p) H))
def Sw(K:W.Frag)(aS:Addr):TE:=ig (vG (aL (X9 (Gy K) (aL (tC (.ref aS)) bu)) bu)) [none,some 2] (aW 0) qt
 (X9 (VG K) (aL (ig (vD K (DM 1)) [none,some 0] (aW 0) qt (QO (uK K) (DM 0) (DM 1))) bu))
theorem yE{C:MC}{A:se}{H:Hp}:∀{l:sv}{k:rL}{vs:sx},DI C A H vs l->v_ l=some k->vs=k.map V.int
 |[],_,_,r,e=>by cases e;cases r;rfl
 |p::l,k,_,r,e=>by
  cases p<;>first|(cases e;done)|skip
  obtain⟨k2,h2,e⟩:=ai.mp (show((v_ l).bind _)=_ from e);cases e;cases r with
  |cons h t=>cases h;rw[yE t h2];rfl
set_option tactic.hygienic true in theorem yF{C:MC}{A:se}{H:Hp}{m:Nat}:∀{ls:sv}{rows:List (List Int)}{zs:sx},DI C A H zs ls->zx m ls=some rows->zs.length=rows.length/\∀(j:Nat) (z:V),zs[j]?=some z->∃a B,z=.ref a/\H a=some (.lst (B.map V.int))/\rows[j]?=some B/\B.length=m
 |[],_,_,r,e=>by cases e;cases r;exact⟨rfl,λj z h=>by simp at h⟩
 |p::ls,rows,_,r,e=>by
  cases p<;>first|(cases e;done)|skip
  rename_i l;obtain⟨k,h1,e⟩:=ai.mp (show((v_ l).bind _)=_ from e);obtain⟨q,h2,e⟩:=ai.mp e;split at e
  ·rename_i J
   cases e;cases r with
   |cons h t=>
    obtain⟨M,I⟩:=yF t h2;refine⟨by simp[M],λj z hz=>?_⟩;cases j with
    |zero=>
     simp at hz;subst hz;cases h with
     |lst e _ r=>exact⟨_,k,rfl,by rw[←yE r h1];exact e,rfl,J⟩
    |succ j=>exact I j z (by simpa using hz)
  ·cases e
def nb2{m:Nat}{aS lv:Addr}{us zs:sx}{ls:sv}{B:List (List Int)}{v0 v1:Option V}{R:VK}(hS:F0 C.K (λ_=>none) aS us)(hu:us.length=m)(hm:m<=1000)(hlv:H lv=some (.lst zs))(hz:zs.length<=1000)(rz:DI C F H zs ls)(hr:zx m ls=some B)
  (q:∀H' D MQ,DH H H'->H D=none->H' D=some (.lst MQ)->DI C F H' MQ (((List.range m).map λi=>B.map λk=>k.getD i 0).map IM)->R (.ref D) H'):Sw C.K aS [v0,v1,some (.ref lv)] H R:=by
 obtain⟨lz,U⟩:=yF rz hr;refine GD (n:=m) (rest:=[some (.ref lv)]) (λR r=>?_) (by omega) rfl λD hD=>?_
 ·exact⟨aS,us,rfl,.inr (mW hS),by rw[hu];exact r⟩
 ·refine⟨λi ys J=>DH H J/\J D=some (.lst ys)/\ys.length=i/\DI C (λ_=>False) J ys (((List.range i).map λi=>B.map λk=>k.getD i 0).map IM),⟨aG hD _,aq,rfl,.nil⟩,λi ys J _ h=>h.2.1,?_,λys J ⟨s,d,l,r⟩=>q J D ys s hD d (r.ex (bf λ_ _ _ z=>z.elim))⟩
  rintro i ys J hi ⟨s,d,l,r⟩;dsimp only[qt];refine iD ?_;have O:=s _ _ hlv;refine Dd (a:=lv) (us:=zs) (rest:=[some (.int (0+(i:Nat)))]) (λR r=>⟨_,rfl,r⟩) rfl (EJ.of O) λD2 hD2=>?_;refine⟨λj I Z=>DH J Z/\Z D2=some (.lst I)/\I=(B.take j).map λk=>V.int (k.getD i 0),⟨aG hD2 _,aq,by simp⟩,λj I Z _ h=>⟨EJ.of (h.1 _ _ O),h.2.1⟩,λj z I Z hz2 ⟨s2,d2,l2⟩=>?_,λI Z ⟨s2,d2,l2⟩=>?_⟩
  ·dsimp only[qt]
   refine iD ?_;obtain⟨a,Y,rfl,ha,M,hlen⟩:=U j z hz2;have hj:j<B.length:=(ap.mp M).1;refine⟨_,rfl,_,rfl,a,Y.map V.int,_,.int (Y.getD i 0),rfl,rfl,EJ.of (s2 _ _ (s _ _ ha)),?_,d2,cg ?_,s2.over hD2 _,aq,?_⟩
   ·unfold Fm OL
    have OA:i<Y.length:=by omega
    have e1:(0:Int)<=0+(i:Nat):=by omega
    simp[OA]
   ·rw[l2,ay,jS];omega
   ·rw[l2,List.take_add_one,M];simp
  ·refine⟨D2,I,rfl,.inl ⟨EJ.of d2,λt ht=>?_⟩⟩
   rw[lz,ow]at l2;have dj:Z D=some (.lst ys):=s2 _ _ d;have st:=aG ht (.tup I);have nDt:D≠t:=au dj ht;refine⟨st _ _ dj,cg (by omega),((s.trans s2).trans st).over hD _,aq,by simp[l],?_⟩;have ex:Ex (λ_=>False) J (λ_=>False) (upd (upd Z t (.tup I)) D (.lst (ys++[.ref t]))):=λx o e=>⟨λz=>z.elim,λm=>by
    rw[az (show x≠D fromλz=>by rw[z,d]at e;cases e;cases m)];exact st x o (s2 x o e)⟩
   have er:(List.range (i+1)).map (λi=>B.map λk=>k.getD i 0)=(List.range i).map (λi=>B.map λk=>k.getD i 0)++[B.map λk=>k.getD i 0]:=by rw[List.range_succ,fk];rfl
   rw[er,fk];refine(r.ex ex).append (.cons (.tup (vs:=I) (by rw[az nDt.symm,aq]) ?_) .nil);rw[l2,qV];exact jR _ _ (λk=>.int _) B
def tNb(C:MC)(cn:Nat)(pb:sg)(S:sv)(aS:Addr):TS:=bG (cG (Sv C cn pb S) (aW 2)) (d9 (Sw C.K aS))
def Sx{Z:sg}{S:sv}{Y:Addr}{E:XK}(hS:sJ C Y S)(hm:S.length<=1000)(h:Bg C cn Z S vs H Q E):tNb C cn Z S Y {nx:=λ_ H'=>Q .DS H',rt:=Q} (L2.start ["walks","node","later"] vs) H:=by
 obtain⟨F,cs,ws,ns,O,MB,wl,vn,rfl,ne,T,W,IE,nwF,RU,hz,rn,B,q⟩:=h;obtain⟨us,XF,Zc⟩:=hS;have oX:us.length=S.length:=(Zc F H).length;obtain⟨⟨ls,w2⟩,hF,B⟩:=ai.mp B;obtain⟨rows,hr,B⟩:=ai.mp B;cases B;obtain⟨b,vs,rfl,hb,rb⟩:=DO.tup (.inl rn);have ev:=sO rb;subst ev;unfold tNb;dsimp only[bG,cG,d9,aW];obtain⟨c,hc⟩:=kg _ ne;obtain⟨i,hi⟩:=d0.mp hc;have OA:i<ws.length:=by rw[←W.len];exact(ap.mp hi).1
 have dm:=(W.all i c _ hi (aw OA)).2.dm;refine nb1 (rest:=[none]) T W IE RU hz hb hF (λD e z=>by obtain⟨o,e'⟩:=dm D z;rw[e]at e';cases e') λH1 J D zs k1 g1 I hD nD d1 U=>?_;obtain⟨l1,l2,l3⟩:=xN hF;have lz:zs.length=ls.length:=U.length;have lc:=W.len;refine nb2 (C:=C) (F:=J) (us:=us) (zs:=zs) (ls:=ls) XF oX hm d1 (by omega) U hr λH' D2 MQ s j d2 r2=>?_;have M:∀b,J b->∃o,H1 b=some o:=(I.all i c _ hi (aw (by have:=I.len;omega))).2.dm;exact q H' J D2 MQ (λx o e n=>s x o (k1 x o e n)) g1 (I.same s) (k1.Z2 I j) (λz=>by obtain⟨o,e⟩:=M D2 z;rw[j]at e;cases e) d2 r2
end Lake.MR
namespace Lake.L2
open PySem PySem.Spec PyProof.Rows
def pU:fillsNumberSlot (.type "tuple") "mul" = pure false:=
 PySem.fillsNumberSlot_seq (id := "tuple.__mul__") (r:=some (.builtin "tuple.__rmul__")) lf.lookup (by decide +kernel) (by rw[kB,gz];kernel_rfl) (by decide +kernel)
def De:typeLookup (.type "tuple") "__rmul__" = pure (some (.builtin "tuple.__rmul__")):=by rw[kB,gz];kernel_rfl
def wg:seqRepeat? (.type "tuple")=pure (some (.builtin "tuple.__mul__")):=by
 unfold seqRepeat?;rw[PySem.seqSlot_of (T := "tuple") (name := "__mul__") (id := "tuple.__mul__") lf.lookup (by decide +kernel),PySem.seqSlot_of (T := "tuple") (name := "__rmul__") (id := "tuple.__rmul__") De (by decide +kernel)];rfl
def Bh(a:Int)(t:Tok)(l:Addr)(items:rV)(n:Nat)(j:Array (Option Value)):Meets (Builtin.«int.__rmul__» ⟨[.int a t,.ref l],[]⟩) (λ_ R s=>s.heap.get? l=some {cls:=.type "tuple",dict:=none,data:=.seq items n,slots:=j}/\R (.ok (.ret Value.notImplemented)) s):=
 .of_wp λprog w A R s h=>by
  obtain⟨B,g,d,q,I⟩:=s;obtain⟨h1,h⟩:=h;wp_walk;exact⟨_,rfl,h⟩
def Df(l:Addr)(t:Tok)(items:rV)(n:Nat)(j:Array (Option Value)):Meets (Builtin.«tuple.__mul__» ⟨[.ref l,.int 1 t],[]⟩) (λ_ R s=>s.heap.get? l=some {cls:=.type "tuple",dict:=none,data:=.seq items n,slots:=j}/\R (.ok (.ret (.ref l))) s):=
 .of_wp λprog w A R s h=>by
  obtain⟨B,g,d,q,I⟩:=s;obtain⟨h1,h⟩:=h;unfold Builtin.«tuple.__mul__»;wp_walk;exact⟨_,rfl,h⟩
def Dg(l:Addr)(t:Tok)(u:Value)(n:Nat)(j:Array (Option Value)):Meets (Builtin.«tuple.__mul__» ⟨[.ref l,.int 2 t],[]⟩) (λ_ R s=>s.heap.get? l=some {cls:=.type "tuple",dict:=none,data:=.seq #[u] n,slots:=j}/\R (.ok (.ret (.ref s.heap.objs.size))) {s with heap:=s.heap.push {cls:=.type "tuple",data:=.seq #[u,u]}}):=
 .of_wp λprog w A R s h=>by
  obtain⟨B,g,d,q,I⟩:=s;obtain⟨h1,h⟩:=h;unfold Builtin.«tuple.__mul__»;wp_walk;exact⟨_,rfl,h⟩
section
variable {X:Cx}
def Nz:R2:=λx y H Q=>∃t u,x=.ref t/\H t=some (.tup [u])/\((y=.int 1/\Q (.ref t) H)\/(y=.int 2/\∀l,H l=none->Q (.ref l) (upd H l (.tup [u,u]))))
def PJ:F3 X (binaryOp .Mult) Nz:=by
 intro DE s EK H x y v u Q I Y M h;obtain⟨t,a,rfl,O,h⟩:=h;cases Y;obtain⟨_,Z,r,⟨c,dd,da,J⟩,e1,e2,n,e3,e4⟩:=(show DZ X.prog X.w X.K H s.heap t (.tup [a])from I.DV t _ O);simp only at e2 e3 e4;subst e2 e3 e4;obtain⟨w,rfl,B⟩:=Vals.one r;have T:s.TypeIs (.ref t) "tuple" := ⟨_,e1,rfl⟩;rcases h with⟨rfl,q⟩|⟨rfl,q⟩
 ·obtain⟨j,rfl⟩:=M
  exact ng (T := "tuple") (U := "int") (by decide) T (λs'=>pc s' 1 j) pU F.fills_int_mul l4 wg F.slot_int_index.lookup
   (le l4 (pc s 1 j) F.entry_int_rmul (F.args_int_rmul_2 _ _) (Bh 1 j t _ n J) ⟨e1,rfl,T,le lf T F.entry_tuple_mul (F.args_tuple_mul_2 _ _) (Df t j _ n J) ⟨e1,.ref t,H,I,rfl,q⟩⟩)
 ·obtain⟨j,rfl⟩:=M
  refine ng (T := "tuple") (U := "int") (by decide) T (λs'=>pc s' 2 j) pU F.fills_int_mul l4 wg F.slot_int_index.lookup
   (le l4 (pc s 2 j) F.entry_int_rmul (F.args_int_rmul_2 _ _) (Bh 2 j t _ n J) ⟨e1,rfl,T,le lf T F.entry_tuple_mul (F.args_tuple_mul_2 _ _) (Dg t j w n J) ⟨e1,?_⟩⟩)
  exact⟨.ref s.heap.objs.size,_,I.laid (t':=s.toks) (λb o e=>ae _ e) (ax _) (show DZ X.prog X.w X.K _ _ _ (.tup [a,a])from⟨by show(2:Nat)<=sizeLine;decide,[w,w],.cons B (.cons B .nil),⟨_,av _ rfl,rfl,0,rfl,rfl⟩⟩),rfl,q _ I.fresh⟩
def wj(i:Nat)(f:Addr)(sp:Sp)(t:TA):TE:=fun EK H Q=>EK[i]?=some (some (.ref f))/\t EK H λvs H1=>sp vs H1 Q E0
def LK{k i:Nat}{f:Addr}{fd:FuncData}{ps:rj}{sp:Sp}{x:Str}{p pos:Pos}{e:Expr}{es:rh}{t:TA}(F:EC X.prog X.w X.K X.mg X.base IP k f fd ps sp)(hr:Ee k X.A)(hk:W.keepIn X.K (.ref f)=true)(J:Binds X.K fd ps [])(ha:PA X (e::es) t)
  (hN:autoParam (X.N[i]?=some x) r0_) (U:autoParam (N3 X.env.scope x) r4_) (M:autoParam (GG x) r1_) (Z:autoParam (NJ x) r1_)
  (he:autoParam (GB X e es) r0_) (Y:autoParam (JI X pos es) r0_):PE X (.Call (.Name x p) (e::es) [] pos) (wj i f sp t):=by
 intro DE s EK H Q I ⟨Fh,h⟩;refine e8 (D8 ((dW hN U M Z) DE s EK H (λv H1=>v=.ref f/\t EK H1 λvs H2=>sp vs H2 Q E0) I ⟨_,Fh,rfl,h⟩) ?_);rintro u O ⟨v,H1,I1,B,e1,h1⟩;subst e1;cases(show u=Value.ref f from B);refine ij (h₀:=X.base) I.ok.mod.IS hk (D8 (ha pos DE O EK H1 _ I1 h1) λus s2 ⟨vs,H2,j,r,q⟩=>⟨j.HI,?_⟩) he Y;exact zQ F hr J .nil vN j r (by rw[cy];exact q)
end
end Lake.L2
namespace Lake.MR
open PySem L2
noncomputable def numT:List (Str×Int):=[("0",0),("1",1),("2",2),("3",3),("4",4),("5",5),("6",6),("7",7),("8",8),("9",9),("10",10),("11",11),("12",12),("13",13)]
noncomputable def numOf(x:Str):Option Int:=(numT.find? λz=>decide (z.1=x)).map λz=>z.2
@[simp] noncomputable def GF:PV->Option PV
 |.int i=>some (.int i)
 |.bl k=>some (.int (if k then 1 else 0))
 |.str x=>(numOf x).map .int
 |_=>none
def PK:∀z∈numT,PySem.intText? z.1=some z.2/\z.1.length<=640/\z.2.natAbs.log2<1920/\(toString z.2:Str)=z.1:=by
 decide +kernel
def LQ{x:Str}{i:Int}(h:numOf x=some i):PySem.intText? x=some i/\x.length<=640:=by
 unfold numOf at h;obtain⟨z,h1,h2⟩:=ba.mp h;have B:=nh h1;have q:=List.find?_some h1;have j:z.1=x:=gX q;obtain⟨k1,k2,_⟩:=PK z B;subst j;subst h2;exact⟨k1,k2⟩
section
variable {X:Cx}{b:BX}{G:oT}{p pos:Pos}{m1:Md}{e:Expr}{f:sf}
def Jp:EE X (.type "int") (λxs H Q=>(∃i,xs=[.int i]/\Q (.int i) H)\/(∃k,xs=[.bl k]/\Q (.int (if k then 1 else 0)) H)\/∃x i,xs=[.str x]/\PySem.intText? x=some i/\x.length<=640/\Q (.int i) H):=by
 intro DE s EK H xs us Q I r h;rcases h with h|h|⟨x,i,rfl,h1,h2,q⟩
 ·exact rP DE s EK H xs us Q I r (.inl h)
 ·exact rP DE s EK H xs us Q I r (.inr h)
 ·obtain⟨u,rfl,t,rfl⟩:=vals1 r
  exact W.KIN.call_text h1 h2 ⟨.int i,H,I.tok _,⟨_,rfl⟩,q⟩
def PL(I:X.mg "int" = none)(h:SE X b G m1 e f)(q:Gl X "int" := by rfl)(B:autoParam (GB X e []) r0_):SE X b G .val (.Call (.Name "int" p) [e] [] pos) (b1 GF f):=by
 refine pM Jp (λOw H J p1 p Q M j e k=>?_) I pV h q (by decide) (by decide) B;unfold GF at e;split at e
 ·cases e;rw[j.int];exact .inl ⟨_,rfl,k _ H (DH.refl _) (.int _)⟩
 ·cases e;rw[j.bl];exact .inr (.inl ⟨_,rfl,k _ H (DH.refl _) (.int _)⟩)
 ·obtain⟨i,h1,h2⟩:=ba.mp e
  obtain⟨k1,k2⟩:=LQ h1;subst h2;rw[j.str];exact .inr (.inr ⟨_,_,rfl,k1,k2,k _ H (DH.refl _) (.int _)⟩)
 ·cases e
end
end Lake.MR
namespace Lake.My
open PySem L2 MR
@[simp] def V9(i j:Int):JJ (.int i) (.int j)=some (decide (i=j)):=rfl
@[simp] def V_(i j:Str):JJ (.str i) (.str j)=some (decide (i=j)):=rfl
@[simp] def Ww(i j:Bool):JJ (.bl i) (.bl j)=some (decide (i=j)):=rfl
def PN{EL Fc:Type}(f:EL->Fc)(xs:List EL)(i:Int):Fm (xs.map f) i=(Fm xs i).map f:=by
 unfold Fm;rw[ay];cases OL xs.length i with
 |none=>rfl
 |some j=>simp
def lK{EL:Type}{xs:List EL}{k:Nat}{x:EL}(h:xs[k]?=some x):Fm xs (k:Int)=some x:=mJ h
section
variable {EL:Type}{env:MR.Env}{g:PV->MR.Env->Option MR.Env}{t:MR.Env->Option Bool}{f:MR.Env->Option PV}
theorem sS(c h:EL->PV):∀(ys:List EL),(∀y∈ys,∃e,g (c y) env=some e/\f e=some (h y))->fX env g iY f (ys.map c)=some (ys.map h)
 |[],_=>rfl
 |y::ys,hh=>by
  obtain⟨e,h1,h2⟩:=hh y bp;have j:=sS c h ys λz hz=>hh z (aI _ hz);simp[fX,h1,h2,j]
theorem dX(c h:EL->PV)(p:EL->Bool):∀(ys:List EL),(∀y∈ys,∃e,g (c y) env=some e/\t e=some (p y)/\(p y=true->f e=some (h y)))->fX env g t f (ys.map c)=some ((ys.filter p).map h)
 |[],_=>rfl
 |y::ys,hh=>by
  obtain⟨e,h1,h2,q⟩:=hh y bp;have j:=dX c h p ys λz hz=>hh z (aI _ hz);cases hp:p y with
  |true=>simp[fX,h1,h2,q hp,j,hp]
  |false=>simp[fX,h1,h2,j,hp]
end
end Lake.My
namespace Lake.MR
open PySem L2 PyProof.Rows PySem.Spec
def Sz{Fu scope:Scope}{ON N:rj}{DT:List (Option Nat)}(h1:autoParam (scope.kind=.function) r0_)(h2:autoParam (∀y∈scope.names,y.2≠.cell) r2_)(B:autoParam (∀y∈scope.names,y.2=.local->scope.names.lookup y.1=some .local) r2_)
  (q:autoParam (∀y∈scope.names,y.2=.free->Fu.names.lookup y.1=some .cell\/Fu.names.lookup y.1=some .free) r2_) (j:autoParam (vQ scope ON N DT=true) r2_):Yf Fu scope ON N DT:=⟨h1,h2,B,q,j⟩
def FY{N P:rj}{j:Scope}(h1:autoParam (j.kind=.function) r0_)(h2:autoParam (j.isCoroutine=false) r0_)(M:autoParam (j.isGenerator=false) r0_)(I:autoParam (N.Nodup) r2_)(q:autoParam (N.take P.length=P) r0_)
  (J:autoParam (∀x∈P,j.names.lookup x=some .local\/j.names.lookup x=some .cell) r2_) (B:autoParam (∀y∈j.names,y.2≠.free) r2_):DJ N P j:=⟨h1,h2,M,I,q,J,B⟩
def iH{X:Cx}{N:rj}{scope:Scope}{C s H fp}{x:Str}{pos:Pos}(i:Nat)(j:autoParam (N.Nodup) r2_)(hi:autoParam (N[i]?=some x) r0_)(B:Loc (X.comp N scope C s H fp).env.scope x:=by exact d5 rfl)
  (q:autoParam ((X.comp N scope C s H fp).fn x=true\/(X.comp N scope C s H fp).env.scope.names.lookup x=some .local) r3_):PG (X.comp N scope C s H fp) (.Name x pos) (aW i):=cX j hi B q
section
variable {P:Program}{w:World}{K:W.Frag}{mg:rX}{base:Heap}
def IC{x q:Str}{st:Stmt}{f:Addr}{fd:FuncData}{N ps:rj}{k n I:Nat}{C:MC}{ro:Bool}{g:Env->Option Out}(F:G0 K x q st f fd)(S:DJ N ps (aA st))(G G' L:oT)
  (M:∀{J:Value}{A:Around}{j:List PySem.Env}{s:Shared}{H:Hp}{E:XK},Ee k (A.deeper (envOfC q (aA st) s.heap.objs.size f J))->∀{B H'},MO (cD IP P w K mg base N q (aA st) f J A j s H E).LV ⟨C,B,H',λ_=>none⟩ G G' L ro (dz st) g)
  (U:autoParam (I=ps.length) r0_) (Z:autoParam (N.length=n) r0_) (Y:autoParam (I<=n) r1_) (O:autoParam ((G.all λi=>decide (I<=i))=true) r1_):EC P w K mg base IP (k+1) f fd ps (HA C (bM n I ro g) ro):=
 F.ok S (λvs H Q E h=>(Pq h).trans U) λJ A j s H vs Q E hr h=>D_ Z Y O (λB H'=>M hr) h
end
end Lake.MR
namespace Lake.L2
open PySem MR
section
variable {K:W.Frag}{x q:Str}{st:Stmt}{f:Addr}{fd:FuncData}{ps:rj}(F:G0 K x q st f fd)
include F
theorem G0.OY(j:autoParam (ps.length=1) r0_)(h:autoParam (∀k d p n c t a,bindArgs (W.fnOf x q (gk st) (dz st) (aA st) .none k d p n c t) ⟨[a],[]⟩=pure (ps.zip [a])) r8_):Binds K fd ps []:=F.binds λk d p n c t us e=>RQ us (e.trans j) (h k d p n c t)
theorem G0.MU(j:autoParam (ps.length=2) r0_)(h:autoParam (∀k d p n c t a b,bindArgs (W.fnOf x q (gk st) (dz st) (aA st) .none k d p n c t) ⟨[a,b],[]⟩=pure (ps.zip [a,b])) r8_):Binds K fd ps []:=F.binds λk d p n c t us e=>RT us (e.trans j) (h k d p n c t)
theorem G0.Zd(j:autoParam (ps.length=3) r0_)(h:autoParam (∀k d p n c t a b g,bindArgs (W.fnOf x q (gk st) (dz st) (aA st) .none k d p n c t) ⟨[a,b,g],[]⟩=pure (ps.zip [a,b,g])) r8_):Binds K fd ps []:=F.binds λk d p n c t us e=>RV us (e.trans j) (h k d p n c t)
theorem G0.bd4(j:autoParam (ps.length=4) r0_)(h:autoParam (∀k d p n c t a b g i,bindArgs (W.fnOf x q (gk st) (dz st) (aA st) .none k d p n c t) ⟨[a,b,g,i],[]⟩=pure (ps.zip [a,b,g,i])) r8_):Binds K fd ps []:=F.binds λk d p n c t us e=>RW us (e.trans j) (h k d p n c t)
theorem G0.bd5(B:autoParam (ps.length=5) r0_)(h:autoParam (∀k d p n c t a b g i j,bindArgs (W.fnOf x q (gk st) (dz st) (aA st) .none k d p n c t) ⟨[a,b,g,i,j],[]⟩=pure (ps.zip [a,b,g,i,j])) r8_):Binds K fd ps []:=F.binds λk d p n c t us e=>VF us (e.trans B) (h k d p n c t)
end
open PySem PySem.Spec PyProof.Rows
section
variable {X:Cx}
def zy(K:W.Frag):R2:=λx y H Q=>∃a b ys,x=.ref a/\y=.ref b/\F0 K H a []/\F0 K H b ys/\Q (.ref b) H
def PQ:F3 X (binaryOp .Add) (zy X.K):=by
 intro DE s EK H x y v u Q I rx ry h;obtain⟨a,b,ys,rfl,rfl,ha,hb,q⟩:=h;cases rx;cases ry;obtain⟨DL,r1,p1,_⟩:=I.tuple ha;obtain⟨He,r2,p2,_⟩:=I.tuple hb;cases r1;obtain⟨⟨cls,dd,Z,sl⟩,Y,hc,n,U⟩:=id p1;obtain⟨⟨J,Ya,B,Yb⟩,M,O,n2,j⟩:=id p2;simp only at hc U O j;subst hc U O j;exact concat_meets ⟨_,Y,rfl⟩ ⟨_,M,rfl⟩ on qA kK kD (kr _ _)
  (tuple_addW0 a b _ He.toArray n n2 dd Ya sl Yb (by simp)) ⟨Y,M,⟨.ref b,H,I,rfl,q⟩⟩
end
end Lake.L2
namespace Lake.MR
open PySem L2 PyProof.Rows PySem.Spec
noncomputable def uh:PV->PV->Option PV
 |.tup [],.tup ys=>some (.tup ys)
 |.tup xs,.tup ys=>if xs.length+ys.length<=1000000 then some (.tup (xs++ys))else none
 |_,_=>none
@[simp] def Vp(ys:sv):uh (.tup []) (.tup ys)=some (.tup ys):=id rfl
@[simp] def Vc(x:PV)(xs ys:sv):uh (.tup (x::xs)) (.tup ys)=if(x::xs).length+ys.length<=1000000 then some (.tup ((x::xs)++ys))else none:=id rfl
section
variable {X:Cx}{b:BX}{G L:oT}{ro:Bool}{pos apos D3:Pos}{m1 m2:Md}{e1 e2:Expr}{f1 f2:sf}
set_option tactic.hygienic true in def LR:NF b .val (λx y H Q=>vL b.C.K x y H Q\/zy b.C.K x y H Q) uh:=by
 intro Ow H J Y p1 p2 p Q O B j e k;unfold uh at e;split at e
 ·cases e
  obtain⟨a,vs,rfl,Z,M⟩:=B.tup;obtain⟨c,us,rfl,I,U⟩:=j.tup;cases M;exact .inr ⟨a,c,us,rfl,rfl,Z.sq,I.sq,k _ H (DH.refl _) (I.rep U)⟩
 ·rename_i xs ys L5
  split at e
  ·rename_i h
   cases e;refine .inl (Pa Ow H J Y (.tup xs) (.tup ys) (.tup (xs++ys)) Q O B j ?_ k);show(if xs≠[]/\xs.length+ys.length<=1000000 then some (PV.tup (xs++ys))else none)=_;rw[bX ⟨λz=>L5 z,h⟩]
  ·cases e
 ·cases e
def PX:F3 X (binaryOp .Add) (λx y H Q=>vL X.K x y H Q\/zy X.K x y H Q):=λDE s EK H x y v u Q I B j h=>h.elim (O3 DE s EK H x y v u Q I B j) (PQ DE s EK H x y v u Q I B j)
def L_(h1:SE X b G m1 e1 f1)(h2:SE X b G m2 e2 f2)(j:autoParam (X.K=b.C.K) r0_):SE X b G .val (.BinOp e1 .Add e2 pos) (b2 uh f1 f2):=t6 (r:=λx y H Q=>vL b.C.K x y H Q\/zy b.C.K x y H Q) (by rw[←j];exact PX) LR h1 h2
end
end Lake.MR
namespace Lake.L2
open PySem PySem.Spec PyProof.Rows
section
variable {prog:Program}{w:World}{A:Around}{E:gV}{s:Shared}
def np{a b c:Addr}(h:a≠b)(h':a≠c):a∉[b,c]:=by simp[h,h']
end
section
variable {prog:Program}{w:World}{A:Around}{E:gV}{s:Shared}{a:Addr}
def yG:entryFor table "dict.update.loop" = some Builtin.«dict.update.loop»:=entryFor_of_tree (by kernel_rfl)
abbrev RY(prog:Program)(w:World):=dC prog w
theorem Bj{h h':Heap}(k:∀b o,h.get? b=some o->o.cls=.type "tuple" -> h'.get? b=some o):∀(n:Nat) (x:DF) (v:Value),F9 n h x v->F9 n h' x v
 |0,_,_,q=>q
 |n+1,x,v,q=>q.imp id λ⟨I,a,e,J,o,j,m,h1,h2,B,p⟩=>⟨I,a,e,J,o,j,m,k a o h1 h2,h2,B,fP p λx y=>Bj k n x y⟩
def ul{h h':Heap}{ks:List DF}{b:Addr}(e:(RY prog w).is h ks b)(k:∀b o,h.get? b=some o->o.cls=.type "tuple" -> h'.get? b=some o):(RY prog w).is h' ks b:=by
 obtain⟨o,j,n,h1,h2,B,r⟩:=e;exact⟨o,j,n,k b o h1 h2,h2,B,fP r λx y=>Bj k 2 x y⟩
def Bk{h:Heap}{ks:List DF}{b:Addr}(e:(RY prog w).is h ks b):∃o,h.get? b=some o/\o.cls=.type "tuple" := by
 obtain⟨o,j,n,h1,h2,r⟩:=e;exact⟨o,h1,h2⟩
def qJ{h h':Heap}{d:Addr}{xs:List (List DF×Addr×Value)}(m:EB (RY prog w) h d xs)(k:∀b o,h.get? b=some o->(b=d\/o.cls=.type "tuple")->h'.get? b=some o):EB (RY prog w) h' d xs:=by
 obtain⟨o,es,I,U,O,J,j,M⟩:=m;refine⟨o,es,k d o I (.inl rfl),U,O,J,λx B=>?_,M⟩;obtain⟨Y,h1,h2⟩:=Bk (j x B);exact ul (j x B) λb o' e q=>k _ _ e (.inr q)
def qK(prog:Program)(w:World)(h:Heap)(p:List DF×Addr×Value)(u:Value):Prop:=∃t,u=.ref t/\IsTup h t #[.ref p.2.1,p.2.2]/\(RY prog w).is h p.1 p.2.1
def Jq(h:Heap):EB (RY prog w) (h.push {cls:=.type "dict",data:=.dict #[]}) h.objs.size []:=⟨_,#[],av _ rfl,⟨rfl,rfl,rfl⟩,rfl,rfl,(λx j=>absurd j b6),List.nodup_nil⟩
end
inductive Kx(K:W.Frag)(H:Hp):List V->List (List DF×V)->Prop where
 |nil:Kx K H [] []
 |cons {t b:Addr}{ks:List DF}{v:V}{ts:sx}{kvs:List (List DF×V)}(h:H t=some (.tup [.ref b,v])\/LF K t [.ref b,v]) (k:FV K H b ks) (r:Kx K H ts kvs):Kx K H (.ref t::ts) ((ks,v)::kvs)
noncomputable def iQ(kvs more:List (List DF×V)):List (List DF×V):=more.foldl (λacc kv=>putK acc kv.1 kv.2) kvs
theorem rA:∀(more kvs:List (List DF×V)),(iQ kvs more).length<=kvs.length+more.length
 |[],kvs=>ax _
 |p::more,kvs=>by
  have h:=rA more (putK kvs p.1 p.2);have h2:(putK kvs p.1 p.2).length<=kvs.length+1:=by unfold putK;split<;>simp
  show(iQ (putK kvs p.1 p.2) more).length<=_;simp only[cv];omega
theorem yH{P:Program}{w:World}{K:W.Frag}{H:Hp}{h:Heap}(J:K.In h)(ok:GY P w K H h):∀{M:sx}{kvs:List (List DF×V)}{DL:re},Kx K H M kvs->Vals M DL->∃B:List (List DF×Addr×Value),KT K H kvs B/\Paired (qK P w h) B DL
 |_,_,_,.nil,r=>by cases r;exact⟨[],.nil,.nil⟩
 |_,_,_,.cons (t:=t) (b:=b) (ks:=ks) (v:=v) e ck q,r=>by
  cases r with
  |cons Y U=>
   cases Y;obtain⟨B,h1,h2⟩:=yH J ok q U;obtain⟨us,I,j⟩:∃us,Vals [.ref b,v] us/\IsTup h t us.toArray:=by
    rcases e with e|⟨o,DL,n,e1,e2,e3,_,r⟩
    ·obtain⟨_,us,I,j⟩:=(show DZ P w K H h t (.tup [.ref b,v])from ok t _ e)
     have j:=j.tup;exact⟨us,I,j⟩
    ·exact⟨DL.toList,r,o,J t o e1,e2,n,by simpa using e3⟩
   obtain⟨ku,vu,rfl,O,Z⟩:=vals2 I;cases O;exact⟨(ks,b,vu)::B,.cons ⟨rfl,ck,Z⟩ h1,.cons ⟨t,rfl,j,jO J ok ck⟩ h2⟩
def KT.merge{K:W.Frag}{H:Hp}:∀{more:List (List DF×V)}{I:List (List DF×Addr×Value)}{kvs:List (List DF×V)}{xs:List (List DF×Addr×Value)},KT K H more I->KT K H kvs xs->KT K H (iQ kvs more) (I.foldl (λj B=>storedH j B.1 B.2.1 B.2.2) xs):=by
 intro more I kvs xs r;unfold KT at r;induction r generalizing kvs xs with
 |nil=>intro q;exact q
 |@cons p q ps Z h t U=>
  intro J;obtain⟨e,M,O⟩:=h;refine U ?_;obtain⟨q1,Y,q3⟩:=q;cases e;exact KT.put J p.1 M O
end Lake.L2
namespace Lake.MR
open PySem L2 PyProof.Rows PySem.Spec
noncomputable def sU:List PV->Option (List (List DF×PV))
 |[]=>some []
 |.tup [.tup k,v]::r=>(EG k).bind λk=>(sU r).bind λl=>some ((k,v)::l)
 |_::_=>none
@[simp] def VH:sU []=some []:=id rfl
@[simp] def Vq(k:sv)(v:PV)(r:sv):sU (.tup [.tup k,v]::r)=((EG k).bind λk=>(sU r).bind λl=>some ((k,v)::l)):=id rfl
noncomputable def wu(l acc:sw):List (List DF×PV):=l.foldl (λacc kv=>cT acc kv.1 kv.2) acc
set_option tactic.hygienic true in theorem yI{C:MC}{A:se}{H:Hp}:∀{vs:sx}{xs:sv}{l:sw},DI C A H vs xs->sU xs=some l->∃kvs,Kx C.K H vs kvs/\D7 C A H kvs l
 |_,_,_,.nil,h=>by cases h;exact⟨[],.nil,.nil⟩
 |_,x::xs,l,.cons r1 r2,h=>by
  unfold sU at h;split at h
  ·rename_i e;cases e
  ·rename_i k v r e
   obtain⟨e1,e2⟩:=List.cons.inj e;subst e1 e2;obtain⟨k',O,h⟩:=aC h;obtain⟨l',Z,h⟩:=aC h;cases h;obtain⟨kvs,h1,h2⟩:=yI r2 Z;have J:DO C A H _ (.tup [.tup k,v]):=.inl r1;obtain⟨a,us,rfl,ha,B⟩:=J.tup;cases B with
   |cons I j=>
    cases j with
    |cons j M=>
     cases M;have q1:DO C A H _ (.tup k):=.inl I;obtain⟨b,ks,rfl,U,Y⟩:=q1.tup;exact⟨_,.cons ha (U.key (Y.EG O)) h1,.cons j h2⟩
  ·cases h
theorem ww{C:MC}{A:se}{H:Hp}:∀{kvs:List (List DF×V)}{l:sw}{a:List (List DF×V)}{b:sw},D7 C A H kvs l->D7 C A H a b->D7 C A H (iQ a kvs) (wu l b)
 |_,_,_,_,.nil,r=>r
 |(k,v)::kvs,(_,p)::l,a,b,.cons h t,r=>by
  show D7 C A H (iQ (putK a k v) kvs) (wu l (cT b k p));exact ww t (D7.put h r)
end Lake.MR
namespace Lake.L2
open PySem PySem.Spec PyProof.Rows
def Bl:typeLookup (.type "tuple") "keys" = pure none:=by rw[kB,gz];kernel_rfl
variable {sl:Array (Option Value)}
section
variable {prog:Program}{w:World}{A:Around}{E:gV}{s:Shared}{a:Addr}
def P_{xs:rV}{k:Nat}{Q:Option Value->Shared->Prop}(J:s.heap.get? a=some {cls:=.type "tuple",data:=.seq xs k,slots:=sl})(U:A.handled=none)
  (O:∀h' I,(∀b o,s.heap.get? b=some o->h'.get? b=some o)->Q none {s with heap:=h',toks:=I}):wpAny (model prog w) A (getAttr? (.ref a) "keys") Q E s:=by
 obtain⟨Y,g,d,I,Z⟩:=s;have M:∀B,(⟨Y,g,d,B,Z⟩:Shared).TypeIs (.ref a) "tuple" := λ_=>⟨_,J,rfl⟩;have f1:=sub_AttributeError;have f3:=kl.lookup;have f4:=kl.bind (.ref a);have f5:=am_tuple_getattr_none;unfold getAttr? getAttrBy? getAttrBy
 repeat(any_goals (first|assumption|exact M _|((with_reducible show wpAny _ _ (call (Value.builtin "tuple.__getattribute__") _ _) _ _ _);refine le kl (M _) am_entry_tuple_getattribute (F.args_tuple_getattribute_2 _ _) (meets_getattribute_miss_tuple a xs k sl "keys" _ Bl (by decide)) ⟨J,U,λh' B e j=>?_⟩)|wp_step))
 obtain⟨t',u',he⟩:=j.there;show wpAny _ _ (getattributeRaised _ _ _ _ _ _ _) _ _ _;unfold getattributeRaised
 repeat(any_goals (first|assumption|wp_step))
 exact O _ _ j.keeps
theorem NB{R:Result->Shared->Prop}{dd it l:Addr}{items:rV}(hA:A.handled=none)(hu:(A.in1).units+3<cLine)(nd:it≠dd)(nl:l≠dd)(I:l≠it):∀(L:List (List DF×Addr×Value)) (rest:re) (i:Nat) (kvs:List (List DF×Addr×Value)) (s:Shared),
  items.toList.drop i=rest->Paired (qK prog w s.heap) L rest->s.heap.IsTupleIter it l i->s.heap.IsTuple l items->EB (RY prog w) s.heap dd kvs->kvs.length+L.length<=sizeLine->
  (∀h' tk,EB (RY prog w) h' dd (L.foldl (λacc kv=>storedH acc kv.1 kv.2.1 kv.2.2) kvs)->(∀b o,b≠dd->b≠it->s.heap.get? b=some o->h'.get? b=some o)->R (.ok (.ret .none)) {s with heap:=h',toks:=tk})->
  codeAny (model prog w) A (.builtin "dict.update.loop" ⟨[.ref dd,.ref it,rawInt i,.none],[]⟩) R s
 |[],rest,i,kvs,s,hr,M,hit,hl,hd,hz,hR=>by
  cases M;refine gS yG ?_;unfold Builtin.«dict.update.loop»;have hx:items[i]?=none:=by
   rw[Array.getElem?_eq_none_iff];have:=lj.mp hr;simpa using this
  show wpAny _ _ (pyNext (.ref it) >>= _) _ _ _;refine ac (wpAny_pyNext_tuple_end (A:=A.under _) hA hit hl hx λh1 x1=>?_);show wpAny _ _ (Builtin.Dict.addKeywords dd [] >>= _) _ _ _;refine ac (al (al ?_));obtain⟨oi,j,TR,_⟩:=hit;refine hR h1 s.toks (qJ hd λb o e q=>x1 b o (λz=>?_) e) λb o' _ n2 e=>x1 b o' n2 e;rcases q with q|q
  ·exact nd (z.symm.trans q)
  ·rw[z,j]at e;cases e;rw[TR]at q;exact absurd (jp q) (by decide)
 |p::L,rest,i,kvs,s,hr,M,hit,hl,hd,hz,hR=>by
  cases M with
  |@cons _ u _ us hpu M=>
   obtain⟨t,rfl,Y7,hk⟩:=hpu;have hx:items[i]?=some (.ref t):=by
    have e:items.toList[i]?=some (.ref t):=by rw[←List.head?_drop,hr];rfl
    rw[←e];simp
   obtain⟨oi,j,TR,hdi⟩:=id hit;refine gS yG ?_;unfold Builtin.«dict.update.loop»;show wpAny _ _ (pyNext (.ref it) >>= _) _ _ _;refine ac (nV hit hl hx λh1 Z B=>?_);have U:∀{b:Addr}{o:Obj},s.heap.get? b=some o->o.cls=.type "tuple" -> b≠it:=λ{b o} e q z=>by rw[z,j]at e;cases e;rw[TR]at q;exact absurd (jp q) (by decide)
   have Yq:∀{b:Addr}{o:Obj},s.heap.get? b=some o->o.cls=.type "tuple" -> b≠dd:=λ{b o} e q z=>by
    obtain⟨od,es,hod,hex,_⟩:=hd;rw[z,hod]at e;cases e;rw[hex.1]at q;exact absurd (jp q) (by decide)
   obtain⟨ot,Y,hct,nt,hdt⟩:=id Y7;have J:h1.get? t=some ot:=(B.2 t (U Y hct)).trans Y;have hT:({s with heap:=h1}:Shared).TypeIs (.ref t) "tuple" := ⟨_,J,hct⟩;show wpAny _ _ (holding [.ref t] _ >>= _) _ _ _;refine ac (eD ?_);refine ac (wpAny_tryCatch ?_);unfold Builtin.Dict.pairItems;refine ac (kc hT ?_);rw[bX (by decide)];refine ac (ff J hdt (al ?_));show wpAny _ _ (holding [.ref p.2.1,p.2.2] (dictSet dd (.ref p.2.1) p.2.2)) _ _ _;have Yr:EB (RY prog w) h1 dd kvs:=qJ hd λb o e q=>(B.2 b (q.elim (λz=>z▸nd.symm) λz=>U e z)).trans e;obtain⟨ok,DV,hck⟩:=Bk hk;have hk1:(RY prog w).is h1 p.1 p.2.1:=ul hk λb o e q=>(B.2 _ (U e q)).trans e;have hzl:kvs.length<=sizeLine:=by simp only[cv]at hz;omega
   refine eD (uE (kd:=RY prog w) ?_ hk1 Yr hzl λh2 hd2 O=>?_)
   ·exact hu
   refine al ⟨mM _ (by decide +kernel),?_⟩;have keep:∀b o,b≠dd->b≠it->s.heap.get? b=some o->h2.get? b=some o:=λb o n1 n2 e=>(O.2 b n1).trans ((B.2 b n2).trans e);have hls:(storedH kvs p.1 p.2.1 p.2.2).length<=kvs.length+1:=by
    unfold storedH;split<;>simp
   refine NB (items:=items) hA hu nd nl I L us (i+1) (storedH kvs p.1 p.2.1 p.2.2) _ ?_ ?_ ?_ ?_ hd2 ?_ λh3 tk Ze k3=>?_
   ·rw[←List.drop_drop,hr];rfl
   ·have go:∀{L:List (List DF×Addr×Value)}{us:re},Paired (qK prog w s.heap) L us->Paired (qK prog w h2) L us:=by
     intro L us M;induction M with
     |nil=>exact .nil
     |cons a _ ih=>
      obtain⟨t1,e1,⟨o1,q1,q2,q4⟩,q3⟩:=a;obtain⟨o2,g1,g2⟩:=Bk q3;exact .cons ⟨t1,e1,⟨o1,keep t1 o1 (Yq q1 q2) (U q1 q2) q1,q2,q4⟩,ul q3 λb o e q=>keep _ o (Yq e q) (U e q) e⟩ ih
    exact go M
   ·obtain⟨oi,j,TR,hdi⟩:=Z
    exact⟨oi,(O.2 it nd).trans j,TR,hdi⟩
   ·obtain⟨ol,hol,hcl,nl',hdl⟩:=hl
    exact⟨ol,keep l ol nl I hol,hcl,nl',hdl⟩
   ·simp only[cv]at hz;omega
   ·exact hR h3 tk Ze λb o n1 n2 e=>k3 b o n1 n2 (keep b o n1 n2 e)
def GJ{l:Addr}{B:re}{n:Nat}{L:List (List DF×Addr×Value)}{Q:gV}(hA:A.handled=none)(hu:A.units+9<cLine)(Y:s.heap.get? l=some {cls:=.type "tuple",data:=.seq B.toArray n,slots:=sl})(U:Paired (qK prog w s.heap) L B)(hz:L.length<=sizeLine)
  (hq:∀h' Z,EB (RY prog w) h' s.heap.objs.size (L.foldl (λM kv=>storedH M kv.1 kv.2.1 kv.2.2) [])->(∀b o,s.heap.get? b=some o->h'.get? b=some o)->Q (.ref s.heap.objs.size) {s with heap:=h',toks:=Z}):
  wpAny (model prog w) A (call (.type "dict") [.ref l]) Q E s:=by
 refine callType_codes (Q₁:=λobj EZ=>obj=.ref s.heap.objs.size/\EZ={s with heap:=s.heap.push {cls:=.type "dict",data:=.dict #[]}}) F.kt_called_dict (F.kt_typeCall_dict_1 _) F.entry_dict_init (kt_code_dict_new _ ⟨rfl,rfl⟩) ?_;rintro obj EZ ⟨rfl,rfl⟩;have O:=Jq (prog:=prog) (w:=w) s.heap;have ty:({s with heap:=s.heap.push {cls:=.type "dict",data:=.dict #[]}}:Shared).TypeIs (.ref s.heap.objs.size) "dict" := O.of.typeIs;refine⟨ty,F.args_dict_init_2 _ _,?_⟩;have J:(s.heap.push {cls:=.type "dict",data:=.dict #[]}).get? l=some {cls:=.type "tuple",data:=.seq B.toArray n,slots:=sl}:=ae _ Y;unfold Builtin.«dict.__init__»;refine ac ?_;unfold Builtin.Dict.selfAndRest;refine ac (kU ty ?_);show wpAny _ _ (pure (s.heap.objs.size,[Value.ref l])) _ _ _;refine al ?_;show wpAny _ _ (Builtin.Dict.updateFrom "dict.__init__" s.heap.objs.size (.ref l) [] .none) _ _ _;unfold Builtin.Dict.updateFrom;refine ac (kc (T := "tuple") ⟨_,J,rfl⟩ ?_);rw[bX (by decide)];refine ac (P_ J hA λh2 tk2 k2=>?_);rw[bX (show(none:Option Value).isNone=true from rfl)];refine ac (i6 ?_);have OQ:h2.IsTuple l B.toArray:=⟨_,k2 _ _ J,rfl,n,rfl⟩;refine ac (eW OQ ?_);refine al ⟨mM _ (by decide +kernel),?_⟩;have I:s.heap.objs.size<h2.objs.size:=by
  obtain⟨o,es,ho,_⟩:=O;exact ar (k2 _ _ ho)
 have k3:∀b o,h2.get? b=some o->(h2.push {cls:=.type "tuple_iterator",data:=.fields #[.ref l,.int 0 0]}).get? b=some o:=λb o e=>ae _ e;have k0:∀b o,s.heap.get? b=some o->(h2.push {cls:=.type "tuple_iterator",data:=.fields #[.ref l,.int 0 0]}).get? b=some o:=λb o e=>k3 b o (k2 b o (ae _ e));have j:∀b o,s.heap.get? b=some o->b≠s.heap.objs.size/\b≠h2.objs.size:=λb o e=>by
  have:=ar e;exact⟨bP this,bP (l6 this I)⟩
 refine NB (A:=A.in1) (items:=B.toArray) (show A.in1.handled=none from hA) (by rw[in1_units,in1_units];omega) (dy I) (j l _ Y).1 (j l _ Y).2 L B 0 [] _ (by simp) ?_ ?_ ?_ ?_ (by simpa using hz) λh4 Z hd4 k4=>?_
 ·have go:∀{L:List (List DF×Addr×Value)}{us:re},Paired (qK prog w s.heap) L us->Paired (qK prog w (h2.push {cls:=.type "tuple_iterator",data:=.fields #[.ref l,.int 0 0]})) L us:=by
   intro L us U;induction U with
   |nil=>exact .nil
   |cons a _ ih=>
    obtain⟨t1,e1,⟨o1,q1,q2⟩,q3⟩:=a;exact .cons ⟨t1,e1,⟨o1,k0 t1 o1 q1,q2⟩,ul q3 λb o e q=>k0 _ o e⟩ ih
  exact go U
 ·exact⟨_,av _ rfl,rfl,rfl⟩
 ·obtain⟨ol,hol,r⟩:=OQ
  exact⟨ol,k3 _ _ hol,r⟩
 ·exact qJ O λb o e _=>k3 b o (k2 b o e)
 ·exact⟨rfl,hq h4 Z hd4 λb o e=>k4 b o (j b o e).1 (j b o e).2 (k0 b o e)⟩
end
def yQ{X:Cx}(hc:X.calm=true)(hu:X.A.units+9<cLine):EE X (.type "dict") (λxs H Q=>∃p B kvs,xs=[.ref p]/\(H p=some (.tup B)\/LF X.K p B)/\Kx X.K H B kvs/\kvs.length<=1000000/\∀l,H l=none->Q (.ref l) (upd H l (.dT (iQ [] kvs)))):=by
 intro DE s EK H xs us Q I r h;obtain⟨p,B,kvs,rfl,U,Lu,hz,q⟩:=h;obtain⟨u,rfl,rx⟩:=vals1 r;cases rx;obtain⟨j,n,sl,O,ho⟩:∃(j:re) (n:Nat) (sl:Array (Option Value)),Vals B j/\s.heap.get? p=some {cls:=.type "tuple",dict:=none,data:=.seq j.toArray n,slots:=sl}:=by
  rcases U with U|⟨⟨c,dd,da,sl⟩,j,n,h1,h2,M,⟨_,J⟩,O⟩
  ·obtain⟨_,j,O,⟨c,dd,da,sl⟩,h1,h2,n,M,J⟩:=(show DZ X.prog X.w X.K H s.heap p (.tup B)from I.DV p _ U)
   simp only at h2 M J;subst h2 M J;exact⟨j,n,sl,O,h1⟩
  ·simp only at h2 M J
   subst h2 M J;exact⟨j.toList,n,sl,O,by simpa using I.HI _ _ h1⟩
 obtain⟨rs,h1,h2⟩:=yH I.HI I.DV Lu O;have hl:rs.length<=sizeLine:=by rw[←iO h1];exact gg (cg hz)
 refine GJ (I.ok.hd hc) hu ho h2 hl λh' tk hd hk=>?_;have Z:(s.heap.objs.size == sysModules)=false:=by
  have:=modules_low I.nolimit;rw[fb];exact dy this
 have kt:KT X.K H (iQ [] kvs) _:=KT.merge h1 .nil;have lm:=rA kvs [];have hn:=I.DV.fresh (ax s.heap.objs.size);have Y:=kt.keeps (H':=upd H s.heap.objs.size (.dT (iQ [] kvs))) λb ys e=>by rw[az (au e hn)];exact e
 obtain⟨o,es,o1,o2,o3,o4,o5,o6⟩:=hd;refine⟨.ref s.heap.objs.size,_,I.laid (t':=tk) hk (ax _) (show DZ X.prog X.w X.K _ h' _ (.dT (iQ [] kvs))from⟨?_,Z,_,Y,o,es,_,o1,o2,o3,o4,o6,rfl⟩),rfl,q _ hn⟩;have:(1000000:Nat)<=sizeLine:=by decide
 simp only[gs]at lm;omega
end Lake.L2
namespace Lake.MR
open PySem L2 PyProof.Rows PySem.Spec
noncomputable def dctP:PV->Option PV
 |.tup xs=>(sU xs).bind λl=>if l.length<=1000000 then some (.dT (wu l []))else none
 |_=>none
@[simp] def Wa(xs:sv):dctP (.tup xs)=((sU xs).bind λl=>if l.length<=1000000 then some (.dT (wu l []))else none):=id rfl
section
variable {X:Cx}{b:BX}{G:oT}{m1:Md}{e e1 e2:Expr}{f f1 f2:sf}{p pos:Pos}
set_option tactic.hygienic true in def Ma{k:Nat}(hr:Ee k X.A)(hm:X.mg "dict" = none)(h:SE X b G m1 e f)(I:autoParam (X.calm=true) r0_)(O:autoParam (X.K=b.C.K) r0_)(hg:Gl X "dict" := by rfl)(M:autoParam (bootBuiltins "dict" = some (.type "dict")) r2_)(he:autoParam (GB X e []) r0_):SE X b G .own (.Call (.Name "dict" p) [e] [] pos) (b1 dctP f):=by
 have U:X.A.units+9<cLine:=gv (qc (by decide:9<=64) _) hr.units;refine pM (yQ I U) (λOw H v1 p1 p Q hn J e k=>?_) hm M h hg (by decide) (by decide) he;cases p1 with
 |tup xs=>
  unfold dctP at e;obtain⟨l,Y,e⟩:=aC e;split at e
  ·rename_i hz
   cases e;obtain⟨a,vs,rfl,ha,Z⟩:=J.tup;obtain⟨kvs,h1,h2⟩:=yI Z Y;rw[O];refine⟨a,vs,kvs,rfl,ha,h1,by rw[h2.length];exact hz,λd j=>k _ _ (aG j _) ⟨d,rfl,j,iQ [] kvs,aq,(ww h2 .nil).ex λc o e=>?_⟩⟩;have B:c≠d:=au e j;exact⟨λq=>⟨by rw[az B];exact e,q,B⟩,λ_=>by rw[az B];exact e⟩
  ·cases e
 |_=>cases e
end
noncomputable def dw(n:rL):List DF:=n.map λi=>.k (.inl i)
theorem yJ(f:PV->Option DF)(j:∀i,f (.int i)=some (.k (.inl i))):∀n:List Int,uN f (n.map PV.int)=some (dw n)
 |[]=>rfl
 |i::n=>by
  show(f (.int i)).bind _=_;rw[j,bE,yJ f j n];rfl
set_option tactic.hygienic true in def qL(n:rL):EG (n.map PV.int)=some (dw n):=by
 unfold EG jy;split
 ·rename_i e
  match n,e with
  |[],e=>cases e
  |[_],e=>cases e
  |_::_::_,e=>injection e with e1 _;cases e1
 ·exact yJ _ (λi=>rfl) n
structure FS where
 ws:List WS
 JE:List (List DF×PV)
 later:List (List Int)
noncomputable def GK(cn:Nat)(io so ro:sg)(node:rL)(x:PV×List Int)(st:FS):Option (FS ⊕ PV):=match aV st.JE (dw x.2)with
 |some _=>some (.inl st)
 |none=>match st.ws,x.2 with
  |w0::_,k::_=>(io [w0.pv cn,.int k]).bind λo=>match o with
   |.bl true=>some (.inl st)
   |.bl false=>if st.JE.length<1000000/\st.later.length<1000000 then
     (so [.lst (st.ws.map λw=>w.pv cn),IM x.2]).bind λs=>match s with
      |.bl true=>(ro [.dT (cT st.JE (dw x.2) (.tup [IM node,x.1])),IM x.2]).bind λv=>some (.inr v)
      |.bl false=>some (.inl {st with JE:=cT st.JE (dw x.2) (.tup [IM node,x.1]),later:=st.later++[x.2]})
      |_=>none
    else none
   |_=>none
  |_,_=>none
structure FI(C:MC)(cn:Nat)(cs:List WC)(wl da lb:Addr)(H0:Hp)(F:se)(H:Hp)(st:FS):Prop where
 W:Lv C cn F H cs st.ws
 IE:H wl=some (.lst (cs.map λc=>V.ref c.a))
 HC:∃kv,H da=some (.dT kv)/\D7 C (λ_=>False) H kv st.JE
 MV:∃vs,H lb=some (.lst vs)/\DI C (λ_=>False) H vs (st.later.map IM)
 dm:∀b,F b->∃o,H b=some o
 nF:¬ F wl/\¬ F da/\¬ F lb
 RU:∀c∈cs,wl≠c.lp
 XI:∀c∈cs,da≠c.a/\da≠c.ah/\da≠c.lp/\da≠c.ln/\da≠c.lo
 Sa:∀c∈cs,lb≠c.a/\lb≠c.ah/\lb≠c.lp/\lb≠c.ln/\lb≠c.lo
 wlb:wl≠lb
 new:H0 da=none/\H0 lb=none
 kp:EI cs H0 H
variable {H:Hp}{F:se}
def mC{H':Hp}(h:∀x o,H x=some o->iU o=false->H' x=some o):Ex (λ_=>False) H F H':=λx o e=>⟨λz=>z.elim,λm=>h x o e m⟩
def FI.same{C:MC}{cn:Nat}{cs:List WC}{J j B:Addr}{H0 H H':Hp}{F:se}{st:FS}(I:FI C cn cs J j B H0 F H st)(s:DH H H'):FI C cn cs J j B H0 F H' st where
 W:=I.W.same s
 IE:=s _ _ I.IE
 HC:=let ⟨kv,e,r⟩:=I.HC;⟨kv,s _ _ e,r.ex (.of_same s)⟩
 MV:=let ⟨kv,e,r⟩:=I.MV;⟨kv,s _ _ e,r.ex (.of_same s)⟩
 dm:=λb f=>let ⟨o,e⟩:=I.dm b f;⟨o,s b o e⟩
 nF:=I.nF
 RU:=I.RU
 XI:=I.XI
 Sa:=I.Sa
 wlb:=I.wlb
 new:=I.new
 kp:=λx o e n=>s x o (I.kp x o e n)
def Lv.rep{C:MC}{cn:Nat}{F:se}{H:Hp}{cs:List WC}{ws:List WS}(W:Lv C cn F H cs ws):DI C (λ_=>True) H (cs.map λc=>V.ref c.a) (ws.map λw=>w.pv cn):=by
 have h:∀(cs:List WC) (ws:List WS),cs.length=ws.length->(∀(i:Nat) (c:WC) (w:WS),cs[i]?=some c->ws[i]?=some w->c.n=cn/\WR C F H c w)->DI C (λ_=>True) H (cs.map λc=>V.ref c.a) (ws.map λw=>w.pv cn):=by
  intro cs;induction cs with
  |nil=>
   intro ws l _;cases ws with
   |nil=>exact .nil
   |cons w ws=>cases l
  |cons c cs B=>
   intro ws l a;cases ws with
   |nil=>cases l
   |cons w ws=>
    obtain⟨e,j⟩:=a 0 c w rfl rfl;refine .cons ?_ (B ws (by simpa using l) λi c w h1 h2=>a (i+1) c w (by simpa using h1) (by simpa using h2));have:=j.rep;rw[e]at this;exact this.ex (bf λ_ _ _ _=>trivial)
 exact h cs ws W.len W.all
def NK(C:MC)(cn:Nat)(io:sg):TE:=l_ (C.cl cn) "is_over" (HA C io false) [] E0 (QO (uK C.K) (DM 0) (tC (.int 0))) (aL (QO (Fx C.K) (DM 8) (tC (.int 0))) bu)
def GQ(C:MC)(cn:Nat)(io so ro:sg)(fS:Addr):TS:=
 iC (J4 (tB (h_ C.K (DM 8) (DM 3))) (J5 (tB (NK C cn io))))
  (bG (mq C.K (DM 3) (DM 8) (qe (aL (DM 6) (aL (DM 7) bu))))
   (bG (kJ (Yc C.K "list" tW (DM 5) (aL (DM 8) bu)))
    (iC (tB (wj 1 fS (HA C so false) (aL (DM 0) (aL (DM 8) bu)))) (d9 (eZ (HA C ro false) [] E0 (aL (DM 3) (aL (DM 8) bu)))) gB)))
  gB
variable {C:MC}{cn:Nat}{cs:List WC}
def FI.grow{wl j B p b:Addr}{H0:Hp}{st:FS}{kd:List (List DF×V)}{U:sx}{Y O:rL}{sd:PV}{J M:V}(I:FI C cn cs wl j B H0 F H st)(Z:H j=some (.dT kd))(XJ:D7 C (λ_=>False) H kd st.JE)(MV:H B=some (.lst U))(Z3:DI C (λ_=>False) H U (st.later.map IM))(hp:H p=none)
  (rn:Rep C (λ_=>False) H J (IM Y)) (rd:Rep C (λ_=>False) H M sd) (rr:Rep C (λ_=>False) H (.ref b) (IM O)):
  FI C cn cs wl j B H0 F (upd (upd (upd H p (.tup [J,M])) j (.dT (putK kd (dw O) (.ref p)))) B (.lst (U++[.ref b]))) {st with JE:=cT st.JE (dw O) (.tup [IM Y,sd]),later:=st.later++[O]} /\
  (∀x o,H x=some o->iU o=false->upd (upd (upd H p (.tup [J,M])) j (.dT (putK kd (dw O) (.ref p)))) B (.lst (U++[.ref b])) x=some o) /\
  (∀x o,H x=some o->x≠j->x≠B->upd (upd (upd H p (.tup [J,M])) j (.dT (putK kd (dw O) (.ref p)))) B (.lst (U++[.ref b])) x=some o):=by
 have s1:=aG hp (.tup [J,M]);have Ys:p≠j:=(au Z hp).symm;have npl:p≠B:=(au MV hp).symm;have ndl:j≠B:=bW Z MV (λz=>nomatch z);have I1:=I.same s1;have XM:=s1 _ _ Z;have W2:Lv C cn F (upd (upd H p (.tup [J,M])) j (.dT (putK kd (dw O) (.ref p)))) cs st.ws:=I1.W.own XM rfl I.nF.2.1 I.XI;have hlb2:upd (upd H p (.tup [J,M])) j (.dT (putK kd (dw O) (.ref p))) B=some (.lst U):=by rw[az ndl.symm];exact s1 _ _ MV
 have W3:=W2.own (o:=.lst (U++[.ref b])) hlb2 rfl I.nF.2.2 I.Sa;have k3:∀x o,H x=some o->x≠j->x≠B->upd (upd (upd H p (.tup [J,M])) j (.dT (putK kd (dw O) (.ref p)))) B (.lst (U++[.ref b])) x=some o:=λx o e n1 n2=>by rw[az n2,az n1];exact s1 x o e
 have km:∀x o,H x=some o->iU o=false->upd (upd (upd H p (.tup [J,M])) j (.dT (putK kd (dw O) (.ref p)))) B (.lst (U++[.ref b])) x=some o:=λx o e m=>k3 x o e (λz=>by rw[z,Z]at e;cases e;cases m) λz=>by rw[z,MV]at e;cases e;cases m
 have ex:=mC (F:=λ_=>False) km;have hp3:upd (upd (upd H p (.tup [J,M])) j (.dT (putK kd (dw O) (.ref p)))) B (.lst (U++[.ref b])) p=some (.tup [J,M]):=by rw[az npl,az Ys,aq]
 refine⟨⟨W3,k3 _ _ I.IE (bW I.IE Z (λz=>nomatch z)) I.wlb,⟨_,by rw[az ndl,aq],D7.put (.tup hp3 (.cons (rn.ex ex) (.cons (rd.ex ex) .nil))) (XJ.ex ex)⟩,⟨_,aq,?_⟩,λx f=>?_,I.nF,I.RU,I.XI,I.Sa,I.wlb,I.new,λx o e n=>?_⟩,km,k3⟩
 ·rw[fk]
  exact(Z3.ex ex).append (.cons (rr.ex ex) .nil)
 ·obtain⟨o,e⟩:=I.dm x f
  exact⟨o,k3 x o e (λz=>I.nF.2.1 (z▸f)) (λz=>I.nF.2.2 (z▸f))⟩
 ·exact k3 x o (I.kp x o e n) (λz=>by rw[z,I.new.1]at e;cases e) λz=>by rw[z,I.new.2]at e;cases e
variable {out:FS ⊕ PV}
set_option tactic.hygienic true in def Mf{io so ro:sg}{fS wl B U la:Addr}{H0:Hp}{st:FS}{J Z:rL}{sd:PV}{vs vn vd vr:V}{D:Ends}(I:FI C cn cs wl B U H0 F H st)(rn:Rep C (λ_=>False) H vn (IM J))(rd:Rep C (λ_=>False) H vd sd)(rr:Rep C (λ_=>False) H vr (IM Z))
  (h:GK cn io so ro J (sd,Z) st=some out)
  (q1:∀H' GL,out=.inl GL->FI C cn cs wl B U H0 F H' GL->(∀x o,H x=some o->iU o=false->H' x=some o)->(∀x o,H x=some o->x≠B->x≠U->H' x=some o)->D.nx [some (.ref wl),some (.ref fS),some vs,some (.ref B),some (.ref la),some (.ref U),some vn,some vd,some vr] H')
  (q2:∀H' v p,out=.inr p->EI cs H0 H'->Rep C (λb=>H0 b=none) H' v p->D.rt v H'):
  GQ C cn io so ro fS D [some (.ref wl),some (.ref fS),some vs,some (.ref B),some (.ref la),some (.ref U),some vn,some vd,some vr] H:=by
 obtain⟨kd,HC,XJ⟩:=I.HC;obtain⟨lv,MV,Z3⟩:=I.MV;obtain⟨b,us,rfl,hb,rb⟩:=DO.tup (.inl rr);have ck:FV C.K H b (dw Z):=hb.key (rb.EG (qL Z));have eus:=sO rb;unfold GQ;dsimp only[iC,J4,tB,h_,J5,bG,mq,kJ,Yc,gB,d9,eZ,wj];refine⟨_,rfl,_,rfl,B,_,rfl,EN.t HC ck,_,rfl,?_⟩;unfold GK at h;dsimp only at h;rcases D7.val (k:=dw Z) XJ with⟨y,py,g1,g2,ry⟩|⟨g1,g2⟩
 ·have eL:aV st.JE (dw Z)=some py:=g2
  rw[eL]at h;cases h;rw[g1];exact jP (jP (q1 H st rfl I (λ_ _ e _=>e) λ_ _ e _ _=>e))
 ·have eL:aV st.JE (dw Z)=none:=g2
  rw[eL]at h;rw[g1];refine iD ?_;cases Zg:st.ws with
  |nil=>rw[Zg]at h;cases h
  |cons w0 wr=>
   cases Z with
   |nil=>rw[Zg]at h;cases h
   |cons k j=>
    rw[Zg]at h;obtain⟨o,ho,h⟩:=ai.mp h;obtain⟨M,cr,ecs⟩:∃M cr,cs=M::cr:=by
     have:=I.W.len;rw[Zg]at this;cases cs with
     |nil=>cases this
     |cons M cr=>exact⟨M,cr,rfl⟩
    obtain⟨Yo,W0⟩:=I.W.all 0 M w0 (by rw[ecs];rfl) (by rw[Zg];rfl);have XF:us=V.int k::j.map V.int:=eus;have i0:Fm (cs.map λc=>V.ref c.a) 0=some (.ref M.a):=by rw[ecs];simp[Fm,OL]
    have i1:Fm us 0=some (.int k):=by rw[XF];simp[Fm,OL]
    unfold NK;dsimp only[l_,QO,tC,aL,bu];refine⟨_,rfl,wl,_,0,_,rfl,rfl,EJ.of I.IE,i0,M.a,M.dx,_,rfl,by rw[←Yo];exact W0.ob,rfl,?_⟩;refine⟨_,rfl,b,us,0,_,rfl,rfl,hb.sq,i1,?_⟩;have r0:Rep C (λ_=>True) H (.ref M.a) (w0.pv cn):=by
     have:=W0.rep;rw[Yo]at this;exact this.ex (bf λ_ _ _ _=>trivial)
    refine⟨λ_=>True,[w0.pv cn,.int k],o,.cons r0 (.cons (.int _) .nil),ho,λv1 H1 O r1=>?_⟩;have NU:DO C _ H1 v1 o:=.inl r1;cases o<;>first|(cases h;done)|skip
    rename_i ob;refine⟨ob,NU.bl,?_⟩;have I1:=I.same O;cases ob with
    |true=>
     cases h;exact jP (q1 H1 st rfl I1 (λx o e _=>O x o e) λx o e _ _=>O x o e)
    |false=>
     refine iD ?_;dsimp only at h;split at h
     ·rename_i hz
      obtain⟨s,hs,h⟩:=ai.mp h;have XM:=O _ _ HC;have Y:=O _ _ MV;have Zh:Ex (λ_=>False) H (λ_=>False) H1:=.of_same O;refine⟨_,rfl,_,rfl,by show(2:Nat)<=sizeLine;decide,λp hp=>?_⟩;have ck1:FV C.K H1 b (dw (k::j)):=ck.keeps λx ys e=>O _ _ e;have sp:=aG hp (.tup [vn,vd]);have ck2:FV C.K (upd H1 p (.tup [vn,vd])) b (dw (k::j)):=ck1.keeps λx ys e=>sp _ _ e;refine⟨_,rfl,_,rfl,B,_,rfl,LJ.t (sp _ _ XM) ck2 (cg (by rw[XJ.length];omega)),?_⟩;obtain⟨I4,km,k4⟩:=I1.grow XM (XJ.ex Zh) Y (Z3.ex Zh) hp (rn.ex Zh) (rd.ex Zh) (rr.ex Zh);have ndl:B≠U:=bW HC MV (λz=>nomatch z);have hl3:upd (upd H1 p (.tup [vn,vd])) B (.dT (putK kd (dw (k::j)) (.ref p))) U=some (.lst lv):=by rw[az ndl.symm];exact sp _ _ Y
      refine⟨_,rfl,.inl ⟨rfl,lv,EJ.of hl3⟩,_,rfl,U,lv,.ref b,rfl,rfl,hl3,cg (by have:=Z3.length;rw[ay]at this;omega),?_⟩;refine⟨rfl,_,rfl,_,rfl,?_⟩;have rr4:=(rr.ex Zh).ex (mC (F:=λ_=>True) km);refine⟨λ_=>True,[.lst (st.ws.map λw=>w.pv cn),IM (k::j)],s,.cons (.lst I4.IE trivial I4.W.rep) (.cons rr4 .nil),by rw[Zg];exact hs,λv5 H5 s5 r5=>?_⟩;have r5':DO C _ H5 v5 s:=.inl r5;cases s<;>first|(cases h;done)|skip
      rename_i sb;refine⟨sb,r5'.bl,?_⟩;have I5:=I4.same s5;cases sb with
      |true=>
       refine iD ?_;obtain⟨pv,hro,h⟩:=ai.mp h;cases h;obtain⟨kd5,hd5,rd5⟩:=I5.HC;refine⟨_,rfl,_,rfl,?_⟩;refine⟨λc=>c=B,[.dT (cT st.JE (dw (k::j)) (.tup [IM J,sd])),IM (k::j)],pv,.cons (.dT hd5 rfl (rd5.ex (bf λ_ _ _ z=>z.elim))) (.cons (((rr.ex Zh).ex (mC (F:=λ_=>False) km)).ex (mC λx o e m=>s5 x o e)) .nil),hro,λv H6 s6 r6=>?_⟩;refine q2 H6 v pv rfl (λx o e n=>s6 x o (I5.kp x o e n)) ?_;exact(show Rep C (λc=>c=B\/H5 c=none) H6 v pv from r6).ex (bf λx o _ z=>z.elim (λe=>by rw[e];exact I.new.1) λe=>I5.kp.Z2 I5.W e)
      |false=>
       cases h;exact jP (q1 H5 _ (by rw[Zg]) I5 (λx o e m=>s5 x o (km x o (O x o e) m)) λx o e n1 n2=>s5 x o (k4 x o (O x o e) n1 n2))
     ·cases h
noncomputable def GR(cn:Nat)(io so ro:sg)(node:rL):List (PV×List Int)->FS->Option (FS ⊕ PV)
 |[],st=>some (.inl st)
 |x::xs,st=>(GK cn io so ro node x st).bind λo=>match o with
  |.inl GL=>GR cn io so ro node xs GL
  |.inr v=>some (.inr v)
noncomputable def Bm(pb:sg)(cn:Nat)(S:sv)(io so ro:sg):List (List Int)->FS->Option (FS ⊕ PV)
 |[],st=>some (.inl st)
 |n::ns,st=>(nbW pb cn S st.ws n).bind λr=>(GR cn io so ro n (S.zip r.1) {st with ws:=r.2}).bind λo=>match o with
  |.inl GL=>Bm pb cn S io so ro ns GL
  |.inr v=>some (.inr v)
noncomputable def Bo(pb:sg)(cn:Nat)(S:sv)(io so ro:sg):Nat->List (List Int)->FS->Option PV
 |0,_,_=>none
 |_+1,[],_=>some .DS
 |f+1,n::ns,st=>(Bm pb cn S io so ro (n::ns) {st with later:=[]}).bind λo=>match o with
  |.inl GL=>Bo pb cn S io so ro f GL.later GL
  |.inr v=>some v
noncomputable def frW(pb:sg)(cn:Nat)(S:sv)(io so ro:sg)(ws:List WS):Option PV:=
 Bo pb cn S io so ro 1000 [List.replicate ws.length 0] {ws:=ws,JE:=[(dw (List.replicate ws.length 0),.DS)],later:=[List.replicate ws.length 0]}
section
variable {C:MC}{cn:Nat}{cs:List WC}{wl da lb:Addr}{H0 H H1:Hp}{F F1:se}{st:FS}{MB:List WS}
def FI.walk(I:FI C cn cs wl da lb H0 F H st)(kp:EI cs H H1)(U:L9 F F1 H)(W:Lv C cn F1 H1 cs MB)(Y:∀b,F1 b->∃o,H1 b=some o):FI C cn cs wl da lb H0 F1 H1 {st with ws:=MB}:=by
 have ex:=mC (H:=H) (H':=H1) (F:=λ_=>False) λx o e m=>kp.tup I.W e m;obtain⟨kd,HC,O⟩:=I.HC;obtain⟨J,MV,M⟩:=I.MV;have B:∀x o,H x=some o->¬ F x->¬ F1 x:=λx o e n z=>(U.2 x z).elim n λq=>by rw[q]at e;cases e
 exact⟨W,kp.lst I.W I.IE I.RU,⟨kd,kp da _ HC λc j=>⟨(I.XI c j).2.2.1,(I.XI c j).2.2.2.1,(I.XI c j).2.2.2.2⟩,O.ex ex⟩,⟨J,kp lb _ MV λc j=>⟨(I.Sa c j).2.2.1,(I.Sa c j).2.2.2.1,(I.Sa c j).2.2.2.2⟩,M.ex ex⟩,Y,
  ⟨B _ _ I.IE I.nF.1,B _ _ HC I.nF.2.1,B _ _ MV I.nF.2.2⟩,I.RU,I.XI,I.Sa,I.wlb,I.new,I.kp.trans kp⟩
end
def Bp(C:MC)(cn:Nat)(pb:sg)(S:sv)(io so ro:sg)(fS aS:Addr):TS:=
 uI (zu C.K .T .L (aL (tC (.ref aS)) (aL (eZ (Bg C cn pb S) [] E0 (aL (DM 0) (aL (DM 6) bu))) bu))) (QN C.K 2 (IU (aW 7) (IU (aW 8) zL))) (GQ C cn io so ro fS)
def Vd{A:se}{v:V}{n:rL}(r:Rep C A H v (IM n)):Rep C (λ_=>False) H v (IM n):=Ef r (qL n)
variable {nodes:List (List Int)}
def Jr{pb:sg}{S:sv}{io so ro:sg}{fS aS wl da lb la:Addr}{H0:Hp}{st:FS}{B:rL}{vs U:V}{x7 x8:Option V}{MB:List WS}{D:Ends}(hS:sJ C aS S)(ne:cs≠[])(hz:cs.length<=1000)(T:WT C.K (C.cl cn))(I:FI C cn cs wl da lb H0 F H st)(rn:Rep C (λ_=>False) H U (IM B))
  (hnb:nbW pb cn S st.ws B=some (nodes,MB)) (h:GR cn io so ro B (S.zip nodes) {st with ws:=MB}=some out)
  (q1:∀H' F' GL y7 y8,out=.inl GL->FI C cn cs wl da lb H0 F' H' GL->(∀x o,H x=some o->iU o=false->H' x=some o)->(∀x xs,H x=some (.lst xs)->(∀c∈cs,x≠c.lp)->x≠lb->H' x=some (.lst xs))->D.nx [some (.ref wl),some (.ref fS),some vs,some (.ref da),some (.ref la),some (.ref lb),some U,y7,y8] H')
  (q2:∀H' v p,out=.inr p->EI cs H0 H'->Rep C (λb=>H0 b=none) H' v p->D.rt v H'):
  Bp C cn pb S io so ro fS aS D [some (.ref wl),some (.ref fS),some vs,some (.ref da),some (.ref la),some (.ref lb),some U,x7,x8] H:=by
 obtain⟨us,XF,Zc⟩:=hS;have oX:us.length=S.length:=(Zc F H).length;have nl:nodes.length=S.length:=by
  obtain⟨r,_,h2⟩:=ai.mp hnb;obtain⟨rows,_,h3⟩:=ai.mp h2;cases h3;simp
 unfold Bp;refine⟨_,rfl,_,rfl,?_⟩;refine⟨F,cs,st.ws,B,nodes,MB,wl,U,rfl,ne,T,I.W,I.IE,I.nF.1,I.RU,hz,rn.ex (bf λ_ _ _ z=>z.elim),hnb,λH1 F1 l MQ k1 g1 W1 hl nl1 Sr r1=>?_⟩;refine⟨aS,l,rfl,⟨us,mW XF⟩,⟨MQ,EJ.of Sr⟩,?_⟩;obtain⟨c0,hc0⟩:=kg _ ne;obtain⟨i0,Y⟩:=d0.mp hc0;have dm1:∀b,F1 b->∃o,H1 b=some o:=(W1.all i0 c0 _ Y (aw (by rw[←W1.len];exact(ap.mp Y).1))).2.dm;have I1:=I.walk k1 g1 W1 dm1;obtain⟨kd,HC,_⟩:=I.HC;obtain⟨lv,MV,_⟩:=I.MV;have nld:l≠da:=(au HC hl).symm;have Sa:l≠lb:=(au MV hl).symm;have lv':MQ.length=nodes.length:=by have:=r1.length;simpa using this
 refine Lz (K:=C.K) (k1:=.T) (k2:=.L) (a:=aS) (b:=l) (xs:=us) (ys:=MQ) (by omega) (λj EK J=>∃y7 y8 O,EK=[some (.ref wl),some (.ref fS),some vs,some (.ref da),some (.ref la),some (.ref lb),some U,y7,y8]/\FI C cn cs wl da lb H0 F1 J O/\GR cn io so ro B ((S.zip nodes).drop j) O=some out/\(∀x o,H1 x=some o->iU o=false->J x=some o)/\∀x o,H1 x=some o->x≠da->x≠lb->J x=some o)
  ⟨x7,x8,_,rfl,I1,h,λ_ _ e _=>e,λ_ _ e _ _=>e⟩ (λj EK J _ ⟨y7,y8,O,_,Ij,_,_,kj⟩=>⟨mW XF,EJ.of (kj _ _ Sr nld Sa)⟩) (λj x y EK J hx hy ⟨y7,y8,O,e,Ij,M,Z,kj⟩ t ht=>?_) (fun EK J ⟨y7,y8,O,e,Ij,M,Z,kj⟩=>?_)
 ·subst e
  have hj1:j<us.length:=(ap.mp hx).1;have hs:S[j]?=some (S[j]'(by omega)):=aw (by omega);have hn:nodes[j]?=some (nodes[j]'(by omega)):=aw (by omega);have PZ:(S.zip nodes).drop j=(S[j]'(by omega),nodes[j]'(by omega))::(S.zip nodes).drop (j+1):=by
   rw[cq (by simp;omega)];simp
  generalize S[j]'(by omega)=sd at hs PZ;generalize nodes[j]'(by omega)=rc at hn PZ;rw[PZ]at M;obtain⟨o,ho,M⟩:=ai.mp (show((GK cn io so ro B (sd,rc) O).bind _)=_ from M);have s1:=aG ht (.tup [x,y]);refine⟨t,[x,y],rfl,F0.of aq,rfl,x,[y],rfl,?_⟩;refine⟨y,[],rfl,rfl,?_⟩;have rd:Rep C (λ_=>False) (upd J t (.tup [x,y])) x sd:=by
   obtain⟨p,e,r⟩:=(Zc (λ_=>False) (upd J t (.tup [x,y]))).get' hx;rw[hs]at e;cases e;exact r
  have rr:Rep C (λ_=>False) (upd J t (.tup [x,y])) y (IM rc):=by
   obtain⟨p,e,r⟩:=r1.get' hy;rw[cp,hn]at e;cases e;exact((Vd r).ex (mC (F:=λ_=>False) Z)).ex (.of_same s1)
  have rn':Rep C (λ_=>False) (upd J t (.tup [x,y])) U (IM B):=((rn.ex (mC (F:=λ_=>False) λx o e m=>k1.tup I.W e m)).ex (mC (F:=λ_=>False) Z)).ex (.of_same s1);refine Mf (Ij.same s1) rn' rd rr ho (λH' GL e I' m' k'=>?_) (λH' v p e kp rp=>?_)
  ·subst e
   exact⟨some x,some y,GL,rfl,I',M,λz o e m=>m' z o (s1 z o (Z z o e m)) m,λz o e n1 n2=>k' z o (s1 z o (kj z o e n1 n2)) n1 n2⟩
  ·subst e
   cases M;exact q2 H' v p rfl kp rp
 ·subst e
  have PZ:(S.zip nodes).drop us.length=[]:=by rw[lj];simp;omega
  rw[PZ]at M;cases M;refine q1 J F1 O y7 y8 rfl Ij (λx o e m=>Z x o (k1.tup I.W e m) m) λx xs e n1 n2=>?_;exact kj x _ (k1.lst I.W e n1) (λz=>by rw[z,HC]at e;cases e) n2
def Sy(C:MC)(cn:Nat)(pb:sg)(S:sv)(io so ro:sg)(fS aS:Addr):TS:=uI (vD C.K (DM 4)) (aW 6) (Bp C cn pb S io so ro fS aS)
def Qa{pb:sg}{S:sv}{io so ro:sg}{fS aS wl da lb B:Addr}{H0:Hp}{st:FS}{M:sx}{vs:V}{x6 x7 x8:Option V}{D:Ends}(hS:sJ C aS S)(ne:cs≠[])(hz:cs.length<=1000)(T:WT C.K (C.cl cn))(I:FI C cn cs wl da lb H0 F H st)
  (OB:H B=some (.lst M)) (Z:DI C (λ_=>False) H M (nodes.map IM)) (nla:∀c∈cs,B≠c.lp) (Sa:B≠lb) (h:Bm pb cn S io so ro nodes st=some out)
  (q1:∀H' F' GL Y y7 y8,out=.inl GL->FI C cn cs wl da lb H0 F' H' GL->D.nx [some (.ref wl),some (.ref fS),some vs,some (.ref da),some (.ref B),some (.ref lb),Y,y7,y8] H')
  (q2:∀H' v p,out=.inr p->EI cs H0 H'->Rep C (λb=>H0 b=none) H' v p->D.rt v H'):
  Sy C cn pb S io so ro fS aS D [some (.ref wl),some (.ref fS),some vs,some (.ref da),some (.ref B),some (.ref lb),x6,x7,x8] H:=by
 refine⟨_,rfl,B,rfl,⟨M,EJ.of OB⟩,?_⟩;have ln:M.length=nodes.length:=by have:=Z.length;simpa using this
 refine zP (K:=C.K) (a:=B) (xs:=M) (λj EK O=>∃Y y7 y8 U Fj,EK=[some (.ref wl),some (.ref fS),some vs,some (.ref da),some (.ref B),some (.ref lb),Y,y7,y8]/\FI C cn cs wl da lb H0 Fj O U/\Bm pb cn S io so ro (nodes.drop j) U=some out/\(∀x o,H x=some o->iU o=false->O x=some o)/\O B=some (.lst M))
  ⟨x6,x7,x8,st,F,rfl,I,h,λ_ _ e _=>e,OB⟩ (λj EK O _ ⟨_,_,_,_,_,_,_,_,_,e⟩=>EJ.of e) (λj x EK O hx ⟨Y,y7,y8,U,Fj,e,Ij,J,mj,laj⟩=>?_) (fun EK O ⟨Y,y7,y8,U,Fj,e,Ij,J,mj,laj⟩=>?_)
 ·subst e
  have hj1:j<M.length:=(ap.mp hx).1;have hn:nodes[j]?=some (nodes[j]'(by omega)):=aw (by omega);have PZ:nodes.drop j=nodes[j]'(by omega)::nodes.drop (j+1):=cq (by omega);generalize nodes[j]'(by omega)=n at hn PZ;rw[PZ]at J;obtain⟨⟨nds,ws2⟩,hnb,J⟩:=ai.mp (show((nbW pb cn S U.ws n).bind _)=_ from J);obtain⟨o,ho,J⟩:=ai.mp J;have rn:Rep C (λ_=>False) O x (IM n):=by
   obtain⟨p,e,r⟩:=Z.get' hx;rw[cp,hn]at e;cases e;exact r.ex (mC mj)
  refine Jr hS ne hz T Ij rn hnb ho (λH' F' GL z7 z8 e I' m' k'=>?_) (λH' v p e kp rp=>?_)
  ·subst e
   exact⟨some x,z7,z8,GL,F',rfl,I',J,λy o e m=>m' y o (mj y o e m) m,k' B M laj nla Sa⟩
  ·subst e
   cases J;exact q2 H' v p rfl kp rp
 ·subst e
  have PZ:nodes.drop M.length=[]:=by rw[lj];omega
  rw[PZ]at J;cases J;exact q1 O Fj U Y y7 y8 rfl Ij
def FI.fresh{wl da B lb:Addr}{H0:Hp}{st:FS}(I:FI C cn cs wl da B H0 F H st)(j:H lb=none):FI C cn cs wl da lb H0 F (upd H lb (.lst [])) {st with later:=[]}:=by
 have s:=aG j (.lst []);obtain⟨kd,HC,J⟩:=I.HC;exact⟨I.W.same s,s _ _ I.IE,⟨kd,s _ _ HC,J.ex (.of_same s)⟩,⟨[],aq,.nil⟩,λb f=>(let ⟨o,e⟩:=I.dm b f;⟨o,s b o e⟩),⟨I.nF.1,I.nF.2.1,λf=>by obtain⟨o,e⟩:=I.dm lb f;rw[j]at e;cases e⟩,I.RU,I.XI,I.W.nc j,au I.IE j,⟨I.new.1,I.kp.Z2 I.W j⟩,λx o e n=>s x o (I.kp x o e n)⟩
def tWh(C:MC)(cn:Nat)(pb:sg)(S:sv)(io so ro:sg)(fS aS:Addr):TS:=
 Hv (tB (tGt (X9 (Gy C.K) (aL (DM 4) bu)) (tC (.int 0)))) (bG (cG (mQ bu) (aW 5)) (bG (Sy C cn pb S io so ro fS aS) (cG (DM 5) (aW 4))))
def SJ{J:sg}{S:sv}{U O ro:sg}{Y aS wl da j:Addr}{H0:Hp}{st:FS}{vs:V}{x5 x6 x7 x8:Option V}{out:PV}{fuel:Nat}{D:Ends}(hS:sJ C aS S)(ne:cs≠[])(hz:cs.length<=1000)(T:WT C.K (C.cl cn))(I:FI C cn cs wl da j H0 F H st)(h:Bo J cn S U O ro fuel st.later st=some out)
  (q1:∀ EK H',out=.DS->EI cs H0 H'->D.nx EK H')
  (q2:∀H' v,EI cs H0 H'->Rep C (λb=>H0 b=none) H' v out->D.rt v H'):
  tWh C cn J S U O ro Y aS D [some (.ref wl),some (.ref Y),some vs,some (.ref da),some (.ref j),x5,x6,x7,x8] H:=by
 refine⟨λm EK H=>∃j x5 x6 x7 x8 F st,EK=[some (.ref wl),some (.ref Y),some vs,some (.ref da),some (.ref j),x5,x6,x7,x8]/\FI C cn cs wl da j H0 F H st/\Bo J cn S U O ro m st.later st=some out,⟨fuel,j,x5,x6,x7,x8,F,st,rfl,I,h⟩,?_⟩;rintro m EK H ⟨j,x5,x6,x7,x8,F,st,rfl,I,h⟩;obtain⟨B,OB,M⟩:=I.MV;have Z:B.length=st.later.length:=by have:=M.length;simpa using this
 cases m with
 |zero=>cases h
 |succ f=>
  refine⟨_,rfl,j,B,rfl,.inl (EJ.of OB),_,_,rfl,rfl,_,rfl,?_⟩;cases hl:st.later with
  |nil=>
   rw[hl]at h Z;cases h;have e:decide ((0:Int)<(B.length:Nat))=false:=by rw[Z];rfl
   exact(bt (λx=>bi (e.symm.trans x))).mpr (q1 _ H rfl I.kp)
  |cons n ns=>
   rw[hl]at h Z;have e:decide ((0:Int)<(B.length:Nat))=true:=by
    have:B.length=ns.length+1:=Z;exact fe (by omega)
   refine(bX e).mpr ?_;obtain⟨o,ho,h⟩:=ai.mp (show((Bm J cn S U O ro (n::ns) {st with later:=[]}).bind _)=_ from h);refine⟨fun EK H=>∃j x5 x6 x7 x8 F st,EK=[some (.ref wl),some (.ref Y),some vs,some (.ref da),some (.ref j),x5,x6,x7,x8]/\FI C cn cs wl da j H0 F H st/\Bo J cn S U O ro f st.later st=some out,fun EU H' p=>⟨f,ia _,p⟩,?_⟩;refine⟨cm _,λlb hb=>?_⟩;have s:=aG hb (.lst []);have I2:=I.fresh hb;refine Qa hS ne hz T I2 (s _ _ OB) ((show DI C (λ_=>False) H B ((n::ns).map IM)from by rw[←hl];exact M).ex (.of_same s)) (λc hc=>(I.Sa c hc).2.2.1) (au OB hb) ho (λH' F' GL y6 y7 y8 e I'=>?_) (λH' v p e kp rp=>?_)
   ·subst e
    exact⟨_,rfl,lb,some (.ref lb),y6,y7,y8,F',GL,rfl,I',h⟩
   ·subst e
    cases h;exact q2 H' v kp rp
def Bq(K:W.Frag):TE:=QO Nz (qe (aL (tC (.int 0)) bu)) (X9 (Gy K) (aL (DM 0) bu))
def Js{K:W.Frag}{wl:Addr}{ls:sx}{rest:List (Option V)}{Q:VK}(B:H wl=some (.lst ls))(j:ls.length=1\/ls.length=2)(q:∀H1 a,DH H H1->H1 a=some (.tup (List.replicate ls.length (V.int 0)))->Q (.ref a) H1):Bq K (some (.ref wl)::rest) H Q:=by
 unfold Bq;refine⟨by show(1:Nat)<=sizeLine;decide,λp I=>?_⟩;have s:=aG I (.tup [V.int 0]);refine⟨_,rfl,wl,ls,rfl,.inl (EJ.of (s _ _ B)),p,_,rfl,aq,?_⟩;rcases j with e|e
 ·rw[e]at q
  exact .inl ⟨by rw[e];rfl,q _ p s aq⟩
 ·rw[e]at q
  exact .inr ⟨by rw[e];rfl,λl J=>q _ l (s.trans (aG J _)) aq⟩
def tFr(C:MC)(cn:Nat)(pb:sg)(S:sv)(io so ro:sg)(fS aS:Addr):TS:=
 bG (cG (Bq C.K) (aW 2)) (bG (cG (Gr C.K (DM 2) (tC .DS)) (aW 3)) (bG (cG (mQ (aL (DM 2) bu)) (aW 4)) (bG (tWh C cn pb S io so ro fS aS) (d9 (tC .DS)))))
def SM(C:MC)(cn:Nat)(pb:sg)(S:sv)(io so ro:sg)(fS:Addr):Sp:=λvs H Q _=>∃F cs ws out wl,vs=[.ref wl,.ref fS]/\(cs.length=1\/cs.length=2)/\WT C.K (C.cl cn)/\Lv C cn F H cs ws/\H wl=some (.lst (cs.map λc=>V.ref c.a))/\¬ F wl/\(∀c∈cs,wl≠c.lp)/\frW pb cn S io so ro ws=some out /\
 ∀H' v,EI cs H H'->Rep C (λb=>H b=none) H' v out->Q v H'
def SQ{pb:sg}{S:sv}{io so ro:sg}{fS aS:Addr}{vs:sx}{Q:VK}{E:XK}(hS:sJ C aS S)(h:SM C cn pb S io so ro fS vs H Q E):tFr C cn pb S io so ro fS aS {nx:=λ_ H'=>Q .DS H',rt:=Q} (L2.start ["walks","is_sought","start","ways","nodes","later","node","said","reached"] vs) H:=by
 obtain⟨F,cs,ws,out,wl,rfl,Z4,T,W,IE,nwF,RU,hf,q⟩:=h;have ne:cs≠[]:=by rintro rfl;rcases Z4 with e|e<;>cases e
 have hz:cs.length<=1000:=by rcases Z4 with e|e<;>omega
 have lw:=W.len;obtain⟨c0,hc0⟩:=kg _ ne;obtain⟨i0,I⟩:=d0.mp hc0;have dm:∀b,F b->∃o,H b=some o:=(W.all i0 c0 _ I (aw (by rw[←W.len];exact(ap.mp I).1))).2.dm;unfold tFr;dsimp only[bG,cG,aW];refine Js IE (by simpa using Z4) λH1 a s1 ha=>?_;rw[ay,lw]at ha;have rz:Rep C (λ_=>False) H1 (.ref a) (IM (List.replicate ws.length 0)):=.tup ha (by
  rw[show List.replicate ws.length (V.int 0)=(List.replicate ws.length (0:Int)).map V.int by simp];exact jR _ _ (λi=>.int i) _)
 obtain⟨b,us,e,hb,rb⟩:=DO.tup (.inl rz);cases e;have ck:FV C.K H1 a (dw (List.replicate ws.length 0)):=hb.key (rb.EG (qL _));intro da Y;have sd:=aG Y (.dT []);refine⟨_,rfl,aq,a,_,rfl,ck.keeps λx ys e=>sd _ _ e,?_⟩;have s3:=sd.over Y (.dT [(dw (List.replicate ws.length 0),V.DS)]);refine⟨_,rfl,by show(1:Nat)<=sizeLine;decide,λB M=>?_⟩;have s4:=aG M (.lst [.ref a]);have J:=s3.trans s4;have O:=s1.trans J;have Z:H da=none:=by
  cases e:H da with
  |none=>rfl
  |some o=>rw[s1 _ _ e]at Y;cases Y
 have j:H1 B=none:=by
  cases e:H1 B with
  |none=>rfl
  |some o=>rw[s3 _ _ e]at M;cases M
 have U:H B=none:=by
  cases e:H B with
  |none=>rfl
  |some o=>rw[s1 _ _ e]at j;cases j
 have ndl:da≠B:=au aq M;have nf:∀x,H x=none->¬ F x:=λx e f=>by obtain⟨o,z⟩:=dm x f;rw[e]at z;cases z
 refine SJ (H0:=H) (F:=F) (st:={ws:=ws,JE:=[(dw (List.replicate ws.length 0),.DS)],later:=[List.replicate ws.length 0]}) (fuel:=1000) (out:=out) hS ne hz T
  ⟨W.same O,O _ _ IE,⟨_,s4 _ _ aq,.cons .DS .nil⟩,⟨_,aq,.cons (rz.ex (.of_same J)) .nil⟩,λb f=>(let ⟨o,e⟩:=dm b f;⟨o,O b o e⟩),⟨nwF,nf _ Z,nf _ U⟩,RU,W.nc Z,W.nc U,au IE U,⟨Z,U⟩,λx o e _=>O x o e⟩ hf
  (fun EK H' e kp=>?_) (λH' v kp r=>q H' v kp r)
 subst e;exact q H' .DS kp .DS
def Mg(mg:rX)(x:Str)(C:MC)(cn:Nat)(pb:sg)(S:sv)(io so ro:sg):Sp:=λvs H Q E=>∃fS,mg x=some (.ref fS)/\SM C cn pb S io so ro fS vs H Q E
section
variable {X:Cx}
def um{I:Addr}{k j:Nat}{o e:Expr}{es:rh}{ta:TE}{t:TA}{x:Str}{ps:rj}{sp:Sp}{apos pos:Pos}(cM:Kj X.prog X.w X.K X.mg X.base I k x ps sp)(U:N4 X.K I)(hr:Ee j X.A)(Y:PE X o ta)(Z:PA X (e::es) t)(B:autoParam (k<=j) r1_)
  (J:autoParam (GB X e es) r0_) (ES:autoParam (JI X pos es) r0_){pl:Sem Bool}
  (M:eval (.Call (.Attribute o x apos) (e::es) [] pos) X.env=(do
   let ov ←eval o X.env
   standAt apos.atName
   let (f,first) ←holding [ov] (getMethod ov x pl)
   callWith pos f first (backTo pos (starEach (e::es) X.env)) (backToKw pos (keywordEach [] X.env))):=by rfl):
  PE X (.Call (.Attribute o x apos) (e::es) [] pos) (l_ I x sp [] E0 ta t):=by
 obtain⟨f,fd,F,O,hM⟩:=cM.ex;exact Dz (pl:=pl) Y U hM F (hr.mono B) O .nil vN Z J ES M
def Qc{k j i:Nat}{J:Addr}{x y:Str}{ps:rj}{sp:Sp}{p pos:Pos}{e:Expr}{es:rh}{t:TA}(c:Oy X.prog X.w X.K X.mg X.base k y ps sp)(Z:X.mg y=some (.ref J))(hr:Ee j X.A)(ha:PA X (e::es) t)(I:autoParam (k<=j) r1_)
  (hN:autoParam (X.N[i]?=some x) r0_) (hv:autoParam (N3 X.env.scope x) r4_) (Y:autoParam (GG x) r1_) (M:autoParam (NJ x) r1_)
  (O:autoParam (GB X e es) r0_) (ES:autoParam (JI X pos es) r0_):PE X (.Call (.Name x p) (e::es) [] pos) (wj i J sp t):=by
 obtain⟨f,fd,F,U,kp,B⟩:=c.ex;rw[Z]at B;cases B;exact LK F (hr.mono I) kp U ha hN hv Y M O ES
end
noncomputable def wkW(wl ra ro es:sg)(st p:PV)(most:Int):Option WS:=
 (wl [p]).bind λc=>(ra [c]).bind λa=>match a with
  |.dT ZP=>(es [c]).bind λs=>(ro [c,s]).bind λe=>(ro [c,st]).bind λr0=>(EG [.tup [r0,.int 1]]).bind λk=>
    some {ZP:=ZP,most:=most,fin:=e,NA:=[.tup [.tup [r0,.int 1]]],nums:=[(k,.int 0)],XY:=[]}
  |_=>none
def xO(C:MC)(cn:Nat)(wl ra ro es:sg)(st:PV):Sp:=λvs H Q _=>∃A p most w x dx vm,vs=[.ref x,vm,.int most]/\WT C.K (C.cl cn)/\H x=some (.ins (C.cl cn) dx [])/\¬ A x/\Rep C A H vm p/\wkW wl ra ro es st p most=some w /\
 ∀H' F c,(∀a o,a≠x->H a=some o->H' a=some o)->c.n=cn->c.a=x->(H c.ah=none/\H c.lp=none/\H c.ln=none/\H c.lo=none)->(∀b,F b->(A b\/H b=none)/\b≠x)->WR C F H' c w->Q .DS H'
def tWk(C:MC)(wl ra ro es:sg)(aT:Addr):TS:=
 bG (cG (eZ (HA C wl false) [] E0 (aL (DM 1) bu)) (aW 3))
  (bG (rR C.K (DM 0) (eZ (HA C ra true) [] E0 (aL (DM 3) bu)) "ahead")
  (bG (rR C.K (DM 0) (DM 2) "most")
  (bG (rR C.K (DM 0) (eZ (HA C ro false) [] E0 (aL (DM 3) (aL (eZ (HA C es false) [] E0 (aL (DM 3) bu)) bu))) "end")
  (bG (rR C.K (DM 0) (mQ (aL (qe (aL (qe (aL (eZ (HA C ro false) [] E0 (aL (DM 3) (aL (tC (.ref aT)) bu))) (aL (tC (.int 1)) bu))) bu)) bu)) "places")
  (bG (rR C.K (DM 0) (Gr C.K (QO (uK C.K) (jN C.K (DM 0) "places") (tC (.int 0))) (tC (.int 0))) "numbers")
  (rR C.K (DM 0) HY "onward"))))))
def wy{A A':se}{H':Hp}{x J dx:Addr}{fs:List (Str×V)}(B:H x=some (.ins J dx fs))(I:¬ A x)(j:∀a o,a≠x->H a=some o->H' a=some o)(sub:∀a o,H a=some o->A a->A' a):Ex A H A' H':=λa o e=>
 ⟨λq=>⟨j a o (λz=>I (z▸q)) e,sub a o e q⟩,λm=>j a o (λz=>by rw[z,B]at e;cases e;cases m) e⟩
set_option tactic.hygienic true in def SX{wl ra ro es:sg}{st:PV}{aT:Addr}{vs:sx}{Q:VK}{E:XK}(hT:∀B H,Rep C B H (.ref aT) st)(h:xO C cn wl ra ro es st vs H Q E):tWk C wl ra ro es aT {nx:=λ_ H'=>Q .DS H',rt:=Q} (L2.start ["self","metre","most","closed"] vs) H:=by
 obtain⟨A,p,j,w,x,dx,vm,rfl,T,hx,nA,rm,hw,q⟩:=h;obtain⟨c,hc,hw⟩:=ai.mp hw;obtain⟨a,ha,hw⟩:=ai.mp hw;cases a<;>first|(cases hw;done)|skip
 rename_i ZP;obtain⟨s,hs,hw⟩:=ai.mp hw;obtain⟨e,he,hw⟩:=ai.mp hw;obtain⟨r0,hr0,hw⟩:=ai.mp hw;obtain⟨k,hk,hw⟩:=ai.mp hw;cases hw;unfold tWk;dsimp only[bG,cG,aW,rR];refine⟨_,rfl,A,[p],c,.cons rm .nil,hc,λvc H1 s1 rc=>?_⟩;have rc:Rep C (λa=>(A a\/H a=none)/\∃o,H1 a=some o) H1 vc c:=Rep.ex (bf λa o e q=>⟨q,o,e⟩) rc;generalize hA1:(λa=>(A a\/H a=none)/\∃o,H1 a=some o)=Y at rc;have nA1:¬ Y x:=by rw[←hA1];rintro⟨z|z,_⟩;exact nA z;rw[hx]at z;cases z
 have Xu:=s1 _ _ hx;refine⟨_,rfl,Y,[c],.dT ZP,.cons rc .nil,ha,?_⟩;rintro _ H2 s2 ⟨I,rfl,hah,kv,hkv,rkv⟩;have Q1:=s2 _ _ Xu;refine⟨_,rfl,x,_,dx,_,rfl,Q1,T.cl,T.XD,by decide,?_⟩;have hx3:upd H2 x (.ins (C.cl cn) dx (b_ "ahead" (.ref I) [])) x=some (.ins (C.cl cn) dx [("ahead",.ref I)]):=aq;have UB:∀a o,a≠x->H2 a=some o->upd H2 x (.ins (C.cl cn) dx (b_ "ahead" (.ref I) [])) a=some o:=λa o n e=>by rw[az n];exact e
 generalize upd H2 x (.ins (C.cl cn) dx (b_ "ahead" (.ref I) []))=H3 at hx3 UB ⊢;refine⟨_,rfl,_,rfl,x,_,dx,_,rfl,hx3,T.cl,T.Zb,by show(1:Nat)<1000;decide,?_⟩;have Z5:upd H3 x (.ins (C.cl cn) dx (b_ "most" (.int j) [("ahead",.ref I)])) x=some (.ins (C.cl cn) dx [("ahead",.ref I),("most",.int j)]):=aq;have UC:∀a o,a≠x->H3 a=some o->upd H3 x (.ins (C.cl cn) dx (b_ "most" (.int j) [("ahead",.ref I)])) a=some o:=λa o n e=>by rw[az n];exact e
 generalize upd H3 x (.ins (C.cl cn) dx (b_ "most" (.int j) [("ahead",.ref I)]))=H4 at Z5 UC ⊢;have off14:∀a o,a≠x->H1 a=some o->H4 a=some o:=λa o n e=>UC a o n (UB a o n (s2 a o e));have rc4:Rep C Y H4 vc c:=rc.ex (wy Xu nA1 off14 λa o _ z=>z);refine⟨_,rfl,_,rfl,Y,[c],s,.cons rc4 .nil,hs,λv5 H5 s5 r5=>?_⟩;have r5:Rep C (λa=>Y a\/H4 a=none) H5 v5 s:=r5;refine⟨λa=>Y a\/H4 a=none,[c,s],e,.cons (rc4.ex ((Ex.of_same s5).trans (bf λa o _ z=>.inl z))) (.cons r5 .nil),he,λZ H6 s6 r6=>?_⟩;have r6:Rep C (λa=>(Y a\/H4 a=none)\/H5 a=none) H6 Z e:=r6;have hx6:=s6 _ _ (s5 _ _ Z5);refine⟨_,rfl,x,_,dx,_,rfl,hx6,T.cl,T.n_end,by show(2:Nat)<1000;decide,?_⟩;have hx7:upd H6 x (.ins (C.cl cn) dx (b_ "end" Z [("ahead",.ref I),("most",.int j)])) x=some (.ins (C.cl cn) dx [("ahead",.ref I),("most",.int j),("end",Z)]):=aq;have XQ:∀a o,a≠x->H6 a=some o->upd H6 x (.ins (C.cl cn) dx (b_ "end" Z [("ahead",.ref I),("most",.int j)])) a=some o:=λa o n e=>by rw[az n];exact e
 generalize upd H6 x (.ins (C.cl cn) dx (b_ "end" Z [("ahead",.ref I),("most",.int j)]))=H7 at hx7 XQ ⊢;have P5:∀a o,a≠x->H4 a=some o->H7 a=some o:=λa o n e=>XQ a o n (s6 a o (s5 a o e));have rc7:Rep C Y H7 vc c:=rc4.ex (wy Z5 nA1 P5 λa o _ z=>z);refine⟨_,rfl,Y,[c,st],r0,.cons rc7 (.cons (hT _ _) .nil),hr0,λv0 H8 s8 r8=>?_⟩;have r8:Rep C (λa=>Y a\/H7 a=none) H8 v0 r0:=r8;refine⟨by show(2:Nat)<=sizeLine;decide,λt1 ht1=>⟨by show(1:Nat)<=sizeLine;decide,λM Sn=>⟨by show(1:Nat)<=sizeLine;decide,λJ UA=>?_⟩⟩⟩;have s9:=aG ht1 (.tup [v0,.int 1]);have s10:=aG Sn (.tup [.ref t1]);have s11:=aG UA (.lst [.ref M]);have N0:=s11 _ _ (s10 _ _ (s9 _ _ (s8 _ _ hx7)));refine⟨_,rfl,x,_,dx,_,rfl,N0,T.cl,T.I0,by show(3:Nat)<1000;decide,?_⟩;have Z4:t1≠M:=au aq Sn;have UD:upd (upd (upd H8 t1 (.tup [v0,.int 1])) M (.tup [.ref t1])) J (.lst [.ref M]) J=some (.lst [.ref M]):=aq;have N1:upd (upd (upd H8 t1 (.tup [v0,.int 1])) M (.tup [.ref t1])) J (.lst [.ref M]) M=some (.tup [.ref t1]):=s11 _ _ aq;have N2:upd (upd (upd H8 t1 (.tup [v0,.int 1])) M (.tup [.ref t1])) J (.lst [.ref M]) t1=some (.tup [v0,.int 1]):=s11 _ _ (s10 _ _ aq);have s811:DH H8 (upd (upd (upd H8 t1 (.tup [v0,.int 1])) M (.tup [.ref t1])) J (.lst [.ref M])):=(s9.trans s10).trans s11;have hlp8:H8 J=none:=(s9.trans s10).free UA;have ht18:=ht1;have ht28:H8 M=none:=s9.free Sn;generalize upd (upd (upd H8 t1 (.tup [v0,.int 1])) M (.tup [.ref t1])) J (.lst [.ref M])=H11 at UD N1 N2 s811 N0 ⊢;have Zj:upd H11 x (.ins (C.cl cn) dx (b_ "places" (.ref J) [("ahead",.ref I),("most",.int j),("end",Z)])) x=some (.ins (C.cl cn) dx [("ahead",.ref I),("most",.int j),("end",Z),("places",.ref J)]):=aq;have LA:∀a o,a≠x->H11 a=some o->upd H11 x (.ins (C.cl cn) dx (b_ "places" (.ref J) [("ahead",.ref I),("most",.int j),("end",Z)])) a=some o:=λa o n e=>by rw[az n];exact e
 generalize upd H11 x (.ins (C.cl cn) dx (b_ "places" (.ref J) [("ahead",.ref I),("most",.int j),("end",Z)]))=Yt at Zj LA ⊢;have Yu:J≠x:=λz=>by rw[z]at UD;rw[UD]at N0;cases N0
 have n1x:t1≠x:=λz=>by rw[z]at N2;rw[N2]at N0;cases N0
 have n2x:M≠x:=λz=>by rw[z]at N1;rw[N1]at N0;cases N0
 have LY:∀a o,a≠x->H8 a=some o->Yt a=some o:=λa o n e=>LA a o n (s811 a o e);have hx8:=s8 _ _ hx7;have nB8:¬ (Y x\/H7 x=none):=λz=>z.elim nA1 λz=>by rw[hx7]at z;cases z
 have r12:Rep C (λa=>Y a\/H7 a=none) Yt v0 r0:=r8.ex (wy hx8 nB8 LY λa o _ z=>z);have rp12:Rep C (λa=>Y a\/H7 a=none) Yt (.ref M) (.tup [.tup [r0,.int 1]]):=.tup (LA _ _ n2x N1) (.cons (.tup (LA _ _ n1x N2) (.cons r12 (.cons (.int 1) .nil))) .nil);intro U OX;have sn:=aG OX (.dT []);refine⟨_,rfl,x,_,dx,_,.ref J,rfl,sn _ _ Zj,T.cl,T.I0,rfl,J,[.ref M],0,.ref M,rfl,rfl,EJ.of (sn _ _ (LA _ _ Yu UD)),rfl,?_⟩;obtain⟨b,us,eb,hb,rb⟩:=DO.tup (.inl (rp12.ex (.of_same sn)));cases eb;refine⟨aq,M,k,rfl,hb.key (rb.EG hk),?_⟩;have Zk:DH Yt (upd (upd Yt U (.dT [])) U (.dT [(k,.int 0)])):=sn.over OX _;have XR:upd (upd Yt U (.dT [])) U (.dT [(k,.int 0)]) U=some (.dT [(k,.int 0)]):=aq;generalize upd (upd Yt U (.dT [])) U (.dT [(k,.int 0)])=H13 at Zk XR ⊢;have Zl:=Zk _ _ Zj;refine⟨_,rfl,x,_,dx,_,rfl,Zl,T.cl,T.GH,by show(4:Nat)<1000;decide,?_⟩;have hx14:upd H13 x (.ins (C.cl cn) dx (b_ "numbers" (.ref U) [("ahead",.ref I),("most",.int j),("end",Z),("places",.ref J)])) x=some (.ins (C.cl cn) dx [("ahead",.ref I),("most",.int j),("end",Z),("places",.ref J),("numbers",.ref U)]):=aq;have MW:∀a o,a≠x->H13 a=some o->upd H13 x (.ins (C.cl cn) dx (b_ "numbers" (.ref U) [("ahead",.ref I),("most",.int j),("end",Z),("places",.ref J)])) a=some o:=λa o n e=>by rw[az n];exact e
 generalize upd H13 x (.ins (C.cl cn) dx (b_ "numbers" (.ref U) [("ahead",.ref I),("most",.int j),("end",Z),("places",.ref J)]))=H14 at hx14 MW ⊢;intro lo Yd;have s15:=aG Yd (.dK []);have XT:upd H14 lo (.dK []) lo=some (.dK []):=aq;generalize upd H14 lo (.dK [])=H15 at s15 XT ⊢;have Zm:=s15 _ _ hx14;refine⟨_,rfl,x,_,dx,_,rfl,Zm,T.cl,T.NX,by show(5:Nat)<1000;decide,?_⟩;have hx16:upd H15 x (.ins (C.cl cn) dx (b_ "onward" (.ref lo) [("ahead",.ref I),("most",.int j),("end",Z),("places",.ref J),("numbers",.ref U)])) x=some (.ins (C.cl cn) dx [("ahead",.ref I),("most",.int j),("end",Z),("places",.ref J),("numbers",.ref U),("onward",.ref lo)]):=aq;have UE:∀a o,a≠x->H15 a=some o->upd H15 x (.ins (C.cl cn) dx (b_ "onward" (.ref lo) [("ahead",.ref I),("most",.int j),("end",Z),("places",.ref J),("numbers",.ref U)])) a=some o:=λa o n e=>by rw[az n];exact e
 generalize upd H15 x (.ins (C.cl cn) dx (b_ "onward" (.ref lo) [("ahead",.ref I),("most",.int j),("end",Z),("places",.ref J),("numbers",.ref U)]))=P6 at hx16 UE ⊢;have Yv:U≠x:=λz=>by rw[z]at XR;rw[XR]at Zl;cases Zl
 have LV:lo≠x:=λz=>by rw[z]at XT;rw[XT]at Zm;cases Zm
 have nax:I≠x:=λz=>by rw[z]at hkv;rw[hkv]at Q1;cases Q1
 have u14:∀a o,a≠x->H14 a=some o->P6 a=some o:=λa o n e=>UE a o n (s15 a o e);have u12:∀a o,a≠x->Yt a=some o->P6 a=some o:=λa o n e=>u14 a o n (MW a o n (Zk a o e));have u8:∀a o,a≠x->H8 a=some o->P6 a=some o:=λa o n e=>u12 a o n (LY a o n e);have u7:∀a o,a≠x->H7 a=some o->P6 a=some o:=λa o n e=>u8 a o n (s8 a o e);have u6:∀a o,a≠x->H6 a=some o->P6 a=some o:=λa o n e=>u7 a o n (XQ a o n e);have u4:∀a o,a≠x->H4 a=some o->P6 a=some o:=λa o n e=>u7 a o n (P5 a o n e);have u2:∀a o,a≠x->H2 a=some o->P6 a=some o:=λa o n e=>u4 a o n (UC a o n (UB a o n e));have u1:∀a o,a≠x->H1 a=some o->P6 a=some o:=λa o n e=>u2 a o n (s2 a o e);have u0:∀a o,a≠x->H a=some o->P6 a=some o:=λa o n e=>u1 a o n (s1 a o e);have O:∀{G G':Hp}{l:Addr},l≠x->(∀a o,a≠x->G a=some o->G' a=some o)->G' l=none->G l=none:=λ{G G' l} n u e=>by
  cases z:G l with
  |none=>rfl
  |some o=>rw[u l o n z]at e;cases e
 have p8:H8 J=none:=hlp8;have n8:H8 U=none:=O Yv LY OX;have o14:H14 lo=none:=Yd;have o8:H8 lo=none:=O LV (λa o n e=>MW a o n (Zk a o (LY a o n e))) o14;have b8:∀{l:Addr},l≠x->H8 l=none->H7 l=none:=λn e=>O n (λa o _ e=>s8 a o e) e;have b7:∀{l:Addr},l≠x->H7 l=none->H6 l=none/\H4 l=none:=λn e=>⟨O n XQ e,O n P5 e⟩;have b4:∀{l:Addr},l≠x->H4 l=none->H2 l=none:=λn e=>O n (λa o n e=>UC a o n (UB a o n e)) e;have b1:∀{l:Addr},H1 l=none->H l=none:=λe=>s1.free e;have a1:∀{l:Addr},Y l->(A l\/H l=none)/\∃o,H1 l=some o:=λz=>by rw[←hA1]at z;exact z
 have nah:∀{l:Addr},Y l->l≠I:=λz e=>by obtain⟨_,o,q⟩:=a1 z;rw[e,hah]at q;cases q
 have h4ah:H4 I=some (.dT kv):=UC _ _ nax (UB _ _ nax hkv);have h7ah:H7 I=some (.dT kv):=P5 _ _ nax h4ah;have UH:∀{l:Addr},H4 l=none->(A l\/H l=none)/\l≠I:=λ{l} z=>by
  have n:l≠x:=λe=>by rw[e,Z5]at z;cases z
  exact⟨.inr (b1 (s2.free (b4 n z))),λe=>by rw[e,h4ah]at z;cases z⟩
 have none7:∀{l:Addr},H7 l=none->(A l\/H l=none)/\l≠I:=λ{l} z=>by
  have n:l≠x:=λe=>by rw[e,hx7]at z;cases z
  exact UH (b7 n z).2
 obtain⟨F,hF⟩:∃F:Addr->Prop,F=λb=>(A b\/H b=none)/\b≠x/\b≠I/\b≠J/\b≠U/\b≠lo/\∃o,P6 b=some o:=⟨_,rfl⟩;have exF:∀{B:se}{G:Hp}{fs:List (Str×V)},G x=some (.ins (C.cl cn) dx fs)->¬ B x->(∀a o,a≠x->G a=some o->P6 a=some o)->G J=none->G U=none->G lo=none->(∀a,B a->(A a\/H a=none)/\a≠I)->Ex B G F P6:=λ{B G fs} hg nB u g1 g2 g3 cond=>wy hg nB u λa o e z=>by
  rw[hF];have n:a≠x:=λq=>nB (q▸z);exact⟨(cond a z).1,n,(cond a z).2,(λq=>by rw[q,g1]at e;cases e),(λq=>by rw[q,g2]at e;cases e),(λq=>by rw[q,g3]at e;cases e),o,u a o n e⟩
 have p7:=b8 Yu p8;have n7:=b8 Yv n8;have o7:=b8 LV o8;have x2:=exF (B:=λc=>(Y c\/H1 c=none)/\c≠I) Q1 (λz=>z.1.elim nA1 λq=>by rw[Xu]at q;cases q) u2 (b4 Yu (b7 Yu p7).2) (b4 Yv (b7 Yv n7).2) (b4 LV (b7 LV o7).2) λa z=>⟨z.1.elim (λq=>(a1 q).1) λq=>.inr (b1 q),z.2⟩;have x6:=exF (B:=λa=>(Y a\/H4 a=none)\/H5 a=none) hx6 (λz=>z.elim (λz=>z.elim nA1 λq=>by rw[Z5]at q;cases q) λq=>by rw[s5 _ _ Z5]at q;cases q) u6 (b7 Yu p7).1 (b7 Yv n7).1 (b7 LV o7).1 λa z=>z.elim (λz=>z.elim (λq=>⟨(a1 q).1,nah q⟩) UH) λq=>UH (s5.free q);have x8:=exF (B:=λa=>Y a\/H7 a=none) hx8 nB8 u8 p8 n8 o8 λa z=>z.elim (λq=>⟨(a1 q).1,nah q⟩) none7;have r16:Rep C F P6 v0 r0:=r8.ex x8;have z0:∀{l:Addr},l≠x->H7 l=none->H l=none:=λn z=>b1 (s2.free (b4 n (b7 n z).2));refine q P6 F ⟨cn,x,dx,I,J,U,lo,Z⟩ u0 rfl rfl ⟨b1 hah,z0 Yu p7,z0 Yv n7,z0 LV o7⟩ (λb f=>by rw[hF]at f;exact⟨f.1,f.2.1⟩) ⟨hx16,⟨kv,u2 _ _ nax hkv,rkv.ex x2⟩,r6.ex x6,⟨_,u12 _ _ Yu (LA _ _ Yu UD),.cons (.tup (u12 _ _ n2x (LA _ _ n2x N1)) (.cons (.tup (u12 _ _ n1x (LA _ _ n1x N2)) (.cons r16 (.cons (.int 1) .nil))) .nil)) .nil⟩,⟨_,u14 _ _ Yv (MW _ _ Yv XR),.cons (.int 0) .nil⟩,⟨_,UE _ _ LV XT,.nil⟩,?_,λb f=>by rw[hF]at f;exact f.2.2.2.2.2.2,?_⟩
 ·exact au (LY _ _ nax (s8 _ _ h7ah)) OX
 ·rw[hF]
  exact⟨λf=>f.2.1 rfl,λf=>f.2.2.1 rfl,λf=>f.2.2.2.1 rfl,λf=>f.2.2.2.2.1 rfl,λf=>f.2.2.2.2.2.1 rfl⟩
def Eg{X:Cx}{I:Addr}{k j:Nat}{x:Str}{ps:rj}{sp:Sp}{p pos:Pos}{e:Expr}{es:rh}{t:TA}(c:Y0 X.prog X.w X.K X.mg X.base I k x ps sp)(hr:Ee j X.A)(ha:PA X (e::es) t)(B:autoParam (k+1<=j) r1_)(J:autoParam (Gl X x) r0_)
  (Z:autoParam (GG x) r1_) (O:autoParam (GB X e es) r0_) (ES:autoParam (JI X pos es) r0_):
  PE X (.Call (.Name x p) (e::es) [] pos) (vH I sp [] E0 t):=by
 obtain⟨f,fd,F,U,M,Y⟩:=c.ex;exact Ou M F (hr.mono B) J Y U .nil vN ha Z O ES
def Jt{wl O ro es:sg}{st p:PV}{j:Int}{w:WS}{A:se}{v:V}{R:Addr->Hp->Prop}{E:XK}(T:WT C.K (C.cl cn))(dA:∀a,A a->∃o,H a=some o)(r:Rep C A H v p)(Y:wkW wl O ro es st p j=some w)
  (q:∀H' F c,DH H H'->c.n=cn->(H c.a=none/\H c.ah=none/\H c.lp=none/\H c.ln=none/\H c.lo=none)->(∀b,F b->A b\/H b=none)->WR C F H' c w->R c.a H'):
  ∀x dx,H x=none->H dx=none->dx≠x->xO C cn wl O ro es st (.ref x::([v,.int j]++[])) (upd (upd H dx (.own x)) x (.ins (C.cl cn) dx [])) (λu H2=>u=.DS/\R x H2) E:=by
 intro x dx I M ne;have s:DH H (upd (upd H dx (.own x)) x (.ins (C.cl cn) dx [])):=λa o h=>by rw[az (au h I),az (au h M)];exact h
 refine⟨A,p,j,w,x,dx,v,rfl,T,aq,(λz=>by obtain⟨o,e⟩:=dA x z;rw[I]at e;cases e),r.ex (.of_same s),Y,λH' F c J en U B Z W=>⟨rfl,?_⟩⟩;rw[←U];refine q H' F c (λa o e=>J a o (au e I) (s a o e)) en ⟨by rw[U];exact I,s.free B.1,s.free B.2.1,s.free B.2.2.1,s.free B.2.2.2⟩ (λb f=>(Z b f).1.imp id λz=>s.free z) W
def New(H:Hp)(c:WC):Prop:=H c.a=none/\H c.ah=none/\H c.lp=none/\H c.ln=none/\H c.lo=none
def Ve(H:Hp)(c:WC):Prop:=(∃o,H c.a=some o)/\(∃o,H c.ah=some o)/\(∃o,H c.lp=some o)/\(∃o,H c.ln=some o)/\∃o,H c.lo=some o
def WR.there{c:WC}{w:WS}(W:WR C F H c w):Ve H c:=⟨⟨_,W.ob⟩,(let ⟨_,h,_⟩:=W.ah;⟨_,h⟩),(let ⟨_,h,_⟩:=W.lp;⟨_,h⟩),(let ⟨_,h,_⟩:=W.ln;⟨_,h⟩),(let ⟨_,h,_⟩:=W.lo;⟨_,h⟩)⟩
def kW{a b:Addr}(h1:H a=none)(h2:∃o,H b=some o):a≠b:=λz=>by obtain⟨o,e⟩:=h2;rw[←z,h1]at e;cases e
def VJ{A F1 M:se}{H0 H2 Y:Hp}{Z c2:WC}{w1 w2:WS}(dA:∀a,A a->∃o,H0 a=some o)(W1:WR C F1 H2 Z w1)(U:WR C M Y c2 w2)(s02:DH H0 H2)(s23:DH H2 Y)(e1:Z.n=cn)(e2:c2.n=cn)(n1:New H0 Z)(n2:New H2 c2)(f2:∀b,M b->A b\/H2 b=none):
  Lv C cn (λb=>F1 b\/M b) Y [Z,c2] [w1,w2]:=by
 have B:=W1.there;have O:=W1.same s23;have J:∀{l:Addr},H0 l=none->(∃o,H2 l=some o)->¬ M l:=λ{l} h0 h2 f=>(f2 l f).elim (λz=>by obtain⟨o,e⟩:=dA l z;rw[h0]at e;cases e) λz=>by obtain⟨o,e⟩:=h2;rw[z]at e;cases e
 have I:∀{l:Addr},H2 l=none->¬ F1 l:=λ{l} h f=>by obtain⟨o,e⟩:=W1.dm l f;rw[h]at e;cases e
 have dm:∀b,(F1 b\/M b)->∃o,Y b=some o:=λb f=>f.elim (λz=>O.dm b z) λz=>U.dm b z;have V1:WR C (λb=>F1 b\/M b) Y Z w1:=O.ex (bf λ_ _ _ z=>.inl z) (λ_ _ _ e=>e) dm ⟨λf=>f.elim O.nF.1 (J n1.1 B.1),λf=>f.elim O.nF.2.1 (J n1.2.1 B.2.1),λf=>f.elim O.nF.2.2.1 (J n1.2.2.1 B.2.2.1),λf=>f.elim O.nF.2.2.2.1 (J n1.2.2.2.1 B.2.2.2.1),λf=>f.elim O.nF.2.2.2.2 (J n1.2.2.2.2 B.2.2.2.2)⟩;have V2:WR C (λb=>F1 b\/M b) Y c2 w2:=U.ex (bf λ_ _ _ z=>.inr z) (λ_ _ _ e=>e) dm ⟨λf=>f.elim (I n2.1) U.nF.1,λf=>f.elim (I n2.2.1) U.nF.2.1,λf=>f.elim (I n2.2.2.1) U.nF.2.2.1,λf=>f.elim (I n2.2.2.2.1) U.nF.2.2.2.1,λf=>f.elim (I n2.2.2.2.2) U.nF.2.2.2.2⟩;refine⟨rfl,λi c w h1 h2=>?_,λi j c d h1 h2 ne=>?_⟩
 ·match i,h1,h2 with
  |0,h1,h2=>cases h1;cases h2;exact⟨e1,V1⟩
  |1,h1,h2=>cases h1;cases h2;exact⟨e2,V2⟩
  |i+2,h1,_=>simp at h1
 ·match i,j,h1,h2,ne with
  |0,0,_,_,ne=>exact absurd rfl ne
  |1,1,_,_,ne=>exact absurd rfl ne
  |0,1,h1,h2,_=>cases h1;cases h2;exact⟨kW n2.2.2.1 B.2.2.1,kW n2.2.2.2.1 B.2.2.2.1,kW n2.2.2.2.2 B.2.2.2.2,kW n2.2.1 B.2.2.2.1⟩
  |1,0,h1,h2,_=>cases h1;cases h2;exact⟨(kW n2.2.2.1 B.2.2.1).symm,(kW n2.2.2.2.1 B.2.2.2.1).symm,(kW n2.2.2.2.2 B.2.2.2.2).symm,(kW n2.2.2.2.1 B.2.1).symm⟩
  |i+2,_,h1,_,_=>simp at h1
  |0,j+2,_,h2,_=>simp at h2
  |1,j+2,_,h2,_=>simp at h2
noncomputable def S5(cn:Nat)(wl ra rf es pb io so ro:sg)(S:sv)(st:PV):List PV->Option PV
 |[p,q]=>(wkW wl ra rf es st p 1).bind λw1=>(wkW wl ra rf es st q 1).bind λw2=>frW pb cn S io so ro [w1,w2]
 |_=>none
def tMw(mg:rX)(x:Str)(C:MC)(cn:Nat)(wl ra rf es pb io so ro:sg)(S:sv)(st:PV)(fS:Addr):TS:=
 d9 (eZ (Mg mg x C cn pb S io so ro) [] E0 (aL (mQ (aL (vH (C.cl cn) (xO C cn wl ra rf es st) [] E0 (aL (DM 0) (aL (tC (.int 1)) bu))) (aL (vH (C.cl cn) (xO C cn wl ra rf es st) [] E0 (aL (DM 1) (aL (tC (.int 1)) bu))) bu))) (aL (tC (.ref fS)) bu)))
def S6{mg:rX}{x:Str}{wl ra rf es pb io so ro:sg}{S:sv}{st:PV}{Z:Addr}{vs:sx}{Q:VK}{E:XK}(T:WT C.K (C.cl cn))(Y:mg x=some (.ref Z))(h:HA C (S5 cn wl ra rf es pb io so ro S st) false vs H Q E):
  tMw mg x C cn wl ra rf es pb io so ro S st Z {nx:=λ_ H'=>Q .DS H',rt:=Q} (L2.start ["one","other"] vs) H:=by
 obtain⟨A,ps,out,r,B,q⟩:=h;cases r with
 |nil=>cases B
 |@cons v1 p ps _ r1 r=>cases r with
  |nil=>cases B
  |@cons v2 q2 ps _ r2 r=>cases r with
   |cons _ _=>cases B
   |nil=>
    obtain⟨w1,h1,B⟩:=ai.mp (show((wkW wl ra rf es st p 1).bind _)=_ from B);obtain⟨w2,h2,B⟩:=ai.mp B;have dA:∀a,(A a/\∃o,H a=some o)->∃o,H a=some o:=λa z=>z.2;have x1:Rep C (λa=>A a/\∃o,H a=some o) H v1 p:=r1.ex (bf λa o e z=>⟨z,o,e⟩);have x2:Rep C (λa=>A a/\∃o,H a=some o) H v2 q2:=r2.ex (bf λa o e z=>⟨z,o,e⟩);unfold tMw;dsimp only[d9,eZ,aL,bu,mQ,vH,DM,tC];refine⟨_,rfl,Jt T dA x1 h1 λH2 F1 c1 I e1 n1 f1 O=>?_⟩;refine⟨_,rfl,Jt T (λa z=>(let ⟨o,e⟩:=z.2;⟨o,I a o e⟩)) (x2.ex (.of_same I)) h2 λH3 F2 c2 M e2 n2 f2 U=>?_⟩;refine⟨by show(2:Nat)<=sizeLine;decide,λwa j=>?_⟩;have s3:=aG j (.lst [.ref c1.a,.ref c2.a]);have WS2:=(VJ dA O U I M e1 e2 n1 n2 f2);have t1:=(O.same M).there;have t2:=U.there;refine⟨Z,Y,λb=>F1 b\/F2 b,[c1,c2],[w1,w2],out,wa,rfl,.inr rfl,T,WS2.same s3,aq,λf=>?_,λc J=>?_,B,λH5 v kp rv=>?_⟩
    ·obtain⟨o,e⟩:=f.elim (λz=>(O.same M).dm wa z) λz=>U.dm wa z
     rw[j]at e;cases e
    ·simp only[br,b6,fq]at J
     rcases J with rfl|rfl
     ·exact kW j t1.2.2.1
     ·exact kW j t2.2.2.1
    ·have Zk:=(I.trans M).trans s3
     refine q v H5 (λa o e=>kp a o (Zk a o e) λc J=>?_) (Rep.ex (bf λa o _ z=>.inr (Zk.free z)) rv);simp only[br,b6,fq]at J;rcases J with rfl|rfl
     ·exact⟨(au e n1.2.2.1),(au e n1.2.2.2.1),(au e n1.2.2.2.2)⟩
     ·exact⟨(au e (I.free n2.2.2.1)),(au e (I.free n2.2.2.2.1)),(au e (I.free n2.2.2.2.2))⟩
end Lake.MR
namespace Lake.L2
open PySem PySem.Spec PyProof.Rows
section
open HT
variable {prog:Program}{w:World}{A:Around}{E:gV}{s:Shared}
def rF{t sl:Addr}{items:rV}{O Y:Value}{lo hi:Option Int}{Q:gV}(j:IsTup s.heap t items)(U:s.heap.IsSliceOf sl O Y .none)(pl:IsPart O lo)(pu:IsPart Y hi)
  (B:EA items.size 0 lo=0) (M:EA items.size items.size hi=items.size) (h:Q (.ref t) s):wpAny (model prog w) A (getItem (.ref t) (.ref sl)) Q E s:=by
 obtain⟨os,Z,I,hds⟩:=id U;have J:s.TypeIs (.ref sl) "slice" := ⟨os,Z,I⟩;unfold getItem
 try with_reducible refine eD ?_
 first|refine ac (al ?_)|skip
 refine ac (nn j.typeIs (by decide) ?_);refine ac (dc (name:=Str.ofString "__getitem__") j.typeIs eI
  (dv eI j.typeIs entry_tuple_getitem ?_ (args_tuple_getitem _ _)))
 show wpAny _ _ (Builtin.Tuple.tupleItemsOf (.ref t) >>= _) _ _ s;refine ac (tupleItemsOf_ j ?_);refine ac (kc J ?_);rw[bX (by decide)];refine ac (mR U pl pu ?_);have hy:(((EA items.size 0 lo:Nat):Int) == 0&&(1:Int) == 1&&(EA items.size items.size hi - EA items.size 0 lo) == items.size)=true:=by rw[B,M];simp
 show wpAny _ _ (if(((EA items.size 0 lo:Nat):Int) == 0&&(1:Int) == 1&&(EA items.size items.size hi - EA items.size 0 lo) == items.size)=true then _ else _) _ _ s;rw[bX hy];refine ac ?_;unfold Builtin.Tuple.tupleIsExact;refine ac (kc j.typeIs (al ?_));rw[bX (by decide)];refine ac (i6 ?_);exact al ⟨_,rfl,al h⟩
end
variable {X:Cx}
def S7(K:W.Frag):V->Option Int->Option Int->Hp->VK->Prop:=λx lo hi H Q=>∃a xs,x=.ref a/\F0 K H a xs/\HT.EA xs.length 0 lo=0/\HT.EA xs.length xs.length hi=xs.length/\Q x H
def Qd:To X (S7 X.K):=by
 intro DE s EK H x v vl vu lo hi sl Q I rx Y pl Z h;obtain⟨a,xs,rfl,U,B,J,q⟩:=h;cases rx;obtain⟨O,r,M,hz⟩:=I.tuple U;have j:O.toArray.size=xs.length:=by rw[aE];exact r.length.symm
 refine⟨"tuple",_,eI.lookup,M.typeIs,?_⟩;exact rF M Y pl Z (by rw[j];exact B) (by rw[j];exact J) ⟨.ref a,H,I,rfl,q⟩
end Lake.L2
namespace Lake.MR
open PySem PySem.Spec PyProof.Rows L2
noncomputable def GX(x:PV)(l h:Option Int):Option PV:=match x with
 |.tup xs=>some (.tup (gH xs l h))
 |_=>none
@[simp] def VL(xs:sv)(l h:Option Int):GX (.tup xs) l h=some (.tup (gH xs l h)):=id rfl
noncomputable def zz(f:sf)(lo hi:Env->Option (Option Int))(env:Env):Option PV:=(f env).bind λx=>(lo env).bind λl=>(hi env).bind λh=>GX x l h
@[simp] def VM(f:sf)(lo hi:Env->Option (Option Int))(env:Env):zz f lo hi env=((f env).bind λx=>(lo env).bind λl=>(hi env).bind λh=>GX x l h):=id rfl
section
variable {X:Cx}{b:BX}{G:oT}{m:Md}{e:Expr}{f:sf}{pos:Pos}
set_option tactic.hygienic true in def Qe{lo hi:Option Expr}{p2:Pos}{fl O:Env->Option (Option Int)}(h1:SE X b G m e f)(hl:SO X b G lo fl)(hh:SO X b G hi O)(hK:autoParam (X.K=b.C.K) r0_):SE X b G .val (.Subscript e (.Slice lo hi none p2) pos) (zz f fl O):=by
 refine PE.imp (Aa (r:=λx lo hi H Q=>Q5 b.C.K x lo hi H Q\/S7 b.C.K x lo hi H Q) (by rw[←hK];exact To.or Q6 Qd) h1.bor hl hh) fun EK H Q ⟨Ow,env,p,E,hf,k⟩=>?_
 unfold zz at hf;cases q1:f env with
 |none=>rw[q1]at hf;cases hf
 |some p1=>
  rw[q1]at hf;cases q2:fl env with
  |none=>rw[q2]at hf;cases hf
  |some l=>
   rw[q2]at hf;cases q3:O env with
   |none=>rw[q3]at hf;cases hf
   |some h=>
    rw[q3]at hf;refine⟨Ow,env,p1,E,q1,λv H1 j r1=>⟨Ow,env,l,E.up j,q2,λH2 B=>⟨Ow,env,h,E.up (j.trans B),q3,λZ I=>?_⟩⟩⟩;have NU:DO b.C (Bs b Ow) Z v p1:=Res.up (m:=.bor) r1 (B.trans I);simp only[bE]at hf;unfold GX at hf;split at hf
    ·rename_i xs
     cases hf;obtain⟨a,vs,rfl,M,J⟩:=NU.tup;have Y:=J.length;by_cases hw:HT.EA vs.length 0 l=0/\HT.EA vs.length vs.length h=vs.length
     ·refine .inr ⟨a,vs,rfl,M.sq,hw.1,hw.2,?_⟩
      have e:gH xs l h=xs:=by
       unfold gH;rw[←Y,hw.1,hw.2,List.drop_zero,Nat.sub_zero,Y,ow]
      rw[e]at k;exact k _ _ (j.trans (B.trans I)) (Res.down (j.trans (B.trans I)) (M.rep J))
     ·exact .inl ⟨a,vs,rfl,M.sq,hw,λq U=>k _ _ (j.trans (B.trans (I.trans (aG U _)))) (Res.down (j.trans (B.trans I)) (pK U (J.cut l h)))⟩
    ·cases hf
end
end Lake.MR
namespace Lake.My
open PySem L2 MR
section
variable {EL:Type}(a b c d e f g h:EL)(l:List EL)
@[simp] theorem at0:Fm (a::l) 0=some a:=lK (k:=0) rfl
@[simp] theorem at1:Fm (a::b::l) 1=some b:=lK (k:=1) rfl
@[simp] theorem at2:Fm (a::b::c::l) 2=some c:=lK (k:=2) rfl
@[simp] theorem at3:Fm (a::b::c::d::l) 3=some d:=lK (k:=3) rfl
end
@[simp] noncomputable def nxt(ds:oT):Option Out->Option MR.Env
 |some (.nx e)=>some (Iy ds e)
 |some (.ct e)=>some (Iy ds e)
 |_=>none
noncomputable def turn(g:PV->MR.Env->Option MR.Env)(ds:oT)(body:MR.Env->Option Out)(x:PV)(env:MR.Env):Option MR.Env:=(g x env).bind λe=>nxt ds (body e)
def dB(g:PV->MR.Env->Option MR.Env)(ds:oT)(body:MR.Env->Option Out)(x:PV)(env:MR.Env):turn g ds body x env=(g x env).bind λe=>nxt ds (body e):=id rfl
set_option tactic.hygienic true in def dq{g:PV->MR.Env->Option MR.Env}{ds:oT}{body:MR.Env->Option Out}{x:PV}{xs:sv}{env env':MR.Env}(h:turn g ds body x env=some env'):cP g ds body (x::xs) env=cP g ds body xs env':=by
 unfold turn at h;obtain⟨e,h1,h2⟩:=aC h;unfold nxt at h2;split at h2
 ·rename_i q;cases h2;simp[cP,h1,q]
 ·rename_i q;cases h2;simp[cP,h1,q]
 ·cases h2
theorem uz{EL:Type}{g:PV->MR.Env->Option MR.Env}{ds:oT}{body:MR.Env->Option Out}{env:MR.Env}(c:EL->PV):∀(ys:List EL),(∀y∈ys,turn g ds body (c y) env=some env)->cP g ds body (ys.map c) env=some (.nx env)
 |[],_=>rfl
 |y::ys,h=>by
  rw[bb,dq (h y bp)];exact uz c ys λz hz=>h z (aI _ hz)
def bF{f g:MR.Env->Option Out}{env e:MR.Env}(h:f env=some (.nx e)):aN f g env=g e:=by simp[h]
def uo{f g:MR.Env->Option Out}{env:MR.Env}{p:PV}(h:f env=some (.rt p)):aN f g env=some (.rt p):=by simp[h]
def Br(n:Nat):fH 0 (n:Int)=(List.range n).map λk=>PV.int (k:Nat):=by
 unfold fH;simp
noncomputable def cell(ns:rL)(k:Nat):Int:=ns.getD k 0
def HE:Nat->PV->Prop
 |_,.DS=>True
 |_,.bl _=>True
 |_,.int _=>True
 |_,.str x=>PyData.strOk x=true
 |n+1,.lst xs=>∀x∈xs,HE n x
 |n+1,.tup xs=>∀x∈xs,HE n x
 |_,_=>False
theorem wz{n:Nat}(j:∀p,HE n p->∃d,toD p=some d/\d.canLay0=true/\d.depth<=n/\PyData.eqv d d=true):∀xs:List PV,(∀x∈xs,HE n x)->∃ds,fG xs=some ds/\PyData.canLayAll0 ds=true/\PyData.depthAll ds<=n/\PyData.eqvAll ds ds=true
 |[],_=>⟨[],rfl,rfl,cm _,rfl⟩
 |x::xs,h=>by
  obtain⟨d,h1,h2,J,I⟩:=j x (h x bp);obtain⟨ds,g1,g2,M,B⟩:=wz j xs λz hz=>h z (aI _ hz);refine⟨d::ds,by simp[fG,h1,g1],by simp[PyData.canLayAll0,h2,g2],?_,by simp[PyData.eqvAll,I,B]⟩;simp only[PyData.depthAll];omega
theorem wA:∀(n:Nat) (p:PV),HE n p->∃d,toD p=some d/\d.canLay0=true/\d.depth<=n/\PyData.eqv d d=true
 |n,.DS,_=>⟨.none,by simp[toD],by simp[PyData.canLay0],by simp[PyData.depth],by simp[PyData.eqv]⟩
 |n,.bl b,_=>⟨.bool b,by simp[toD],by simp[PyData.canLay0],by simp[PyData.depth],by simp[PyData.eqv]⟩
 |n,.int b,_=>⟨.int b,by simp[toD],by simp[PyData.canLay0],by simp[PyData.depth],by simp[PyData.eqv]⟩
 |n,.str b,h=>⟨.str b,by simp[toD],by simpa[PyData.canLay0,HE]using h,by simp[PyData.depth],by simp[PyData.eqv]⟩
 |n+1,.lst xs,h=>by
  obtain⟨ds,g1,g2,B,j⟩:=wz (wA n) xs (by simpa[HE]using h);exact⟨.list ds,by simp[toD,g1],by simp[PyData.canLay0,g2],by simp only[PyData.depth];omega,by simp[PyData.eqv,j]⟩
 |n+1,.tup xs,h=>by
  obtain⟨ds,g1,g2,B,j⟩:=wz (wA n) xs (by simpa[HE]using h);exact⟨.tuple ds,by simp[toD,g1],by simp[PyData.canLay0,g2],by simp only[PyData.depth];omega,by simp[PyData.eqv,j]⟩
 |0,.lst _,h=>by simp[HE]at h
 |0,.tup _,h=>by simp[HE]at h
 |_,.frz _,h=>by simp[HE]at h
 |_,.ktp _,h=>by simp[HE]at h
 |_,.dK _,h=>by simp[HE]at h
 |_,.dT _,h=>by simp[HE]at h
 |_,.obj _ _,h=>by simp[HE]at h
def Bu{n:Nat}{p:PV}(h:HE n p)(J:n<=64):Sm p p=some true:=by
 obtain⟨d,h1,h2,I,j⟩:=wA n p h;have B:SeqAt.shaped d=true:=by
  unfold SeqAt.shaped;rw[h2,Bool.true_and,kN];omega
 simp[Sm,h1,B,j]
def Mh{p:PV}{k:Bool}(h:TL p p=some k):k=true:=by
 cases p<;>simp at h<;>first|exact h|exact h.symm|cases h
def Bv{n:Nat}{p:PV}(h:HE n p)(j:n<=64):JJ p p=some true:=by
 unfold JJ;cases q:TL p p with
 |none=>exact Bu h j
 |some k=>rw[Mh q]
def oZ{n:Nat}{x:PV}{xs:sv}(h:HE (n+1) (.lst (x::xs)))(O:n<=60):JJ (.lst (x::xs)) (.lst [])=some false:=by
 have h':∀y∈x::xs,HE n y:=by simpa[HE]using h
 obtain⟨d,J,I,Z,M⟩:=wA n x (h' x bp);obtain⟨ds,g1,g2,U,Y⟩:=wz (wA n) xs λz hz=>h' z (aI _ hz);have B:SeqAt.shaped (.list (d::ds))=true:=by
  have h1:(PyData.list (d::ds)).canLay0=true:=by simp[PyData.canLay0,PyData.canLayAll0,I,g2]
  have h2:(PyData.list (d::ds)).depth<=64:=by simp only[PyData.depth,PyData.depthAll];omega
  simp[SeqAt.shaped,h1,h2]
 have j:SeqAt.shaped (.list [])=true:=by decide
 simp[JJ,TL,Sm,toD,fG,J,g1,B,j,PyData.eqv,PyData.eqvAll]
@[simp] def Wb:JJ (.lst []) (.lst [])=some true:=Bv (n:=1) (by simp[HE]) (by decide)
abbrev Row:=List Nat
def lx:Row->Row->Prop
 |a::x,b::y=>a<b\/(a=b/\lx x y)
 |_,_=>False
abbrev Pl:=List ((Int×Str)×Int)
section
variable {κ:Type}[DecidableEq κ]
def GZ{kvs:List (κ×PV)}{k:κ}(h:aV kvs k=none):(kvs.any λj=>decide (j.1=k))=false:=by
 unfold aV at h;rw[Option.map_eq_none_iff,iq]at h;rw[nr];exact h
def Bw{kvs:List (κ×PV)}{k:κ}(h:aV kvs k=none)(v:PV):cT kvs k v=kvs++[(k,v)]:=by
 unfold cT;rw[GZ h];rfl
def Ju(kvs:List (κ×PV))(k:κ)(v:PV)(j:κ):aV (kvs++[(k,v)]) j=(aV kvs j).or (if k=j then some v else none):=by
 unfold aV;rw[List.find?_append];cases h:kvs.find? λx=>decide (x.1=j)with
 |some y=>simp
 |none=>
  by_cases e:k=j
  ·simp[e]
  ·simp[e]
end
end Lake.My
namespace Lake.MR
open PySem L2
inductive EV(C:MC)(F:se)(H:Hp):St->Env->Prop
 |nil:EV C F H [] []
 |no {x:Option V}{EK:St}{env:Env}:EV C F H EK env->EV C F H (x::EK) (none::env)
 |co {v:V}{p:PV}{EK:St}{env:Env}:Rep C F H v p->EV C F H EK env->EV C F H (some v::EK) (some p::env)
section
variable {C:MC}{F F':se}{H H':Hp}{EK:St}{env:Env}{f:sf}{p:PV}{Q:VK}{X:Cx}{e:Expr}{D:Ends}{g:Env->Option Out}{da:Addr}{n:Nat}
def EV.len(E:EV C F H EK env):EK.length=env.length:=by
 induction E with
 |nil=>rfl
 |no _ j=>simp[j]
 |co _ _ j=>simp[j]
def EV.val(E:EV C F H EK env):∀(i:Nat) (p:PV),env[i]?=some (some p)->∃v,EK[i]?=some (some v)/\Rep C F H v p:=by
 induction E with
 |nil=>intro i q e;cases e
 |no _ j=>
  intro i q e;cases i with
  |zero=>cases e
  |succ i=>exact j i q e
 |co r _ j=>
  intro i q e;cases i with
  |zero=>cases e;exact⟨_,rfl,r⟩
  |succ i=>exact j i q e
def EV.ex(E:EV C F H EK env)(x:Ex F H F' H'):EV C F' H' EK env:=by
 induction E with
 |nil=>exact .nil
 |no _ j=>exact .no j
 |co r _ j=>exact .co (r.ex x) j
def EV.set{v:V}(r:Rep C F H v p)(E:EV C F H EK env):∀i,EV C F H (EK.set i (some v)) (env.set i (some p)):=by
 induction E with
 |nil=>exactλ_=>.nil
 |no E j=>
  intro i;cases i with
  |zero=>exact .co r E
  |succ i=>exact .no (j i)
 |co q E j=>
  intro i;cases i with
  |zero=>exact .co r E
  |succ i=>exact .co q (j i)
abbrev bx(C:MC)(F:se)(H:Hp):BX:=⟨C,F,H,λ_=>none⟩
def EV.er(E:EV C F H EK env):ER (bx C F H) (λ_=>False) [] EK env H:=
 ⟨E.len,DH.refl _,λ_ w=>w.elim,λ_ w=>w.elim,λi p e _=>let ⟨v,h,r⟩:=E.val i p e;⟨v,h,r.ex (bf λa o _ q=>⟨id,.inl q⟩)⟩,(λ_ _ _ n=>nomatch n),(λ_ _ _ _ _ _ n=>nomatch n),λ_ _ z=>nomatch z⟩
def tX(C:MC)(f:sf):TE:=fun EK H Q=>∃F,tM (bx C F H) [] .val f EK H Q
def jA(h:∀F H,SE X (bx C F H) [] .val e f):PE X e (tX C f):=λDE s EK H Q I ⟨F,q⟩=>h F H DE s EK H Q I q
def EV.x(E:EV C F H EK env)(j:∀a,H a=none->F a)(B:f env=some p)(k:∀v H',DH H H'->Rep C F H' v p->Q v H'):tX C f EK H Q:=
 ⟨F,_,env,p,E.er,B,λv H' s r=>k v H' s (Rep.ex (bf λa o e z=>z.2.elim id (j a)) r)⟩
def tXT(C:MC)(f:si):TT:=fun EK H Q=>∃F,Xv (bx C F H) [] f EK H Q
def Mi{f:si}(h:∀F H,ST X (bx C F H) [] e f):PT X e (tXT C f):=λDE s EK H Q I ⟨F,q⟩=>h F H DE s EK H Q I q
def EV.t{f:si}{c:Bool}{Q:Bool->Hp->Prop}(E:EV C F H EK env)(j:f env=some c)(k:∀H',DH H H'->Q c H'):tXT C f EK H Q:=⟨F,_,env,c,E.er,j,k⟩
def tXS(C:MC)(f:Env->Option Out):TS:=λD EK H=>∃F,tS (bx C F H) [] [] [] false f D EK H
def Vf{body:rg}(h:∀F H,MO X (bx C F H) [] [] [] false body g):FX X body (tXS C g):=λDE s EK H D I ⟨F,q⟩=>h F H DE s EK H D I q
def EV.s(E:EV C F H EK env)(j:∀a,H a=none->F a)(B:g env=some (.rt p))(k:∀v H',DH H H'->Rep C F H' v p->D.rt v H'):tXS C g D EK H:=
 ⟨F,_,env,_,E.er,B,λv H' s r=>k v H' s (Rep.ex (bf λa o e z=>z.elim id (j a)) r)⟩
end
open PySem L2 My
section
variable {C:MC}{F F':se}{H H':Hp}{da:Addr}{n:Nat}
structure KI(C:MC)(G:Str->Str->Option PV)(n:Nat)(F:se)(H:Hp)(da:Addr):Prop where
 ex:∃kv kvs,H da=some (.dT kv)/\D7 C F H kv kvs/\kvs.length<=n/\∀a b p,aV kvs [.k (.inr a),.k (.inr b)]=some p->G a b=some p
 nF:¬ F da
 nw:∀a,H a=none->F a
variable {G:Str->Str->Option PV}
def KI.up(K:KI C G n F H da)(s:DH H H'):KI C G n F H' da:=
 let ⟨kv,kvs,h,r,l,q⟩:=K.ex
 ⟨⟨kv,kvs,s _ _ h,r.ex (.of_same s),l,q⟩,K.nF,λa e=>K.nw a (s.free e)⟩
def KI.mono(K:KI C G n F H da){m:Nat}(h:n<=m):KI C G m F H da:=let ⟨kv,kvs,h1,r,l,q⟩:=K.ex;⟨⟨kv,kvs,h1,r,df l h,q⟩,K.nF,K.nw⟩
def Bt(da:Addr)(H H':Hp):Prop:=∀x o,H x=some o->x≠da->H' x=some o
def Bt.ex(B:Bt da H H')(K:KI C G n F H da):Ex F H F H':=λa o e=>⟨λq=>⟨B a o e λz=>K.nF (z▸q),q⟩,λm=>B a o e λz=>by
 obtain⟨j,_,h,_⟩:=K.ex;rw[z,h]at e;cases e;cases m⟩
def Bt.of(s:DH H H'):Bt da H H':=λx o e _=>s x o e
def Bt.trans{j:Hp}(B:Bt da H H')(I:Bt da H' j):Bt da H j:=λx o e n=>I x o (B x o e n) n
end
noncomputable def Sb(mi:sg):List PV->Option PV
 |[pm,.str a,.str b]=>(D6 pm (.str a)).bind λx=>(D6 pm (.str b)).bind λy=>mi [x,y]
 |_=>none
abbrev sbE(mi:sg):Env->Option PV:=bh mi (ak (b2 D6 (bV 0) (bV 2)) (ak (b2 D6 (bV 0) (bV 3)) aK))
def Bx(C:MC)(mi:sg):Sp:=λvs H Q _=>∃F n pm vm da a b p,vs=[vm,.ref da,.str a,.str b]/\Rep C F H vm pm/\KI C (λa b=>Sb mi [pm,.str a,.str b]) n F H da/\n<1000000/\Sb mi [pm,.str a,.str b]=some p /\
 ∀v H',KI C (λa b=>Sb mi [pm,.str a,.str b]) (n+1) F H' da->Bt da H H'->Rep C F H' v p->Q v H'
variable {C:MC}{vs:sx}{H:Hp}
def Mj{j:sg}{Q:VK}{E:XK}(h:Bx C j vs H Q E):vs.length=4:=by
 obtain⟨F,n,pm,B,da,a,b,p,e,_⟩:=h;rw[e];rfl
abbrev tK2:TE:=qe (aL (DM 2) (aL (DM 3) bu))
def tSb(C:MC)(mi:sg):TS:=bG (iC (tB (h_ C.K tK2 (DM 1))) (mq C.K (DM 1) tK2 (tX C (sbE mi))) gB) (d9 (qj C.K (DM 1) tK2))
def wB{t:Addr}{a b:Str}(h:H t=some (.tup [.str a,.str b])):FV C.K H t [.k (.inr a),.k (.inr b)]:=
 IB.key (.inl h) (DI.EG (C:=C) (A:=λ_=>False) (.cons (.str a) (.cons (.str b) .nil)) rfl)
def S8{mi:sg}{Q:VK}{E:XK}(h:Bx C mi vs H Q E):tSb C mi {nx:=λ_ H'=>Q .DS H',rt:=Q} (L2.start ["metres","known","one","other"] vs) H:=by
 obtain⟨F,n,pm,vm,da,a,b,p,rfl,rm,j,hn,hp,q⟩:=h;obtain⟨O,kvs,HC,rk,hl,hq⟩:=id j.ex;obtain⟨x,hx,J⟩:=ai.mp (show((D6 pm (.str a)).bind _)=_ from hp);obtain⟨y,hy,J⟩:=ai.mp J;show tSb C mi _ [some vm,some (.ref da),some (.str a),some (.str b)] H;unfold tSb;dsimp only[bG,iC,tB,h_,qe,aL,bu,DM,gB,d9,qj,mq];have B:([.str a,.str b]:sx).length<=sizeLine:=by show(2:Nat)<=sizeLine;decide
 refine⟨_,rfl,_,rfl,B,λt ht=>⟨_,rfl,da,_,rfl,EN.t (aG ht _ _ _ HC) (wB aq),_,rfl,?_⟩⟩;have Y:=aG ht (.tup [.str a,.str b]);generalize upd H t (.tup [.str a,.str b])=H1 at Y ⊢;rcases D7.val (k:=[.k (.inr a),.k (.inr b)]) rk with⟨v,pv,g1,g2,rv⟩|⟨g1,g2⟩
 ·rw[g1]
  refine jP ⟨_,rfl,_,rfl,_,rfl,B,λt2 Sn=>?_⟩;have U:=Y.trans (aG Sn (.tup [.str a,.str b]));refine⟨da,_,rfl,g1▸EN.t (U _ _ HC) (wB aq),?_⟩;have e:p=pv:=bq (hp.symm.trans (hq a b pv g2));rw[e]at q;exact q v _ ((j.up U).mono (hJ n)) (.of U) (rv.ex (.of_same U))
 ·rw[g1]
  have E1:EV C F H1 [some vm,some (.ref da),some (.str a),some (.str b)] [some pm,none,some (.str a),some (.str b)]:=.co (rm.ex (.of_same Y)) (.no (.co (.str a) (.co (.str b) .nil)));refine iD (E1.x (λc e=>j.nw c (Y.free e)) (p:=p) (by simp only[Kw,Kv,zg,Nj,O9,oP,kF,bE,hx,hy,J]) λv H2 U rv=>⟨_,rfl,_,rfl,_,rfl,B,λt2 Sn=>?_⟩);have s3:=(Y.trans U).trans (aG Sn (.tup [.str a,.str b]));have I:=rv.ex (.of_same (aG Sn (.tup [.str a,.str b])));have k3:=wB (C:=C) (aq (H:=H2) (a:=t2) (o:=.tup [.str a,.str b]));generalize upd H2 t2 (.tup [.str a,.str b])=M at s3 I k3 ⊢;have Ze:=s3 _ _ HC;refine⟨da,_,rfl,LJ.t Ze k3 (cg (by rw[rk.length];omega)),_,rfl,_,rfl,_,rfl,B,λt4 ht4=>?_⟩;have K3:=j.up s3;have h4:upd M da (.dT (putK O [.k (.inr a),.k (.inr b)] v)) da=some (.dT (putK O [.k (.inr a),.k (.inr b)] v)):=aq;have B4:Bt da M (upd M da (.dT (putK O [.k (.inr a),.k (.inr b)] v))):=λx o e n=>by rw[az n];exact e
  have n4:∀c,upd M da (.dT (putK O [.k (.inr a),.k (.inr b)] v)) c=none->M c=none:=λc e=>by
   by_cases z:c=da
   ·rw[z,h4]at e;cases e
   ·rw[az z]at e;exact e
  generalize upd M da (.dT (putK O [.k (.inr a),.k (.inr b)] v))=H4 at ht4 h4 B4 n4 ⊢;have s5:=aG ht4 (.tup [.str a,.str b]);have g3:cH (putK O [.k (.inr a),.k (.inr b)] v) [.k (.inr a),.k (.inr b)]=some v:=by rw[uJ,bX rfl]
  refine⟨da,v,rfl,g3▸EN.t (s5 _ _ h4) (wB aq),?_⟩;have x4:=B4.ex K3;have gl:aV kvs [.k (.inr a),.k (.inr b)]=none:=g2;refine q v _ (KI.up ⟨⟨_,_,h4,D7.put (I.ex x4) ((rk.ex (.of_same s3)).ex x4),?_,λa' b' p' e=>?_⟩,j.nF,λc e=>K3.nw c (n4 c e)⟩ s5) (((Bt.of s3).trans B4).trans (.of s5)) ((I.ex x4).ex (.of_same s5))
  ·rw[Bw gl,ci]
   simpa using hl
  ·rw[Bw gl,Ju]at e
   cases z:aV kvs [.k (.inr a'),.k (.inr b')]with
   |some Z=>
    rw[z]at e;rw[←show Z=p' by simpa using e];exact hq a' b' Z z
   |none=>
    rw[z]at e;by_cases w:([.k (.inr a),.k (.inr b)]:List DF)=[.k (.inr a'),.k (.inr b')]
    ·rw[bX w]at e
     have e2:p=p':=by simpa using e
     simp only[List.cons.injEq,DF.k.injEq,Sum.inr.injEq,and_true]at w;rw[←w.1,←w.2,←e2];exact hp
    ·rw[bt w]at e;cases e
def set_inv{i:Nat}{f:sf}{g:Env->Option Out}{env:Env}{o:Out}(h:aN (aZ i f) g env=some o):∃q,f env=some q/\g (env.set i (some q))=some o:=by
 obtain⟨x,j,h⟩:=ai.mp (show((aZ i f env).bind _)=_ from h);obtain⟨q,B,e⟩:=ai.mp (show((f env).bind _)=_ from j);cases e;exact⟨q,B,h⟩
noncomputable def fbF(mi:sg)(e1 e2 eA eB:sf)(rest:Env->Option Out):Env->Option Out:=
 aN (aZ 5 e1) (aN (aZ 6 e2) (aN (aZ 7 (bh (Sb mi) (DD 0 (ak eA (ak eB aK))))) rest))
noncomputable def miF(f:Env->Option Out):List PV->Option PV
 |[m,x,y,n]=>(f [some m,none,some x,some y,some n,none,none,none,none]).bind λo=>match o with
  |.rt p=>some p
  |_=>none
 |_=>none
def By(C:MC)(mi:sg)(mf:sg):Sp:=λvs H Q _=>∃F n pm p1 p2 p3 vm v1 v2 v3 da p,vs=[vm,.ref da,v1,v2,v3]/\Rep C F H vm pm/\Rep C F H v1 p1/\Rep C F H v2 p2/\Rep C F H v3 p3/\KI C (λa b=>Sb mi [pm,.str a,.str b]) n F H da/\n<1000000/\mf [pm,p1,p2,p3]=some p /\
 ∀v H',KI C (λa b=>Sb mi [pm,.str a,.str b]) (n+1) F H' da->Bt da H H'->Rep C F H' v p->Q v H'
def Ml{B j:sg}{Q:VK}{E:XK}(h:By C B j vs H Q E):vs.length=5:=by
 obtain⟨F,n,pm,p1,p2,U,M,I,O,J,da,p,e,_⟩:=h;rw[e];rfl
def tFi(C:MC)(mi:sg)(e1 e2 eA eB:sf)(rest:Env->Option Out):TS:=
 bG (cG (tX C e1) (aW 5)) (bG (cG (tX C e2) (aW 6)) (bG (cG (eZ (Bx C mi) [] E0 (aL (DM 0) (aL (DM 1) (aL (tX C eA) (aL (tX C eB) bu))))) (aW 7)) (tXS C rest)))
def S9{J:sg}{e1 e2 I B:sf}{rest:Env->Option Out}{Q:VK}{E:XK}(h:By C J (miF (fbF J e1 e2 I B rest)) vs H Q E):
  tFi C J e1 e2 I B rest {nx:=λ_ H'=>Q .DS H',rt:=Q} (L2.start ["metres","known","one","other","number","many","back","said","free"] vs) H:=by
 obtain⟨F,n,pm,p1,p2,p3,vm,v1,v2,v3,da,p,rfl,rm,r1,r2,r3,K0,hn,O,q⟩:=h;obtain⟨o,j,O⟩:=ai.mp (show((fbF J e1 e2 I B rest _).bind _)=_ from O);obtain⟨q5,h5,j⟩:=set_inv j;obtain⟨q6,h6,j⟩:=set_inv j;obtain⟨q7,M,j⟩:=set_inv j;cases o<;>first|(cases O;done)|skip
 cases O;obtain⟨l,hl,M⟩:=ai.mp (show((DD 0 (ak I (ak B aK)) _).bind _)=_ from M);obtain⟨m,hm,Sr⟩:=ai.mp (show((bV 0 _).bind _)=_ from hl);cases hm;obtain⟨l1,OQ,z1⟩:=ai.mp Sr;obtain⟨pa,ha,Y⟩:=ai.mp (show((I _).bind _)=_ from OQ);obtain⟨l2,hl4,z2⟩:=ai.mp Y;obtain⟨pb,hb,z3⟩:=ai.mp (show((B _).bind _)=_ from hl4);cases z3;cases z2;cases z1;show tFi C J e1 e2 I B rest _ [some vm,some (.ref da),some v1,some v2,some v3,none,none,none,none] H;unfold tFi;dsimp only[bG,cG,aW,eZ,aL,bu,DM];have E0:EV C F H [some vm,some (.ref da),some v1,some v2,some v3,none,none,none,none] [some pm,none,some p1,some p2,some p3,none,none,none,none]:=.co rm (.no (.co r1 (.co r2 (.co r3 (.no (.no (.no (.no .nil))))))));refine E0.x K0.nw h5 λw5 H1 s1 r5=>?_;have K1:=K0.up s1;have E1:=(E0.ex (.of_same s1)).set r5 5;refine E1.x K1.nw h6 λw6 H2 Z r6=>?_;have K2:=K1.up Z;have E2:=(E1.ex (.of_same Z)).set r6 6;refine⟨_,rfl,_,rfl,E2.x K2.nw ha λwa H3 s3 ra=>?_⟩;have K3:=K2.up s3;have E3:=E2.ex (.of_same s3);refine E3.x K3.nw hb λwb H4 U rb=>?_;have K4:=K3.up U;have E4:=E3.ex (.of_same U);cases pa<;>first|(cases M;done)|skip
 cases pb<;>first|(cases M;done)|skip
 obtain rfl:=DO.str (.inl (ra.ex (.of_same U)));obtain rfl:=DO.str (.inl rb);obtain⟨_,e,rm4⟩:=E4.val 0 pm rfl;cases e;refine⟨F,n,pm,_,da,_,_,q7,rfl,rm4,K4,hn,M,λw7 H5 K5 B5 r7=>?_⟩;have E5:=(E4.ex (B5.ex K4)).set r7 7;refine E5.s K5.nw j λv H6 s6 r6=>?_;exact q v H6 (K5.up s6) ((((Bt.of s1).trans (.of Z)).trans ((Bt.of s3).trans (.of U))).trans (B5.trans (.of s6))) r6
noncomputable def Z6(fi:sg)(m pl bs:PV):List Nat->Option PV
 |[]=>some .DS
 |j::r=>(fi [m,pl,bs,.int j]).bind λx=>if iG x=true then Z6 fi m pl bs r else some x
noncomputable def fwT(pr po fi:sg)(m one other:PV):List PV->Option PV
 |[]=>some .DS
 |t::r=>(pr [one,t]).bind λpl=>match pl with
  |.lst xs=>if xs.length<=1000 then(po [other,.int (xs.length:Nat)]).bind λbs=>if iG bs=true then some (.tup [.str "rows",.int (xs.length:Nat)])else
   (Z6 fi m (.lst xs) bs (List.range xs.length)).bind λx=>if iG x=true then fwT pr po fi m one other r else some x
   else none
  |_=>none
noncomputable def G3(rf tm pr po fi:sg):List PV->Option PV
 |[one,other,m]=>(rf [m,one]).bind λ_=>(rf [m,other]).bind λ_=>(tm [one]).bind λts=>match ts with
  |.lst ts=>if ts.length<=1000 then fwT pr po fi m one other ts else none
  |_=>none
 |_=>none
abbrev Z8(mi:sg)(i j:Nat):Env->Option PV:=bh mi (ak (bV i) (ak (bV j) aK))
abbrev eLn:Env->Option PV:=b1 F6 (bV 5)
def Mm(C:MC)(mi fi:sg):TS:=
 bG (cG (eZ (By C mi fi) [] E0 (aL (DM 2) (aL (DM 3) (aL (DM 5) (aL (DM 6) (aL (DM 7) bu)))))) (aW 8)) (iC (tXT C (tV (b2 gf (bV 8) (bC .DS)))) (d9 (DM 8)) gB)
def S_(C:MC)(mi fi pr po:sg):TS:=
 bG (cG (tX C (Z8 pr 0 4)) (aW 5)) (bG (cG (tX C (bh po (DD 1 (ak eLn aK)))) (aW 6))
  (bG (iC (tXT C (tV (b2 OT (bV 6) (bC .DS)))) (d9 (tX C (bQ (ak (bC (.str "rows")) (ak eLn aK))))) gB)
   (uI (vG (aL (tX C eLn) bu)) (aW 7) (Mm C mi fi))))
def tFw(C:MC)(mi rf tm pr po fi:sg):TS:=
 bG (kJ (tX C (Z8 rf 2 0))) (bG (kJ (tX C (Z8 rf 2 1))) (bG (cG zY (aW 3)) (bG (uI (vD C.K (tX C (bh tm (DD 0 aK)))) (aW 4) (S_ C mi fi pr po)) (d9 (tC .DS)))))
section
variable {C:MC}{mi fi pr po:sg}{F:se}{H:Hp}{D:Ends}{da:Addr}{n:Nat}{pm p1 p2 out:PV}{v1 v2 vm vt vl vb:V}{x7 x8:Option V}
def Qf{env:Env}{i:Nat}{p:PV}(h:bV i env=some p):(tV (b2 OT (bV i) (bC .DS))) env=some (iG p):=by
 simp only[Nk,zg,FN,h,bE];cases p<;>rfl
def Mp{env:Env}{i:Nat}{p:PV}(h:bV i env=some p):(tV (b2 gf (bV i) (bC .DS))) env=some (!iG p):=by
 simp only[Nk,zg,FN,h,bE];cases p<;>rfl
def Qg{xs:sv}{bs:PV}(hx:xs.length<=1000)(r1:Rep C F H v1 p1)(r2:Rep C F H v2 p2)(rm:Rep C F H vm pm)(rl:Rep C F H vl (.lst xs))(rb:Rep C F H vb bs)(K:KI C (λa b=>Sb mi [pm,.str a,.str b]) n F H da)(hn:n+1000<=1000000)(h:Z6 fi pm (.lst xs) bs (List.range xs.length)=some out)
  (q1:∀H' y7 y8,iG out=true->KI C (λa b=>Sb mi [pm,.str a,.str b]) (n+1000) F H' da->Bt da H H'->D.nx [some v1,some v2,some vm,some (.ref da),some vt,some vl,some vb,y7,y8] H')
  (q2:∀v H',iG out=false->KI C (λa b=>Sb mi [pm,.str a,.str b]) (n+1000) F H' da->Bt da H H'->Rep C F H' v out->D.rt v H'):
  uI (vG (aL (tX C eLn) bu)) (aW 7) (Mm C mi fi) D [some v1,some v2,some vm,some (.ref da),some vt,some vl,some vb,x7,x8] H:=by
 have Ev:∀{H1:Hp}{y7 y8:Option V},Ex F H F H1->EV C F H1 [some v1,some v2,some vm,some (.ref da),some vt,some vl,some vb,y7,y8] [some p1,some p2,some pm,none,none,some (.lst xs),some bs,none,none]:=λx=>.co (r1.ex x) (.co (r2.ex x) (.co (rm.ex x) (.no (.no (.co (rl.ex x) (.co (rb.ex x) (.no (.no .nil))))))));refine(Ev (Ex.refl _ _)).x K.nw (p:=.int (xs.length:Nat)) (by simp) λv H1 Z r=>?_;rw[DO.int (.inl r)];refine⟨(xs.length:Nat),rfl,by omega,by omega,?_⟩;refine Hz (lo:=0) (n:=((xs.length:Nat):Int).toNat) (λj EK H'=>∃y7 y8,EK=[some v1,some v2,some vm,some (.ref da),some vt,some vl,some vb,y7,y8]/\KI C (λa b=>Sb mi [pm,.str a,.str b]) (n+j) F H' da/\Bt da H H'/\Z6 fi pm (.lst xs) bs ((List.range xs.length).drop j)=some out)
  ⟨x7,x8,rfl,K.up Z,.of Z,h⟩ (λj EK H2 hj ⟨y7,y8,e,J,I,h2⟩=>?_) fun EK H2 ⟨y7,y8,e,J,I,h2⟩=>?_
 ·subst e
  have U:j<xs.length:=by simpa using hj
  rw[cq (by simpa using U),List.getElem_range]at h2;obtain⟨x,Q1,h2⟩:=ai.mp (show((fi [pm,.lst xs,bs,.int j]).bind _)=_ from h2);have O:=I.ex K;unfold Mm;dsimp only[aW,bG,cG,eZ,aL,bu,DM,iC,d9,gB];refine⟨_,rfl,_,rfl,_,rfl,_,rfl,_,rfl,?_⟩;have e0:(0+(j:Int))=(j:Int):=by omega
  refine⟨F,n+j,pm,_,_,_,vm,vl,vb,_,da,x,rfl,rm.ex O,rl.ex O,rb.ex O,(by rw[e0];exact .int _),J,by omega,Q1,λv H3 K3 B3 r3=>?_⟩;have B:=I.trans B3;have E3:=(Ev (y7:=some (.int (0+(j:Int)))) (y8:=y8) (B.ex K)).set r3 8;refine E3.t (Mp (i:=8) rfl) λH4 M=>?_;have K4:=K3.up M;have Y:=B.trans (.of M);cases hz:iG x with
  |true=>
   rw[hz,bX rfl]at h2;exact jP ⟨_,_,rfl,K4,Y,h2⟩
  |false=>
   rw[hz,bt (by decide)]at h2;cases h2;exact iD ⟨_,rfl,q2 v H4 hz (K4.mono (by omega)) Y (r3.ex (.of_same M))⟩
 ·subst e
  rw[kT (by simp)]at h2;cases h2;exact q1 H2 y7 y8 rfl (J.mono (by simp;omega)) I
end
set_option tactic.hygienic true in def Tc{mi rf tm pr po fi:sg}{Q:VK}{E:XK}(h:HA C (G3 rf tm pr po fi) false vs H Q E):
  tFw C mi rf tm pr po fi {nx:=λ_ H'=>Q .DS H',rt:=Q} (L2.start ["one","other","metres","known","times","plain","beside","number","fault"] vs) H:=by
 obtain⟨A,ps,p,r,J,q⟩:=h;unfold G3 at J;split at J
 ·rename_i p1 p2 pm
  obtain⟨_,h1,J⟩:=ai.mp J;obtain⟨_,h2,J⟩:=ai.mp J;obtain⟨ts,h3,J⟩:=ai.mp J;split at J
  ·rename_i ts
   split at J
   ·rename_i hts
    cases r with
    |cons r1 r=>cases r with
     |cons r2 r=>cases r with
      |cons rm r=>
       cases r;rename_i v1 v2 vm;have nA:∀{H':Hp},DH H H'->∀a,H' a=none->(A a\/H a=none):=λs a e=>.inr (s.free e);have wk:Ex A H (λc=>A c\/H c=none) H:=bf λ_ _ _ z=>.inl z;have Ev:∀{H1:Hp}{F1:se}{x3 x4 x5 x6 x7 x8:Option V},Ex A H F1 H1->EV C F1 H1 [some v1,some v2,some vm,x3,x4,x5,x6,x7,x8] [some p1,some p2,some pm,none,none,none,none,none,none]:=λx=>.co (r1.ex x) (.co (r2.ex x) (.co (rm.ex x) (.no (.no (.no (.no (.no (.no .nil))))))));show tFw C mi rf tm pr po fi _ [some v1,some v2,some vm,none,none,none,none,none,none] H;unfold tFw;dsimp only[bG,kJ,cG,aW,d9,tC,zY];refine(Ev wk).x (λa e=>.inr e) (show Z8 rf 2 0 _=_ from h1) λ_ H1 s1 _=>?_;refine(Ev (wk.trans (.of_same s1))).x (nA s1) (show Z8 rf 2 1 _=_ from h2) λ_ H2 s2 _=>?_;have s12:=s1.trans s2;intro da HC;have s3:=s12.trans (aG HC (.dT []));have Ze:upd H2 da (.dT []) da=some (.dT []):=aq;have hd0:H da=none:=s12.free HC;generalize upd H2 da (.dT [])=H3 at s3 Ze ⊢;obtain⟨F,hF⟩:∃F:Addr->Prop,F=λc=>c≠da/\((A c/\∃o,H c=some o)\/H c=none):=⟨_,rfl⟩;have nF:¬ F da:=by rw[hF];exactλz=>z.1 rfl
       have nw3:∀a,H3 a=none->F a:=λa e=>by rw[hF];exact⟨(λz=>by rw[z,Ze]at e;cases e),.inr (s3.free e)⟩
       have x3:Ex A H F H3:=λa o e=>⟨λz=>⟨s3 a o e,by rw[hF];exact⟨au e hd0,.inl ⟨z,o,e⟩⟩⟩,λ_=>s3 a o e⟩;have K3:KI C (λa b=>Sb mi [pm,.str a,.str b]) 0 F H3 da:=⟨⟨[],[],Ze,.nil,ax _,λ_ _ _ e=>nomatch e⟩,nF,nw3⟩;have O:∀{H':Hp},Bt da H3 H'->DH H H':=λB a o e=>B a o (s3 a o e) (au e hd0);have ret:∀{H':Hp}{v:V}{y:PV},Bt da H3 H'->Rep C F H' v y->Rep C (λc=>A c\/H c=none) H' v y:=λB r=>r.ex (bf λa o _ z=>by rw[hF]at z;exact z.2.imp And.left id);refine(Ev x3).x nw3 (p:=.lst ts) (by simpa using h3) λvl H4 s4 rl=>?_;obtain⟨a,us,rfl,ha,ra⟩:=DO.lst (.inl rl);have na:a≠da:=by cases rl with|lst _ z _=>rw[hF]at z;exact z.1
       refine⟨a,rfl,⟨us,EJ.of ha⟩,?_⟩;have lu:us.length=ts.length:=ra.length;refine zP (K:=C.K) (a:=a) (xs:=us) (λj EK H'=>∃x4 x5 x6 x7 x8,EK=[some v1,some v2,some vm,some (.ref da),x4,x5,x6,x7,x8]/\KI C (λa b=>Sb mi [pm,.str a,.str b]) (j*1000) F H' da/\Bt da H4 H'/\fwT pr po fi pm p1 p2 (ts.drop j)=some p)
        ⟨_,_,_,_,_,rfl,by simpa using K3.up s4,λ_ _ e _=>e,J⟩ (λj EK H5 _ ⟨_,_,_,_,_,_,_,Y,_⟩=>EJ.of (Y _ _ ha na)) (λj x EK H5 hx ⟨x4,x5,x6,x7,x8,e,K5,Y,I⟩=>?_) fun EK H5 ⟨x4,x5,x6,x7,x8,e,K5,Y,I⟩=>?_
       ·subst e
        have U:Bt da H3 H5:=(Bt.of s4).trans Y;have hj:j<ts.length:=by rw[←lu];exact(ap.mp hx).1
        obtain⟨t,ht,rt⟩:=ra.get' hx;rw[cq hj,show ts[j]=t by rw[aw hj]at ht;exact bq ht]at I;obtain⟨pl,ES,I⟩:=ai.mp (show((pr [p1,t]).bind _)=_ from I);split at I
        ·rename_i xs
         split at I
         ·rename_i YZ
          obtain⟨bs,hbs,I⟩:=ai.mp I;have xA:Ex A H F H5:=x3.trans (U.ex K3);have rt5:=rt.ex (Y.ex (K3.up s4));unfold S_;dsimp only[aW,bG,cG,iC,d9,gB];have E5:=(Ev (x3:=some (.ref da)) (x4:=x4) (x5:=x5) (x6:=x6) (x7:=x7) (x8:=x8) xA).set rt5 4;refine E5.x K5.nw (show Z8 pr 0 4 _=_ from ES) λvp H6 s6 r6=>?_;have K6:=K5.up s6;have E6:=(E5.ex (.of_same s6)).set r6 5;refine E6.x K6.nw (p:=bs) (by simpa using hbs) λvb H7 s7 r7=>?_;have K7:=K6.up s7;have E7:=(E6.ex (.of_same s7)).set r7 6;refine E7.t (Qf (i:=6) rfl) λH8 s8=>?_;have K8:=K7.up s8;have E8:=E7.ex (.of_same s8);have M:=(s6.trans s7).trans s8;cases hz:iG bs with
          |true=>
           rw[hz,bX rfl]at I;cases I;refine iD (E8.x K8.nw (p:=.tup [.str "rows",.int (xs.length:Nat)]) (by simp) λv H9 s9 r9=>?_);have B9:=U.trans (.of (M.trans s9));exact q v H9 (O B9) (ret B9 r9)
          |false=>
           refine jP ?_;rw[hz,bt (by decide)]at I;obtain⟨x,Q1,I⟩:=ai.mp I;have Z:Ex A H F H8:=xA.trans (.of_same M);refine Qg (n:=j*1000) (pm:=pm) (p1:=p1) (p2:=p2) YZ (r1.ex Z) (r2.ex Z) (rm.ex Z) (r6.ex (.of_same (s7.trans s8))) (r7.ex (.of_same s8)) K8 (by omega) Q1 (λH9 y7 y8 ez K9 B9=>?_) λv H9 ez K9 B9 r9=>?_
           ·rw[ez,bX rfl]at I
            exact⟨_,_,_,_,_,rfl,by rw[pi];exact K9,Y.trans ((Bt.of M).trans B9),I⟩
           ·rw[ez,bt (by decide)]at I
            cases I;have B:=U.trans ((Bt.of M).trans B9);exact q v H9 (O B) (ret B r9)
         ·cases I
        ·cases I
       ·subst e
        rw[kT (by rw[lu];exact ax _)]at I;cases I;have B:=(Bt.of s4).trans Y;exact q .DS H5 (O B) .DS
   ·cases J
  ·cases J
 ·cases J
noncomputable def Zo(x y:PV):Option PV:=(jX x y).map λk=>.bl k
@[simp] def Wx(x y:PV):Zo x y=((jX x y).map λk=>.bl k):=id rfl
def Td{b:BX}:NF b .val (ZT b.C.K false) Zo:=by
 intro Ow H v1 v2 p1 p2 p Q J I B e k;obtain⟨c,q,rfl⟩:=ba.mp e;have h:=yC Ow H v1 v2 p1 p2 (.bl (!c)) (λv H'=>∀j,v=.bl j->Q (.bl (!j)) H') J I B (by rw[Ji,q];rfl) λv H' s r=>by
  rw[DO.bl (.inl r)];rintro j e;cases e;rw[Bool.not_not];exact k _ H' s (.bl _)
 obtain⟨a,vs,e1,e2,e3,e4,h⟩:=h;refine⟨a,vs,e1,e2,e3,e4,?_⟩;have:=h _ rfl;simpa using this
def wC{X:Cx}{b:BX}{G:oT}{m1 m2:Md}{e1 e2:Expr}{f1 f2:sf}(h1:SE X b G m1 e1 f1)(h2:SE X b G m2 e2 f2)(B:autoParam (behindInMarks .In e2=false) r0_)(j:autoParam (X.K=b.C.K) r0_):SC X b G .In e1 e2 (b2 Zo f1 f2):=
 iW (r:=ZT b.C.K false) (by rw[←j];exact Ia) Td h1 h2 B
@[simp] noncomputable def Z9:PV->PV->Option PV
 |.str x,.str y=>some (.bl (!(Builtin.Str.occurrences y x 0 y.length 1).isEmpty))
 |_,_=>none
def Te{X:Cx}{b:BX}{G:oT}{m1 m2:Md}{e1 e2:Expr}{f1 f2:sf}(h1:SE X b G m1 e1 f1)(h2:SE X b G m2 e2 f2)(I:autoParam (behindInMarks .In e2=false) r0_):SC X b G .In e1 e2 (b2 Z9 f1 f2):=by
 refine iW HF (λOw H v1 v2 p1 p2 p Q J B j e k=>?_) h1 h2 I;unfold Z9 at e;split at e
 ·cases e
  exact⟨_,_,B.str,j.str,k _ H (DH.refl _) (.bl _)⟩
 ·cases e
noncomputable def pW:PV->PV->Option PV
 |x,.dK kvs=>(keyOf x).map λk=>.bl (!(aV kvs k).isSome)
 |_,_=>none
def sV{X:Cx}{b:BX}{G:oT}{m1 m2:Md}{e1 e2:Expr}{f1 f2:sf}{j:Nat}(Y:Ee j X.A)(h1:SE X b G m1 e1 f1)(h2:SE X b G m2 e2 f2)(O:autoParam (behindInMarks .NotIn e2=false) r0_)(J:autoParam (X.K=b.C.K) r0_):SC X b G .NotIn e1 e2 (b2 pW f1 f2):=by
 refine iW (r:=λx y H Q=>∃a o,y=.ref a/\EN b.C.K H a x o/\Q (.bl (!o.isSome)) H) (by rw[←J];exact Iu (d7 Y)) (λOw H v1 v2 p1 p2 p Q Z I B e k=>?_) h1 h2 O;unfold pW at e;split at e
 ·obtain⟨c,q,rfl⟩:=ba.mp e
  obtain⟨a,kv,rfl,U,M⟩:=B.dK;rw[I.key q];refine⟨a,_,rfl,EN.k U,?_⟩;rcases M.val (k:=c)with⟨v,p,g1,g2,_⟩|⟨g1,g2⟩
  ·rw[g1]
   have e:aV _ c=some p:=g2;rw[e]at k;exact k _ H (DH.refl _) (.bl _)
  ·rw[g1]
   have e:aV _ c=none:=g2;rw[e]at k;exact k _ H (DH.refl _) (.bl _)
 ·cases e
theorem Eh{C:MC}{A:se}{H:Hp}:∀{vs:sx}{ps:sv},vs.length=ps.length->(∀(i:Nat) (v:V) (p:PV),vs[i]?=some v->ps[i]?=some p->Rep C A H v p)->DI C A H vs ps
 |[],[],_,_=>.nil
 |v::vs,p::ps,h,r=>.cons (r 0 v p rfl rfl) (Eh (by simpa using h) λi v p a b=>r (i+1) v p a b)
abbrev ctE(w n:Nat)(p:PV):Env:=[none,none,some (.int w),some (.int n),some p]
noncomputable def jY(f:si):Nat->Nat->List (List PV)->List PV->Option (List (List PV))
 |_,_,L,[]=>some L
 |w,n,L,p::r=>(f (ctE w n p)).bind λb=>if b=true then jY f (w+1) n L r else
  if w<L.length/\(L.getD w []).length<1000000 then jY f w (n+1) (L.set w (L.getD w []++[.tup [.int ((n+1:Nat):Int),p]])) r else none
noncomputable def xP(f:si):List PV->Option PV
 |[.tup ps]=>(jY f 0 0 [[],[],[]] ps).map λL=>.lst (L.map .lst)
 |_=>none
abbrev inc(i:Nat):Env->Option PV:=b2 lN (bV i) (DC 1)
def Tf(C:MC)(f:si):TS:=iC (tXT C f) (cG (tX C (inc 2)) (aW 2)) (bG (cG (tX C (inc 3)) (aW 3)) (kJ (Yc C.K "list" tW (QO (uK C.K) (DM 1) (DM 2)) (aL (qe (aL (DM 3) (aL (DM 4) bu))) bu))))
def tCt(C:MC)(f:si):TS:=
 bG (cG (mQ (aL (mQ bu) (aL (mQ bu) (aL (mQ bu) bu)))) (aW 1)) (bG (cG (tC (.int 0)) (aW 2)) (bG (cG (tC (.int 0)) (aW 3)) (bG (uI (Fe C.K (DM 0)) (aW 4) (Tf C f)) (d9 (DM 1)))))
def Tg{f:si}{Q:VK}{E:XK}(h:HA C (xP f) false vs H Q E):vs.length=1:=by
 obtain⟨A,ps,p,r,j,_⟩:=h;rw[r.length];unfold xP at j;split at j
 ·rfl
 ·cases j
set_option tactic.hygienic true in def Th{f:si}{Q:VK}{E:XK}(h:HA C (xP f) false vs H Q E):
  tCt C f {nx:=λ_ H'=>Q .DS H',rt:=Q} (L2.start ["form","lists","where","number","part"] vs) H:=by
 obtain⟨A,ps,p,r,hm,q⟩:=h;unfold xP at hm;split at hm
 ·rename_i ps
  obtain⟨L,hL,rfl⟩:=ba.mp hm;cases r with
  |cons r0 r=>
   cases r;rename_i v0;show tCt C f _ [some v0,none,none,none,none] H;unfold tCt;dsimp only[bG,cG,aW,d9,DM,tC,mQ,aL,bu];refine⟨cm _,λB n0=>⟨cm _,λI n1=>⟨cm _,λJ n2=>⟨by show(3:Nat)<=sizeLine;decide,λO n3=>?_⟩⟩⟩⟩;have s0:=aG n0 (.lst []);have s1:=aG n1 (.lst []);have s2:=aG n2 (.lst []);have Y:=aG n3 (.lst [.ref B,.ref I,.ref J]);have h0:=Y _ _ (s2 _ _ (s1 _ _ (aq (H:=H) (a:=B) (o:=.lst []))));have h1:=Y _ _ (s2 _ _ (aq (H:=upd H B (.lst [])) (a:=I) (o:=.lst [])));have h2:=Y _ _ (aq (H:=upd (upd H B (.lst [])) I (.lst [])) (a:=J) (o:=.lst []));have h3:upd (upd (upd (upd H B (.lst [])) I (.lst [])) J (.lst [])) O (.lst [.ref B,.ref I,.ref J]) O=some (.lst ([B,I,J].map V.ref)):=aq;have d01:B≠I:=au aq n1;have d02:B≠J:=au (s1 _ _ aq) n2;have d12:I≠J:=au aq n2;have dl:O∉[B,I,J]:=λz=>by
    simp only[br,b6,fq]at z;rcases z with z|z|z
    ·rw[z,s2 _ _ (s1 _ _ aq)]at n3;cases n3
    ·rw[z,s2 _ _ aq]at n3;cases n3
    ·rw[z,aq]at n3;cases n3
   have nd:[B,I,J].Nodup:=by simp[d01,d02,d12]
   have sm:=((s0.trans s1).trans s2).trans Y;have new:∀a∈[B,I,J],H a=none:=λa z=>by
    simp only[br,b6,fq]at z;rcases z with z|z|z<;>rw[z]
    ·exact n0
    ·exact s0.free n1
    ·exact(s0.trans s1).free n2
   have nl:H O=none:=((s0.trans s1).trans s2).free n3;have bg:∀(i:Nat) (a:Addr),[B,I,J][i]?=some a->∃us,upd (upd (upd (upd H B (.lst [])) I (.lst [])) J (.lst [])) O (.lst [.ref B,.ref I,.ref J]) a=some (.lst us)/\DI C (λc=>c≠O/\c∉[B,I,J]/\(A c\/H c=none)) (upd (upd (upd (upd H B (.lst [])) I (.lst [])) J (.lst [])) O (.lst [.ref B,.ref I,.ref J])) us (([[],[],[]]:List (List PV)).getD i []):=λi a e=>by
    match i,e with
    |0,e=>cases e;exact⟨[],h0,.nil⟩
    |1,e=>cases e;exact⟨[],h1,.nil⟩
    |2,e=>cases e;exact⟨[],h2,.nil⟩
   generalize upd (upd (upd (upd H B (.lst [])) I (.lst [])) J (.lst [])) O (.lst [.ref B,.ref I,.ref J])=H1 at h3 sm bg ⊢;have l3:([[],[],[]]:List (List PV)).length=[B,I,J].length:=rfl;generalize ([[],[],[]]:List (List PV))=L0 at hL bg l3;generalize [B,I,J]=ls at dl nd new h3 bg l3;clear h0 h1 h2 d01 d02 d12 s0 s1 s2 Y n0 n1 n2 n3;obtain⟨F,hF⟩:∃F:Addr->Prop,F=λc=>c≠O/\c∉ls/\(A c\/H c=none):=⟨_,rfl⟩;rw[←hF]at bg;obtain⟨af,us,rfl,haf,raf⟩:=DO.tup (.inl r0);have lu:us.length=ps.length:=raf.length;refine⟨_,rfl,af,rfl,⟨us,(haf.up sm).sq⟩,?_⟩;refine Og (K:=C.K) (a:=af) (xs:=us) (λj EK H'=>∃(w n:Nat) (x4:Option V) (M:List (List PV)),EK=[some (.ref af),some (.ref O),some (.int w),some (.int n),x4]/\jY f w n M (ps.drop j)=some L/\DH H H'/\H' O=some (.lst (ls.map V.ref))/\M.length=ls.length/\∀i a,ls[i]?=some a->∃us,H' a=some (.lst us)/\DI C F H' us (M.getD i []))
    ⟨0,0,none,L0,rfl,hL,sm,h3,l3,bg⟩ (λj EK H' _ ⟨w,n,x4,M,_,_,sm',_⟩=>(haf.up sm').sq) (λj x EK H2 hx ⟨w,n,x4,M,e,U,Zp,OQ,lm,g2⟩=>?_) fun EK H2 ⟨w,n,x4,M,e,U,Zp,OQ,lm,g2⟩=>?_
   ·subst e
    have hj:j<ps.length:=by rw[←lu];exact(ap.mp hx).1
    obtain⟨pp,hpp,rp⟩:=raf.get' hx;rw[cq hj,show ps[j]=pp by rw[aw hj]at hpp;exact bq hpp]at U;obtain⟨b,hb,U⟩:=ai.mp (show((f (ctE w n pp)).bind _)=_ from U);have nw2:∀{H3:Hp},DH H2 H3->∀a,H3 a=none->F a:=λs a e=>by
     rw[hF];have e2:=s.free e;refine⟨(λz=>by rw[z,OQ]at e2;cases e2),(λz=>?_),.inr (Zp.free e2)⟩;obtain⟨i,hi⟩:=d0.mp z;obtain⟨_,z2,_⟩:=g2 i a hi;rw[z2]at e2;cases e2
    have xA:Ex A H F H2:=λa o e=>⟨λz=>⟨Zp a o e,by rw[hF];exact⟨au e nl,λy=>(by rw[new a y]at e;cases e),.inl z⟩⟩,λ_=>Zp a o e⟩;have E2:EV C F H2 [some (.ref af),some (.ref O),some (.int w),some (.int n),some x] (ctE w n pp):=.no (.no (.co (.int _) (.co (.int _) (.co (rp.ex xA) .nil))));unfold Tf;dsimp only[aW,iC,bG,cG,kJ,Yc,QO,DM,aL,bu,qe];refine E2.t hb λH3 Y=>?_;have E3:=E2.ex (.of_same Y);have g3:∀{H':Hp},DH H2 H'->∀i a,ls[i]?=some a->∃us,H' a=some (.lst us)/\DI C F H' us (M.getD i []):=λs i a hi=>let ⟨us,z1,z2⟩:=g2 i a hi;⟨us,s _ _ z1,z2.ex (.of_same s)⟩;cases b with
    |true=>
     refine iD (E3.x (nw2 Y) (p:=.int ((w+1:Nat):Int)) (by simp) λv H4 s4 r4=>?_);rw[DO.int (.inl r4)];have RA:=Y.trans s4;exact⟨w+1,n,some x,M,rfl,U,Zp.trans RA,RA _ _ OQ,lm,g3 RA⟩
    |false=>
     have U:(if w<M.length/\(M.getD w []).length<1000000 then jY f w (n+1) (M.set w (M.getD w []++[.tup [.int ((n+1:Nat):Int),pp]])) (ps.drop (j+1))else none)=some L:=U;split at U
     ·rename_i hw
      refine jP (E3.x (nw2 Y) (p:=.int ((n+1:Nat):Int)) (by simp) λv H4 s4 r4=>?_);rw[DO.int (.inl r4)];have RA:=Y.trans s4;obtain⟨a,ha⟩:∃a,ls[w]?=some a:=⟨ls[w]'(by omega),aw (by omega)⟩;obtain⟨Z,z1,z2⟩:=g3 RA w a ha;have am:a∈ls:=et ha;have hl4:=RA _ _ OQ;refine⟨_,rfl,_,rfl,O,_,_,.ref a,rfl,rfl,EJ.of hl4,mJ (by rw[cp,ha];rfl),.inl ⟨rfl,Z,EJ.of z1⟩,_,rfl,_,rfl,by show(2:Nat)<=sizeLine;decide,λt ht=>?_⟩;have s5:=aG ht (.tup [.int ((n+1:Nat):Int),x]);have rt:Rep C F (upd H4 t (.tup [.int ((n+1:Nat):Int),x])) (.ref t) (.tup [.int ((n+1:Nat):Int),pp]):=.tup aq (.cons (.int _) (.cons ((rp.ex xA).ex (.of_same (RA.trans s5))) .nil));have z5:=s5 _ _ z1;have s25:=RA.trans s5;generalize upd H4 t (.tup [.int ((n+1:Nat):Int),x])=H5 at s25 rt z5 ⊢;have lz:Z.length=(M.getD w []).length:=z2.length;refine⟨a,Z,.ref t,rfl,rfl,z5,cg (by omega),?_⟩;have kp:∀c o,H5 c=some o->c≠a->upd H5 a (.lst (Z++[.ref t])) c=some o:=λc o e d=>by rw[az d];exact e
      have x5:Ex F H5 F (upd H5 a (.lst (Z++[.ref t]))):=λc o e=>⟨λz=>⟨kp c o e λy=>by rw[hF]at z;exact z.2.1 (y▸am),z⟩,λm=>kp c o e λy=>by rw[y,z5]at e;cases e;cases m⟩;refine⟨w,n+1,some x,_,rfl,U,λc o e=>kp c o (s25 _ _ (Zp _ _ e)) (λy=>by rw[y,new a am]at e;cases e),kp _ _ (s25 _ _ OQ) (λy=>dl (y▸am)),by rw[eg];exact lm,λi c hi=>?_⟩;by_cases ei:i=w
      ·subst ei
       rw[ha]at hi;cases hi;refine⟨_,aq,?_⟩;rw[fN,dS hw.1];obtain⟨us',y1,y2⟩:=g3 s25 i a ha;rw[z5]at y1;cases y1;exact(y2.ex x5).append (.cons (rt.ex x5) .nil)
      ·obtain⟨us',y1,y2⟩:=g3 s25 i c hi
       refine⟨us',kp _ _ y1 λy=>ei ?_,?_⟩
       ·subst y
        exact(List.getElem?_inj (ap.mp hi).1 nd).mp (hi.trans ha.symm)
       ·rw[fN,bv (fm ei),←fN]
        exact y2.ex x5
     ·cases U
   ·subst e
    rw[kT (by rw[lu];exact ax _)]at U;cases U;refine⟨_,rfl,q _ H2 Zp ?_⟩;refine .lst OQ (.inr nl) (Eh (by simp[lm]) λi v p hv hp=>?_);rw[cp]at hv hp;obtain⟨a,ha,rfl⟩:=ba.mp hv;obtain⟨l,hl,rfl⟩:=ba.mp hp;obtain⟨us',y1,y2⟩:=g2 i a ha;rw[fN,hl]at y2;exact .lst y1 (.inr (new a (et ha))) (y2.ex (bf λc o _ z=>by rw[hF]at z;exact z.2.2))
 ·cases hm
end Lake.MR
namespace Lake.L2
open PySem PySem.Spec PyProof.Rows
def Still{EL:Type}:Sem EL->Prop
 |.pure _=>True
 |.raise _=>True
 |.unsupported _=>True
 |.finish _=>True
 |.rule _ k=>Still (k ())
 |.at _ k=>Still (k ())
 |.load _ _ k=>∀o,Still (k o)
 |.update _ _ f k=>(∀o,(f o).dict=o.dict/\(o.isFreed=false->(f o).isFreed=false))/\Still (k ())
 |.alloc _ k=>∀a,Still (k a)
 |.loadIfAlive _ k=>∀o,Still (k o)
 |.point _ k=>Still (k ())
 |.register _ _=>True
 |.fresh k=>∀t,Still (k t)
 |.ask k=>∀t,Still (k t)
 |.stack k=>∀l,Still (k l)
 |.handled _ k=>∀l,Still (k l)
 |.choose ..=>False
 |.os ..=>False
 |.call ..=>False
 |.newGen ..=>False
 |.genState ..=>False
 |.resume ..=>False
 |.yield ..=>False
 |.fork ..=>False
 |.thread _=>False
 |.await ..=>False
def Dk(h h':Heap):Prop:=∀b o,h.get? b=some o->∃o',h'.get? b=some o'/\o'.dict=o.dict
def Dk.refl(h:Heap):Dk h h:=λb o e=>⟨o,e,rfl⟩
def Dk.trans{h h' j:Heap}(x:Dk h h')(y:Dk h' j):Dk h j:=λb o e=>
 let ⟨o1,e1,d1⟩:=x b o e
 let ⟨o2,e2,d2⟩:=y b o1 e1
 ⟨o2,e2,d2.trans d1⟩
def Mq{EL:Type}{M:PySem.Model}{Γ:PySem.Ctx}{E:Value->Pos->Shared->Prop}:∀(t:Sem EL) (Q:EL->Pos->Shared->Prop) (p:Pos) (j s:Shared),Still t->Dk j.heap s.heap->Sem.wp M Γ t Q E p s->Sem.wp M Γ t (λa p' s'=>Q a p' s'/\Dk j.heap s'.heap) E p s:=by
 intro t;induction t with
 |pure a=>intro Q p j s st d h;rw[Sem.wp_pure]at h ⊢;exact⟨h,d⟩
 |raise e=>intro Q p j s st d h;rw[Sem.wp]at h ⊢;exact h
 |unsupported w=>intro Q p j s st d h;rw[Sem.wp]at h;exact h.elim
 |finish w=>intro Q p j s st d h;rw[Sem.wp]at h;exact h.elim
 |rule t k B=>intro Q p j s st d h;rw[Sem.wp]at h ⊢;exact B () Q p j s st d h
 |«at» q k B=>intro Q p j s st d h;rw[Sem.wp]at h ⊢;exact B () Q q j s st d h
 |load a I k B=>intro Q p j s st d h;rw[Sem.wp]at h ⊢;obtain⟨o,e,h⟩:=h;exact⟨o,e,B o Q p j s (st o) d h⟩
 |update a I f k B=>
  intro Q p j s st d h;rw[Sem.wp]at h ⊢;refine⟨h.1,B () Q p j _ st.2 (d.trans λb o e=>?_) h.2⟩;by_cases hb:a=b
  ·subst hb
   exact⟨_,eJ f e ((st.1 o).2 (Heap.get?_some_iff.mp e).2),(st.1 o).1⟩
  ·exact⟨o,(eP _ f hb).trans e,rfl⟩
 |alloc o k B=>
  intro Q p j s st d h;rw[Sem.wp]at h ⊢;exact B _ Q p j _ (st _) (d.trans λb o' e=>⟨o',ae o e,rfl⟩) h
 |loadIfAlive a k B=>intro Q p j s st d h;rw[Sem.wp]at h ⊢;exact B _ Q p j s (st _) d h
 |point l k B=>intro Q p j s st d h;rw[Sem.wp]at h ⊢;exact B _ Q p j s st d h
 |register a k B=>intro Q p j s st d h;rw[Sem.wp]at h;exact h.elim
 |fresh k B=>intro Q p j s st d h;rw[Sem.wp]at h ⊢;exact B _ Q p j _ (st _) d h
 |ask k B=>intro Q p j s st d h;rw[Sem.wp]at h ⊢;exact B _ Q p j s (st _) d h
 |stack k B=>intro Q p j s st d h;rw[Sem.wp]at h ⊢;exact B _ Q p j s (st _) d h
 |handled own k B=>intro Q p j s st d h;rw[Sem.wp]at h ⊢;exact B _ Q p j s (st _) d h
 |_=>intro Q p j s st d h;exact False.elim st
def oK{EL:Type}{M:PySem.Model}{A:Around}{E:gV}{t:Sem EL}{Q:EL->Shared->Prop}{s:Shared}(st:Still t)(h:wpAny M A t Q E s):wpAny M A t (λa s'=>Q a s'/\Dk s.heap s'.heap) E s:=fun Γ p hΓ=>
 Mq t _ p s s st (Dk.refl _) (h Γ p hΓ)
def Still.bind{EL Fc:Type}:∀{t:Sem EL}{f:EL->Sem Fc},Still t->(∀a,Still (f a))->Still (t.bind f):=by
 intro t;induction t with
 |pure a=>intro f _ h;exact h a
 |raise e=>intro f _ h;trivial
 |unsupported w=>intro f _ h;trivial
 |finish w=>intro f _ h;trivial
 |rule t k j=>intro f st h;exact j () st h
 |«at» q k j=>intro f st h;exact j () st h
 |load a B k j=>intro f st h;exactλo=>j o (st o) h
 |update a B g k j=>intro f st h;exact⟨st.1,j () st.2 h⟩
 |alloc o k j=>intro f st h;exactλo=>j o (st o) h
 |loadIfAlive a k j=>intro f st h;exactλo=>j o (st o) h
 |point l k j=>intro f st h;exact j () st h
 |register a k j=>intro f st h;trivial
 |fresh k j=>intro f st h;exactλo=>j o (st o) h
 |ask k j=>intro f st h;exactλo=>j o (st o) h
 |stack k j=>intro f st h;exactλo=>j o (st o) h
 |handled own k j=>intro f st h;exactλo=>j o (st o) h
 |_=>intro f st h;exact False.elim st
def a_{EL Fc:Type}{t:Sem EL}{f:EL->Sem Fc}(h1:Still t)(h2:∀a,Still (f a)):Still (t >>= f):=Still.bind h1 h2
def qM{a:Addr}:Still (load a):=λo=>trivial
def xQ{v:Value}:Still (fieldsOf v):=by
 unfold fieldsOf;cases v<;>first|trivial|skip
 refine a_ qM λo=>?_;split<;>trivial
def kY{v:Value}{i:Nat}:Still (field v i):=by
 unfold field;refine a_ xQ λa=>?_;split<;>trivial
def wF(g:Array Value->Array Value)(o:Obj):(Obj.mapFields g o).dict=o.dict/\(o.isFreed=false->(Obj.mapFields g o).isFreed=false):=by
 unfold Obj.mapFields;split
 ·exact⟨rfl,λ_=>rfl⟩
 ·exact⟨rfl,id⟩
def jZ{v:Value}{i:Nat}{x:Value}:Still (setField v i x):=by
 unfold setField;cases v<;>first|trivial|skip
 unfold updateField;refine a_ qM λo=>?_;split
 ·split
  ·exact⟨wF _,trivial⟩
  ·trivial
 ·trivial
def jB{e:Value}{f:Option Addr}:Still (setFlight e f):=by
 unfold setFlight;refine a_ kY λtb=>?_;split
 ·exact jZ
 ·trivial
set_option tactic.hygienic true in theorem lW:∀l:List Env,Still (readyFrames l)
 |[]=>trivial
 |env::outer=>by
  unfold readyFrames;cases env.frame with
  |none=>trivial
  |some f=>
   refine a_ qM λo=>?_;split
   ·trivial
   ·refine a_ ?_ λB=>a_ ?_ λj=>?_
    ·unfold behindIsImport
     split
     ·trivial
     ·split
      ·trivial
      ·exact a_ kY λ_=>trivial
    ·unfold keptBack
     split
     ·split
      ·trivial
      ·refine a_ ?_ λ_=>trivial
       unfold underTheClaimsCaller;exactλl=>trivial
     ·trivial
    ·exact⟨λo=>⟨rfl,λh=>by cases o;rename_i d _;cases d<;>first|rfl|exact h⟩,lW outer⟩
def yR{env:Env}:Still (PySem.frameOf env):=by
 unfold PySem.frameOf frameEnvs;refine a_ (a_ (λl=>trivial) λl=>?_) λa=>?_
 ·trivial
 ·refine a_ ?_ λo=>?_
  ·unfold frameObject
   split
   ·trivial
   ·exact a_ (lW _) λ_=>trivial
  ·split<;>trivial
def uT{f:Addr}{h:Bool}:Still (entryPlaceOf f h):=by
 unfold entryPlaceOf;refine a_ (λl=>trivial) λj=>?_;split<;>trivial
def xR{a b c d e:Value}{pl:re}:Still (EntryCells.newEntry a b c d e pl):=by
 unfold EntryCells.newEntry newFields newObj;have h:∀x:Data,Still (newObjAsIs (.type "traceback") x):=λx=>by
  unfold newObjAsIs;exact a_ (λa=>trivial) λa=>trivial
 generalize ([a,b,c,d,e]++if pl.isEmpty=true then List.replicate 6 Value.none else pl).toArray=vs;by_cases hq:vs.size>sizeLine+2
 ·simp only[bX hq];exact a_ trivial λ_=>h _
 ·simp only[bt hq];exact h _
def oM{e:Value}{env:Env}:Still (noteFrame e env):=by
 unfold noteFrame;cases env.frame with
 |none=>trivial
 |some f=>
  refine a_ kY λj=>?_;have rest:∀q:Bool,Still (do setField e 1 (←EntryCells.newEntry j (←PySem.frameOf env) .none (rawInt f) .none (←entryPlaceOf f q)):Sem Unit):=λq=>
   a_ yR λa=>a_ uT λpl=>a_ xR λb=>jZ
  split
  ·refine a_ kY λy=>?_
   split
   ·trivial
   ·exact a_ jZ λ_=>rest _
  ·exact rest _
def yS{env:Env}{e:Value}:Still (leaving env e):=a_ oM λ_=>jB
open PySem PySem.Builtin PySem.Builtin.ObjectAttr
inductive UI(h:Heap)(Se:re)(ns:rj):List Value->Prop
 |base:UI h Se ns Se
 |own {A:Addr}{c0:Value}{dd:Option Addr}{cd:ClassData}{sl:Array (Option Value)}{mA:rX}{tl:re}:
   h.get? A=some {cls:=c0,dict:=dd,data:=.cls cd,slots:=sl}->h.Ns cd.ns mA->(∀n∈ns,mA n=none)->UI h Se ns tl->UI h Se ns (.ref A::tl)
section
variable {M:PySem.Model}{A:Around}{E:gV}{h:Heap}{g:Array GenState}{d:Drawn}{t:Nat}{os:OsState}
variable {nm q:Str}{C N x:Addr}{bs bm Se:re}{hdct:Bool}{sn:rj}{sub:re}{ab:Bool}{col:Option Bool}{dd:Option Addr}{k0 k1 k2 k3 k5:Option Value}{B newId sa owner:String}
 {mN mA:rX}{name:Str}{v:Value}{ns:rj}
end
section
variable {prog:Program}{w:World}{A:Around}{E:gV}{h:Heap}{g:Array GenState}{d:Drawn}{t:Nat}{os:OsState}
variable {nm q:Str}{C N x:Addr}{bs bm Se:re}{sn:rj}{sub:re}{ab:Bool}{col:Option Bool}{dd:Option Addr}{k0 k1 k2 k3 k5:Option Value}{B newId sa owner:String}
 {mN:rX}{name:Str}{v:Value}{ns:rj}
end
section
variable {prog:Program}{w:World}{A:Around}{E:gV}{h:Heap}{g:Array GenState}{d:Drawn}{t:Nat}{os:OsState}
variable {nm q:Str}{C N x dx:Addr}{bs bm Se:re}{sn:rj}{sub:re}{ab:Bool}{col:Option Bool}{dd:Option Addr}{k0 k1 k2 k3 k5:Option Value}{B newId:String}
 {mN mA:rX}{name:Str}{v:Value}{ns:rj}{o:Obj}
end
def P7(h:Heap)(a dx:Addr):Option Nat->Prop
 |none=>True
 |some n=>(∃oe,h.get? a=some oe/\oe.dict=some dx)/\∃m t,h.Ns dx m/\m "at" = some (.int (n:Int) t)
def P7.go{h h':Heap}{a dx:Addr}{d:Option Nat}(f:P7 h a dx d)(k:Dk h h')(u:h.UpToSlots h'):P7 h' a dx d:=by
 cases d with
 |none=>trivial
 |some n=>
  obtain⟨⟨j,e1,e2⟩,m,t,e3,e4⟩:=f;obtain⟨o',e5,e6⟩:=k a j e1;exact⟨⟨o',e5,e6.trans e2⟩,m,t,u.ns e3,e4⟩
section
variable {M:PySem.Model}{A:Around}{E:gV}{s:Shared}{B:Heap}{env:Env}{outer:List Env}{L e:Addr}{cls a0:Value}{Q:Unit->Shared->Prop}{dx:Addr}{d:Option Nat}
def G4(J:A.frames=some (env::outer))(I:env.frame=some L)(fl:Heap.FlyingW B (env::outer) e cls a0 s.heap)(f:P7 s.heap e dx d)
  (j:∀h',Heap.FlyingW B outer e cls a0 h'->s.heap.UpToSlots h'->P7 h' e dx d->Q () {s with heap:=h'}):wpAny M A (leaving env (.ref e)) Q E s:=by
 refine cS (oK yS (wpAny_leaves_onW (Q:=λ_ s'=>∃h',s'={s with heap:=h'}/\Heap.FlyingW B outer e cls a0 h'/\s.heap.UpToSlots h') J I fl λh' f1 u=>⟨h',rfl,f1,u⟩)) (λ_ s' z=>?_) λ_ _ z=>z;obtain⟨⟨h',rfl,f1,u⟩,k⟩:=z;exact j h' f1 u (f.go k u)
def Jv(J:A.frames=some (env::outer))(I:env.frame=some L)(fl:Heap.FlyingW B (env::outer) e cls a0 s.heap)(f:P7 s.heap e dx d)
  (j:∀h',Heap.HeldW B (env::outer) e cls a0 L h'->s.heap.UpToSlots h'->P7 h' e dx d->Q () {s with heap:=h'}):wpAny M A (noteFrame (.ref e) env) Q E s:=by
 refine cS (oK oM (wpAny_looks_onW (Q:=λ_ s'=>∃h',s'={s with heap:=h'}/\Heap.HeldW B (env::outer) e cls a0 L h'/\s.heap.UpToSlots h') J I fl λh' f1 u=>⟨h',rfl,f1,u⟩)) (λ_ s' z=>?_) λ_ _ z=>z;obtain⟨⟨h',rfl,f1,u⟩,k⟩:=z;exact j h' f1 u (f.go k u)
def Jw{l:List Env}(I:Heap.HeldW B l e cls a0 L s.heap)(f:P7 s.heap e dx d)(j:∀h',Heap.FlyingW B l e cls a0 h'->s.heap.UpToSlots h'->P7 h' e dx d->Q () {s with heap:=h'}):wpAny M A (setFlight (.ref e) none) Q E s:=by
 refine cS (oK jB (wpAny_landsW (Q:=λ_ s'=>∃h',s'={s with heap:=h'}/\Heap.FlyingW B l e cls a0 h'/\s.heap.UpToSlots h') I λh' f1 u=>⟨h',rfl,f1,u⟩)) (λ_ s' z=>?_) λ_ _ z=>z;obtain⟨⟨h',rfl,f1,u⟩,k⟩:=z;exact j h' f1 u (f.go k u)
def G5{l:List Env}(I:Heap.FlyingW B l e cls a0 s.heap)(f:P7 s.heap e dx d)(j:∀h',Heap.FlyingW B l e cls a0 h'->s.heap.UpToSlots h'->P7 h' e dx d->Q () {s with heap:=h'}):wpAny M A (setFlight (.ref e) none) Q E s:=by
 refine cS (oK jB (lands_againW (Q:=λ_ s'=>∃h',s'={s with heap:=h'}/\Heap.FlyingW B l e cls a0 h'/\s.heap.UpToSlots h') I λh' f1 u=>⟨h',rfl,f1,u⟩)) (λ_ s' z=>?_) λ_ _ z=>z;obtain⟨⟨h',rfl,f1,u⟩,k⟩:=z;exact j h' f1 u (f.go k u)
end
def DZ.there{P:Program}{w:World}{K:W.Frag}{H:Hp}{h:Heap}{a:Addr}{o:HO}(x:DZ P w K H h a o):∃u,h.get? a=some u:=by
 cases o with
 |lst xs=>obtain⟨_,_,_,_,e⟩:=x;exact⟨_,e⟩
 |tup xs=>obtain⟨_,_,_,_,e,_⟩:=x;exact⟨_,e⟩
 |dK kvs=>obtain⟨_,_,_,_,o,_,_,e,_⟩:=x;exact⟨_,e⟩
 |dT kvs=>obtain⟨_,_,_,_,o,_,_,e,_⟩:=x;exact⟨_,e⟩
 |set S n=>obtain⟨o,_,_,_,e,_⟩:=x;exact⟨_,e⟩
 |ins C dx fs=>obtain⟨_,_,_,e,_⟩:=x;exact⟨_,e⟩
 |own y=>exact x
 |xd fs=>obtain⟨_,⟨_,_,_,e,_⟩,_⟩:=x;exact⟨_,e⟩
 |rng lo hi=>obtain⟨_,_,_,e⟩:=x;exact⟨_,e⟩
 |frz j u=>obtain⟨e,_⟩:=x;exact⟨_,e⟩
 |XZ ps=>exact⟨_,(show h.get? a=some _ from x)⟩
 |met f y=>exact⟨_,(show h.get? a=some _ from x)⟩
 |ext φ=>exact x.2.1
def Zr(B h₀ h:Heap)(H:Hp)(l:List Env):Prop:=∀b o,h.get? b=some o->B.get? b=none->b∈EW l\/(h₀.get? b=none/\H b=none)
structure Lies(X:Cx)(DE:oI)(EK:St)(H:Hp)(C:Value)(d:Option Nat)(e:Value)(s:Shared):Prop where
 inv:Inv X DE EK H s
 ex:∃a a0 B,e=.ref a/\Heap.FlyingW B X.stack a C a0 s.heap/\X.s₀.heap.get? a=none/\H a=none/\(∀p∈X.pn++DE,B.get? p.1=some p.2)/\Zr B X.s₀.heap s.heap H X.stack/\∃dx,P7 s.heap a dx d/\X.s₀.heap.get? dx=none/\H dx=none/\(∀p∈X.pn++DE,p.1≠dx)/\X.env.locals≠dx/\∀x c,X.env.cells.lookup x=some c->c≠dx
def G2(P:Program)(w:World)(K:W.Frag):QU:=λouter H s E e s'=>∃a C a0 B H',e=.ref a/\s'.os=s.os/\AllBare s'.gens/\Un (EW outer) [] H H' s.heap s'.heap/\GY P w K H' s'.heap /\
 Heap.FlyingW B outer a C a0 s'.heap/\s.heap.get? a=none/\H' a=none/\Zr B s.heap s'.heap H' outer/\∃dx d,P7 s'.heap a dx d/\s.heap.get? dx=none/\H' dx=none/\E C d H'
section
variable {P:Program}{w:World}{K:W.Frag}{mg:rX}{base:Heap}{N:rj}{qual:Str}{scope:Scope}{f:Addr}{cd:Value}{A:Around}{outer:List Env}{s:Shared}{H:Hp}{E:XK}{CX:QU}
variable {DE:oI}{EK:St}{H1:Hp}{s1:Shared}
def yK{b:Addr}{env:Env}{outer:List Env}{L:Addr}(j:env.frame=some L)(h:b∈EW (env::outer)):b=L\/b∈EW outer:=by
 unfold EW at h ⊢;rw[h9,j]at h;exact br.mp h
def Ei(I:Inv (cD CX P w K mg base N qual scope f cd A outer s H E) DE EK H1 s1){B h2:Heap}(bs:∀b o,B.get? b=some o->s1.heap.get? b=some o)(st:B.StaysIn h2)
  (gr:Zr B s.heap s1.heap H1 (envOfC qual scope s.heap.objs.size f cd::outer)) (up:s1.heap.UpToSlots h2):
  Un (EW outer) [] H H1 s.heap h2/\GY P w K H1 h2/\Zr B s.heap h2 H1 outer:=by
 have u:Un (EW outer) [] H H1 s.heap s1.heap:=I.base;have kept:∀b o,s1.heap.get? b=some o->b∉EW (envOfC qual scope s.heap.objs.size f cd::outer)->(s.heap.get? b≠none\/H1 b≠none)->h2.get? b=some o:=λb o e n1 n2=>by
  cases q:B.get? b with
  |none=>exact((gr b o e q).elim n1 λz=>n2.elim (λy=>y z.1) λy=>y z.2).elim
  |some o'=>
   have:=bs b o' q;rw[e]at this;cases this;exact st b o q
 have O:∀b o,s.heap.get? b=some o->b∉EW outer->b∉EW (envOfC qual scope s.heap.objs.size f cd::outer):=λb o e n z=>by
  rcases yK rfl z with y|y
  ·subst y;exact absurd (ar e) (fg _)
  ·exact n y
 have fr:∀b o,s1.heap.get? b=some o->b∈EW (envOfC qual scope s.heap.objs.size f cd::outer)->∃sl,h2.get? b=some {o with slots:=sl}:=λb o e j=>by
  obtain⟨_,o',Z,hd⟩:=I.stack.mem j;rw[e]at Z;cases Z;exact up b o e hd
 refine⟨⟨λb o q n j J=>?_,λb o q n j J=>?_,u.free,λb o q J=>?_,u.JU,u.IQ,u.LH⟩,λb v q=>?_,λb o q n=>?_⟩
 ·exact kept b o (u.keep b o q n j J) (O b o q j) (.inl (by rw[q];exactλz=>nomatch z))
 ·obtain⟨sl,e1⟩:=u.slot b o q n j J
  obtain⟨YH,e2⟩:=fr b _ e1 (by unfold EW at j ⊢;rw[h9];exact aI _ j);exact⟨YH,e2⟩
 ·obtain⟨o',e1⟩:=u.there b o q J
  by_cases j:b∈EW (envOfC qual scope s.heap.objs.size f cd::outer)
  ·obtain⟨sl,e2⟩:=fr b o' e1 j
   exact⟨_,e2⟩
  ·exact⟨o',kept b o' e1 j (.inl (by rw[q];exactλz=>nomatch z))⟩
 ·refine(I.DV b v q).LG (λc x U r=>?_) (λ_ q=>q) λ_ _ q=>q
  have Y:H1 c≠none:=by
   rcases U with rfl|U
   ·rw[q];exactλz=>nomatch z
   ·rw[U];exactλz=>nomatch z
  exact kept c x r (λz=>Y (I.LU c z)) (.inr Y)
 ·cases e1:s1.heap.get? b with
  |some o'=>
   rcases gr b o' e1 n with z|z
   ·rcases yK rfl z with y|y
    ·subst y;exact .inr ⟨Heap.get?_none_of_le (ax _),I.free⟩
    ·exact .inl y
   ·exact .inr z
  |none=>
   refine .inr ⟨?_,?_⟩
   ·cases q2:s.heap.get? b with
    |none=>rfl
    |some o2=>
     obtain⟨_,e2⟩:=u.there b o2 q2 (by simp);rw[e1]at e2;cases e2
   ·cases q2:H1 b with
    |none=>rfl
    |some v=>
     obtain⟨_,e2⟩:=(I.DV b v q2).there;rw[e1]at e2;cases e2
def G6{C e:Value}{d:Option Nat}(L:Lies (cD (G2 P w K) P w K mg base N qual scope f cd A outer s H E) DE EK H1 C d e s1)(hE:E C d H1):(cD (G2 P w K) P w K mg base N qual scope f cd A outer s H E).xe e s1:=by
 obtain⟨a,a0,B,rfl,fl,Z,nH,np,gr,dx,fd,nd,Y,Ys⟩:=L.ex;have I:=L.inv;show wpAny (model P w) (A.deeper (envOfC qual scope s.heap.objs.size f cd)) (leaving (envOfC qual scope s.heap.objs.size f cd) (.ref a)) (λ_ U=>G2 P w K outer H s E (.ref a) U) (λe' U=>G2 P w K outer H s E e' U) s1;refine G4 I.ok.frames rfl fl fd λh2 j up J=>?_;obtain⟨u2,Zs,O⟩:=Ei I (λb o q=>fl.1 b o q) j.1 gr up;exact⟨a,C,a0,B,H1,rfl,I.os,I.bare,u2,Zs,j,Z,nH,O,dx,d,J,nd,Y,hE⟩
def lies_of{X:Cx}(I:Inv X DE EK H1 s1)(Y:X.ex=[]){Q:XK}{e:Value}{Z:Shared}(h:G2 X.prog X.w X.K X.stack H1 s1 Q e Z):∃C d H2,Lies X DE EK H2 C d e Z/\Q C d H2:=by
 obtain⟨a,C,a0,B,H2,rfl,os,j,un,DV,fl,na,nH,gr,dx,d,fd,nd,SD,hQ⟩:=h;have there:∀b o,X.s₀.heap.get? b=some o->∃o',s1.heap.get? b=some o':=λb o q=>I.base.there b o q (by rw[Y];simp);have fresh:∀b,s1.heap.get? b=none->X.s₀.heap.get? b=none:=λb q=>by
  cases z:X.s₀.heap.get? b with
  |none=>rfl
  |some o=>obtain⟨_,y⟩:=there b o z;rw[q]at y;cases y
 refine⟨C,d,H2,⟨I.X7 os un DV j (λb z=>nomatch z),a,a0,B,rfl,fl,fresh a na,nH,λp U=>?_,λb o q n=>?_,dx,fd,fresh dx nd,SD,λp U z=>?_,λz=>?_,λx c q z=>?_⟩,hQ⟩
 ·obtain⟨e1,n1,nl,nf,_⟩:=I.pin p U
  have O:p.1∉EW X.stack:=λz=>(br.mp (I.JY _ z)).elim nl nf;have e2:=un.keep p.1 p.2 e1 n1 O (by simp);cases q:B.get? p.1 with
  |none=>
   rcases gr p.1 p.2 e2 q with z|z
   ·exact absurd z O
   ·rw[e1]at z;cases z.1
  |some o=>
   have:=fl.1 _ _ q;rw[e2]at this;cases this;rfl
 ·rcases gr b o q n with z|z
  ·exact .inl z
  ·exact .inr ⟨fresh b z.1,z.2⟩
 ·obtain⟨e1,_⟩:=I.pin p U
  rw[z,nd]at e1;cases e1
 ·obtain⟨m,⟨o,es,ep,J,_⟩,_⟩:=I.loc
  rw[z,nd]at J;cases J
 ·obtain⟨v,o,J,_⟩:=I.cell x c q
  rw[z,nd]at J;cases J
end
set_option tactic.hygienic true in def Qh{K:W.Frag}{h:Heap}{C:Addr}{Se:re}{newId:String}(KI:K.In h)(q:W.excIn K C Se newId=true):
  ∃(bm:re) (N:Addr) (nm qn:Str) (bs:re) (Mb:Bool) (sn:rj) (O:re) (ab:Bool) (co:Option Bool) (dd:Option Addr) (k0 k1 k2 k3 k5:Option Value) (mN:rX),
   h.get? C=some (excClassObj nm qn C N bs bm Mb sn O ab co dd k0 k1 k2 k3 k5 newId)/\h.Ns N mN/\mN "__init__" = none/\OwnTail h Se bm:=by
 unfold W.excIn at q;split at q
 ·rename_i dd U sl lk
  split at q
  ·rename_i C1 bm k0 k1 k2 k3 nw k5 I hsl
   simp only[cb,hU,Bool.not_eq_true']at q;obtain⟨⟨⟨⟨⟨r1,r2⟩,J⟩,Z⟩,YR⟩,j⟩:=q;subst r1 r2;cases U with
   |mk nm bs mro ns qn Mb sn O ab co Y=>
    have e1:mro=.ref C1::bm:=I;have e2:Y=false:=J;subst e1 e2;have e3:sl=#[k0,k1,k2,k3,some (.builtin nw),k5]:=by cases sl with|mk l=>exact iA Array.mk hsl
    subst e3;exact⟨bm,ns,nm,qn,bs,Mb,sn,O,ab,co,dd,k0,k1,k2,k3,k5,_,KI _ _ lk,.of_isNs (W.isNs_of_in KI YR),W.nsMap_none_of_in KI YR j,W.tail_of_in KI Z⟩
  ·cases q
 ·cases q
abbrev RX:=List (Addr×Obj)->St->Hp->Prop
def XE(X:Cx)(r:RX)(e:Expr):Prop:=∀(DE:oI) (s:Shared) (EK:St) (H:Hp),Inv X DE EK H s->r DE EK H->wpAny (model X.prog X.w) X.A (eval e X.env) (λ_ _=>False) X.xe s
def XS(X:Cx)(r:RX)(st:Stmt):Prop:=∀(DE:oI) (s:Shared) (EK:St) (H:Hp),Inv X DE EK H s->r DE EK H->wpAny (model X.prog X.w) X.A (exec st X.env) (λ_ _=>False) X.xe s
def P8(X:Cx)(r:RX)(st:rg):Prop:=∀(DE:oI) (s:Shared) (EK:St) (H:Hp),Inv X DE EK H s->r DE EK H->wpAny (model X.prog X.w) X.A (execs st X.env) (λ_ _=>False) X.xe s
structure UK(P:Program)(w:World)(K:W.Frag)(mg:rX)(base:Heap)(k:Nat)(x:Str)(ps:rj)(sp:Sp):Prop where
 ex:∃f fd,EC P w K mg base (G2 P w K) k f fd ps sp/\Binds K fd ps []/\W.keepIn K (.ref f)=true/\mg x=some (.ref f)
def Ej{P:Program}{w:World}{K:W.Frag}{mg:rX}{base:Heap}{k:Nat}{x:Str}{ps:rj}{sp:Sp}{st:Stmt}{f:Addr}{fd:FuncData}(F:G0 K x x st f fd)
  (j:mg x=some (.ref f)) (I:Binds K fd ps []) (G:EC P w K mg base (G2 P w K) k f fd ps sp):UK P w K mg base k x ps sp:=⟨f,fd,G,I,F.kp,j⟩
section
variable {X:Cx}{r r':RX}{e:Expr}{st:Stmt}{rest:rg}{pos:Pos}
def xT(h:XE X r e)(j:autoParam (swapsWith e none pos.line X.env=pure false) r0_):XS X r (.Expr e pos):=λDE s EK H I q=>
 wpAny_Expr_any (D8 (h DE s EK H I q) λ_ _ z=>z.elim) I.quiet j
def j4(h:XS X r st):P8 X r (st::rest):=λDE s EK H I q=>k8 (D8 (h DE s EK H I q) λ_ _ z=>z.elim)
end
end Lake.L2
namespace Lake.MR
open PySem L2
abbrev XV:=Nat×Option Nat
def SF(C:MC)(mi:sg)(ro:Bool)(xi:List PV->Option XV):Sp:=λvs H Q E=>HA C mi ro vs H Q E\/∃A ps c,DI C A H vs ps/\xi ps=some c/\∀H',DH H H'->E (.ref (C.cl c.1)) c.2 H'
def Mc(b:BX)(G:oT)(W:List (Addr×Obj)->St->Hp->XV->Prop)(xf:Env->Option XV):RX:=λDE EK H=>∃Ow env c,ER b Ow G EK env H/\xf env=some c/\W DE EK H c
def WD(b:BX)(E:XK):List (Addr×Obj)->St->Hp->XV->Prop:=λ_ _ _ c=>∀H1,DH b.H0 H1->E (.ref (b.C.cl c.1)) c.2 H1
def WTy(X:Cx)(b:BX):List (Addr×Obj)->St->Hp->XV->Prop:=λDE EK H c=>∀H1 e s,DH H H1->Lies X DE EK H1 (.ref (b.C.cl c.1)) c.2 e s->X.xe e s
structure WOk(X:Cx)(b:BX)(W:List (Addr×Obj)->St->Hp->XV->Prop):Prop where
 up:∀DE EK H H1 c,DH H H1->W DE EK H c->W DE EK H1 c
 go:∀DE EK H c H1 e s,DH b.H0 H->W DE EK H c->DH H H1->Lies X DE EK H1 (.ref (b.C.cl c.1)) c.2 e s->X.xe e s
 ex:X.ex=[]
def Vg{X:Cx}{b:BX}(h:X.ex=[]):WOk X b (WTy X b):=⟨λDE EK H H1 c s w H2 e s' j L=>w H2 e s' (s.trans j) L,λDE EK H c H1 e s _ w s1 L=>w H1 e s s1 L,h⟩
def G7{P:Program}{w:World}{K:W.Frag}{mg:rX}{base:Heap}{N:rj}{qual:Str}{scope:Scope}{f:Addr}{cd:Value}{A:Around}{outer:List PySem.Env}{s:Shared}{H:Hp}{E:XK}{b:BX}:
  WOk (cD (G2 P w K) P w K mg base N qual scope f cd A outer s H E) b (WD b E):=⟨λDE EK H H1 c s w=>w,λDE EK H c H1 e s j w s1 L=>G6 L (w H1 (j.trans s1)),rfl⟩
noncomputable def wG(ga:sj)(xi:List PV->Option XV)(env:Env):Option XV:=(ga env).bind xi
@[simp] def VN(j:sj)(I:List PV->Option XV)(env:Env):wG j I env=((j env).bind I):=id rfl
noncomputable def xIf(c:si)(f g:Env->Option XV)(env:Env):Option XV:=(c env).bind λk=>if k=true then f env else g env
@[simp] def Wy(c:si)(f g:Env->Option XV)(env:Env):xIf c f g env=((c env).bind λk=>if k=true then f env else g env):=id rfl
noncomputable def Mr(f:Env->Option Out)(g:Env->Option XV)(env:Env):Option XV:=(f env).bind λo=>match o with
 |.nx e=>g e
 |_=>none
@[simp] def Wd(f:Env->Option Out)(g:Env->Option XV)(env:Env):Mr f g env=((f env).bind λo=>match o with
 |.nx e=>g e
 |_=>none):=id rfl
noncomputable def xNo(env:Env):Option XV:=none
@[simp] def Wz(env:Env):xNo env=none:=id rfl
noncomputable def xOr(f g:Env->Option XV)(env:Env):Option XV:=match f env with
 |some c=>some c
 |none=>g env
@[simp] def Ti(f g:Env->Option XV)(env:Env):xOr f g env=(match f env with
 |some c=>some c
 |none=>g env):=id rfl
variable {xi:List PV->Option XV}
section
variable {X:Cx}{b:BX}{G G1 L:oT}{ro:Bool}{W:List (Addr×Obj)->St->Hp->XV->Prop}{e:Expr}{es:rh}{st:Stmt}{rest sa sb:rg}{pos p:Pos}{f g:Env->Option XV}
def xU(wo:WOk X b W){k j:Nat}{x:Str}{ps:rj}{mi:sg}{rc:Bool}{ga:sj}(c:UK X.prog X.w X.K X.mg X.base k x ps (SF b.C mi rc xi))(hr:Ee j X.A)(ha:SA X b G false (e::es) ga)
  (hle:autoParam (k<=j) r1_) (Yw:autoParam (Gl X x) r0_) (Kb:autoParam (GG x) r1_) (he:autoParam (GB X e es) r0_) (ES:autoParam (JI X pos es) r0_):
  XE X (Mc b G W (wG ga xi)) (.Call (.Name x p) (e::es) [] pos):=by
 intro DE s EK H I ⟨Ow,env,J,E,hx,hW⟩;obtain⟨fa,fd,F,hb,kp,hm⟩:=c.ex;obtain⟨qs,hga,Z⟩:=aC hx;refine e8 (mH I Yw hm ?_ Kb);refine ij (h₀:=X.base) I.ok.mod.IS kp (D8 (ha pos DE s EK H (λvs H1=>DH H H1/\DI b.C (ArA b Ow false H1) H1 vs qs) I ⟨Ow,env,qs,E,hga,λvs H1 s1 rr=>⟨s1,rr⟩⟩) λus s1 ⟨vs,H1,Y,r,sm,rr⟩=>⟨Y.HI,?_⟩) he ES;have QY:SF b.C mi rc xi vs H1 (λ_ _=>False) (λC d H2=>C=.ref (b.C.cl J.1)/\d=J.2/\DH H1 H2):=.inr ⟨Bs b Ow,qs,J,vX rr,Z,λH' s'=>⟨rfl,rfl,s'⟩⟩;have hl:us.length=ps.length:=by rw[←r.length];exact F.len _ _ _ _ QY
 have U:=hb s1 us Y.HI (by rw[cy];exact hl);rw[cy]at U;refine wpAny_call (jI (F.run X.A X.stack s1 H1 ⟨us,[]⟩ us vs _ _ (hr.mono hle) Y.YK U r QY) λres s' O=>?_);cases res with
 |error ex=>
  have Xl:G2 X.prog X.w X.K X.stack H1 s1 (λC d H2=>C=.ref (b.C.cl J.1)/\d=J.2/\DH H1 H2) ex s':=O;obtain⟨C,d,H2,Li,hC,hd,s2⟩:=lies_of Y wo.ex Xl;subst hC hd;exact wo.go DE EK H J H2 ex s' E.same hW (sm.trans s2) Li
 |ok fl=>
  cases fl with
  |ret u=>obtain⟨_,_,_,_,_,_,_,z⟩:=O;exact z.elim
  |next=>exact O.elim
  |brk=>exact O.elim
  |cont=>exact O.elim
def Vh(Z:WOk X b W){c:Expr}{k:si}(hc:ST X b G c k)(ha:P8 X (Mc b G W f) sa)(hb:P8 X (Mc b G W g) sb):XS X (Mc b G W (xIf k f g)) (.If c sa sb pos):=by
 intro DE s EK H I ⟨Ow,env,Y,E,j,U⟩;obtain⟨kk,hk,j⟩:=aC j;refine wpAny_If (D8 (hc DE s EK H (λd H1=>d=kk/\DH H H1) I ⟨Ow,env,kk,E,hk,λH1 s1=>⟨rfl,s1⟩⟩) ?_);rintro d s1 ⟨H1,O,hd,J⟩;subst hd;cases d with
 |true=>exact ha DE s1 EK H1 O ⟨Ow,env,Y,E.up J,j,Z.up _ _ _ _ _ J U⟩
 |false=>exact hb DE s1 EK H1 O ⟨Ow,env,Y,E.up J,j,Z.up _ _ _ _ _ J U⟩
def Tj:P8 X (Mc b G W xNo) rest:=λDE s EK H I ⟨Ow,env,J,E,j,O⟩=>nomatch j
def Tn(h1:P8 X (Mc b G W f) rest)(h2:P8 X (Mc b G W g) rest):P8 X (Mc b G W (xOr f g)) rest:=by
 rintro DE s EK H I ⟨Ow,env,O,E,j,J⟩;rw[Ti]at j;cases q:f env with
 |some c=>rw[q]at j;cases j;exact h1 DE s EK H I ⟨Ow,env,_,E,q,J⟩
 |none=>rw[q]at j;exact h2 DE s EK H I ⟨Ow,env,O,E,j,J⟩
def Ms{E0:XK}{h:Env->Option Out}(a:SS X b G G1 L ro st h)(c:P8 X (Mc b G1 (WD b E0) g) rest):P8 X (Mc b G (WD b E0) (Mr h g)) (st::rest):=by
 intro DE s EK H I ⟨Ow,env,c0,E,j,hW⟩;obtain⟨o,ho,j⟩:=aC j;cases o with
 |nx e1=>
  refine k8 (D8 (a DE s EK H {nx:=fun O H1=>Mc b G1 (WD b E0) g DE O H1,rt:=λ_ _=>False} I ⟨Ow,env,_,E,ho,λZ EU H' U _=>⟨Z,e1,c0,U,j,hW⟩⟩) λfl s1 J=>?_);cases fl with
  |next=>obtain⟨O,H1,Y,q⟩:=J;exact c DE s1 O H1 Y q
  |ret u=>obtain⟨_,_,_,_,_,q⟩:=J;exact q.elim
  |brk=>obtain⟨_,_,_,q⟩:=J;exact q.elim
  |cont=>obtain⟨_,_,_,q⟩:=J;exact q.elim
 |rt v=>cases j
 |bk e1=>cases j
 |ct e1=>cases j
end
open PySem L2 PyProof.Rows PySem.Spec
noncomputable def BJ(ga:sj)(c:Nat)(env:Env):Option XV:=(ga env).bind λqs=>if qs.length<=1000 then some (c,none)else none
@[simp] def Vr(j:sj)(c:Nat)(env:Env):BJ j c env=((j env).bind λI=>if I.length<=1000 then some (c,none)else none):=id rfl
section
variable {P:Program}{w:World}{K:W.Frag}{mg:rX}{base:Heap}{N:rj}{qual:Str}{scope:Scope}{f:Addr}{cd:Value}{A:Around}{outer:List PySem.Env}{s:Shared}{H:Hp}{E:XK}
set_option tactic.hygienic true in def Mt(c:Nat){b:BX}{G:oT}{e:Expr}{es:rh}{x:Str}{np D3 pos:Pos}{ga:sj}{B newId Zt:String}{Se:re}(FB:ExcBaseFacts B newId Zt Se)
  (hC:W.excIn K (b.C.cl c) Se newId=true) (hm:mg x=some (.ref (b.C.cl c))) (Y:SA (cD (G2 P w K) P w K mg base N qual scope f cd A outer s H E) b G false (e::es) ga)
  (Yw:autoParam (Gl (cD (G2 P w K) P w K mg base N qual scope f cd A outer s H E) x) r0_) (Kb:autoParam (GG x) r1_)
  (he:autoParam (starEach (e::es) (envOfC qual scope s.heap.objs.size f cd)=(false,eval e (envOfC qual scope s.heap.objs.size f cd))::starEach es (envOfC qual scope s.heap.objs.size f cd)) r0_)
  (ES:autoParam ((backTo D3 (starEach es (envOfC qual scope s.heap.objs.size f cd))).any (·.1)=false) r0_):
  XS (cD (G2 P w K) P w K mg base N qual scope f cd A outer s H E) (Mc b G (WD b E) (BJ ga c)) (.Raise (some (.Call (.Name x np) (e::es) [] D3)) none pos):=by
 intro DE s1 EK H1 I ⟨Ow,env,c0,Er,U,hW⟩;obtain⟨qs,hga,U⟩:=aC U;split at U
 ·rename_i hql
  cases U;obtain⟨bm,Nn,nm,qn,bs,Mb,sn,su,ab,co,dd,k0,k1,k2,k3,k5,mN,Z,hN,hni,T⟩:=Qh I.ok.mod.IS hC;refine wpAny_Raise_call_subT (C:=b.C.cl c) (nm:=nm) (q:=qn) (N:=Nn) (bs:=bs) (bm:=bm) (hdct:=Mb) (sn:=sn) (sub:=su) (ab:=ab) (col:=co) (dd:=dd) (k0:=k0) (k1:=k1) (k2:=k2) (k3:=k3) (k5:=k5)
   FB (mN:=mN) (T.hasType FB.hasBase) (I.ok.hd rfl) ?_ hni (mH I Yw hm ⟨rfl,?_⟩ Kb)
  ·show(backTo D3 (starEach (e::es) (envOfC qual scope s.heap.objs.size f cd))).any (·.1)=false
   rw[he];show(false||(backTo D3 (starEach es (envOfC qual scope s.heap.objs.size f cd))).any (·.1))=false;rw[ES];rfl
  have h1:=Y D3 DE s1 EK H1 (λvs H2=>DH H1 H2/\vs.length<=1000) I ⟨Ow,env,qs,Er,hga,λvs H2 J rr=>⟨J,by rw[rr.length];exact hql⟩⟩;have h2:wpAny (model P w) (A.deeper (envOfC qual scope s.heap.objs.size f cd)) (spliced (backTo D3 (starEach (e::es) (envOfC qual scope s.heap.objs.size f cd)))) _ _ s1:=h1;show wpAny (model P w) (A.deeper (envOfC qual scope s.heap.objs.size f cd)) (evalArgs (.ref (b.C.cl c)) true (backTo D3 (starEach (e::es) (envOfC qual scope s.heap.objs.size f cd))) []) _ _ s1;rw[he]at h2 ⊢;refine i9 (cS h2 (λus J ⟨vs,H2,j,r,sm,hl⟩=>⟨rfl,by rw[←r.length];exact small hl,j.bk _ _ Z,hN.keeps j.bk,T.keeps j.bk,λh' ex O=>?_⟩) λ_ _ y=>y);show wpAny (model P w) (A.deeper (envOfC qual scope s.heap.objs.size f cd)) (leaving (envOfC qual scope s.heap.objs.size f cd) (.ref ex)) (λ_ N9=>G2 P w K outer H s E (.ref ex) N9) (λe' N9=>G2 P w K outer H s E e' N9) {J with heap:=h'};refine wpAny_leaves_madeW (base:=W.hideAll J.heap (EW (envOfC qual scope s.heap.objs.size f cd::outer))) (h:=J.heap) j.ok.frames rfl (λb o q=>md _ q) (W.funFrames_hide j.stack λen hen a hfa=>mh.mpr ⟨en,hen,hfa⟩) O λh3 t fl tup nt up=>?_;have gr:Zr (W.hideAll J.heap (EW (envOfC qual scope s.heap.objs.size f cd::outer))) s.heap J.heap H2 (envOfC qual scope s.heap.objs.size f cd::outer):=λa o q n=>by
   by_cases Y:a∈EW (envOfC qual scope s.heap.objs.size f cd::outer)
   ·exact .inl Y
   ·rw[p9 _ q Y]at n;cases n
  obtain⟨u2,Zs,gr2⟩:=Ei j (λa o q=>md _ q) fl.1 gr ((Heap.UpToSlots.of_keeps O.keeps).trans up);have nw:=O.new;have na:s.heap.get? ex=none:=by
   cases z:s.heap.get? ex with
   |none=>rfl
   |some o=>
    obtain⟨_,y⟩:=j.base.there ex o z (λz=>nomatch z);rw[nw]at y;cases y
  have nH:H2 ex=none:=by
   cases z:H2 ex with
   |none=>rfl
   |some o=>
    obtain⟨_,y⟩:=(j.DV ex o z).there;rw[nw]at y;cases y
  exact⟨ex,.ref (b.C.cl c),.ref t,_,H2,rfl,j.os,j.bare,u2,Zs,fl,na,nH,gr2,ex,none,trivial,na,nH,hW H2 (Er.same.trans sm)⟩
 ·cases U
noncomputable def m_(n k:Nat)(f:Env->Option XV)(ps:sv):Option XV:=if ps.length=k then f (ps.map some++List.replicate (n - k) none)else none
@[simp] def We(n k:Nat)(f:Env->Option XV)(ps:sv):m_ n k f ps=(if ps.length=k then f (ps.map some++List.replicate (n - k) none)else none):=id rfl
set_option tactic.hygienic true in def Qi{C:MC}{n k:Nat}{ro:Bool}{g:Env->Option Out}{U:Env->Option XV}{ps:rj}(J:ps.length=k){vs:sx}{H:Hp}{Q:VK}{E:XK}(h:SF C (bM n k ro g) ro (m_ n k U) vs H Q E):vs.length=ps.length:=by
 rcases h with⟨A,O,p,r,j,_⟩|⟨A,O,c,r,j,_⟩
 ·unfold bM at j
  split at j
  ·rename_i I;rw[r.length,I,J]
  ·cases j
 ·unfold m_ at j
  split at j
  ·rename_i I;rw[r.length,I,J]
  ·cases j
set_option tactic.hygienic true in def Mu{C:MC}{n k:Nat}{G G' L:oT}{ro:Bool}{body:rg}{g:Env->Option Out}{j:Env->Option XV}(U:N.length=n)(hk:k<=n)(J:(G.all λi=>decide (k<=i))=true)
  (Y:∀B H',MO (cD (G2 P w K) P w K mg base N qual scope f cd A outer s H E).LV ⟨C,B,H',λ_=>none⟩ G G' L ro body g)
  (hx:∀B H',P8 (cD (G2 P w K) P w K mg base N qual scope f cd A outer s H E) (Mc ⟨C,B,H',λ_=>none⟩ G (WD ⟨C,B,H',λ_=>none⟩ E) j) body)
  {vs:sx}{Q:VK}(h:SF C (bM n k ro g) ro (m_ n k j) vs H Q E):∃t,FX (cD (G2 P w K) P w K mg base N qual scope f cd A outer s H E) body t/\t {nx:=λ_ H'=>Q .DS H',rt:=Q} (L2.start N vs) H:=by
 rcases h with h|⟨B,ps,c,r,hm,kk⟩
 ·obtain⟨t,h1,h2⟩:=D_ (X:=(cD (G2 P w K) P w K mg base N qual scope f cd A outer s H E).LV) U hk J Y h
  exact⟨t,h1.LV,h2⟩
 ·refine⟨λ_ EK H'=>Mc ⟨C,B,H,λ_=>none⟩ G (WD ⟨C,B,H,λ_=>none⟩ E) j [] EK H',λDE s1 EK H1 D I q=>?_,?_⟩
  ·obtain⟨Ow,env,c0,Er,Z,hW⟩:=q
   exact cS (hx B H DE s1 EK H1 I ⟨Ow,env,c0,Er,Z,hW⟩) (λ_ _ z=>z.elim) λ_ _ z=>z
  ·unfold m_ at hm
   split at hm
   ·rename_i O
    exact⟨_,_,c,uO (N:=N) (G:=G) r (λi hi=>by rw[O];simpa using eS.mp J i hi) (by omega),by rw[U,O];exact hm,λH1 s1=>kk H1 s1⟩
   ·cases hm
end
section
variable {P:Program}{w:World}{K:W.Frag}{mg:rX}{base:Heap}
def Ek{x qual:Str}{st:Stmt}{f:Addr}{fd:FuncData}{N ps:rj}{k:Nat}{sp:Sp}(F:G0 K x qual st f fd)(S:DJ N ps (aA st))(len:∀vs H Q E,sp vs H Q E->vs.length=ps.length)
  (I:∀(j:Value) (A:Around) (outer:List PySem.Env) (s:Shared) (H:Hp) (vs:sx) (Q:VK) (E:XK),Ee k (A.deeper (envOfC qual (aA st) s.heap.objs.size f j))->sp vs H Q E->
   ∃t,FX (cD (G2 P w K) P w K mg base N qual (aA st) f j A outer s H E) (dz st) t/\t {nx:=λ_ H'=>Q .DS H',rt:=Q} (start N vs) H):EC P w K mg base (G2 P w K) (k+1) f fd ps sp:=by
 obtain⟨oc,od,kV,Z,pm,an,j,ct,Xm,rfl,O,U⟩:=F.ex;exact Nf O U S len λA outer s H vs Q E Y J=>I j A outer s H vs Q E Y J
def Qj{C:MC}{k:Nat}{f:Addr}{fd:FuncData}{ps:rj}{mi:sg}{ro:Bool}(F:EC P w K mg base (G2 P w K) k f fd ps (SF C mi ro xi)):EC P w K mg base IP k f fd ps (HA C mi ro):=by
 refine⟨λvs H Q E h=>F.len vs H Q E (.inl h),λA outer s H j us vs Q E Y U I O J=>?_⟩;refine jI (F.run A outer s H j us vs Q E0 Y U I O (.inl J)) λr s' h=>?_;cases r with
 |ok fl=>cases fl<;>exact h
 |error e=>
  obtain⟨_,_,_,_,_,_,_,_,_,_,_,_,_,_,_,_,_,_,_,z⟩:=(show G2 P w K outer H s E0 e s' from h);exact z.elim
def BK{C:MC}{k:Nat}{x:Str}{ps:rj}{mi:sg}{ro:Bool}(c:UK P w K mg base k x ps (SF C mi ro xi)):Oy P w K mg base k x ps (HA C mi ro):=by
 obtain⟨f,fd,F,j,I,J⟩:=c.ex;exact⟨f,fd,Qj F,j,I,J⟩
end
end Lake.MR
namespace Lake.L2
open PySem PySem.Spec PyProof.Rows
def ExcAt(a C:Addr)(dx:Option Addr)(h:Heap):Prop:=∃o vs,h.get? a=some o/\o.cls=.ref C/\o.data=.fields vs/\∀x,dx=some x->o.dict=some x
noncomputable def Zu(a C:Addr)(dx:Option Addr):HO:=.ext (ExcAt a C dx)
def Jx{P:Program}{w:World}{K:W.Frag}{H:Hp}{h:Heap}{a C:Addr}{dx:Option Addr}(e:ExcAt a C dx h):DZ P w K H h a (Zu a C dx):=by
 obtain⟨o,vs,j,I,q3,Y⟩:=e;exact⟨⟨o,vs,j,I,q3,Y⟩,⟨o,j⟩,λg1 g2 ⟨o',U,O,J,Z,r4⟩ k=>⟨o',U,k _ O,J,Z,r4⟩⟩
def XAt(x:Addr)(n:Nat)(h:Heap):Prop:=∃m t,h.Ns x m/\m "at" = some (.int (n:Int) t)
noncomputable def xat(x:Addr)(n:Nat):HO:=.ext (XAt x n)
def Tp{P:Program}{w:World}{K:W.Frag}{H:Hp}{h:Heap}{x:Addr}{n:Nat}(e:XAt x n h):DZ P w K H h x (xat x n):=by
 obtain⟨m,t,⟨o,es,ep,J,r⟩,e2⟩:=e;exact⟨⟨m,t,⟨o,es,ep,J,r⟩,e2⟩,⟨o,J⟩,λg1 g2 ⟨U,t',⟨o',j,I,Y,r'⟩,O⟩ k=>⟨U,t',⟨o',j,I,k _ Y,r'⟩,O⟩⟩
def BL(H:Hp)(a dx C:Addr):Option Nat->Hp
 |none=>upd H a (Zu a C none)
 |some n=>upd (upd H dx (xat dx n)) a (Zu a C (some dx))
def Cx.Yr(X:Cx)(a:Addr):Cx:={X with A:=X.A.mark (some (.ref a)),calm:=false,xe:=λ_ _=>False}
section
variable {X:Cx}{DE:oI}{EK:St}{H:Hp}{s:Shared}
def Inv.Yx(I:Inv X DE EK H s)(a:Addr):Inv (X.Yr a) DE EK H s:=
 ⟨⟨I.ok.mod,I.ok.kind,I.ok.glob,I.ok.blt,I.ok.above,I.ok.inj,I.ok.has,I.ok.ZR,(λz=>nomatch z),I.ok.frames,I.ok.stk,I.ok.exf,I.ok.bs,I.ok.WZ,I.ok.QI,I.ok.SY,I.ok.IT,I.ok.X3⟩,I.os,I.bare,I.base,I.loc,I.cell,I.free,I.FE,I.pin,I.DV,I.len⟩
def Inv.XU(ok:X.Ok){a:Addr}(I:Inv (X.Yr a) DE EK H s):Inv X DE EK H s:=⟨ok,I.os,I.bare,I.base,I.loc,I.cell,I.free,I.FE,I.pin,I.DV,I.len⟩
def El(I:Inv X DE EK H s)(hex:X.ex=[]){B h2:Heap}(bs:∀b o,B.get? b=some o->s.heap.get? b=some o)(st:B.StaysIn h2)(gr:Zr B X.s₀.heap s.heap H X.stack)(up:s.heap.UpToSlots h2)
  (pn:∀p∈X.pn++DE,B.get? p.1=some p.2):Inv X DE EK H {s with heap:=h2}:=by
 have u:=I.base;have kept:∀b o,s.heap.get? b=some o->b∉EW X.stack->(X.s₀.heap.get? b≠none\/H b≠none)->h2.get? b=some o:=λb o e n1 n2=>by
  cases q:B.get? b with
  |none=>exact((gr b o e q).elim n1 λz=>n2.elim (λy=>y z.1) λy=>y z.2).elim
  |some o'=>
   have:=bs b o' q;rw[e]at this;cases this;exact st b o q
 have Z:∀b o,X.s₀.heap.get? b=some o->b∉X.fs->b∉EW X.stack:=λb o e n z=>by
  rcases br.mp (I.JY b z)with y|y
  ·subst y;exact absurd (bS (ar e) I.ok.above) (fg _)
  ·exact n y
 have j:∀c v,s.heap.IsCell c v->h2.IsCell c v:=by
  rintro c v ⟨o,ho,O⟩;obtain⟨sl,e⟩:=up c o ho λvs z=>by rw[O]at z;cases z
  exact⟨_,e,O⟩
 refine⟨I.ok,I.os,I.bare,⟨λb o q n J U=>?_,λb o q n J U=>?_,u.free,λb o q U=>?_,u.JU,u.IQ,u.LH⟩,?_,λx c e=>?_,I.free,I.FE,λp hp=>?_,λb v q=>?_,I.len⟩
 ·exact kept b o (u.keep b o q n J U) (Z b o q J) (.inl (by rw[q];exactλz=>nomatch z))
 ·obtain⟨sl,e1⟩:=u.slot b o q n J U
  obtain⟨_,o',e',O⟩:=I.IT.mem J;rw[e1]at e';cases e';obtain⟨YH,e2⟩:=up b _ e1 O;exact⟨YH,e2⟩
 ·obtain⟨o',e1⟩:=u.there b o q U
  by_cases J:b∈EW X.stack
  ·obtain⟨_,o2,e2,O⟩:=I.stack.mem J
   rw[e1]at e2;cases e2;obtain⟨sl,e3⟩:=up b _ e1 O;exact⟨_,e3⟩
  ·exact⟨o',kept b o' e1 J (.inl (by rw[q];exactλz=>nomatch z))⟩
 ·obtain⟨m,Y,hl⟩:=I.loc
  refine⟨m,up.ns Y,λi x v e1 e2 e3=>?_⟩;obtain⟨w',r,l⟩:=hl i x v e1 e2 e3;refine⟨w',r,?_⟩;rcases l with l|⟨k,c,e,z⟩
  ·exact .inl l
  ·exact .inr ⟨k,c,e,j c _ z⟩
 ·obtain⟨v,z⟩:=I.cell x c e
  exact⟨v,j c v z⟩
 ·obtain⟨_,n,nl,nf,d⟩:=I.pin p hp
  exact⟨st _ _ (pn p hp),n,nl,nf,d⟩
 ·refine(I.DV b v q).LG (λc x hc r=>?_) (λ_ q=>q) λ_ _ q=>q
  have Y:H c≠none:=by
   rcases hc with rfl|hc
   ·rw[q];exactλz=>nomatch z
   ·rw[hc];exactλz=>nomatch z
  exact kept c x r (λz=>Y (I.LU c z)) (.inr Y)
def Inv.OZ(I:Inv X DE EK H s){a:Addr}{φ:Heap->Prop}(e:∀H',DZ X.prog X.w X.K H' s.heap a (.ext φ))(U:X.s₀.heap.get? a=none)(nH:H a=none)(np:∀p∈X.pn++DE,p.1≠a)(Z:X.env.locals≠a)(Y:∀x c,X.env.cells.lookup x=some c->c≠a):Inv X DE EK (upd H a (.ext φ)) s:=by
 have u:=I.base;refine⟨I.ok,I.os,I.bare,⟨u.keep,u.slot,λb o q n J=>?_,u.there,λb xs q=>?_,λb o xs q=>?_,λb ps q=>?_⟩,I.loc,I.cell,?_,λx c q=>?_,λp j=>?_,λb v q=>?_,I.len⟩
 ·rw[az (λz=>by rw[z,U]at q;cases q)];exact u.free b o q n J
 ·rw[az (au (u.JU b xs q) nH)];exact u.JU b xs q
 ·rw[az (au (u.IQ b o xs q) nH)];exact u.IQ b o xs q
 ·obtain⟨more,z⟩:=u.LH b ps q
  exact⟨more,by rw[az (au z nH)];exact z⟩
 ·rw[az Z];exact I.free
 ·rw[az (Y x c q)];exact I.FE x c q
 ·obtain⟨e1,n,nl,O,d⟩:=I.pin p j
  exact⟨e1,by rw[az (np p j)];exact n,nl,O,d⟩
 ·by_cases hb:b=a
  ·subst hb
   rw[aq]at q;cases q;exact e _
  ·rw[az hb]at q
   exact(I.DV b v q).LG (λc x _ r=>r) (λc r=>by rw[az (au r nH)];exact r) λc xs r=>by rw[az (au r nH)];exact r
def mD(I:Inv X DE EK H s){a:Addr}{Y:Obj}{vs:rV}(O:s.heap.get? a=some Y)(U:Y.data=.fields vs):X.env.locals≠a/\∀x c,X.env.cells.lookup x=some c->c≠a:=by
 refine⟨λz=>?_,λx c q z=>?_⟩
 ·obtain⟨m,⟨o,es,ep,J,j,_⟩,_⟩:=I.loc
  rw[z,O]at J;cases J;rw[U]at j;cases j
 ·obtain⟨v,o,J,j⟩:=I.cell x c q
  rw[z,O]at J;cases J;rw[U]at j;cases j
def Inv.Zv(I:Inv X DE EK H s){a dx C:Addr}{d:Option Nat}{O:Obj}{vs:rV}(j:s.heap.get? a=some O)(hc:O.cls=.ref C)(J:O.data=.fields vs)(f:P7 s.heap a dx d)
  (Z:X.s₀.heap.get? a=none) (nH:H a=none) (np:∀p∈X.pn++DE,p.1≠a) (nd:X.s₀.heap.get? dx=none) (SD:H dx=none) (Ys:∀p∈X.pn++DE,p.1≠dx) (nL:X.env.locals≠dx) (nC:∀x c,X.env.cells.lookup x=some c->c≠dx):Inv X DE EK (BL H a dx C d) s:=by
 cases d with
 |none=>exact I.OZ (λH'=>Jx ⟨O,vs,j,hc,J,λx z=>nomatch z⟩) Z nH np (mD I j J).1 (mD I j J).2
 |some n=>
  obtain⟨⟨oe',e1,e2⟩,m,t,U,hm⟩:=f;rw[j]at e1;cases e1;have ne:a≠dx:=λz=>by
   obtain⟨o,es,ep,Y,Mb,_⟩:=U;rw[←z,j]at Y;cases Y;rw[J]at Mb;cases Mb
  have I1:=I.OZ (φ:=XAt dx n) (λH'=>Tp ⟨m,t,U,hm⟩) nd SD Ys nL nC;exact I1.OZ (φ:=ExcAt a C (some dx)) (λH'=>Jx ⟨O,vs,j,hc,J,λx z=>by cases z;exact e2⟩) Z (by rw[az ne];exact nH) np (mD I j J).1 (mD I j J).2
def name_goes{M:Model}{A:Around}{E:gV}{Q:Unit->Shared->Prop}{i:Nat}{n:Str}{pos:Pos}(I:Inv X DE EK H s)(nd:X.N.Nodup)(hi:X.N[i]?=some n)(hk:X.env.scope.names.lookup n=some .local)
  (h:∀s',Inv X DE (EK.set i none) H s'->Q () s'):wpAny M A (do bindName X.env n .none;unbindBehindTheSuite X.env n pos) Q E s:=by
 obtain⟨m,Z,hl⟩:=id I.loc;have YI:(X.env.scope.kind == .class||(X.env.scope.kind == .module&&X.env.locals != X.env.globals))=false:=by rw[I.ok.kind];rfl
 refine wpAny_nameGoes_keeps hk Z YI λh' v OE O=>?_;obtain⟨oL,_,_,hoL,_⟩:=id Z;have J:∀b o,X.s₀.heap.get? b=some o->b≠X.env.locals:=λb o e=>bP (bS (ar e) I.ok.above);refine h _ ⟨I.ok,I.os,I.bare,⟨λb o e n Y U=>(O.2 b (J b o e)).trans (I.base.keep b o e n Y U),λb o e n Y U=>?_,I.base.free,λb o e U=>?_,I.base.JU,I.base.IQ,I.base.LH⟩,⟨_,OE,λj y v' e1 e2 e3=>?_⟩,λy c e=>?_,I.free,I.FE,λp hp=>?_,λb v q=>?_,by rw[eg];exact I.len⟩
 ·obtain⟨sl,e1⟩:=I.base.slot b o e n Y U
  exact⟨sl,(O.2 b (J b o e)).trans e1⟩
 ·obtain⟨o',e1⟩:=I.base.there b o e U
  exact⟨o',(O.2 b (J b o e)).trans e1⟩
 ·have hj:i≠j:=λz=>by
   subst z;rw[iP]at e2;split at e2
   ·split at e2<;>cases e2
   ·exact absurd rfl ‹¬ i=i›
  rw[bv hj]at e2;obtain⟨u',r',q⟩:=hl j y v' e1 e2 e3;refine⟨u',r',?_⟩;rcases q with⟨k,e⟩|⟨k,c,e,z⟩
  ·refine .inl ⟨k,?_⟩
   have:y≠n:=λe=>hj (uG nd (e▸hi) e1);show(if y=n then v else m y)=some u';rw[bt this];exact e
  ·exact .inr ⟨k,c,e,z.sameBut O (I.Xi y c e)⟩
 ·obtain⟨w',z⟩:=I.cell y c e
  exact⟨w',z.sameBut O (I.Xi y c e)⟩
 ·obtain⟨e,n,ne,nf,d⟩:=I.pin p hp
  exact⟨(O.2 p.1 ne).trans e,n,ne,nf,d⟩
 ·refine(I.DV b v q).LG (λc x hc r=>(O.2 c ?_).trans r) (λ_ q=>q) λ_ _ q=>q
  rintro rfl;rcases hc with z|z
  ·rw[←z,I.free]at q;cases q
  ·rw[I.free]at z;cases z
end
end Lake.L2
namespace Lake.MR
open PySem L2 PyProof.Rows PySem.Spec
def Em{X:Cx}{b:BX}{G:oT}{body:rg}{tn:TS}{xf:Env->Option XV}{cx n O:Str}{Cc:Addr}{iw ie:Nat}{np p1 p2 p3 hp pos:Pos}(hX:∀e s,X.xe e s->False)(hex:X.ex=[])(L6:X.stack=X.env::X.outer)(NC:X.env.frame=some X.env.locals)(ndp:X.N.Nodup)
  (hn:X.N[ie]?=some n) (Zw:X.env.scope.names.lookup n=some .local) (hw:X.N[iw]?=some O) (IE:Loc X.env.scope O) (Yw:Gl X cx) (hm:X.mg cx=some (.ref Cc)) (h1:FX X body tn) (h2:∀E',P8 (X.HK E') (Mc b G (WTy (X.HK E') b) xf) body)
  (hd:autoParam (GG cx) r1_) (Yp:autoParam (GG n) r1_) (Z0:autoParam (NJ n) r1_)
  (W9:autoParam (swapsWith (.Name n p2) (some (.Name O p1)) p3.line X.env=pure false) r0_) (X6:autoParam (QE X O) r3_):
  PS X (.Try body [.ExceptHandler (some (.Name cx np)) (some n) [.Assign [.Name O p1] (.Name n p2) p3] hp] [] [] pos) (λD EK H=>tn D EK H\/∃Ow env c,ER b Ow G EK env H/\xf env=some c/\W.exmOne X.K (.ref (b.C.cl c.1)) (.ref Cc)=some true /\
   ∀a dx H1,DH H H1->H1 a=none->H1 dx=none->(c.2.isSome=true->a≠dx)->D.nx (((EK.set ie (some (.ref a))).set iw (some (.ref a))).set ie none) (BL H1 a dx (b.C.cl c.1) c.2)):=by
 intro DE s EK H D I q;rcases q with q|⟨Ow,env,c,E,hxf,Zx,kk⟩
 ·refine wpAny_Try_except (cS (h1 DE s EK H D I q) (λf s1 j=>?_) λe s1 j=>(hX e s1 j).elim)
  cases f with
  |next=>exact kz j
  |ret u=>exact j
  |brk=>exact j
  |cont=>exact j
 ·refine wpAny_Try_except (cS (h2 (λe EZ=>wpAny (model X.prog X.w) X.A (noteFrame e X.env) (λ_ FC=>wpAny (model X.prog X.w) X.A (setFlight e none) (λ_ FU=>wpAny (model X.prog X.w) X.A (handleBy e X.env [.ExceptHandler (some (.Name cx np)) (some n) [.Assign [.Name O p1] (.Name n p2) p3] hp]) (SP X DE D) X.xe FU) X.xe FC) X.xe EZ) DE s EK H (I.HK _) ⟨Ow,env,c,E,hxf,λH1 ex s1 sm Li=>?_⟩) (λ_ _ z=>z.elim) λ_ _ z=>z)
  obtain⟨a,a0,B,rfl,fl,na,nH,pn,gr,dx,fd,nd,SD,Ys,Z,nCd⟩:=Li.ex;have I1:Inv X DE EK H1 s1:=Li.inv.HK X.xe;have fl:Heap.FlyingW B X.stack a (.ref (b.C.cl c.1)) a0 s1.heap:=fl;have pn:∀p∈X.pn++DE,B.get? p.1=some p.2:=pn;have gr:Zr B X.s₀.heap s1.heap H1 X.stack:=gr;have Ys:∀p∈X.pn++DE,p.1≠dx:=Ys;have nd:X.s₀.heap.get? dx=none:=nd;have Z:X.env.locals≠dx:=Z;have nCd:∀x c,X.env.cells.lookup x=some c->c≠dx:=nCd;rw[L6]at fl;have ok:=I.ok;have frm:X.A.frames=some (X.env::X.outer):=by rw[←L6];exact ok.frames
  show wpAny (model X.prog X.w) X.A (noteFrame (.ref a) X.env) _ X.xe s1;refine Jv frm NC fl fd λh4 held4 up4 fd4=>?_;refine Jw held4 fd4 λh5 Y up5 fd5=>?_;have np:∀p∈X.pn++DE,p.1≠a:=λp hp z=>by
   have:=pn p hp;rw[z,fl.2.1]at this;cases this
  have J:=up4.trans up5;have I5:Inv X DE EK H1 {s1 with heap:=h5}:=El I1 hex (λb o q=>fl.1 b o q) Y.1 gr J pn;obtain⟨oe,vs,XB,hoc,hod,_⟩:=Y.first;refine wpAny_handleBy_cons (codeAny_handlers_test ?_) (by intro q;cases q);refine mH (X:=X.Yr a) (I5.Yx a) Yw hm ?_ hd;have LT:W.Looks (model X.prog X.w) h5 (typeOf (.ref a)) (.ref (b.C.cl c.1)):=hoc▸(oC XB).andThen .now;refine W.Looks.here (W.exm_one I5.HI LT Zx) ?_;show codeAny (model X.prog X.w) (X.A.mark (some (.ref a))) (.handlers (.ref a) [.ExceptHandler none (some n) [.Assign [.Name O p1] (.Name n p2) p3] hp] X.env) _ {s1 with heap:=h5};refine codeAny_handlers_suite_as ?_;refine G5 Y fd5 λh6 fl6 up6 U=>?_;have I6:Inv X DE EK H1 {s1 with heap:=h6}:=El I1 hex (λb o q=>fl.1 b o q) fl6.1 gr (J.trans up6) pn;obtain⟨o6,v6,Za,hc6,hd6,_⟩:=fl6.first;have I7:=(I6.Zv (a:=a) (C:=b.C.cl c.1) Za hc6 hd6 U na nH np nd SD Ys Z nCd).Yx a;have ned:c.2.isSome=true->a≠dx:=λz y=>by
   cases q:c.2 with
   |none=>rw[q]at z;cases z
   |some n=>
    rw[q]at U;obtain⟨_,m,t,⟨o,es,ep,ho,Mb,_⟩,_⟩:=U;rw[←y,Za]at ho;cases ho;rw[hd6]at Mb;cases Mb
  have OA:ie<EK.length:=by rw[I.len];exact(ap.mp hn).1
  refine uH (X:=X.Yr a) I7 ndp hn (.inl Zw) (v:=.ref a) rfl (λs8 I8=>?_) (.inr Zw);have st:=bH (cz (X:=X.Yr a) (pos':=p1) (pos:=p3) ndp hw IE (dW (X:=X.Yr a) (pos:=p2) hn (.inl Zw) Yp Z0) W9 X6);refine cS (st DE s8 _ _ {nx:=fun σ9 H9=>σ9=(EK.set ie (some (.ref a))).set iw (some (.ref a))/\H9=BL H1 a dx (b.C.cl c.1) c.2,rt:=λ_ _=>False} I8 ⟨.ref a,dS OA,rfl,rfl⟩) (λf s9 j=>?_) λ_ _ z=>z.elim;cases f with
  |next=>
   obtain⟨σ9,H9,I9,e1,e2⟩:=j;subst e1 e2;exact name_goes (I9.XU ok) ndp hn Zw λs10 I10=>⟨_,_,I10,kk a dx H1 sm nH SD ned⟩
  |ret u=>obtain⟨_,_,_,_,_,z⟩:=j;exact z.elim
  |brk=>obtain⟨_,_,_,z⟩:=j;exact z.elim
  |cont=>obtain⟨_,_,_,z⟩:=j;exact z.elim
end Lake.MR
namespace Lake.L2
open PySem PySem.Spec PyProof.Rows
structure Me(K:W.Frag)(C:Addr):Prop where
 ga:W.findIn K (.ref C) "__getattribute__" = some (some (.builtin "BaseException.__getattribute__"))
 gr:W.findIn K (.ref C) "__getattr__" = some none
 cl:W.findIn K (.ref C) "__class__" = some (some (.builtin "object.__class__"))
 bo:W.mroIn K C (.type "object")=some true
 be:W.mroIn K C (.type "BaseException")=some true
section
variable {prog:Program}{w:World}{A:Around}{E:gV}{h:Heap}{g:Array GenState}{d:Drawn}{t:Nat}{os:OsState}{a C:Addr}{dx:Option Addr}{K:W.Frag}
def Mv{R:Result->Shared->Prop}(KI:K.In h)(U:Me K C)(ex:ExcAt a C dx h)(Y:R (.ok (.ret (.ref C))) ⟨h,g,d,t,os⟩):
  codeAny (model prog w) A (.call (.builtin "getset_descriptor.__get__") ⟨[.builtin "object.__class__",.ref a,.ref C],[]⟩) R ⟨h,g,d,t,os⟩:=by
 obtain⟨o,vs,J,O,Z,_⟩:=ex;have j:(⟨h,g,d,t,os⟩:Shared).TypeIs (.builtin "object.__class__") "getset_descriptor" := k7;have I:=qk (M:=model prog w) KI U.bo;refine codeAny_call_builtin qS.plain F.entry_gs_get (qS.check _ _ _ _ _ _ _ _ j (F.args_gs_get _ _ _) ?_)
 repeat(any_goals (first|assumption|(with_reducible refine iX J ?_;rw[O])|(rw[F.owner_object_class];with_reducible refine I.at ?_)|with_reducible refine I.at ?_|wp_step))
 refine⟨mM _ (by decide +kernel),gS F.entry_object_class ?_⟩
 repeat(any_goals (first|assumption|(with_reducible refine iX J ?_;rw[O])|wp_step))
def Mw{I:Tok}{Q:Fin->Shared->Prop}(KI:K.In h)(j:Me K C)(ex:ExcAt a C dx h)(hq:Q (.done (.ret (.ref C))) ⟨h,g,d,t,os⟩):
  wpAny (model prog w) A (Builtin.«object.__getattribute__» ⟨[.ref a,.str "__class__" I],[]⟩) Q E ⟨h,g,d,t,os⟩:=by
 obtain⟨o,vs,J,O,hd,_⟩:=id ex;have Y:(⟨h,g,d,t,os⟩:Shared).TypeIs (.builtin "object.__class__") "getset_descriptor" := k7;have f5:=k7;have Z:=qS.lookup;have f7:=F.slot_gs_set.lookup;have U:=i7 (M:=model prog w) KI j.cl
 repeat(any_goals (first|assumption|(with_reducible refine iX J ?_;rw[O])|with_reducible refine U.at ?_|wp_step))
 refine Mv KI j ex ?_
 repeat(any_goals (first|assumption|wp_step))
def Qk{M:Model}{j:Value}{Q:Unit->Shared->Prop}(KI:K.In h)(J:Me K C)(ex:ExcAt a C dx h)(U:Q () ⟨h,g,d,t,os⟩):wpAny M A (checkBuiltinCall "BaseException.__getattribute__" ⟨[.ref a,j],[]⟩) Q E ⟨h,g,d,t,os⟩:=by
 obtain⟨o,vs,O,Y,hd,_⟩:=ex;have k1:builtinKind "BaseException.__getattribute__" = some .slot:=by decide +kernel
 have k2:splitId "BaseException.__getattribute__" = some ("BaseException","__getattribute__"):=by decide +kernel
 have Z:=F.args_bexc_ga (.ref a) j;have I:=qk (M:=M) KI J.be;simp only[checkBuiltinCall,k1,k2];refine ac ?_;unfold isInstance
 repeat(first|(with_reducible refine iX O ?_;rw[Y])|with_reducible refine I.at ?_|wp_step)
 exact U
def Mx{Y:Tok}{I j:Bool}{Q:gV}(KI:K.In h)(J:Me K C)(ex:ExcAt a C dx h)(hq:Q (.ref C) ⟨h,g,d,t,os⟩):wpAny (model prog w) A (getAttrBy (.ref a) (.str "__class__" Y) I j) Q E ⟨h,g,d,t,os⟩:=by
 obtain⟨o,vs,Z,hc,hd,_⟩:=id ex;have f3:=F.excAttr_ValueError.ga.bind (.ref a);have x0:(j&&onTheHeap (Value.builtin "BaseException.__getattribute__"))=false:=by cases j<;>rfl
 have U:(Value.builtin "BaseException.__getattribute__" == Value.builtin "object.__getattribute__")=false:=by decide +kernel
 have x1:(onTheHeap (Value.ref C)&&Value.builtin "BaseException.__getattribute__" == Value.builtin "object.__getattribute__")=false:=by rw[U];exact Bool.and_false _
 have O:=i7 (M:=model prog w) KI J.ga;have Lr:=i7 (M:=model prog w) KI J.gr
 repeat(any_goals (first|assumption|(with_reducible refine iX Z ?_;rw[hc])|with_reducible refine O.at ?_|with_reducible refine Lr.at ?_|wp_step))
 refine codeAny_call_builtin F.excAttr_ValueError.ga.plain F.entry_bexc_ga (Qk KI J ex (Mw KI J ex ?_))
 repeat(any_goals (first|assumption|wp_step))
def Jy{Q:Option Value->Shared->Prop}(KI:K.In h)(j:Me K C)(ex:ExcAt a C dx h)(I:Q (some (.ref C)) ⟨h,g,d,t+1,os⟩):wpAny (model prog w) A (getAttr? (.ref a) "__class__") Q E ⟨h,g,d,t,os⟩:=by
 unfold getAttr? getAttrBy?
 repeat(any_goals (first|assumption|with_reducible apply Mx KI j ex|wp_step))
end
set_option tactic.hygienic true in def En{K:W.Frag}{C:Addr}{base:Value}{r:Bool}(e:W.mroIn K C base=some r):∃c dd cd sl,K.lookup C=some ⟨c,dd,.cls cd,sl⟩:=by
 obtain⟨cd,q,_⟩:=ai.mp e;unfold W.clsIn at q;split at q
 ·rename_i O d' I J j;exact⟨_,_,_,_,j⟩
 ·cases q
def Mz{K:W.Frag}{a C:Addr}{dx:Option Addr}(j:Me K C):W.KitX K (.ref a) (.ref C) (ExcAt a C dx) where
 ty:=λM h _ ⟨o,vs,O,U,_⟩=>U▸(oC O).andThen .now
 it:=λM h KI _=>by
  obtain⟨c,dd,cd,sl,J⟩:=En j.bo;intro A' Q' E' s' k q;unfold isType loadHead;exact ac (wpAny_loadPart (k _ _ (KI _ _ J)) (al q))
 ne:=λh tp dd Y n sl KI I=>by
  obtain⟨c,Sl,cd,Z,J⟩:=En j.bo;refine Bool.eq_false_iff.mpr λq=>?_;have e:C=tp:=Value.ref.inj (hU.mp q);subst e;cases(KI _ _ J).symm.trans I
 ca:=λ{prog w A E Q s} KI ex k=>by
  obtain⟨h,g,d,t,os⟩:=s;exact Jy KI j ex k
end Lake.L2
set_option exponentiation.threshold 500
namespace Lake.MR
open PySem L2
def KnA(C:Addr)(d:Option Nat)(a:Addr)(H:Hp):Prop:=∃dx,H a=some (Zu a C dx)/\∀n,d=some n->∃x,dx=some x/\H x=some (xat x n)
def KnA.up{C:Addr}{d:Option Nat}{a:Addr}{H H':Hp}(k:KnA C d a H)(s:DH H H'):KnA C d a H':=let ⟨dx,e2,e3⟩:=k;⟨dx,s _ _ e2,λn e=>let ⟨x,q1,q2⟩:=e3 n e;⟨x,q1,s _ _ q2⟩⟩
def Kn(i:Nat)(C:Addr)(d:Option Nat)(EK:St)(H:Hp):Prop:=∃a,EK[i]?=some (some (.ref a))/\KnA C d a H
def Kn.up{i:Nat}{C:Addr}{d:Option Nat}{EK:St}{H H':Hp}(k:Kn i C d EK H)(s:DH H H'):Kn i C d EK H':=let ⟨a,e1,e2⟩:=k;⟨a,e1,e2.up s⟩
def NH(i:Nat)(C:Addr)(dd:Option Nat)(v:V):TE:=fun EK H Q=>Kn i C dd EK H/\∀H',DH H H'->Q v H'
def Yz(i:Nat)(C:Addr)(dd:Option Nat)(k:Bool):TT:=fun EK H Q=>Kn i C dd EK H/\∀H',DH H H'->Q k H'
def Zy(i:Nat)(C:Addr)(dd:Option Nat)(p:PV):TS:=λD EK H=>Kn i C dd EK H/\∀v H',DH H H'->(∀(M:MC) (A:se),Rep M A H' v p)->D.rt v H'
def spE(C:Addr)(dd:Option Nat)(p:PV):Sp:=λvs H Q _=>∃a,vs=[.ref a]/\KnA C dd a H/\∀v H',DH H H'->(∀(M:MC) (A:se),Rep M A H' v p)->Q v H'
noncomputable def atV:PV->Option V
 |.DS=>some .DS
 |.bl b=>some (.bl b)
 |.int i=>some (.int i)
 |.str x=>some (.str x)
 |_=>none
def Ql{C:MC}{A:se}{H:Hp}{p:PV}{v:V}(h:atV p=some v):Rep C A H v p:=by
 cases p with
 |DS=>cases h;exact .DS
 |bl b=>cases h;exact .bl b
 |int i=>cases h;exact .int i
 |str x=>cases h;exact .str x
 |_=>cases h
def Tq{C:MC}{A:se}{H:Hp}{p:PV}{v j:V}(h:atV p=some j)(r:Rep C A H v p):v=j:=by
 cases p with
 |DS=>cases h;cases r;rfl
 |bl b=>cases h;cases r;rfl
 |int i=>cases h;cases r;rfl
 |str x=>cases h;cases r;rfl
 |_=>cases h
section
variable {X:Cx}{i:Nat}{C D:Addr}{dd:Option Nat}{v:V}{a c e:Expr}{b:Expr}{rest:rh}{pos p p1 p2:Pos}{x dn:Str}{j k:Bool}
def BR:EE X (.builtin "isinstance") (λxs H Q=>∃a C dx d c b,xs=[.ref a,d]/\(∀u,RelV d u->u=c)/\H a=some (Zu a C dx)/\Me X.K C/\W.kitOne X.K (.ref C) c=some b/\Q (.bl b) H):=by
 intro DE s EK H xs us Q I r h;obtain⟨a,C,dx,d,c,b,rfl,hd,J,O,Z,q⟩:=h;obtain⟨u,w',rfl,Y,U⟩:=vals2 r;cases Y;cases hd _ U;have ok:ExcAt a C dx s.heap:=(I.DV a _ J).1;exact W.kia_one (Mz O) I.HI ok Z (λz=>nomatch z) λtk=>⟨.bl b,H,I.tok _,rfl,q⟩
def nj(i:Nat)(xc:Me X.K C)(hk:W.kitOne X.K (.ref C) (.ref D)=some k)(hm:X.mg "isinstance" = none)(Y6:X.mg dn=some (.ref D))(Y:autoParam (X.N[i]?=some x) r0_)
  (O:autoParam (N3 X.env.scope x) r4_) (hd:autoParam (GG x) r1_) (U:autoParam (NJ x) r1_)
  (Z:Gl X "isinstance" := by rfl) (I:autoParam (Gl X dn) r0_) (Mb:autoParam (GG dn) r1_) (Y1:autoParam (bootBuiltins "isinstance" = some (.builtin "isinstance")) r2_)
  (J:autoParam (starEach [.Name x p1,.Name dn p2] X.env=(false,eval (.Name x p1) X.env)::starEach [.Name dn p2] X.env) r0_) (PR:autoParam (starEach [.Name dn p2] X.env=(false,eval (.Name dn p2) X.env)::starEach [] X.env) r0_) (ES:autoParam ((backTo pos (starEach [.Name dn p2] X.env)).any (·.1)=false) r0_):
  PE X (.Call (.Name "isinstance" p) [.Name x p1,.Name dn p2] [] pos) (NH i C dd (.bl k)):=
 PE.imp (eX BR Z hm Y1 (aB (dW Y O hd U) (aB (jo (v:=.ref D) I Y6 rfl Mb) aM PR) J) (by decide) (by decide) J ES) fun EK H Q ⟨⟨a,e1,dx,e2,_⟩,kk⟩=>⟨.ref a,e1,a,C,dx,.ref D,.ref D,k,rfl,λu h=>h,e2,xc,hk,kk H (DH.refl _)⟩
def Qm(i:Nat){dn':String}(xc:Me X.K C)(hk:W.kitOne X.K (.ref C) (.type dn')=some k)(hm:X.mg "isinstance" = none)(Y6:X.mg dn=none)(I:autoParam (bootBuiltins dn=some (.type dn')) r2_)(hN:autoParam (X.N[i]?=some x) r0_)
  (hv:autoParam (N3 X.env.scope x) r4_) (hd:autoParam (GG x) r1_) (U:autoParam (NJ x) r1_)
  (Y:Gl X "isinstance" := by rfl) (J:autoParam (Gl X dn) r0_) (Yp:dn ≠ "__name__" := by decide) (Mb:autoParam (GG dn) r1_) (Y1:autoParam (bootBuiltins "isinstance" = some (.builtin "isinstance")) r2_)
  (O:autoParam (starEach [.Name x p1,.Name dn p2] X.env=(false,eval (.Name x p1) X.env)::starEach [.Name dn p2] X.env) r0_) (Z:autoParam (starEach [.Name dn p2] X.env=(false,eval (.Name dn p2) X.env)::starEach [] X.env) r0_) (ES:autoParam ((backTo pos (starEach [.Name dn p2] X.env)).any (·.1)=false) r0_):
  PE X (.Call (.Name "isinstance" p) [.Name x p1,.Name dn p2] [] pos) (NH i C dd (.bl k)):=
 PE.imp (eX BR Y hm Y1 (aB (dW hN hv hd U) (aB (Oe (v:=.ty dn') J Y6 I rfl Yp Mb) aM Z) O) (by decide) (by decide) O ES) fun EK H Q ⟨⟨a,e1,dx,e2,_⟩,kk⟩=>⟨.ref a,e1,a,C,dx,.ty dn',.type dn',k,rfl,λu h=>h,e2,xc,hk,kk H (DH.refl _)⟩
def Tr(i:Nat){U:Nat}(O:autoParam (X.N[i]?=some x) r0_)(I:autoParam (N3 X.env.scope x) r4_)(Y:autoParam (GG x) r1_)(J:autoParam (NJ x) r1_):
  PT X (.Compare (.Name x p1) [.Is] [.Constant .none U p2] pos) (Yz i C dd false):=
 PT.imp (pD (QF (dW O I Y J))) fun EK H Q ⟨⟨a,e1,e2⟩,kk⟩=>⟨.ref a,e1,false,rfl,kk H (DH.refl _)⟩
def Qn(i:Nat){kd U:Nat}{f:Str}{ps:rj}{Y:PV}(J:atV Y=some v)(cc:Oy X.prog X.w X.K X.mg X.base kd f ps (spE C dd Y))(hr:Ee U X.A)(hN:autoParam (X.N[i]?=some x) r0_)(hv:autoParam (N3 X.env.scope x) r4_)
  (hd:autoParam (GG x) r1_) (Z:autoParam (NJ x) r1_) (I:autoParam (kd<=U) r1_) (hg:autoParam (Gl X f) r0_) (Kb:autoParam (GG f) r1_)
  (O:autoParam (starEach [.Name x p1] X.env=(false,eval (.Name x p1) X.env)::starEach [] X.env) r0_) (ES:autoParam (JI X pos []) r0_):PE X (.Call (.Name f p) [.Name x p1] [] pos) (NH i C dd v):=
 PE.imp (fC cc hr (aB (dW hN hv hd Z) aM O) I hg Kb O ES) fun EK H Q ⟨⟨a,e1,e2⟩,kk⟩=>⟨.ref a,e1,a,rfl,e2,λv' H' s' r=>by rw[Tq J (r ⟨X.K,λ_=>0⟩ λ_=>True)];exact kk H' s'⟩
def Jz{op:BoolOp}(h:PE X a (NH i C dd v)):PE X (.BoolOp op [a] pos) (NH i C dd v):=Ht h
def zA(h1:PE X a (NH i C dd (.bl j)))(h2:PE X (.BoolOp .Or (b::rest) pos) (NH i C dd (.bl k))):PE X (.BoolOp .Or (a::b::rest) pos) (NH i C dd (.bl (j||k))):=
 PE.imp (Nb h1 h2) fun EK H Q ⟨kn,kk⟩=>⟨kn,λH' s=>⟨j,rfl,by
  cases j with
  |false=>exact⟨kn.up s,λH2 I=>kk H2 (s.trans I)⟩
  |true=>exact kk H' s⟩⟩
def JB(h:PE X a (NH i C dd (.bl j))):PE X (.UnaryOp .Not a pos) (NH i C dd (.bl (!j))):=PE.imp (QH h) fun EK H Q ⟨kn,kk⟩=>⟨kn,λH' s=>⟨j,rfl,kk H' s⟩⟩
def BW(h:PE X e (NH i C dd (.bl j)))(J:autoParam (∀I,isTrue e X.env I=(do let v ←I;standAt e.pos;holding [v] (truthy v))) r5_):PT X e (Yz i C dd j):=PT.imp (vC h J) fun EK H Q ⟨kn,kk⟩=>⟨kn,λH' s=>⟨j,rfl,kk H' s⟩⟩
def Tt(h:PT X a (Yz i C dd j)):PW X (.BoolOp .Or [a] pos) (Yz i C dd j):=Hq h
def NP(h1:PT X a (Yz i C dd j))(h2:PW X (.BoolOp .Or (b::rest) pos) (Yz i C dd k)):PW X (.BoolOp .Or (a::b::rest) pos) (Yz i C dd (j||k)):=λY DE s EK H Q I ⟨J,O⟩=>M_ h1 h2 Y DE s EK H Q I ⟨J,λH' s'=>by
 cases j with
 |false=>exact⟨J.up s',λH2 U=>O H2 (s'.trans U)⟩
 |true=>exact O H' s'⟩
variable {sa sb:rg}{st:rg}{p':PV}
def JC(J:atV p'=some v)(h:PE X e (NH i C dd v)):FX X (.Return (some e) pos::st) (Zy i C dd p'):=FX.imp (aP (eN h) rK) λD EK H ⟨O,I⟩=>⟨O,λH' s=>I v H' s λM A=>Ql J⟩
def JD(U:PT X c (Yz i C dd false))(h:FX X st (Zy i C dd p')):FX X (.If c sa [] pos::st) (Zy i C dd p'):=FX.imp (aP (kO U rK gZ) h) λD EK H ⟨I,O⟩=>⟨I,λH' s=>⟨I.up s,λv H2 J r=>O v H2 (s.trans J) r⟩⟩
end
def FX.or{X:Cx}{e:rg}{t u:TS}(h:FX X e t)(h':FX X e u):FX X e (λD EK H=>t D EK H\/u D EK H):=λDE s EK H D I q=>q.elim (h DE s EK H D I) (h' DE s EK H D I)
noncomputable def MF(f:Env->Option Out)(xf:Env->Option XV)(c0:Nat)(v:Option Nat->Option PV)(r:Env->Option Out)(env:Env):Option Out:=match xf env with
 |some c=>if c.1=c0 then(v c.2).map .rt else none
 |none=>(f env).bind λo=>match o with
  |.nx e=>r e
  |o=>some o
@[simp] def Qo(f:Env->Option Out)(J:Env->Option XV)(I:Nat)(v:Option Nat->Option PV)(r:Env->Option Out)(env:Env):MF f J I v r env=(match J env with
 |some c=>if c.1=I then(v c.2).map .rt else none
 |none=>(f env).bind λo=>match o with
  |.nx e=>r e
  |o=>some o):=id rfl
noncomputable def onA(p:PV)(d:Option Nat):Option PV:=some p
@[simp] def WF(p:PV)(d:Option Nat):onA p d=some p:=id rfl
def Tu{X:Cx}{rest:rg}{I:Nat}{C:Addr}{p:PV}(h:∀d,FX X rest (Zy I C d p))(d:Option Nat)(q:PV)(e:onA p d=some q):FX X rest (Zy I C d q):=by
 cases e;exact h d
def Qp{H1:Hp}{a dx C:Addr}{d:Option Nat}(nd:d.isSome=true->a≠dx):KnA C d a (BL H1 a dx C d):=by
 cases d with
 |none=>exact⟨none,aq,λn z=>nomatch z⟩
 |some n=>exact⟨some dx,aq,λm z=>by cases z;exact⟨dx,rfl,by show upd (upd H1 dx (xat dx n)) a (Zu a C (some dx)) dx=_;rw[az (fm (nd rfl)),aq]⟩⟩
def JF{H1:Hp}{a dx C:Addr}{d:Option Nat}(nH:H1 a=none)(I:H1 dx=none):DH H1 (BL H1 a dx C d):=by
 cases d with
 |none=>exact aG nH _
 |some n=>
  intro b o q;show upd (upd H1 dx (xat dx n)) a (Zu a C (some dx)) b=_;rw[az (au q nH),az (au q I)];exact q
variable {xf:Env->Option XV}
def Tv{X:Cx}{b:BX}{G G' L:oT}{body rest:rg}{f r:Env->Option Out}{cx n O:Str}{Cc:Addr}(Y ie U:Nat){p:Option Nat->Option PV}{np p1 p2 p3 hp pos:Pos}(nd:X.N.Nodup)
  (hm:X.mg cx=some (.ref Cc)) (Zx:W.exmOne X.K (.ref (b.C.cl U)) (.ref Cc)=some true) (h1:MO X b G G L false body f) (h2:∀E',P8 (X.HK E') (Mc b G (WTy (X.HK E') b) xf) body) (hr:MO X b G G' L false rest r) (hR:∀d q,p d=some q->FX X rest (Zy Y (b.C.cl U) d q))
  (hX:∀e s,X.xe e s->False:=by exactλ_ _ z=>z) (Z:autoParam (X.ex=[]) r0_) (L6:autoParam (X.stack=X.env::X.outer) r0_) (NC:autoParam (X.env.frame=some X.env.locals) r0_)
  (hn:autoParam (X.N[ie]?=some n) r0_) (Zw:autoParam (X.env.scope.names.lookup n=some .local) r0_) (hw:autoParam (X.N[Y]?=some O) r0_) (IE:autoParam (Loc X.env.scope O) r6_) (hwe:autoParam ((Y == ie)=false) r0_) (Yw:autoParam (Gl X cx) r0_)
  (hd:autoParam (GG cx) r1_) (Yp:autoParam (GG n) r1_) (Z0:autoParam (NJ n) r1_)
  (W9:autoParam (swapsWith (.Name n p2) (some (.Name O p1)) p3.line X.env=pure false) r0_) (X6:autoParam (QE X O) r3_):
  MO X b G G' L false (.Try body [.ExceptHandler (some (.Name cx np)) (some n) [.Assign [.Name O p1] (.Name n p2) p3] hp] [] [] pos::rest) (MF f xf U p r):=by
 intro DE s EK H D I ⟨Ow,env,o,E,J,kk⟩;rw[Qo]at J;cases q:xf env with
 |some c=>
  rw[q]at J;have J:(if c.1=U then(p c.2).map Out.rt else none)=some o:=J;by_cases hc:c.1=U
  ·rw[bX hc]at J
   obtain⟨pv,hpv,rfl⟩:=ba.mp J;refine aP (Em hX Z L6 NC nd hn Zw hw IE Yw hm h1 h2 hd Yp Z0 W9 X6) (hR c.2 pv hpv) DE s EK H D I ?_;refine .inr ⟨Ow,env,c,E,q,by rw[hc];exact Zx,λa dx H1 sm nH SD ned=>⟨⟨a,?_,by rw[hc];exact Qp ned⟩,λv H' s' r'=>?_⟩⟩
   ·have OA:Y<EK.length:=by rw[I.len];exact(ap.mp hw).1
    have ne:ie≠Y:=λz=>by subst z;simp at hwe
    rw[bv ne,dS (by rw[eg];exact OA)]
   ·have kk':∀v H',DH b.H0 H'->YV b.C b.A b.H0 false H' v pv->D.rt v H':=kk
    exact kk' v H' (E.same.trans (sm.trans ((JF nH SD).trans s'))) (r' _ _)
  ·rw[bt hc]at J
   cases J
 |none=>
  rw[q]at J;obtain⟨o1,ho,J⟩:=aC J;refine aP (Em hX Z L6 NC nd hn Zw hw IE Yw hm h1 h2 hd Yp Z0 W9 X6) hr DE s EK H D I ?_;refine .inl ⟨Ow,env,o1,E,ho,?_⟩;cases o1 with
  |nx e1=>exactλEH EU H' E' x=>⟨EH,e1,o,E',J,kk.ex x⟩
  |bk e1=>cases J;exact kk
  |ct e1=>cases J;exact kk
  |rt p1=>cases J;exact kk
def Tw{P:Program}{w:World}{K:W.Frag}{mg:rX}{base:Heap}{x qual:Str}{st:Stmt}{f:Addr}{fd:FuncData}{N:rj}{y:Str}{k:Nat}{C:Addr}{dd:Option Nat}{p:PV}(F:G0 K x qual st f fd)(S:DJ N [y] (aA st))
  (J:∀(I:Value) (A:Around) (outer:List PySem.Env) (s:Shared) (H:Hp) (E:XK),Ee k (A.deeper (PyProof.Rows.envOfC qual (aA st) s.heap.objs.size f I))->FX (cD IP P w K mg base N qual (aA st) f I A outer s H E).LV (dz st) (Zy 0 C dd p)):
  EC P w K mg base IP (k+1) f fd [y] (spE C dd p):=by
 refine F.ok S (by rintro vs H Q E ⟨a,e,_⟩;rw[e];rfl) λI A outer s H vs Q E U ⟨a,e,O,Y⟩=>⟨_,J I A outer s H E U,⟨a,?_,O⟩,λv H' s' r=>Y v H' s' r⟩;subst e;rfl
open PySem L2 PyProof.Rows PySem.Spec
def PS.LV{X:Cx}{st:Stmt}{t:TS}(h:PS X.LV st t):PS X st t:=λDE s EK H D I J=>cS (h DE s EK H D (I.HK _) J) (λ_ _ q=>q.unwish) λ_ _ z=>z.elim
noncomputable def mF(g:PV->Env->Option Env)(ds:oT)(f:Env->Option Out)(xf:Env->Option XV):List PV->Env->Option XV
 |[],_=>none
 |x::xs,env=>(g x env).bind λe1=>match xf e1 with
  |some c=>some c
  |none=>(f e1).bind λo=>match o with
   |.nx e=>mF g ds f xf xs (Iy ds e)
   |.ct e=>mF g ds f xf xs (Iy ds e)
   |_=>none
noncomputable def MJ(g:PV->Env->Option Env)(src:sj)(ds:oT)(f:Env->Option Out)(xf:Env->Option XV)(env:Env):Option XV:=(src env).bind λxs=>mF g ds f xf xs (Iy ds env)
@[simp] def Wf(g:PV->Env->Option Env)(src:sj)(ds:oT)(f:Env->Option Out)(xf:Env->Option XV)(env:Env):MJ g src ds f xf env=((src env).bind λxs=>mF g ds f xf xs (Iy ds env)):=id rfl
section
variable {P:Program}{w:World}{K:W.Frag}{mg:rX}{base:Heap}{N:rj}{qual:Str}{scope:Scope}{f:Addr}{cd:Value}{A:Around}{outer:List PySem.Env}{s:Shared}{H:Hp}{E:XK}
def G8:PassesOwn (model P w) (cD (G2 P w K) P w K mg base N qual scope f cd A outer s H E).A (cD (G2 P w K) P w K mg base N qual scope f cd A outer s H E).env (cD (G2 P w K) P w K mg base N qual scope f cd A outer s H E).xe:=by
 show PassesOwn (model P w) (A.deeper (envOfC qual scope s.heap.objs.size f cd)) (envOfC qual scope s.heap.objs.size f cd) (λe s'=>wpAny (model P w) (A.deeper (envOfC qual scope s.heap.objs.size f cd)) (leaving (envOfC qual scope s.heap.objs.size f cd) e) (λ_ I=>G2 P w K outer H s E e I) (λJ I=>G2 P w K outer H s E J I) s');passes_own
def Tz{b:BX}{G:oT}{ro:Bool}{tg it:Expr}{body:rg}{g:PV->Env->Option Env}{src:sj}{h:Env->Option Out}{pos:Pos}(ds:oT)
  (hi:SI (cD (G2 P w K) P w K mg base N qual scope f cd A outer s H E) b G true tg it src) (hg:SG (cD (G2 P w K) P w K mg base N qual scope f cd A outer s H E) b G tg g)
  (hb:MO (cD (G2 P w K) P w K mg base N qual scope f cd A outer s H E).LV b G G G ro body h) (hx:P8 (cD (G2 P w K) P w K mg base N qual scope f cd A outer s H E) (Mc b G (WD b E) xf) body)
  (hs:autoParam (∀x,foldedSetIterable it (envOfC qual scope s.heap.objs.size f cd) x=pure x) r5_):XS (cD (G2 P w K) P w K mg base N qual scope f cd A outer s H E) (Mc b G (WD b E) (MJ g src ds h xf)) (.For tg it body [] pos):=by
 intro DE s1 EK H1 I ⟨Ow,env,c0,Er,hx0,hW⟩;have YZ:FX (cD (G2 P w K) P w K mg base N qual scope f cd A outer s H E) body (λ_ EK H=>Mc b G (WD b E) xf [] EK H):=λDE s1 EK H1 D I ⟨Ow,env,c0,Er,q,hW⟩=>cS (hx DE s1 EK H1 I ⟨Ow,env,c0,Er,q,hW⟩) (λ_ _ z=>z.elim) λ_ _ z=>z;refine cS (mO G8 rfl hi hg (FX.or (FX.LV hb) YZ) hs DE s1 EK H1 {nx:=λ_ _=>False,rt:=λ_ _=>False} I ?_) (λfl s2 z=>?_) λ_ _ z=>z;rotate_left
 ·cases fl with
  |next=>obtain⟨_,_,_,q⟩:=z;exact q
  |ret u=>obtain⟨_,_,_,_,_,q⟩:=z;exact q
  |brk=>obtain⟨_,_,_,q⟩:=z;exact q
  |cont=>obtain⟨_,_,_,q⟩:=z;exact q
 obtain⟨ps,Lu,hl⟩:=aC hx0;refine⟨Ow,env,ps,Er,Lu,λJ H2 s2 iw=>?_⟩;refine⟨λi m E9 H3=>m=ps.length - i/\i<=ps.length/\∃U Y,ER b U G E9 Y H3/\Ex (Bs b Ow) H2 (Bs b U) H3/\mF g ds h xf (ps.drop i) Y=some c0,⟨ps.length,by simp,cm _,Ow,Iy ds env,(Er.up s2).Iy,Ex.refl _ _,by simpa using hl⟩,?_⟩;rintro i m E9 H3 ⟨rfl,hi,U,Y,E2,x2,O⟩;obtain⟨w1,w2⟩:=iw U H3 (λz=>by cases z) x2 λa=>E2.fresh;by_cases FA:i<ps.length
 ·rw[cq FA]at O
  obtain⟨e1,Xb,O⟩:=aC O;obtain⟨g1,g2⟩:=w1 i ps[i] (aw FA);refine .inr ⟨g1,fun Z H'=>i+1<=ps.length/\∃U Y,ER b U G Z Y H'/\Ex (Bs b Ow) H2 (Bs b U) H'/\mF g ds h xf (ps.drop (i+1)) Y=some c0,fun Z H' q=>⟨ps.length - (i+1),by omega,rfl,q⟩,λx H' y=>?_⟩;obtain⟨s3,r3⟩:=g2 x H' y;refine⟨U,Y,_,e1,E2.up s3,r3,Xb,fun FG E3=>?_⟩;cases q:xf e1 with
  |some c=>
   rw[q]at O;cases O;exact .inr ⟨U,e1,_,E3,q,hW⟩
  |none=>
   rw[q]at O;obtain⟨o,ho,O⟩:=aC O;refine .inl ⟨U,e1,o,E3,ho,?_⟩;cases o with
   |nx e'=>exactλEH Z ND E' x'=>⟨FA,EH,_,E'.Iy,x2.trans ((Ex.of_same s3).trans x'),O⟩
   |ct e'=>exactλEH Z ND E' x'=>⟨FA,EH,_,E'.Iy,x2.trans ((Ex.of_same s3).trans x'),O⟩
   |bk e'=>cases O
   |rt p=>cases O
 ·have e:i=ps.length:=by omega
  subst e;rw[ox]at O;cases O
end
section
variable {P:Program}{w:World}{K:W.Frag}{mg:rX}{base:Heap}{N:rj}{qual:Str}{scope:Scope}{f:Addr}{cd:Value}{A:Around}{outer:List PySem.Env}{s:Shared}{H:Hp}{E:XK}
set_option tactic.hygienic true in def JG{C:MC}{n k:Nat}{G:oT}{ro:Bool}{body:rg}{mi:sg}{t0:TS}(hN:N.length=n)(hk:k<=n)(hG:(G.all λi=>decide (k<=i))=true)
  {vs:sx}{Q:VK}(O:FX (cD (G2 P w K) P w K mg base N qual scope f cd A outer s H E).LV body t0) (hr:HA C mi ro vs H Q E->t0 {nx:=λ_ H'=>Q .DS H',rt:=Q} (L2.start N vs) H)
  (hx:∀B H',P8 (cD (G2 P w K) P w K mg base N qual scope f cd A outer s H E) (Mc ⟨C,B,H',λ_=>none⟩ G (WD ⟨C,B,H',λ_=>none⟩ E) xf) body)
  (h:SF C mi ro (m_ n k xf) vs H Q E):∃t,FX (cD (G2 P w K) P w K mg base N qual scope f cd A outer s H E) body t/\t {nx:=λ_ H'=>Q .DS H',rt:=Q} (L2.start N vs) H:=by
 rcases h with h|⟨B,ps,c,r,hm,kk⟩
 ·exact⟨t0,O.LV,hr h⟩
 ·refine⟨λ_ EK H'=>Mc ⟨C,B,H,λ_=>none⟩ G (WD ⟨C,B,H,λ_=>none⟩ E) xf [] EK H',λDE s1 EK H1 D I q=>?_,?_⟩
  ·obtain⟨Ow,env,Y,Z,U,hW⟩:=q
   exact cS (hx B H DE s1 EK H1 I ⟨Ow,env,Y,Z,U,hW⟩) (λ_ _ z=>z.elim) λ_ _ z=>z
  ·unfold m_ at hm
   split at hm
   ·rename_i J
    exact⟨_,_,c,uO (N:=N) (G:=G) r (λi hi=>by rw[J];simpa using eS.mp hG i hi) (by omega),by rw[hN,J];exact hm,λH1 s1=>kk H1 s1⟩
   ·cases hm
set_option tactic.hygienic true in def MK{C:MC}{n k:Nat}{ro:Bool}{mi:sg}(J:∀ps p,mi ps=some p->ps.length=k){vs:sx}{H:Hp}{Q:VK}{E:XK}(h:SF C mi ro (m_ n k xf) vs H Q E):vs.length=k:=by
 rcases h with⟨A,O,p,r,I,_⟩|⟨A,O,c,r,I,_⟩
 ·rw[r.length];exact J _ _ I
 ·unfold m_ at I
  split at I
  ·rename_i J;rw[r.length,J]
  ·cases I
end
section
variable {X:Cx}{i:Nat}{C:Addr}{dd:Option Nat}{a e:Expr}{b:Expr}{pos p:Pos}{j:Bool}{m n:Int}
def TF{I:Nat}:PE X (.Constant (.int n) I pos) (NH i C dd (.int n)):=PE.imp fj fun EK H Q ⟨_,kk⟩=>kk H (DH.refl _)
def TJ(h1:PE X a (NH i C dd (.int m)))(h2:PE X b (NH i C dd (.int n))):PE X (.BinOp a .Add b pos) (NH i C dd (.int (m+n))):=
 PE.imp (Ff HB h1 h2) fun EK H Q ⟨kn,kk⟩=>⟨kn,λH1 s1=>⟨kn.up s1,λH2 I=>⟨_,_,rfl,rfl,kk H2 (s1.trans I)⟩⟩⟩
def TQ(h:PE X e (NH i C dd (.bl j)))(O:X.mg "int" = none)(J:Gl X "int" := by rfl)(I:autoParam (GB X e []) r0_):PE X (.Call (.Name "int" p) [e] [] pos) (NH i C dd (.int (if j then 1 else 0))):=
 PE.imp (rT rP J O pV (aB h aM I) (by decide) (by decide) I rfl) fun EK H Q ⟨kn,kk⟩=>⟨kn,λH1 s1=>.inr ⟨_,rfl,kk H1 s1⟩⟩
end
end Lake.MR
namespace Lake.L2
open PySem PySem.Spec PyProof.Rows
section
variable {X:Cx}
def BZ:EE X (.type "dict") (λxs H Q=>∃a kvs,xs=[.ref a]/\H a=some (.dK kvs)/\∀l,H l=none->Q (.ref l) (upd H l (.dK kvs))):=by
 intro DE s EK H xs us Q I r h;obtain⟨a,kvs,rfl,ha,q⟩:=h;obtain⟨u,rfl,U⟩:=vals1 r;cases U;obtain⟨z,Y,vs,J,dd⟩:=oF I.DV ha;refine kt_call_dict Y dd (by rw[←J.length];exact z) λh' Z sb=>?_;have O:(s.heap.objs.size == sysModules)=false:=by
  have:=modules_low I.nolimit;rw[fb];exact dy this
 exact⟨.ref s.heap.objs.size,_,I.laid (t':=s.toks) (λb o e=>(sb.2 b (bP (ar e))).trans (ae _ e)) (ax _) (zW z O J Z),rfl,q _ (I.DV.fresh (ax _))⟩
def TV(K:W.Frag)(H:Hp)(kb:List (Key×V))(ka:List (Key×V)):Prop:=∀k v,(k,v)∈ka->∃y d e,cH kb k=some y/\Dt K H v d/\Dt K H y e/\SeqAt.shaped d=true/\SeqAt.shaped e=true/\PyData.eqv d e=true
theorem Eo{DE:oI}{EK:St}{H:Hp}{s:Shared}(I:Inv X DE EK H s)(hu:X.A.units+70<cLine){O:List (Key×V)}{vb:List (Key×Value)}(Y:KV O vb):∀{U:List (Key×V)}{va:List (Key×Value)},KV U va->TV X.K H O U->W.KeqHits X.A.in1 s vb va true
 |_,_,.nil,_=>.nil
 |_::_,(_,_)::_,.cons ⟨r0,r⟩ t,h=>by
  cases r0;obtain⟨y,d,e,h1,h2,h3,h4,h5,h6⟩:=h _ _ bp;obtain⟨w',hw,NO⟩:=GA.some_of (v:=y) (o:=valueAt vb _) (by rw[←h1];exact Y.val _);obtain⟨as,Z⟩:=h2.reads I r;obtain⟨bs,J⟩:=h3.reads I NO;have eq:=W.keq_at (A:=X.A) Z J h4 h5 (by rw[in1_units];omega);rw[h6]at eq;exact .hit hw eq (Eo I hu Y t λk v m=>h k v (aI _ m))
def TX(hu:X.A.units+70<cLine):F3 X (compareOp .Eq) (λx y H Q=>∃a b O J,x=.ref a/\y=.ref b/\H a=some (.dK O)/\H b=some (.dK J)/\O.length=J.length/\TV X.K H J O/\Q (.bl true) H):=by
 intro DE s EK H x y v u Q I rx Z h;obtain⟨a,b,O,J,rfl,rfl,ha,hb,hl,hh,q⟩:=h;cases rx;cases Z;obtain⟨z1,l1,va,Y,d1⟩:=oF I.DV ha;obtain⟨z2,l2,vb,U,d2⟩:=oF I.DV hb;refine W.keq_eq l1 l2 d1 d2 (by omega) (λ_=>Eo I hu U Y hh) ?_;rw[←Y.length,←U.length,hl,beq_self_eq_true];exact⟨.bl true,H,I,rfl,q⟩
def TY(hu:X.A.units<cLine):F3 X (compareOp .NotEq) (λx y H Q=>∃a b J,x=.ref a/\y=.ref b/\H a=some (.dK J)/\H b=some (.dK [])/\Q (.bl (!J.isEmpty)) H):=by
 intro DE s EK H x y v u Q I rx U h;obtain⟨a,b,J,rfl,rfl,ha,hb,q⟩:=h;cases rx;cases U;obtain⟨z1,l1,O,r1,d1⟩:=oF I.DV ha;obtain⟨z2,Y,vb,Z,d2⟩:=oF I.DV hb;cases Z;refine W.keq_ne (r:=true) l1 Y d1 d2 hu (λe=>by
  have:O=[]:=ic e;subst this;exact .nil) ?_
 have:(!(O.length == ([]:List (Key×Value)).length&&true))=!J.isEmpty:=by cases r1<;>rfl
 rw[this];exact⟨.bl _,H,I,rfl,q⟩
end
end Lake.L2
namespace Lake.MR
open PySem L2 PyProof.Rows PySem.Spec
@[simp] noncomputable def G9:PV->Option PV
 |.dK kvs=>some (.dK kvs)
 |_=>none
@[simp] noncomputable def G_:PV->PV->Option PV
 |.dK kvs,.str k=>if(aV kvs (.inr k)).isSome=true then some (.dK (kvs.filter λkv=>decide (kv.1≠.inr k)))else none
 |_,_=>none
noncomputable def zB(x y:List (Key×PV)):Bool:=decide (x.length=y.length)&&x.all λkp=>((aV y kp.1).bind (Sm kp.2)) == some true
@[simp] noncomputable def eqK:PV->PV->Option PV
 |.dK x,.dK y=>if zB x y=true then some (.bl true)else none
 |_,_=>none
@[simp] noncomputable def neK:PV->PV->Option PV
 |.dK x,.dK []=>some (.bl (!x.isEmpty))
 |_,_=>none
theorem D9.drop{C:MC}{A:se}{H:Hp}{k:Key}:∀{I:List (Key×V)}{kvs:List (Key×PV)},D9 C A H I kvs->D9 C A H (oE I k) (kvs.filter λx=>decide (x.1≠k))
 |_,_,.nil=>.nil
 |_,_,.cons (k:=k') h t=>by
  unfold oE;rw[k9,k9];dsimp only;split
  ·exact .cons h (D9.drop t)
  ·exact D9.drop t
theorem D9.mem{C:MC}{A:se}{H:Hp}{k:Key}{v:V}:∀{I:List (Key×V)}{kvs:List (Key×PV)},D9 C A H I kvs->(k,v)∈I->∃p,(k,p)∈kvs/\Rep C A H v p
 |_,_,.nil,m=>by cases m
 |_,_,.cons h t,m=>by
  rcases br.mp m with e|m
  ·cases e;exact⟨_,bp,h⟩
  ·obtain⟨p,m1,r⟩:=D9.mem t m
   exact⟨p,aI _ m1,r⟩
section
variable {X:Cx}{b:BX}{G L:oT}{ro:Bool}{m1 m2:Md}{e e1 e2:Expr}{f f1 f2 h:sf}{p pos:Pos}
def JH(hm:X.mg "dict" = none)(h:SE X b G m1 e f)(Y:Gl X "dict" := by rfl)(hb:autoParam (bootBuiltins "dict" = some (.type "dict")) r2_)(Z:autoParam (GB X e []) r0_):SE X b G .own (.Call (.Name "dict" p) [e] [] pos) (b1 G9 f):=by
 refine pM BZ (λOw H v1 p1 p Q hn r1 e k=>?_) hm hb h Y (by decide) (by decide) Z;cases p1<;>simp only[G9]at e<;>cases e;obtain⟨a,O,rfl,ha,U⟩:=r1.dK;refine⟨a,O,rfl,ha,λd J=>k _ _ (aG J _) ⟨d,rfl,J,O,aq,U.ex λc o e=>?_⟩⟩;have I:c≠d:=au e J;exact⟨λq=>⟨by rw[az I];exact e,q,I⟩,λ_=>by rw[az I];exact e⟩
set_option tactic.hygienic true in def T3{j:Nat}(hr:Ee j X.A)(h1:SE X b G m1 e1 f1)(h2:SE X b G m2 e2 f2)(Y:autoParam (X.K=b.C.K) r0_):SC X b G .Eq e1 e2 (b2 eqK f1 f2):=by
 refine iW (TX (by have:=hr.un;omega)) (λOw H v1 v2 p1 p2 p Q hn r1 r2 e k=>?_) h1 h2 (lG _);cases p1<;>cases p2<;>simp only[eqK]at e<;>first|cases e|skip
 split at e
 ·rename_i J
  cases e;unfold zB at J;rw[cb,kN,eS]at J;obtain⟨a,ka,rfl,ha,Z⟩:=r1.dK;obtain⟨c,kb,rfl,hb,U⟩:=r2.dK;refine⟨a,c,ka,kb,rfl,rfl,ha,hb,by rw[Z.length,U.length];exact J.1,λO v m=>?_,k _ H (DH.refl _) (.bl _)⟩;obtain⟨p,mp,rp⟩:=Z.mem m;have q:=J.2 _ mp;rcases D9.val (k:=O) U with⟨y,py,g1,g2,ry⟩|⟨g1,g2⟩
  ·rw[show aV _ O=some py from g2,bE,hU]at q
   unfold Sm at q;split at q
   ·rename_i d e' q1 q2
    split at q
    ·rename_i I
     exact⟨y,d,e',g1,by rw[Y];exact rp.dt q1,by rw[Y];exact ry.dt q2,I.1,I.2,bq q⟩
    ·cases q
   ·cases q
  ·rw[show aV _ O=none from g2]at q
   cases q
 ·cases e
set_option tactic.hygienic true in def T4{j:Nat}(hr:Ee j X.A)(h1:SE X b G m1 e1 f1)(h2:SE X b G m2 e2 f2):SC X b G .NotEq e1 e2 (b2 neK f1 f2):=by
 refine iW (TY (by have:=hr.un;omega)) (λOw H v1 v2 p1 p2 p Q hn U O e k=>?_) h1 h2 (lG _);cases p1<;>cases p2<;>first|(simp only[neK]at e;cases e;done)|skip
 rename_i x y;cases y with
 |cons _ _=>simp only[neK]at e;cases e
 |nil=>
  cases e;obtain⟨a,I,rfl,ha,J⟩:=U.dK;obtain⟨c,kb,rfl,Y,Z⟩:=O.dK;cases Z;refine⟨a,c,I,rfl,rfl,ha,Y,?_⟩;rw[show(!I.isEmpty)=!x.isEmpty by cases J<;>rfl];exact k _ H (DH.refl _) (.bl _)
set_option tactic.hygienic true in def s_pop(i:Nat){x:Str}{p1 apos D3:Pos}(he:SE X b G .val e h)(hi:autoParam (i∈G) r1_)(hN:autoParam (X.N[i]?=some x) r0_)(hv:autoParam (N3 X.env.scope x) r4_)(hd:autoParam (GG x) r1_)
  (GI:autoParam (NJ x) r1_) (m:autoParam (M1 X (.Name x p1) "pop" apos e D3) r11_):
  SS X b G G L ro (.Expr (.Call (.Attribute (.Name x p1) "pop" apos) [e] [] D3) pos) (e_ G_ i h):=
 PS.imp (g_ (Kl (dW hN hv hd GI) he m))<|by
  rintro D EK H ⟨Ow,env,o,E,hf,k⟩;obtain⟨px,Z,z1⟩:=aC hf;clear hf;obtain⟨p,hp,Y⟩:=aC z1;clear z1;obtain⟨y,I,z3⟩:=aC Y;clear Y;cases z3;obtain⟨a,ea,w,t⟩:=E.own i px (eF Z) hi;cases px<;>first|(simp only[G_]at I;cases I;done)|skip
  cases p<;>simp only[G_]at I<;>first|cases I|skip
  rename_i kvs J;split at I
  ·rename_i hl
   cases I;obtain⟨O,U,ra⟩:=id t;refine⟨_,ea,a,rfl,(.inl ⟨_,.inl U⟩),Ow,env,_,E,hp,λv H' s r=>?_⟩;have ev:=DO.str (.inl r);subst ev;rcases D9.val (k:=.inr J) ra with⟨v,pv,g1,g2,rv⟩|⟨g1,g2⟩
   ·refine⟨O,.inr J,v,s _ _ U,rfl,g1,?_⟩
    obtain⟨E',x⟩:=(E.up s).write hi ea (eF Z) w (t.ex (.of_same s) λo z=>s _ _ z) (o':=.dK (oE O (.inr J))) (p':=.dK (kvs.filter λO=>decide (O.1≠.inr J))) ⟨_,aq,((ra.ex (.of_same s)).drop).ex (m6 w (s _ _ U) rfl)⟩;exact k Ow EK _ E' ((Ex.of_same s).trans x)
   ·rw[show aV kvs (.inr J)=none from g2]at hl
    cases hl
  ·cases I
end
end Lake.MR
namespace Lake.My
open PySem L2 MR
noncomputable def B_:PV:=.ktp [.tup [.str "u",.bl false],.tup [.str "u",.bl true],.tup [.str "-",.bl false],.tup [.str "-",.bl true]]
noncomputable def lR:List PV:=[.tup [.str "u",.bl false],.tup [.str "u",.bl true],.tup [.str "-",.bl false],.tup [.str "-",.bl true]]
noncomputable def mK:PV:=.ktp [.int 0,.int 0,.int 0]
def bI:=(LN (tV (b2 Zo (b2 D6 (bV 4) (DC 0)) (bQ (ak (bC (.str "(")) (ak (bC (.str ")")) aK))))) (aZ 3 (b2 eqQ (b2 D6 (bV 4) (DC 0)) (bC (.str "(")))) (aN (aZ 2 (b2 lN (bV 2) (DC 1))) (LN (tV (b2 eqQ (b2 D6 (bV 4) (DC 0)) (bC (.str "row")))) (e_ mZ 1 (bQ (DD 2 (DD 3 aK)))) LX)))
def lU:=(aN (aZ 1 (fQ aK)) (aN (aZ 2 (DC 0)) (aN (aZ 3 (bC (.bl false))) (aN (gK (gN 4) (iV (bV 0)) [4] bI) (bA (bV 1))))))
def gh:=bM 5 1 false lU
def jh:=(bV 0)
def cI:=(tA (tV (b2 eqQ (b2 D6 (bV 0) (DC 0)) (bC (.str ")")))) (tV (b2 eqQ (b2 D6 (bV 0) (DC 1)) (DC 0))))
def j5:=(bA (b2 Xx (d8 [none] (iV (bV 0)) (gN 0) cI jh) (fQ aK)))
def dU:=bM 1 1 false j5
def sW:=(aN (aZ 1 (fQ (ak (bC (.str "a")) (ak (bC (.str "as")) (ak (bC (.str "x")) (ak (bC (.str "iamb")) (ak (bC (.str "long")) (ak (bC (.str "b")) (ak (bC (.str "measured")) (ak (bC (.str "u")) aK)))))))))) (bA (b2 D6 (bV 1) (b2 jT (bV 0) (DC 8)))))
def gM:=bM 2 1 false sW
def sX:=(aN (aZ 1 (fQ (ak (bC .DS) (ak (bC (.str "a")) (ak (bC (.str "b")) (ak (bC (.str "c")) (ak (bC (.str "A")) (ak (bC (.str "B")) (ak (bC (.str "a")) (ak (bC (.str "z")) aK)))))))))) (bA (b2 D6 (bV 1) (b2 jT (bV 0) (DC 8)))))
def gO:=bM 2 1 false sX
def j6:=(b2 D6 (bV 0) (DC 0))
def iy:=(bV 0)
def iz:=(tN (tV (b2 D6 (bV 0) (DC 1))))
def jC:=(aN (aZ 2 (d8 [none] (iV (bV 0)) (gN 0) iY j6)) (aN (aZ 3 (b2 uM (bV 1) (DC 9))) (aN (aZ 4 (qx (b2 Zo (bC (.str "(")) (bV 2)) (b2 m8 (bC (.str ")")) (bV 2)))) (aN (aZ 5 (b2 jT (bV 3) (DC 4))) (aN (LN (tA (tV (b2 eqQ (b2 jT (bV 1) (DC 9)) (DC 7))) (tV (b2 m8 (bC (.str "(")) (bV 2)))) (bA (bQ (ak (bC (.str "(")) aK))) LX) (aN (LN (tA (tV (b2 eqQ (b2 jT (bV 1) (DC 9)) (DC 8))) (tA (tV (bV 4)) (tV (b2 Xx (b2 D6 (bV 2) (b1 xm (DC 1))) (bC (.str "(")))))) (bA (bQ (ak (bC (.str ")")) (DD 5 (ak (b2 lN (b2 RE (DC 1) (bV 5)) (b2 jT (b2 uM (bV 3) (DC 4)) (b2 Xw (DC 5) (b2 RE (DC 1) (bV 5))))) aK))))) LX) (aN (aZ 6 (bh gh (DD 0 aK))) (aN (LN (tA (tN (tV (bV 4))) (tV (bh dU (DD 0 aK)))) (aZ 6 (d8 [none] (iV (bV 6)) (gN 0) iz iy)) LX) (aN (LN (tA (tV (b2 Zo (b2 jT (bV 1) (DC 9)) (bQ (ak (DC 5) (ak (DC 6) aK))))) (tV (b2 Xx (bV 6) (fQ aK)))) (bA (bQ (ak (bC (.str "as")) (ak (b2 D6 (b2 D6 (bV 6) (b2 jT (bV 3) (b1 F6 (bV 6)))) (DC 0)) aK)))) LX) (bA (bQ (ak (bC (.str "row")) (ak (bh gM (DD 3 aK)) (ak (bh gO (ak (b2 uM (bV 3) (DC 8)) aK)) aK))))))))))))))
def fJ:=bM 7 2 false jC
def fK:=(e_ mZ 1 (vZ fJ (ak (bL (bV 1)) (DD 2 aK))))
def j7:=(b2 D6 (bV 0) (DC 0))
def jD:=(aN (aZ 1 (fQ aK)) (aN (gK (gN 2) (iV (bV 0)) [2] fK) (aN (aZ 3 (d8 [none] (iV (bV 1)) (gN 0) iY j7)) (aN (LN (tO (tV (b2 eqQ (bV 3) (fQ aK))) (tV (b2 eqQ (b2 D6 (bV 3) (b1 xm (DC 1))) (bC (.str "("))))) (e_ mZ 1 (bQ (ak (bC (.str "row")) (ak (bC (.str "x")) (ak (bC (.str "a")) aK))))) LX) (aN (LN (tA (tV (b2 Zo (bC (.str "(")) (bV 3))) (tV (b2 m8 (bC (.str ")")) (bV 3)))) (e_ mZ 1 (bQ (ak (bC (.str ")")) (ak (DC 1) (ak (DC 2) aK))))) LX) (bA (b1 v7 (bV 1))))))))
def gP:=bM 4 1 false jD
def gC:=(b2 D6 (bV 0) (DC 1))
def cQ:=(tV (b2 eqQ (b2 D6 (bV 0) (DC 0)) (bC (.str "row"))))
def rC:=(bA (d8 [none] (iV (bV 0)) (gN 0) cQ gC))
def gj:=bM 1 1 false rC
def aX:=(LN (tA (tV (b2 eqQ (b2 D6 (bV 2) (DC 0)) (bC (.str "row")))) (tV (b2 pW (b2 D6 (bV 2) (DC 1)) (bV 0)))) sNo LX)
def aY:=(xIf (tA (tV (b2 eqQ (b2 D6 (bV 2) (DC 0)) (bC (.str "row")))) (tV (b2 pW (b2 D6 (bV 2) (DC 1)) (bV 0)))) (BJ (ak (bC (.str "no metre stands by a name in the form")) aK) 16) xNo)
def lX:=(gK (gN 2) (iV (bV 1)) [2] aX)
def bB:=bM 3 2 false lX
def lY:=(MJ (gN 2) (iV (bV 1)) [2] aX aY)
def bD:=m_ 3 2 lY
def iB:=(bV 0)
def fL:=(tV (b2 eqQ (b2 D6 (bV 0) (DC 0)) (bC (.str ")"))))
def sY:=(aN (aZ 1 (d8 [none] (iV (bV 0)) (gN 0) fL iB)) (bA (Xa (tV (b2 (mX λi j=>decide (j<i)) (b1 F6 (bV 1)) (DC 0))) (b2 D6 (bV 1) (DC 0)) (bC .DS))))
def fM:=bM 2 1 false sY
def uA:=(aN (aZ 1 (bh fM (DD 0 aK))) (bA (Xa (tV (b2 OT (bV 1) (bC .DS))) (fQ (ak (DC 1) aK)) (b2 Ax (b2 D6 (bV 1) (DC 1)) (b2 lN (b2 D6 (bV 1) (DC 2)) (DC 1))))))
def dN:=bM 2 1 false uA
noncomputable def jE:MR.Env->Option Bool:=(tO (tV (b2 eqQ (b2 D6 (bV 4) (DC 0)) (bC (.str "(")))) (tV (b2 eqQ (b2 D6 (bV 4) (DC 0)) (bC (.str ")")))))
def iR:=xP jE
def kZ:=(bQ (DD 0 (DD 1 (ak (DC 0) aK))))
def k_:=(bQ (DD 0 (DD 1 (DD 2 aK))))
def lg:=(e_ Aq 3 (d8 [none,none,some 4] (iV (b2 D6 (bV 2) (DC 1))) (gT [0,1]) iY k_))
def lq:=(bQ (DD 0 (DD 1 (ak (DC 0) aK))))
def oO:=(aN (aZ 2 (bh iR (DD 0 aK))) (aN (aZ 3 (d8 [none,none] (iV (b2 D6 (bV 2) (DC 0))) (gT [0,1]) iY kZ)) (aN (gK (gN 4) (iR2 (DC 1) (b2 lN (bV 1) (DC 1))) [4] lg) (bA (b2 Ak (bV 3) (d8 [none,none] (iV (b2 D6 (bV 2) (DC 2))) (gT [0,1]) iY lq))))))
def lL:=bM 5 2 false oO
def sZ:=(bA (qx (b2 eqQ (b1 F6 (bV 0)) (DC 1)) (b2 Z9 (bV 0) (bC (.str "abcdefghijklmnopqrstuvwxyz")))))
def gQ:=bM 1 1 false sZ
def wH:=(aN (LN (tV (b2 OT (bV 0) (bC .DS))) (bA (bC .DS)) LX) (bA (bQ (DD 0 (ak (Xa (tV (bh gQ (DD 0 aK))) (bV 1) (DC 0)) aK)))))
def jF:=bM 2 2 false wH
def bJ:=(LN (tV (b2 eqQ (b2 D6 (bV 5) (DC 0)) (bC (.str "row")))) (aN (uc xu 3 (bV 4) (b1 F6 (bV 2))) (e_ mZ 2 (bQ (ak (b2 D6 (bV 5) (DC 1)) (ak (bh jF (ak (b2 D6 (bV 5) (DC 2)) (DD 6 aK))) (ak (bC .DS) aK)))))) (aN (aZ 7 (b2 D6 (bV 3) (b2 D6 (bV 5) (DC 1)))) (e_ mZ 2 (bQ (ak (b2 D6 (b2 D6 (bV 2) (bV 7)) (DC 0)) (ak (bC .DS) (DD 7 aK)))))))
def iZ:=(aN (aZ 2 (fQ aK)) (aN (aZ 3 (bC (.dK []))) (aN (gK (gT [4,5,6]) (iV (bh lL (DD 0 (DD 1 aK)))) [4,5,6,7] bJ) (bA (bV 2)))))
def bZ:=bM 8 2 false iZ
def bO:=(aN (aZ 3 (bh bZ (DD 0 (DD 2 aK)))) (LN (tV (b2 eqQ (b1 F6 (bV 3)) (bV 1))) (bA (bV 3)) LX))
def nq:=(aN (gK (gN 2) (iV (bh dN (DD 0 aK))) [2,3] bO) (bA (bC .DS)))
def cJ:=bM 4 2 false nq
def n6:=(uc xu 3 (bV 6) (b2 KD (qC 18 "most" (bV 0)) (b2 lN (b3 v8 (bV 3) (bV 6) (DC 0)) (bV 5))))
def n_:=(gK (gN 6) (iV (b3 v8 (qC 18 "ahead" (bV 0)) (bQ (DD 4 (DD 2 aK))) (fQ aK))) [6] n6)
def pX:=(aN (aZ 3 (bC (.dT []))) (aN (gK (gT [4,5]) (iV (b2 D6 (qC 18 "places" (bV 0)) (bV 1))) [4,5,6] n_) (bA (b1 v7 (b1 Ba (bV 3))))))
def aU:=bM 7 3 false pX
def qN:=(bA (b3 v8 (b1 dctP (b2 D6 (qC 18 "places" (bV 0)) (bV 1))) (qC 18 "end" (bV 0)) (DC 0)))
def dJ:=bM 2 2 false qN
def qO:=(bA (qx (b2 (mX λi j=>decide (j<i)) (t_ 18 "ways_to_end" dJ (b2 D6 (bV 0) (DC 0)) (ak (b2 D6 (bV 1) (DC 0)) aK)) (DC 0)) (b2 eqQ (t_ 18 "ways_to_end" dJ (b2 D6 (bV 0) (DC 1)) (ak (b2 D6 (bV 1) (DC 1)) aK)) (DC 0))))
def cj:=bM 2 2 false qO
def uU:=(bA (b2 eqQ (b1 F6 (b2 D6 (qC 18 "places" (bV 0)) (bV 1))) (DC 0)))
def cL:=bM 2 2 false uU
def Dh:=(aN (e_ mZ 2 (b2 D6 (b2 D6 (bV 0) (bV 3)) (DC 1))) (aZ 3 (b2 D6 (b2 D6 (bV 0) (bV 3)) (DC 0))))
def Di:=(tV (b2 gf (b2 D6 (bV 0) (bV 3)) (bC .DS)))
def JK:=(aN (aZ 2 (fQ aK)) (aN (aZ 3 (bV 1)) (aN (An 1000000 Di [] Dh) (bA (b1 zr (bV 2))))))
def jq:=bM 4 2 false JK
def uV:=(bA (b2 uh (zz (bV 0) oN (oS (b1 xm (DC 1)))) (bQ (ak (bQ (ak (b2 D6 (b2 D6 (bV 0) (b1 xm (DC 1))) (DC 0)) (ak (bC (.bl true)) aK))) aK))))
def dh:=bM 1 1 false uV
def xV:=(bQ (DD 1 (DD 2 (DD 0 aK))))
def pY:=(e_ Aq 1 (d8 [none,some 2,some 4] (iR2 (DC 1) (b1 F6 (bV 5))) (gN 0) iY xV))
def pZ:=(aN (e_ mZ 1 (bQ (DD 2 (ak (DC 0) (ak (DC 0) aK))))) (gK (gT [4,5]) (iE2 (b2 D6 (bV 3) (DC 0))) [4,5] pY))
def tu:=(aN (aZ 1 (fQ aK)) (aN (gK (gT [2,3]) (iE2 (bV 0)) [2,3,4,5] pZ) (bA (bV 1))))
def nu:=bM 6 1 false tu
def Ca:=(bA (bQ (ak (b1 F6 (bV 0)) (ak (DC 0) (ak (DC 0) aK)))))
def dY:=bM 1 1 false Ca
def wI:=(aN (aZ 3 (b2 D6 (bV 1) (DC 0))) (aN (aZ 4 (b2 lN (b2 D6 (bV 1) (DC 2)) (DC 1))) (aN (LN (tV (b2 (mX λi j=>decide (i<j)) (bV 4) (b1 F6 (b2 D6 (b2 D6 (b2 D6 (bV 0) (bV 3)) (DC 0)) (b2 D6 (bV 1) (DC 1)))))) (bA (bQ (DD 3 (ak (b2 D6 (bV 1) (DC 1)) (DD 4 aK))))) LX) (aN (LN (tA (tV (b2 D6 (b2 D6 (bV 0) (bV 3)) (DC 1))) (tN (tV (bV 2)))) (bA (bC .DS)) LX) (bA (bQ (ak (b2 lN (bV 3) (DC 1)) (ak (DC 0) (ak (DC 0) aK)))))))))
def oR:=bM 5 3 false wI
def yU:=(bA (bOr (b2 eqQ (bV 0) (bV 1)) (b2 eqQ (bV 0) (bC (.str "x")))))
def rE:=bM 2 2 false yU
def yV:=(aN (aZ 10 (bh oR (DD 0 (ak (bQ (DD 4 (DD 9 (DD 5 aK)))) (DD 3 aK))))) (LN (tA (tV (b2 gf (bV 10) (bC .DS))) (tV (bh rE (ak (b2 D6 (b2 D6 (bV 6) (bV 9)) (bV 5)) (DD 2 aK))))) (e_ mZ 8 (bQ (DD 9 (DD 10 aK)))) LX))
def Dj:=(aN (LN (tV (b2 eqQ (bV 1) (bh dY (DD 0 aK)))) (bA (fQ aK)) LX) (aN (aZ 4 (b2 D6 (bV 1) (DC 0))) (aN (aZ 5 (b2 D6 (bV 1) (DC 2))) (aN (aZ 6 (b2 D6 (b2 D6 (bV 0) (bV 4)) (DC 0))) (aN (aZ 7 (Xa (tV (b2 eqQ (bV 5) (DC 0))) (b1 zq (b1 F6 (bV 6))) (fQ (ak (b2 D6 (bV 1) (DC 1)) aK)))) (aN (aZ 8 (fQ aK)) (aN (gK (gN 9) (iV (bV 7)) [9,10] yV) (bA (bV 8)))))))))
def uB:=bM 11 4 false Dj
def Ha:=(bA (bQ (ak (b2 D6 (bV 1) (DC 0)) (ak (Xa (tV (b2 (mX λi j=>decide (j<i)) (b2 D6 (bV 1) (DC 2)) (DC 0))) (YU (b2 D6 (b2 D6 (b2 D6 (bV 0) (b2 D6 (bV 1) (DC 0))) (DC 0)) (b2 D6 (bV 1) (DC 1))) (oS (b2 D6 (bV 1) (DC 2))) oN) (bC (.str ""))) aK))))
def eU:=bM 2 2 false Ha
def uW:=(bh eU (DD 2 (DD 1 aK)))
def uX:=(aN (aZ 4 (bh uB (DD 0 (DD 2 (ak (b2 D6 (bV 3) (DC 0)) (ak (b2 D6 (bV 3) (DC 1)) aK)))))) (uc xu 1 (bQ (ak (bh eU (DD 0 (DD 2 aK))) (DD 3 aK))) (d8 [none,none,some 0] (iV (bV 4)) (gT [0,1]) iY uW)))
def uY:=(gK (gN 3) (iV (bC B_)) [3,4] uX)
def p6:=(aN (aZ 1 (bC (.dT []))) (aN (gK (gN 2) (iV (bh nu (DD 0 aK))) [2,3,4] uY) (bA (bV 1))))
def cN:=bM 5 1 true p6
def bj:=S5 18 dh cN eU dY aU cL cj jq lR mK
def gR:=(bV 0)
def gU:=(tV (b2 eqQ (b2 D6 (b2 D6 (bV 2) (bV 0)) (DC 1)) (bV 1)))
def ji:=(aN (aZ 2 (b2 D6 (b2 D6 (bV 0) (bV 1)) (DC 1))) (bA (Xa (tV (b2 OT (bV 2) (bC .DS))) (fQ aK) (d8 [none,some 2,some 0] (iR1 (bV 1)) (gN 0) gU gR))))
def dZ:=bM 3 2 false ji
def uC:=(aN (aZ 2 (b2 D6 (b2 D6 (bV 0) (bV 1)) (DC 2))) (bA (Xa (tV (b2 OT (bV 2) (bC .DS))) (bV 1) (bV 2))))
def eY:=bM 3 2 false uC
def uD:=(bA (b2 eqQ (bh eY (DD 0 (DD 1 aK))) (bh eY (DD 0 (DD 2 aK)))))
def gq:=bM 3 3 false uD
def tD:=(aN (aZ 3 (b2 D6 (b2 D6 (bV 0) (bh eY (DD 0 (DD 1 aK)))) (DC 1))) (bA (bOr (bh gq (DD 0 (DD 1 (DD 2 aK)))) (qx (b2 gf (bV 3) (bC .DS)) (b2 eqQ (bV 3) (b2 D6 (b2 D6 (bV 0) (bh eY (DD 0 (DD 2 aK)))) (DC 1)))))))
def gW:=bM 4 3 false tD
noncomputable def lA:MR.Env->Option Out:=(aN (LN (tV (b2 gf (bV 7) (bC .DS))) (bA (bQ (ak (bC (.str "metre")) (DD 5 (DD 4 (DD 7 aK)))))) LX) (aN (aZ 8 (d8 [none,some 2,some 4] (iV (bh dZ (DD 3 (DD 4 aK)))) (gN 0) (tN (tV (bh gW (DD 1 (DD 2 (DD 0 aK)))))) (bV 0))) (aN (LN (tV (b2 (mX λi j=>decide (j<i)) (b1 F6 (bV 8)) (DC 0))) (bA (bQ (ak (bC (.str "rhyme")) (DD 5 (DD 4 (ak (b2 D6 (bV 8) (DC 0)) aK)))))) LX) (aN (LN (tA (tV (b2 gf (bV 6) (bC .DS))) (tN (tV (bh gq (DD 2 (DD 4 (DD 6 aK))))))) (bA (bQ (ak (bC (.str "again")) (DD 5 (DD 4 (DD 6 aK)))))) LX) (bA (bC .DS))))))
def dO:=miF (fbF bj (b1 F6 (bV 2)) (b2 D6 (b2 D6 (bV 3) (bV 4)) (DC 2)) (b2 D6 (b2 D6 (bV 2) (bV 4)) (DC 0)) (b2 D6 (b2 D6 (bV 3) (bV 4)) (DC 0)) lA)
def cO:=G3 bB dN bZ cJ dO
def j8:=(xOr (wG (DD 2 (DD 0 aK)) bD) (Mr (zm (bh bB (DD 2 (DD 0 aK)))) (wG (DD 2 (DD 1 aK)) bD)))
def cu:=m_ 9 3 j8
def fY:=(zm (bh cO (DD 0 (DD 1 (DD 2 aK)))))
def fZ:=(wG (DD 0 (DD 1 (DD 2 aK))) cu)
def gY:=(aN (aZ 3 (bC .DS)) (MF fY fZ 16 (onA (.int 1)) (aN (LN (tV (b2 OT (bV 3) (bC .DS))) (bA (DC 0)) LX) sNo)))
def bK:=bM 5 3 false gY
def nM:=(uc xu 3 (bV 4) (bQ (ak (bQ (ak (bQ (ak (bC (.str "x")) (ak (bC (.str "xx")) aK))) (ak (bC (.bl false)) aK))) (ak (bQ (ak (bQ (ak (bC (.str "u-")) aK)) (ak (bC (.bl true)) aK))) aK))))
def jk:=(LN (tA (tV (b2 (mX λi j=>decide (j<i)) (b2 jT (bV 6) (DC 3)) (DC 0))) (tV (b2 neK (bV 5) (bC (.dK []))))) (e_ G_ 5 (b2 D6 (b1 vY (bV 5)) (b2 jT (b2 uM (bV 6) (DC 3)) (b1 F6 (bV 5))))) LX)
def wJ:=(aN (aZ 1 (bh gP (ak (YU (bV 0) (oS (DC 3)) (oS (DC 9))) aK))) (aN (aZ 2 (bh gP (ak (YU (bV 0) (oS (DC 9)) (oS (DC 15))) aK))) (aN (aZ 3 (bC (.dK []))) (aN (gK (gN 4) (iV (b2 Ak (bh gj (DD 1 aK)) (bh gj (DD 2 aK)))) [4] nM) (aN (aZ 5 (b1 G9 (bV 3))) (aN (gK (gN 6) (iV (YU (bV 0) oN (oS (DC 2)))) [6] jk) (aN (aZ 7 (b1 G9 (bV 5))) (aN (LN (tV (b2 Xx (bh bK (DD 1 (DD 2 (DD 3 aK)))) (DC 0))) (bA (bC (.bl false))) LX) (aN (LN (tV (b2 Xx (bh bK (DD 1 (DD 2 (DD 5 aK)))) (b1 GF (b2 (mX λi j=>decide (i<j)) (b1 F6 (bV 5)) (b1 F6 (bV 3)))))) (bA (bC (.bl false))) LX) (bA (qx (b2 eqK (bV 5) (bV 7)) (qx (b2 eqQ (b1 vY (bV 5)) (b1 vY (bV 7))) (b2 eqQ (bh bK (DD 2 (DD 1 (DD 3 aK)))) (DC 0))))))))))))))
def wK:=bM 8 1 false wJ
theorem qP{EL S:Type}{g:PV->MR.Env->Option MR.Env}{ds:oT}{body:MR.Env->Option Out}(c:EL->PV)(E:S->MR.Env)(I:List EL->S->Prop)(J:∀y ys s,I (y::ys) s->∃s',I ys s'/\turn g ds body (c y) (E s)=some (E s')):∀(ys:List EL) (s:S),I ys s->
  ∃s',I [] s'/\cP g ds body (ys.map c) (E s)=some (.nx (E s'))
 |[],s,i=>⟨s,i,rfl⟩
 |y::ys,s,i=>by
  obtain⟨s1,i1,h1⟩:=J y ys s i;obtain⟨O,i2,h2⟩:=qP c E I J ys s1 i1;exact⟨O,i2,by rw[bb,dq h1,h2]⟩
def JL{EL:Type}[DecidableEq EL]{c:EL->PV}(I:∀a,iu (c a)=true)(J:∀a b,Yi (c a) (c b)=decide (a=b))(x:EL)(cs:List EL):jX (c x) (.lst (cs.map c))=some (decide (x∈cs))/\jX (c x) (.tup (cs.map c))=some (decide (x∈cs)):=by
 have h1:(cs.map c).all iu=true:=by rw[List.all_map,eS];exactλa _=>I a
 have h2:((cs.map c).any λy=>Yi y (c x))=decide (x∈cs):=by
  rw[List.any_map,kA,ke,decide_eq_true_iff];exact⟨by rintro⟨y,h,e⟩;rw[←gX ((J y x).symm.trans e)];exact h,λh=>⟨x,h,(J x x).trans (fe rfl)⟩⟩
 constructor<;>simp only[jX,I x,h1,h2,and_self,fT]
def Z9(x:Str)(cs:rj):jX (.str x) (.lst (cs.map .str))=some (decide (x∈cs))/\jX (.str x) (.tup (cs.map .str))=some (decide (x∈cs)):=JL (λ_=>rfl) (λa b=>by by_cases h:a=b<;>simp[Yi,h]) x cs
def oU(x:Str)(cs:rj):jX (.str x) (.lst (cs.map .str))=some (decide (x∈cs)):=(Z9 x cs).1
section
variable {κ:Type}[DecidableEq κ]
def yL(kvs:List (κ×PV))(k I:κ)(v:PV):aV (cT kvs k v) I=if I=k then some v else aV kvs I:=by
 unfold aV cT;by_cases h:(kvs.any λO=>decide (O.1=k))=true
 ·rw[bX h,List.find?_map]
  have e:((λx:κ×PV=>decide (x.1=I))∘λO=>if O.1=k then(O.1,v)else O)=λx=>decide (x.1=I):=by
   funext x
   have U:(if x.1=k then(x.1,v)else x).1=x.1:=by split<;>rfl
   show decide ((if x.1=k then(x.1,v)else x).1=I)=decide (x.1=I);simp[U]
  rw[e];cases q:kvs.find? λx=>decide (x.1=I)with
  |none=>
   by_cases hk:I=k
   ·subst hk
    obtain⟨x,h1,h2⟩:=ke.mp h;exact absurd h2 (iq.mp q x h1)
   ·rw[bt hk];rfl
  |some x=>
   have J:x.1=I:=by simpa using List.find?_some q
   by_cases hk:I=k
   ·rw[bX hk]
    show some (if x.1=k then(x.1,v)else x).2=_;rw[bX (J.trans hk)]
   ·rw[bt hk]
    show some (if x.1=k then(x.1,v)else x).2=some x.2;rw[bt (λz=>hk (J.symm.trans z))]
 ·rw[bt h,List.find?_append]
  have Y:∀x∈kvs,¬ x.1=k:=λx J e=>h (ke.mpr ⟨x,J,by simp[e]⟩);by_cases hk:I=k
  ·subst hk
   have:(kvs.find? λx=>decide (x.1=I))=none:=iq.mpr λx J=>by simp[Y x J]
   rw[this,bX rfl];simp
  ·rw[bt hk]
   have:([(k,v)].find? λx=>decide (x.1=I))=none:=by simp[fm hk]
   rw[this];simp
def Cd(kvs:List (κ×PV))(k:κ)(v:PV):(cT kvs k v).length<=kvs.length+1:=by
 unfold cT;split
 ·rw[ay];omega
 ·simp
end
inductive Pt where
 |op|cl (lo hi:Nat)|as (r:Nat)|rw(nm:Str) (bd:Option Str)
abbrev sC:=List (Nat×Pt)
abbrev sA:=List Pt
noncomputable def P9:Pt->Str
 |.op => "("
 |.cl _ _ => ")"
 |.as _ => "as"
 |.rw _ _ => "row"
noncomputable def Qb:Option Str->PV
 |none=>.DS
 |some b=>.str b
noncomputable def D4:Pt->PV
 |.op=>.tup [.str "("]
 |.cl lo hi=>.tup [.str ")",.int (lo:Nat),.int (hi:Nat)]
 |.as r=>.tup [.str "as",.int (r:Nat)]
 |.rw nm bd=>.tup [.str "row",.str nm,Qb bd]
noncomputable def isIt:Pt->Bool
 |.as _=>true
 |.rw _ _=>true
 |_=>false
noncomputable def six:List Str:=["a","b","c","A","B","z"]
noncomputable def ET:List Str:=["a","as","x","iamb","long","b","measured","u"]
def yM:∀x∈ET,PyData.strOk x=true:=by
 intro x I;simp only[ET,br,b6,fq]at I;rcases I with e|e|e|e|e|e|e|e<;>subst e<;>decide +kernel
structure MX(p:Pt):Prop where
 nm:∀n b,p=.rw n b->n∈ET/\∀x,b=some x->x∈six
def JM:∀x∈six,PyData.strOk x=true:=by
 intro x I;simp only[six,br,b6,fq]at I;rcases I with e|e|e|e|e|e<;>subst e<;>decide +kernel
def NQ(p:Pt):∃r,D4 p=.tup (.str (P9 p)::r):=by
 cases p with
 |op=>exact⟨_,rfl⟩
 |cl lo hi=>exact⟨_,rfl⟩
 |as r=>exact⟨_,rfl⟩
 |rw n b=>exact⟨_,rfl⟩
def e1:¬ (("(" : Str) = ")"):=by decide
theorem e2:¬ (("as" : Str) = "("):=by decide
theorem e3:¬ (("as" : Str) = ")"):=by decide
theorem e4:¬ (("row" : Str) = "("):=by decide
theorem e5:¬ (("row" : Str) = ")"):=by decide
def e6:¬ (("as" : Str) = "row"):=by decide
theorem e7:¬ ((")" : Str) = "("):=by decide
def JN{p:Pt}(h:MX p):HE 1 (D4 p):=by
 have k1:PyData.strOk ("(" : Str)=true:=by decide +kernel
 have k2:PyData.strOk (")" : Str)=true:=by decide +kernel
 have k3:PyData.strOk ("as" : Str)=true:=by decide +kernel
 have I:PyData.strOk ("row" : Str)=true:=by decide +kernel
 cases p with
 |op=>simp[D4,HE,k1]
 |cl lo hi=>simp[D4,HE,k2]
 |as r=>simp[D4,HE,k3]
 |rw n b=>
  obtain⟨h1,h2⟩:=h.nm n b rfl;have h1:=yM n h1;cases b with
  |none=>simp[D4,HE,I,h1,Qb]
  |some x=>simp[D4,HE,I,h1,Qb,JM x (h2 x rfl)]
def Qq(n:Int):∃x,x∈ET/\gM [.int n]=some (.str x):=by
 obtain⟨k,I,e⟩:∃k:Nat,k<8/\n%8=k:=⟨(n%8).toNat,by omega,by omega⟩;have J:k<ET.length:=I;have O:Fm [PV.str "a",.str "as",.str "x",.str "iamb",.str "long",.str "b",.str "measured",.str "u"] (n%8)=some (.str ET[k]):=by
  have:Fm (ET.map PV.str) (k:Int)=some (.str ET[k]):=lK (by simp[J]);rw[e];exact this
 refine⟨ET[k],kf _,?_⟩;generalize ET[k]=x at *;simp[gM,sW,O]
noncomputable def HV:List (Option Str):=[none,some "a",some "b",some "c",some "A",some "B",some "a",some "z"]
def Qs(n:Int):∃b:Option Str,(∀x,b=some x->x∈six)/\gO [.int n]=some (Qb b):=by
 obtain⟨k,O,e⟩:∃k:Nat,k<8/\n%8=k:=⟨(n%8).toNat,by omega,by omega⟩;have U:k<HV.length:=O;have Y:Fm [PV.DS,.str "a",.str "b",.str "c",.str "A",.str "B",.str "a",.str "z"] (n%8)=some (Qb HV[k]):=by
  have:Fm (HV.map Qb) (k:Int)=some (Qb HV[k]):=lK (by simp[U]);rw[e];exact this
 refine⟨HV[k],?_,?_⟩
 ·intro x J
  have I:some x∈HV:=by rw[←J];exact kf _
  simp only[HV,br,b6,fq,Option.some.injEq,reduceCtorEq,false_or]at I;simp only[six,br,b6,fq];rcases I with h|h|h|h|h|h|h<;>simp[h]
 ·generalize Qb HV[k]=x at *
  simp[gO,sX,Y]
noncomputable def bU:List Pt->Nat->Bool->List (Nat×Bool)
 |[],_,_=>[]
 |.op::l,n,_=>bU l n true
 |.cl _ _::l,n,_=>bU l n false
 |.as _::l,n,b=>bU l (n+1) b
 |.rw _ _::l,n,b=>(n+1,b)::bU l (n+1) b
noncomputable def JO(z:Nat×Bool):PV:=.tup [.int (z.1:Nat),.bl z.2]
def Hb(x:Str):jX (.str x) (.tup [.str "(",.str ")"])=some (decide (x∈(["(",")"]:rj))):=(Z9 x ["(",")"]).2
theorem nO{GP:PV}:∀(l:sA) (R:List (Nat×Bool)) (n:Nat) (b:Bool),R.length+l.length<1000->
  ∃I x3,cP (gN 4) [4] bI (l.map D4) [some GP,some (.lst (R.map JO)),some (.int (n:Nat)),some (.bl b),none]=some (.nx [some GP,some (.lst ((R++bU l n b).map JO)),I,x3,none])
 |[],R,n,b,_=>⟨_,_,by simp[bU,cP];exact⟨rfl,rfl⟩⟩
 |p::l,R,n,b,h=>by
  have q1:=e1;have U:=e2;have q3:=e3;have q4:=e4;have q5:=e5;have q6:=e6;have Z:=e7;have hR:R.length<1000000:=by omega
  simp only[cv]at h;cases p with
  |op=>
   obtain⟨I,x3,O⟩:=nO (GP:=GP) l R n true (by omega);have J:turn (gN 4) [4] bI (D4 .op) [some GP,some (.lst (R.map JO)),some (.int (n:Nat)),some (.bl b),none]=some [some GP,some (.lst (R.map JO)),some (.int (n:Nat)),some (.bl true),none]:=by
    simp[dB,bI,D4,Hb]
   exact⟨I,x3,by rw[bb,dq J];exact O⟩
  |cl lo hi=>
   obtain⟨I,x3,O⟩:=nO (GP:=GP) l R n false (by omega);have J:turn (gN 4) [4] bI (D4 (.cl lo hi)) [some GP,some (.lst (R.map JO)),some (.int (n:Nat)),some (.bl b),none]=some [some GP,some (.lst (R.map JO)),some (.int (n:Nat)),some (.bl false),none]:=by
    simp[dB,bI,D4,Hb,Z]
   exact⟨I,x3,by rw[bb,dq J];exact O⟩
  |as r=>
   obtain⟨I,x3,O⟩:=nO (GP:=GP) l R (n+1) b (by omega);have J:turn (gN 4) [4] bI (D4 (.as r)) [some GP,some (.lst (R.map JO)),some (.int (n:Nat)),some (.bl b),none]=some [some GP,some (.lst (R.map JO)),some (.int ((n+1:Nat):Int)),some (.bl b),none]:=by
    simp[dB,bI,D4,Hb,U,q3,q6]
   exact⟨I,x3,by rw[bb,dq J];exact O⟩
  |rw nm Y=>
   obtain⟨I,x3,O⟩:=nO (GP:=GP) l (R++[(n+1,b)]) (n+1) b (by simp;omega);have J:turn (gN 4) [4] bI (D4 (.rw nm Y)) [some GP,some (.lst (R.map JO)),some (.int (n:Nat)),some (.bl b),none]=some [some GP,some (.lst ((R++[(n+1,b)]).map JO)),some (.int ((n+1:Nat):Int)),some (.bl b),none]:=by
    simp[dB,bI,D4,Hb,q4,q5,hR,JO]
   refine⟨I,x3,by rw[bb,dq J,O];simp[bU]⟩
noncomputable def pP(l:sA):PV:=.lst (l.map D4)
variable {l:sA}
def MN(h:l.length<900):gh [pP l]=some (.lst ((bU l 0 false).map JO)):=by
 obtain⟨Y,x3,I⟩:=nO (GP:=pP l) l [] 0 false (by simpa using by omega);have O:pP l=.lst (l.map D4):=rfl;simp only[js,List.nil_append]at I;have U:lU [some (pP l),none,none,none,none]=some (.rt (.lst ((bU l 0 false).map JO))):=by
  unfold lU;generalize bI=B at *;rw[O]at I ⊢;have J:cP (gN 4) [4] B (l.map D4) [some (.lst (l.map D4)),some (.lst []),some (.int 0),some (.bl false),none]=_:=I;simp[MR.LO,J]
 simp[gh,U]
noncomputable def heads(l:sA):List Str:=l.map P9
def MP(p:Pt):PyData.strOk (P9 p)=true:=by
 have k1:PyData.strOk ("(" : Str)=true:=by decide +kernel
 have k2:PyData.strOk (")" : Str)=true:=by decide +kernel
 have k3:PyData.strOk ("as" : Str)=true:=by decide +kernel
 have I:PyData.strOk ("row" : Str)=true:=by decide +kernel
 cases p with
 |op=>exact k1
 |cl lo hi=>exact k2
 |as r=>exact k3
 |rw n b=>exact I
def Qt(l:sA):HE 1 (.lst ((heads l).map .str)):=by
 simp only[HE,gu,heads];rintro x ⟨y,⟨p,_,rfl⟩,rfl⟩;simp[HE,MP p]
def wL{ce:MR.Env->Option PV}(I:ce=b2 D6 (bV 0) (DC 0))(l:sA):fX [none] (gN 0) iY ce (l.map D4)=some ((heads l).map .str):=by
 subst I;rw[heads,qV];exact sS _ _ l λp _=>⟨_,rfl,by obtain⟨r,h⟩:=NQ p;simp[h]⟩
noncomputable def jm:Pt->Bool
 |.cl 0 _=>true
 |_=>false
noncomputable def iI(l:sA):Bool:=l.any jm
def T5(hl:l.length<900)(ok:∀p∈l,MX p):dU [pP l]=some (.bl (iI l)):=by
 have q2:=e3;have q5:=e5;have q1:=e1;have J:=dX (env:=[none]) (g:=gN 0) (t:=cI) (f:=jh) D4 D4 jm l λp _=>⟨[some (D4 p)],rfl,by
  cases p with
  |op=>simp[cI,D4,jm,q1]
  |cl lo hi=>
   cases lo with
   |zero=>simp[cI,D4,jm]
   |succ k=>
    have:¬ ((k+1:Nat):Int)=0:=by omega
    have h2:¬ ((k:Int)+1=0):=by omega
    simp[cI,D4,jm,h2]
  |as r=>simp[cI,D4,jm,q2]
  |rw n b=>simp[cI,D4,jm,q5],λ_=>by simp[jh]⟩
 have I:l.length<=1000000:=by omega
 have Y:pP l=.lst (l.map D4):=rfl;cases hf:l.filter jm with
 |nil=>
  have U:iI l=false:=by
   unfold iI;cases h:l.any jm with
   |false=>rfl
   |true=>
    obtain⟨p,h1,h2⟩:=ke.mp h;have:p∈l.filter jm:=ef.mpr ⟨h1,h2⟩;rw[hf]at this;cases this
  rw[hf]at J;rw[U,Y];simp[dU,j5,MR.LO,I,J]
 |cons p ps=>
  have U:iI l=true:=by
   have:p∈l.filter jm:=by rw[hf];exact bp
   have h2:=ef.mp this;exact ke.mpr ⟨p,h2.1,h2.2⟩
  rw[hf]at J;rw[U,Y];have he:JJ (.lst (D4 p::ps.map D4)) (.lst [])=some false:=oZ (n:=1) (by
   simp only[HE,br,gu];have Z:∀q∈p::ps,MX q:=λq O=>ok q (by
    have:q∈l.filter jm:=by rw[hf];exact O
    exact(ef.mp this).1)
   rintro x (rfl|⟨q,O,rfl⟩)
   ·exact JN (Z p bp)
   ·exact JN (Z q (aI _ O))) (by decide)
  rw[bb]at J;simp[dU,j5,MR.LO,I,J,he]
noncomputable def Xd(l:sA)(inner:Bool):List (Nat×Bool):=if(!inner&&iI l)=true then(bU l 0 false).filter λz=>!z.2 else bU l 0 false
noncomputable def cR(l:sA):Bool:=decide (("(" : Str)∈heads l)&&!decide ((")" : Str)∈heads l)
theorem lM:∀(l:sA) (n:Nat) (b:Bool),(bU l n b).length<=l.length
 |[],_,_=>ax _
 |.op::l,n,_=>by have:=lM l n true;simp[bU];omega
 |.cl _ _::l,n,_=>by have:=lM l n false;simp[bU];omega
 |.as _::l,n,b=>by have:=lM l (n+1) b;simp[bU];omega
 |.rw _ _::l,n,b=>by have:=lM l (n+1) b;simp[bU];omega
def T6(R:List (Nat×Bool)):HE 2 (.lst (R.map JO)):=by
 simp only[HE,gu];rintro x ⟨z,_,rfl⟩;simp[JO,HE]
def VP(i:Int):jX (.int i) (.tup [.int 5,.int 6])=some (decide (i=5\/i=6)):=((JL (c:=PV.int) (λ_=>rfl) (λa b=>by by_cases h:a=b<;>simp[Yi,h]) i [5,6]).2).trans (by simp)
def ME(l:sA)(c:Int)(x4 x5 x6:Option PV):MR.Env:=[some (pP l),some (.int c),some (.lst ((heads l).map .str)),some (.int (c / 9)),x4,x5,x6]
inductive Nx(l:sA):Pt->Prop
 |op:¬ ("(" : Str)∈heads l->Nx l .op
 |cl {lo hi:Nat}:cR l=true->(heads l).getLast?≠some "(" -> lo<=hi->1<=hi->hi<=4->Nx l (.cl lo hi)
 |as {r:Nat}{b:Bool}:(r,b)∈Xd l (cR l)->Nx l (.as r)
 |ro {n:Str}{b:Option Str}:n∈ET->(∀x,b=some x->x∈six)->Nx l (.rw n b)
def xW{h:Str}(I:(heads l).getLast?=some h):Fm ((heads l).map PV.str) (-1)=some (.str h):=by
 have J:0<(heads l).length:=qo.mpr λz=>by rw[z]at I;cases I
 rw[PN];unfold Fm OL;rw[bt (by decide),bX (by omega),bE,show(-1+((heads l).length:Int)).toNat=(heads l).length - 1 by omega,←List.getLast?_eq_getElem?,I];rfl
def Qu(c:Int)(hl:l.length<900)(ok:∀p∈l,MX p):∃q,Nx l q/\fJ [pP l,.int c]=some (D4 q):=by
 suffices g:∃q,Nx l q/\jC [some (pP l),some (.int c),none,none,none,none,none]=some (.rt (D4 q)) by
  obtain⟨q,hq,hb⟩:=g;refine⟨q,hq,?_⟩;unfold fJ;generalize jC=B at *;simp[hb]
 have hle:l.length<=1000000:=by omega
 have hc1:=wL (ce:=j6) rfl l;have hO:=oU "(" (heads l);have hC:=oU ")" (heads l);have U:=T5 hl ok;have hrt:=MN hl;have hrl:=lM l 0 false;unfold jC;rw[bF (e:=[some (pP l),some (.int c),some (.lst ((heads l).map .str)),none,none,none,none])];rotate_left
 ·generalize j6=ce at *
  simp[pP,MR.LO,hle,hc1]
 rw[bF (e:=ME l c none none none)];rotate_left
 ·simp[ME]
 rw[bF (e:=ME l c (some (.bl (cR l))) none none)];rotate_left
 ·unfold ME cR
  generalize pP l=O,(heads l).map PV.str=J at *;by_cases h1:("(" : Str)∈heads l<;>simp[hO,hC,h1]
 rw[bF (e:=ME l c (some (.bl (cR l))) (some (.int (c / 9%4))) none)];rotate_left
 ·simp[ME]
 by_cases h7:c%9=7/\¬ ("(" : Str)∈heads l
 ·refine⟨.op,.op h7.2,?_⟩
  rw[uo (p:=D4 .op)];unfold ME;generalize pP l=O,(heads l).map PV.str=J at *;simp[h7.1,h7.2,hO,D4]
 rw[bF (e:=ME l c (some (.bl (cR l))) (some (.int (c / 9%4))) none)];rotate_left
 ·unfold ME
  generalize pP l=O,(heads l).map PV.str=J at *;by_cases h1:c%9=7
  ·have h2:("(" : Str)∈heads l:=gE λz=>h7 ⟨h1,z⟩
   simp[h1,h2,hO]
  ·simp[h1]
 have OB:cR l=true->∃h,(heads l).getLast?=some h:=λk=>⟨_,ly λz=>by unfold cR at k;rw[z]at k;simp at k⟩;by_cases h8:c%9=8/\cR l=true/\(heads l).getLast?≠some ("(" : Str)
 ·obtain⟨k1,k2,k3⟩:=h8
  obtain⟨h,hh⟩:=OB k2;have hx:¬ h=("(" : Str):=λz=>k3 (by rw[hh,z]);have MY:=xW hh;obtain⟨lo,Yd,elo⟩:∃lo:Nat,lo<4/\c / 9%4=lo:=⟨(c / 9%4).toNat,by omega,by omega⟩;obtain⟨I,hmx3,hmx⟩:∃I:Nat,(1<=I/\I<=3/\lo<=I)/\RE (.int 1) (.int (lo:Int))=some (.int (I:Nat)):=by
   rcases(show lo=0\/lo=1\/lo=2\/lo=3 by omega)with rfl|rfl|rfl|rfl
   ·exact⟨1,by decide,rfl⟩
   ·exact⟨1,by decide,rfl⟩
   ·exact⟨2,by decide,rfl⟩
   ·exact⟨3,by decide,rfl⟩
  have q1:=pw (c / 9 / 4) (b:=5 - (I:Int)) (by omega);have q2:=mP (c / 9 / 4) (b:=5 - (I:Int)) (by omega);obtain⟨hi,hhi1,hhi2⟩:∃hi:Nat,(I<=hi/\hi<=4)/\(I:Int)+c / 9 / 4%(5 - (I:Int))=hi:=⟨((I:Int)+c / 9 / 4%(5 - (I:Int))).toNat,by omega,by omega⟩;refine⟨.cl lo hi,.cl k2 k3 (by omega) (by omega) hhi1.2,?_⟩;have O0:0<5 - (I:Int):=by omega
  have hm5:(I:Int)<5:=by omega
  rw[uo (p:=D4 (.cl lo hi))];unfold ME;rw[k2,elo];generalize pP l=O,(heads l).map PV.str=J at *;simp[D4,k1,MY,hx,hmx,hm5,O0,hhi2,-RE]
 rw[bF (e:=ME l c (some (.bl (cR l))) (some (.int (c / 9%4))) none)];rotate_left
 ·unfold ME
  by_cases k1:c%9=8
  ·cases k2:cR l with
   |false=>
    generalize pP l=O,(heads l).map PV.str=J at *;simp[k1]
   |true=>
    obtain⟨h,hh⟩:=OB k2;have hx:h=("(" : Str):=gE λz=>h8 ⟨k1,k2,λy=>z (by rw[hh]at y;exact bq y)⟩;have MY:=xW hh;generalize pP l=O,(heads l).map PV.str=J at *;simp[k1,MY,hx]
  ·generalize pP l=O,(heads l).map PV.str=J at *
   simp[k1]
 rw[bF (e:=ME l c (some (.bl (cR l))) (some (.int (c / 9%4))) (some (.lst ((bU l 0 false).map JO))))];rotate_left
 ·unfold ME
  generalize gh=mr at *;simp[hrt]
 rw[bF (e:=ME l c (some (.bl (cR l))) (some (.int (c / 9%4))) (some (.lst ((Xd l (cR l)).map JO))))];rotate_left
 ·have hc3:=dX (env:=[none]) (g:=gN 0) (t:=iz) (f:=iy) JO JO (λz=>!z.2) (bU l 0 false) λz _=>⟨[some (JO z)],rfl,by simp[iz,JO],λ_=>by simp[iy]⟩
  have Zz:(bU l 0 false).length<=1000000:=by omega
  unfold ME Xd;generalize pP l=O,(heads l).map PV.str=J,dU=mw,iz=cc,iy=ce at *;cases hi:cR l<;>cases hw:iI l<;>rw[hw]at U<;>simp[U,MR.LO,Zz,hc3]
 have Y:=VP (c%9);have DV:=T6 (Xd l (cR l));have hrm:∀z∈Xd l (cR l),Nx l (.as z.1):=λz hz=>.as (b:=z.2) hz;have hr6:(Xd l (cR l)).length<900:=gv (by unfold Xd;split;exact df (gy _ _) hrl;exact hrl) hl;generalize Xd l (cR l)=R at *;by_cases h5:(c%9=5\/c%9=6)/\R≠[]
 ·have O0:0<R.length:=qo.mpr h5.2
  have q1:=pw (c / 9) (b:=(R.length:Int)) (by omega);have q2:=mP (c / 9) (b:=(R.length:Int)) (by omega);obtain⟨k,hk,ek⟩:∃k:Nat,k<R.length/\c / 9%(R.length:Int)=k:=⟨(c / 9%(R.length:Int)).toNat,by omega,by omega⟩;have MY:Fm (R.map JO) (k:Int)=some (.tup [.int (R[k].1:Nat),.bl R[k].2]):=lK (by simp[hk,JO]);have Z:JJ (.lst (R.map JO)) (.lst [])=some false:=by
   obtain⟨z,zs,hz⟩:=mS h5.2;rw[hz,bb]at DV ⊢;exact oZ (n:=1) DV (by decide)
  refine⟨.as R[k].1,hrm _ (kf hk),?_⟩;have hlm:(R.map JO).length=R.length:=ay ..;have UM:(0:Int)<(R.length:Int):=by omega
  rw[fe h5.1]at Y;rw[uo (p:=D4 (.as R[k].1))];unfold ME;generalize pP l=O,(heads l).map PV.str=J,R.map JO=RP at *;simp[D4,Y,Z,hlm,O0,UM,ek,MY]
 obtain⟨nm,n1,n2⟩:=Qq (c / 9);obtain⟨bd,b1',YA⟩:=Qs (c / 9 / 8);refine⟨.rw nm bd,.ro n1 b1',?_⟩;rw[bF (e:=ME l c (some (.bl (cR l))) (some (.int (c / 9%4))) (some (.lst (R.map JO))))]
 ·unfold ME
  generalize gM=m1,gO=m2 at *;simp[D4,n2,YA]
 ·unfold ME
  generalize pP l=O,(heads l).map PV.str=J at *;by_cases k5:c%9=5\/c%9=6
  ·have hr0:R=[]:=gE λz=>h5 ⟨k5,z⟩
   rw[fe k5]at Y;rw[hr0];simp[Y]
  ·rw[ed k5]at Y
   generalize R.map JO=RP at *;simp[Y]
inductive Gd:List Pt->Prop
 |nil:Gd []
 |snoc {l:sA}{q:Pt}:Gd l->Nx l q->Gd (l++[q])
def Nx.ok{q:Pt}(h:Nx l q):MX q:=⟨λn b e=>by subst e;cases h with|ro h1 h2=>exact⟨h1,h2⟩⟩
noncomputable def isR:Nat×Pt->Option Nat
 |(n,.rw _ _)=>some n
 |_=>none
abbrev rN(l:sC):List Nat:=l.filterMap isR
def Xe(Z:Str->Prop):List Nat->List (Nat×Pt)->Prop
 |_,[]=>True
 |S,(n,.rw nm bd)::l=>(MX (.rw nm bd)/\Z nm)/\Xe Z (n::S) l
 |S,(_,.as r)::l=>r∈S/\Xe Z S l
 |_,_::_=>False
section
variable {Z:Str->Prop}
theorem nP{n:Nat}{q:Pt}(hi:isIt q=true)(I:MX q)(hz:∀n b,q=.rw n b->Z n):∀{l:sC}{S:oT},Xe Z S l->(∀r,q=.as r->r∈S\/r∈rN l)->Xe Z S (l++[(n,q)])
 |[],S,_,h=>by
  cases q with
  |op=>cases hi
  |cl _ _=>cases hi
  |as r=>exact⟨by simpa using h r rfl,trivial⟩
  |rw _ _=>exact⟨⟨I,hz _ _ rfl⟩,trivial⟩
 |(m,.rw _ _)::l,S,o,h=>⟨o.1,nP hi I hz o.2 λr e=>by
  rcases h r e with z|z
  ·exact .inl (aI _ z)
  ·rcases br.mp (show r∈m::rN l from z)with z|z
   ·exact .inl (z▸bp)
   ·exact .inr z⟩
 |(m,.as _)::l,S,o,h=>⟨o.1,nP hi I hz o.2 h⟩
 |(_,.op)::_,_,o,_=>o.elim
 |(_,.cl _ _)::_,_,o,_=>o.elim
noncomputable def Pc(z:Nat×Pt):PV:=.tup [.int (z.1:Nat),D4 z.2]
def NT(w n:Nat)(p:Pt):jE (ctE w n (D4 p))=some (!isIt p):=by cases p<;>rfl
abbrev rB(b:Bool)(l:sC):List (Nat×Bool):=(rN l).map (·,b)
structure Ct(Z:Str->Prop)(l:sA)(w:Nat)(a b c:sC):Prop where
 run:∀r,jY jE 0 0 [[],[],[]] (l.map D4++r)=jY jE w (a.length+b.length+c.length) [a.map Pc,b.map Pc,c.map Pc] r
 rt:∀r,bU (l++r) 0 false=(rB false a++(rB true b++rB false c))++bU r (a.length+b.length+c.length) (w == 1)
 oa:Xe Z [] a
 ob:Xe Z (rN a) b
 oc:Xe Z (rN a++if iI l=true then[]else rN b) c
 n:a.length+b.length+c.length<=l.length
 hO:("(" : Str)∈heads l↔w≠0
 hC:(")" : Str)∈heads l↔w=2
 hL:iI l=true->w=2
 w2:w<=2
 b0:w=0->b=[]
 c0:w≠2->c=[]
 bl:w=1->b=[]->(heads l).getLast?=some "("
 bn:w=2->b≠[]
 cl:∀lo hi,.cl lo hi∈l->lo<=hi/\1<=hi/\hi<=4
def Ct.inn{w:Nat}{a b c:sC}(C:Ct Z l w a b c):cR l=decide (w=1):=by
 have h1:=C.hO;have h2:=C.hC;have I:=C.w2;unfold cR;rcases(show w=0\/w=1\/w=2 by omega)with e|e|e<;>simp[h1,h2,e]
def Vi{p:Pt}(h:isIt p=true):¬ ("(" : Str)=P9 p/\¬ (")" : Str)=P9 p/\jm p=false:=by cases p<;>first|exact⟨λz=>e2 z.symm,λz=>e3 z.symm,rfl⟩|exact⟨λz=>e4 z.symm,λz=>e5 z.symm,rfl⟩|cases h
def dM(l:sA)(q:Pt):heads (l++[q])=heads l++[P9 q]:=by simp[heads]
def Ce(l:sA)(q:Pt):iI (l++[q])=(iI l||jm q):=by simp[iI]
def uZ{q:Pt}(h:isIt q=true)(r:sA)(n:Nat)(b:Bool):bU (q::r) n b=rB b [(n+1,q)]++bU r (n+1) b:=by cases q<;>first|rfl|cases h
def Cg(x:Bool)(l m:sC):rB x (l++m)=rB x l++rB x m:=by simp[rB,rN]
set_option tactic.hygienic true in def Ct.it{w:Nat}{a b c:sC}(C:Ct Z l w a b c){q:Pt}(hi:isIt q=true)(hk:MX q)(hz:∀n b,q=.rw n b->Z n)(h8:l.length<900)(hr:∀r,q=.as r->∃b,(r,b)∈Xd l (cR l)):∃a b c,Ct Z (l++[q]) w a b c:=by
 obtain⟨k1,k2,k3⟩:=Vi hi;have hn:=C.n;have I:iI (l++[q])=iI l:=by rw[Ce,k3,qB]
 have eO:("(" : Str)∈heads (l++[q])↔w≠0:=by rw[dM,←C.hO];simp[k1]
 have eC:(")" : Str)∈heads (l++[q])↔w=2:=by rw[dM,←C.hC];simp[k2]
 have ecl:∀lo hi,.cl lo hi∈l++[q]->lo<=hi/\1<=hi/\hi<=4:=λlo j h=>by
  rcases eR.mp h with z|z
  ·exact C.cl lo j z
  ·rw[←gc.mp z]at hi;cases hi
 have U:∀r,q=.as r->r∈rN a\/(r∈rN b/\¬ (w=2/\iI l=true))\/r∈rN c:=λr e=>by
  obtain⟨x,Y⟩:=hr r e;have:=C.rt [];rw[cy,show bU [] (a.length+b.length+c.length) (w == 1)=[]from rfl,cy]at this;unfold Xd at Y;rw[C.inn,this]at Y;split at Y
  ·simp only[ef,eR,gu,Prod.mk.injEq]at Y
   obtain⟨(⟨y,J,rfl,_⟩|⟨y,J,rfl,rfl⟩|⟨y,J,rfl,_⟩),hb⟩:=Y
   ·exact .inl J
   ·cases hb
   ·exact .inr (.inr J)
  ·rename_i z
   simp only[eR,gu,Prod.mk.injEq]at Y;rcases Y with⟨y,J,rfl,_⟩|⟨y,J,rfl,_⟩|⟨y,J,rfl,_⟩
   ·exact .inl J
   ·exact .inr (.inl ⟨J,λ⟨w2,lw⟩=>z (by rw[lw,w2];rfl)⟩)
   ·exact .inr (.inr J)
 have step:∀(r:sv) (L:List (List PV)),w<L.length->(L.getD w []).length<900->jY jE w (a.length+b.length+c.length) L (D4 q::r)=jY jE w (a.length+b.length+c.length+1) (L.set w (L.getD w []++[Pc (a.length+b.length+c.length+1,q)])) r:=λr L h1 h2=>by
  rw[jY,NT,hi,bE,bt (by decide),bX ⟨h1,by omega⟩];rfl
 have Kk:∀r,(l++[q]).map D4++r=l.map D4++(D4 q::r):=λr=>by simp
 have L8:∀r,l++[q]++r=l++q::r:=λr=>by simp
 have hw:=C.w2;generalize O:a.length+b.length+c.length+1=N at step;rcases(show w=0\/w=1\/w=2 by omega)with e|e|e
 ·obtain rfl:=C.b0 e
  obtain rfl:=C.c0 (by omega);subst e;simp only[gs,l8]at O hn step;refine⟨a++[(N,q)],[],[],λr=>?_,λr=>?_,nP hi hk hz C.oa λr e=>?_,trivial,trivial,by simp;omega,eO,eC,λz=>C.hL (I▸z),C.w2,λ_=>rfl,λ_=>rfl,λz=>(by cases z),λz=>(by cases z),ecl⟩
  ·rw[Kk,C.run]
   simp only[gs,l8];rw[step _ _ (by simp) (by simp;omega)];simp[O]
  ·rw[L8,C.rt,uZ hi]
   simp[←O,Cg];rfl
  ·rcases U r e with z|⟨z,_⟩|z
   ·exact .inr z
   ·cases z
   ·cases z
 ·obtain rfl:=C.c0 (by omega)
  subst e;simp only[gs,l8]at O hn step;refine⟨a,b++[(N,q)],[],λr=>?_,λr=>?_,C.oa,nP hi hk hz C.ob λr e=>?_,trivial,by simp;omega,eO,eC,λz=>C.hL (I▸z),C.w2,λz=>(by cases z),λ_=>rfl,λ_ z=>(by simp at z),λz=>(by cases z),ecl⟩
  ·rw[Kk,C.run]
   simp only[gs,l8];rw[step _ _ (by simp) (by simp;omega)];simp[←O];rfl
  ·rw[L8,C.rt,uZ hi]
   simp[←O,Cg];rfl
  ·rcases U r e with z|⟨z,_⟩|z
   ·exact .inl z
   ·exact .inr z
   ·cases z
 ·subst e
  refine⟨a,b,c++[(N,q)],λr=>?_,λr=>?_,C.oa,C.ob,nP hi hk hz (by rw[I];exact C.oc) λr e=>?_,by simp;omega,eO,eC,λz=>C.hL (I▸z),C.w2,λz=>(by cases z),λz=>absurd rfl z,λz=>(by cases z),C.bn,ecl⟩
  ·rw[Kk,C.run,step _ _ (by simp) (by simp;omega)]
   simp[←O];rfl
  ·rw[L8,C.rt,uZ hi]
   simp[←O,Cg];rfl
  ·rw[I]
   rcases U r e with z|⟨z,y⟩|z
   ·exact .inl (g0 _ z)
   ·exact .inl (cE _ (by rw[bt λx=>y ⟨rfl,x⟩];exact z))
   ·exact .inr z
def Gd.ct(h:Gd l)(h8:l.length<900)(hz:∀n b,.rw n b∈l->Z n):∃w a b c,Ct Z l w a b c:=by
 induction h with
 |nil=>exact⟨0,[],[],[],λ_=>rfl,λ_=>rfl,trivial,trivial,trivial,ax _,by simp[heads],by simp[heads],λz=>(by cases z),by omega,λ_=>rfl,λ_=>rfl,λz=>(by cases z),λz=>(by cases z),λ_ _ z=>(by cases z)⟩
 |@snoc l q g hq ih=>
  rw[ci,k6]at h8;obtain⟨w,a,b,c,C⟩:=ih (by omega) λn b h=>hz n b (g0 _ h);have hi:=C.inn;have Kk:∀r,(l++[q]).map D4++r=l.map D4++(D4 q::r):=λr=>by simp
  have U:∀r,l++[q]++r=l++q::r:=λr=>by simp
  have Y:=C.n;have I:∀{w n:Nat} {L r},isIt q=false->jY jE w n L (D4 q::r)=jY jE (w+1) n L r:=λe=>by rw[jY,NT,e];rfl
  cases hq with
  |op O=>
   have e:w=0:=gE λz=>O (C.hO.mpr z);obtain rfl:=C.b0 e;obtain rfl:=C.c0 (by omega);subst e;refine⟨1,a,[],[],λr=>?_,λr=>?_,C.oa,trivial,trivial,by simp at Y ⊢;omega,by simp[dM,P9],?_,λz=>?_,by omega,λz=>(by cases z),λ_=>rfl,λ_ _=>by simp[dM,P9],λz=>(by cases z),λlo hi z=>C.cl lo hi (by simpa using z)⟩
   ·rw[Kk,C.run,I rfl]
   ·rw[U,C.rt];rfl
   ·have:=C.hC
    simp[dM,P9,this,e7]
   ·have:=C.hL (by simpa[Ce,jm]using z);cases this
  |@cl lo hi XW OB h1 h2 h3=>
   have e:w=1:=by rw[C.inn]at XW;exact gX XW
   obtain rfl:=C.c0 (by omega);subst e;refine⟨2,a,b,[],λr=>?_,λr=>?_,C.oa,C.ob,trivial,by simp at Y ⊢;omega,?_,by simp[dM,P9],λ_=>rfl,by omega,λz=>(by cases z),λ_=>rfl,λz=>(by cases z),λ_ z=>OB (C.bl rfl z),λJ Of z=>?_⟩
   ·rw[Kk,C.run,I rfl]
   ·rw[U,C.rt];rfl
   ·have:=C.hO
    simp[dM,this]
   ·rcases eR.mp z with z|z
    ·exact C.cl J Of z
    ·cases gc.mp z;exact⟨h1,h2,h3⟩
  |@as r x hr=>
   obtain⟨a,b,c,C⟩:=C.it (q:=.as r) rfl ⟨λ_ _ z=>(by cases z)⟩ (λ_ _ z=>(by cases z)) (by omega) λr e=>by cases e;exact⟨x,hr⟩
   exact⟨w,a,b,c,C⟩
  |ro h1 h2=>
   obtain⟨a,b,c,C⟩:=C.it (q:=.rw _ _) rfl (Nx.ok (.ro h1 h2:Nx l _)) (λn b e=>hz n b (e▸cE _ bp)) (by omega) λr e=>by cases e
   exact⟨w,a,b,c,C⟩
end
def T7(q:Pt):NG (D4 q)=true:=by
 cases q with
 |op=>rfl
 |cl lo hi=>rfl
 |as r=>rfl
 |rw n b=>cases b<;>rfl
def Qv{J:PV}{q:Pt}{c:Int}(h:fJ [pP l,.int c]=some (D4 q))(hl:l.length<900):
  turn (gN 2) [2] fK (.int c) [some J,some (pP l),none,none]=some [some J,some (pP (l++[q])),none,none]:=by
 have e:pP (l++[q])=.lst (l.map D4++[D4 q]):=by simp[pP]
 have I:(l.map D4).length<1000000:=by rw[ay];omega
 have U:pP l=.lst (l.map D4):=rfl;rw[e];rw[U]at h ⊢;unfold fK;have O:=T7 q;generalize fJ=mn,l.map D4=Y,D4 q=QP at *;simp[dB,h,I,O]
noncomputable def tP(l:sA):PV:=.tup (l.map D4)
def NZ(h:Gd l):∀p∈l,MX p:=by
 induction h with
 |nil=>intro p I;cases I
 |snoc _ O J=>
  intro p I;rcases eR.mp I with z|z
  ·exact J p z
  ·rw[gc.mp z];exact O.ok
def Ep{cs:rL}(hc:cs.length<=6):∃l,(Gd l/\l.length<=8/\l≠[])/\gP [.lst (cs.map .int)]=some (tP l):=by
 obtain⟨l,⟨g,hn⟩,lp⟩:=qP (g:=gN 2) (ds:=[2]) (body:=fK) PV.int (λl:List Pt=>[some (.lst (cs.map .int)),some (pP l),none,none])
  (λr l=>Gd l/\l.length+r.length<=6)
  (by
   rintro c r l ⟨i1,i3⟩;simp only[cv]at i3;obtain⟨q,hq,hm⟩:=Qu c (l:=l) (by omega) (NZ i1);exact⟨l++[q],⟨.snoc i1 hq,by simp;omega⟩,Qv hm (by omega)⟩)
  cs [] ⟨.nil,by simpa using hc⟩
 simp only[gs,l8]at hn;obtain⟨I,g1,n1,k1,i1,a1,o1⟩:∃I,Gd I/\I≠[]/\I.length<=7/\cR I=cR l/\(heads I).getLast?≠some ("(" : Str)/\(((l=[]\/(heads l).getLast?=some ("(" : Str))/\I=l++[.rw "x" (some "a")])\/(l≠[]/\(heads l).getLast?≠some ("(" : Str))/\I=l):=by
  by_cases z:l=[]\/(heads l).getLast?=some ("(" : Str)
  ·refine⟨_,.snoc g (.ro (n := "x") (b:=some "a") (by simp[ET]) λx O=>by cases O;simp[six]),by simp,by simp;omega,?_,by rw[dM];simp[P9,e4],.inl ⟨z,rfl⟩⟩
   have h4:¬ (("(" : Str) = "row"):=λz=>e4 z.symm;have h5:¬ ((")" : Str) = "row"):=λz=>e5 z.symm;unfold cR;rw[dM];simp[P9,h4,h5]
  ·have y:=not_or.mp z
   exact⟨l,g,y.1,by omega,rfl,y.2,.inr ⟨y,rfl⟩⟩
 have hO:=oU "(" (heads l);have hC:=oU ")" (heads l);have hcp:=wL (ce:=j7) rfl l;have hle:l.length<=1000000:=by omega
 suffices q:∃J,(Gd J/\J.length<=8/\J≠[])/\jD [some (.lst (cs.map .int)),none,none,none]=some (.rt (tP J)) by
  obtain⟨J,h,e⟩:=q;refine⟨J,h,?_⟩;unfold gP;generalize jD=B at *;simp[e]
 unfold jD;rw[bF (e:=[some (.lst (cs.map .int)),some (pP []),none,none])];rotate_left
 ·simp[pP]
 rw[bF (e:=[some (.lst (cs.map .int)),some (pP l),none,none])];rotate_left
 ·generalize fK=B,pP l=P1,pP []=P0 at *
  simp[MR.LO,lp]
 rw[bF (e:=[some (.lst (cs.map .int)),some (pP l),none,some (.lst ((heads l).map .str))])];rotate_left
 ·unfold pP
  generalize j7=ce at *;simp[MR.LO,hle,hcp]
 rw[bF (e:=[some (.lst (cs.map .int)),some (pP I),none,some (.lst ((heads l).map .str))])];rotate_left
 ·have hl:(l.map D4).length<1000000:=by rw[ay];omega
  by_cases hz:l=[]
  ·subst hz
   rcases o1 with⟨_,rfl⟩|⟨z,_⟩
   ·simp[pP,heads,D4,Qb]
   ·exact absurd rfl z.1
  ·have DV:=Qt l
   have L5:heads l≠[]:=by simpa[heads]using hz
   obtain⟨h,hh⟩:∃h,(heads l).getLast?=some h:=⟨_,ly L5⟩;have MY:=xW hh;have U:JJ (.lst ((heads l).map .str)) (.lst [])=some false:=by
    obtain⟨y,ys,hy⟩:=mS L5;rw[hy,bb]at DV ⊢;exact oZ (n:=0) DV (by decide)
   unfold pP;generalize (heads l).map PV.str=HP at *;rcases o1 with⟨z,rfl⟩|⟨z,rfl⟩
   ·have O:h=("(" : Str):=by rw[hh]at z;simpa[hz]using z
    rw[fk,show[Pt.rw "x" (some "a")].map D4=[.tup [.str "row",.str "x",.str "a"]]from rfl];generalize l.map D4=Y at *;simp[U,MY,O,hl]
   ·have O:¬ h=("(" : Str):=λy=>z.2 (by rw[hh,y])
    generalize I.map D4=Y at *;simp[U,MY,O]
 have hll:(I.map D4).length<1000000:=by rw[ay];omega
 cases q:cR l with
 |true=>
  refine⟨I++[.cl 1 2],⟨.snoc g1 (.cl (by rw[i1,q]) a1 (by decide) (by decide) (by decide)),by simp;omega,by simp⟩,?_⟩;unfold cR at q;rw[cb]at q;have k1:("(" : Str)∈heads l:=gX q.1;have k2:¬ (")" : Str)∈heads l:=by simpa using q.2
  rw[bF (e:=[some (.lst (cs.map .int)),some (.lst (I.map D4++[.tup [.str ")",.int 1,.int 2]])),none,some (.lst ((heads l).map .str))])]
  ·have:(I.map D4).length+1<=1000000:=by omega
   rw[tP,fk,show[Pt.cl 1 2].map D4=[.tup [.str ")",.int 1,.int 2]]from rfl];generalize I.map D4=Y at *;simp[this]
  ·unfold pP
   generalize (heads l).map PV.str=HP,I.map D4=Y at *;simp[hO,hC,k1,k2,hll]
 |false=>
  refine⟨I,⟨g1,by omega,n1⟩,?_⟩;rw[bF (e:=[some (.lst (cs.map .int)),some (pP I),none,some (.lst ((heads l).map .str))])]
  ·have:(I.map D4).length<=1000000:=by omega
   unfold pP tP;generalize I.map D4=Y at *;simp[this]
  ·generalize pP I=Y,(heads l).map PV.str=HP at *
   unfold cR at q;by_cases k1:("(" : Str)∈heads l
   ·have k2:(")" : Str)∈heads l:=by
     rw[fe k1]at q;simpa using q
    simp[hO,hC,k1,k2]
   ·simp[hO,k1]
noncomputable def NI(t:Nat)(z:Nat×Pt):PV:=.tup [.int (z.1:Nat),D4 z.2,.int (t:Nat)]
noncomputable def mid(b:sC):Nat->List PV
 |0=>[]
 |T+1=>mid b T++b.map (NI (T+1))
def Es(b:sC)(T:Nat):(mid b T).length=T*b.length:=by
 induction T with
 |zero=>simp[mid]
 |succ T I=>rw[mid,ci,I,ay,pi]
def u5{env:MR.Env}{ce:MR.Env->Option PV}{t:Nat}(l:sC)(h:∀x y:PV,∃e,gT [0,1] (.tup [x,y]) env=some e/\ce e=some (.tup [x,y,.int (t:Nat)])):
  fX env (gT [0,1]) iY ce (l.map Pc)=some (l.map (NI t)):=sS Pc _ l λz _=>h _ _
abbrev Xf(FP TP:PV)(a b c:sC)(k:Nat):MR.Env:=[some FP,some TP,some (.lst [.lst (a.map Pc),.lst (b.map Pc),.lst (c.map Pc)]),some (.lst (a.map (NI 0)++mid b k)),none]
theorem Ci{FP TP:PV}{a b c:sC}(ha:a.length<=8)(J:b.length<=8):∀n k,k+n<=4->cP (gN 4) [4] lg ((List.range' k n).map λk=>PV.int (((1:Nat)+k:Nat):Nat)) (Xf FP TP a b c k)=some (.nx (Xf FP TP a b c (k+n)))
 |0,k,_=>rfl
 |n+1,k,h=>by
  have ih:=Ci (FP:=FP) (TP:=TP) (c:=c) ha J n (k+1) (by omega);rw[List.range'_succ,bb,dq (env':=Xf FP TP a b c (k+1)),ih,show k+1+n=k+(n+1) by omega];have O:=u5 (env:=[none,none,some (.int ((1+k:Nat):Nat))]) (ce:=k_) (t:=1+k) b λx y=>⟨_,rfl,by simp[k_]⟩;have I:b.length<=1000000:=by omega
  have hm:=Es b k;have:k*b.length<=4*8:=Nat.mul_le_mul (by omega) J;have Y:a.length+(mid b k).length+b.length<=1000000:=by omega
  have U:mid b (k+1)=mid b k++b.map (NI (1+k)):=by rw[Nat.add_comm 1 k];rfl
  rw[Xf,Xf,U,←kQ];unfold lg;generalize k_=ce,1+k=z at *;simp[dB,MR.LO,I,O,Y]
section
variable {Z:Str->Prop}
def T8{w:Nat}{a b c:sC}(C:Ct Z l w a b c)(hl:l.length<=8){T:Nat}(hT:T<=4):lL [tP l,.int (T:Nat)]=some (.lst (a.map (NI 0)++mid b T++c.map (NI 0))):=by
 have hn:=C.n;have hc:iR [tP l]=some (.lst [.lst (a.map Pc),.lst (b.map Pc),.lst (c.map Pc)]):=by
  have:=C.run [];rw[cy]at this;unfold iR tP xP;dsimp only;rw[this];rfl
 have I:=Ci (FP:=tP l) (TP:=.int (T:Nat)) (a:=a) (b:=b) (c:=c) (by omega) (by omega) T 0 (by omega);generalize tP l=FP at *;have Y:=u5 (env:=[none,none]) (ce:=kZ) (t:=0) a λx y=>⟨_,rfl,by simp[kZ]⟩;have cC:=u5 (env:=[none,none]) (ce:=lq) (t:=0) c λx y=>⟨_,rfl,by simp[lq]⟩;have U:a.length<=1000000:=by omega
 have l2:c.length<=1000000:=by omega
 have hm:=Es b T;have:T*b.length<=4*8:=Nat.mul_le_mul hT (by omega);have l3:a.length+(mid b T).length+c.length<=1000000:=by omega
 have O:PM 1=true:=OU (by omega) (by omega);have J:PM ((T:Int)+1)=true:=OU (by omega) (by omega);have hr:fH 1 ((T:Int)+1)=(List.range' 0 T).map λk=>PV.int (((1:Nat)+k:Nat):Nat):=by
  unfold fH;rw[show((T:Int)+1 - 1).toNat=T by omega,p4];exact qh λk _=>by simp
 rw[Nat.zero_add]at I;suffices q:oO [some FP,some (.int (T:Nat)),none,none,none]=some (.rt (.lst (a.map (NI 0)++mid b T++c.map (NI 0)))) by
  unfold lL;generalize oO=B at *;simp[q]
 unfold oO;rw[bF (e:=[some FP,some (.int (T:Nat)),some (.lst [.lst (a.map Pc),.lst (b.map Pc),.lst (c.map Pc)]),none,none])];rotate_left
 ·generalize iR=m at *
  simp[hc]
 rw[bF (e:=Xf FP (.int (T:Nat)) a b c 0)];rotate_left
 ·rw[Xf,mid,cy]
  generalize kZ=ce at *;simp[MR.LO,U,Y]
 rw[bF (e:=Xf FP (.int (T:Nat)) a b c T)]
 ·unfold Xf
  generalize lq=ce at *;simp[MR.LO,l2,cC,l3]
 ·unfold Xf at I ⊢
  generalize lg=B' at *;simp only[Pj,RK,FN,zg,Nj,bE,lN,kF,oP,O,J,Bool.and_self,fT,hr];exact I
abbrev Bd:=Option (Str×Nat)
structure Rw where
 nm:Str
 bd:Bd
 bk:Option Nat
abbrev sB:=List Rw
noncomputable def LB:Bd->PV
 |none=>.DS
 |some x=>.tup [.str x.1,.int (x.2:Nat)]
noncomputable def OC:Option Nat->PV
 |none=>.DS
 |some k=>.int (k:Nat)
noncomputable def F7(r:Rw):PV:=.tup [.str r.nm,LB r.bd,OC r.bk]
structure ID(Z:Str->Prop)(rs:sB):Prop where
 n:rs.length<=47
 nm:∀r∈rs,Z r.nm
 bd:∀r∈rs,∀x,r.bd=some x->PyData.strOk x.1=true
 bk:∀(k:Nat) (r:Rw) (p:Nat),rs[k]?=some r->r.bk=some p->p<k/\r.bd=none/\∃q:Rw,rs[p]?=some q/\q.bk=none
noncomputable def ltr(x:Str):Bool:=decide (x∈(["a","b","c","z"]:rj))
def T9{x:Str}(h:x∈six):gQ [.str x]=some (.bl (ltr x)):=by
 have I:x.length=1:=by
  simp only[six,br,b6,fq]at h;rcases h with e|e|e|e|e|e<;>subst e<;>decide +kernel
 have hi:(!(Builtin.Str.occurrences ("abcdefghijklmnopqrstuvwxyz" : Str) x 0 ("abcdefghijklmnopqrstuvwxyz" : Str).length 1).isEmpty)=ltr x:=by
  simp only[six,br,b6,fq]at h;rcases h with e|e|e|e|e|e<;>subst e<;>decide +kernel
 have h1:JJ (.int 1) (.int 1)=some true:=by simp[JJ]
 unfold gQ sZ;rw[←hi];simp[I,h1]
def ZC(bd:Option Str)(t:Nat):Bd:=bd.map λx=>(x,if ltr x=true then t else 0)
def T_{I:Option Str}{t:Nat}(h:∀x,I=some x->x∈six):jF [Qb I,.int (t:Nat)]=some (LB (ZC I t)):=by
 unfold jF wH;cases I with
 |none=>simp[Qb,LB,ZC]
 |some x=>
  have J:=T9 (h x rfl);generalize gQ=m at *;cases q:ltr x<;>rw[q]at J<;>simp[Qb,LB,ZC,J,q]
abbrev Sf(FP TP:PV)(R:sB)(kvs:List (Key×PV)):MR.Env:=[some FP,some TP,some (.lst (R.map F7)),some (.dK kvs),none,none,none,none]
def Ua{FP TP:PV}{R:sB}{kvs:List (Key×PV)}{n t:Nat}{nm:Str}{I:Option Str}(Y:∀x,I=some x->x∈six)(hR:R.length<900)(hk:kvs.length<900):
  turn (gT [4,5,6]) [4,5,6,7] bJ (NI t (n,.rw nm I)) (Sf FP TP R kvs)=some (Sf FP TP (R++[⟨nm,ZC I t,none⟩]) (cT kvs (.inl (n:Int)) (.int (R.length:Nat)))):=by
 have h:=T_ (t:=t) Y;have J:R.length<1000000:=by omega
 have O:R.length<=1000000:=by omega
 have U:kvs.length<1000000:=by omega
 unfold bJ NI;generalize jF=m at *;simp only[D4,Sf,fk,bb,js,F7,OC];generalize LB (ZC I t)=BV,Qb I=BP at *;simp[dB,h,J,O,U]
def Ub{FP TP:PV}{R:sB}{kvs:List (Key×PV)}{n t r p:Nat}{q:Rw}(U:aV kvs (.inl (r:Int))=some (.int (p:Nat)))(O:R[p]?=some q)(Y:R.length<900):
  turn (gT [4,5,6]) [4,5,6,7] bJ (NI t (n,.as r)) (Sf FP TP R kvs)=some (Sf FP TP (R++[⟨q.nm,none,some p⟩]) kvs):=by
 have I:R.length<1000000:=by omega
 have J:Fm (R.map F7) (p:Int)=some (F7 q):=mJ (by rw[cp,O];rfl);have q:=e6;unfold bJ NI;simp only[D4,Sf,fk,bb,js,F7,OC,LB]at J ⊢;simp[dB,U,J,I,q]
structure RI(Z:Str->Prop)(P:Nat->Prop)(R:sB)(kvs:List (Key×PV)):Prop where
 o:ID Z R
 k:kvs.length<=R.length
 d:∀i,P i->∃(p:Nat) (q:Rw),aV kvs (.inl (i:Int))=some (.int (p:Nat))/\R[p]?=some q/\q.bk=none
def Et{R:sB}{x:Rw}(O:ID Z R)(hn:R.length<47)(h1:Z x.nm)(h2:∀y,x.bd=some y->PyData.strOk y.1=true)(h3:∀p,x.bk=some p->x.bd=none/\∃q:Rw,R[p]?=some q/\q.bk=none):ID Z (R++[x]):=by
 have J:∀{p:Nat}{q:Rw},R[p]?=some q->p<R.length:=λh=>(ap.mp h).1;have Y:∀r∈R++[x],r∈R\/r=x:=λr I=>by simpa using I
 refine⟨by simp;omega,λr I=>?_,λr I=>?_,λk r p I hp=>?_⟩
 ·rcases Y r I with z|z
  ·exact O.nm r z
  ·rw[z];exact h1
 ·rcases Y r I with z|z
  ·exact O.bd r z
  ·rw[z];exact h2
 ·rcases Nat.lt_trichotomy k R.length with z|z|z
  ·rw[dP z]at I
   obtain⟨k1,k2,q,k3,U⟩:=O.bk k r p I hp;exact⟨k1,k2,q,by rw[dP (J k3)];exact k3,U⟩
  ·subst z
   have e:x=r:=by simpa using I
   subst e;obtain⟨k2,q,k3,U⟩:=h3 p hp;exact⟨J k3,k2,q,by rw[dP (J k3)];exact k3,U⟩
  ·rw[eK (by simp;omega)]at I;cases I
theorem sec{FP TP:PV}{t:Nat}:∀(l:sC){S:oT}{P:Nat->Prop}{R:sB}{kvs:List (Key×PV)},Xe Z S l->(∀i∈S,P i)->RI Z P R kvs->R.length+l.length<=47->
  ∃O U,RI Z (λi=>P i\/i∈rN l) O U/\O.length=R.length+l.length/\∀rest,cP (gT [4,5,6]) [4,5,6,7] bJ (l.map (NI t)++rest) (Sf FP TP R kvs)=cP (gT [4,5,6]) [4,5,6,7] bJ rest (Sf FP TP O U)
 |[],S,P,R,kvs,_,_,I,_=>⟨R,kvs,⟨I.o,I.k,λi h=>h.elim (I.d i) λz=>(by cases z)⟩,rfl,λ_=>rfl⟩
 |(n,.rw nm bd)::l,S,P,R,kvs,o,hS,I,hl=>by
  simp only[cv]at hl;have hk:=I.k;obtain⟨_,YA⟩:=o.1.1.nm nm bd rfl;have I':RI Z (λi=>P i\/i=n) (R++[⟨nm,ZC bd t,none⟩]) (cT kvs (.inl (n:Int)) (.int (R.length:Nat))):=by
   refine⟨Et I.o (by omega) o.1.2 (λy Y=>?_) (λp hp=>by cases hp),?_,λi hi=>?_⟩
   ·cases bd with
    |none=>cases Y
    |some x=>cases Y;exact JM x (YA x rfl)
   ·have:=Cd kvs (.inl (n:Int)) (.int (R.length:Nat))
    simp;omega
   ·rw[yL]
    by_cases e:i=n
    ·subst e
     exact⟨_,⟨nm,ZC bd t,none⟩,bX rfl,by simp,rfl⟩
    ·obtain⟨p,q,k1,k2,k3⟩:=I.d i (hi.resolve_right e)
     exact⟨p,q,by rw[bt λz=>e (by have:=Sum.inl.inj z;omega)];exact k1,by rw[dP (ap.mp k2).1];exact k2,k3⟩
  obtain⟨O,U,J,jl,jr⟩:=sec (FP:=FP) (TP:=TP) l o.2 (P:=λi=>P i\/i=n) (λi hi=>(br.mp hi).elim .inr λz=>.inl (hS i z)) I' (by simp;omega);refine⟨O,U,⟨J.o,J.k,λi hi=>J.d i ?_⟩,by rw[jl];simp;omega,λrest=>?_⟩
  ·rcases hi with z|z
   ·exact .inl (.inl z)
   ·rcases br.mp (show i∈n::rN l from z)with z|z
    ·exact .inl (.inr z)
    ·exact .inr z
  ·rw[bb,og,dq (Ua YA (by omega) (by omega)),jr]
 |(n,.as r)::l,S,P,R,kvs,o,hS,I,hl=>by
  simp only[cv]at hl;obtain⟨p,q,k1,k2,k3⟩:=I.d r (hS r o.1);have I':RI Z P (R++[⟨q.nm,none,some p⟩]) kvs:=⟨Et I.o (by omega) (I.o.nm q (et k2)) (λy Y=>by cases Y) (λp' hp=>by cases hp;exact⟨rfl,q,k2,k3⟩),by have:=I.k;simp;omega,λi hi=>by
   obtain⟨p,q,j1,j2,j3⟩:=I.d i hi;exact⟨p,q,j1,by rw[dP (ap.mp j2).1];exact j2,j3⟩⟩
  obtain⟨O,U,J,jl,jr⟩:=sec (FP:=FP) (TP:=TP) l o.2 hS I' (by simp;omega);exact⟨O,U,J,by rw[jl];simp;omega,λrest=>by rw[bb,og,dq (Ub k1 k2 (by omega)),jr]⟩
 |(_,.op)::_,_,_,_,_,o,_,_,_=>o.elim
 |(_,.cl _ _)::_,_,_,_,_,o,_,_,_=>o.elim
theorem mdS{FP TP:PV}{a b:sC}(oa:Xe Z [] a)(ob:Xe Z (rN a) b):∀T,a.length+T*b.length<=47->
  ∃R kvs,RI Z (λi=>i∈rN a\/(0<T/\i∈rN b)) R kvs/\R.length=a.length+T*b.length/\∀rest,cP (gT [4,5,6]) [4,5,6,7] bJ (a.map (NI 0)++mid b T++rest) (Sf FP TP [] [])=cP (gT [4,5,6]) [4,5,6,7] bJ rest (Sf FP TP R kvs)
 |0,hl=>by
  obtain⟨R,kvs,J,Y,U⟩:=sec (FP:=FP) (TP:=TP) (t:=0) a (P:=λ_=>False) (R:=[]) (kvs:=[]) oa (λi hi=>by cases hi) ⟨⟨by simp,λr O=>(by cases O),λr O=>(by cases O),λk r p O=>(by simp at O)⟩,ax _,λi hi=>hi.elim⟩ (by simpa using hl);exact⟨R,kvs,⟨J.o,J.k,λi hi=>J.d i (.inr (hi.resolve_right λz=>absurd z.1 (fg _)))⟩,by simpa using Y,λrest=>by rw[mid,cy,U]⟩
 |T+1,hl=>by
  rw[pi]at hl;obtain⟨R,kvs,I,il,ir⟩:=mdS (FP:=FP) (TP:=TP) oa ob T (by omega);obtain⟨R',Mn,J,Y,U⟩:=sec (FP:=FP) (TP:=TP) (t:=T+1) b ob (λi hi=>.inl hi) I (by omega);exact⟨R',Mn,⟨J.o,J.k,λi hi=>J.d i (hi.elim (λz=>.inl (.inl z)) λz=>.inr z.2)⟩,by rw[Y,il,pi];omega,λrest=>by rw[mid,←kQ,kQ,ir,U]⟩
end
noncomputable def nQ(p:Pt):Bool:=decide (P9 p=(")" : Str))
noncomputable def eV(l:sA):List Nat:=match l.filter nQ with
 |.cl lo hi::_=>List.range' lo (hi+1 - lo)
 |_=>[1]
def Uc(hl:l.length<20):fM [tP l]=some (match l.filter nQ with|[]=>.DS|p::_=>D4 p):=by
 have I:=dX (env:=[none]) (g:=gN 0) (t:=fL) (f:=iB) D4 D4 nQ l λp _=>⟨[some (D4 p)],rfl,by
  obtain⟨r,e⟩:=NQ p;rw[e];unfold nQ;by_cases q:P9 p=(")" : Str)
  ·simp[fL,q]
  ·simp[fL,q],λ_=>by simp[iB]⟩
 have ht:tP l=.tup (l.map D4):=rfl;have O:l.length<=1000000:=by omega
 have J:(l.filter nQ).length<=1000000:=df (gy _ _) O;rw[ht];unfold fM sY;generalize fL=cc,iB=ce at *;have Y:(l.map D4).length<=1000000:=by rw[ay];exact O
 generalize l.map D4=PP at *;cases q:l.filter nQ with
 |nil=>
  rw[q]at I;simp only[js]at I;simp[MR.LO,Y,I]
 |cons p ps=>
  rw[q]at I J;have O0:(0:Int)<((ps.length:Int)+1):=by omega
  simp only[bb]at I;have U:ps.length+1<=1000000:=by simpa using J
  have MY:Fm (D4 p::ps.map D4) 0=some (D4 p):=lK (k:=0) rfl;simp[MR.LO,Y,I,O0,U,MY]
def Vj{p:Pt}(h:nQ p=true):∃lo hi,p=.cl lo hi:=by
 have h:=gX h;cases p with
 |cl lo hi=>exact⟨_,_,rfl⟩
 |op=>exact(e1 h).elim
 |as r=>exact(e3 h).elim
 |rw n b=>exact(e5 h).elim
structure LS(Z:Str->Prop)(f:sA):Prop where
 g:Gd f
 l:f.length<=8
 n:f≠[]
 z:∀n b,.rw n b∈f->Z n
section
variable {Z:Str->Prop}
def u9(h:LS Z l):(eV l=[1]/\l.filter nQ=[])\/∃lo hi r,l.filter nQ=.cl lo hi::r/\eV l=List.range' lo (hi+1 - lo)/\lo<=hi/\1<=hi/\hi<=4/\(iI l=false->1<=lo):=by
 obtain⟨w,a,b,c,C⟩:=h.g.ct (by have:=h.l;omega) h.z;cases q:l.filter nQ with
 |nil=>exact .inl ⟨by unfold eV;rw[q],rfl⟩
 |cons p r=>
  have I:=ef.mp (show p∈l.filter nQ by rw[q];exact bp);obtain⟨lo,hi,rfl⟩:=Vj I.2;obtain⟨h1,h2,J⟩:=C.cl lo hi I.1;refine .inr ⟨lo,hi,r,rfl,by unfold eV;rw[q],h1,h2,J,λz=>?_⟩;cases lo with
  |zero=>
   have:=nr.mp z _ I.1;exact absurd rfl this
  |succ k=>omega
def Cj(h:LS Z l):dN [tP l]=some (.lst ((eV l).map λk=>.int (k:Nat))):=by
 have J:=h.l;have I:=Uc (l:=l) (by omega);unfold dN uA;rcases u9 h with⟨e1,e2⟩|⟨lo,hi,r,e1,e2,h1,h2,h3,_⟩
 ·rw[e2]at I
  rw[e1];generalize tP l=FP,fM=m at *;simp[I]
 ·rw[e1]at I
  rw[e2];generalize tP l=FP,fM=m at *;have k1:(lo:Int)<=(hi:Int)+1:=by omega
  have k2:(hi:Int)+1<=1000000:=by omega
  have k3:((hi:Int)+1 - (lo:Int)).toNat=hi+1 - lo:=by omega
  simp[I,D4,k1,k2,k3]
def Eu(h:LS Z l):∀T∈eV l,∃Y,ID Z Y/\bZ [tP l,.int (T:Nat)]=some (.lst (Y.map F7)):=by
 have hl:=h.l;obtain⟨w,a,b,c,C⟩:=h.g.ct (by omega) h.z;have hn:=C.n;have ht:=u9 h;refineλT hT=>?_
 ·have O:T<=4/\(iI l=false->0<T):=by
   rcases ht with z|⟨lo,hi,r,_,e,_,_,h3,h4⟩
   ·rw[z.1,gc]at hT
    omega
   ·rw[e,List.mem_range'_1]at hT
    exact⟨by omega,λz=>by have:=h4 z;omega⟩
  have hc:=T8 C hl O.1;have:T*b.length<=4*b.length:=Nat.mul_le_mul_right _ O.1;obtain⟨R,kvs,I,il,ir⟩:=mdS (FP:=tP l) (TP:=.int (T:Nat)) C.oa C.ob T (by omega);obtain⟨U,Mn,J,jl,jr⟩:=sec (FP:=tP l) (TP:=.int (T:Nat)) (t:=0) c C.oc (λi hi=>by
   rcases eR.mp hi with z|z
   ·exact .inl z
   ·split at z
    ·cases z
    ·exact .inr ⟨O.2 (by simp_all),z⟩) I (by omega)
  refine⟨U,J.o,?_⟩;have lp:cP (gT [4,5,6]) [4,5,6,7] bJ (a.map (NI 0)++mid b T++c.map (NI 0)) (Sf (tP l) (.int (T:Nat)) [] [])=some (.nx (Sf (tP l) (.int (T:Nat)) U Mn)):=by
   have:=jr [];rw[cy]at this;rw[ir,this];rfl
  have hb:iZ [some (tP l),some (.int (T:Nat)),none,none,none,none,none,none]=some (.rt (.lst (U.map F7))):=by
   unfold iZ;generalize lL=m,bJ=B,a.map (NI 0)++mid b T++c.map (NI 0)=CP at *;simp only[Sf,js]at lp;simp[hc,MR.LO,lp]
  unfold bZ;generalize iZ=B at *;simp[hb]
end
def N5{x y:Bd}(J:∀z,x=some z->PyData.strOk z.1=true)(O:∀z,y=some z->PyData.strOk z.1=true):JJ (LB x) (LB y)=some (decide (x=y)):=by
 have I:∀{a:Str}{i:Nat},PyData.strOk a=true->SeqAt.shaped (.tuple [.str a,.int (i:Nat)])=true:=λ{a i} h=>by simp[SeqAt.shaped,PyData.canLay0,PyData.canLayAll0,PyData.depth,PyData.depthAll,h]
 have U:SeqAt.shaped .none=true:=rfl;rcases x with _|⟨a,i⟩<;>rcases y with _|⟨c,j⟩
 ·rfl
 ·simp[LB,JJ,TL,Sm,toD,fG,U,I (i:=j) (O _ rfl),PyData.eqv]
 ·simp[LB,JJ,TL,Sm,toD,fG,U,I (i:=i) (J _ rfl),PyData.eqv]
 ·have e:((i:Int) == (j:Int))=decide (i=j):=by by_cases h:i=j<;>simp[h]<;>omega
  simp[LB,JJ,TL,Sm,toD,fG,I (i:=i) (J _ rfl),I (i:=j) (O _ rfl),PyData.eqv,PyData.eqvAll,e,Bool.decide_and]
  try rfl
noncomputable def Qr(rs:sB)(k:Nat)(bd:Bd):List Nat:=if bd=none then[]else(List.range k).filter λj=>decide ((rs.getD j ⟨⟨#[]⟩,none,none⟩).bd=bd)
variable {rs:sB}
def Hc{k:Nat}{r:Rw}(h:rs[k]?=some r):Fm (rs.map F7) (k:Int)=some (F7 r):=mJ (by rw[cp,h];rfl)
def Ud{Z:Str->Prop}(O:ID Z rs){k:Nat}{r:Rw}(h:rs[k]?=some r):dZ [.lst (rs.map F7),.int (k:Nat)]=some (.lst ((Qr rs k r.bd).map λj=>.int (j:Nat))):=by
 have hk:=(ap.mp h).1;have hn:=O.n;have ha:=Hc h;have hm:r∈rs:=et h;have i1:Fm [PV.str r.nm,LB r.bd,OC r.bk] 1=some (LB r.bd):=rfl;cases hb:r.bd with
 |none=>
  rw[hb]at i1;generalize rs.map F7=RS at *;simp[dZ,ji,ha,F7,hb,i1,LB,Qr]
 |some x=>
  rw[hb]at i1;have hr:MR.PM (k:Int)=true:=MR.OU (by omega) (by omega);have hq:(fH 0 (k:Int)).length<=1000000:=by rw[Br];simp;omega
  have hc:fX [none,some (LB (some x)),some (.lst (rs.map F7))] (gN 0) gU gR (fH 0 (k:Int))=some ((Qr rs k (some x)).map λj=>.int (j:Nat)):=by
   rw[Br];unfold Qr;rw[bt (by simp)];refine dX (λj:Nat=>PV.int (j:Nat)) (λj:Nat=>PV.int (j:Nat)) _ _ λj hj=>⟨_,rfl,?_,λ_=>by simp[gR]⟩;have hj:=fz.mp hj;have I:j<rs.length:=by omega
   have hg:rs[j]?=some rs[j]:=aw I;have J:=Hc hg;have Y:rs[j]∈rs:=kf I;have he:=N5 (x:=rs[j].bd) (y:=some x) (O.bd _ Y) (λz hz=>O.bd r hm z (by rw[hb];exact hz));have U:rs.getD j ⟨⟨#[]⟩,none,none⟩=rs[j]:=by simp[I]
   have i2:Fm [PV.str rs[j].nm,LB rs[j].bd,OC rs[j].bk] 1=some (LB rs[j].bd):=rfl;rw[U];generalize rs.map F7=RS,LB (some x)=BX at *;simp[gU,J,F7,i2,he]
  generalize rs.map F7=RS,(Qr rs k (some x)).map (λj=>PV.int (j:Nat))=BB at *;have hnn:¬ LB (some x)=.DS:=by simp[LB]
  simp[dZ,ji,ha,F7,hb,i1,hr,hq,hc]
variable {f:sA}
def Ck{Z:Str->Prop}(h:LS Z f):(eV f).length<=5:=by
 rcases u9 h with z|⟨lo,hi,r,_,e,z⟩
 ·rw[z.1];decide
 ·rw[e,List.length_range'];omega
def Ue{Z:Str->Prop}(h:LS Z f)(n:Nat):cJ [tP f,.int (n:Nat)]=some .DS\/∃rs,ID Z rs/\rs.length=n/\cJ [tP f,.int (n:Nat)]=some (.lst (rs.map F7)):=by
 have ht:=Cj h;have J:((eV f).map λk=>PV.int (k:Nat)).length<=1000000:=by
  have:=Ck h;rw[ay];omega
 have hz:=Eu h;generalize tP f=FP at *;have U:∀I:List Nat,(∀T∈I,∃rs,ID Z rs/\bZ [FP,.int (T:Nat)]=some (.lst (rs.map F7)))->cP (gN 2) [2,3] bO (I.map λk=>.int (k:Nat)) [some FP,some (.int (n:Nat)),none,none]=some (.nx [some FP,some (.int (n:Nat)),none,none])\/∃rs,ID Z rs/\rs.length=n/\cP (gN 2) [2,3] bO (I.map λk=>.int (k:Nat)) [some FP,some (.int (n:Nat)),none,none]=some (.rt (.lst (rs.map F7))):=by
  intro I;induction I with
  |nil=>exactλ_=>.inl rfl
  |cons T I ih=>
   intro hT;obtain⟨rs,O,e⟩:=hT T bp;have Y:(rs.map F7).length=rs.length:=ay ..;have hl:(rs.map F7).length<=1000000:=by have:=O.n;omega
   by_cases q:rs.length=n
   ·refine .inr ⟨rs,O,q,?_⟩
    rw[q]at Y;rw[bb];generalize rs.map F7=R at *;unfold cP bO;generalize bZ=m at *;rw[←Y];simp[e,hl]
   ·have t:turn (gN 2) [2,3] bO (.int (T:Nat)) [some FP,some (.int (n:Nat)),none,none]=some [some FP,some (.int (n:Nat)),none,none]:=by
     have q':¬ ((rs.length:Int)=(n:Int)):=by omega
     generalize rs.map F7=R at *;unfold bO;generalize bZ=m at *;simp[dB,e,hl,Y,q,q',JJ]
    rw[bb,dq t];exact ih λT h=>hT T (aI _ h)
 unfold cJ nq;rcases U (eV f) hz with U|⟨rs,O,q,U⟩
 ·left
  generalize bO=B,(eV f).map (λk=>PV.int (k:Nat))=TT,dN=m at *;simp[ht,MR.LO,J,U]
 ·refine .inr ⟨rs,O,q,?_⟩
  generalize bO=B,(eV f).map (λk=>PV.int (k:Nat))=TT,dN=m at *;simp[ht,MR.LO,J,U]
def II:Rw:=⟨⟨#[]⟩,none,none⟩
noncomputable def EW(rs:sB)(k:Nat):Nat:=(rs.getD k II).bk.getD k
def Pd(rs:sB)(k:Nat):Bd:=(rs.getD k II).bd
noncomputable def isB(rs:sB)(k j:Nat):Bool:=decide (EW rs k=EW rs j)||(!decide (Pd rs (EW rs k)=none)&&decide (Pd rs (EW rs k)=Pd rs (EW rs j)))
def p_{k:Nat}(h:k<rs.length):rs[k]?=some (rs.getD k II):=by simp[h]
def Cm{k:Nat}(h:k<rs.length):Fm (rs.map F7) (k:Int)=some (.tup [.str (rs.getD k II).nm,LB (rs.getD k II).bd,OC (rs.getD k II).bk]):=Hc (p_ h)
section
variable {Z:Str->Prop}
def wM(O:ID Z rs){k:Nat}(h:k<rs.length):EW rs k<rs.length:=by
 unfold EW;cases e:(rs.getD k II).bk with
 |none=>exact h
 |some p=>have:=(O.bk k _ p (p_ h) e).1;show p<_;omega
def N6(O:ID Z rs){k:Nat}(h:k<rs.length):∀z,Pd rs k=some z->PyData.strOk z.1=true:=O.bd _ (et (p_ h))
def Ug(x:Bd):iG (LB x)=decide (x=none):=by cases x<;>rfl
variable {rs:sB}{k j:Nat}
def atZ(x y z:PV):Fm [x,y,z] 2=some z:=rfl
def qQ(h:k<rs.length):eY [.lst (rs.map F7),.int (k:Nat)]=some (.int (EW rs k:Nat)):=by
 have a:=Cm h;unfold EW;cases e:(rs.getD k II).bk<;>rw[e]at a<;>generalize rs.map F7=I at*<;> simp[eY,uC,a,atZ,OC]
def Uh(a b:Nat):JJ (.int (a:Nat)) (.int (b:Nat))=some (decide (a=b)):=by
 have e:((a:Int)=b)↔a=b:=by omega
 by_cases h:a=b
 ·subst h;simp[JJ]
 ·have h':¬ (a:Int)=b:=λz=>h (e.mp z)
  simp[JJ,h,h']
def Ew(h:k<rs.length)(I:j<rs.length):gq [.lst (rs.map F7),.int (k:Nat),.int (j:Nat)]=some (.bl (decide (EW rs k=EW rs j))):=by
 have a:=qQ h;have b:=qQ I;have e:=Uh (EW rs k) (EW rs j);generalize rs.map F7=J at *;simp[gq,uD,a,b,e]
def MT(O:ID Z rs)(h:k<rs.length)(I:j<rs.length):gW [.lst (rs.map F7),.int (k:Nat),.int (j:Nat)]=some (.bl (isB rs k j)):=by
 have a:=qQ h;have b:=qQ I;have s:=Ew h I;have U:=Cm (wM O h);have b1:=Cm (wM O I);have i1:∀x y z:PV,Fm [x,y,z] 1=some y:=λ_ _ _=>rfl;have e:=N5 (N6 O (wM O h)) (N6 O (wM O I));have J:=Ug (Pd rs (EW rs k));unfold Pd at e J;unfold isB Pd;generalize rs.map F7=RS,LB (rs.getD (EW rs k) II).bd=B1,LB (rs.getD (EW rs j) II).bd=B2,decide ((rs.getD (EW rs k) II).bd=none)=c1,decide ((rs.getD (EW rs k) II).bd=(rs.getD (EW rs j) II).bd)=c2,decide (EW rs k=EW rs j)=Y at *;cases Y<;>cases c1<;>simp[gW,tD,a,b,s,U,b1,i1,e,J,-iG]
end
abbrev m0:PV:=.tup [.tup [.tup [.str "x",.str "xx"],.bl false],.tup [.tup [.str "u-"],.bl true]]
def Ui:PM=λi=>decide (-4611686018427387904<=i/\i<4611686018427387904):=by
 funext i
 unfold PM;congr
def cw:bj [m0,m0]=some .DS:=by
 unfold bj cN p6 nu tu pZ pY iR2;rw[Ui];kernel_rfl
abbrev SH:=List (Key×PV)
section
variable {Z:Str->Prop}{MD:SH}{EX DU:sB}{k:Nat}{one other:sA}
def Uj{j:Nat}(h:j∈Qr DU k (Pd DU k)):j<k:=by
 unfold Qr at h;split at h
 ·cases h
 ·exact fz.mp (ef.mp h).1
def Qw(rs:sB)(k:Nat)(x:Bd):(Qr rs k x).length<=k:=by
 unfold Qr;split
 ·exact cm _
 ·exact df (gy _ _) (by simp)
def Uk:(rs.getD k II).bd=Pd rs k:=rfl
def Has(Z:Str->Prop)(MD:SH):Prop:=∀a,Z a->aV MD (.inr a)=some m0
def M6(M:Has Z MD)(O1:ID Z EX)(Y:ID Z DU)(hl:DU.length=EX.length)(hk:k<EX.length):
  ∃x,dO [.dK MD,.lst (EX.map F7),.lst (DU.map F7),.int (k:Nat)]=some x:=by
 have J:k<DU.length:=by omega
 have a1:=Cm hk;have a2:=Cm J;have n1:(EX.map F7).length=EX.length:=ay ..;have l1:EX.length<=1000000:=by have:=O1.n;omega
 have i0:∀x y z:PV,Fm [x,y,z] 0=some x:=λ_ _ _=>rfl;have i2:∀x y z:PV,Fm [x,y,z] 2=some z:=λ_ _ _=>rfl;have eb:=Ud Y (p_ J);rw[Uk]at eb;have lb:((Qr DU k (Pd DU k)).map λj=>PV.int (j:Nat)).length<=1000000:=by
  have:=Qw DU k (Pd DU k);have:=Y.n;rw[ay];omega
 have hc:fX [none,some (.lst (EX.map F7)),some (.int (k:Nat))] (gN 0) (tN (tV (bh gW (DD 1 (DD 2 (DD 0 aK)))))) (bV 0) ((Qr DU k (Pd DU k)).map λj=>PV.int (j:Nat))=some (((Qr DU k (Pd DU k)).filter λj=>!isB EX k j).map λj=>.int (j:Nat)):=by
  refine dX (λj:Nat=>PV.int (j:Nat)) (λj:Nat=>PV.int (j:Nat)) _ _ λj hj=>⟨[some (.int (j:Nat)),some (.lst (EX.map F7)),some (.int (k:Nat))],rfl,?_,λ_=>rfl⟩;have U:=MT O1 hk (show j<EX.length by have:=Uj hj;omega);generalize EX.map F7=RS at *;simp[U]
 have nm:∀{rs:sB},ID Z rs->k<rs.length->aV MD (.inr (rs.getD k II).nm)=some m0:=λO h=>M _ (O.nm _ (et (p_ h)));have hs7:Sb bj [.dK MD,.str (EX.getD k II).nm,.str (DU.getD k II).nm]=some .DS:=by
  show((aV MD (.inr (EX.getD k II).nm)).bind λx=>(aV MD (.inr (DU.getD k II).nm)).bind λy=>bj [x,y])=_;rw[nm O1 hk,nm Y J];exact cw
 have ag:∀b,(DU.getD k II).bk=some b->gq [.lst (EX.map F7),.int (k:Nat),.int (b:Nat)]=some (.bl (decide (EW EX k=EW EX b))):=λb U=>Ew hk (by have:=(Y.bk k _ b (p_ J) U).1;omega);generalize ((Qr DU k (Pd DU k)).filter λj=>!isB EX k j)=FR,(Qr DU k (Pd DU k)).map (λj=>PV.int (j:Nat))=BF at *;rw[←n1]at l1;generalize EX.map F7=I,DU.map F7=R2,LB (EX.getD k II).bd=q1,LB (DU.getD k II).bd=q2,(EX.getD k II).nm=nm1,(DU.getD k II).nm=nm2,OC (EX.getD k II).bk=k1 at *;suffices h:∃x,fbF bj (b1 F6 (bV 2)) (b2 D6 (b2 D6 (bV 3) (bV 4)) (DC 2)) (b2 D6 (b2 D6 (bV 2) (bV 4)) (DC 0)) (b2 D6 (b2 D6 (bV 3) (bV 4)) (DC 0)) lA [some (.dK MD),none,some (.lst I),some (.lst R2),some (.int (k:Nat)),none,none,none,none]=some (.rt x) by
  obtain⟨x,h⟩:=h;refine⟨x,?_⟩;unfold dO miF;dsimp only;rw[h];rfl
 have sq:∀{f g:MR.Env->Option Out}{env e:MR.Env},f env=some (.nx e)->(∃x,g e=some (.rt x))->∃x,aN f g env=some (.rt x):=λh1 ⟨x,h2⟩=>⟨x,(bF h1).trans h2⟩;unfold fbF;refine sq (e:=[some (.dK MD),none,some (.lst I),some (.lst R2),some (.int (k:Nat)),some (.int (I.length:Nat)),none,none,none]) (by simp[l1]) ?_;refine sq (e:=[some (.dK MD),none,some (.lst I),some (.lst R2),some (.int (k:Nat)),some (.int (I.length:Nat)),some (OC (DU.getD k II).bk),none,none]) (by simp[a2,i2]) ?_;refine sq (e:=[some (.dK MD),none,some (.lst I),some (.lst R2),some (.int (k:Nat)),some (.int (I.length:Nat)),some (OC (DU.getD k II).bk),some .DS,none]) (by simp[a1,a2,i0,hs7]) ?_;unfold lA;refine sq (e:=[some (.dK MD),none,some (.lst I),some (.lst R2),some (.int (k:Nat)),some (.int (I.length:Nat)),some (OC (DU.getD k II).bk),some .DS,none]) (by simp) ?_;refine sq (e:=[some (.dK MD),none,some (.lst I),some (.lst R2),some (.int (k:Nat)),some (.int (I.length:Nat)),some (OC (DU.getD k II).bk),some .DS,some (.lst (FR.map λj=>.int (j:Nat)))]) (by simp[eb,lb,hc]) ?_;cases FR with
 |cons j r=>
  have i:Fm (PV.int (j:Nat)::r.map λj=>PV.int (j:Nat)) 0=some (.int (j:Nat)):=mJ (j:=0) rfl;exact⟨_,uo (by simp[i];rfl)⟩
 |nil=>
  refine sq (e:=[some (.dK MD),none,some (.lst I),some (.lst R2),some (.int (k:Nat)),some (.int (I.length:Nat)),some (OC (DU.getD k II).bk),some .DS,some (.lst [])]) (by simp) ?_;cases U:(DU.getD k II).bk with
  |none=>exact⟨_,by simp[OC];rfl⟩
  |some b=>
   have hs:=ag b U;by_cases e:EW EX k=EW EX b
   ·exact⟨_,by simp[OC,hs,e];rfl⟩
   ·exact⟨_,by simp[OC,hs,e];rfl⟩
theorem JP(M:Has Z MD)(J:ID Z EX)(I:ID Z DU)(O:DU.length=EX.length):∀l:List Nat,(∀k∈l,k<EX.length)->∃x,Z6 dO (.dK MD) (.lst (EX.map F7)) (.lst (DU.map F7)) l=some x
 |[],_=>⟨_,rfl⟩
 |k::r,h=>by
  obtain⟨x,Y⟩:=M6 M J I O (h k bp);obtain⟨y,hy⟩:=JP M J I O r λj U=>h j (aI _ U);unfold Z6;rw[Y,hy,bE];split
  ·exact⟨_,rfl⟩
  ·exact⟨_,rfl⟩
theorem JQ(M:Has Z MD)(h1:LS Z one)(h2:LS Z other):∀l:List Nat,(∀T∈l,T∈eV one)->∃x,fwT bZ cJ dO (.dK MD) (tP one) (tP other) (l.map λk=>.int (k:Nat))=some x
 |[],_=>⟨_,rfl⟩
 |T::r,h=>by
  obtain⟨y,Y⟩:=JQ M h1 h2 r λj J=>h j (aI _ J);obtain⟨rs,I,hr⟩:=Eu h1 T (h T bp);have hn:=I.n;have n1:(rs.map F7).length=rs.length:=ay ..;rw[bb];unfold fwT;rw[hr,bE];dsimp only;rw[n1,bX (by omega)];rcases Ue h2 rs.length with q|⟨rs',O2,q,e⟩
  ·rw[q];exact⟨_,rfl⟩
  ·obtain⟨x,O⟩:=JP M I O2 q (List.range rs.length) λk U=>fz.mp U
   rw[e,bE,bt (by simp),O,bE,Y];split
   ·exact⟨_,rfl⟩
   ·exact⟨_,rfl⟩
end
noncomputable def In(MD:SH)(p:Pt):Bool:=match p with
 |.rw nm _=>(aV MD (.inr nm)).isSome
 |_=>true
section
variable {Z:Str->Prop}{MD:SH}{one other:sA}{FP:PV}
def Ey{p:Pt}(h:In MD p=true):aX [some (.dK MD),some FP,some (D4 p)]=some (.nx [some (.dK MD),some FP,some (D4 p)])/\aY [some (.dK MD),some FP,some (D4 p)]=none:=by
 cases p with
 |op=>constructor<;>simp[aX,aY,D4,fm e4]
 |cl lo hi=>constructor<;>simp[aX,aY,D4,fm e5]
 |as r=>constructor<;>simp[aX,aY,D4,e6]
 |rw nm J=>
  obtain⟨m,I⟩:=kq.mp (show(aV MD (.inr nm)).isSome=true from h);constructor<;>simp[aX,aY,D4,pW,I]
def Vk{p:Pt}(h:In MD p=false):aY [some (.dK MD),some FP,some (D4 p)]=some (16,none):=by
 cases p with
 |op=>cases h
 |cl lo hi=>cases h
 |as r=>cases h
 |rw nm J=>
  have I:aV MD (.inr nm)=none:=Option.isNone_iff_eq_none.mp (by cases q:aV MD (.inr nm)<;>simp_all [In]);simp[aY,D4,pW,I]
def N7(f:sA):bD [.dK MD,tP f]=if f.all (In MD)=true then none else some (16,none):=by
 have lx:∀l:List Pt,mF (gN 2) [2] aX aY (l.map D4) [some (.dK MD),some (tP f),none]=if l.all (In MD)=true then none else some (16,none):=by
  intro l;induction l with
  |nil=>rfl
  |cons p l Y=>
   rw[bb,iN];cases I:In MD p with
   |false=>
    have t:=Vk (FP:=tP f) I;generalize aY=J at *;simp[mF,t]
   |true=>
    obtain⟨U,O⟩:=Ey (FP:=tP f) I;generalize aY=J,aX=B at *;simp[mF,U,O,Y]
 have lx:=lx f;have I:tP f=.tup (f.map D4):=rfl;unfold bD lY;rw[I]at lx ⊢;generalize f.map D4=PP,aX=B,aY=J at *;simp[MR.LO,lx]
def Cp(h:f.all (In MD)=true):bB [.dK MD,tP f]=some .DS/\bD [.dK MD,tP f]=none:=by
 have J:=uz (g:=gN 2) (ds:=[2]) (body:=aX) (env:=[some (.dK MD),some (tP f),none]) D4 f (λp I=>by
  have t:=(Ey (FP:=tP f) (eS.mp h p I)).1;generalize aX=B at *;simp[dB,t])
 have I:tP f=.tup (f.map D4):=rfl;refine⟨?_,by rw[N7,bX h]⟩;unfold bB lX;rw[I]at J ⊢;generalize f.map D4=O,aX=B at *;simp[MR.LO,J]
def JR(h:f.all (In MD)=false):bD [.dK MD,tP f]=some (16,none):=by rw[N7,bt (by rw[h];decide)]
def JS(M:Has Z MD)(h:LS Z f):f.all (In MD)=true:=eS.mpr λp J=>by
 cases p with
 |rw nm I=>unfold In;dsimp only;rw[M nm (h.z nm I J)];rfl
 |_=>rfl
def N8(M:Has Z MD)(h1:LS Z one)(h2:LS Z other):bK [tP one,tP other,.dK MD]=some (.int 0):=by
 obtain⟨O,a2⟩:=Cp (JS M h1);obtain⟨J,YA⟩:=Cp (JS M h2);obtain⟨x,Y⟩:=JQ M h1 h2 (eV one) λ_ h=>h;have ht:=Cj h1;have hl:((eV one).map λk=>PV.int (k:Nat)).length<=1000:=by rw[ay];have:=Ck h1;omega
 have hw:cO [tP one,tP other,.dK MD]=some x:=by
  unfold cO G3;dsimp only;rw[O,bE,J,bE,ht,bE];dsimp only;rw[bX hl,Y]
 have I:cu [tP one,tP other,.dK MD]=none:=by
  unfold cu j8;generalize tP one=X1,tP other=X2,bB=B,bD=U at *;simp[O,a2,YA]
 unfold bK gY fY fZ;generalize tP one=X1,tP other=X2,cO=B,cu=U at *;simp[hw,I]
def Ul(h:one.all (In MD)=false\/other.all (In MD)=false):bK [tP one,tP other,.dK MD]=some (.int 1):=by
 have I:cu [tP one,tP other,.dK MD]=some (16,none):=by
  unfold cu j8;cases q:one.all (In MD)with
  |false=>
   have a:=JR q;generalize tP one=U,tP other=Y,bB=B,bD=O at *;simp[a]
  |true=>
   have a:=JR (h.resolve_left (by rw[q];decide));obtain⟨J,YA⟩:=Cp q;generalize tP one=U,tP other=Y,bB=B,bD=O at *;simp[a,J,YA]
 unfold bK gY fY fZ;generalize tP one=U,tP other=Y,cO=B,cu=O at *;simp[I]
end
noncomputable def xX:Pt->Bool
 |.rw _ _=>true
 |_=>false
noncomputable def nmO:Pt->Str
 |.rw n _=>n
 |_ => "("
noncomputable def SU(f:sA):List Str:=(f.filter xX).map nmO
def JT{n:Str}{b:Option Str}(h:.rw n b∈f):n∈SU f:=gu.mpr ⟨_,ef.mpr ⟨h,rfl⟩,rfl⟩
def JV{n:Str}(h:n∈SU f):∃b,.rw n b∈f:=by
 obtain⟨p,I,e⟩:=gu.mp h;obtain⟨h1,h2⟩:=ef.mp I;cases p<;>first|(cases h2;done)|skip
 cases e;exact⟨_,h1⟩
def Cq(hl:f.length<=8):gj [tP f]=some (.lst ((SU f).map .str)):=by
 have O:=dX (env:=[none]) (g:=gN 0) (t:=cQ) (f:=gC) D4 (λp=>.str (nmO p)) xX f λp _=>⟨[some (D4 p)],rfl,by
  cases p with
  |op=>simp[cQ,D4,xX,fm e4]
  |cl lo hi=>simp[cQ,D4,xX,fm e5]
  |as r=>simp[cQ,D4,xX,e6]
  |rw n b=>simp[cQ,D4,xX],λh=>by
  cases p with
  |rw n b=>
   have i1:Fm [PV.str "row",.str n,Qb b] 1=some (.str n):=rfl;simp[gC,D4,nmO,i1]
  |_=>cases h⟩
 have J:tP f=.tup (f.map D4):=rfl;have I:(f.map D4).length<=1000000:=by rw[ay];omega
 unfold gj rC SU;rw[J,qV];generalize cQ=Y,gC=ce,f.map D4=U at *;simp[MR.LO,I,O]
def N_(g:Gd f){n:Str}(h:n∈SU f):n∈ET:=by
 obtain⟨b,I⟩:=JV h;exact((NZ g _ I).nm n b rfl).1
set_option tactic.hygienic true in def Ez{D:SH}{k:Key}{v:PV}{x:Key×PV}(h:x∈cT D k v):x∈D\/x=(k,v):=by
 unfold cT at h;split at h
 ·obtain⟨y,I,e⟩:=gu.mp h
  split at e
  ·rename_i q
   exact .inr (by rw[←e,q])
  ·exact .inl (e▸I)
 ·rcases eR.mp h with z|z
  ·exact .inl z
  ·exact .inr (gc.mp z)
def Cr{D:SH}(h:∀x∈D,x.2=m0){x:Key×PV}(I:x∈D):aV D x.1=some m0:=by
 unfold aV;cases q:D.find? λy=>decide (y.1=x.1)with
 |none=>exact absurd (fe rfl) (iq.mp q x I)
 |some y=>rw[iL,h y (nh q)]
def Vl:Sm m0 m0=some true:=Bu (n:=3) (by
 have k1:PyData.strOk ("x" : Str)=true:=by decide +kernel
 have k2:PyData.strOk ("xx" : Str)=true:=by decide +kernel
 have k3:PyData.strOk ("u-" : Str)=true:=by decide +kernel
 simp[m0,HE,k1,k2,k3]) (by decide)
structure DOk(L:rj)(D:SH):Prop where
 v:∀x∈D,x.2=m0
 k:∀x∈D,∃n∈L,x.1=.inr n
 n:D.length<=L.length
def Few(L:rj)(D F:SH):Prop:=DOk L F/\F.length<=D.length/\(F=D\/(F.length<D.length/\∃n∈L,aV F (.inr n)=none))
def M7{L:rj}{D F:SH}(hL:L.length<=16)(J:Few L D F){S X1 X2:PV}{DP:PV}(c:Int):∃F',Few L D F'/\turn (gN 6) [6] jk (.int c) [some S,some X1,some X2,some DP,none,some (.dK F),none,none]=some [some S,some X1,some X2,some DP,none,some (.dK F'),none,none]:=by
 obtain⟨O,I,hF⟩:=J;have hFn:=O.n;by_cases h1:0<c%3
 ·cases hq:F with
  |nil=>
   rw[hq]at O I hF;refine⟨[],⟨O,I,hF⟩,?_⟩;simp[dB,jk,h1]
  |cons x r=>
   have O0:0<F.length:=by rw[hq];simp
   have q1:=pw (c / 3) (b:=(F.length:Int)) (by omega);have q2:=mP (c / 3) (b:=(F.length:Int)) (by omega);obtain⟨i,hi,ei⟩:∃i:Nat,i<F.length/\c / 3%(F.length:Int)=i:=⟨(c / 3%(F.length:Int)).toNat,by omega,by omega⟩;have hm:F[i]∈F:=kf hi;obtain⟨n,hn,ek⟩:=O.k _ hm;have MY:Fm (F.map λY=>qz Y.1) (i:Int)=some (.str n):=mJ (by rw[cp,aw hi,iL,ek];rfl);have hlk:aV F (.inr n)=some m0:=ek▸Cr O.v hm;have L5:F.isEmpty=false:=by rw[hq];rfl
   have UM:(0:Int)<(F.length:Int):=by omega
   have FA:(F.filter λY=>decide (Y.1≠.inr n)).length<F.length:=by
    rw[List.length_filter_lt_length_iff_exists];exact⟨_,hm,by simp[ek]⟩
   rw[←hq];refine⟨F.filter λY=>decide (Y.1≠.inr n),⟨⟨λx U=>O.v x (ef.mp U).1,λx U=>O.k x (ef.mp U).1,by omega⟩,by omega,.inr ⟨by omega,n,hn,?_⟩⟩,?_⟩
   ·unfold aV
    rw[iq.mpr λx U=>by have:=(ef.mp U).2;simpa using this];rfl
   ·clear hq hm ek
    have Sr:F.length<=1000000:=by omega
    have hne':¬ F=[]:=λz=>by rw[z]at L5;cases L5
    simp[dB,jk,h1,hne',O0,UM,ei,MY,hlk]
 ·refine⟨F,⟨O,I,hF⟩,?_⟩
  simp[dB,jk,h1]
def M8{L:rj}{D:SH}{S I J:PV}{n:Str}(h:D.length<1000):turn (gN 4) [4] nM (.str n) [some S,some I,some J,some (.dK D),none,none,none,none]=some [some S,some I,some J,some (.dK (cT D (.inr n) m0)),none,none,none,none]:=by
 have h':D.length<1000000:=by omega
 simp[dB,nM,h',m0]
def EY(I:rL)(a b:Nat):∃cs:List Int,gH (I.map PV.int) (some (a:Int)) (some (b:Int))=cs.map PV.int/\cs.length<=b - a:=by
 refine⟨(I.drop (HT.EA I.length 0 (some (a:Int)))).take (HT.EA I.length I.length (some (b:Int)) - HT.EA I.length 0 (some (a:Int))),?_,?_⟩
 ·unfold gH;simp[List.map_drop,List.map_take]
 ·rw[HT.Po,HT.Po];simp;omega
def Qx(I:rL)(b:Nat):∃cs:List Int,gH (I.map PV.int) none (some (b:Int))=cs.map PV.int:=by
 refine⟨(I.drop (HT.EA I.length 0 none)).take (HT.EA I.length I.length (some (b:Int)) - HT.EA I.length 0 none),?_⟩;unfold gH;simp[List.map_drop,List.map_take]
def UN(ns:rL)(h:ns.length<=63):wK [.frz (ns.map PV.int)]=some (.bl true):=by
 obtain⟨a1,e1,l1⟩:=EY ns 3 9;obtain⟨a2,e2,l2⟩:=EY ns 9 15;obtain⟨a3,e3⟩:=Qx ns 2;have e1:gH (ns.map PV.int) (some 3) (some 9)=a1.map PV.int:=e1;have e2:gH (ns.map PV.int) (some 9) (some 15)=a2.map PV.int:=e2;have e3:gH (ns.map PV.int) none (some 2)=a3.map PV.int:=e3;obtain⟨one,⟨o1,o2,o3⟩,ho⟩:=Ep (cs:=a1) (by omega);obtain⟨other,⟨p1,p2,p3⟩,hp⟩:=Ep (cs:=a2) (by omega);obtain⟨L,hL⟩:∃L,L=SU one++SU other:=⟨_,rfl⟩;have ll:∀{f:sA},f.length<=8->(SU f).length<=8:=λh=>by
  unfold SU;rw[ay];exact df (gy _ _) h
 have hLl:L.length<=16:=by have:=ll o2;have:=ll p2;rw[hL,ci];omega
 have h1:LS (·∈L) one:=⟨o1,o2,o3,λn b hb=>by rw[hL];exact g0 _ (JT hb)⟩;have h2:LS (·∈L) other:=⟨p1,p2,p3,λn b hb=>by rw[hL];exact cE _ (JT hb)⟩;have h8:∀n∈L,n∈ET:=λn I=>by
  rw[hL]at I;rcases eR.mp I with z|z
  ·exact N_ o1 z
  ·exact N_ p1 z
 have n1:=Cq o2;have n2:=Cq p2;obtain⟨Y,hX1⟩:∃X,X=tP one:=⟨_,rfl⟩;obtain⟨X2,hX2⟩:∃X,X=tP other:=⟨_,rfl⟩;obtain⟨U,hS⟩:∃X,X=PV.frz (ns.map PV.int):=⟨_,rfl⟩;rw[←hX1]at n1 ho;rw[←hX2]at n2 hp;obtain⟨D,⟨O,_,M⟩,lD⟩:=qP (g:=gN 4) (ds:=[4]) (body:=nM) PV.str (λD:SH=>[some U,some Y,some X2,some (.dK D),none,none,none,none])
  (λr D=>((∀x∈D,x.2=m0)/\(∀x∈D,∃n∈L,x.1=.inr n)/\D.length+r.length<=L.length)/\(∀n∈r,n∈L)/\∀n∈L,n∈r\/aV D (.inr n)=some m0)
  (by
   rintro n r D ⟨⟨i1,i2,i3⟩,i4,i5⟩;simp only[cv]at i3;have:=Cd D (.inr n) m0;refine⟨cT D (.inr n) m0,⟨⟨λx hx=>?_,λx hx=>?_,by omega⟩,λm hm=>i4 m (aI _ hm),λm hm=>?_⟩,M8 (L:=L) (by omega)⟩
   ·rcases Ez hx with z|z
    ·exact i1 x z
    ·rw[z]
   ·rcases Ez hx with z|z
    ·exact i2 x z
    ·exact⟨n,i4 n bp,by rw[z]⟩
   ·rw[yL]
    by_cases e:m=n
    ·exact .inr (bX (by rw[e]))
    ·rcases i5 m hm with z|z
     ·exact .inl ((br.mp z).resolve_left e)
     ·exact .inr (by rw[bt λy=>e (Sum.inr.inj y)];exact z))
  L [] ⟨⟨λx hx=>(by cases hx),λx hx=>(by cases hx),by simp⟩,λn I=>I,λn I=>.inl I⟩
 have M:Has (·∈L) D:=λn I=>(M n I).resolve_left (by simp);have OD:DOk L D:=⟨O.1,O.2.1,by simpa using O.2.2⟩;obtain⟨F,J,lF⟩:=qP (g:=gN 6) (ds:=[6]) (body:=jk) PV.int (λF:SH=>[some U,some Y,some X2,some (.dK D),none,some (.dK F),none,none])
  (λ_ F=>Few L D F) (λc r F J=>M7 hLl J c) a3 D ⟨OD,ax _,.inl rfl⟩
 obtain⟨OF,hle,hF⟩:=J;have r1:=N8 M h1 h2;have r2:=N8 M h2 h1;have lDn:=OD.n;have r3:bK [tP one,tP other,.dK F]=some (.int (if F.length<D.length then 1 else 0)):=by
  rcases hF with rfl|⟨q,n,I,hk⟩
  ·rw[bt (fg _)];exact r1
  ·rw[bX q]
   refine Ul ?_;rw[hL]at I;have no:∀{f:sA},n∈SU f->f.all (In F)=false:=λ{f} h=>by
    obtain⟨b,hb⟩:=JV h;rw[List.all_eq_false];exact⟨_,hb,by unfold In;dsimp only;rw[hk];decide⟩
   rcases eR.mp I with z|z
   ·exact .inl (no z)
   ·exact .inr (no z)
 rw[←hX1,←hX2]at r1 r2 r3;have hsm:zB F F=true:=by
  unfold zB;rw[cb,kN,eS];exact⟨rfl,λx hx=>by rw[Cr OF.v hx,OF.v x hx,bE,Vl];rfl⟩
 have hls:JJ (.lst (F.map λkv=>qz kv.1)) (.lst (F.map λkv=>qz kv.1))=some true:=Bv (n:=1) (by
  simp only[HE,gu];rintro x ⟨y,hy,rfl⟩;obtain⟨n,I,e⟩:=OF.k y hy;rw[e];simpa[qz,HE]using yM n (h8 n I)) (by decide)
 have hLc:(SU one).length+(SU other).length<=1000000:=by rw[hL,ci]at hLl;omega
 have done:wJ [some U,none,none,none,none,none,none,none]=some (.rt (.bl true)):=by
  unfold wJ;refine(bF (e:=[some U,some Y,none,none,none,none,none,none]) (by rw[hS];simp[e1,ho])).trans ?_;refine(bF (e:=[some U,some Y,some X2,none,none,none,none,none]) (by rw[hS];simp[e2,hp])).trans ?_;refine(bF (e:=[some U,some Y,some X2,some (.dK []),none,none,none,none]) (by simp)).trans ?_;refine(bF (e:=[some U,some Y,some X2,some (.dK D),none,none,none,none]) (by
   rw[hL,fk]at lD;generalize nM=B at *;simp[n1,n2,hLc,MR.LO,lD])).trans ?_
  refine(bF (e:=[some U,some Y,some X2,some (.dK D),none,some (.dK D),none,none]) (by simp)).trans ?_;refine(bF (e:=[some U,some Y,some X2,some (.dK D),none,some (.dK F),none,none]) (by
   generalize jk=B at *;rw[hS]at lF ⊢;simp[e3,MR.LO,lF])).trans ?_
  refine(bF (e:=[some U,some Y,some X2,some (.dK D),none,some (.dK F),none,some (.dK F)]) (by simp)).trans ?_;refine(bF (e:=[some U,some Y,some X2,some (.dK D),none,some (.dK F),none,some (.dK F)]) (by simp[r1])).trans ?_;refine(bF (e:=[some U,some Y,some X2,some (.dK D),none,some (.dK F),none,some (.dK F)]) (by
   by_cases q:F.length<D.length
   ·rw[bX q]at r3
    simp[r3,q]
   ·rw[bt q]at r3
    simp[r3,q])).trans ?_
  simp[hsm,hls,r2]
 rw[hS]at done;unfold wK;generalize wJ=B at *;simp[done]
noncomputable def top(i:Nat):Stmt:=PySem.Challenge.pw_lilt_k84_names_of_metres.main.body.getD i (.Pass ⟨0,0,0,0⟩)
abbrev nR:=top 52
abbrev i_:=top 53
abbrev o9:=top 50
abbrev o_:=top 51
abbrev iT:=top 54
abbrev lB:=top 55
abbrev jG:=top 59
abbrev f9:=top 27
abbrev lC:=top 14
abbrev qR:=top 15
abbrev qT:=top 13
abbrev j9:=top 16
abbrev ph:=top 11
abbrev tE:=top 17
abbrev nT:=top 18
abbrev jH:=top 28
abbrev d_:=inClass (top 35) 2
abbrev gb:=inClass (top 35) 1
abbrev jb:=inClass (top 35) 3
abbrev fO:=top 37
abbrev gw:=inClass (top 35) 5
abbrev gA:=top 39
abbrev jJ:=inClass (top 35) 4
abbrev u_:=top 36
abbrev pq:=top 38
abbrev jK:=top 32
abbrev lE:=top 22
abbrev pA:=top 21
abbrev j_:=top 24
abbrev nU:=top 23
abbrev qU:=top 25
abbrev tG:=top 33
abbrev jc:=top 34
abbrev jn:=inClass (top 35) 0
abbrev kh:=top 40
abbrev kE:=top 45
abbrev gF:=top 29
abbrev qW:=top 42
abbrev qX:=top 43
abbrev pB:=top 44
abbrev mG:=top 46
abbrev jd:=top 47
abbrev iJ:=top 58
abbrev uq:=top 60
abbrev lV:=top 57
abbrev Oa:List Str:=["_law_parts","_law_cell","_law_heads","_law_number","_law_inner","_law_low","_law_roots_here"]
abbrev Hd:List Str:=["form","times","cut","come","turn"]
noncomputable section
structure FR where
 k:Nat
 x:Str
 ps:List Str
 m:List PV->Option PV
 st:Stmt
abbrev wT:FR:=⟨1, "_law_roots",["_law_parts"],gh,nR⟩
abbrev wv:FR:=⟨1, "_law_is_low",["_law_parts"],dU,i_⟩
abbrev wE:FR:=⟨1, "_law_name",["_law_number"],gM,o9⟩
abbrev wq:FR:=⟨1, "_law_bond",["_law_number"],gO,o_⟩
abbrev wS:FR:=⟨2, "_law_next",["_law_parts","_law_cell"],fJ,iT⟩
abbrev wt:FR:=⟨3, "_law_form",["_law_cells"],gP,lB⟩
abbrev wP:FR:=⟨1, "_law_names",["_law_form_here"],gj,jG⟩
abbrev xh:FR:=⟨1, "ending_of",["form"],fM,lC⟩
abbrev vj:FR:=⟨2, "times_of",["form"],dN,qR⟩
abbrev xa:FR:=⟨1, "cut_form",["form"],iR,qT⟩
abbrev w9:FR:=⟨2, "coming",["form","times"],lL,j9⟩
abbrev xl:FR:=⟨1, "is_letter",["text"],gQ,ph⟩
abbrev w8:FR:=⟨2, "bond_in",["letter","turn"],jF,tE⟩
abbrev uS:FR:=⟨3, "plain_rows",["form","times"],bZ,nT⟩
abbrev xt:FR:=⟨4, "plain_rows_of",["form","many"],cJ,jH⟩
abbrev uu:FR:=⟨2, "is_of_first_alone",["walks","node"],cj,gA⟩
abbrev xw:FR:=⟨1, "row_to",["ways","node"],jq,u_⟩
abbrev xC:FR:=⟨1, "with_last_cut",["metre"],dh,jK⟩
abbrev xB:FR:=⟨1, "states_of",["metre"],nu,lE⟩
abbrev uj:FR:=⟨1, "end_state",["metre"],dY,pA⟩
abbrev xz:FR:=⟨1, "state_behind",["metre","state","ends"],oR,j_⟩
abbrev xy:FR:=⟨1, "stands_for",["sign","mark"],rE,nU⟩
abbrev xp:FR:=⟨2, "moves_of",["metre","state","mark","ends"],uB,qU⟩
abbrev vi:FR:=⟨1, "rest_of",["metre","state"],eU,tG⟩
abbrev xo:FR:=⟨6, "metre_within",["one","other"],bj,kh⟩
abbrev xb:FR:=⟨1, "earlier_bound",["plain","number"],dZ,gF⟩
abbrev uk:FR:=⟨1, "first_of",["plain","number"],eY,qW⟩
abbrev ui:FR:=⟨2, "are_same",["plain","one","other"],gq,qX⟩
abbrev w4:FR:=⟨3, "are_bound",["plain","one","other"],gW,pB⟩
abbrev wx:FR:=⟨10, "_law_is_refused",["_law_one","_law_other","_law_metres"],bK,iJ⟩
abbrev yA:FR:=⟨11, "law",["_law_script"],wK,uq⟩
abbrev zI:FR:=⟨1, "refuse_no_name",["metres","form"],bB,f9⟩
abbrev zD:FR:=⟨9, "form_within",["one","other","metres"],cO,jd⟩
def sR:DJ ["_law_parts","_law_found","_law_number","_law_inner","_law_part"] wT.ps (aA nR):=FY
def xY:DJ ["_law_parts"] wv.ps (aA i_):=FY
def Ap:DJ ["_law_number","_law_some"] wE.ps (aA o9):=FY
def zS:DJ ["_law_number","_law_some"] wq.ps (aA o_):=FY
def sQ:DJ ["_law_parts","_law_cell","_law_heads","_law_number","_law_inner","_law_low","_law_roots_here"] wS.ps (aA iT):=FY
def xD:DJ ["_law_cells","_law_parts","_law_cell","_law_heads"] wt.ps (aA lB):=FY
def yW:DJ ["_law_form_here"] wP.ps (aA jG):=FY
def yY:DJ ["metres","form","part"] zI.ps (aA f9):=FY
def Au:DJ ["form","endings"] xh.ps (aA lC):=FY
def AC:DJ ["form","ending"] vj.ps (aA qR):=FY
def sT:DJ ["form","lists","where","number","part"] xa.ps (aA qT):=FY
def xE:DJ ["form","times","cut","come","turn"] w9.ps (aA j9):=FY
def Cu:DJ ["text"] xl.ps (aA ph):=FY
def Hf:DJ ["letter","turn"] w8.ps (aA tE):=FY
def tj:DJ ["form","times","plain","became","number","part","turn","back"] uS.ps (aA nT):=FY
def yT:DJ ["form","many","times","rows"] xt.ps (aA jH):=FY
def nW:DJ ["self","place"] ["self","place"] (aA d_):=FY
def D5:DJ ["self","number","said","ways","rest","many","reached"] ["self","number","said"] (aA gb):=FY
def xZ:DJ ["self","number"] ["self","number"] (aA jb):=FY
def AB:DJ ["walks","node","later"] ["walks","node"] (aA fO):=FY
def qY:DJ ["self","number"] ["self","number"] (aA gw):=FY
def qZ:DJ ["walks","node"] uu.ps (aA gA):=FY
def vf:DJ ["self","number"] ["self","number"] (aA jJ):=FY
def xI:DJ ["ways","node","backwards","at"] xw.ps (aA u_):=FY
def sL:DJ ["walks","is_sought","start","ways","nodes","later","node","said","reached"] ["walks","is_sought"] (aA pq):=FY
def vg:DJ ["metre"] xC.ps (aA jK):=FY
def tz:DJ ["metre","states","slot","told","number","pattern"] xB.ps (aA lE):=FY
def Cv:DJ ["metre"] uj.ps (aA pA):=FY
def y0:DJ ["metre","state","ends","slot","behind"] xz.ps (aA j_):=FY
def yX:DJ ["sign","mark"] xy.ps (aA nU):=FY
def sP:DJ ["metre","state","mark","ends","slot","at","patterns","numbers","moves","number","reached"] xp.ps (aA qU):=FY
def Hg:DJ ["metre","state"] vi.ps (aA tG):=FY
def vv:DJ ["metre","ahead","state","said","moves"] ["metre"] (aA jc):=FY
def F4:DJ ["self","metre","most","closed"] ["self","metre","most"] (aA jn):=FY
def wN:DJ ["one","other"] xo.ps (aA kh):=FY
def wO:DJ ["metres","known","one","other"] ["metres","known","one","other"] (aA kE):=FY
def At:DJ ["plain","number","bond"] xb.ps (aA gF):=FY
def AA:DJ ["plain","number","back"] uk.ps (aA qW):=FY
def Dl:DJ ["plain","one","other"] ui.ps (aA qX):=FY
def As:DJ ["plain","one","other","bond"] w4.ps (aA pB):=FY
def vk:DJ ["metres","known","one","other","number","many","back","said","free"] ["metres","known","one","other","number"] (aA mG):=FY
def tf:DJ ["one","other","metres","known","times","plain","beside","number","fault"] zD.ps (aA jd):=FY
def yB:DJ ["_law_one","_law_other","_law_metres","_law_wrong","_law_e"] wx.ps (aA iJ):=FY
def sN:DJ ["_law_script","_law_one","_law_other","_law_metres","_law_name_here","_law_few","_law_cell","_law_kept"] yA.ps (aA uq):=FY
def x_:DJ ["_law_e"] ["_law_e"] (aA lV):=FY
structure Z7 where
 P:Program
 w:World
 K:W.Frag
 mg:Str->Option Value
 base:Heap
 cl:Nat->Addr
 KA:Tok
 FL:Addr
 GS:Addr
section
variable (Z:Z7)(r:FR)(f:Addr)(fd:FuncData)
abbrev ca:=Oy Z.P Z.w Z.K Z.mg Z.base r.k r.x r.ps (HA ⟨Z.K,Z.cl⟩ r.m false)
abbrev fu:=G0 Z.K r.x r.x r.st f fd
abbrev fo:=EC Z.P Z.w Z.K Z.mg Z.base IP r.k f fd r.ps (HA ⟨Z.K,Z.cl⟩ r.m false)
structure Zq:Prop where
 vE:Z.mg "ValueError" = none
 tq:Z.mg "dict" = none
 tF:Z.mg "enumerate" = none
 tJ:Z.mg "int" = none
 sD:Z.mg "isinstance" = none
 fI:Z.mg "len" = none
 sK:Z.mg "list" = none
 tT:Z.mg "max" = none
 vF:Z.mg "min" = none
 sF:Z.mg "range" = none
 vS:Z.mg "reversed" = none
 vT:Z.mg "sorted" = none
 tw:Z.mg "tuple" = none
 t3:Z.mg "zip" = none
 ua:Z.mg "LETTERS" = some (.str "abcdefghijklmnopqrstuvwxyz" Z.KA)
 sM:Z.mg "SAID" = some (.ref Z.FL)
 ub:Z.mg "START" = some (.ref Z.GS)
 yv:∀(B:se) (H:Hp),Rep ⟨Z.K,Z.cl⟩ B H (.ref Z.FL) B_
 yy:∀(B:se) (H:Hp),Rep ⟨Z.K,Z.cl⟩ B H (.ref Z.GS) mK
 EF:N4 Z.K (Z.cl 18)
 A6:W.excIn Z.K (Z.cl 16) [.type "ValueError",.type "Exception",.type "BaseException",.type "object"] "ValueError.__new__" = true
 A7:W.kitOne Z.K (.ref (Z.cl 16)) (.ref (Z.cl 13))=some false
 A8:W.kitOne Z.K (.ref (Z.cl 16)) (.ref (Z.cl 12))=some false
 A9:W.kitOne Z.K (.ref (Z.cl 16)) (.ref (Z.cl 16))=some true
 Bi:W.kitOne Z.K (.ref (Z.cl 16)) (.ref (Z.cl 15))=some false
 Bn:W.kitOne Z.K (.ref (Z.cl 16)) (.ref (Z.cl 17))=some false
 Bz:W.kitOne Z.K (.ref (Z.cl 16)) (.ref (Z.cl 11))=some false
 BA:W.kitOne Z.K (.ref (Z.cl 16)) (.ref (Z.cl 14))=some false
 BC:W.kitOne Z.K (.ref (Z.cl 16)) (.type "ValueError")=some true
 C3:Z.mg "LiltError" = some (.ref (Z.cl 10))
 C4:Z.mg "NoForm" = some (.ref (Z.cl 13))
 C5:Z.mg "NoMetre" = some (.ref (Z.cl 12))
 zw:Z.mg "NoName" = some (.ref (Z.cl 16))
 C6:Z.mg "NoReading" = some (.ref (Z.cl 15))
 C7:Z.mg "NoRow" = some (.ref (Z.cl 17))
 C8:Z.mg "NoRule" = some (.ref (Z.cl 11))
 C9:Z.mg "NoWord" = some (.ref (Z.cl 14))
 Jn:ED Z.K (Z.cl 18) "ahead"
 LZ:ED Z.K (Z.cl 18) "end"
 LD:ED Z.K (Z.cl 18) "most"
 L1:ED Z.K (Z.cl 18) "numbers"
 Mo:ED Z.K (Z.cl 18) "onward"
 Fn:ED Z.K (Z.cl 18) "places"
 JA:sJ ⟨Z.K,Z.cl⟩ Z.FL lR
 EM:Me Z.K (Z.cl 16)
 vx:W.exmOne Z.K (.ref (Z.cl 16)) (.ref (Z.cl 10))=some true
end
section
variable {Z:Z7}{f:Addr}{fd:FuncData}
def pC(F:G0 Z.K "_law_others" "_law_others" lV f fd)(T:Zq Z)(d:Option Nat):EC Z.P Z.w Z.K Z.mg Z.base IP 1 f fd ["_law_e"] (spE (Z.cl 16) d (.bl false)):=by
 refine Tw F x_ λI A' outer s H E J=>?_;exact(JD (PW.pt (NP (j:=false) (k:=false) (BW (nj 0 T.EM T.BA T.sD T.C9)) (NP (j:=false) (k:=false) (BW (nj 0 T.EM T.A8 T.sD T.C5)) (Tt (BW (nj 0 T.EM T.Bi T.sD T.C6)))))) (JC rfl (zA (j:=false) (k:=false) (nj 0 T.EM T.Bz T.sD T.C8) (zA (j:=false) (k:=false) (nj 0 T.EM T.A7 T.sD T.C4) (Jz (nj 0 T.EM T.Bn T.sD T.C7))))))
def yZ(F:fu Z wT f fd)(T:Zq Z):fo Z wT f fd:=by
 refine IC F sR [1] [] [] λI=>?_;exact(aF (gJ 1 sR.nd (dG aD)) (aF (bR 2 sR.nd ao) (aF (bR 3 sR.nd tZ) (aF (fW [4] (dI (aj 0)) (lO 4 sR.nd) (aJ (dH (aR (wC (aH I (aj 4) ao) (bw (aa aQ (aa aQ aD))))) (aJ (bR 3 sR.nd (cV (bT I (aH I (aj 4) ao) aQ)))) (aF (bR 2 sR.nd (jx (aj 2) ao)) (aJ (dH (aR (bT I (aH I (aj 4) ao) aQ)) (aJ (my 1 (bw (aa (aj 2) (aa (aj 3) aD))))) cB))))) b9) (pO (G1:=[]) (aJ (bc (aj 1))))))))
def yc(F:fu Z wv f fd)(T:Zq Z):fo Z wv f fd:=by
 refine IC F xY [] [] [] λI=>?_;exact(aJ (bc (cV (vU I (jW (Fu:=(aA i_)) (ON:=["_law_parts"]) (N:=["_law_part"]) (DT:=[none]) Sz (qG 0) (dI (aj 0)) (λ_ _ _ _=>iH 0) (λ_ _ _ _=>jQ (SW.st (eQ (aR (bT I (aH I (aj 0) ao) aQ)) (dR (aR (bT I (aH I (aj 0) ao) ao)))))) (λ_ _ _ _=>(aj 0))) (dG aD)))))
def Cw(F:fu Z wE f fd)(T:Zq Z):fo Z wE f fd:=by
 refine IC F Ap [] [] [] λI=>?_;exact(aF (bR 1 Ap.nd (SE.val (dG (aa aQ (aa aQ (aa aQ (aa aQ (aa aQ (aa aQ (aa aQ (aa aQ aD))))))))))) (aJ (bc (aH I (aj 1) (iK (aj 0) ao)))))
def Cy(F:fu Z wq f fd)(T:Zq Z):fo Z wq f fd:=by
 refine IC F zS [] [] [] λI=>?_;exact(aF (bR 1 zS.nd (SE.val (dG (aa cF (aa aQ (aa aQ (aa aQ (aa aQ (aa aQ (aa aQ (aa aQ aD))))))))))) (aJ (bc (aH I (aj 1) (iK (aj 0) ao)))))
def Cz(F:fu Z wS f fd)(T:Zq Z)(J:ca Z wq)(U:ca Z wv)(O:ca Z wE)(Y:ca Z wT):fo Z wS f fd:=by
 refine IC F sQ [] [] [] λI=>?_;exact(aF (sH 2 sQ.nd (Fu:=(aA iT)) (ON:=Oa) (N:=["_law_part"]) (DT:=[none]) Sz (qG 0) (dI (aj 0)) (λ_ _ _ _=>iH 0) (λ_ _ _ _=>jg) (λ_ _ _ _=>(aH I (aj 0) ao))) (aF (bR 3 sQ.nd (vR (aj 1) ao)) (aF (bR 4 sQ.nd (pL (cV (wC aQ (aj 2))) (mY (cV (sI aQ (aj 2)))))) (aF (bR 5 sQ.nd (iK (aj 3) ao)) (aF (dH (SW.st (eQ (aR (bT I (iK (aj 1) ao) ao)) (dR (aR (sI aQ (aj 2)))))) (aJ (bc (bw (aa aQ aD)))) cB) (aF (dH (SW.st (eQ (aR (bT I (iK (aj 1) ao) ao)) (eQ (iM (aj 4)) (dR (aR (vU I (aH I (aj 2) (vW ao)) aQ)))))) (aJ (bc (bw (aa aQ (aa (aj 5) (aa (jx (Jb T.tT ao (aj 5)) (iK (vR (aj 3) ao) (Rv ao (Jb T.tT ao (aj 5))))) aD)))))) cB) (aF (bR 6 sQ.nd (aO Y I (aa (aj 0) aD))) (aF (dH (SW.st (eQ (sE (iM (aj 4))) (dR (iM (aO U I (aa (aj 0) aD)))))) (aJ (sH 6 sQ.nd (Fu:=(aA iT)) (ON:=Oa) (N:=["_law_one"]) (DT:=[none]) Sz (qG 0) (dI (aj 6)) (λ_ _ _ _=>iH 0) (λ_ _ _ _=>jQ (sE (iM (aH I (aj 0) ao)))) (λ_ _ _ _=>(aj 0)))) cB) (aF (dH (SW.st (eQ (aR (wC (iK (aj 1) ao) (bw (aa ao (aa ao aD))))) (dR (aR (vU I (aj 6) (dG aD)))))) (aJ (bc (bw (aa aQ (aa (aH I (aH I (aj 6) (iK (aj 3) (cW T.fI (aj 6)))) ao) aD))))) cB) (aJ (bc (bw (aa aQ (aa (aO O I (aa (aj 3) aD)) (aa (aO J I (aa (vR (aj 3) ao) aD)) aD)))))))))))))))
def CG(F:fu Z wt f fd)(T:Zq Z)(J:ca Z wS):fo Z wt f fd:=by
 refine IC F xD [1] [1] [] λI=>?_;exact(aF (gJ 1 xD.nd (dG aD)) (aF (fW [2] (dI (aj 0)) (lO 2 xD.nd) (aJ (my 1 (KC J I (Ky (je 1) (aa (aj 2) aD))))) b9) (aF (sH 3 xD.nd (Fu:=(aA lB)) (ON:=["_law_cells","_law_parts","_law_cell","_law_heads"]) (N:=["_law_part"]) (DT:=[none]) Sz (qG 0) (dI (je 1)) (λ_ _ _ _=>iH 0) (λ_ _ _ _=>jg) (λ_ _ _ _=>(aH I (aj 0) ao))) (aF (dH (SW.st (Nq (aR (bT I (aj 3) (dG aD))) (Iw (aR (bT I (aH I (aj 3) (vW ao)) aQ))))) (aJ (my 1 (bw (aa aQ (aa aQ (aa aQ aD)))))) cB) (aF (dH (SW.st (eQ (aR (wC aQ (aj 3))) (dR (aR (sI aQ (aj 3)))))) (aJ (my 1 (bw (aa aQ (aa ao (aa ao aD)))))) cB) (aJ (bc (Ar T.tw (je 1)))))))))
def y_(F:fu Z wP f fd)(T:Zq Z):fo Z wP f fd:=by
 refine IC F yW [] [] [] λI=>?_;exact(aJ (bc (SE.val (jW (Fu:=(aA jG)) (ON:=["_law_form_here"]) (N:=["_law_part"]) (DT:=[none]) Sz (qG 0) (dI (aj 0)) (λ_ _ _ _=>iH 0) (λ_ _ _ _=>jQ (aR (bT I (aH I (aj 0) ao) aQ))) (λ_ _ _ _=>(aH I (aj 0) ao))))))
def tH(F:G0 Z.K "refuse_no_name" "refuse_no_name" f9 f fd)(T:Zq Z):EC Z.P Z.w Z.K Z.mg Z.base (G2 Z.P Z.w Z.K) 1 f fd ["metres","form"] (SF ⟨Z.K,Z.cl⟩ bB false bD):=by
 refine Ek F yY (λvs H Q E h=>Qi rfl h) (λJ A' outer s H vs Q E I h=>Mu (G:=[]) (G':=[]) (L:=[]) (N:=["metres","form","part"]) rfl (by decide) (by decide) (λB H'=>?_) (λB H'=>?_) h)
 ·exact(aJ (fW [2] (dI (aj 1)) (lO 2 yY.nd) (aJ (dH (SW.st (eQ (aR (bT I (aH I (aj 2) ao) aQ)) (dR (aR (sV I (aH I (aj 2) ao) (aj 0)))))) (aJ RC) cB)) b9))
 ·exact(j4 (Tz (ro:=false) [2] (dI (aj 1)) (lO 2 yY.nd) (aJ (dH (SW.st (eQ (aR (bT I (aH I (aj 2) ao) aQ)) (dR (aR (sV I (aH I (aj 2) ao) (aj 0)))))) (aJ RC) cB)) (j4 (Vh G7 (SW.st (eQ (aR (bT I (aH I (aj 2) ao) aQ)) (dR (aR (sV I (aH I (aj 2) ao) (aj 0)))))) (j4 (Mt 16 PySem.F.excBase_ValueError T.A6 T.zw (aa aQ aD))) Tj))))
def CJ(F:fu Z xh f fd)(T:Zq Z):fo Z xh f fd:=by
 refine IC F Au [] [] [] λI=>?_;exact(aF (sH 1 Au.nd (Fu:=(aA lC)) (ON:=["form","endings"]) (N:=["part"]) (DT:=[none]) Sz (qG 0) (dI (aj 0)) (λ_ _ _ _=>iH 0) (λ_ _ _ _=>jQ (aR (bT I (aH I (aj 0) ao) aQ))) (λ_ _ _ _=>(aj 0))) (aJ (bc (qy (aR (vV (cW T.fI (aj 1)) ao)) (aH I (aj 1) ao) cF))))
def Dm(F:fu Z vj f fd)(T:Zq Z)(J:ca Z xh):fo Z vj f fd:=by
 refine IC F AC [] [] [] λI=>?_;exact(aF (bR 1 AC.nd (aO J I (aa (aj 0) aD))) (aJ (bc (qy (aR (t8 (aj 1) cF)) (SE.val (dG (aa ao aD))) (SE.val (Ld T.sK T.sF (aH I (aj 1) ao) (jx (aH I (aj 1) ao) ao)))))))
def Dn(F:fu Z xa f fd)(T:Zq Z):fo Z xa f fd:=by
 refine F.ok sT (λvs H Q E h=>Tg h) (λJ A' outer s H vs Q E I h=>⟨tCt ⟨Z.K,Z.cl⟩ jE,?_,Th h⟩);exact aP (cz (i:=1) sT.nd rfl (.inl rfl) (ju (aB (ju aM) (aB (ju aM) (aB (ju aM) aM))))) (aP (cz (i:=2) sT.nd rfl (.inl rfl) fj) (aP (cz (i:=3) sT.nd rfl (.inl rfl) fj)
  (aP (mO b9 rfl (zN (pv 0)) (cX (i:=4) sT.nd rfl (d5 rfl))
   (bH (kO (Mi λ_ _=>SW.st (Nq (aR (bT I (aH I (aj 4) ao) aQ)) (Iw (aR (bT I (aH I (aj 4) ao) aQ)))))
    (bH (cz (i:=2) sT.nd rfl (.inl rfl) (jA λ_ _=>jx (aj 2) ao)))
    (aP (cz (i:=3) sT.nd rfl (.inl rfl) (jA λ_ _=>jx (aj 3) ao)) (bH (g_ (Aj Z.K gp hV hZ lH (tU (qw Z.K) (pv 1) (pv 2) (λ_ _=>rfl)) (aB (jt (aB (pv 3) (aB (pv 4) aM))) aM))))))))
  (bH (eN (pv 1))))))
def JW(F:fu Z w9 f fd)(T:Zq Z)(J:ca Z xa):fo Z w9 f fd:=by
 refine IC F xE [3] [3] [] λI=>?_;exact(aF (bR 2 xE.nd (aO J I (aa (aj 0) aD))) (aF (Pn 3 xE.nd (Fu:=(aA j9)) (ON:=Hd) (N:=["number","part"]) (DT:=[none,none]) Sz (Gh [0,1]) (dI (aH I (aj 2) ao)) (λ_ _ _ _=>mL rfl (cY (iH 0) (cY (iH 1) jL))) (λ_ _ _ _=>jg) (λ_ _ _ _=>(bw (aa (aj 0) (aa (aj 1) (aa ao aD)))))) (aF (fW [4] (Nu T.sF ao (jx (aj 1) ao)) (lO 4 xE.nd) (aJ (Nv 3 (SE.val (jW (Fu:=(aA j9)) (ON:=Hd) (N:=["number","part","turn"]) (DT:=[none,none,some 4]) Sz (Gh [0,1]) (dI (aH I (aj 2) ao)) (λ_ _ _ _=>mL rfl (cY (iH 0) (cY (iH 1) jL))) (λ_ _ _ _=>jg) (λ_ _ _ _=>(bw (aa (aj 0) (aa (aj 1) (aa (aj 2) aD))))))))) b9) (aJ (bc (SE.val (Ir (je 3) (jW (Fu:=(aA j9)) (ON:=Hd) (N:=["number","part"]) (DT:=[none,none]) Sz (Gh [0,1]) (dI (aH I (aj 2) ao)) (λ_ _ _ _=>mL rfl (cY (iH 0) (cY (iH 1) jL))) (λ_ _ _ _=>jg) (λ_ _ _ _=>(bw (aa (aj 0) (aa (aj 1) (aa ao aD)))))))))))))
def CK(F:fu Z xl f fd)(T:Zq Z):fo Z xl f fd:=by
 refine IC F Cu [] [] [] λI=>?_;exact(aJ (bc (pL (cV (bT I (cW T.fI (aj 0)) ao)) (mY (cV (Te (aj 0) (UW T.ua)))))))
def Hh(F:fu Z w8 f fd)(T:Zq Z)(I:ca Z xl):fo Z w8 f fd:=by
 refine IC F Hf [] [] [] λJ=>?_;exact(aF (dH (aR (t8 (aj 0) cF)) (aJ (bc cF)) cB) (aJ (bc (bw (aa (aj 0) (aa (qy (iM (aO I J (aa (aj 0) aD))) (aj 1) ao) aD))))))
def za(F:fu Z uS f fd)(T:Zq Z)(J:ca Z w8)(O:ca Z w9):fo Z uS f fd:=by
 refine IC F tj [2,3] [3] [] λI=>?_;exact(aF (gJ 2 tj.nd (dG aD)) (aF (gJ 3 tj.nd F_) (aF (fW [4,5,6,7] (dI (aO O I (aa (aj 0) (aa (aj 1) aD)))) (Gg (fU 4 tj.nd (fU 5 tj.nd (fU 6 tj.nd ud)))) (aJ (dH (aR (bT I (aH I (aj 5) ao) aQ)) (aF (zp 3 I (aj 4) (cW T.fI (je 2))) (aJ (my 2 (bw (aa (aH I (aj 5) ao) (aa (aO J I (aa (aH I (aj 5) ao) (aa (aj 6) aD))) (aa cF aD))))))) (aF (bR 7 tj.nd (aH I (je 3) (aH I (aj 5) ao))) (aJ (my 2 (bw (aa (aH I (aH I (je 2) (aj 7)) ao) (aa cF (aa (aj 7) aD))))))))) b9) (pO (G1:=[3]) (aJ (bc (aj 2)))))))
def vh(F:fu Z xt f fd)(T:Zq Z)(O:ca Z uS)(J:ca Z vj):fo Z xt f fd:=by
 refine IC F yT [] [] [] λI=>?_;exact(aF (fW [2,3] (dI (aO J I (aa (aj 0) aD))) (lO 2 yT.nd) (aF (bR 3 yT.nd (aO O I (aa (aj 0) (aa (aj 2) aD)))) (aJ (dH (aR (bT I (cW T.fI (aj 3)) (aj 1))) (aJ (bc (aj 3))) cB))) b9) (aJ (bc cF)))
def nY(F:G0 Z.K "number_of_place" "Walk.number_of_place" d_ f fd)(T:Zq Z):EC Z.P Z.w Z.K Z.mg Z.base IP 1 f fd ["self","place"] (ug ⟨Z.K,Z.cl⟩):=by
 refine F.ok nW (λvs H Q E h=>Jl h) (λJ A' outer s H vs Q E I h=>⟨Ls Z.K,?_,Pz h⟩);exact aP (kO (pD (oG (d7 I) (pv 1) (ik Z.K (pv 0)))) (aP (pI (d7 I) (ik Z.K (pv 0)) (pv 1) (eX (oH Z.K) rfl T.fI kM (aB (ik Z.K (pv 0)) aM)) rfl) (bH (g_ (Aj Z.K gp hV hZ lH (ik Z.K (pv 0)) (aB (pv 1) aM))))) gZ) (bH (eN (tR (d7 I) (ik Z.K (pv 0)) (pv 1) (λ_ _=>rfl))))
def qb(F:G0 Z.K "place_behind" "Walk.place_behind" gb f fd)(T:Zq Z):EC Z.P Z.w Z.K Z.mg Z.base IP 1 f fd ["self","number","said"] (HA ⟨Z.K,Z.cl⟩ aU false):=by
 refine IC F D5 [3] [3] [] λI=>?_;exact(aF (gJ 3 D5.nd Nr) (aF (fW [4,5,6] (dI (aH I (pN (c:=18) T.EF T.Fn (aj 0)) (aj 1))) (Gg (fU 4 D5.nd (fU 5 D5.nd ud))) (aJ (fW [6] (dI (xJ I (pN (c:=18) T.EF T.Jn (aj 0)) (bw (aa (aj 4) (aa (aj 2) aD))) (SE.val (dG aD)))) (lO 6 D5.nd) (aJ (zp 3 I (aj 6) (RL T.vF (pN (c:=18) T.EF T.LD (aj 0)) (jx (xJ I (je 3) (aj 6) ao) (aj 5))))) b9)) b9) (aJ (bc (Ar T.tw (Lq I T.vT (je 3)))))))
def ye(F:G0 Z.K "later" "Walk.later" jb f fd)(T:Zq Z)(O:Kj Z.P Z.w Z.K Z.mg Z.base (Z.cl 18) 1 "number_of_place" ["self","place"] (ug ⟨Z.K,Z.cl⟩))(J:Kj Z.P Z.w Z.K Z.mg Z.base (Z.cl 18) 1 "place_behind" ["self","number","said"] (HA ⟨Z.K,Z.cl⟩ aU false)):EC Z.P Z.w Z.K Z.mg Z.base IP 2 f fd ["self","number"] (v9 ⟨Z.K,Z.cl⟩ 18 aU lR):=by
 refine F.ok xZ (λvs H Q E h=>Jo h) (λU A' outer s H vs Q E I h=>⟨Lx ⟨Z.K,Z.cl⟩ 18 aU Z.FL,?_,PB T.JA h⟩);exact aP (kO (pD (oG (d7 I) (pv 1) (ik Z.K (pv 0)))) (bH (pI (d7 I) (ik Z.K (pv 0)) (pv 1) (tY (Fu:=(aA jb)) (ON:=["self","number"]) (N:=["said","self","number"]) (DT:=[none,some 0,some 1]) ⟨rfl,by decide +kernel,by decide +kernel,by decide +kernel,by decide +kernel⟩ (zN (jo rfl T.sM rfl)) (λ_ _ _ _=>cX (i:=0) (show(["said","self","number"]:rj).Nodup by decide +kernel) rfl (d5 rfl)) (λ_ _ _ _=>mV) (λ_ _ _ _=>um O T.EF I (pv 1) (aB (um J T.EF I (pv 1) (aB (pv 2) (aB (pv 0) aM))) aM))) rfl)) gZ) (bH (eN (tR (d7 I) (ik Z.K (pv 0)) (pv 1) (λ_ _=>rfl))))
def wQ(F:G0 Z.K "nodes_behind" "nodes_behind" fO f fd)(T:Zq Z)(I:Kj Z.P Z.w Z.K Z.mg Z.base (Z.cl 18) 2 "later" ["self","number"] (v9 ⟨Z.K,Z.cl⟩ 18 aU lR)):EC Z.P Z.w Z.K Z.mg Z.base IP 3 f fd ["walks","node"] (Bg ⟨Z.K,Z.cl⟩ 18 aU lR):=by
 refine F.ok AB (λvs H Q E h=>LC h) (λO A' outer s H vs Q E J h=>⟨tNb ⟨Z.K,Z.cl⟩ 18 aU lR Z.FL,?_,Sx T.JA (by decide) h⟩);exact aP (cz (i:=2) AB.nd rfl (.inr rfl) (tY (Fu:=(aA fO)) (ON:=["walks","node","later"]) (N:=["walk","number"]) (DT:=[none,none]) ⟨rfl,by decide +kernel,by decide +kernel,by decide +kernel,by decide +kernel⟩ (Ea (k1:=.L) (k2:=.T) rfl T.t3 (aB (pv 0) (aB (pv 1) aM))) (λ_ _ _ _=>mL rfl (cY (cX (i:=0) (show(["walk","number"]:rj).Nodup by decide +kernel) rfl (d5 rfl)) (cY (cX (i:=1) (show(["walk","number"]:rj).Nodup by decide +kernel) rfl (d5 rfl)) jL))) (λ_ _ _ _=>mV) (λ_ _ _ _=>um I T.EF J (pv 0) (aB (pv 1) aM)))) (bH (eN (Ah (Fu:=(aA fO)) (z:=some "at") (ON:=["walks","node","later"]) (N:=["at","later"]) (DT:=[none,some 2]) ⟨rfl,by decide +kernel,by decide +kernel,by decide +kernel,λ_ _=>rfl,λ_=>rfl,by decide +kernel,by decide +kernel⟩ (rM rfl T.sF (aB (eX (oH Z.K) rfl T.fI kM (aB (jo rfl T.sM rfl) aM)) aM)) (λ_ _ _ _=>cX (i:=0) (show(["at","later"]:rj).Nodup by decide +kernel) rfl (dQ rfl)) (λ_ _ _ _=>mV) (λ_ _ _ _=>rT q_ rfl T.tw oy (aB (tY (Fu:={kind:=.function,names:=[(".0",.local),("at",.cell),("tuple",.globalImplicit),("later",.cell)],isGenerator:=false,isCoroutine:=false}) (ON:=["at","later"]) (N:=["numbers","at"]) (DT:=[none,some 0]) ⟨rfl,by decide +kernel,by decide +kernel,by decide +kernel,by decide +kernel⟩ (tL (pv 1)) (λ_ _ _ _=>cX (i:=0) (show(["numbers","at"]:rj).Nodup by decide +kernel) rfl (d5 rfl)) (λ_ _ _ _=>mV) (λ_ _ _ _=>tU (qw Z.K) (pv 0) (pv 1) (λ_ _=>rfl))) aM)))))
def q8(F:G0 Z.K "ways_to_end" "Walk.ways_to_end" gw f fd)(T:Zq Z):EC Z.P Z.w Z.K Z.mg Z.base IP 1 f fd ["self","number"] (HA ⟨Z.K,Z.cl⟩ dJ false):=by
 refine IC F qY [] [] [] λI=>?_;exact(aJ (bc (xJ I (Ma I T.tq (aH I (pN (c:=18) T.EF T.Fn (aj 0)) (aj 1))) (pN (c:=18) T.EF T.LZ (aj 0)) ao)))
def q9(F:fu Z uu f fd)(T:Zq Z)(J:Kj Z.P Z.w Z.K Z.mg Z.base (Z.cl 18) 1 "ways_to_end" ["self","number"] (HA ⟨Z.K,Z.cl⟩ dJ false)):fo Z uu f fd:=by
 refine IC F qZ [] [] [] λI=>?_;exact(aJ (bc (pL (cV (vV (Am (c:=18) J T.EF I (aH I (aj 0) ao) (aa (aH I (aj 1) ao) aD)) ao)) (mY (cV (bT I (Am (c:=18) J T.EF I (aH I (aj 0) ao) (aa (aH I (aj 1) ao) aD)) ao))))))
def vo(F:G0 Z.K "is_over" "Walk.is_over" jJ f fd)(T:Zq Z):EC Z.P Z.w Z.K Z.mg Z.base IP 1 f fd ["self","number"] (HA ⟨Z.K,Z.cl⟩ cL false):=by
 refine IC F vf [] [] [] λI=>?_;exact(aJ (bc (cV (bT I (cW T.fI (aH I (pN (c:=18) T.EF T.Fn (aj 0)) (aj 1))) ao))))
def JX(F:fu Z xw f fd)(T:Zq Z):fo Z xw f fd:=by
 refine IC F xI [2] [2] [] λI=>?_;exact(aF (gJ 2 xI.nd (dG aD)) (aF (bR 3 xI.nd (aj 1)) (aF (Pk 1000000 [] (aR (jU (aH I (aj 0) (aj 3)) cF)) (aF (my 2 (aH I (aH I (aj 0) (aj 3)) ao)) (aJ (bR 3 xI.nd (aH I (aH I (aj 0) (aj 3)) ao)))) b9) (aJ (bc (SE.val (KR T.sK T.vS (je 2))))))))
def CN(F:G0 Z.K "first_row" "first_row" pq f fd)(T:Zq Z)(U:ca Z uu)(Y:Oy Z.P Z.w Z.K Z.mg Z.base 3 "nodes_behind" ["walks","node"] (Bg ⟨Z.K,Z.cl⟩ 18 aU lR))(AZ:ca Z xw)(Da:Kj Z.P Z.w Z.K Z.mg Z.base (Z.cl 18) 1 "is_over" ["self","number"] (HA ⟨Z.K,Z.cl⟩ cL false)):EC Z.P Z.w Z.K Z.mg Z.base IP 4 f fd ["walks","is_sought"] (Mg Z.mg "is_of_first_alone" ⟨Z.K,Z.cl⟩ 18 aU lR cL cj jq):=by
 refine F.ok sL (λvs H Q E h=>by obtain⟨O,_,F,cs,ws,out,wl,rfl,_⟩:=h;rfl) (λFF A' outer s H vs Q E I h=>?_);obtain⟨O,J,h⟩:=h;refine⟨tFr ⟨Z.K,Z.cl⟩ 18 aU lR cL cj jq O Z.FL,?_,SQ T.JA h⟩;exact aP (cz (i:=2) sL.nd rfl (.inl rfl) (Ff PJ (jt (aB fj aM)) (eX (oH Z.K) rfl T.fI kM (aB (pv 0) aM))))
  (aP (cz (i:=3) sL.nd rfl (.inl rfl) (Eb (d7 I) (pv 2) vB))
  (aP (cz (i:=4) sL.nd rfl (.inl rfl) (ju (aB (pv 2) aM)))
  (aP (zM b9 (pD (Ur (eX (oH Z.K) rfl T.fI kM (aB (pv 4) aM)) fj))
   (aP (cz (i:=5) sL.nd rfl (.inl rfl) (ju aM))
   (aP (mO b9 rfl (tL (pv 4)) (cX (i:=6) sL.nd rfl (d5 rfl))
    (bH (mO b9 rfl (Ea (k1:=.T) (k2:=.L) rfl T.t3 (aB (jo rfl T.sM rfl) (aB (fC Y I (aB (pv 0) (aB (pv 6) aM))) aM))) (mL rfl (cY (cX (i:=7) sL.nd rfl (d5 rfl)) (cY (cX (i:=8) sL.nd rfl (d5 rfl)) jL)))
     (bH (kO (PW.pt (Hr (pD (oG (d7 I) (pv 8) (pv 3))) (Du (Hs (vC (um Da T.EF I (tU (qw Z.K) (pv 0) fj (λ_ _=>rfl)) (aB (tU (O7 Z.K) (pv 8) fj (λ_ _=>rfl)) aM)))))))
      (aP (pI (d7 I) (pv 3) (pv 8) (jt (aB (pv 6) (aB (pv 7) aM))) rfl)
      (aP (g_ (Aj Z.K gp hV hZ lH (pv 5) (aB (pv 8) aM)))
      (bH (kO (vC (Qc (i:=1) U J I (aB (pv 0) (aB (pv 8) aM)))) (bH (eN (fC AZ I (aB (pv 3) (aB (pv 8) aM))))) gZ)))) gZ)))))
   (bH (cz (i:=4) sL.nd rfl (.inl rfl) (pv 5))))))
  (bH (eN vB)))))
def vq(F:fu Z xC f fd)(T:Zq Z):fo Z xC f fd:=by
 refine IC F vg [] [] [] λI=>?_;exact(aJ (bc (L_ (Qe (aj 0) xn (jV (vW ao))) (bw (aa (bw (aa (aH I (aH I (aj 0) (vW ao)) ao) (aa tZ aD))) aD)))))
def CQ(F:fu Z xB f fd)(T:Zq Z):fo Z xB f fd:=by
 refine IC F tz [1] [] [] λI=>?_;exact(aF (gJ 1 tz.nd (dG aD)) (aF (fW [2,3,4,5] (Av T.tF (aj 0)) (Gg (fU 2 tz.nd (fU 3 tz.nd ud))) (aF (my 1 (bw (aa (aj 2) (aa ao (aa ao aD))))) (aJ (fW [4,5] (Av T.tF (aH I (aj 3) ao)) (Gg (fU 4 tz.nd (fU 5 tz.nd ud))) (aJ (Nv 1 (SE.val (jW (Fu:=(aA lE)) (ON:=["metre","states","slot","told","number","pattern"]) (N:=["at","slot","number"]) (DT:=[none,some 2,some 4]) Sz (qG 0) (Nu T.sF ao (cW T.fI (aj 5))) (λ_ _ _ _=>iH 0) (λ_ _ _ _=>jg) (λ_ _ _ _=>(bw (aa (aj 1) (aa (aj 2) (aa (aj 0) aD))))))))) b9))) b9) (pO (G1:=[]) (aJ (bc (aj 1))))))
def CT(F:fu Z uj f fd)(T:Zq Z):fo Z uj f fd:=by
 refine IC F Cv [] [] [] λI=>?_;exact(aJ (bc (bw (aa (cW T.fI (aj 0)) (aa ao (aa ao aD))))))
def wR(F:fu Z xz f fd)(T:Zq Z):fo Z xz f fd:=by
 refine IC F y0 [] [] [] λI=>?_;exact(aF (bR 3 y0.nd (aH I (aj 1) ao)) (aF (bR 4 y0.nd (jx (aH I (aj 1) ao) ao)) (aF (dH (aR (Nm (aj 4) (cW T.fI (aH I (aH I (aH I (aj 0) (aj 3)) ao) (aH I (aj 1) ao))))) (aJ (bc (bw (aa (aj 3) (aa (aH I (aj 1) ao) (aa (aj 4) aD)))))) cB) (aF (dH (SW.st (eQ (iM (aH I (aH I (aj 0) (aj 3)) ao)) (dR (sE (iM (aj 2)))))) (aJ (bc cF)) cB) (aJ (bc (bw (aa (jx (aj 3) ao) (aa ao (aa ao aD))))))))))
def zb(F:fu Z xy f fd)(T:Zq Z):fo Z xy f fd:=by
 refine IC F yX [] [] [] λI=>?_;exact(aJ (bc (Np (cV (bT I (aj 0) (aj 1))) (mY (cV (bT I (aj 0) aQ))))))
def Do(F:fu Z xp f fd)(T:Zq Z)(J:ca Z uj)(O:ca Z xy)(U:ca Z xz):fo Z xp f fd:=by
 refine IC F sP [8] [] [] λI=>?_;exact(aF (dH (aR (bT I (aj 1) (aO J I (aa (aj 0) aD)))) (aJ (bc (SE.val (dG aD)))) cB) (aF (bR 4 sP.nd (aH I (aj 1) ao)) (aF (bR 5 sP.nd (aH I (aj 1) ao)) (aF (bR 6 sP.nd (aH I (aH I (aj 0) (aj 4)) ao)) (aF (bR 7 sP.nd (qy (aR (bT I (aj 5) ao)) (SE.val (KQ T.sK T.sF (cW T.fI (aj 6)))) (SE.val (dG (aa (aH I (aj 1) ao) aD))))) (aF (gJ 8 sP.nd (dG aD)) (aF (fW [9,10] (dI (aj 7)) (lO 9 sP.nd) (aF (bR 10 sP.nd (aO U I (aa (aj 0) (aa (bw (aa (aj 4) (aa (aj 9) (aa (aj 5) aD)))) (aa (aj 3) aD))))) (aJ (dH (SW.st (eQ (aR (jU (aj 10) cF)) (dR (iM (aO O I (aa (aH I (aH I (aj 6) (aj 9)) (aj 5)) (aa (aj 2) aD))))))) (aJ (my 8 (bw (aa (aj 9) (aa (aj 10) aD))))) cB))) b9) (pO (G1:=[]) (aJ (bc (aj 8)))))))))))
def Hk(F:fu Z vi f fd)(T:Zq Z):fo Z vi f fd:=by
 refine IC F Hg [] [] [] λI=>?_;exact(aJ (bc (bw (aa (aH I (aj 1) ao) (aa (qy (aR (vV (aH I (aj 1) ao) ao)) (zj (aH I (aH I (aH I (aj 0) (aH I (aj 1) ao)) ao) (aH I (aj 1) ao)) (jV (aH I (aj 1) ao)) xn) aQ) aD)))))
def yf(F:G0 Z.K "rests_ahead" "rests_ahead" jc f fd)(T:Zq Z)(O:ca Z xp)(J:ca Z vi)(U:ca Z xB):EC Z.P Z.w Z.K Z.mg Z.base IP 3 f fd ["metre"] (HA ⟨Z.K,Z.cl⟩ cN true):=by
 refine IC F vv [1] [1] [] λI=>?_;exact(aF (gJ 1 vv.nd Nr) (aF (fW [2,3,4] (dI (aO U I (aa (aj 0) aD))) (lO 2 vv.nd) (aJ (fW [3,4] (dI (U0 T.sM (T.yv))) (lO 3 vv.nd) (aF (bR 4 vv.nd (aO O I (aa (aj 0) (aa (aj 2) (aa (aH I (aj 3) ao) (aa (aH I (aj 3) ao) aD)))))) (aJ (zp 1 I (bw (aa (aO J I (aa (aj 0) (aa (aj 2) aD))) (aa (aj 3) aD))) (SE.val (jW (Fu:=(aA jc)) (ON:=["metre","ahead","state","said","moves"]) (N:=["pattern","reached","metre"]) (DT:=[none,none,some 0]) Sz (Gh [0,1]) (dI (aj 4)) (λ_ _ _ _=>mL rfl (cY (iH 0) (cY (iH 1) jL))) (λ_ _ _ _=>jg) (λ_ _ _ _=>(aO J I (aa (aj 2) (aa (aj 1) aD))))))))) b9)) b9) (aJ (RG 1))))
def ur(F:G0 Z.K "__init__" "Walk.__init__" jn f fd)(T:Zq Z)(x9:ca Z uj)(J:ca Z vi)(Y:Oy Z.P Z.w Z.K Z.mg Z.base 3 "rests_ahead" ["metre"] (HA ⟨Z.K,Z.cl⟩ cN true))(U:ca Z xC):EC Z.P Z.w Z.K Z.mg Z.base IP 4 f fd ["self","metre","most"] (xO ⟨Z.K,Z.cl⟩ 18 dh cN eU dY mK):=by
 refine F.ok F4 (λvs H Q E h=>by obtain⟨A,p,O,w,x,dx,vm,rfl,_⟩:=h;rfl) (λFF A' outer s H vs Q E I h=>⟨tWk ⟨Z.K,Z.cl⟩ dh cN eU dY Z.GS,?_,SX T.yy h⟩);exact aP (cz (i:=3) F4.nd rfl (.inl rfl) (fC U I (aB (pv 1) aM)))
  (aP (pG (pv 0) (fC Y I (aB (pv 3) aM)) rfl)
  (aP (pG (pv 0) (pv 2) rfl)
  (aP (pG (pv 0) (fC J I (aB (pv 3) (aB (fC x9 I (aB (pv 3) aM)) aM))) rfl)
  (aP (pG (pv 0) (ju (aB (jt (aB (jt (aB (fC J I (aB (pv 3) (aB (jo rfl T.ub rfl) aM))) (aB fj aM))) aM)) aM)) rfl)
  (aP (pG (pv 0) (Eb (d7 I) (tU (qw Z.K) (ik Z.K (pv 0)) fj (λ_ _=>rfl)) fj) rfl)
  (bH (pG (pv 0) zZ rfl)))))))
def wU(F:fu Z xo f fd)(T:Zq Z)(AR:Oy Z.P Z.w Z.K Z.mg Z.base 4 "first_row" ["walks","is_sought"] (Mg Z.mg "is_of_first_alone" ⟨Z.K,Z.cl⟩ 18 aU lR cL cj jq))(ya:ca Z uu)(O:Y0 Z.P Z.w Z.K Z.mg Z.base (Z.cl 18) 4 "Walk" ["self","metre","most"] (xO ⟨Z.K,Z.cl⟩ 18 dh cN eU dY mK)):fo Z xo f fd:=by
 obtain⟨U,Y,FS,hbS,kpS,I⟩:=ya.ex;refine F.ok wN (λvs H Q E h=>by
  obtain⟨A,ps,p,r,hm,_⟩:=h;rw[r.length];match ps,hm with
  |[_,_],_=>rfl) (λFF A' outer s H vs Q E J h=>⟨tMw Z.mg "is_of_first_alone" ⟨Z.K,Z.cl⟩ 18 dh cN eU dY aU cL cj jq lR mK U,?_,S6 ⟨T.EF,T.Jn,T.LD,T.LZ,T.Fn,T.L1,T.Mo⟩ I h⟩)
 exact bH (eN (fC AR J (aB (ju (aB (Eg O J (aB (pv 0) (aB fj aM))) (aB (Eg O J (aB (pv 1) (aB fj aM))) aM))) (aB (jo rfl I rfl) aM))))
def wV(F:G0 Z.K "said_between" "said_between" kE f fd)(T:Zq Z)(J:ca Z xo):EC Z.P Z.w Z.K Z.mg Z.base IP 7 f fd ["metres","known","one","other"] (Bx ⟨Z.K,Z.cl⟩ bj):=by
 refine F.ok wO (λvs H Q E h=>Mj h) (λO A' outer s H vs Q E I h=>⟨tSb ⟨Z.K,Z.cl⟩ bj,?_,S8 h⟩);exact aP (kO (pD (oG (d7 I) (jt (aB (pv 2) (aB (pv 3) aM))) (pv 1))) (bH (pI (d7 I) (pv 1) (jt (aB (pv 2) (aB (pv 3) aM))) (jA λ_ _=>aO J I (aa (aH I (aj 0) (aj 2)) (aa (aH I (aj 0) (aj 3)) aD))) rfl)) gZ) (bH (eN (tR (d7 I) (pv 1) (jt (aB (pv 2) (aB (pv 3) aM))) (λ_ _=>rfl))))
def vy(F:fu Z xb f fd)(T:Zq Z):fo Z xb f fd:=by
 refine IC F At [] [] [] λI=>?_;exact(aF (bR 2 At.nd (aH I (aH I (aj 0) (aj 1)) ao)) (aJ (bc (qy (aR (t8 (aj 2) cF)) (SE.val (dG aD)) (SE.val (jW (Fu:=(aA gF)) (ON:=["plain","number","bond"]) (N:=["earlier","bond","plain"]) (DT:=[none,some 2,some 0]) Sz (qG 0) (U7 T.sF (aj 1)) (λ_ _ _ _=>iH 0) (λ_ _ _ _=>jQ (aR (bT I (aH I (aH I (aj 2) (aj 0)) ao) (aj 1)))) (λ_ _ _ _=>(aj 0))))))))
def Dp(F:fu Z uk f fd)(T:Zq Z):fo Z uk f fd:=by
 refine IC F AA [] [] [] λI=>?_;exact(aF (bR 2 AA.nd (aH I (aH I (aj 0) (aj 1)) ao)) (aJ (bc (qy (aR (t8 (aj 2) cF)) (aj 1) (aj 2)))))
def Dq(F:fu Z ui f fd)(T:Zq Z)(J:ca Z uk):fo Z ui f fd:=by
 refine IC F Dl [] [] [] λI=>?_;exact(aJ (bc (cV (bT I (aO J I (aa (aj 0) (aa (aj 1) aD))) (aO J I (aa (aj 0) (aa (aj 2) aD)))))))
def CV(F:fu Z w4 f fd)(T:Zq Z)(O:ca Z ui)(J:ca Z uk):fo Z w4 f fd:=by
 refine IC F As [] [] [] λI=>?_;exact(aF (bR 3 As.nd (aH I (aH I (aj 0) (aO J I (aa (aj 0) (aa (aj 1) aD)))) ao)) (aJ (bc (Np (aO O I (aa (aj 0) (aa (aj 1) (aa (aj 2) aD)))) (mY (pL (cV (jU (aj 3) cF)) (mY (cV (bT I (aj 3) (aH I (aH I (aj 0) (aO J I (aa (aj 0) (aa (aj 2) aD)))) ao))))))))))
def Dr(F:G0 Z.K "fault_in" "fault_in" mG f fd)(T:Zq Z)(Y:ca Z w4)(J:ca Z ui)(U:ca Z xb)(O:Oy Z.P Z.w Z.K Z.mg Z.base 7 "said_between" ["metres","known","one","other"] (Bx ⟨Z.K,Z.cl⟩ bj)):EC Z.P Z.w Z.K Z.mg Z.base IP 8 f fd ["metres","known","one","other","number"] (By ⟨Z.K,Z.cl⟩ bj dO):=by
 refine F.ok vk (λvs H Q E h=>Ml h) (λFF A' outer s H vs Q E I h=>⟨tFi ⟨Z.K,Z.cl⟩ bj _ _ _ _ lA,?_,S9 h⟩);exact aP (cz (i:=5) vk.nd rfl (.inl rfl) (jA λ_ _=>cW T.fI (aj 2))) (aP (cz (i:=6) vk.nd rfl (.inl rfl) (jA λ_ _=>(aH I (aH I (aj 3) (aj 4)) ao))) (aP (cz (i:=7) vk.nd rfl (.inl rfl) (fC O I (aB (pv 0) (aB (pv 1) (aB (jA λ_ _=>(aH I (aH I (aj 2) (aj 4)) ao)) (aB (jA λ_ _=>(aH I (aH I (aj 3) (aj 4)) ao)) aM)))))) (Vf λ_ _=>(aF (dH (aR (jU (aj 7) cF)) (aJ (bc (bw (aa aQ (aa (aj 5) (aa (aj 4) (aa (aj 7) aD))))))) cB) (aF (sH 8 vk.nd (Fu:=(aA mG)) (ON:=["metres","known","one","other","number","many","back","said","free"]) (N:=["earlier","one","number"]) (DT:=[none,some 2,some 4]) ⟨rfl,by decide +kernel,by decide +kernel,by decide +kernel,by decide +kernel⟩ (qG 0) (dI (aO U I (aa (aj 3) (aa (aj 4) aD)))) (λ_ _ _ _=>cX (i:=0) (show(["earlier","one","number"]:rj).Nodup by decide +kernel) rfl (d5 rfl)) (λ_ _ _ _=>jQ (sE (iM (aO Y I (aa (aj 1) (aa (aj 2) (aa (aj 0) aD))))))) (λ_ _ _ _=>(aj 0))) (aF (dH (aR (vV (cW T.fI (aj 8)) ao)) (aJ (bc (bw (aa aQ (aa (aj 5) (aa (aj 4) (aa (aH I (aj 8) ao) aD))))))) cB) (aF (dH (SW.st (eQ (aR (jU (aj 6) cF)) (dR (sE (iM (aO J I (aa (aj 2) (aa (aj 4) (aa (aj 6) aD))))))))) (aJ (bc (bw (aa aQ (aa (aj 5) (aa (aj 4) (aa (aj 6) aD))))))) cB) (aJ (bc cF)))))))))
def wW(F:G0 Z.K "form_within" "form_within" jd f fd)(T:Zq Z)(AQ:Oy Z.P Z.w Z.K Z.mg Z.base 8 "fault_in" ["metres","known","one","other","number"] (By ⟨Z.K,Z.cl⟩ bj dO))(Y:ca Z uS)(AX:ca Z xt)(J:ca Z zI)(yk:ca Z vj)(O:UK Z.P Z.w Z.K Z.mg Z.base 1 "refuse_no_name" ["metres","form"] (SF ⟨Z.K,Z.cl⟩ bB false bD)):EC Z.P Z.w Z.K Z.mg Z.base (G2 Z.P Z.w Z.K) 9 f fd ["one","other","metres"] (SF ⟨Z.K,Z.cl⟩ cO false cu):=by
 refine Ek F tf (λvs H Q E h=>MK (λps p U=>by
  match ps,U with
  |[_,_,_],_=>rfl) h) (λFF A' outer s H vs Q E I h=>JG (G:=[]) (N:=["one","other","metres","known","times","plain","beside","number","fault"]) (t0:=tFw ⟨Z.K,Z.cl⟩ bj bB dN bZ cJ dO) rfl (by decide) (by decide) ?_ (λh=>Tc h) (λB H'=>?_) h)
 ·exact aP (g_ (jA λ_ _=>aO J I (aa (aj 2) (aa (aj 0) aD)))) (aP (g_ (jA λ_ _=>aO J I (aa (aj 2) (aa (aj 1) aD)))) (aP (cz (i:=3) tf.nd rfl (.inl rfl) z9)
  (aP (mO b9 rfl (tL (jA λ_ _=>aO yk I (aa (aj 0) aD))) (cX (i:=4) tf.nd rfl (d5 rfl))
   (aP (cz (i:=5) tf.nd rfl (.inl rfl) (jA λ_ _=>aO Y I (aa (aj 0) (aa (aj 4) aD)))) (aP (cz (i:=6) tf.nd rfl (.inl rfl) (jA λ_ _=>aO AX I (aa (aj 1) (aa (cW T.fI (aj 5)) aD))))
   (aP (kO (Mi λ_ _=>aR (t8 (aj 6) cF)) (bH (eN (jA λ_ _=>bw (aa aQ (aa (cW T.fI (aj 5)) aD))))) gZ)
   (bH (mO b9 rfl (rM rfl T.sF (aB (jA λ_ _=>cW T.fI (aj 5)) aM)) (cX (i:=7) tf.nd rfl (d5 rfl))
    (aP (cz (i:=8) tf.nd rfl (.inl rfl) (fC AQ I (aB (pv 2) (aB (pv 3) (aB (pv 5) (aB (pv 6) (aB (pv 7) aM)))))))
    (bH (kO (Mi λ_ _=>aR (jU (aj 8) cF)) (bH (eN (pv 8))) gZ)))))))))
  (bH (eN vB)))))
 ·exact(Tn (j4 (xT (xU G7 O I (aa (aj 2) (aa (aj 0) aD))))) (Ms (L:=[]) (ro:=false) (PS.LV (Iz (aO J I (aa (aj 2) (aa (aj 0) aD))))) (j4 (xT (xU G7 O I (aa (aj 2) (aa (aj 1) aD)))))))
def tK(F:fu Z wx f fd)(T:Zq Z)(J:ca Z zD)(O:∀d,Oy Z.P Z.w Z.K Z.mg Z.base 1 "_law_others" ["_law_e"] (spE (Z.cl 16) d (.bl false)))(U:UK Z.P Z.w Z.K Z.mg Z.base 9 "form_within" ["one","other","metres"] (SF ⟨Z.K,Z.cl⟩ cO false cu)):fo Z wx f fd:=by
 refine IC F yB [] [] [] λI=>?_;exact(aF (bR 3 yB.nd cF) (Tv 3 4 16 (p:=(onA (.int 1))) yB.nd T.C3 T.vx (aJ (Iz (aO J I (aa (aj 0) (aa (aj 1) (aa (aj 2) aD)))))) (λ_=>(j4 (xT (xU (Vg rfl) U I (aa (aj 0) (aa (aj 1) (aa (aj 2) aD))))))) (aF (dH (aR (t8 (aj 3) cF)) (aJ (bc ao)) cB) U6) (Tu λ_=>(JD (Tr 3) (JC rfl (TJ TF (TQ (zA (j:=false) (k:=false) (JB (j:=true) (nj 3 T.EM T.A9 T.sD T.zw)) (zA (j:=false) (k:=false) (JB (j:=true) (Qm 3 (dn' := "ValueError") T.EM T.BC T.sD T.vE)) (Jz (Qn 3 rfl (O _) I)))) T.tJ)))))))
def Um(F:fu Z yA f fd)(T:Zq Z)(O:ca Z wt)(J:ca Z wx)(U:ca Z wP):fo Z yA f fd:=by
 refine IC F sN [3,5] [] [] λI=>?_;exact(aF (bR 1 sN.nd (aO O I (aa (zj (aj 0) (jV ao) (jV ao)) aD))) (aF (bR 2 sN.nd (aO O I (aa (zj (aj 0) (jV ao) (jV ao)) aD))) (aF (gJ 3 sN.nd F_) (aF (fW [4] (dI (Ir (aO U I (aa (aj 1) aD)) (aO U I (aa (aj 2) aD)))) (lO 4 sN.nd) (aJ (zp 3 I (aj 4) (bw (aa (bw (aa (bw (aa aQ (aa aQ aD))) (aa tZ aD))) (aa (bw (aa (bw (aa aQ aD)) (aa tZ aD))) aD))))) b9) (aF (gJ 5 sN.nd (JH T.tq (je 3))) (pO (G1:=[5]) (aF (fW [6] (dI (zj (aj 0) xn (jV ao))) (lO 6 sN.nd) (aJ (dH (SW.st (eQ (aR (vV (iK (aj 6) ao) ao)) (dR (aR (T4 I (je 5) F_))))) (aJ (s_pop 5 (aH I (xq T.sK (je 5)) (iK (vR (aj 6) ao) (cW T.fI (je 5)))))) cB)) b9) (aF (bR 7 sN.nd (SE.val (JH T.tq (je 5)))) (pO (G1:=[]) (aF (dH (aR (vU I (aO J I (aa (aj 1) (aa (aj 2) (aa (aj 3) aD)))) ao)) (aJ (bc tZ)) cB) (aF (dH (aR (vU I (aO J I (aa (aj 1) (aa (aj 2) (aa (aj 5) aD)))) (PL T.tJ (cV (Nm (cW T.fI (aj 5)) (cW T.fI (aj 3))))))) (aJ (bc tZ)) cB) (aJ (bc (pL (cV (T3 I (aj 5) (aj 7))) (pL (cV (bT I (xq T.sK (aj 5)) (xq T.sK (aj 7)))) (mY (cV (bT I (aO J I (aa (aj 2) (aa (aj 1) (aa (aj 3) aD)))) ao))))))))))))))))))
end
end
def zE(K:W.Frag):Sp:=λvs H Q _=>∃(a:Addr) (ns:rL),vs=[V.ref a]/\Xr H/\EJ K H a (ns.map V.int)/\ns.length<=63/\∀J,Q (.bl true) J
def Uo{K:W.Frag}{cl:Nat->Addr}{vs:sx}{H:Hp}{Q:VK}{E:XK}(h:zE K vs H Q E):HA ⟨K,cl⟩ wK false vs H Q E:=by
 obtain⟨a,J,rfl,U,I,Y,k⟩:=h;have O:DI ⟨K,cl⟩ (λ_=>True) H (J.map V.int) (J.map PV.int):=jR _ _ (λi=>.int i) J;refine⟨λ_=>True,[.frz (J.map PV.int)],.bl true,.cons ?_ .nil,UN J Y,λv H' s r=>?_⟩
 ·rcases I with(I|⟨o,I⟩)|I
  ·rcases U a with z|⟨o,xs,z⟩
   ·rw[z]at I;cases I
   ·rw[z]at I;cases I
  ·exact .Q2 I O
  ·exact .lstK (.inr I) O
 ·cases r
  exact k _
structure Gf(K:W.Frag)(x:Str)(st:Stmt)(f:Addr)(fd:FuncData):Prop where
 a:W.nsIn K mainGlobals x=some (some (.ref f))
 F:G0 K x x st f fd
def km{K:W.Frag}{h:Heap}{mg:rX}{P:Program}{w:World}{base:Heap}{k:Nat}{x:Str}{ps:rj}{sp:Sp}{st:Stmt}{f:Addr}{fd:FuncData}(X:K.In h)(G:h.Ns mainGlobals mg)(F:Gf K x st f fd)(I:Binds K fd ps [])(o:EC P w K mg base IP k f fd ps sp):Oy P w K mg base k x ps sp:=Ri F.F (W.mg_of X G F.a) I o
def all_mk{l:W.OpenLaw}{w:World}{K:W.Frag}{h:Heap}{mg:rX}{fa:Addr}(X:K.In h)(G:h.Ns mainGlobals mg)(hfa:mg "law" = some (.ref fa))
  (aC_Walk:W.nsIn K mainGlobals "Walk" = some (some (.ref C_Walk)))
  (aC_LiltError:W.nsIn K mainGlobals "LiltError" = some (some (.ref C_LiltError)))
  (aC_NoForm:W.nsIn K mainGlobals "NoForm" = some (some (.ref C_NoForm)))
  (aC_NoMetre:W.nsIn K mainGlobals "NoMetre" = some (some (.ref C_NoMetre)))
  (aC_NoName:W.nsIn K mainGlobals "NoName" = some (some (.ref C_NoName)))
  (aC_NoReading:W.nsIn K mainGlobals "NoReading" = some (some (.ref C_NoReading)))
  (aC_NoRow:W.nsIn K mainGlobals "NoRow" = some (some (.ref C_NoRow)))
  (aC_NoRule:W.nsIn K mainGlobals "NoRule" = some (some (.ref C_NoRule)))
  (aC_NoWord:W.nsIn K mainGlobals "NoWord" = some (some (.ref C_NoWord)))
  (F_0:Gf K "_law_roots" nR f_0 d_0)
  (F_1:Gf K "_law_is_low" i_ f_1 d_1)
  (F_2:Gf K "_law_name" o9 f_2 d_2)
  (F_3:Gf K "_law_bond" o_ f_3 d_3)
  (F_4:Gf K "_law_next" iT f_4 d_4)
  (F_5:Gf K "_law_form" lB f_5 d_5)
  (F_6:Gf K "_law_names" jG f_6 d_6)
  (F_7:Gf K "refuse_no_name" f9 f_7 d_7)
  (F_8:Gf K "ending_of" lC f_8 d_8)
  (F_9:Gf K "times_of" qR f_9 d_9)
  (F_10:Gf K "cut_form" qT f_10 d_10)
  (F_11:Gf K "coming" j9 f_11 d_11)
  (F_12:Gf K "is_letter" ph f_12 d_12)
  (F_13:Gf K "bond_in" tE f_13 d_13)
  (F_14:Gf K "plain_rows" nT f_14 d_14)
  (F_15:Gf K "plain_rows_of" jH f_15 d_15)
  (a_16:W.findIn K (.ref C_Walk) "number_of_place" = some (some (.ref f_16)))
  (i_16:W.isFn K (.ref f_16)=true)
  (F_16:G0 K "number_of_place" "Walk.number_of_place" d_ f_16 d_16)
  (a_17:W.findIn K (.ref C_Walk) "place_behind" = some (some (.ref f_17)))
  (i_17:W.isFn K (.ref f_17)=true)
  (F_17:G0 K "place_behind" "Walk.place_behind" gb f_17 d_17)
  (a_18:W.findIn K (.ref C_Walk) "later" = some (some (.ref f_18)))
  (i_18:W.isFn K (.ref f_18)=true)
  (F_18:G0 K "later" "Walk.later" jb f_18 d_18)
  (F_19:Gf K "nodes_behind" fO f_19 d_19)
  (a_20:W.findIn K (.ref C_Walk) "ways_to_end" = some (some (.ref f_20)))
  (i_20:W.isFn K (.ref f_20)=true)
  (F_20:G0 K "ways_to_end" "Walk.ways_to_end" gw f_20 d_20)
  (F_21:Gf K "is_of_first_alone" gA f_21 d_21)
  (a_22:W.findIn K (.ref C_Walk) "is_over" = some (some (.ref f_22)))
  (i_22:W.isFn K (.ref f_22)=true)
  (F_22:G0 K "is_over" "Walk.is_over" jJ f_22 d_22)
  (F_23:Gf K "row_to" u_ f_23 d_23)
  (F_24:Gf K "first_row" pq f_24 d_24)
  (F_25:Gf K "with_last_cut" jK f_25 d_25)
  (F_26:Gf K "states_of" lE f_26 d_26)
  (F_27:Gf K "end_state" pA f_27 d_27)
  (F_28:Gf K "state_behind" j_ f_28 d_28)
  (F_29:Gf K "stands_for" nU f_29 d_29)
  (F_30:Gf K "moves_of" qU f_30 d_30)
  (F_31:Gf K "rest_of" tG f_31 d_31)
  (F_32:Gf K "rests_ahead" jc f_32 d_32)
  (a_33:W.findIn K (.ref C_Walk) "__init__" = some (some (.ref f_33)))
  (i_33:W.isFn K (.ref f_33)=true)
  (F_33:G0 K "__init__" "Walk.__init__" jn f_33 d_33)
  (F_34:Gf K "metre_within" kh f_34 d_34)
  (F_35:Gf K "said_between" kE f_35 d_35)
  (F_36:Gf K "earlier_bound" gF f_36 d_36)
  (F_37:Gf K "first_of" qW f_37 d_37)
  (F_38:Gf K "are_same" qX f_38 d_38)
  (F_39:Gf K "are_bound" pB f_39 d_39)
  (F_40:Gf K "fault_in" mG f_40 d_40)
  (F_41:Gf K "form_within" jd f_41 d_41)
  (F_42:Gf K "_law_is_refused" iJ f_42 d_42)
  (F_43:Gf K "law" uq f_43 d_43)
  (F_44:Gf K "_law_others" lV f_44 d_44)
  (pg_Walk:W.plainGet K C_Walk Str.empty=true)
  (hd_Walk:W.hasDictIn K C_Walk=true)
  (po_Walk:W.plainOver K C_Walk=true)
  (sa_Walk:W.findIn K (.ref C_Walk) "__setattr__" = some (some (.builtin "object.__setattr__")))
  (mk_Walk:W.makesIn K C_Walk=true)
  (kc_Walk:W.keepIn K (.ref C_Walk)=true)
  (nf_Walk_ahead:W.findIn K (.ref C_Walk) "ahead" = some none)
  (nf_Walk_end:W.findIn K (.ref C_Walk) "end" = some none)
  (nf_Walk_most:W.findIn K (.ref C_Walk) "most" = some none)
  (nf_Walk_numbers:W.findIn K (.ref C_Walk) "numbers" = some none)
  (nf_Walk_onward:W.findIn K (.ref C_Walk) "onward" = some none)
  (nf_Walk_places:W.findIn K (.ref C_Walk) "places" = some none)
  (vE:W.nsIn K mainGlobals "ValueError" = some none)
  (tq:W.nsIn K mainGlobals "dict" = some none)
  (tF:W.nsIn K mainGlobals "enumerate" = some none)
  (tJ:W.nsIn K mainGlobals "int" = some none)
  (sD:W.nsIn K mainGlobals "isinstance" = some none)
  (fI:W.nsIn K mainGlobals "len" = some none)
  (sK:W.nsIn K mainGlobals "list" = some none)
  (tT:W.nsIn K mainGlobals "max" = some none)
  (vF:W.nsIn K mainGlobals "min" = some none)
  (sF:W.nsIn K mainGlobals "range" = some none)
  (vS:W.nsIn K mainGlobals "reversed" = some none)
  (vT:W.nsIn K mainGlobals "sorted" = some none)
  (tw:W.nsIn K mainGlobals "tuple" = some none)
  (t3:W.nsIn K mainGlobals "zip" = some none)
  (ua:W.nsIn K mainGlobals "LETTERS" = some (some (.str "abcdefghijklmnopqrstuvwxyz" KA)))
  (sM:W.nsIn K mainGlobals "SAID" = some (some (.ref FL)))
  (wc:K.lookup FL=some ⟨.type "tuple",none,.seq #[.ref a_SAID_0,.ref a_SAID_1,.ref a_SAID_2,.ref a_SAID_3] n_SAID,sl_SAID⟩)
  (wd:K.lookup a_SAID_0=some ⟨.type "tuple",none,.seq #[.str "u" t_SAID_0_0,.bool false] n_SAID_0,sl_SAID_0⟩)
  (we:K.lookup a_SAID_1=some ⟨.type "tuple",none,.seq #[.str "u" t_SAID_1_0,.bool true] n_SAID_1,sl_SAID_1⟩)
  (wf:K.lookup a_SAID_2=some ⟨.type "tuple",none,.seq #[.str "-" t_SAID_2_0,.bool false] n_SAID_2,sl_SAID_2⟩)
  (wm:K.lookup a_SAID_3=some ⟨.type "tuple",none,.seq #[.str "-" t_SAID_3_0,.bool true] n_SAID_3,sl_SAID_3⟩)
  (ub:W.nsIn K mainGlobals "START" = some (some (.ref GS)))
  (yn:K.lookup GS=some ⟨.type "tuple",none,.seq #[.int 0 t_START_0,.int 0 t_START_1,.int 0 t_START_2] n_START,sl_START⟩)
  (xa_NoName:W.findIn K (.ref C_NoName) "__getattribute__" = some (some (.builtin "BaseException.__getattribute__")))
  (xb_NoName:W.findIn K (.ref C_NoName) "__getattr__" = some none)
  (xd_NoName:W.findIn K (.ref C_NoName) "__class__" = some (some (.builtin "object.__class__")))
  (xe_NoName:W.mroIn K C_NoName (.type "object")=some true)
  (xf_NoName:W.mroIn K C_NoName (.type "BaseException")=some true)
  (y3:W.excIn K C_NoName [.type "ValueError",.type "Exception",.type "BaseException",.type "object"] "ValueError.__new__" = true)
  (U:W.kitOne K (.ref C_NoName) (.ref C_NoForm)=some false)
  (O:W.kitOne K (.ref C_NoName) (.ref C_NoMetre)=some false)
  (Y:W.kitOne K (.ref C_NoName) (.ref C_NoName)=some true)
  (J:W.kitOne K (.ref C_NoName) (.ref C_NoReading)=some false)
  (xk_NoName_NoRow:W.kitOne K (.ref C_NoName) (.ref C_NoRow)=some false)
  (xk_NoName_NoRule:W.kitOne K (.ref C_NoName) (.ref C_NoRule)=some false)
  (xk_NoName_NoWord:W.kitOne K (.ref C_NoName) (.ref C_NoWord)=some false)
  (I:W.kitOne K (.ref C_NoName) (.type "ValueError")=some true)
  (vx:W.exmOne K (.ref C_NoName) (.ref C_LiltError)=some true):
  ∃fd:FuncData,(∀(s:Shared) (v:Value),BindsTo s fd ⟨[v],[]⟩ [("_law_script",v)])/\∀base:Heap,K.In base->base.Ns mainGlobals mg->EC l.prog w K mg base IP 11 fa fd ["_law_script"] (zE K):=by
 have mo {x:Str}{v:Value}(h:W.nsIn K mainGlobals x=some (some v)):mg x=some v:=W.mg_of X G h;have e:=hfa.symm.trans (mo F_43.a);cases e;obtain⟨_,_,kV_43,dc_43,pm_43,an_43,cd_43,ct_43,_,rfl,_,_⟩:=F_43.F.ex;refine⟨W.fnOf "law" "law" (gk uq) (dz uq) (aA uq) .none kV_43 dc_43 pm_43 an_43 cd_43 ct_43,λs v=>.of_eq rfl,λbase _ _=>?_⟩;let cl:Nat->Addr:=λn=>match n with|18=>C_Walk|10=>C_LiltError|13=>C_NoForm|12=>C_NoMetre|16=>C_NoName|15=>C_NoReading|17=>C_NoRow|11=>C_NoRule|14=>C_NoWord|_=>0
 let Z:Z7:={P:=l.prog,w,K,mg,base,cl,KA,FL,GS}
 have EF:N4 K (cl 18):=⟨pg_Walk,hd_Walk,po_Walk,sa_Walk⟩;have yv:∀(B:se) (H:Hp),Rep ⟨K,cl⟩ B H (.ref FL) B_:=λB H=>(.tupK (vs:=[V.ref a_SAID_0,V.ref a_SAID_1,V.ref a_SAID_2,V.ref a_SAID_3]) (.inr ⟨_,_,_,wc,rfl,rfl,⟨(by show 4<=sizeLine;decide),rfl⟩,(.cons rfl (.cons rfl (.cons rfl (.cons rfl .nil))))⟩) (.cons (.GN (vs:=[V.str "u",.bl false]) ⟨_,_,_,wd,rfl,rfl,⟨(by show 2<=sizeLine;decide),rfl⟩,(.cons ⟨_,rfl⟩ (.cons rfl .nil))⟩ (.cons (.str _) (.cons (.bl _) .nil))) (.cons (.GN (vs:=[V.str "u",.bl true]) ⟨_,_,_,we,rfl,rfl,⟨(by show 2<=sizeLine;decide),rfl⟩,(.cons ⟨_,rfl⟩ (.cons rfl .nil))⟩ (.cons (.str _) (.cons (.bl _) .nil))) (.cons (.GN (vs:=[V.str "-",.bl false]) ⟨_,_,_,wf,rfl,rfl,⟨(by show 2<=sizeLine;decide),rfl⟩,(.cons ⟨_,rfl⟩ (.cons rfl .nil))⟩ (.cons (.str _) (.cons (.bl _) .nil))) (.cons (.GN (vs:=[V.str "-",.bl true]) ⟨_,_,_,wm,rfl,rfl,⟨(by show 2<=sizeLine;decide),rfl⟩,(.cons ⟨_,rfl⟩ (.cons rfl .nil))⟩ (.cons (.str _) (.cons (.bl _) .nil))) .nil)))));have JA:sJ ⟨K,cl⟩ FL lR:=⟨[V.ref a_SAID_0,V.ref a_SAID_1,V.ref a_SAID_2,V.ref a_SAID_3],.inr ⟨_,_,_,wc,rfl,rfl,⟨(by show 4<=sizeLine;decide),rfl⟩,(.cons rfl (.cons rfl (.cons rfl (.cons rfl .nil))))⟩,λB H=>(.cons (.GN (vs:=[V.str "u",.bl false]) ⟨_,_,_,wd,rfl,rfl,⟨(by show 2<=sizeLine;decide),rfl⟩,(.cons ⟨_,rfl⟩ (.cons rfl .nil))⟩ (.cons (.str _) (.cons (.bl _) .nil))) (.cons (.GN (vs:=[V.str "u",.bl true]) ⟨_,_,_,we,rfl,rfl,⟨(by show 2<=sizeLine;decide),rfl⟩,(.cons ⟨_,rfl⟩ (.cons rfl .nil))⟩ (.cons (.str _) (.cons (.bl _) .nil))) (.cons (.GN (vs:=[V.str "-",.bl false]) ⟨_,_,_,wf,rfl,rfl,⟨(by show 2<=sizeLine;decide),rfl⟩,(.cons ⟨_,rfl⟩ (.cons rfl .nil))⟩ (.cons (.str _) (.cons (.bl _) .nil))) (.cons (.GN (vs:=[V.str "-",.bl true]) ⟨_,_,_,wm,rfl,rfl,⟨(by show 2<=sizeLine;decide),rfl⟩,(.cons ⟨_,rfl⟩ (.cons rfl .nil))⟩ (.cons (.str _) (.cons (.bl _) .nil))) .nil))))⟩;have yy:∀(B:se) (H:Hp),Rep ⟨K,cl⟩ B H (.ref GS) mK:=λB H=>(.tupK (vs:=[V.int 0,V.int 0,V.int 0]) (.inr ⟨_,_,_,yn,rfl,rfl,⟨(by show 3<=sizeLine;decide),rfl⟩,(.cons ⟨_,rfl⟩ (.cons ⟨_,rfl⟩ (.cons ⟨_,rfl⟩ .nil)))⟩) (.cons (.int _) (.cons (.int _) (.cons (.int _) .nil))));have zn {x:Str}(h:W.nsIn K mainGlobals x=some none):mg x=none:=W.mg_none_of X G h;have q:Zq Z:=⟨zn vE,zn tq,zn tF,zn tJ,zn sD,zn fI,zn sK,zn tT,zn vF,zn sF,zn vS,zn vT,zn tw,zn t3,mo ua,mo sM,mo ub,yv,yy,EF,y3,U,O,Y,J,xk_NoName_NoRow,xk_NoName_NoRule,xk_NoName_NoWord,I,mo aC_LiltError,mo aC_NoForm,mo aC_NoMetre,mo aC_NoName,mo aC_NoReading,mo aC_NoRow,mo aC_NoRule,mo aC_NoWord,nf_Walk_ahead,nf_Walk_end,nf_Walk_most,nf_Walk_numbers,nf_Walk_onward,nf_Walk_places,JA,⟨xa_NoName,xb_NoName,xd_NoName,xe_NoName,xf_NoName⟩,vx⟩;have HG:=λd=>km X G F_44 F_44.F.OY (pC F_44.F q d);have B7:=km X G F_0 F_0.F.OY (yZ F_0.F q);have BQ:=km X G F_1 F_1.F.OY (yc F_1.F q);have BY:=km X G F_2 F_2.F.OY (Cw F_2.F q);have BN:=km X G F_3 F_3.F.OY (Cy F_3.F q);have B6:=km X G F_4 F_4.F.MU (Cz F_4.F q BN BQ BY B7)
 have BO:=km X G F_5 F_5.F.OY (CG F_5.F q B6);have B0:=km X G F_6 F_6.F.OY (y_ F_6.F q);have zv:=Ej F_7.F (mo F_7.a) F_7.F.MU (tH F_7.F q);have CL:=BK zv;have Co:=km X G F_8 F_8.F.OY (CJ F_8.F q);have zo:=km X G F_9 F_9.F.OY (Dm F_9.F q Co);have Ch:=km X G F_10 F_10.F.OY (Dn F_10.F q);have Cf:=km X G F_11 F_11.F.MU (JW F_11.F q Ch);have CC:=km X G F_12 F_12.F.OY (CK F_12.F q);have Cb:=km X G F_13 F_13.F.MU (Hh F_13.F q CC);have zk:=km X G F_14 F_14.F.MU (za F_14.F q Cb Cf);have CI:=km X G F_15 F_15.F.MU (vh F_15.F q zk zo);have G_16:=nY F_16 q;have BH:Kj l.prog w K mg base (cl 18) _ "number_of_place" _ _:=⟨_,_,G_16,F_16.MU,⟨a_16,i_16,F_16.kp⟩⟩;have G_17:=qb F_17 q;have BI:Kj l.prog w K mg base (cl 18) _ "place_behind" _ _:=⟨_,_,G_17,F_17.Zd,⟨a_17,i_17,F_17.kp⟩⟩;have G_18:=ye F_18 q BH BI;have BG:Kj l.prog w K mg base (cl 18) _ "later" _ _:=⟨_,_,G_18,F_18.MU,⟨a_18,i_18,F_18.kp⟩⟩;have CH:=km X G F_19 F_19.F.MU (wQ F_19.F q BG);have G_20:=q8 F_20 q;have BM:Kj l.prog w K mg base (cl 18) _ "ways_to_end" _ _:=⟨_,_,G_20,F_20.MU,⟨a_20,i_20,F_20.kp⟩⟩;have zi:=km X G F_21 F_21.F.MU (q9 F_21.F q BM);have G_22:=vo F_22 q;have BE:Kj l.prog w K mg base (cl 18) _ "is_over" _ _:=⟨_,_,G_22,F_22.MU,⟨a_22,i_22,F_22.kp⟩⟩;have CO:=km X G F_23 F_23.F.MU (JX F_23.F q);have CA:=km X G F_24 F_24.F.MU (CN F_24.F q zi CH CO BE);have C2:=km X G F_25 F_25.F.OY (vq F_25.F q);have C0:=km X G F_26 F_26.F.OY (CQ F_26.F q);have ze:=km X G F_27 F_27.F.OY (CT F_27.F q);have CY:=km X G F_28 F_28.F.Zd (wR F_28.F q);have CU:=km X G F_29 F_29.F.MU (zb F_29.F q);have CF:=km X G F_30 F_30.F.bd4 (Do F_30.F q ze CU CY);have zl:=km X G F_31 F_31.F.MU (Hk F_31.F q);have CM:=km X G F_32 F_32.F.OY (yf F_32.F q CF zl C0);have G_33:=ur F_33 q ze zl CM C2;have BD:Y0 l.prog w K mg base (cl 18) _ "Walk" _ _:=⟨_,_,G_33,F_33.Zd,⟨mk_Walk,a_33,i_33,kc_Walk⟩,mo aC_Walk⟩;have CD:=km X G F_34 F_34.F.MU (wU F_34.F q CA zi BD);have CS:=km X G F_35 F_35.F.bd4 (wV F_35.F q CD);have Cn:=km X G F_36 F_36.F.MU (vy F_36.F q);have zh:=km X G F_37 F_37.F.MU (Dp F_37.F q);have zd:=km X G F_38 F_38.F.Zd (Dq F_38.F q zh);have B8:=km X G F_39 F_39.F.Zd (CV F_39.F q zd zh);have Cs:=km X G F_40 F_40.F.bd5 (Dr F_40.F q B8 zd Cn CS);have zt:=Ej F_41.F (mo F_41.a) F_41.F.Zd (wW F_41.F q Cs zk CI CL zo zv);have CB:=BK zt;have BU:=km X G F_42 F_42.F.Zd (tK F_42.F q CB HG zt);have G_43:=Um F_43.F q BO BU B0;exact G_43.imp λvs H Q E h=>Uo h
def walk{l:W.OpenLaw}{q:Program}{I:rj}{Y:(Str->Option Value)->Heap->Prop}{O:World->Heap->Prop}{d:DefRec}{K:Params->W.Frag}(hn:l.most=some 63)(J:d.params.defaults=[])
  (hY:∀(w:World) (h:Heap),O w h->(K w.params).In h)
  (F:∀(w:World) (mg:rX) (fa:Addr) (h:Heap),(K w.params).In h->h.Ns mainGlobals mg->mg d.name=some (.ref fa)->
   ∃fd:FuncData,(∀(s:Shared) (u:Value),BindsTo s fd ⟨[u],[]⟩ [("_law_script",u)])/\∀base:Heap,(K w.params).In base->base.Ns mainGlobals mg->EC l.prog w (K w.params) mg base IP 11 fa fd ["_law_script"] (zE (K w.params))):
  W.WalkO q I Y O l.row.toRowW d [] (λf vs=>PySem.call f vs):=
 L2.Xs (n:=63) (k:=11) (x := "_law_script") (CX:=λ_=>IP) (sp:=λw=>zE (K w.params)) hn (by decide) J ⟨rfl,by decide,by decide⟩ hY F (λ_ _ a ns hl U hS=>⟨a,ns,rfl,U,hS,hl,λ_=>rfl⟩) λ_ _ _ _ _ z=>z
end Lake.My
open PySem PySem.W PyProof.Rows
end
namespace PySem.W.Fast
def tw9435208091261052437:=()
def tw17877567234182748743:=()
def tw6006229275251797575:=()
def tw11302499998051254962:=()
def tw9406548404307620962:=()
def tw2417123165006294427:=()
def tw3129646229596460575:=()
def tw11170021114713713998:=()
def tw9333419217489389752:=()
def tw5672715977219519879:=()
def tw4959964082343842087:=()
def tw1847719660716912313:=()
def tw16118784965678233869:=()
def tw4561030886765890881:=()
def tw15102536386962565791:=()
def tw15730721517592774673:=()
def tw2951538487935641252:=()
def tw13636380170210060835:=()
def tw3846714215901631228:=()
def tw2872876094622995132:=()
def tw18275944418242187016:=()
def tw3665785837971581524:=()
def tw3792732174822758720:=()
def tw8613997873409218320:=()
def tw6349803788645237834:=()
def tw8177651352519685453:=()
def tw3296843045654771506:=()
def tw11990617145434303444:=()
def tw3914524781417635069:=()
def tw10416202643721009549:=()
def tw18287718057694688342:=()
def tw14224387526137728635:=()
def tw2987146282231802093:=()
def tw7489678174031932478:=()
def tw6734375489461824139:=()
def tw14065949910253079148:=()
def tw11554013366391502073:=()
def tw9241795556326946311:=()
def tw5087012992798193350:=()
def tw6027077925469515980:=()
def tw11472488438225604962:=()
def tw6946666584602672602:=()
def tw9254356480110679821:=()
def tw1854870914464737664:=()
def tw18172390814955512689:=()
def tw11151366966195011559:=()
def tw5046431353777365605:=()
def tw8704121217821263225:=()
def tw2806041179636368302:=()
def tw3799683106973277894:=()
def tw12604187653137263242:=()
def tw2418652357689202672:=()
def tw6802432783333384471:=()
def tw3781704934772101380:=()
def tw1059780474560767465:=()
def tw11715031141600503263:=()
def tw7660567521364195234:=()
def tw6149277967869066137:=()
def tw10437452595241123801:=()
def tw12004483950981791243:=()
def tw8612544199257311368:=()
def tw15860453985394360883:=()
def tw12612437290611648383:=()
def tw687579647562040939:=()
def tw12993794405949145975:=()
def tw17069645549753563888:=()
def tw565927410417353554:=()
def tw85547491373236578:=()
def tw10813430638160591502:=()
def tw3777406446785014184:=()
def tw11093310111237873832:=()
def tw3699911078834087570:=()
def tw7199257644309205871:=()
def tw10107799641773180007:=()
def tw6373010383748312410:=()
def tw10954688818743473661:=()
def tw8991879416182968283:=()
def tw2392386453435546855:=()
def tw3773483794545157362:=()
def tw2956388022493789427:=()
def tw17808382529127763883:=()
def tw8457013091224692286:=()
def tw6771614381621204645:=()
def tw15171687956965984620:=()
def tw4646304067093025938:=()
def tw10084954657732773197:=()
def tw7208390242452038273:=()
def tw17109916610157210903:=()
def tw10610602330256460294:=()
def tw8085732459090129717:=()
def tw12126610235665491819:=()
def tw4775880970021114182:=()
def tw3311946550995147740:=()
def tw6221310253604034367:=()
def tw13228400514559182100:=()
def tw6962254674692396744:=()
def tw6496951056958591700:=()
def tw312277683442007826:=()
def tw5919173629494451221:=()
def tw694966974428760499:=()
def tw12110191820156155259:=()
def tw8017759425408509764:=()
def tw2206286412044296969:=()
def tw15402404849350016723:=()
def tw3831775897623849722:=()
def tw8538920463545725239:=()
def tw16340020806612016660:=()
def tw2850159231630161702:=()
def tw4700009609354334857:=()
def tw17729933053727661893:=()
def tw14307602064338719431:=()
def tw4195898607141724115:=()
def tw10116514032969892442:=()
def tw8921505236166256684:=()
def tw17026230374367488986:=()
def tw3638195458261848287:=()
def tw51840041386230410:=()
def tw14735876140404499083:=()
def tw10724243853855277473:=()
def tw3841598028815409984:=()
def tw2934965495520997364:=()
def tw17655570624838452107:=()
def tw3188430671825974950:=()
def tw15464349137644444426:=()
def tw5063507998633012839:=()
def tw11899021562796239335:=()
def tw6893318010569015495:=()
def tw9364132322421787356:=()
def tw9171816421221202610:=()
def tw11200966380390930519:=()
def tw6206552885613820364:=()
def tw4587824153386729037:=()
def tw16485409317711725717:=()
def tw11585583134147873596:=()
def tw4902203961119091992:=()
def tw8060203837391537515:=()
def tw9034759458008523546:=()
def tw8565521046276771831:=()
def tw2053960797168914378:=()
def tw8130858593705113247:=()
def tw8039842269049623189:=()
def tw186276451363860275:=()
def tw17265887310793070577:=()
def tw3669427271638603121:=()
def tw6306930216378493595:=()
def tw15312395201394784217:=()
def tw6195930246380824743:=()
def tw14142567023268177047:=()
def tw11346974991571757311:=()
def tw550661608025223878:=()
def tw5008921074851769289:=()
def tw3856552550698750302:=()
def tw1474655684698683850:=()
def tw12132358773627982433:=()
def tw10702748523660831916:=()
def tw17375810534625440812:=()
def tw12635492290140087419:=()
def tw2568553209902182427:=()
def tw13112194783074230844:=()
def tw11453014944059434988:=()
def tw10182246520488025637:=()
def tw8517844590274226617:=()
def tw7030690130759213157:=()
def tw5523884304970332882:=()
def tw14954973860812703693:=()
def tw7859940170651369034:=()
def tw8398773777718699580:=()
def tw9103072873090886335:=()
def tw3147118835240224608:=()
def tw9282883856226695979:=()
def tw856175954934779394:=()
def tw5116104115986258844:=()
def tw11669632772830262531:=()
def tw1307807416504520725:=()
def tw9173336704021602679:=()
def tw3917682922416841842:=()
def tw3502458237675670735:=()
def tw8760673348369195992:=()
def tw6033422542192577373:=()
def tw5655409551213418170:=()
def tw13942221214929555036:=()
def tw17471061830253668208:=()
def tw6166533212310282799:=()
def tw569015473517350983:=()
def tw10306114080609232326:=()
def tw8927492807528840403:=()
def tw1188814001251494822:=()
def tw8713620674791902750:=()
def tw1995969085807631815:=()
def tw7558175771688429926:=()
def tw5285844070258834291:=()
def tw3133901888912101925:=()
def tw16403237961709085034:=()
def tw14584439183998167024:=()
def tw3403957249070525359:=()
def tw8902611906383224591:=()
def tw9687995420350963010:=()
def tw5264962216579088120:=()
def tw9208971726566084076:=()
def tw4260665419109069410:=()
end PySem.W.Fast
set_option maxRecDepth 100000 in
set_option maxHeartbeats 0 in
theorem PySem.Challenge.cw_lilt_k84_names_of_metres_holds : PySem.Challenge.rw_lilt_k84_names_of_metres.Holds := by
 w_on;o_law;k_head;(case hw=>w_witness2)
 k_fill
 refine Lake.My.walk (l:=PySem.Challenge.rw_lilt_k84_names_of_metres) rfl rfl (λw h Y=>W.kIn_of Y) ?F
 case F=>
  intro w mg fa h KX G hmg
  refine' Lake.My.all_mk KX G hmg ?q0 ?q1 ?q2 ?q3 ?q4 ?q5 ?q6 ?q7 ?q8 ?q9 ?qa ?qb ?qc ?qd ?qe ?qf ?qg ?qh ?qi ?qj ?qk ?ql ?qm ?qn ?qo ?qp ?qq ?qr ?qs ?qt ?qu ?qv ?qw ?qx ?qy ?qz ?qA ?qB ?qC ?qD ?qE ?qF ?qG ?qH ?qI ?qJ ?qK ?qL ?qM ?qN ?qO ?qP ?qQ ?qR ?qS ?qT ?qU ?qV ?qW ?qX ?qY ?qZ ?y0 ?y1 ?y2 ?y3 ?y4 ?y5 ?y6 ?y7 ?y8 ?y9 ?ya ?yb ?yc ?yd ?ye ?yf ?yg ?yh ?yi ?yj ?yk ?yl ?ym ?yn ?yo ?yp ?yq ?yr ?ys ?yt ?yu ?yv ?yw ?yx ?yy ?yz ?yA ?yB ?yC ?yD ?yE ?yF ?yG ?yH ?yI ?yJ ?yK ?yL ?yM ?yN ?yO ?yP ?yQ ?yR
  (case q0|q1|q2|q3|q4|q5|q6|q7|q8|qp|qq|qs|qt|qv|qw|qz|qA|qD|qE|qQ|qR|y4|y5|y6|y7|y8|y9|ya|yb|yc|yd|ye|yf|yg|yh|yi|yj|yk|yl|ym|yn|yo|yp|yq|yr|ys|yt|yu|yv|yw|yx|yy|yz|yA|yB|yC=>k_is)
  (case qr|qu|qx|qB|qF|qS=>refine' Lake.L2.TH ?l ?c ?k;(case l=>k_is);(case c=>k_is);(case k=>k_is))
  (case q9|qa|qb|qc|qd|qe|qf|qg|qh|qi|qj|qk|ql|qm|qn|qo|qy|qC|qG|qH|qI|qJ|qK|qL|qM|qN|qO|qP|qT|qU|qV|qW|qX|qY|qZ|y0|y1|y2|y3=>refine' ⟨?a,Lake.L2.TH ?l ?c ?k⟩;(case a=>k_is);(case l=>k_is);(case c=>k_is);(case k=>k_is))
  (case yI=>k_exc)
  (case yR=>kts_exm)
  (case yJ|yK|yL|yM|yN|yO|yP|yQ=>first | rfl | k_is | kit_is)
  (case yD|yE|yF|yG|yH=>k_is)
