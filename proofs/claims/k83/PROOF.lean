import PyProof.Rows.All
import Wide.All
import OpenK.AllK
import Wide.FinOn
import Lean
import PyProof.EqAt
import PyProof.EqKinds
import PyProof.TupleCall
import KE.KRevIter
import PyProof.ListStr
import PyProof.Rows.Range3
import PyProof.Rows.SetFrom
import PyProof.ZipIter
import PyProof.DictWalks
import PyProof.Rows.TupDisplay
import PyProof.DictItems
import KE.KPairComp
import KE.KItemsList
import KE.KSortTup
import PyProof.ListMulRoad
import KE.KIntText
import PyProof.WalkInts
import PyProof.MinMaxWalk
import PyProof.WalksMore
import PyProof.AttrMissHeap
import KE.KDictOf
import PyProof.CollectIter
import PyProof.TupleOfGen
import PySem.Challenge.RW_lilt_k83_faults_of_forms
set_option Elab.async false
set_option tactic.hygienic false
set_option linter.all false
set_option maxRecDepth 100000
set_option maxHeartbeats 4000000
set_option compiler.extract_closed false
abbrev oT:=PySem.Value->PySem.Shared->Prop
abbrev qS:=List (PySem.Addr×PySem.Obj)
abbrev qV:=List Nat
abbrev re:=List PySem.Value
abbrev rg:=List PySem.Stmt
abbrev rh:=List PySem.Expr
abbrev rj:=List PySem.Str
abbrev rL:=List Int
abbrev rS:=List PySem.Addr
abbrev rV:=Array PySem.Value
abbrev rX:=PySem.Str->Option PySem.Value
abbrev se:=PySem.Addr->Prop
abbrev ab:=@PySem.wpAny_bind
abbrev ac:=@PySem.Heap.get?_push_of_some
abbrev ae:=@Option.bind_eq_some_iff
abbrev ai:=@PySem.wpAny_pure
abbrev al:=@List.getElem?_eq_some_iff
abbrev ap:=@List.mem_cons_of_mem
abbrev ar:=@List.length_map
abbrev av:=@List.mem_cons_self
abbrev ax:=@List.getElem?_eq_getElem
abbrev ay:=@PySem.Heap.get?_push_size
abbrev aE:=@PySem.Heap.lt_size
abbrev aI:=@Nat.le_refl
abbrev ba:=@Option.bind_some
abbrev bb:=@List.size_toArray
abbrev be:=@List.map_cons
abbrev bi:=@List.mem_cons
abbrev bm:=@List.length_cons
abbrev bp:=@Option.some.inj
abbrev bq:=@Bool.false_ne_true
abbrev br:=@if_neg
abbrev bt:=@List.not_mem_nil
abbrev bv:=@Option.map_eq_some_iff
abbrev bE:=@Nat.ne_of_lt
abbrev bP:=@List.getElem?_set_ne
abbrev bS:=@if_pos
abbrev bX:=@Nat.lt_of_lt_of_le
abbrev b6:=@PySem.PassesOwn.never
abbrev b9:=@List.mem_of_getElem?
abbrev cb:=@List.length_append
abbrev cf:=@List.mem_range
abbrev ci:=@PyProof.Rows.callWith_type1
abbrev cm:=@List.getElem?_map
abbrev cp:=@List.lookup_cons
abbrev cq:=@Nat.zero_le
abbrev cv:=@List.mem_singleton
abbrev cw:=@List.getElem?_append_left
abbrev cx:=@PySem.F.slot_dict_itemiterator_next
abbrev cy:=@PySem.Heap.size_push
abbrev cE:=@Bool.and_eq_true
abbrev cK:=@decide_eq_false
abbrev cS:=@List.append_nil
abbrev c9:=@PySem.wpAny_callSpecial?_slot
abbrev db:=@List.drop_eq_getElem_cons
abbrev dc:=@PySem.wpAny_typeNameOfWhole_itemiter
abbrev de:=@List.map_append
abbrev df:=@List.mem_filter
abbrev dn:=@List.getD_eq_getElem?_getD
abbrev dv:=@List.mem_map
abbrev dy:=@PySem.wpAny_call_entry
abbrev dE:=@Nat.le_trans
abbrev dL:=@PySem.wpAny_newObj_type
abbrev dP:=@List.mem_append_right
abbrev dQ:=@List.mem_iff_getElem?
abbrev dS:=@List.mem_append
abbrev d0:=@PySem.wpAny_setField_rec
abbrev d5:=@Nat.ne_of_gt
abbrev d6:=@Bool.false_eq_true
abbrev ed:=@PySem.wpAny_field
abbrev ef:=@PySem.wpAny_typeNameOf_itemiter
abbrev eg:=@PySem.wpAny_holding
abbrev eD:=@PyProof.Rows.slot_tuple_getitem
abbrev eI:=@or_false
abbrev eJ:=@List.getElem?_eq_none
abbrev eK:=@PySem.W.kia_one
abbrev eM:=@List.length_set
abbrev eP:=@decide_eq_true
abbrev eR:=@List.getElem?_set_self
abbrev eS:=@PySem.Heap.SameBut.update
abbrev eT:=@PySem.Heap.get?_update_self
abbrev eW:=@List.exists_of_findSome?_eq_some
abbrev e9:=@PySem.wpAny_pyIter_tuple
abbrev fb:=@Or.inl
abbrev fe:=@List.map_nil
abbrev ff:=@PySem.Heap.get?_update_other
abbrev fg:=@Or.inr
abbrev fk:=@Array.getElem?_eq_getElem
abbrev fm:=@PySem.wpAny_mono
abbrev fq:=@List.length_range
abbrev ft:=@List.getLast?_eq_some_getLast
abbrev fw:=@if_false
abbrev fz:=@PySem.wpAny_seqItems
abbrev fA:=@PySem.wpAny_Call_Name_kw
abbrev fE:=@if_true
abbrev fF:=@List.any_cons
abbrev fI:=@PySem.wpAny_pyIter_list
abbrev fN:=@Int.toNat_natCast
abbrev fR:=@PySem.wpAny_isOneOf_itemiter
abbrev fT:=@beq_eq_false_iff_ne
abbrev f7:=@Array.length_toList
abbrev f8:=@List.length_pos_iff
abbrev ga:=@PySem.F.args_dict_itemiterator_next_1
abbrev gc:=@Ne.symm
abbrev gd:=@PySem.F.plain_extend_loop
abbrev gg:=@congrArg
abbrev gp:=@List.length_singleton
abbrev gs:=@True.intro
abbrev gt:=@PySem.F.entry_dict_itemiterator_next
abbrev gu:=@PySem.F.plainAttrs_list
abbrev gv:=@List.append_assoc
abbrev gx:=@List.length_nil
abbrev gy:=@List.mem_zipIdx_iff_getElem?
abbrev gz:=@Nat.le_of_lt
abbrev gE:=@Nat.lt_irrefl
abbrev gI:=@PySem.Calls.spliced_cons
abbrev gL:=@PySem.F.slot_tuple_iterator_next
abbrev gS:=@PySem.builtinLookup_eq_fast
abbrev gX:=@Classical.byContradiction
abbrev g0:=@PySem.wpAny_passesOwn
abbrev g6:=@PySem.wpAny_loadPart'
abbrev g9:=@of_decide_eq_true
abbrev hJ:=@Nat.le_succ
abbrev hU:=@PySem.F.slot_list_append
abbrev hV:=@PySem.F.type_list_append
abbrev hW:=@List.map_congr_left
abbrev hX:=@List.findSome?_cons
abbrev hZ:=@Nat.lt_succ_self
abbrev h9:=@List.any_eq_true
abbrev ia:=@List.getElem_mem
abbrev ib:=@PySem.sizeLine_eq
abbrev ic:=@List.eq_nil_of_length_eq_zero
abbrev ii:=@Nat.lt_of_le_of_lt
abbrev ij:=@PyProof.Rows.boot_list
abbrev im:=@List.map_map
abbrev ip:=@PySem.size_of_entries
abbrev iq:=@PySem.wpAny_specialOf
abbrev ix:=@List.find?_cons
abbrev iA:=@PySem.codeAny_builtin
abbrev iE:=@PySem.Paired.length
abbrev iF:=@PySem.wpAny_truthy_bool
abbrev iL:=@PySem.Calls.spliced_nil
abbrev iN:=@PySem.wpAny_dictEntries
abbrev iO:=@PySem.wpAny_rule
abbrev iP:=@List.mem_append_left
abbrev iS:=@beq_iff_eq
abbrev iX:=@List.getElem?_append_right
abbrev i6:=@PySem.Around.under_plainId
abbrev i7:=@PySem.Value.type.inj
abbrev i8:=@List.fst_mem_of_mem_zipIdx
abbrev i9:=@List.exists_cons_of_ne_nil
abbrev ja:=@List.findSome?_eq_none_iff
abbrev jp:=@PySem.wpAny_isInstance
abbrev js:=@List.length_take
abbrev jv:=@List.length_drop
abbrev jI:=@PySem.wpAny_typeOf
abbrev jS:=@List.all_eq_true
abbrev kc:=@List.exists_mem_of_ne_nil
abbrev ke:=@PySem.F.slot_tuple_getattribute
abbrev kf:=@List.all_cons
abbrev kg:=@PySem.F.args_tuple_add_2
abbrev kl:=@PySem.wpAny_attempt
abbrev kq:=@Bool.eq_iff_iff
abbrev kr:=@Option.map_some
abbrev kz:=@PySem.typeLookup_type
abbrev kA:=@PySem.wpAny_dictEpoch
abbrev kB:=@PySem.W.callWith_K
abbrev kC:=@List.find?_eq_none
abbrev kD:=@PySem.F.entry_tuple_add
abbrev kF:=@List.getElem?_cons_succ
abbrev kG:=@PyProof.Rows.boot_tuple
abbrev kH:=@PySem.F.slot_tuple_hash
abbrev kK:=@PySem.F.slot_tuple_add
abbrev kL:=@List.reverse_cons
abbrev kM:=@PySem.boot_len
abbrev kN:=@List.getElem?_set
abbrev kP:=@Array.getElem?_eq_none
abbrev kR:=@Option.map_eq_none_iff
abbrev kT:=@List.drop_eq_nil_of_le
abbrev kU:=@PySem.wpAny_notOrdered_dict
abbrev kX:=@PySem.F.slot_dict_get
abbrev k6:=@List.length_filter_le
abbrev k7:=@PySem.call_meets
abbrev k8:=@PySem.F.slot_tuple_mul
abbrev k9:=@PySem.plainId_quiet
abbrev lf:=@Prod.mk.injEq
abbrev lh:=@PySem.wpAny_updateSeq_pair
abbrev li:=@List.drop_eq_nil_iff
abbrev lj:=@PySem.wpAny_execs_nil
abbrev lx:=@List.nodup_cons
abbrev ly:=@List.forIn_cons
abbrev lI:=@PySem.wpAny_updateSeq
abbrev lP:=@PySem.F.args_tuple_iterator_next_1
abbrev lS:=@PySem.F.slot_zip_next
abbrev lT:=@PySem.F.slot_int_rmul
abbrev l0:=@List.nil_append
abbrev l4:=@List.filterMap_cons
abbrev l5:=@PySem.W.plainGet_of
abbrev l6:=@PySem.codeAny_mono
abbrev l7:=@Nat.lt_trans
abbrev l8:=@Nat.lt_or_ge
abbrev l9:=@PySem.F.entry_tuple_iterator_next
abbrev ma:=@Nat.add_zero
abbrev md:=@PySem.SeqAt.EqAt.int_str
abbrev me:=@PySem.SeqAt.EqAt.str_int
abbrev mh:=@PySem.Calls.Name_function_global
abbrev ml:=@PySem.W.kitx_tuple
abbrev mv:=@PySem.SeqAt.EqAt.int_int
abbrev mB:=@List.forIn_nil
abbrev mE:=@PySem.wpAny_setField
abbrev mI:=@PySem.wpAny_newTuple
abbrev mM:=@PySem.wpAny_fieldsOf
abbrev mN:=@Int.emod_lt_of_pos
abbrev mS:=@PySem.F.entry_extend_loop
abbrev mT:=@PySem.wpAny_binaryOp_repeat_ref
abbrev ng:=@List.getLast?_eq_getElem?
abbrev nh:=@List.nodup_append
abbrev nr:=@PySem.wpAny_sequenceKey
abbrev ny:=@List.any_eq_false
abbrev nE:=@decide_eq_true_eq
abbrev nI:=@Nat.le_succ_of_le
abbrev nK:=@PySem.wpAny_letGo
abbrev nN:=@List.getLast?_map
abbrev nS:=@Option.isSome_iff_exists
abbrev nV:=@PySem.wpAny_comprehension_free
abbrev nX:=@PySem.wpAny_onRaise
abbrev og:=@PySem.wpAny_forIn_list
abbrev oj:=@PySem.wpAny_pyNext_tuple_item
abbrev om:=@List.getElem?_replicate
abbrev oo:=@List.cons_append
abbrev oq:=@PySem.F.args_dict_get_3
abbrev ow:=@PySem.noFill_tuple_add
abbrev ox:=@List.length_eq_zero_iff
abbrev oy:=@List.take_length
abbrev oz:=@PyProof.Rows.boot_range
abbrev oB:=@PySem.F.plain_list_iadd
abbrev oC:=@List.getElem?_cons_zero
abbrev oP:=@List.mem_flatMap
abbrev oQ:=@PySem.W.cellsFrom_some
abbrev o0:=@PySem.F.entry_dict_get
abbrev pc:=@PySem.typeIs_int
abbrev pd:=@List.find?_cons_of_neg
abbrev pf:=@Nat.succ_mul
abbrev pi:=@Classical.epsilon_spec
abbrev pj:=@List.filter_eq_nil_iff
abbrev pw:=@List.of_mem_zip
abbrev pz:=@Int.emod_nonneg
abbrev pE:=@List.length_replicate
abbrev pS:=@Array.getElem?_toList
abbrev pT:=@Bool.beq_eq_decide_eq
abbrev pV:=@List.set_append_right
abbrev p0:=@List.singleton_append
abbrev p4:=@List.range_eq_range'
abbrev p5:=@PySem.isSubtype_stop
abbrev p9:=@Nat.add_le_add_left
abbrev qc:=@List.length_reverse
abbrev qf:=@Nat.add_assoc
abbrev qh:=@PySem.wpAny_standAt
abbrev qk:=@PySem.rangeSize_one
abbrev qo:=@PySem.seq_tuple_add
abbrev qq:=@Bool.or_false
abbrev qr:=@PySem.wpAny_handled
abbrev qv:=@Nat.zero_add
abbrev qA:=@List.any_map
abbrev qB:=@Sum.inl.inj
abbrev qE:=@Prod.ext
def r0_q (a:True:=by rfl):True:=trivial
def r0_:Lean.Syntax:=r0_q._auto_1
def r1_q (a:True:=by decide):True:=trivial
def r1_:Lean.Syntax:=r1_q._auto_1
def r2_q (a:True:=by decide +kernel):True:=trivial
def r2_:Lean.Syntax:=r2_q._auto_1
def r3_q (a:True:=by first | exact .inl rfl | exact .inr rfl | assumption):True:=trivial
def r3_:Lean.Syntax:=r3_q._auto_1
def r4_q (a:True:=by intro _;rfl):True:=trivial
def r4_:Lean.Syntax:=r4_q._auto_1
def r6_q (a:True:=by first | rfl | assumption):True:=trivial
def r6_:Lean.Syntax:=r6_q._auto_1
def r8_q (a:True:=by intros;rfl):True:=trivial
def r8_:Lean.Syntax:=r8_q._auto_1
def r9_q (a:True:=by intro _ _;rfl):True:=trivial
def r9_:Lean.Syntax:=r9_q._auto_1
def r10_q (a:True:=by simp):True:=trivial
def r10_:Lean.Syntax:=r10_q._auto_1
noncomputable section
namespace Lake.L2
open PySem PySem.Spec PyProof.Rows
variable {h:Heap}{Q:Unit->Shared->Prop}
section
variable {prog:Program}{w:World}{κ:Type}[DecidableEq κ]{kd:HeapKind prog w κ}{A:Around}{E:oT}{s:Shared}{d a it:Addr}{xs:List (κ×Addr×Value)}{k:κ}{v:Value}
def ET(kd:HeapKind prog w κ)(h:Heap)(d:Addr)(xs:List (κ×Addr×Value)):Prop:=
 ∃o es,h.get? d=some o/\o.ExactDict/\o.data=.dict es xs.length/\es.toList=xs.map (entryOfKey kd)/\(∀x∈xs,kd.is h x.1 x.2.1)/\(xs.map (·.1)).Nodup
def ET.of(m:ET kd h d xs):h.DictOfH kd d xs:=let ⟨o,es,q⟩:=m;⟨o,es,_,q⟩
def wz(D:kd.room A)(u:kd.is s.heap k a)(m:ET kd s.heap d xs)(hz:xs.length<=sizeLine)
  (q:∀h',ET kd h' d (storedH xs k a v)->Heap.SameBut d s.heap h'->Q () {s with heap:=h',toks:=s.toks+kd.draws k}):wpAny (model prog w) A (dictSet d (.ref a) v) Q E s:=by
 obtain⟨o,es,c,F,b,n,r,l⟩:=m;unfold dictSet
 try with_reducible refine eg ?_
 refine ab (kd.pyHash D u ?_);unfold dictSetHashed
 try with_reducible refine eg ?_
 refine ab (wpAny_dictFind_heap (s:={s with toks:=s.toks+kd.draws k}) D u c b n r l (λC=>?_) λj p B=>?_)
 ·have G:k∉xs.map (·.1):=not_mem_keys_of_get C
  have e:=storedH_new (atKey_none_of_get C) a v;rw[e]at q;refine ab (iO (wpAny_updateDictKeys (hz:=by have:=ip n;omega) (s:={s with toks:=s.toks+kd.draws k}) c b (q _ ⟨_,_,eT _ c (Obj.isFreed_of_dict (Obj.data_mapDictKeys b _)),F.mapDictKeys _,by rw[cb];exact Obj.data_mapDictKeys b _,?_,λx i=>?_,?_⟩ (eS ..))))
  ·simp[n,entryOfKey]
  ·rcases dS.mp i with z|z
   ·exact kd.keeps (r x z) c b (eS ..)
   ·rw[cv.mp z];exact kd.keeps u c b (eS ..)
  ·rw[de]
   exact nh.mpr ⟨l,by simp,λx i y f z=>G (by rw[be,fe,cv]at f;have f:y=k:=f;subst f z;exact i)⟩
 ·have e:=storedH_old (atKey_of_get l B) a v
  rw[e]at q;refine ab (iO (ab (wpAny_updateDict (s:={s with toks:=s.toks+kd.draws k}) c b (wpAny_point (q _ ⟨_,_,eT _ c (Obj.isFreed_of_dict (Obj.data_mapDict b _)),F.mapDict _,by rw[ar];exact Obj.data_mapDict b _,?_,λx i=>?_,?_⟩ (eS ..))))))
  ·have y:=modify_map_putAt (entryOfKey kd) (λe:DictEntry=>{e with val:=v}) k v (λ_ _=>rfl) l B
   rw[←n]at y;cases es;simpa using y
  ·obtain⟨y,f,rfl⟩:=dv.mp i
   unfold putAt;split<;>exact kd.keeps (r y f) c b (eS ..)
  ·rw[keys_map_putAt];exact l
def Mp(b:kd.room A.in1)(f:kd.is s.heap k a)(m:ET kd s.heap d xs)(hz:xs.length<=sizeLine)
  (q:∀h',ET kd h' d (storedH xs k a v)->Heap.SameBut d s.heap h'->Q () {s with heap:=h',toks:=s.toks+kd.draws k}):wpAny (model prog w) A (setItem (.ref d) (.ref a) v) Q E s:=by
 have ty:=m.of.typeIs;unfold setItem
 try with_reducible refine eg ?_
 refine ab (nr ty (by decide) (ab (c9 (name:=Str.ofString "__setitem__") ty slot_dict_setitem (dy slot_dict_setitem ty entry_dict_setitem ?_ (args_dict_setitem _ _ _)))));show wpAny _ _ (Builtin.Dict.notOrdered "__setitem__" ⟨[.ref d,.ref a,v],[]⟩ >>= _) _ _ s;refine ab (kU ty ?_);show wpAny _ _ (dictSet d (.ref a) v >>= λ_=>_) _ _ s;exact ab (wz b f m hz λh' c e=>ai ⟨.none,rfl,ai (q h' c e)⟩)
end
abbrev Key:=Sum Int Str
noncomputable def qM:Key->Value->Bool
 |.inl k,v=>Value.isInt k v
 |.inr x,v=>Value.isStrOf x v
noncomputable def Mq(w:World):Key->Int
 |.inl k=>hashInt k
 |.inr x=>hashStr w x
theorem cQ:∀{k:Key}{v:Value},qM k v=true->(∃i t,k=Sum.inl i/\v=Value.int i t)\/(∃x t,k=Sum.inr x/\v=Value.str x t)
 |.inl i,v,h=>by
  obtain⟨t,e⟩:=Value.isInt_shape (k:=i) (v:=v) h;exact .inl ⟨i,t,rfl,e⟩
 |.inr x,v,h=>by
  obtain⟨t,e⟩:=Value.isStrOf_shape (x:=x) (v:=v) h;exact .inr ⟨x,t,rfl,e⟩
def uB(i:Int)(t:Tok):qM (.inl i) (.int i t)=true:=by simp[qM,Value.isInt]
def uC(x:Str)(t:Tok):qM (.inr x) (.str x t)=true:=by simp[qM,Value.isStrOf]
def uD(a b:Int):decide ((Sum.inl a:Key)=Sum.inl b)=(a == b):=by
 by_cases e:a=b
 ·subst e;simp
 ·have h:¬ (Sum.inl a:Key)=Sum.inl b:=λq=>e (qB q)
  rw[cK h];exact(fT.mpr e).symm
def JH(a b:Str):decide ((Sum.inr a:Key)=Sum.inr b)=decide (a=b):=by
 by_cases e:a=b
 ·subst e;simp
 ·have h:¬ (Sum.inr a:Key)=Sum.inr b:=λq=>e (Sum.inr.inj q)
  rw[cK h,cK e]
def BW(a:Int)(b:Str):decide ((Sum.inl a:Key)=Sum.inr b)=false:=cK (λq=>nomatch q)
def BZ(a:Str)(b:Int):decide ((Sum.inr a:Key)=Sum.inl b)=false:=cK (λq=>nomatch q)
def iD(prog:Program)(w:World):PySem.KeyKind prog w Key where
 is:=qM
 hash:=Mq w
 inj:=λv a b ha hb=>by
  rcases cQ ha with⟨i,t,rfl,rfl⟩|⟨x,t,rfl,rfl⟩
  ·rcases cQ hb with⟨j,u,rfl,e⟩|⟨y,u,rfl,e⟩
   ·injection e with e1 _;rw[e1]
   ·exact nomatch e
  ·rcases cQ hb with⟨j,u,rfl,e⟩|⟨y,u,rfl,e⟩
   ·exact nomatch e
   ·injection e with e1 _;rw[e1]
 byValue:=λk v h=>by
  rcases cQ h with⟨i,t,rfl,rfl⟩|⟨x,t,rfl,rfl⟩<;>rfl
 pyHash:=λhv h=>by
  rcases cQ hv with⟨i,t,rfl,rfl⟩|⟨x,t,rfl,rfl⟩
  ·exact wpAny_pyHash_int h
  ·exact wpAny_pyHash_str h
 eqBool:=λhu hv h=>by
  rcases cQ hu with⟨i,t,rfl,rfl⟩|⟨x,t,rfl,rfl⟩
  ·rcases cQ hv with⟨j,u,rfl,rfl⟩|⟨y,u,rfl,rfl⟩
   ·rw[uD]at h;exact wpAny_eqBool_int h
   ·rw[BW]at h;exact md i t y u _ _ _ _ h
  ·rcases cQ hv with⟨j,u,rfl,rfl⟩|⟨y,u,rfl,rfl⟩
   ·rw[BZ]at h;exact me x t j u _ _ _ _ h
   ·rw[JH]at h;exact wpAny_eqBool_str h
 «strs»:=λk x t v h=>by
  rcases cQ h with⟨i,u,rfl,e⟩|⟨y,u,rfl,e⟩
  ·exact nomatch e
  ·injection e with e1 _
   subst e1;cases v<;>rfl
noncomputable def eU:Key->Value->Bool
 |.inl k,.bool b=>decide (k=if b=true then 1 else 0)
 |k,v=>qM k v
variable {v:Value}
def cg{k:Key}(h:eU k v=true):(∃b,k=Sum.inl (if b=true then 1 else 0)/\v=Value.bool b)\/(∃i t,k=Sum.inl i/\v=Value.int i t)\/(∃x t,k=Sum.inr x/\v=Value.str x t):=by
 unfold eU at h;split at h
 ·exact .inl ⟨_,gg _ (g9 h),rfl⟩
 ·exact .inr (cQ h)
def qN{k:Key}(h:qM k v=true):eU k v=true:=by
 rcases cQ h with⟨i,t,rfl,rfl⟩|⟨x,t,rfl,rfl⟩<;>exact h
def FN(b:Bool):eU (.inl (if b=true then 1 else 0)) (.bool b)=true:=eP rfl
def R_(a b:Bool):decide ((Sum.inl (if a=true then 1 else 0):Key)=Sum.inl (if b=true then 1 else 0))=(a == b):=by
 rw[uD];cases a<;>cases b<;>rfl
variable {w:World}{A:Around}{E:oT}
def JK{prog:Program}{s:Shared}(b:Bool){Q:Int->Shared->Prop}(h:Q (hashInt (if b=true then 1 else 0)) {s with toks:=s.toks+1}):
  wpAny (model prog w) A (pyHash (.bool b)) Q E s:=by
 refine W.pyHash_slot (s:=s) (T := "bool") (by cases b<;>exact PySem.typeIs_bool s _) PySem.F.slot_bool_hash entry_int_hash (args_int_hash _) (by rw[beq_builtin_none]) (.inl rfl) ?_;have e:reduceHash (rawHash (if b=true then 1 else 0))=hashInt (if b=true then 1 else 0):=by cases b<;>decide
 show wpAny _ _ (do ret (←mkInt (rawHash (if b=true then 1 else 0)))) _ _ s;refine fm (wpAny_ret_mkInt (Q:=λv c=>∃t,v=.int (rawHash (if b=true then 1 else 0)) t/\c={s with toks:=s.toks+1}) ⟨_,rfl,rfl⟩) (λf c i=>?_) λ_ _ x=>x;obtain⟨v,rfl,t,rfl,rfl⟩:=i;exact⟨_,_,rfl,by rw[e];exact h⟩
def wA(prog:Program)(w:World):PySem.KeyKind prog w Key where
 is:=eU
 hash:=Mq w
 inj:=λv a b ha hb=>by
  rcases cg ha with⟨c,rfl,rfl⟩|⟨i,t,rfl,rfl⟩|⟨x,t,rfl,rfl⟩<;>rcases cg hb with⟨d,rfl,e⟩|⟨j,u,rfl,e⟩|⟨y,u,rfl,e⟩<;>cases e<;>rfl
 byValue:=λk v h=>by
  rcases cg h with⟨c,rfl,rfl⟩|⟨i,t,rfl,rfl⟩|⟨x,t,rfl,rfl⟩<;>rfl
 pyHash:=λhv h=>by
  rcases cg hv with⟨c,rfl,rfl⟩|⟨i,t,rfl,rfl⟩|⟨x,t,rfl,rfl⟩
  ·exact JK c h
  ·exact wpAny_pyHash_int h
  ·exact wpAny_pyHash_str h
 eqBool:=λhu hv h=>by
  rcases cg hu with⟨c,rfl,rfl⟩|⟨i,t,rfl,rfl⟩|⟨x,t,rfl,rfl⟩
  ·rcases cg hv with⟨d,rfl,rfl⟩|⟨j,u,rfl,rfl⟩|⟨y,u,rfl,rfl⟩
   ·rw[R_]at h;exact SeqAt.EqAt.bool_bool _ _ _ _ _ _ h
   ·rw[uD]at h;exact SeqAt.EqAt.bool_int _ _ _ _ _ _ _ h
   ·rw[BW]at h;exact SeqAt.EqAt.bool_str _ _ _ _ _ _ _ h
  ·rcases cg hv with⟨d,rfl,rfl⟩|⟨j,u,rfl,rfl⟩|⟨y,u,rfl,rfl⟩
   ·rw[uD]at h;exact SeqAt.EqAt.int_bool _ _ _ _ _ _ _ h
   ·rw[uD]at h;exact wpAny_eqBool_int h
   ·rw[BW]at h;exact md i t y u _ _ _ _ h
  ·rcases cg hv with⟨d,rfl,rfl⟩|⟨j,u,rfl,rfl⟩|⟨y,u,rfl,rfl⟩
   ·rw[BZ]at h;exact SeqAt.EqAt.str_bool _ _ _ _ _ _ _ h
   ·rw[BZ]at h;exact me x t j u _ _ _ _ h
   ·rw[JH]at h;exact wpAny_eqBool_str h
 «strs»:=λk x t v h=>by
  rcases cg h with⟨c,rfl,e⟩|⟨i,u,rfl,e⟩|⟨y,u,rfl,e⟩
  ·exact nomatch e
  ·exact nomatch e
  ·injection e with e1 _
   subst e1;cases v<;>rfl
def FT(prog:Program)(w:World)(i:Int)(t:Tok):(iD prog w).is (.inl i) (.int i t)=true:=uB i t
def FW(prog:Program)(w:World)(x:Str)(t:Tok):(iD prog w).is (.inr x) (.str x t)=true:=uC x t
inductive D5 where
 |k (x:Key)|nil|cons (a b:D5)
 deriving DecidableEq
def D5.tp:List D5->D5
 |[]=>.nil
 |a::l=>.cons a (tp l)
theorem D5.LU:∀{l m:List D5},D5.tp l=D5.tp m->l=m
 |[],[],_=>rfl
 |[],_::_,e=>nomatch e
 |_::_,[],e=>nomatch e
 |a::l,b::m,e=>by
  have c:D5.cons a (.tp l)=D5.cons b (.tp m):=e;injection c with e1 e2;rw[e1,D5.LU e2]
def D5.Yw{l:List D5}{x:Key}(e:D5.tp l=.k x):False:=by
 cases l<;>exact nomatch e
def GV(R:D5->Value->Prop)(h:Heap)(ks:List D5)(a:Addr):Prop:=∃o items n,h.get? a=some o/\o.cls=.type "tuple" /\ o.data=.seq items n/\Paired R ks items.toList
def HC:Nat->Heap->D5->Value->Prop
 |0,_,n,v=>∃x,n=.k x/\eU x v=true
 |d+1,h,n,v=>(∃x,n=.k x/\eU x v=true)\/∃ns a,n=.tp ns/\v=.ref a/\GV (HC d h) h ns a
def HC.leaf{d:Nat}{x:Key}(e:eU x v=true):HC d h (.k x) v:=by
 cases d with
 |zero=>exact⟨x,rfl,e⟩
 |succ d=>exact .inl ⟨x,rfl,e⟩
noncomputable def nH(w:World):D5->Int×List Int
 |.k x=>(Mq w x,[])
 |.nil=>(reduceHash (Builtin.Tuple.tupleHashOf []),[])
 |.cons a b=>(reduceHash (Builtin.Tuple.tupleHashOf ((nH w a).1::(nH w b).2)),(nH w a).1::(nH w b).2)
theorem JL(w:World):∀l:List D5,(nH w (.tp l)).2=l.map λx=>(nH w x).1
 |[]=>rfl
 |a::l=>by
  show(nH w a).1::(nH w (.tp l)).2=_;rw[JL w l];rfl
def V6(w:World)(l:List D5):(nH w (.tp l)).1=reduceHash (Builtin.Tuple.tupleHashOf (l.map λx=>(nH w x).1)):=by
 cases l with
 |nil=>simp[nH,D5.tp]
 |cons a l=>rw[←JL];rfl
noncomputable def nD:D5->Nat
 |.k _=>1
 |.nil=>1
 |.cons a b=>nD a+nD b
theorem PX:∀l:List D5,nD (.tp l)=(l.map nD).sum+1
 |[]=>rfl
 |a::l=>by
  show nD a+nD (.tp l)=_;rw[PX l,be,List.sum_cons];omega
variable {a b:Addr}{R:D5->Value->Prop}{ks:List D5}{u:Value}
section
variable {P:Program}{w:World}
theorem Paired.inj{f c:Type}{R:f->c->Prop}(e:∀x y v,R x v->R y v->x=y):∀{l m:List f}{vs:List c},Paired R l vs->Paired R m vs->l=m
 |_,_,_,.nil,.nil=>rfl
 |_,_,_,.cons h t,.cons h' t'=>by rw[e _ _ _ h h',Paired.inj e t t']
def GV.inj{R:D5->Value->Prop}{h:Heap}{x y:List D5}{a:Addr}(l:∀x y v,R x v->R y v->x=y)(i:GV R h x a)(j:GV R h y a):x=y:=by
 obtain⟨o,q,n,e1,_,e3,r⟩:=i;obtain⟨o',its',p,f,_,c,m⟩:=j;obtain rfl:o=o':=bp (e1.symm.trans f);rw[e3]at c;injection c with e _;subst e;exact Paired.inj l r m
def B_{x:Key}(h:eU x (.ref a)=true):False:=by
 rcases cg h with⟨_,_,e⟩|⟨_,_,_,e⟩|⟨_,_,_,e⟩<;>exact nomatch e
def Ca{x y:Key}(f:eU x v=true)(l:eU y v=true):x=y:=by
 rcases cg f with⟨c,rfl,rfl⟩|⟨i,t,rfl,rfl⟩|⟨x,t,rfl,rfl⟩<;>rcases cg l with⟨d,rfl,e⟩|⟨j,u,rfl,e⟩|⟨y,u,rfl,e⟩<;>cases e<;>rfl
theorem HC.inj:∀{d:Nat}{h:Heap}(x y:D5) (v:Value),HC d h x v->HC d h y v->x=y
 |0,h,x,y,v,⟨p,e,i⟩,⟨q,f,c⟩=>by rw[e,f,Ca i c]
 |d+1,h,x,y,v,hx,hy=>by
  rcases hx with⟨p,e,i⟩|⟨ns,a,e,ev,t⟩
  ·rcases hy with⟨q,f,c⟩|⟨ms,b,f,fv,u⟩
   ·rw[e,f,Ca i c]
   ·rw[fv]at i;exact(B_ i).elim
  ·rcases hy with⟨q,f,c⟩|⟨ms,b,f,fv,u⟩
   ·rw[ev]at c;exact(B_ c).elim
   ·rw[ev]at fv
    cases fv;rw[e,f,GV.inj (λx y v=>HC.inj x y v) t u]
theorem gY{e c:Type}{F G:e->c->Prop}:∀{l₁:List e}{l₂:List c},Paired F l₁ l₂->(∀a b,F a b->G a b)->Paired G l₁ l₂
 |_,_,.nil,_=>.nil
 |_,_,.cons h t,f=>.cons (f _ _ h) (gY t f)
def GV.keeps{f:D5->Value->Prop}{h':Heap}{d:Addr}{o:Obj}{es ep}(x:GV R h ks a)(m:∀k v,R k v->f k v)(r:h.get? d=some o)(q:o.data=.dict es ep)(l:Heap.SameBut d h h'):GV f h' ks a:=by
 obtain⟨o',items,n,e,j,c,i⟩:=x;have p:a≠d:=by
  rintro rfl;obtain rfl:o'=o:=bp (e.symm.trans r);rw[q]at c;exact nomatch c
 exact⟨o',items,n,(l.2 a p).trans e,j,c,gY i m⟩
theorem HC.keeps:∀{n:Nat}{h h':Heap}{d:Addr}{o:Obj} {es ep}(k:D5) (v:Value),HC n h k v->h.get? d=some o->o.data=.dict es ep->Heap.SameBut d h h'->HC n h' k v
 |0,h,h',d,o,es,ep,k,v,x,_,_,_=>x
 |n+1,h,h',d,o,es,ep,k,v,x,ho,hd,hs=>x.imp id λ⟨c,a,e,f,t⟩=>⟨c,a,e,f,t.keeps (λk v q=>HC.keeps k v q ho hd hs) ho hd hs⟩
def GV.typeIs{s:Shared}(x:GV R s.heap ks a):s.TypeIs (.ref a) "tuple" := let ⟨o,_,_,ho,hc,_⟩:=x;⟨o,ho,hc⟩
def GV.MQ(x:GV R h ks a):∃items,h.IsTuple a items/\Paired R ks items.toList:=let ⟨o,EA,n,ho,hc,hd,r⟩:=x;⟨EA,⟨o,ho,hc,n,hd⟩,r⟩
def Qv{s:Shared}{Q:Int->Shared->Prop}(y:A.units<cLine)(m:GV R s.heap ks a)
  (r:∀k v (c:Shared) (Q':Int->Shared->Prop) (E':oT),R k v->c.heap=s.heap->Q' (nH w k).1 {c with toks:=c.toks+nD k}->wpAny (model P w) A.in1 (pyHash v) Q' E' c)
  (h:Q (nH w (.tp ks)).1 {s with toks:=s.toks+nD (.tp ks)}):wpAny (model P w) A (pyHash (.ref a)) Q E s:=by
 have e:=m.typeIs;obtain⟨o,items,n,C,_,z,p⟩:=m;unfold pyHash
 first|unfold pyHashByItsType|skip
 first|refine ab (wpAny_cRoomFor_or (.inr y) ?_)|skip
 refine ab (iq e kH.lookup ?_);show wpAny _ _ (if(some (Value.builtin "tuple.__hash__") == some Value.none)=true then _ else _) Q E s;rw[br (by rw[beq_builtin_none];exact bq)];refine ab (iq e kH.lookup ?_);show wpAny _ _ (callSpecialIfBoundUnlessNone? (.ref a) "__hash__" _ >>= _) Q E s;refine ab (wpAny_callSpecialIfBoundUnlessNone?_slot e kH (dy kH e F.entry_tuple_hash ?_ (F.args_tuple_hash_1 _)));show wpAny _ _ (Builtin.Tuple.tupleItemsOf (.ref a) >>= _) _ _ s;refine ab (wpAny_tupleItemsOf C z ?_);refine ab ?_;rw[←Array.forIn_toList];refine og _
  (λrest (b:Array Int) c=>∃done left,ks=done++left/\Paired R left rest/\b.toList=done.map (λx=>(nH w x).1)/\c={s with toks:=s.toks+(done.map nD).sum})
  _ ?_ ?_ _ _ ⟨[],ks,rfl,p,rfl,rfl⟩
 ·rintro x rest b c ⟨done,left,rfl,j,i,rfl⟩
  cases j with
  |@cons k _ l _ q B=>
   refine ab (r _ _ _ _ _ q rfl ?_);exact ai ⟨done++[k],l,by simp,B,by simp[i],by simp[qf]⟩
 ·rintro b c ⟨done,left,rfl,j,i,rfl⟩
  cases j;rw[cS,V6,PX,←qf]at h;show wpAny _ _ (retInt (Builtin.Tuple.tupleHashOf b.toList)) _ _ _;rw[i];refine wpAny_ret_mkInt ?_;generalize List.map (λx=>(nH w x).1) done=f at h;show wpAny _ _ (if(decide (-(2:Int) ^ 63<=Builtin.Tuple.tupleHashOf f)&&decide (Builtin.Tuple.tupleHashOf f<2 ^ 63))=true then _ else _) Q E _;unfold reduceHash at h;by_cases hr:(decide (-(2:Int) ^ 63<=Builtin.Tuple.tupleHashOf f)&&decide (Builtin.Tuple.tupleHashOf f<2 ^ 63))=true
  ·rw[bS hr]
   rw[bS hr]at h;exact ai h
  ·rw[br hr]
   rw[br hr]at h;exact ab (iO (ai h))
def in1_units(A:Around):A.in1.units=A.units+1:=rfl
def Aa{s:Shared}{x:Key}{Q:Int->Shared->Prop}(c:eU x v=true)(h:Q (nH w (.k x)).1 {s with toks:=s.toks+nD (.k x)}):wpAny (model P w) A (pyHash v) Q E s:=
 (wA P w).pyHash (k:=x) c h
theorem HC.hash:∀{d:Nat}{A:Around}{E:oT}{s:Shared}{k:D5}{v:Value}{Q:Int->Shared->Prop},A.units+d<cLine->HC d s.heap k v->Q (nH w k).1 {s with toks:=s.toks+nD k}->wpAny (model P w) A (pyHash v) Q E s
 |0,A,E,s,k,v,Q,_,⟨x,e,c⟩,h=>by subst e;exact Aa c h
 |d+1,A,E,s,k,v,Q,hu,x,h=>by
  rcases x with⟨x,e,c⟩|⟨ns,a,e,ev,t⟩
  ·subst e;exact Aa c h
  ·subst e ev
   exact Qv (by omega) t (λk v j f i r es h'=>HC.hash (d:=d) (by rw[in1_units];omega) (by rw[es];exact r) h') h
theorem xH{R:D5->Value->Prop}:∀{x y:List D5}{us vs:re}(e:Nat->Bool),Paired R x us->Paired R y vs->(∀j p q,x[j]?=some p->y[j]?=some q->e j=decide (p=q))->
  ((List.range (min us.length vs.length)).all e&&us.length == vs.length)=decide (x=y)
 |_,_,_,_,e,.nil,.nil,_=>by simp
 |_,_,_,_,e,.nil,.cons _ _,_=>by simp
 |_,_,_,_,e,.cons _ _,.nil,_=>by simp
 |_,_,_,_,e,.cons (a:=p) (l₁:=x) (l₂:=us) h t,.cons (a:=q) (l₁:=y) (l₂:=vs) h' t',he=>by
  have f:=xH (λj=>e (j+1)) t t' λj p q a b=>he (j+1) p q (by simpa using a) (by simpa using b);have c:=he 0 p q rfl rfl;rw[bm,bm,Nat.succ_min_succ,List.range_succ_eq_map,kf,List.all_map];have e1:((us.length+1) == (vs.length+1))=(us.length == vs.length):=by simp
  rw[e1,Bool.and_assoc,c];have e2:((List.range (min us.length vs.length)).all (e∘Nat.succ)&&us.length == vs.length)=decide (x=y):=f;rw[e2];by_cases z:p=q
  ·subst z;simp
  ·simp[z]
theorem qO{f c:Type}{F:f->c->Prop}:∀{l₁:List f}{l₂:List c}{i:Nat}{y:c},Paired F l₁ l₂->l₂[i]?=some y->∃x,l₁[i]?=some x/\F x y
 |_,_,_,_,.nil,e=>by simp at e
 |_,_,0,_,.cons r _,e=>by simp at e;subst e;exact⟨_,rfl,r⟩
 |_,_,i+1,y,.cons _ t,e=>by
  obtain⟨x,j,l⟩:=qO (i:=i) (y:=y) t (by simpa using e);exact⟨x,by simpa using j,l⟩
def Hz{s:Shared}{x y:List D5}(n:∀x y v,R x v->R y v->x=y)(D:A.units<cLine)(l:GV R s.heap x a)(m:GV R s.heap y b)
  (C:∀p q u v,R p u->R q v->SeqAt.EqAt A.in1 s u v (decide (p=q))):SeqAt.EqAt A s (.ref a) (.ref b) (decide (x=y)):=by
 by_cases hab:a=b
 ·subst hab
  rw[GV.inj n l m,eP rfl];exact SeqAt.EqAt.same _
 ·obtain⟨us,o,i⟩:=l.MQ
  obtain⟨vs,z,f⟩:=m.MQ;have I:=iE i;have H:=iE f;have key:=SeqAt.RcAt.tuples (e:=λj=>match x[j]?,y[j]? with|some p,some q=>decide (p=q)|_,_=>false) o z D λj B F=>by
   have e1:us.toList[j]?=some us[j]:=by simp[B]
   have e2:vs.toList[j]?=some vs[j]:=by simp[F]
   obtain⟨p,ep,G⟩:=qO i e1;obtain⟨q,eq,r⟩:=qO f e2;simp only[ep,eq];exact C p q _ _ G r
  refine SeqAt.EqAt.of_refs hab ?_;have c:=xH (R:=R) (λj=>match x[j]?,y[j]? with|some p,some q=>decide (p=q)|_,_=>false) i f λj p q a b=>by simp only[a,b]
  rw[←c];simpa using key
def Cd{s:Shared}{x:Key}(e:A.units<cLine)(j:eU x u=true)(t:GV R s.heap ks a):SeqAt.EqAt A s u (.ref a) false/\SeqAt.EqAt A s (.ref a) u false:=by
 obtain⟨us,f,_⟩:=t.MQ;rcases cg j with⟨c,_,rfl⟩|⟨i,t,_,rfl⟩|⟨x,t,_,rfl⟩
 ·exact⟨.bool_tuple c f e,.tuple_bool c f e⟩
 ·exact⟨.int_tuple i t f e,.tuple_int i t f e⟩
 ·exact⟨.str_tuple x t f e,.tuple_str x t f e⟩
def Gv{s:Shared}{x y:Key}(c:eU x u=true)(f:eU y v=true):SeqAt.EqAt A s u v (decide (D5.k x=D5.k y)):=λprog w E Q h=>by
 have e:decide (D5.k x=D5.k y)=decide (x=y):=by simp
 rw[e]at h;exact(wA prog w).eqBool (a:=x) (b:=y) c f h
theorem HC.eq:∀{d:Nat}{A:Around}{s:Shared}(x y:D5) (u v:Value),A.units+d<cLine->HC d s.heap x u->HC d s.heap y v->SeqAt.EqAt A s u v (decide (x=y))
 |0,A,s,x,y,u,v,_,⟨p,e,i⟩,⟨q,f,c⟩=>by subst e f;exact Gv i c
 |d+1,A,s,x,y,u,v,hu,hx,hy=>by
  rcases hx with⟨p,e,i⟩|⟨ns,a,e,ev,t⟩
  ·rcases hy with⟨q,f,c⟩|⟨ms,b,f,fv,r⟩
   ·subst e f;exact Gv i c
   ·subst e f fv
    rw[cK (λz=>D5.Yw z.symm)];exact(Cd (by omega) i r).1
  ·rcases hy with⟨q,f,c⟩|⟨ms,b,f,fv,r⟩
   ·subst e f ev
    rw[cK (λz=>D5.Yw z)];exact(Cd (by omega) c t).2
   ·subst e f ev fv
    have e:decide (D5.tp ns=D5.tp ms)=decide (ns=ms):=by
     by_cases z:ns=ms
     ·simp[z]
     ·rw[cK z,cK (λq=>z (D5.LU q))]
    rw[e];exact Hz (λx y v=>HC.inj x y v) (by omega) t r λp q u v j l=>HC.eq p q u v (by rw[in1_units];omega) j l
def Mr{s:Shared}{f:Nat}{Q:Bool->Shared->Prop}(j:GV R s.heap ks a)
  (q:∀k v (Q':Bool->Shared->Prop),R k v->Q' true s->wpAny (model P w) A (eqIsQuiet f v) Q' E s) (h:Q true s):wpAny (model P w) A (eqIsQuiet (f+1) (.ref a)) Q E s:=by
 have i:=j.typeIs;obtain⟨o,items,n,B,_,y,l⟩:=j;unfold eqIsQuiet;refine ab (iq i F.slot_tuple_eq.lookup ?_);show wpAny _ _ (isInstance (.ref a) (.type "tuple") >>= _) _ _ s;refine ab (jp i isSubtype_tuple_tuple ?_);simp only[Bool.not_true,d6,fw];refine ab (fz B y ?_);refine ab ?_;show wpAny _ _ (forIn items _ _) _ _ s;rw[←Array.forIn_toList];refine og _ (λrest r c=>r.1=none/\c=s/\∃left,Paired R left rest) _ ?_ ?_ _ _ ⟨rfl,rfl,ks,l⟩
 ·rintro v rest r c ⟨e,rfl,left,p⟩
  cases p with
  |cons m z=>
   refine ab (q _ _ _ m ?_);simp only[Bool.not_true,d6,fw];exact ai ⟨rfl,rfl,_,z⟩
 ·rintro⟨D,C⟩ c ⟨e,rfl,_⟩
  simp only at e;subst e;exact ai h
def xJ{s:Shared}{x:Key}{f:Nat}{Q:Bool->Shared->Prop}(c:eU x v=true)(h:Q true s):wpAny (model P w) A (eqIsQuiet f v) Q E s:=by
 rw[eqIsQuiet_byValue _ ((wA P w).byValue _ _ c)];exact ai h
theorem HC.quiet:∀{d f:Nat}{A:Around}{E:oT}{s:Shared}{k:D5}{v:Value}{Q:Bool->Shared->Prop},d<f->HC d s.heap k v->Q true s->wpAny (model P w) A (eqIsQuiet f v) Q E s
 |0,f,A,E,s,k,v,Q,_,⟨x,_,c⟩,h=>xJ c h
 |d+1,0,A,E,s,k,v,Q,hf,x,h=>absurd hf (Nat.not_lt_zero _)
 |d+1,f+1,A,E,s,k,v,Q,hf,x,h=>by
  rcases x with⟨x,_,c⟩|⟨ns,a,_,ev,t⟩
  ·exact xJ c h
  ·subst ev
   exact Mr t (λk v e r h'=>HC.quiet (d:=d) (by omega) r h') h
def eZ(P:Program)(w:World):HeapKind P w (List D5) where
 is:=λh ks a=>GV (HC 2 h) h ks a
 hash:=λks=>(nH w (.tp ks)).1
 draws:=λks=>nD (.tp ks)
 room:=λA=>A.units+3<cLine
 inj:=λhx hy=>GV.inj (λx y v=>HC.inj x y v) hx hy
 keeps:=λx ho hd hs=>x.keeps (λk v q=>HC.keeps k v q ho hd hs) ho hd hs
 pyHash:=λhu hk h=>HC.hash (d:=3) hu (.inr ⟨_,_,rfl,rfl,hk⟩) h
 eqBool:=λ{A E s x y a b Q} hu hx hy h=>Hz (λx y v=>HC.inj x y v) (show A.units<cLine from ii (Nat.le_add_right _ _) hu) hx hy (λp q u v h1 h2=>HC.eq p q u v (by rw[in1_units];have:A.units+3<cLine:=hu;omega) h1 h2) P w E Q h
 quiet:=λhk h=>HC.quiet (d:=3) (f:=8) (by decide) (.inr ⟨_,_,rfl,rfl,hk⟩) h
def IG(c:A.units+9<cLine):(eZ P w).room A.in1:=by
 show A.in1.units+3<cLine;rw[in1_units];omega
end
inductive V where
 |Ee|bl (b:Bool)|int (i:Int)|str (x:Str)|Si (b:Array UInt8)|ZN (b:UInt64)|ref (a:Addr)|ty (n:String)
 deriving DecidableEq
abbrev sC:=List V
def RelV:V->Value->Prop
 |.Ee,u=>u=Value.none
 |.bl b,u=>u=Value.bool b
 |.int i,u=>∃t,u=Value.int i t
 |.str x,u=>∃t,u=Value.str x t
 |.Si b,u=>∃t,u=Value.bytes b t
 |.ZN b,u=>∃t,u=Value.float b t
 |.ref a,u=>u=Value.ref a
 |.ty n,u=>u=Value.type n
abbrev Vals:List V->List Value->Prop:=Paired RelV
def Vals.length{xs:sC}{us:re}(r:Vals xs us):xs.length=us.length:=iE r
theorem Vals.get:∀{xs:sC}{us:re}{i:Nat}{x:V},Vals xs us->xs[i]?=some x->∃u,us[i]?=some u/\RelV x u
 |_,_,_,_,.nil,e=>by simp at e
 |_,_,0,_,.cons r _,e=>by simp at e;subst e;exact⟨_,rfl,r⟩
 |_,_,i+1,x,.cons _ t,e=>by
  obtain⟨u,c,f⟩:=Vals.get (i:=i) (x:=x) t (by simpa using e);exact⟨u,by simpa using c,f⟩
theorem Vals.set{x:V}{u:Value}(r:RelV x u):∀{xs:sC}{us:re}(i:Nat),Vals xs us->Vals (xs.set i x) (us.set i u)
 |_,_,_,.nil=>.nil
 |_,_,0,.cons _ t=>.cons r t
 |_,_,i+1,.cons q t=>.cons q (Vals.set r i t)
theorem Vals.append:∀{xs ys:sC}{us ws:re},Vals xs us->Vals ys ws->Vals (xs++ys) (us++ws)
 |_,_,_,_,.nil,s=>s
 |_,_,_,_,.cons r t,s=>.cons r (Vals.append t s)
theorem Vals.take:∀{xs:sC}{us:re}(n:Nat),Vals xs us->Vals (xs.take n) (us.take n)
 |_,_,0,_=>.nil
 |_,_,_+1,.nil=>.nil
 |_,_,n+1,.cons r t=>.cons r (Vals.take n t)
theorem Vals.drop:∀{xs:sC}{us:re}(n:Nat),Vals xs us->Vals (xs.drop n) (us.drop n)
 |_,_,0,r=>r
 |_,_,_+1,.nil=>.nil
 |_,_,n+1,.cons _ t=>Vals.drop n t
def Ic:Option V->Option Value->Prop
 |some v,some u=>RelV v u
 |none,none=>True
 |_,_=>False
def KV{κ:Type}:List (κ×V)->List (κ×Value)->Prop:=Paired λ(p:κ×V) (q:κ×Value)=>p.1=q.1/\RelV p.2 q.2
noncomputable def kV:Key->V
 |.inl i=>.int i
 |.inr x=>.str x
inductive HO where
 |lst (xs:sC)
 |tup (xs:sC)
 |dK (kvs:List (Key×V))|dT (kvs:List (List D5×V))
 |set (S:Int->Bool) (n:Nat)
 |ins (C dx:Addr) (fs:List (Str×V))
 |own (x:Addr)
 |xd (fs:List (Str×V))
 |met (f x:Addr)
 |rng (lo hi:Int)
 |frz (o:Obj) (u:HO)
 |ZO (ps:rV)
 |ext (NF:Heap->Prop)
abbrev Hp:=Addr->Option HO
def upd(H:Hp)(a:Addr)(o:HO):Hp:=λb=>if b=a then some o else H b
variable {H:Hp}
def aB{o:HO}:upd H a o a=some o:=by unfold upd;rw[bS rfl]
def aG{o:HO}(h:b≠a):upd H a o b=H b:=by unfold upd;rw[br h]
def cO{o u:HO}(h:H a=some o)(h':H b=some u)(d:o≠u):a≠b:=by
 intro e;subst e;rw[h]at h';exact d (bp h')
def aF{o:HO}(h:H a=some o)(h':H b=none):a≠b:=by
 intro e;subst e;rw[h]at h';cases h'
def LF(K:W.Frag)(a:Addr)(xs:sC):Prop:=∃(o:Obj) (EA:rV) (n:Nat),K.lookup a=some o/\o.cls=.type "tuple" /\ o.data=.seq EA n/\(EA.size<=sizeLine/\o.dict=none)/\Vals xs EA.toList
def KB(ns:List D5)(vs:sC):Prop:=∃x b,ns=[.k (.inr x),.k (.inl (if b=true then 1 else 0))]/\vs=[.str x,.bl b]
def NV(K:W.Frag)(H:Hp):Nat->D5->V->Prop
 |0,n,v=>∃x,n=.k x/\v=kV x
 |d+1,n,v=>(∃x,n=.k x/\v=kV x)\/∃ns a vs,n=.tp ns/\v=.ref a/\(H a=some (.tup vs)\/LF K a vs)/\(Paired (NV K H d) ns vs\/KB ns vs)
def MS(K:W.Frag)(H:Hp)(ks:List D5)(vs:sC):Prop:=Paired (NV K H 2) ks vs\/KB ks vs
abbrev Sg(K:PySem.W.Frag)(H:Hp)(b:Addr)(ks:List D5):Prop:=∃vs,H b=some (.tup vs)/\MS K H ks vs
def GI(K:W.Frag)(H:Hp)(b:Addr)(ks:List D5):Prop:=Sg K H b ks\/∃vs,LF K b vs/\MS K H ks vs
theorem NV.keeps{K:W.Frag}{H H':Hp}(c:∀b ys,H b=some (.tup ys)->H' b=some (.tup ys)):∀(d:Nat) (n:D5) (v:V),NV K H d n v->NV K H' d n v
 |0,_,_,h=>h
 |d+1,n,v,h=>h.imp id λ⟨f,a,vs,e,i,t,q⟩=>⟨f,a,vs,e,i,t.imp (λz=>c _ _ z) id,q.imp (λz=>gY z λx y=>NV.keeps c d x y) id⟩
def MS.keeps{K:W.Frag}{H H':Hp}{ks:List D5}{vs:sC}(h:MS K H ks vs)(c:∀b ys,H b=some (.tup ys)->H' b=some (.tup ys)):MS K H' ks vs:=h.imp (λz=>gY z λx y=>NV.keeps c 2 x y) id
def GI.keeps{K:W.Frag}{H H':Hp}{b:Addr}{ks:List D5}(c:GI K H b ks)(f:∀b ys,H b=some (.tup ys)->H' b=some (.tup ys)):GI K H' b ks:=c.imp (λ⟨vs,e,k⟩=>⟨vs,f _ _ e,k.keeps f⟩) λ⟨vs,e,k⟩=>⟨vs,e,k.keeps f⟩
def ZP(h:Heap)(a:Addr)(items:rV):Prop:=∃o,h.get? a=some o/\o.cls=.type "tuple" /\ ∃n,o.data=.seq items n/\o.dict=none
def ZP.tup{h:Heap}{a:Addr}{items:rV}(x:ZP h a items):IsTup h a items:=let ⟨o,h1,h2,n,h3,_⟩:=x;⟨o,h1,h2,n,h3⟩
section
variable (P:Program)(w:World)(K:W.Frag)
def EG(H:Hp)(h:Heap)(a:Addr):HO->Prop
 |.lst xs=>xs.length<=sizeLine/\∃(EA:re) (n:Nat),Vals xs EA/\h.get? a=some {cls:=.type "list",data:=.seq EA.toArray n}
 |.tup xs=>xs.length<=sizeLine/\∃EA:List Value,Vals xs EA/\ZP h a EA.toArray
 |.dK kvs=>kvs.length<=sizeLine/\(a == sysModules)=false/\∃vs,KV kvs vs/\h.DictOf (iD P w) a vs
 |.dT kvs=>kvs.length<=sizeLine/\(a == sysModules)=false/\∃xs:List (List D5×Addr×Value),
   Paired (λ(p:List D5×V) (q:List D5×Addr×Value)=>p.1=q.1/\GI K H q.2.1 p.1/\RelV p.2 q.2.2) kvs xs /\
   ∃o es ep,h.get? a=some o/\o.ExactDict/\o.data=.dict es ep/\es.toList=xs.map (entryOfKey (eZ P w))/\(xs.map (·.1)).Nodup/\ep=xs.length
 |.set S n=>h.SetOf (intKind P w) a S n
 |.ins C dx fs=>H dx=some (.own a)/\fs.length<=1000/\dx≠a/\h.get? a=some (W.instObj C dx) /\
   ∃mA,h.Ns1 dx mA/\(∀f,Ic (fs.lookup f) (mA f))/\PySem.Within mA (fs.map (·.1))
 |.own _=>∃o,h.get? a=some o
 |.xd fs=>∃mA,h.Ns1 a mA/\∀f,Ic (fs.lookup f) (mA f)
 |.rng lo hi=>∃t u v,h.get? a=some {cls:=.type "range",data:=.fields #[.int lo t,.int hi u,.int 1 v]}
 |.frz o u=>h.get? a=some o/\EG H h a u
 |.ZO ps=>h.get? a=some {cls:=.none,data:=.fields ps}
 |.met f x=>h.get? a=some (W.methodObj (.ref f) (.ref x))
 |.ext NF=>NF h/\(∃o,h.get? a=some o)/\∀h1 h2:Heap,NF h1->(∀o,h1.get? a=some o->h2.get? a=some o)->NF h2
def IA(H:Hp)(h:Heap):Prop:=∀a o,H a=some o->EG P w K H h a o
end
section
variable {P:Program}{w:World}{K:W.Frag}{H H':Hp}{h h':Heap}{a:Addr}{o:HO}
def EG.lt(x:EG P w K H h a o):a<h.objs.size:=by
 cases o with
 |lst xs=>obtain⟨_,_,_,_,e⟩:=x;exact aE e
 |tup xs=>obtain⟨_,_,_,p⟩:=x;exact p.tup.lt
 |dK kvs=>obtain⟨_,_,_,_,o,_,_,e,_⟩:=x;exact aE e
 |dT kvs=>obtain⟨_,_,_,_,o,_,_,e,_⟩:=x;exact aE e
 |set S n=>obtain⟨o,_,_,_,e,_⟩:=x;exact aE e
 |ins C i fs=>obtain⟨_,_,_,e,_⟩:=x;exact aE e
 |own y=>obtain⟨_,e⟩:=x;exact aE e
 |xd fs=>obtain⟨_,⟨_,_,_,e,_⟩,_⟩:=x;exact aE e
 |rng lo c=>obtain⟨_,_,_,e⟩:=x;exact aE e
 |frz l u=>obtain⟨e,_⟩:=x;exact aE e
 |ZO ps=>exact aE (show h.get? a=some _ from x)
 |met f y=>exact aE (show h.get? a=some _ from x)
 |ext j=>obtain⟨_,⟨_,e⟩,_⟩:=x;exact aE e
theorem Paired.ZQ{e c:Type}{F G:e->c->Prop}:∀{l₁:List e}{l₂:List c},Paired F l₁ l₂->(∀a b,F a b->G a b)->Paired G l₁ l₂
 |_,_,.nil,_=>.nil
 |_,_,.cons r t,f=>.cons (f _ _ r) (Paired.ZQ t f)
def EG.NN(x:EG P w K H h a o)(k:∀b u,(b=a\/H b=some (.own a))->h.get? b=some u->h'.get? b=some u)
  (D:∀b,H b=some (.own a)->H' b=some (.own a)) (B:∀b xs,H b=some (.tup xs)->H' b=some (.tup xs)):EG P w K H' h' a o:=by
 induction o with
 |lst xs=>obtain⟨z,l,n,r,e⟩:=x;exact⟨z,l,n,r,k _ _ (.inl rfl) e⟩
 |tup xs=>obtain⟨z,l,r,i,e,c⟩:=x;exact⟨z,l,r,i,k _ _ (.inl rfl) e,c⟩
 |dK kvs=>obtain⟨z,y,vs,r,i,es,ep,e,c⟩:=x;exact⟨z,y,vs,r,i,es,ep,k _ _ (.inl rfl) e,c⟩
 |dT kvs=>
  obtain⟨z,y,xs,r,i,es,ep,e,c⟩:=x;exact⟨z,y,xs,Paired.ZQ r λp q z=>⟨z.1,z.2.1.keeps B,z.2.2⟩,i,es,ep,k _ _ (.inl rfl) e,c⟩
 |set S n=>obtain⟨i,es,ep,t,e,c⟩:=x;exact⟨i,es,ep,t,k _ _ (.inl rfl) e,c⟩
 |ins C I fs=>
  obtain⟨d,z,F,e,j,⟨m,es,ep,e2,c⟩,r⟩:=x;exact⟨D _ d,z,F,k _ _ (.inl rfl) e,j,⟨m,es,ep,k _ _ (.inr d) e2,c⟩,r⟩
 |own y=>obtain⟨i,e⟩:=x;exact⟨i,k _ _ (.inl rfl) e⟩
 |xd fs=>obtain⟨j,⟨m,es,ep,e,c⟩,r⟩:=x;exact⟨j,⟨m,es,ep,k _ _ (.inl rfl) e,c⟩,r⟩
 |rng lo J=>obtain⟨t,u,v,e⟩:=x;exact⟨t,u,v,k _ _ (.inl rfl) e⟩
 |frz i u G=>obtain⟨e,q⟩:=x;exact⟨k _ _ (.inl rfl) e,G q⟩
 |ZO ps=>
  have e:h.get? a=some {cls:=.none,data:=.fields ps}:=x;show h'.get? a=some {cls:=.none,data:=.fields ps};exact k a _ (.inl rfl) e
 |met f y=>
  have e:h.get? a=some (W.methodObj (.ref f) (.ref y)):=x;show h'.get? a=some (W.methodObj (.ref f) (.ref y));exact k a _ (.inl rfl) e
 |ext L=>obtain⟨p,⟨o,e⟩,st⟩:=x;exact⟨st _ _ p λo q=>k _ _ (.inl rfl) q,⟨o,k _ _ (.inl rfl) e⟩,st⟩
def IA.lt(x:IA P w K H h)(e:H a=some o):a<h.objs.size:=(x a o e).lt
def IA.fresh(x:IA P w K H h)(e:h.objs.size<=a):H a=none:=by
 cases q:H a with
 |none=>rfl
 |some u=>exact absurd (bX (x.lt q) e) (gE _)
def IA.kept(x:IA P w K H h)(k:∀b u,h.get? b=some u->h'.get? b=some u):IA P w K H h':=λa o e=>
 (x a o e).NN (λb u _ q=>k b u q) (λ_ q=>q) λ_ _ q=>q
def IA.laid(x:IA P w K H h)(k:∀b u,h.get? b=some u->h'.get? b=some u)(i:h.objs.size<=a)(new:EG P w K (upd H a o) h' a o):IA P w K (upd H a o) h':=λb u e=>by
 have f:=x.fresh i;by_cases hb:b=a
 ·subst hb;rw[aB]at e;cases e;exact new
 ·rw[aG hb]at e
  exact(x b u e).NN (λc v _ q=>k c v q) (λc q=>by rw[aG (aF q f)];exact q) λc xs q=>by rw[aG (aF q f)];exact q
end
def Rd(H:Hp)(a:Addr)(u:HO):Prop:=H a=some u\/∃o,H a=some (.frz o u)
variable {P:Program}{K:W.Frag}
def Rd.ok{u:HO}(r:Rd H a u)(x:IA P w K H h):EG P w K H h a u:=by
 rcases r with r|⟨o,r⟩
 ·exact x a u r
 ·obtain⟨_,q⟩:=x a _ r
  exact q
def Mut:Option HO->Prop
 |some (.lst _)=>True
 |some (.dK _)=>True
 |some (.dT _)=>True
 |some (.set _ _)=>True
 |some (.ins _ _ _)=>True
 |some (.ext _)=>True
 |_=>False
section
variable {P:Program}{w:World}{K:W.Frag}{H:Hp}{h h':Heap}{x e:Addr}{o':HO}
def IA.write(ok:IA P w K H h)(l:Mut (H x))(m:e=x\/H e=some (.own x))(k:∀b u,b≠e->h.get? b=some u->h'.get? b=some u)(B:∃u,h'.get? e=some u)
  (new:EG P w K (upd H x o') h' x o'):IA P w K (upd H x o') h':=λb u q=>by
 have f:∀c y,H c=some (.own y)->c≠x:=λc y r z=>by subst z;rw[r]at l;exact l
 have i:∀c xs,H c=some (.tup xs)->c≠x:=λc xs r z=>by subst z;rw[r]at l;exact l
 by_cases hb:b=x
 ·subst hb;rw[aB]at q;cases q;exact new
 ·rw[aG hb]at q
  by_cases ZR:b=e
  ·have n:H b=some (.own x):=by
    rcases m with z|z
    ·exact absurd (ZR.trans z) hb
    ·rw[ZR];exact z
   rw[q]at n;cases n;obtain⟨v,p⟩:=B;exact⟨v,by rw[ZR];exact p⟩
  ·refine(ok b u q).NN (λc v j r=>k c v ?_ r) (λc r=>by rw[aG (f c b r)];exact r) λc xs r=>by rw[aG (i c xs r)];exact r
   rcases j with rfl|j
   ·exact ZR
   ·rintro rfl
    rcases m with z|z
    ·exact f c b j z
    ·rw[j]at z;cases z;exact hb rfl
end
structure Un(fs ex:rS)(H H':Hp)(h h':Heap):Prop where
 keep:∀b o,h.get? b=some o->H b=none->b∉fs->b∉ex->h'.get? b=some o
 slot:∀b o,h.get? b=some o->H b=none->b∈fs->b∉ex->∃sl,h'.get? b=some {o with slots:=sl}
 free:∀b o,h.get? b=some o->H b=none->b∉ex->H' b=none
 there:∀b o,h.get? b=some o->b∉ex->∃o',h'.get? b=some o'
 NO:∀b xs,H b=some (.tup xs)->H' b=some (.tup xs)
 MU:∀b o u,H b=some (.frz o u)->H' b=some (.frz o u)
 NR:∀b ps,H b=some (.ZO ps)->∃more,H' b=some (.ZO (ps++more))
section
variable {fs fs' ex ex':rS}{H H1 H2:Hp}{h h1 h2 h':Heap}{a x e:Addr}{o:HO}
def Un.any(u:Un fs ex H H1 h h1){c:Obj}(q:h.get? b=some c)(n:H b=none)(f:b∉ex):∃i,h1.get? b=some {c with slots:=i}:=by
 by_cases hb:b∈fs
 ·exact u.slot b c q n hb f
 ·exact⟨c.slots,u.keep b c q n hb f⟩
def Un.kept(k:∀b u,h.get? b=some u->h'.get? b=some u):Un fs ex H H h h':=
 ⟨λb c q _ _ _=>k b c q,λb c q _ _ _=>⟨c.slots,k b c q⟩,λ_ _ _ n _=>n,λb c q _=>⟨c,k b c q⟩,λ_ _ q=>q,λ_ _ _ q=>q,λ_ ps q=>⟨#[],by rw[q];simp⟩⟩
def Un.refl:Un fs ex H H h h:=Un.kept λ_ _ q=>q
def Un.laid(k:∀b u,h.get? b=some u->h'.get? b=some u)(f:h.objs.size<=a)(c:H a=none):Un fs ex H (upd H a o) h h' where
 keep:=λb u q _ _ _=>k b u q
 slot:=λb u q _ _ _=>⟨u.slots,k b u q⟩
 free:=λb u q n _=>by rw[aG (bE (bX (aE q) f))];exact n
 there:=λb u q _=>⟨u,k b u q⟩
 NO:=λb xs q=>by rw[aG (aF q c)];exact q
 MU:=λb u xs q=>by rw[aG (aF q c)];exact q
 NR:=λb ps q=>⟨#[],by rw[aG (aF q c),q];simp⟩
def Un.write(c:Mut (H x))(l:e=x\/H e=some (.own x))(k:∀b u,b≠e->h.get? b=some u->h'.get? b=some u)(m:∃u,h'.get? e=some u):Un fs ex H (upd H x o) h h':=by
 have j:∀b,H b=none->b≠x:=λb n z=>by subst z;rw[n]at c;exact c
 have i:∀b,H b=none->b≠e:=λb n z=>by
  subst z;rcases l with r|r
  ·exact j b n r
  ·rw[n]at r;cases r
 have f:∀b u,H b=some u->¬ Mut (some u)->b≠x:=λb u q p z=>by subst z;rw[q]at c;exact p c
 refine⟨λb u q n _ _=>k b u (i b n) q,λb u q n _ _=>⟨u.slots,k b u (i b n) q⟩,λb u q n _=>by rw[aG (j b n)];exact n,λb u q _=>?_,
  λb xs q=>by rw[aG (f b _ q λz=>z)];exact q,λb u xs q=>by rw[aG (f b _ q λz=>z)];exact q,λb ps q=>⟨#[],by rw[aG (f b _ q λz=>z),q];simp⟩⟩
 by_cases ZR:b=e
 ·subst ZR;exact m
 ·exact⟨u,k b u ZR q⟩
end
noncomputable def trk(h:Heap)(H:Hp):List Addr:=(List.range h.objs.size).filter λa=>(H a).isSome
noncomputable def sI(h:Heap)(H:Hp):Heap:=W.hideAll h (trk h H)
def JM(h:Heap)(H:Hp):(sI h H).objs.size=h.objs.size:=W.hideAll_size _ _
def Ms{o:Obj}(e:h.get? b=some o)(n:H b=none):(sI h H).get? b=some o:=
 W.hideAll_get _ e λc=>by
  have q:(H b).isSome=true:=(df.mp c).2;rw[n]at q;simp at q
def Qw{o:Obj}(e:(sI h H).get? b=some o):h.get? b=some o/\H b=none:=by
 have c:h.get? b=some o:=W.of_hideAll (trk h H) e;refine⟨c,?_⟩;cases q:H b with
 |none=>rfl
 |some x=>
  have f:b∈trk h H:=df.mpr ⟨cf.mpr (aE c),by simp[q]⟩;have z:(sI h H).get? b=none:=W.hideAll_none (trk h H) f;rw[z]at e;cases e
noncomputable def Qx(g h:Heap)(L:Addr):List (Addr×Obj):=(List.range h.objs.size).filterMap λa=>if a=L\/(g.get? a).isSome=true then none else(h.get? a).map λo=>(a,o)
noncomputable def rest(g h:Heap)(L d:Addr):List (Addr×Obj):=(Qx g h L).filter λp=>decide (p.1≠d)
structure Mod(K:W.Frag)(mg:rX)(base:Heap):Prop where
 KG:K.In base
 glob:base.Ns mainGlobals mg
 blt:∃mb,base.Ns builtinsNs mb/\∀x:Str,x ≠ "__name__" -> mb x=bootBuiltins x
 nolimit:base.NoLimit
structure Cx where
 prog:Program
 w:World
 K:W.Frag
 mg:Str->Option Value
 base:Heap
 A:Around
 N:List Str
 s₀:Shared
 H₀:Hp
 env:Env
 outer:List Env
 stack:List Env
 ex:List Addr
 fn:Str->Bool
 calm:Bool
 pn:List (Addr×Obj)
 xe:Value->Shared->Prop
noncomputable def FC(l:List Env):List Addr:=l.filterMap (·.frame)
abbrev Cx.fs(X:Cx):List Addr:=FC X.outer
abbrev HK(X:Cx)(e:Expr)(es:rh):Prop:=starEach (e::es) X.env=(false,eval e X.env)::starEach es X.env
abbrev Lo(X:Cx)(p:Pos)(es:rh):Prop:=(backTo p (starEach es X.env)).any (·.1)=false
abbrev Kt(x:Str):Prop:=(x == ("__debug__" : Str))=false
abbrev XZ(x:Str):Prop:=(x == ("__classdict__" : Str))=false
abbrev SV(X:Cx)(x:Str):Prop:=X.fn x=true\/X.env.scope.names.lookup x=some .local
abbrev Zb(X:Cx)(p:Pos)(es:rh):Prop:=((backTo p (starEach es X.env)).all (λx=>!x.1)&&(backToKw p (keywordEach [] X.env)).all (λx=>x.1.isSome)&&decide (es.length+([]:List Keyword).length+(if([]:List Keyword).isEmpty then 0 else 1)<30))=true
abbrev SY(X:Cx)(o:Expr)(m:Str):Prop:=attributeBase o m X.env (eval o X.env)=eval o X.env
def S0(sc:Scope)(x:Str):Prop:=sc.names.lookup x=some .local\/sc.names.lookup x=some .cell\/sc.names.lookup x=some .free
def Loc(sc:Scope)(x:Str):Prop:=sc.names.lookup x=some .local\/sc.names.lookup x=some .cell
def Look(env:Env)(h:Heap)(m:rX)(x:Str)(u:Value):Prop:=
 (env.kindOf x=some .local/\m x=some u)\/((env.kindOf x=some .cell\/env.kindOf x=some .free)/\∃c,env.cells.lookup x=some c/\h.IsCell c (some u))
structure Cx.Ok(X:Cx):Prop where
 mod:Mod X.K X.mg X.base
 kind:X.env.scope.kind=.function
 glob:X.env.globals=mainGlobals
 blt:X.env.builtins=builtinsNs
 above:X.s₀.heap.objs.size<=X.env.locals
 inj:∀x y c,X.env.cells.lookup x=some c->X.env.cells.lookup y=some c->x=y
 has:∀x,(X.env.kindOf x=some .cell\/X.env.kindOf x=some .free)->∃c,X.env.cells.lookup x=some c
 cab:∀x c,X.fn x=true->X.env.cells.lookup x=some c->X.s₀.heap.objs.size<=c
 hd:X.calm=true->X.A.handled=none
 frames:X.A.frames=some X.stack
 stk:X.stack=X.outer\/(X.stack=X.env::X.outer/\X.env.frame=some X.env.locals)
 exf:∀b∈X.ex,b≠X.env.locals/\∀x c,X.env.cells.lookup x=some c->c≠b
 bs:∀b o,X.base.get? b=some o->X.s₀.heap.get? b=some o/\X.H₀ b=none
 Yx:X.base.objs.size<=X.s₀.heap.objs.size
 S1:∀b o,X.base.get? b=some o->b∉X.ex
 Yy:∀b∈X.ex,b∉X.fs
 LG:X.s₀.heap.FunFrames X.base X.outer
 ZS:∀b∈X.fs,X.H₀ b=none
structure Inv(X:Cx)(D3:qS)(FV:List (Option V))(H:Hp)(s:Shared):Prop where
 ok:X.Ok
 os:s.os=X.s₀.os
 bare:AllBare s.gens
 base:Un X.fs X.ex X.H₀ H X.s₀.heap s.heap
 loc:∃m,s.heap.Ns X.env.locals m/\∀(i:Nat) (x:Str) (v:V),X.N[i]?=some x->FV[i]?=some (some v)->S0 X.env.scope x->∃u,RelV v u/\Look X.env s.heap m x u
 cell:∀x c,X.env.cells.lookup x=some c->∃v,s.heap.IsCell c v
 free:H X.env.locals=none
 IC:∀x c,X.env.cells.lookup x=some c->H c=none
 pin:∀p∈X.pn++D3,s.heap.get? p.1=some p.2/\H p.1=none/\p.1≠X.env.locals/\p.1∉X.fs/\∀v,p.2.data≠.cell v
 EJ:IA X.prog X.w X.K H s.heap
 len:FV.length=X.N.length
section
variable {X:Cx}{D3:qS}{FV:List (Option V)}{H H':Hp}{s:Shared}{h':Heap}
def Cx.Ok.nofr(ok:X.Ok){o:Obj}(e:X.base.get? b=some o):b∉X.fs:=λc=>by
 have:=(ok.LG.mem c).1;rw[e]at this;cases this
def Inv.bs(I:Inv X D3 FV H s):∀b o,X.base.get? b=some o->s.heap.get? b=some o/\H b=none:=λb o e=>
 ⟨I.base.keep b o (I.ok.bs b o e).1 (I.ok.bs b o e).2 (I.ok.nofr e) (I.ok.S1 b o e),I.base.free b o (I.ok.bs b o e).1 (I.ok.bs b o e).2 (I.ok.S1 b o e)⟩
def Inv.bk(I:Inv X D3 FV H s):∀b o,X.base.get? b=some o->s.heap.get? b=some o:=λb o e=>(I.bs b o e).1
def Inv.mod(I:Inv X D3 FV H s):Mod X.K X.mg X.base:=I.ok.mod
def Inv.GL(I:Inv X D3 FV H s):X.K.In s.heap:=I.ok.mod.KG.keeps I.bk
def Inv.nolimit(I:Inv X D3 FV H s):s.heap.NoLimit:=I.ok.mod.nolimit.keeps I.bk
def Inv.lt(I:Inv X D3 FV H s):X.env.locals<s.heap.objs.size:=let ⟨_,hn,_⟩:=I.loc;hn.lt
def Inv.sz(I:Inv X D3 FV H s):X.s₀.heap.objs.size<=s.heap.objs.size:=dE I.ok.above (gz I.lt)
def Inv.nofs(I:Inv X D3 FV H s)(h:s.heap.objs.size<=a):a∉X.fs:=λc=>by
 obtain⟨_,o,f,_⟩:=I.ok.LG.mem c;exact absurd (bX (aE f) (dE I.sz h)) (gE _)
def Inv.ZT(I:Inv X D3 FV H s):∀x c,X.env.cells.lookup x=some c->c≠X.env.locals:=λx c e z=>by
 obtain⟨v,o,i,f⟩:=I.cell x c e;obtain⟨m,⟨o',es,ep,j,l,_⟩,_⟩:=I.loc;rw[z,j]at i;cases i;rw[l]at f;cases f
def Inv.LG(I:Inv X D3 FV H s):s.heap.FunFrames X.base X.outer:=by
 have all:∀(l:List Env),(∀b∈FC l,b∈X.fs)->X.s₀.heap.FunFrames X.base l->s.heap.FunFrames X.base l:=by
  intro l;induction l with
  |nil=>intro _ _;trivial
  |cons env r C=>
   intro j n;obtain⟨q,⟨L,o,i,m,B,p⟩,y⟩:=n;have f:L∈X.fs:=j L (by unfold FC;rw[l4,i];exact av);obtain⟨D,e⟩:=I.base.slot L o B (I.ok.ZS L f) f λz=>I.ok.Yy L z f;exact⟨q,⟨L,_,i,m,e,p⟩,C (λb c=>j b (by unfold FC;rw[l4,i];exact ap _ c)) y⟩
 exact all X.outer (λ_ c=>c) I.ok.LG
def Inv.stack(I:Inv X D3 FV H s):s.heap.FunFrames X.base X.stack:=by
 rcases I.ok.stk with e|⟨e,hf⟩
 ·rw[e];exact I.LG
 ·rw[e]
  obtain⟨m,c,_⟩:=I.loc;refine .cons (by rw[I.ok.kind];decide) hf c ?_ I.LG;exact Heap.get?_none_of_le (dE I.ok.Yx I.ok.above)
def Inv.MV(I:Inv X D3 FV H s):∀b∈FC X.stack,b∈X.env.locals::X.fs:=λb c=>by
 rcases I.ok.stk with e|⟨e,hf⟩
 ·rw[e]at c;exact ap _ c
 ·rw[e]at c
  unfold FC at c;rw[l4,hf]at c;exact c
def Inv.Pe(I:Inv X D3 FV H s):∀b∈FC X.stack,H b=none:=λb c=>by
 rcases bi.mp (I.MV b c)with e|c
 ·rw[e];exact I.free
 ·obtain⟨_,o,f,_⟩:=I.ok.LG.mem c
  exact I.base.free b o f (I.ok.ZS b c) λz=>I.ok.Yy b z c
def Inv.step{g':Array GenState}{t':Nat}{d':Drawn}{ch:rS}(I:Inv X D3 FV H s)
  (D:∀b∈ch,(b∈X.ex\/X.s₀.heap.objs.size<=b)/\b≠X.env.locals/\(∀x c,X.env.cells.lookup x=some c->c≠b)/\∀p∈X.pn++D3,p.1≠b)
  (keep:∀b o,b≠X.env.locals->b∉X.fs->b∉ch->s.heap.get? b=some o->H b=none->h'.get? b=some o)
  (slot:∀b o,b≠X.env.locals->b∈X.fs->b∉ch->s.heap.get? b=some o->H b=none->∃J,h'.get? b=some {o with slots:=J}) (free:∀b o,b∉ch->s.heap.get? b=some o->H b=none->H' b=none)
  (there:∀b o,b∉ch->s.heap.get? b=some o->∃o',h'.get? b=some o')
  (NO:∀b xs,H b=some (.tup xs)->H' b=some (.tup xs)) (MU:∀b o u,H b=some (.frz o u)->H' b=some (.frz o u)) (NR:∀b ps,H b=some (.ZO ps)->∃more,H' b=some (.ZO (ps++more)))
  (ns:∀m,s.heap.Ns X.env.locals m->h'.Ns X.env.locals m) (Y:IA X.prog X.w X.K H' h') (hg:AllBare g'):
  Inv X D3 FV H' {s with heap:=h',gens:=g',drawn:=d',toks:=t'}:=by
 have G:∀b o,X.s₀.heap.get? b=some o->b≠X.env.locals:=λb o e=>bE (bX (aE e) I.ok.above);have y:∀b o,X.s₀.heap.get? b=some o->b∉X.ex->b∉ch:=λb o e f B=>by
  rcases(D b B).1 with z|z
  ·exact f z
  ·exact absurd (bX (aE e) z) (gE _)
 have j:∀x c,X.env.cells.lookup x=some c->∀v,s.heap.IsCell c v->h'.IsCell c v:=by
  rintro x c e v ⟨o,C,L⟩;have F:c∉ch:=λz=>(D c z).2.2.1 x c e rfl;by_cases hc:c∈X.fs
  ·obtain⟨J,q⟩:=slot c o (I.ZT x c e) hc F C (I.IC x c e)
   exact⟨_,q,L⟩
  ·exact⟨o,keep c o (I.ZT x c e) hc F C (I.IC x c e),L⟩
 refine⟨I.ok,I.os,hg,⟨λb o e n B f=>?_,λb o e n B f=>?_,λb o e n f=>?_,λb o e f=>?_,λb xs e=>NO b xs (I.base.NO b xs e),λb o xs e=>MU b o xs (I.base.MU b o xs e),λb ps e=>?_⟩,?_,λx c e=>?_,?_,λx c e=>?_,λp T=>?_,Y,I.len⟩
 ·exact keep b o (G b o e) B (y b o e f) (I.base.keep b o e n B f) (I.base.free b o e n f)
 ·obtain⟨J,e1⟩:=I.base.slot b o e n B f
  obtain⟨M,e2⟩:=slot b _ (G b o e) B (y b o e f) e1 (I.base.free b o e n f);exact⟨M,e2⟩
 ·obtain⟨o',e1⟩:=I.base.there b o e f
  exact free b o' (y b o e f) e1 (I.base.free b o e n f)
 ·obtain⟨o',e1⟩:=I.base.there b o e f
  exact there b o' (y b o e f) e1
 ·obtain⟨m1,e1⟩:=I.base.NR b ps e
  obtain⟨Z,e2⟩:=NR b _ e1;exact⟨m1++Z,by rw[e2,Array.append_assoc]⟩
 ·obtain⟨m,hn,U⟩:=I.loc
  refine⟨m,ns m hn,λi x v e1 e2 e3=>?_⟩;obtain⟨u,r,l⟩:=U i x v e1 e2 e3;refine⟨u,r,?_⟩;rcases l with l|⟨k,c,e,z⟩
  ·exact .inl l
  ·exact .inr ⟨k,c,e,j x c e _ z⟩
 ·obtain⟨v,z⟩:=I.cell x c e
  exact⟨v,j x c e v z⟩
 ·obtain⟨m,⟨o,_,_,C,_⟩,_⟩:=I.loc
  exact free _ o (λz=>(D _ z).2.1 rfl) C I.free
 ·obtain⟨v,o,C,L⟩:=I.cell x c e
  exact free c o (λz=>(D c z).2.2.1 x c e rfl) C (I.IC x c e)
 ·obtain⟨e,n,O,N,d⟩:=I.pin p T
  have F:p.1∉ch:=λz=>(D p.1 z).2.2.2 p T rfl;exact⟨keep p.1 p.2 O N F e n,free p.1 p.2 F e n,O,N,d⟩
def Inv.un{t':Nat}(I:Inv X D3 FV H s)(u:Un X.fs [] H H' s.heap h')(q:IA X.prog X.w X.K H' h'):Inv X D3 FV H' {s with heap:=h',toks:=t'}:=by
 obtain⟨m,⟨o,es,ep,l,r⟩,_⟩:=id I.loc;obtain⟨D,p⟩:=u.any l I.free (by simp);exact I.step (g':=s.gens) (d':=s.drawn) (ch:=[]) (λ_ z=>nomatch z) (λb o _ c _ e n=>u.keep b o e n c (by simp)) (λb o _ c _ e n=>u.slot b o e n c (by simp)) (λb o _ e n=>u.free b o e n (by simp)) (λb o _ e=>u.there b o e (by simp)) u.NO u.MU u.NR (λC y=>by
  obtain⟨o',i,f,j,B⟩:=y;rw[l]at j;cases j;exact⟨_,i,f,p,B⟩) q I.bare
def Inv.call{g':Array GenState}{t':Nat}{d':Drawn}{ch:rS}(I:Inv X D3 FV H s)(u:Un (FC X.stack) ch H H' s.heap h')(F:IA X.prog X.w X.K H' h')(D:AllBare g')
  (q:∀b∈ch,(b∈X.ex\/X.s₀.heap.objs.size<=b)/\b≠X.env.locals/\(∀x c,X.env.cells.lookup x=some c->c≠b)/\∀p∈X.pn++D3,p.1≠b):
  Inv X D3 FV H' {s with heap:=h',gens:=g',drawn:=d',toks:=t'}:=by
 obtain⟨m,⟨o,es,ep,B,r⟩,_⟩:=id I.loc;obtain⟨M,j⟩:=u.any B I.free λz=>(q _ z).2.1 rfl;exact I.step (ch:=ch) q (λb o j C f e n=>u.keep b o e n (λz=>(bi.mp (I.MV b z)).elim j C) f) (λb o _ _ f e n=>u.any e n f) (λb o f e n=>u.free b o e n f) (λb o f e=>u.there b o e f) u.NO u.MU u.NR (λL G=>by
  obtain⟨o',l,i,y,J⟩:=G;rw[B]at y;cases y;exact⟨_,l,i,j,J⟩) F D
def Inv.turned{t':Nat}{it:Addr}(I:Inv X D3 FV H s)(k:∀b o,b≠it->s.heap.get? b=some o->h'.get? b=some o)(y:H it=none)(j:it≠X.env.locals)
  (h1:it∈X.ex\/X.s₀.heap.objs.size<=it) (h2:∀x c,X.env.cells.lookup x=some c->c≠it) (B:∀p∈X.pn++D3,p.1≠it):Inv X D3 FV H {s with heap:=h',toks:=t'}:=by
 have i:∀b u,H b=some u->b≠it:=λb u e z=>by rw[z,y]at e;cases e
 refine I.step (g':=s.gens) (d':=s.drawn) (ch:=[it]) (λb l=>?_) (λb o _ _ f e _=>k b o (λz=>f (by simp[z])) e) (λb o _ _ f e _=>⟨o.slots,k b o (λz=>f (by simp[z])) e⟩) (λ_ _ _ _ n=>n)
  (λb o f e=>⟨o,k b o (λz=>f (by simp[z])) e⟩) (λ_ _ e=>e) (λ_ _ _ e=>e) (λb ps e=>⟨#[],by rw[e];simp⟩) (λm C=>?_) (λb u e=>?_) I.bare
 ·have e:b=it:=by simpa using l
  subst e;exact⟨h1,j,h2,B⟩
 ·obtain⟨o,es,ep,D,r⟩:=C
  exact⟨o,es,ep,k _ o (gc j) D,r⟩
 ·refine(I.EJ b u e).NN (λc v f q=>k c v ?_ q) (λ_ q=>q) λ_ _ q=>q
  rcases f with z|z
  ·rw[z];exact i b u e
  ·exact i c _ z
def Inv.tok(I:Inv X D3 FV H s)(t:Nat):Inv X D3 FV H {s with toks:=t}:=I.un (h':=s.heap) (t':=t) Un.refl I.EJ
def Inv.kept{t':Nat}(I:Inv X D3 FV H s)(k:∀b u,s.heap.get? b=some u->h'.get? b=some u):Inv X D3 FV H {s with heap:=h',toks:=t'}:=I.un (Un.kept k) (I.EJ.kept k)
def Inv.laid{a:Addr}{o:HO}{t':Nat}(I:Inv X D3 FV H s)(k:∀b u,s.heap.get? b=some u->h'.get? b=some u)(c:s.heap.objs.size<=a)(new:EG X.prog X.w X.K (upd H a o) h' a o):
  Inv X D3 FV (upd H a o) {s with heap:=h',toks:=t'}:=I.un (Un.laid k c (I.EJ.fresh c)) (I.EJ.laid k c new)
def Inv.write{x e:Addr}{o:HO}{t':Nat}(I:Inv X D3 FV H s)(f:Mut (H x))(c:e=x\/H e=some (.own x))(k:∀b u,b≠e->s.heap.get? b=some u->h'.get? b=some u)(i:∃u,h'.get? e=some u)
  (new:EG X.prog X.w X.K (upd H x o) h' x o):Inv X D3 FV (upd H x o) {s with heap:=h',toks:=t'}:=I.un (Un.write f c k i) (I.EJ.write f c k i new)
def Inv.weak{c:List (Option V)}(I:Inv X D3 FV H s)(f:c.length=FV.length)(w:∀(i:Nat) v,c[i]?=some (some v)->FV[i]?=some (some v)):Inv X D3 c H s:=
 ⟨I.ok,I.os,I.bare,I.base,let ⟨m,hn,Sf⟩:=I.loc;⟨m,hn,λi x v e1 e2 e3=>Sf i x v e1 (w i v e2) e3⟩,I.cell,I.free,I.IC,I.pin,I.EJ,f.trans I.len⟩
def Inv.Pf{c:qS}(I:Inv X D3 FV H s)(h:∀p∈c,s.heap.get? p.1=some p.2/\H p.1=none/\p.1≠X.env.locals/\p.1∉X.fs/\∀v,p.2.data≠.cell v):Inv X c FV H s:=
 ⟨I.ok,I.os,I.bare,I.base,I.loc,I.cell,I.free,I.IC,λp f=>(dS.mp f).elim (λz=>I.pin p (iP _ z)) (h p),I.EJ,I.len⟩
def Ce{N:rj}(c:N.Nodup){i j:Nat}{x:Str}(a:N[i]?=some x)(b:N[j]?=some x):i=j:=by
 obtain⟨h1,e1⟩:=al.mp a;obtain⟨h2,e2⟩:=al.mp b;exact(List.getElem_inj c).mp (e1.trans e2.symm)
def Ab{M:Model}{i:Nat}{x:Str}{v:V}(I:Inv X D3 FV H s)(hN:X.N.Nodup)(O:X.N[i]?=some x)(C:Loc X.env.scope x)(r:RelV v u)
  (h:∀s',Inv X D3 (FV.set i (some v)) H s'->(∃a,Heap.SameBut a s.heap s'.heap/\(a=X.env.locals\/X.env.cells.lookup x=some a))->Q () s') (hf:autoParam (SV X x) r3_):wpAny M A (storeName X.env x u) Q E s:=by
 obtain⟨m,hn,hl⟩:=id I.loc;have G:(X.env.scope.kind == .class||(X.env.scope.kind == .module&&X.env.locals != X.env.globals))=false:=by rw[I.ok.kind];rfl
 have hiσ:i<FV.length:=by rw[I.len];exact(al.mp O).1
 have ZT:=I.ZT;have l:∀{a:Addr}{h':Heap},(∃o,s.heap.get? a=some o/\H a=none)->Heap.SameBut a s.heap h'->IA X.prog X.w X.K H h':=λ{a h'} ha f b ob e=>by
  obtain⟨_,_,Zd⟩:=ha;refine(I.EJ b ob e).NN (λc Z B q=>(f.2 c ?_).trans q) (λ_ q=>q) λ_ _ q=>q;rintro rfl;rcases B with rfl|B
  ·rw[Zd]at e;cases e
  ·rw[Zd]at B;cases B
 rcases C with hk|hk
 ·refine wpAny_storeName_local hk hn (λh' Qb f=>?_) G
  obtain⟨oL,_,_,hoL,_⟩:=id hn;refine h _ ⟨I.ok,I.os,I.bare,⟨λb o e n F C=>?_,λb o e n F C=>?_,I.base.free,λb o e C=>?_,I.base.NO,I.base.MU,I.base.NR⟩,⟨_,Qb,λj y v' e1 e2 e3=>?_⟩,λy c e=>?_,I.free,I.IC,λp hp=>?_,l ⟨oL,hoL,I.free⟩ f,by simpa using I.len⟩ ⟨_,f,.inl rfl⟩
  ·exact(f.2 b (bE (bX (aE e) I.ok.above))).trans (I.base.keep b o e n F C)
  ·obtain⟨sl,e1⟩:=I.base.slot b o e n F C
   exact⟨sl,(f.2 b (bE (bX (aE e) I.ok.above))).trans e1⟩
  ·obtain⟨o',e1⟩:=I.base.there b o e C
   exact⟨o',(f.2 b (bE (bX (aE e) I.ok.above))).trans e1⟩
  ·by_cases hj:j=i
   ·subst hj
    rw[O]at e1;cases e1;rw[eR hiσ]at e2;cases e2;exact⟨u,r,.inl ⟨hk,by simp⟩⟩
   ·rw[bP (gc hj)]at e2
    obtain⟨u',r',q⟩:=hl j y v' e1 e2 e3;refine⟨u',r',?_⟩;rcases q with⟨k,e⟩|⟨k,c,e,z⟩
    ·refine .inl ⟨k,?_⟩
     have:y≠x:=λe=>hj (Ce hN e1 (e▸O));simp[this,e]
    ·exact .inr ⟨k,c,e,z.sameBut f (ZT y c e)⟩
  ·obtain⟨Z,z⟩:=I.cell y c e
   exact⟨Z,z.sameBut f (ZT y c e)⟩
  ·obtain⟨e,n,Y,nf,d⟩:=I.pin p hp
   exact⟨(f.2 p.1 Y).trans e,n,Y,nf,d⟩
 ·have D:X.fn x=true:=by
   rcases hf with z|z
   ·exact z
   ·rw[z]at hk;cases hk
  obtain⟨c,B⟩:=I.ok.has x (.inl hk);obtain⟨Z,z⟩:=I.cell x c B;refine wpAny_storeName_cell I.ok.kind hk B z (λh' J f=>?_);obtain⟨oc,L,T⟩:=id z;refine h {s with heap:=h'} ⟨I.ok,I.os,I.bare,⟨λb o e n F C=>?_,λb o e n F C=>?_,I.base.free,λb o e C=>?_,I.base.NO,I.base.MU,I.base.NR⟩,⟨m,hn.sameBut f (gc (ZT x c B)),λj y v' e1 e2 e3=>?_⟩,λy U e=>?_,I.free,I.IC,λp hp=>?_,l ⟨oc,L,I.IC x c B⟩ f,by simpa using I.len⟩ ⟨c,f,.inr B⟩
  ·exact(f.2 b (bE (bX (aE e) (I.ok.cab x c D B)))).trans (I.base.keep b o e n F C)
  ·obtain⟨sl,e1⟩:=I.base.slot b o e n F C
   exact⟨sl,(f.2 b (bE (bX (aE e) (I.ok.cab x c D B)))).trans e1⟩
  ·obtain⟨o',e1⟩:=I.base.there b o e C
   exact⟨o',(f.2 b (bE (bX (aE e) (I.ok.cab x c D B)))).trans e1⟩
  ·by_cases hj:j=i
   ·subst hj
    rw[O]at e1;cases e1;rw[eR hiσ]at e2;cases e2;exact⟨u,r,.inr ⟨.inl hk,c,B,J⟩⟩
   ·rw[bP (gc hj)]at e2
    obtain⟨u',r',q⟩:=hl j y v' e1 e2 e3;refine⟨u',r',?_⟩;rcases q with q|⟨k,U,e,z'⟩
    ·exact .inl q
    ·refine .inr ⟨k,U,e,z'.sameBut f ?_⟩
     rintro rfl;exact hj (Ce hN e1 (I.ok.inj _ _ _ e B▸O))
  ·by_cases hcc:U=c
   ·subst hcc;exact⟨_,J⟩
   ·obtain⟨w2,z2⟩:=I.cell y U e
    exact⟨w2,z2.sameBut f hcc⟩
  ·obtain⟨e,n,Y,nf,d⟩:=I.pin p hp
   refine⟨(f.2 p.1 ?_).trans e,n,Y,nf,d⟩;intro q;rw[q,L]at e;have q':oc=p.2:=bp e;exact d Z (by rw[←q'];exact T)
def Cg{M:Model}{i:Nat}{x:Str}{v:V}(I:Inv X D3 FV H s)(l:X.N.Nodup)(f:X.N[i]?=some x)(j:Loc X.env.scope x)(r:RelV v u)
  (h:∀c,Inv X D3 (FV.set i (some v)) H c->Q () c) (m:autoParam (SV X x) r3_):wpAny M A (storeName X.env x u) Q E s:=
 Ab I l f j r (λc n _=>h c n) m
def Inv.call'{f:Shared}{ch:rS}(I:Inv X D3 FV H s)(l:f.os=s.os)(u:Un (FC X.stack) ch H H' s.heap f.heap)(m:IA X.prog X.w X.K H' f.heap)(j:AllBare f.gens)
  (i:∀b∈ch,(b∈X.ex\/X.s₀.heap.objs.size<=b)/\b≠X.env.locals/\(∀x c,X.env.cells.lookup x=some c->c≠b)/\∀p∈X.pn++D3,p.1≠b):Inv X D3 FV H' f:=by
 obtain⟨h',g',d',t',o'⟩:=f;have e:o'=s.os:=l;subst e;exact I.call (g':=g') (t':=t') (d':=d') u m j i
end
abbrev XK:=Value->Option Addr->Hp->Prop
abbrev St:=List (Option V)
abbrev VK:=V->Hp->Prop
abbrev TE:=St->Hp->VK->Prop
abbrev TT:=St->Hp->(Bool->Hp->Prop)->Prop
abbrev TA:=St->Hp->(List V->Hp->Prop)->Prop
structure Ends where
 nx:St->Hp->Prop
 rt:VK
 bk:St->Hp->Prop:=λ_ _=>False
 ct:St->Hp->Prop:=λ_ _=>False
abbrev TS:=Ends->St->Hp->Prop
inductive EP(X:Cx)(D3:qS)(FV:St)(Q:VK)(u:Value)(s':Shared):Prop
 |mk (v:V) (H':Hp) (I:Inv X D3 FV H' s') (r:RelV v u) (q:Q v H'):EP X D3 FV Q u s'
inductive TP(X:Cx)(D3:qS)(FV:St)(Q:Bool->Hp->Prop)(b:Bool)(s':Shared):Prop
 |mk (H':Hp) (I:Inv X D3 FV H' s') (q:Q b H'):TP X D3 FV Q b s'
inductive AP(X:Cx)(D3:qS)(FV:St)(Q:List V->Hp->Prop)(us:re)(s':Shared):Prop
 |mk (vs:sC) (H':Hp) (I:Inv X D3 FV H' s') (r:Vals vs us) (q:Q vs H'):AP X D3 FV Q us s'
inductive SN(X:Cx)(D3:qS)(Q:St->Hp->Prop)(s':Shared):Prop
 |mk (GG:St) (H':Hp) (I:Inv X D3 GG H' s') (q:Q GG H'):SN X D3 Q s'
inductive SR(X:Cx)(D3:qS)(Q:VK)(u:Value)(s':Shared):Prop
 |mk (v:V) (GG:St) (H':Hp) (I:Inv X D3 GG H' s') (r:RelV v u) (q:Q v H'):SR X D3 Q u s'
def SP(X:Cx)(D3:qS)(D:Ends)(f:Flow)(s':Shared):Prop:=
 match f with
 |.next=>SN X D3 D.nx s'
 |.brk=>SN X D3 D.bk s'
 |.cont=>SN X D3 D.ct s'
 |.ret u=>SR X D3 D.rt u s'
def PE(X:Cx)(e:Expr)(t:TE):Prop:=
 ∀(D3:qS) (s:Shared) (FV:St) (H:Hp) (Q:VK),Inv X D3 FV H s->t FV H Q->wpAny (model X.prog X.w) X.A (eval e X.env) (EP X D3 FV Q) X.xe s
def PT(X:Cx)(e:Expr)(t:TT):Prop:=
 ∀(D3:qS) (s:Shared) (FV:St) (H:Hp) (Q:Bool->Hp->Prop),Inv X D3 FV H s->t FV H Q->wpAny (model X.prog X.w) X.A (isTrue e X.env (eval e X.env)) (TP X D3 FV Q) X.xe s
def PW(X:Cx)(e:Expr)(t:TT):Prop:=
 ∀(whole:Sem Value) (D3:qS) (s:Shared) (FV:St) (H:Hp) (Q:Bool->Hp->Prop),Inv X D3 FV H s->t FV H Q->wpAny (model X.prog X.w) X.A (isTrue e X.env whole) (TP X D3 FV Q) X.xe s
variable {e:Expr}
def PW.pt{X:Cx}{t:TT}(h:PW X e t):PT X e t:=h _
def PA(X:Cx)(es:rh)(t:TA):Prop:=
 ∀(pos:Pos) (D3:qS) (s:Shared) (FV:St) (H:Hp) (Q:List V->Hp->Prop),Inv X D3 FV H s->t FV H Q->wpAny (model X.prog X.w) X.A (spliced (backTo pos (starEach es X.env))) (AP X D3 FV Q) X.xe s
def PS(X:Cx)(st:Stmt)(t:TS):Prop:=
 ∀(D3:qS) (s:Shared) (FV:St) (H:Hp) (D:Ends),Inv X D3 FV H s->t D FV H->wpAny (model X.prog X.w) X.A (exec st X.env) (SP X D3 D) X.xe s
def L5(X:Cx)(st:rg)(t:TS):Prop:=
 ∀(D3:qS) (s:Shared) (FV:St) (H:Hp) (D:Ends),Inv X D3 FV H s->t D FV H->wpAny (model X.prog X.w) X.A (execs st X.env) (SP X D3 D) X.xe s
def EO{f:Type}{t:Sem f}{Q c:f->Shared->Prop}{M:Model}{s:Shared}(h:wpAny M A t Q E s)(i:∀a s,Q a s->c a s):wpAny M A t c E s:=fm h i λ_ _ x=>x
variable {D3:qS}{FV:St}{pos:Pos}{op:CmpOp}
section
variable {X:Cx}
def bin{a b:Expr}{j l:TE}(p:PE X a j)(m:PE X b l){s:Shared}{R:V->V->Hp->Prop}(I:Inv X D3 FV H s)(h:j FV H λx H1=>l FV H1 λy H2=>R x y H2)
  {i:Type}{Q:i->Shared->Prop}{f:Value->Value->Sem i}
  (F:∀v u c x y H2,Inv X D3 FV H2 c->RelV x v->RelV y u->R x y H2->wpAny (model X.prog X.w) X.A (f v u) Q X.xe c):
  wpAny (model X.prog X.w) X.A (eval a X.env) (λv B=>wpAny (model X.prog X.w) X.A (eval b X.env) (λu C=>wpAny (model X.prog X.w) X.A (f v u) Q X.xe C) X.xe B) X.xe s:=by
 refine EO (p D3 s FV H _ I h) ?_;rintro v n ⟨x,H1,q,D,G⟩;refine EO (m D3 n FV H1 _ q G) ?_;rintro u c ⟨y,H2,J,r,z⟩;exact F v u c x y H2 J D r z
inductive EC(i:Nat)(FV:St)(H:Hp)(Q:VK):Prop
 |mk (v:_) (h0:FV[i]?=some (some v)) (h1:Q v H):EC i FV H Q
def tC(v:V):TE:=λ_ H Q=>Q v H
def k_{i:Nat}{x:Str}(z:X.N[i]?=some x)(y:S0 X.env.scope x)(n:autoParam (Kt x) r1_)(q:autoParam (XZ x) r1_):PE X (.Name x pos) (EC i):=by
 intro D3 s FV H Q I h;obtain⟨v,e,h⟩:=h;obtain⟨m,p,B⟩:=I.loc;obtain⟨u,r,l⟩:=B i x v z e y;have f:EP X D3 FV Q u s:=⟨v,H,I,r,h⟩;rcases l with⟨j,C⟩|⟨j,c,hc,Pm⟩
 ·exact wpAny_Name (wpAny_loadName_local I.ok.kind j p C f) n
 ·rcases j with j|j
  ·exact wpAny_Name (wpAny_loadName_cell I.ok.kind j hc Pm f) n
  ·exact wpAny_Name (wpAny_loadName_free I.ok.kind j hc Pm f q) n
def iz{i j pos}:PE X (.Constant (.int i) j pos) (tC (.int i)):=λ_ _ _ H _ I h=>wpAny_Constant_int ⟨.int i,H,I.tok _,⟨_,rfl⟩,h⟩
def V7{b j pos}:PE X (.Constant (.bool b) j pos) (tC (.bl b)):=λ_ _ _ H _ I h=>Constant_bool ⟨.bl b,H,I,rfl,h⟩
def xK{j pos}:PE X (.Constant .none j pos) (tC .Ee):=λ_ _ _ H _ I h=>Constant_none ⟨.Ee,H,I,rfl,h⟩
def Sq{x j pos}:PE X (.Constant (.str x) j pos) (tC (.str x)):=λ_ _ _ H _ I h=>Calls.Constant_str ⟨.str x,H,I.tok _,⟨_,rfl⟩,h⟩
def Gl(X:Cx)(x:Str):Prop:=X.env.kindOf x=some .globalImplicit
def y_{s:Shared}{x:Str}{Q:oT}(I:Inv X D3 FV H s)(f:Gl X x)(i:X.mg x=some u)(h:Q u s)
  (c:autoParam (Kt x) r1_):wpAny (model X.prog X.w) X.A (eval (.Name x pos) X.env) Q E s:=
 mh I.ok.kind f (Calls.loadGlobal_global (by rw[I.ok.glob];exact I.mod.glob.keeps I.bk) i h) c
def gG{s:Shared}{x:Str}{Q:oT}(I:Inv X D3 FV H s)(l:Gl X x)(i:X.mg x=none)(f:bootBuiltins x=some u)(h:Q u s)
  (c:x ≠ "__name__" := by decide) (j:autoParam (Kt x) r1_):wpAny (model X.prog X.w) X.A (eval (.Name x pos) X.env) Q E s:=by
 obtain⟨m,h1,h2⟩:=I.mod.blt;exact mh I.ok.kind l (Calls.loadGlobal_builtin (by rw[I.ok.glob];exact I.mod.glob.keeps I.bk) i (by rw[I.ok.blt];exact h1.keeps I.bk) ((h2 x c).trans f) h) j
def mC{x:Str}{v:V}(i:Gl X x)(f:X.mg x=some u)(r:RelV v u)(c:autoParam (Kt x) r1_):PE X (.Name x pos) (tC v):=
 λ_ _ _ H _ I h=>y_ I i f ⟨v,H,I,r,h⟩ c
def Qy{x:Str}{v:V}(l:Gl X x)(j:X.mg x=none)(f:bootBuiltins x=some u)(r:RelV v u)(c:x ≠ "__name__" := by decide)(i:autoParam (Kt x) r1_):PE X (.Name x pos) (tC v):=
 λ_ _ _ H _ I h=>gG I l j f ⟨v,H,I,r,h⟩ c i
def t2I(ta tb:TE)(k:Int->Int->Hp->Prop):St->Hp->Prop:=fun FV H=>ta FV H λx H1=>tb FV H1 λy H2=>∃i j,x=.int i/\y=.int j/\k i j H2
variable {a b:Expr}{ta tb:TE}{pos:Pos}
def PC(X:Cx)(op:CmpOp)(a b:Expr)(t:TE):Prop:=
 ∀(D3:qS) (s:Shared) (FV:St) (H:Hp) (Q:VK),Inv X D3 FV H s->t FV H Q->
  wpAny (model X.prog X.w) X.A (eval a X.env) (λv GH=>wpAny (model X.prog X.w) X.A (eval b X.env) (λu KP=>wpAny (model X.prog X.w) X.A (compareOp op v u) (EP X D3 FV Q) X.xe KP) X.xe GH) X.xe s
def Mt(b:Expr)(h:op≠.In)(h2:op≠.NotIn):behindInMarks op b=false:=by
 have e1:(op == CmpOp.In)=false:=by cases op<;>first|rfl|exact absurd rfl h
 have e2:(op == CmpOp.NotIn)=false:=by cases op<;>first|rfl|exact absurd rfl h2
 cases b<;>simp[behindInMarks,e1,e2]
def Ss(p:Int->Int->Bool)(ta tb:TE):TE:=fun FV H Q=>t2I ta tb (λi j H2=>Q (.bl (p i j)) H2) FV H
abbrev tGt:TE->TE->TE:=Ss λi j=>decide (j<i)
def Su{p:Int->Int->Bool}(n:PE X a ta)(f:PE X b tb)
  (c:∀(i j:Int) (t u:Tok) (Q:oT) (s:Shared),Q (.bool (p i j)) s->wpAny (model X.prog X.w) X.A (compareOp op (.int i t) (.int j u)) Q X.xe s):PC X op a b (Ss p ta tb):=by
 intro D3 s FV H Q I h;refine bin n f I h λv u l x y H2 z m r q=>?_;obtain⟨i,j,rfl,rfl,q⟩:=q;obtain⟨t,rfl⟩:=m;obtain⟨t',rfl⟩:=r;exact c i j t t' _ l ⟨.bl _,H2,z,rfl,q⟩
def V8(f:PE X a ta)(c:PE X b tb):PC X .Gt a b (tGt ta tb):=Su f c λ_ _ _ _ _ _ h=>gt_int h
def tB(t:TE):TT:=fun FV H Q=>t FV H λx H1=>∃c,x=.bl c/\Q c H1
def uE{t:TE}(h:PC X op a b t)(h1:behindInMarks op b=false:=by first|exact Mt _ (by decide) (by decide)|rfl):PT X (.Compare a [op] [b] pos) (tB t):=by
 intro D3 s FV H Q I f;refine wpAny_isTrue_Compare1 (EO (h D3 s FV H _ I f) λv n h1=>EO h1 λu m h2=>EO h2 ?_) h1;rintro c p ⟨x,H1,i,j,l⟩;obtain⟨d,rfl,q⟩:=l;cases j;exact iF ⟨H1,i,q⟩
def Ci{t:TE}(h:PE X e t)(i:autoParam (∀c,isTrue e X.env c=(do let v ←c;standAt e.pos;holding [v] (truthy v))) r4_):PT X e (tB t):=by
 intro D3 s FV H Q I f;refine isTrue_plain (EO (h D3 s FV H _ I f) ?_) (i _);rintro v n ⟨x,H1,j,l,m⟩;obtain⟨d,rfl,q⟩:=m;cases l;exact iF ⟨H1,j,q⟩
variable {tA tB':TT}{rest:rh}
def Mu(t u:TT):TT:=fun FV H Q=>t FV H λc H1=>if c=true then u FV H1 Q else Q false H1
def tOr(t u:TT):TT:=fun FV H Q=>t FV H λc H1=>if c=true then Q true H1 else u FV H1 Q
def Mv(t:TT):TT:=fun FV H Q=>t FV H λc H1=>Q (!c) H1
def Gw(f:PT X a tA):PW X (.BoolOp .And [a] pos) tA:=by
 intro j D3 s FV H Q I h;refine isTrue_and (EO (f D3 s FV H Q I h) λc i e=>?_);cases c with
 |true=>exact isTrue_and_nil e
 |false=>exact e
def Sv(f:PT X a tA):PW X (.BoolOp .Or [a] pos) tA:=by
 intro j D3 s FV H Q I h;refine isTrue_or (EO (f D3 s FV H Q I h) λc i e=>?_);cases c with
 |false=>exact isTrue_or_nil e
 |true=>exact e
def JN(n:PT X a tA)(j:PW X (.BoolOp .And (b::rest) pos) tB'):PW X (.BoolOp .And (a::b::rest) pos) (Mu tA tB'):=by
 intro m D3 s FV H Q I h;refine isTrue_and (EO (n D3 s FV H _ I h) ?_);rintro c l ⟨H1,f,i⟩;cases c with
 |true=>exact j m D3 l FV H1 Q f i
 |false=>exact⟨H1,f,i⟩
def V9(n:PT X a tA)(j:PW X (.BoolOp .Or (b::rest) pos) tB'):PW X (.BoolOp .Or (a::b::rest) pos) (tOr tA tB'):=by
 intro m D3 s FV H Q I h;refine isTrue_or (EO (n D3 s FV H _ I h) ?_);rintro c l ⟨H1,f,i⟩;cases c with
 |true=>exact⟨H1,f,i⟩
 |false=>exact j m D3 l FV H1 Q f i
def JP(f:PT X a tA):PT X (.UnaryOp .Not a pos) (Mv tA):=by
 intro D3 s FV H Q I h;exact isTrue_not (EO (f D3 s FV H (λc H1=>Q (!c) H1) I h) λ_ _ ⟨H1,i,j⟩=>⟨H1,i,j⟩)
def V_(ta tb:TE):TE:=fun FV H Q=>ta FV H λx H1=>∃c,x=.bl c/\if c=true then tb FV H1 Q else Q (.bl false) H1
def Xe(ta tb:TE):TE:=fun FV H Q=>ta FV H λx H1=>∃c,x=.bl c/\if c=true then Q (.bl true) H1 else tb FV H1 Q
def Sw{op}{t:TE}(h:PE X a t):PE X (.BoolOp op [a] pos) t:=λD3 s FV H Q I c=>BoolOp_one (h D3 s FV H Q I c)
def Sx(m:PE X a ta)(j:PE X (.BoolOp .And (b::rest) pos) tb):PE X (.BoolOp .And (a::b::rest) pos) (V_ ta tb):=by
 intro D3 s FV H Q I h;refine BoolOp_and (EO (m D3 s FV H _ I h) ?_);rintro v l ⟨x,H1,i,n,f⟩;obtain⟨c,rfl,f⟩:=f;cases n;refine iF ?_;cases c with
 |true=>exact j D3 l FV H1 Q i f
 |false=>exact⟨.bl false,H1,i,rfl,f⟩
def Wa(m:PE X a ta)(j:PE X (.BoolOp .Or (b::rest) pos) tb):PE X (.BoolOp .Or (a::b::rest) pos) (Xe ta tb):=by
 intro D3 s FV H Q I h;refine BoolOp_or (EO (m D3 s FV H _ I h) ?_);rintro v l ⟨x,H1,i,n,f⟩;obtain⟨c,rfl,f⟩:=f;cases n;refine iF ?_;cases c with
 |false=>exact j D3 l FV H1 Q i f
 |true=>exact⟨.bl true,H1,i,rfl,f⟩
def tIf(t:TT)(ta tb:TE):TE:=fun FV H Q=>t FV H λc H1=>if c=true then ta FV H1 Q else tb FV H1 Q
def Mw{c:Expr}(m:PT X c tA)(n:PE X a ta)(l:PE X b tb):PE X (.IfExp c a b pos) (tIf tA ta tb):=by
 intro D3 s FV H Q I h;refine wpAny_IfExp (EO (m D3 s FV H _ I h) ?_);rintro d f ⟨H1,i,j⟩;cases d with
 |true=>exact n D3 f FV H1 Q i j
 |false=>exact l D3 f FV H1 Q i j
end
def Fc(K:W.Frag)(H:Hp)(a:Addr)(xs:sC):Prop:=
 Rd H a (.lst xs) \/
  ∃(o:Obj) (EA:rV) (n:Nat),K.lookup a=some o/\o.cls=.type "list" /\ o.dict=none/\o.data=.seq EA n/\EA.size<=sizeLine/\Vals xs EA.toList
def GN(K:W.Frag)(H:Hp)(a:Addr)(xs:sC):Prop:=
 Rd H a (.tup xs) \/
  ∃(o:Obj) (EA:rV) (n:Nat),K.lookup a=some o/\o.cls=.type "tuple" /\ o.data=.seq EA n/\(EA.size<=sizeLine/\o.dict=none)/\Vals xs EA.toList
noncomputable def Sy:Value->Option V
 |.none=>some .Ee
 |.bool b=>some (.bl b)
 |.int i _=>some (.int i)
 |.str x _=>some (.str x)
 |.bytes b _=>some (.Si b)
 |.float b _=>some (.ZN b)
 |.ref a=>some (.ref a)
 |.type n=>some (.ty n)
 |_=>none
def RelV.abs{x:V}(r:RelV x u):Sy u=some x:=by
 cases x with
 |Ee=>cases r;rfl
 |bl _=>cases r;rfl
 |int _=>obtain⟨t,rfl⟩:=r;rfl
 |str _=>obtain⟨t,rfl⟩:=r;rfl
 |Si _=>obtain⟨t,rfl⟩:=r;rfl
 |ZN _=>obtain⟨t,rfl⟩:=r;rfl
 |ref _=>cases r;rfl
 |ty _=>cases r;rfl
def RelV.inj{x y:V}(r:RelV x u)(q:RelV y u):x=y:=bp (r.abs.symm.trans q.abs)
theorem Vals.inj:∀{xs ys:sC}{us:re},Vals xs us->Vals ys us->xs=ys
 |_,_,_,.nil,.nil=>rfl
 |_,_,_,.cons r t,.cons r' t'=>by rw[r.inj r',Vals.inj t t']
section
variable {X:Cx}{D3:qS}{FV:St}{H:Hp}{s:Shared}{a:Addr}{xs ys:sC}
def Fc.of(h:H a=some (.lst xs)):Fc K H a xs:=.inl (.inl h)
def GN.of(h:H a=some (.tup xs)):GN K H a xs:=.inl (.inl h)
def Inv.list(I:Inv X D3 FV H s)(h:Fc X.K H a xs):∃c:List Value,Vals xs c/\PlainL s.heap a c.toArray/\xs.length<=sizeLine:=by
 rcases h with h|⟨o,c,n,hk,hc,hd,hs,hz,r⟩
 ·obtain⟨z,c,n,r,e⟩:=h.ok I.EJ
  exact⟨c,r,⟨_,n,e,rfl,rfl,rfl⟩,z⟩
 ·refine⟨c.toList,r,⟨o,n,I.GL a o hk,hc,hd,by simpa using hs⟩,?_⟩
  have e:=r.length;simp only[f7]at e;omega
def Inv.tuple(I:Inv X D3 FV H s)(h:GN X.K H a xs):∃c:List Value,Vals xs c/\IsTup s.heap a c.toArray/\xs.length<=sizeLine:=by
 rcases h with h|⟨o,c,n,hk,hc,hs,hz,r⟩
 ·obtain⟨z,c,r,p⟩:=h.ok I.EJ
  exact⟨c,r,p.tup,z⟩
 ·refine⟨c.toList,r,⟨o,I.GL a o hk,hc,n,by simpa using hs⟩,?_⟩
  have e:=r.length;simp only[f7]at e;omega
def Inv.NS(I:Inv X D3 FV H s)(h:Fc X.K H a xs)(h':Fc X.K H a ys):xs=ys:=by
 obtain⟨f,r,⟨o,n,e,_,_,d⟩,_⟩:=I.list h;obtain⟨its',i,⟨o',j,c,_,_,d'⟩,_⟩:=I.list h';rw[e]at c;cases c;rw[d]at d';injection d' with d1 _;have:f=its':=by simpa using gg Array.toList d1
 subst this;exact r.inj i
def Inv.MH(I:Inv X D3 FV H s)(h:GN X.K H a xs)(h':GN X.K H a ys):xs=ys:=by
 obtain⟨f,r,⟨o,e,_,n,d⟩,_⟩:=I.tuple h;obtain⟨its',i,⟨o',c,_,j,d'⟩,_⟩:=I.tuple h';rw[e]at c;cases c;rw[d]at d';injection d' with d1 _;have:f=its':=by simpa using gg Array.toList d1
 subst this;exact r.inj i
end
abbrev Cx.L7(X:Cx)(E:oT):Cx:={X with xe:=E}
abbrev Cx.Qr(X:Cx):Cx:=X.L7 λ_ _=>False
def Cx.Ok.L7{X:Cx}(ok:X.Ok)(E:oT):(X.L7 E).Ok:=
 ⟨ok.mod,ok.kind,ok.glob,ok.blt,ok.above,ok.inj,ok.has,ok.cab,ok.hd,ok.frames,ok.stk,ok.exf,ok.bs,ok.Yx,ok.S1,ok.Yy,ok.LG,ok.ZS⟩
def Cx.Ok.unwish{X:Cx}(ok:(X.L7 E).Ok):X.Ok:=
 ⟨ok.mod,ok.kind,ok.glob,ok.blt,ok.above,ok.inj,ok.has,ok.cab,ok.hd,ok.frames,ok.stk,ok.exf,ok.bs,ok.Yx,ok.S1,ok.Yy,ok.LG,ok.ZS⟩
section
variable {X:Cx}{D3:qS}{FV:St}{H:Hp}{s:Shared}{E:oT}
def Inv.L7(I:Inv X D3 FV H s)(E:oT):Inv (X.L7 E) D3 FV H s:=⟨I.ok.L7 E,I.os,I.bare,I.base,I.loc,I.cell,I.free,I.IC,I.pin,I.EJ,I.len⟩
def Inv.unwish(I:Inv (X.L7 E) D3 FV H s):Inv X D3 FV H s:=⟨I.ok.unwish,I.os,I.bare,I.base,I.loc,I.cell,I.free,I.IC,I.pin,I.EJ,I.len⟩
def SP.unwish{D:Ends}{f:Flow}{i:Shared}(h:SP (X.L7 E) D3 D f i):SP X D3 D f i:=by
 cases f with
 |next=>obtain⟨c,H',I,q⟩:=h;exact⟨c,H',I.unwish,q⟩
 |brk=>obtain⟨c,H',I,q⟩:=h;exact⟨c,H',I.unwish,q⟩
 |cont=>obtain⟨c,H',I,q⟩:=h;exact⟨c,H',I.unwish,q⟩
 |ret u=>obtain⟨v,c,H',I,r,q⟩:=h;exact⟨v,c,H',I.unwish,r,q⟩
def L5.Qr{st:rg}{t:TS}(h:L5 X.Qr st t):L5 X st t:=λD3 s FV H D I c=>
 fm (h D3 s FV H D (I.L7 _) c) (λ_ _ q=>q.unwish) λ_ _ z=>False.elim z
end
section
variable {X:Cx}{st:Stmt}{rest:rg}{t u:TS}{e:Expr}{te:TE}{pos:Pos}
def iW:TS:=λD FV H=>D.nx FV H
def bO(t u:TS):TS:=λD FV H=>t {D with nx:=u D} FV H
def j_:L5 X [] iW:=λ_ _ FV H _ I h=>lj ⟨FV,H,I,h⟩
def bf(h1:PS X st t)(h2:L5 X rest u):L5 X (st::rest) (bO t u):=by
 intro D3 s FV H D I h;refine wpAny_execs_cons (EO (h1 D3 s FV H {D with nx:=u D} I h) λf c q=>?_);cases f with
 |next=>
  obtain⟨i,H',j,q⟩:=q;exact h2 D3 c i H' D j q
 |ret v=>exact q
 |brk=>exact q
 |cont=>exact q
def bT(h1:PS X st t):L5 X [st] t:=by
 intro D3 s FV H D I h;refine wpAny_execs_cons (EO (h1 D3 s FV H D I h) λf c q=>?_);cases f with
 |next=>exact lj q
 |ret v=>exact q
 |brk=>exact q
 |cont=>exact q
def Inv.quiet{s:Shared}(I:Inv X D3 FV H s):interactive X.env=false:=by simp[interactive,I.ok.kind]
def nM(te:TE):TS:=λD FV H=>te FV H λ_ H1=>D.nx FV H1
def mD(c:PE X e te)(i:autoParam (swapsWith e none pos.line X.env=pure false) r0_):PS X (.Expr e pos) (nM te):=by
 intro D3 s FV H D I h;exact wpAny_Expr_any (EO (c D3 s FV H _ I h) λv l ⟨x,H1,f,m,j⟩=>⟨FV,H1,f,j⟩) I.quiet i
def fQ(te:TE):TS:=λD FV H=>te FV H D.rt
def gH(c:PE X e te):PS X (.Return (some e) pos) (fQ te):=by
 intro D3 s FV H D I h;exact wpAny_Return_some (EO (c D3 s FV H _ I h) λv l ⟨x,H1,i,f,j⟩=>⟨x,FV,H1,i,f,j⟩)
def jG(c:TT)(t u:TS):TS:=λD FV H=>c FV H λb H1=>if b=true then t D FV H1 else u D FV H1
def pK{c:Expr}{a b:rg}{j:TT}(n:PT X c j)(p:L5 X a t)(m:L5 X b u):PS X (.If c a b pos) (jG j t u):=by
 intro D3 s FV H D I h;refine wpAny_If (EO (n D3 s FV H _ I h) ?_);rintro d f ⟨H1,i,l⟩;cases d with
 |true=>exact p D3 f FV H1 D i l
 |false=>exact m D3 f FV H1 D i l
def SJ:TS:=λ_ _ _=>False
def Mx:PS X st SJ:=λ_ _ _ _ _ _ h=>h.elim
end
abbrev TG:=V->St->Hp->(St->Hp->Prop)->Prop
abbrev Ze:=List V->St->Hp->(St->Hp->Prop)->Prop
def PG(X:Cx)(target:Expr)(t:TG):Prop:=
 ∀(D3:qS) (s:Shared) (FV:St) (H:Hp) (v:V) (u:Value) (Q:St->Hp->Prop),Inv X D3 FV H s->RelV v u->t v FV H Q->
  wpAny (model X.prog X.w) X.A (assign target X.env u) (λ_ s'=>∃ GG H',Inv X D3 GG H' s'/\Q GG H') X.xe s
def X9(X:Cx)(ts:rh)(t:Ze):Prop:=
 ∀(D3:qS) (s:Shared) (FV:St) (H:Hp) (vs:sC) (us:re) (Q:St->Hp->Prop),Inv X D3 FV H s->Vals vs us->t vs FV H Q->
  wpAny (model X.prog X.w) X.A (assignInOrder ((assignEach ts X.env).map (·.2)) us) (λ_ s'=>∃ GG H',Inv X D3 GG H' s'/\Q GG H') X.xe s
abbrev Mz:=V->V->V->Hp->(Hp->Prop)->Prop
def SM(X:Cx)(t:Mz):Prop:=
 ∀(D3:qS) (s:Shared) (FV:St) (H:Hp) (o i v:V) (ov iv u:Value) (Q:Hp->Prop),Inv X D3 FV H s->RelV o ov->RelV i iv->RelV v u->t o i v H Q->
  wpAny (model X.prog X.w) X.A (setItem ov iv u) (λ_ s'=>∃H',Inv X D3 FV H' s'/\Q H') X.xe s
section
variable {X:Cx}{pos:Pos}
def bu(i:Nat):TG:=λv FV H Q=>Q (FV.set i (some v)) H
def d7{i:Nat}{x:Str}(j:X.N.Nodup)(c:X.N[i]?=some x)(f:Loc X.env.scope x)(m:autoParam (SV X x) r3_):PG X (.Name x pos) (bu i):=by
 intro D3 s FV H v u Q I r h;exact wpAny_assign_Name (Cg I j c f r (λn l=>⟨_,H,l,h⟩) m)
def Cj:Ze:=λvs FV H Q=>vs=[]/\Q FV H
inductive JU(t:TG)(u:Ze)(vs:sC)(FV:St)(H:Hp)(Q:(St->Hp->Prop)):Prop
 |mk (v:_) (r:_) (h0:vs=v::r) (h1:t v FV H fun GG H'=>u r GG H' Q):JU t u vs FV H Q
def kh:X9 X [] Cj:=by
 intro D3 s FV H vs us Q I r h;obtain⟨e,h⟩:=h;subst e;cases r;exact assignInOrder_nil ⟨FV,H,I,h⟩
def dz{es:rh}{t:TG}{u:Ze}(h1:PG X e t)(h2:X9 X es u)
  (i:autoParam ((assignEach (e::es) X.env).map (·.2)=assign e X.env::(assignEach es X.env).map (·.2)) r0_):X9 X (e::es) (JU t u):=by
 intro D3 s FV H vs us Q I r h;obtain⟨v,n,e1,h⟩:=h;subst e1;cases r with
 |cons r l=>
  rw[i];refine assignInOrder_cons (EO (h1 D3 s FV H _ _ _ I r h) ?_);rintro _ c ⟨j,H1,f,m⟩;exact h2 D3 c j H1 _ _ Q f l m
inductive QA(K:W.Frag)(n:Nat)(t:Ze)(v:V)(FV:St)(H:Hp)(Q:(St->Hp->Prop)):Prop
 |mk (a:_) (xs:_) (h0:v=.ref a) (h1:GN K H a xs) (h2:xs.length=n) (h3:t xs FV H Q):QA K n t v FV H Q
def oE{es:rh}{k:Nat}{t:Ze}{n:Nat}(j:X.calm=true)(h:X9 X es t)
  (i:autoParam ((assignEach es X.env).length=n) r0_) (l:autoParam ((assignEach es X.env).findIdx? (·.1)=none) r0_):PG X (.Tuple es k pos) (QA X.K n t):=by
 intro D3 s FV H v u Q I r c;obtain⟨a,xs,e1,y,q,c⟩:=c;subst e1;cases r;obtain⟨B,f,z,hz⟩:=I.tuple y;refine assign_Tuple_tuple (I.ok.hd j) z (by simp[i,←q,f.length]) l λh' m=>?_;have p:Inv X D3 FV H {s with heap:=h'}:=I.kept (t':=s.toks) λb o e=>m b o (bE (aE e)) e;exact h D3 _ FV H xs _ Q p (by simpa using f) c
def Xf(to ti:TE)(t:Mz):TG:=λv FV H Q=>to FV H λo H1=>ti FV H1 λi H2=>t o i v H2 λH3=>Q FV H3
def SQ{o i:Expr}{l j:TE}{t:Mz}(B:PE X o l)(D:PE X i j)(q:SM X t)
  (J:∀v,assign (.Subscript o i pos) X.env v=(do
   let c ←holding [v] (eval o X.env)
   let f ←holding [v,c] (eval i X.env)
   standAt pos
   holding [v,c,f] (setItem c f v)
   release [v,c,f] []):=by intro _;rfl):PG X (.Subscript o i pos) (Xf l j t):=by
 intro D3 s FV H v u Q I r h;rw[J];refine ab (eg (EO (B D3 s FV H _ I h) ?_));rintro c m ⟨x,H1,p,z,C⟩;refine ab (eg (EO (D D3 m FV H1 _ p C) ?_));rintro f F ⟨y,H2,O,L,N⟩;refine ab (qh (ab (eg (EO (q D3 F FV H2 x y v c f u _ O z L r N) ?_))));rintro _ T ⟨G,M,n⟩;exact wpAny_release ⟨FV,G,M,n⟩
def dB(te:TE)(g:TG):TS:=λD FV H=>te FV H λx H1=>g x FV H1 D.nx
def SX{tg:Expr}{te:TE}{g:TG}(i:PE X e te)(m:PG X tg g)(l:autoParam (swapsWithSole [tg] e pos.line X.env=pure false) r0_)(c:autoParam (swappedStores [tg] e X.env=pure none) r0_)
  (h1:autoParam ((assignEach [tg] X.env).map (·.2)=[assign tg X.env]) r0_):PS X (.Assign [tg] e pos) (dB te g):=by
 intro D3 s FV H D I h;refine wpAny_Assign_stores (EO (i D3 s FV H _ I h) ?_) l c;rintro v f ⟨x,H1,j,r,y⟩;rw[h1];exact EO (m D3 f FV H1 x v _ j r y) λ_ z ⟨n,H',p,q⟩=>⟨n,H',p,q⟩
def cZ{i:Nat}{x:Str}{te:TE}{c:Pos}(n:X.N.Nodup)(f:X.N[i]?=some x)(l:Loc X.env.scope x)(j:PE X e te)(p:autoParam (swapsWith e (some (.Name x c)) pos.line X.env=pure false) r0_)(r:autoParam (SV X x) r3_):
  PS X (.Assign [.Name x c] e pos) (dB te (bu i)):=by
 intro D3 s FV H D I h;refine wpAny_Assign_Name (EO (j D3 s FV H _ I h) ?_) p;rintro v F ⟨y,H1,m,q,z⟩;exact Cg m n f l q (λC B=>⟨_,H1,B,z⟩) r
end
section
variable {X:Cx}{pos:Pos}
def JQ(c:TT)(tb:TS):TS:=λD FV H=>∃W:Nat->St->Hp->Prop,(∃m,W m FV H)/\∀m FV H,W m FV H->
 c FV H λb H1=>if b=true then ∃N:St->Hp->Prop,(∀ GG H',N GG H'->∃m',m'<m/\W m' GG H')/\tb {D with nx:=N,ct:=N,bk:=D.nx} FV H1 else D.nx FV H1
def Ck{c:Expr}{body:rg}{F:TT}{tb:TS}(G:PassesOwn (model X.prog X.w) X.A X.env X.xe)(hc:PT X c F)(hb:L5 X body tb):PS X (.While c body [] pos) (JQ F tb):=by
 intro D3 s FV H D I h;obtain⟨W,⟨M,Y⟩,turn⟩:=h;refine wpAny_While (codeAny_whileLoop (λn T=>∃ GG H',Inv X D3 GG H' T/\W n GG H') ?_ M ⟨FV,H,I,Y⟩);rintro n L ⟨m,H1,O,U⟩;refine g0 G (EO (hc D3 L m H1 _ O (turn n m H1 U)) ?_);rintro b Z ⟨H2,J,p⟩;cases b with
 |true=>
  obtain⟨N,C,p⟩:=p;rw[bS rfl];refine g0 G (EO (hb D3 Z m H2 _ J p) λf s3 l=>?_);cases f with
  |next=>
   obtain⟨j,i,y,z⟩:=l;obtain⟨B,q,r⟩:=C j i z;exact⟨B,q,j,i,y,r⟩
  |cont=>
   obtain⟨j,i,y,z⟩:=l;obtain⟨B,q,r⟩:=C j i z;exact⟨B,q,j,i,y,r⟩
  |brk=>exact l
  |ret v=>exact l
 |false=>
  rw[br bq];exact lj ⟨m,H2,J,p⟩
end
structure It where
 go:Nat->Hp->Prop
 S3:Nat->Hp->V->Hp->Prop
 stop:Nat->Hp->Prop
def mF(X:Cx)(D3:qS)(H:Hp)(b:Addr):Prop:=
 H b=none/\b≠X.env.locals/\b∉X.fs/\(b∈X.ex\/X.s₀.heap.objs.size<=b)/\(∀x c,X.env.cells.lookup x=some c->c≠b)/\∀p∈X.pn++D3,p.1≠b
def Inv.OO{X:Cx}{H':Hp}{s:Shared}(I:Inv X D3 FV H s)(f:s.heap.objs.size<=b)(i:H' b=none):mF X D3 H' b:=by
 refine⟨i,d5 (bX I.lt f),I.nofs f,.inr (dE I.sz f),λx c e z=>?_,λp j z=>?_⟩
 ·obtain⟨v,q⟩:=I.cell x c e
  exact absurd (bX q.lt (by rw[z];exact f)) (gE _)
 ·exact absurd (bX (aE (I.pin p j).1) (by rw[z];exact f)) (gE _)
structure Turn(P:Program)(w:World)(K:W.Frag)(tg:Expr)(J:It)(fp:rS)(it:Addr)(tn:Nat->Heap->Prop):Prop where
 mem:it∈fp
 obj:∀i h,tn i h->∀b∈fp,∃o,h.get? b=some o/\∀v,o.data≠.cell v
 keep:∀i h h',tn i h->(∀b∈fp,∀o,h.get? b=some o->h'.get? b=some o)->tn i h'
 item:∀(X:Cx),X.prog=P->X.w=w->X.K=K->X.calm=true->∀(i:Nat) (D3:qS) (s:Shared) (FV:St) (H:Hp) (E:oT),Inv X D3 FV H s->(∀b∈fp,mF X D3 H b)->tn i s.heap->J.go i H->
  wpAny (model P w) X.A (pyNext (.ref it)) (λr s1=>∃u,r=some u /\
   wpAny (model P w) X.A (letOwnedTupleGo tg (.ref it) u) (λ_ s2=>∃x H',Inv X D3 FV H' s2/\RelV x u/\J.S3 i H x H'/\tn (i+1) s2.heap/\∀b∈fp,H' b=none) E s1) E s
 done:∀(X:Cx),X.prog=P->X.w=w->X.K=K->X.calm=true->∀(i:Nat) (D3:qS) (s:Shared) (FV:St) (H:Hp) (E:oT),Inv X D3 FV H s->(∀b∈fp,mF X D3 H b)->tn i s.heap->J.stop i H->
  wpAny (model P w) X.A (pyNext (.ref it)) (λr s1=>r=none/\Inv X D3 FV H s1) E s
 self:∀(A:Around) (i:Nat) (s:Shared) (Q:oT) (E:oT),tn i s.heap->Q (.ref it) s->wpAny (model P w) A (pyIter (.ref it)) Q E s
abbrev TI:=St->Hp->(It->Hp->Prop)->Prop
def PIE(X:Cx)(D3:qS)(FV:St)(tg:Expr)(R:It->Hp->Prop)(itv:Value)(s2:Shared):Prop:=
 ∃(it:Addr) (fp:rS) (tn:Nat->Heap->Prop) (J:It) (H':Hp),itv=.ref it/\Inv X D3 FV H' s2/\Turn X.prog X.w X.K tg J fp it tn/\tn 0 s2.heap/\(∀b∈fp,mF X D3 H' b)/\R J H'
def PI(X:Cx)(tg iter:Expr)(wi:TI):Prop:=
 ∀(D3:qS) (s:Shared) (FV:St) (H:Hp) (R:It->Hp->Prop),Inv X D3 FV H s->wi FV H R->
  wpAny (model X.prog X.w) X.A (eval iter X.env) (λv s1=>wpAny (model X.prog X.w) X.A (pyIter v) (PIE X D3 FV tg R) X.xe s1) X.xe s
def Bp{M:Model}{s:Shared}{tg:Expr}{it:Addr}{o:Obj}{n:String}{vs:rV}(l:s.heap.get? it=some o)(i:o.cls=.type n)(j:o.data=.fields vs)
    (f:["enumerate","zip","dict_itemiterator","dict_reverseitemiterator","odict_iterator","itertools.zip_longest","itertools.pairwise"].contains n=false) (c:Q () s):wpAny M A (letOwnedTupleGo tg (.ref it) u) Q E s:=by
  unfold letOwnedTupleGo;cases tg<;>first
    |exact ai c
    | (cases u <;> first
        |exact ai c
        | (refine ab (wpAny_load l ?_)
           rw[i,j];show wpAny M A (if(["enumerate","zip","dict_itemiterator","dict_reverseitemiterator","odict_iterator","itertools.zip_longest","itertools.pairwise"].contains n&&vs[0]? == some (rawInt _))=true then _ else _) Q E s;rw[br (by intro h;rw[f,Bool.false_and]at h;cases h)];exact ai c))
def Yz(K:W.Frag)(a:Addr):It:=
 ⟨λi H=>∃xs x,Fc K H a xs/\xs[i]?=some x,λi H x H'=>H'=H/\∀xs,Fc K H a xs->xs[i]?=some x,λi H=>∃xs,Fc K H a xs/\xs.length<=i⟩
def YA(K:W.Frag)(a:Addr):It:=
 ⟨λi H=>∃xs x,GN K H a xs/\xs[i]?=some x,λi H x H'=>H'=H/\∀xs,GN K H a xs->xs[i]?=some x,λi H=>∃xs,GN K H a xs/\xs.length<=i⟩
def Sk(lo:Int)(n:Nat):It:=⟨λi _=>i<n,λi H x H'=>H'=H/\x=.int (lo+i),λi _=>n<=i⟩
def JR{tg:Expr}(a it:Addr):Turn P w K tg (Yz K a) [it] it (λi h=>h.IsListIter it a i) where
 mem:=by simp
 obj:=λi h st b f=>by
  have e:b=it:=by simpa using f
  subst e;obtain⟨o,e,c,d⟩:=st;exact⟨o,e,λv z=>by rw[d]at z;cases z⟩
 keep:=λi h h' st k=>st.at λo e=>k it (by simp) o e
 item:=by
  intro X C r q M i D3 s FV H E I j st D;subst C r q;obtain⟨xs,x,l,B⟩:=D;obtain⟨Z,m,p,hz⟩:=I.list l;obtain⟨u,Y,N⟩:=m.get B;obtain⟨y,n,f2,J,G,F⟩:=j it (by simp);refine wpAny_pyNext_list_item st p.isList (x:=u) (by simpa using Y) λh' L T=>?_;have O:Inv X D3 FV H {s with heap:=h'}:=I.turned (t':=s.toks) (λb o f e=>(T.2 b f).trans e) y n J G F;obtain⟨o,e,c,d⟩:=id L;exact⟨u,rfl,Bp (s:={s with heap:=h'}) e c d (by decide) ⟨x,H,O,N,⟨rfl,λys U=>by rw[I.NS U l];exact B⟩,L,λb f=>(j b f).1⟩⟩
 done:=by
  intro X C r q M i D3 s FV H E I j st D;subst C r q;obtain⟨xs,l,B⟩:=D;obtain⟨Z,m,p,hz⟩:=I.list l;obtain⟨y,n,f2,J,G,F⟩:=j it (by simp);have hl:=m.length;exact wpAny_pyNext_list_end (I.ok.hd M) st p.isList (by simp;omega) λh' eb=>⟨rfl,I.turned (t':=s.toks) (λb o f e=>eb b o f e) y n J G F⟩
 self:=λ_ _ _ _ _ st h=>wpAny_pyIter_listiter st h
def HB{tg:Expr}(a it:Addr):Turn P w K tg (YA K a) [it] it (λi h=>h.IsTupleIter it a i) where
 mem:=by simp
 obj:=λi h st b f=>by
  have e:b=it:=by simpa using f
  subst e;obtain⟨o,e,c,d⟩:=st;exact⟨o,e,λv z=>by rw[d]at z;cases z⟩
 keep:=λi h h' st k=>st.at λo e=>k it (by simp) o e
 item:=by
  intro X D y q N i D3 s FV H E I j st F;subst D y q;obtain⟨xs,x,l,C⟩:=F;obtain⟨r,m,p,hz⟩:=I.tuple l;obtain⟨u,Z,O⟩:=m.get C;obtain⟨B,n,f2,L,J,G⟩:=j it (by simp);refine oj st (show s.heap.IsTuple a r.toArray from p) (x:=u) (by simpa using Z) λh' M U=>?_;have T:Inv X D3 FV H {s with heap:=h'}:=I.turned (t':=s.toks) (λb o f e=>(U.2 b f).trans e) B n L J G;obtain⟨o,e,c,d⟩:=id M;exact⟨u,rfl,Bp (s:={s with heap:=h'}) e c d (by decide) ⟨x,H,T,O,⟨rfl,λys Y=>by rw[I.MH Y l];exact C⟩,M,λb f=>(j b f).1⟩⟩
 done:=by
  intro X D y q N i D3 s FV H E I j st F;subst D y q;obtain⟨xs,l,C⟩:=F;obtain⟨r,m,p,hz⟩:=I.tuple l;obtain⟨B,n,f2,L,J,G⟩:=j it (by simp);have hl:=m.length;exact wpAny_pyNext_tuple_end (I.ok.hd N) st (show s.heap.IsTuple a r.toArray from p) (by simp;omega) λh' eb=>⟨rfl,I.turned (t':=s.toks) (λb o f e=>eb b o f e) B n L J G⟩
 self:=λ_ _ _ _ _ st h=>wpAny_pyIter_tupleiter st h
def HD{tg:Expr}(it:Addr)(lo:Int)(n:Nat):Turn P w K tg (Sk lo n) [it] it (λi h=>IsRangeIter h it (lo+(i:Nat)*1) ((n:Int) - (i:Nat)) 1) where
 mem:=by simp
 obj:=λi h st b c=>by
  have e:b=it:=by simpa using c
  subst e;exact⟨_,st,λv z=>by
   have M:Data.fields _=Data.cell v:=z;cases M⟩
 keep:=λi h h' st k=>k it (by simp) _ st
 item:=by
  intro X r m l p i D3 s FV H E I f st y;subst r m l;obtain⟨q,j,O,D,C,B⟩:=f it (by simp);have W:=Walks.range (prog:=X.prog) (w:=X.w) (I.ok.hd p) it lo 1 n;refine W.item i s _ _ y st λv h' F J G kk=>?_;obtain⟨t,rfl⟩:=J;have L:Inv X D3 FV H {s with heap:=h',toks:=F}:=I.turned (λb o c e=>kk b o (by simpa using c) e) q j D C B;refine⟨_,rfl,Bp (s:={s with heap:=h',toks:=F}) (n := "range_iterator") G rfl rfl (by decide) ⟨.int (lo+i),H,L,⟨t,?_⟩,⟨rfl,rfl⟩,G,λb c=>(f b c).1⟩⟩;rw[Int.mul_one]
 done:=by
  intro X r m l p i D3 s FV H E I f st y;subst r m l;obtain⟨q,j,O,D,C,B⟩:=f it (by simp);exact wpAny_pyNext_range_end (I.ok.hd p) st (by have:n<=i:=y;omega) λh' N=>⟨rfl,I.turned (t':=s.toks) (λb o c e=>N b o c e) q j D C B⟩
 self:=λ_ _ _ _ _ st h=>wpAny_pyIter_rangeiter st h
section
variable {X:Cx}{tg:Expr}
def xM(K:W.Frag)(tl:TE):TI:=fun FV H R=>tl FV H λx H1=>∃a,x=.ref a/\(∃xs,Fc K H1 a xs)/\R (Yz K a) H1
def HF(K:W.Frag)(tl:TE):TI:=fun FV H R=>tl FV H λx H1=>∃a,x=.ref a/\(∃xs,GN K H1 a xs)/\R (YA K a) H1
def vy{l:Expr}{i:TE}(m:PE X l i):PI X tg l (xM X.K i):=by
 intro D3 s FV H R I h;refine EO (m D3 s FV H _ I h) ?_;rintro v c ⟨x,H1,f,r,y⟩;obtain⟨a,e,⟨xs,n⟩,q⟩:=y;subst e;cases r;obtain⟨B,z,p,hz⟩:=f.list n;refine fI p.isList ?_;refine⟨c.heap.objs.size,[c.heap.objs.size],_,_,H1,rfl,f.kept (t':=c.toks) λb o e=>ac _ e,JR a _,⟨_,ay _ rfl,rfl,rfl⟩,λb j=>?_,q⟩;have e:b=c.heap.objs.size:=by simpa using j
 subst e;exact f.OO (aI _) (f.EJ.fresh (aI _))
def Cm{l:Expr}{i:TE}(m:PE X l i):PI X tg l (HF X.K i):=by
 intro D3 s FV H R I h;refine EO (m D3 s FV H _ I h) ?_;rintro v c ⟨x,H1,f,r,z⟩;obtain⟨a,e,⟨xs,n⟩,q⟩:=z;subst e;cases r;obtain⟨y,B,p,hz⟩:=f.tuple n;refine e9 (show c.heap.IsTuple a y.toArray from p) ?_;refine⟨c.heap.objs.size,[c.heap.objs.size],_,_,H1,rfl,f.kept (t':=c.toks) λb o e=>ac _ e,HB a _,⟨_,ay _ rfl,rfl,rfl⟩,λb j=>?_,q⟩;have e:b=c.heap.objs.size:=by simpa using j
 subst e;exact f.OO (aI _) (f.EJ.fresh (aI _))
def Cp{s:Shared}{R:It->Hp->Prop}{lo c:Int}{t u v:Tok}{i:Nat}(I:Inv X D3 FV H s)(h1:-(2 ^ 62)<=lo)(h2:lo<2 ^ 62)(l:-(2 ^ 62)<=c)(m:c<2 ^ 62)
  (q:R (Sk lo (c - lo).toNat) H):wpAny (model X.prog X.w) X.A (pyIter (.ref s.heap.objs.size)) (PIE X D3 FV tg R) E {s with heap:=s.heap.push {cls:=.type "range",data:=.fields #[.int lo t,.int c u,.int 1 v]},toks:=i}:=by
 refine wpAny_pyIter_range (IsRange.new ..) (small_one h1 h2 l m) ?_;have f:Inv X D3 FV H {s with heap:=s.heap.push {cls:=.type "range",data:=.fields #[.int lo t,.int c u,.int 1 v]},toks:=i}:=I.kept λb o e=>ac _ e;refine⟨(s.heap.push {cls:=.type "range",data:=.fields #[.int lo t,.int c u,.int 1 v]}).objs.size,[(s.heap.push {cls:=.type "range",data:=.fields #[.int lo t,.int c u,.int 1 v]}).objs.size],_,_,H,rfl,
  f.kept (t':=i) λb o e=>ac _ e,HD _ lo (c - lo).toNat,?_,λb j=>?_,q⟩
 ·have e1:lo+((0:Nat):Int)*1=lo:=by simp
  have e2:(((c - lo).toNat:Nat):Int) - ((0:Nat):Int)=Builtin.Range.rangeSize lo c 1:=by rw[qk];split<;>omega
  show IsRangeIter _ _ (lo+((0:Nat):Int)*1) ((((c - lo).toNat:Nat):Int) - ((0:Nat):Int)) 1;rw[e1,e2];exact ay _ rfl
 ·have e:b=(s.heap.push {cls:=.type "range",data:=.fields #[.int lo t,.int c u,.int 1 v]}).objs.size:=by simpa using j
  subst e;exact f.OO (aI _) (f.EJ.fresh (aI _))
def xN(ta:TA):TI:=fun FV H R=>ta FV H λvs H1=>∃j:Int,vs=[.int j]/\-(2 ^ 62)<=j/\j<2 ^ 62/\R (Sk 0 j.toNat) H1
def Wb(ta:TA):TI:=fun FV H R=>ta FV H λvs H1=>∃i j:Int,vs=[.int i,.int j]/\(-(2 ^ 62)<=i/\i<2 ^ 62/\-(2 ^ 62)<=j/\j<2 ^ 62)/\R (Sk i (j - i).toNat) H1
def uF{a:Expr}{ta:TA}{p:Pos}(m:Gl X "range")(z:X.mg "range" = none)(f:PA X [a] ta)(l:autoParam (starEach [a] X.env=[(false,eval a X.env)]) r0_):PI X tg (.Call (.Name "range" p) [a] [] pos) (xN ta):=by
 intro D3 s FV H R I h;refine Call_ (gG I m z boot_range (ci (EO (f pos D3 s FV H _ I h) ?_) l rfl));rintro us C ⟨vs,H1,i,y,c⟩;obtain⟨j,e,c,n,q⟩:=c;subst e;cases y with
 |cons r B=>
  cases B;obtain⟨t,rfl⟩:=r;exact call_range_1 (Cp i (by omega) (by omega) c n (by simpa using q))
def JS{a b:Expr}{ta:TA}{p:Pos}(D:Gl X "range")(J:X.mg "range" = none)(n:PA X [a,b] ta)(C:autoParam (starEach [a,b] X.env=[(false,eval a X.env),(false,eval b X.env)]) r0_)(l:autoParam (starEach [b] X.env=[(false,eval b X.env)]) r0_):
  PI X tg (.Call (.Name "range" p) [a,b] [] pos) (Wb ta):=by
 intro D3 s FV H R I h;refine Call_ (gG I D J boot_range (ci (EO (n pos D3 s FV H _ I h) λus L ⟨vs,H1,z,G,f⟩=>?_) (by rw[C,l]) (by rw[l];rfl)));obtain⟨i,j,e,⟨f,F,m,B⟩,q⟩:=f;subst e;cases G with
 |cons r c=>
  cases c with
  |cons y c=>
   cases c;obtain⟨t,rfl⟩:=r;obtain⟨t',rfl⟩:=y;exact call_range_2 (Cp z f F m B q)
def wB(wi:TI)(g:TG)(tb:TS):TS:=λD FV H=>wi FV H λJ H1=>∃W:Nat->Nat->St->Hp->Prop,(∃m,W 0 m FV H1)/\∀i m FV H,W i m FV H->
 (J.stop i H/\D.nx FV H)\/(J.go i H/\∃N:St->Hp->Prop,(∀ GG H',N GG H'->∃m',m'<m/\W (i+1) m' GG H')/\∀x H',J.S3 i H x H'->g x FV H' fun G2 H2=>tb {D with nx:=N,ct:=N,bk:=D.nx} G2 H2)
noncomputable def uG(fp:rS)(h:Heap):List (Addr×Obj):=fp.filterMap λb=>(h.get? b).map λo=>(b,o)
def pL{c:rS}{o:Obj}(f:b∈c)(e:h.get? b=some o):(b,o)∈uG c h:=List.mem_filterMap.mpr ⟨b,f,by rw[e];rfl⟩
def JT{c:rS}{p:Addr×Obj}(j:p∈uG c h):p.1∈c/\h.get? p.1=some p.2:=by
 obtain⟨b,i,e⟩:=List.mem_filterMap.mp j;cases q:h.get? b with
 |none=>rw[q]at e;cases e
 |some o=>
  rw[q]at e;have f:(b,o)=p:=bp e;subst f;exact⟨i,q⟩
def Inv.pinned{s:Shared}{c:rS}(I:Inv X D3 FV H s)(n:∀b∈c,mF X D3 H b)(q:∀b∈c,∃o,s.heap.get? b=some o/\∀v,o.data≠.cell v):Inv X (D3++uG c s.heap) FV H s:=
 I.Pf λp r=>(dS.mp r).elim (λz=>I.pin p (dP _ z)) λz=>by
  obtain⟨f,e⟩:=JT z;obtain⟨j,m,l,_⟩:=n p.1 f;obtain⟨o,i,d⟩:=q p.1 f;rw[e]at i;cases i;exact⟨e,j,m,l,d⟩
def Inv.JY{pl:qS}{s:Shared}(I:Inv X (D3++pl) FV H s):Inv X D3 FV H s:=I.Pf λp c=>I.pin p (dP _ (iP _ c))
def rK{j:Expr}{body:rg}{wi:TI}{g:TG}{tb:TS}(G:PassesOwn (model X.prog X.w) X.A X.env X.xe)(hc:X.calm=true)(hi:PI X tg j wi)(hg:PG X tg g)(q:L5 X body tb)
  (hs:autoParam (∀x,foldedSetIterable j X.env x=pure x) r4_):PS X (.For tg j body [] pos) (wB wi g tb):=by
 intro D3 s FV H D I h;refine wpAny_For (EO (hi D3 s FV H _ I h) λv s1 h1=>EO h1 λitv s2 h2=>?_) hs;obtain⟨it,F,tn,J,H2,e,I2,T,st2,f2,W,⟨m0,w0⟩,turn⟩:=h2;subst e;have OP:∀{H':Hp},(∀b∈F,H' b=none)->∀b∈F,mF X D3 H' b:=λhn b q=>⟨hn b q,(f2 b q).2⟩;refine codeAny_forLoop_any (λn s'=>∃i L H',Inv X D3 L H' s'/\tn i s'.heap/\(∀b∈F,H' b=none)/\W i n L H') ?_ m0 ⟨0,FV,H2,I2,st2,λb q=>(f2 b q).1,w0⟩;rintro n s3 ⟨i,O,Y,I3,B,M,w3⟩;rcases turn i n O Y w3 with⟨C,qn⟩|⟨go,N,hN,step⟩
 ·refine g0 G (EO (T.done X rfl rfl rfl hc i D3 s3 O Y X.xe I3 (OP M) B C) ?_)
  rintro r s4 ⟨Z,I4⟩;subst Z;exact lj ⟨O,Y,I4,qn⟩
 ·refine g0 G (EO (T.item X rfl rfl rfl hc i D3 s3 O Y X.xe I3 (OP M) B go) ?_)
  rintro r s4 ⟨u,Z,h4⟩;subst Z;refine g0 G (EO h4 ?_);rintro _ s5 ⟨x,H5,I5,r5,y5,ZU,fr5⟩;have I5':=I5.pinned (OP fr5) (T.obj _ _ ZU);refine g0 G (EO (hg _ s5 O H5 x u _ I5' r5 (step x H5 y5)) ?_);rintro _ s6 ⟨US,H6,I6,q6⟩;refine g0 G (EO (q _ s6 US H6 _ I6 q6) λf s7 z=>?_);have c:∀{y:St}{l:Hp},Inv X (D3++uG F s5.heap) y l s7->N y l->∃m,m<n/\∃i L H',Inv X D3 L H' s7/\tn i s7.heap/\(∀b∈F,H' b=none)/\W i m L H':=λ{y l} p U=>by
   obtain⟨m',hm,w7⟩:=hN y l U;refine⟨m',hm,i+1,y,l,p.JY,T.keep _ _ _ ZU λb q o e=>(p.pin (b,o) (dP _ (dP _ (pL q e)))).1,λb q=>?_,w7⟩;obtain⟨o,e,d⟩:=T.obj _ _ ZU b q;exact(p.pin (b,o) (dP _ (dP _ (pL q e)))).2.1
  cases f with
  |next=>obtain⟨y,l,p,U⟩:=z;exact c p U
  |cont=>obtain⟨y,l,p,U⟩:=z;exact c p U
  |brk=>obtain⟨y,l,p,z⟩:=z;exact⟨y,l,p.JY,z⟩
  |ret v=>obtain⟨x7,y,l,p,r7,z⟩:=z;exact⟨x7,y,l,p.JY,r7,z⟩
end
def Cq{xs:sC}{g:TG}{tb:TS}{D:Ends}(c:Nat->St->Hp->Prop)(r:c 0 FV H)(n:∀i FV H,i<=xs.length->c i FV H->Fc K H a xs)
  (l:∀i x FV H,xs[i]?=some x->c i FV H->g x FV H fun G2 H2=>tb {D with nx:=c (i+1),ct:=c (i+1),bk:=D.nx} G2 H2) (z:∀ FV H,c xs.length FV H->D.nx FV H):
  ∃W:Nat->Nat->St->Hp->Prop,(∃m,W 0 m FV H)/\∀i m FV H,W i m FV H->
   ((Yz K a).stop i H/\D.nx FV H)\/((Yz K a).go i H/\∃N:St->Hp->Prop,(∀ GG H',N GG H'->∃f,f<m/\W (i+1) f GG H')/\∀x H',(Yz K a).S3 i H x H'->g x FV H' fun G2 H2=>tb {D with nx:=N,ct:=N,bk:=D.nx} G2 H2):=by
 refine⟨λi m FV H=>m=xs.length - i/\i<=xs.length/\c i FV H,⟨xs.length,by simp,cq _,r⟩,?_⟩;rintro i m FV H ⟨rfl,j,p⟩;have q:=n i FV H j p;by_cases F4:i<xs.length
 ·refine .inr ⟨⟨xs,xs[i],q,by simp[F4]⟩,c (i+1),fun GG H' p'=>⟨xs.length - (i+1),by omega,rfl,F4,p'⟩,λx H' y=>?_⟩
  obtain⟨e,y⟩:=y;subst e;exact l i x FV _ (y xs q) p
 ·have e:i=xs.length:=by omega
  subst e;exact .inl ⟨⟨xs,q,aI _⟩,z FV H p⟩
def Qz{xs:sC}{g:TG}{tb:TS}{D:Ends}(c:Nat->St->Hp->Prop)(r:c 0 FV H)(n:∀i FV H,i<=xs.length->c i FV H->GN K H a xs)
  (l:∀i x FV H,xs[i]?=some x->c i FV H->g x FV H fun G2 H2=>tb {D with nx:=c (i+1),ct:=c (i+1),bk:=D.nx} G2 H2) (z:∀ FV H,c xs.length FV H->D.nx FV H):
  ∃W:Nat->Nat->St->Hp->Prop,(∃m,W 0 m FV H)/\∀i m FV H,W i m FV H->
   ((YA K a).stop i H/\D.nx FV H)\/((YA K a).go i H/\∃N:St->Hp->Prop,(∀ GG H',N GG H'->∃f,f<m/\W (i+1) f GG H')/\∀x H',(YA K a).S3 i H x H'->g x FV H' fun G2 H2=>tb {D with nx:=N,ct:=N,bk:=D.nx} G2 H2):=by
 refine⟨λi m FV H=>m=xs.length - i/\i<=xs.length/\c i FV H,⟨xs.length,by simp,cq _,r⟩,?_⟩;rintro i m FV H ⟨rfl,j,p⟩;have q:=n i FV H j p;by_cases F4:i<xs.length
 ·refine .inr ⟨⟨xs,xs[i],q,by simp[F4]⟩,c (i+1),fun GG H' p'=>⟨xs.length - (i+1),by omega,rfl,F4,p'⟩,λx H' y=>?_⟩
  obtain⟨e,y⟩:=y;subst e;exact l i x FV _ (y xs q) p
 ·have e:i=xs.length:=by omega
  subst e;exact .inl ⟨⟨xs,q,aI _⟩,z FV H p⟩
def JV{lo:Int}{n:Nat}{g:TG}{tb:TS}{D:Ends}(c:Nat->St->Hp->Prop)(l:c 0 FV H)
  (j:∀i FV H,i<n->c i FV H->g (.int (lo+i)) FV H fun G2 H2=>tb {D with nx:=c (i+1),ct:=c (i+1),bk:=D.nx} G2 H2) (q:∀ FV H,c n FV H->D.nx FV H):
  ∃W:Nat->Nat->St->Hp->Prop,(∃m,W 0 m FV H)/\∀i m FV H,W i m FV H->
   ((Sk lo n).stop i H/\D.nx FV H)\/((Sk lo n).go i H/\∃N:St->Hp->Prop,(∀ GG H',N GG H'->∃f,f<m/\W (i+1) f GG H')/\∀x H',(Sk lo n).S3 i H x H'->g x FV H' fun G2 H2=>tb {D with nx:=N,ct:=N,bk:=D.nx} G2 H2):=by
 refine⟨λi m FV H=>m=n - i/\i<=n/\c i FV H,⟨n,by simp,cq _,l⟩,?_⟩;rintro i m FV H ⟨rfl,r,p⟩;by_cases F4:i<n
 ·refine .inr ⟨F4,c (i+1),fun GG H' p'=>⟨n - (i+1),by omega,rfl,F4,p'⟩,λx H' y=>?_⟩
  obtain⟨e,y⟩:=y;subst e y;exact j i FV _ F4 p
 ·have e:i=n:=by omega
  subst e;exact .inl ⟨aI _,q FV H p⟩
abbrev R2:=V->V->Hp->VK->Prop
def GW(X:Cx)(f:Value->Value->Sem Value)(r:R2):Prop:=
 ∀(D3:qS) (s:Shared) (FV:St) (H:Hp) (x y:V) (v u:Value) (Q:VK),Inv X D3 FV H s->RelV x v->RelV y u->r x y H Q->
  wpAny (model X.prog X.w) X.A (f v u) (EP X D3 FV Q) X.xe s
def UnR(X:Cx)(f:Value->Sem Value)(r:V->Hp->VK->Prop):Prop:=
 ∀(D3:qS) (s:Shared) (FV:St) (H:Hp) (x:V) (v:Value) (Q:VK),Inv X D3 FV H s->RelV x v->r x H Q->
  wpAny (model X.prog X.w) X.A (f v) (EP X D3 FV Q) X.xe s
def Fh(X:Cx)(f:Value)(r:List V->Hp->VK->Prop):Prop:=
 ∀(D3:qS) (s:Shared) (FV:St) (H:Hp) (xs:sC) (us:re) (Q:VK),Inv X D3 FV H s->Vals xs us->r xs H Q->
  wpAny (model X.prog X.w) X.A (call f us) (EP X D3 FV Q) X.xe s
def QE(r:R2)(ta tb:TE):TE:=fun FV H Q=>ta FV H λx H1=>tb FV H1 λy H2=>r x y H2 Q
def tUn(r:V->Hp->VK->Prop)(ta:TE):TE:=fun FV H Q=>ta FV H λx H1=>r x H1 Q
inductive rI(C:Int->Int->Prop)(g:Int->Int->V)(x:V)(y:V)(H:Hp)(Q:VK):Prop
 |mk (i:_) (j:_) (h0:x=.int i) (h1:y=.int j) (h2:C i j) (h3:Q (g i j) H):rI C g x y H Q
inductive S4(g:Int->Int->V)(x:V)(y:V)(H:Hp)(Q:VK):Prop
 |mk (i:_) (j:_) (h0:x=.int i) (h1:y=.int j) (h2:Q (g i j) H):S4 g x y H Q
def rU(g:Int->V):V->Hp->VK->Prop:=λx H Q=>∃i,x=.int i/\Q (g i) H
section
variable {X:Cx}{a b c:Expr}{ta tb tc:TE}{pos:Pos}
def MF(m:PE X a ta)(j:PE X b tb){s:Shared}{R:V->V->Hp->Prop}(I:Inv X D3 FV H s)
  (h:ta FV H λx H1=>tb FV H1 λy H2=>R x y H2){Q:oT}{f:Value->Value->Sem Value}
  (C:∀v u i x y H2,Inv X D3 FV H2 i->RelV x v->RelV y u->R x y H2->wpAny (model X.prog X.w) X.A (f v u) Q X.xe i):
  wpAny (model X.prog X.w) X.A (eval a X.env) (λv r=>wpAny (model X.prog X.w) X.A (eval b X.env) (λu z=>wpAny (model X.prog X.w) X.A (f v u) Q X.xe z) X.xe r) X.xe s:=by
 refine EO (m D3 s FV H _ I h) ?_;rintro v l ⟨x,H1,n,B,D⟩;refine EO (j D3 l FV H1 _ n D) ?_;rintro u i ⟨y,H2,F,p,q⟩;exact C v u i x y H2 F B p q
def P_{op:Operator}{r:R2}(n:GW X (binaryOp op) r)(l:PE X a ta)(f:PE X b tb):PE X (.BinOp a op b pos) (QE r ta tb):=by
 intro D3 s FV H Q I h;exact wpAny_BinOp (MF l f I h λv u i x y H2 p j m q=>n D3 i FV H2 x y v u Q p j m q)
def Wd{op:UnaryOp}{r:V->Hp->VK->Prop}(m:UnR X (unaryOp op) r)(j:PE X a ta):PE X (.UnaryOp op a pos) (tUn r ta):=by
 intro D3 s FV H Q I h;exact UnaryOp_ (EO (j D3 s FV H _ I h) λv f ⟨x,H1,l,i,n⟩=>m D3 f FV H1 x v Q l i n)
def opI{f:Value->Value->Sem Value}{C:Int->Int->Prop}{g:Int->Int->Int}
  (l:∀(i j:Int) (t u:Tok) (s:Shared) (Q:oT) (E:oT),C i j->Q (.int (g i j) s.toks) {s with toks:=s.toks+1}->wpAny (model X.prog X.w) X.A (f (.int i t) (.int j u)) Q E s):
  GW X f (rI C λi j=>.int (g i j)):=by
 intro D3 s FV H x y v u Q I m p h;obtain⟨i,j,rfl,rfl,n,q⟩:=h;obtain⟨t,rfl⟩:=m;obtain⟨t',rfl⟩:=p;exact l i j t t' s _ _ n ⟨.int (g i j),H,I.tok _,⟨_,rfl⟩,q⟩
def S5{f:Value->Value->Sem Value}{g:Int->Int->Int}
  (l:∀(i j:Int) (t u:Tok) (s:Shared) (Q:oT) (E:oT),Q (.int (g i j) s.toks) {s with toks:=s.toks+1}->wpAny (model X.prog X.w) X.A (f (.int i t) (.int j u)) Q E s):
  GW X f (S4 λi j=>.int (g i j)):=by
 intro D3 s FV H x y v u Q I m n h;obtain⟨i,j,rfl,rfl,q⟩:=h;obtain⟨t,rfl⟩:=m;obtain⟨t',rfl⟩:=n;exact l i j t t' s _ _ ⟨.int (g i j),H,I.tok _,⟨_,rfl⟩,q⟩
def S6{f:Value->Value->Sem Value}{g:Int->Int->Bool}
  (l:∀(i j:Int) (t u:Tok) (s:Shared) (Q:oT) (E:oT),Q (.bool (g i j)) s->wpAny (model X.prog X.w) X.A (f (.int i t) (.int j u)) Q E s):
  GW X f (S4 λi j=>.bl (g i j)):=by
 intro D3 s FV H x y v u Q I m n h;obtain⟨i,j,rfl,rfl,q⟩:=h;obtain⟨t,rfl⟩:=m;obtain⟨t',rfl⟩:=n;exact l i j t t' s _ _ ⟨.bl (g i j),H,I,rfl,q⟩
def S7(i j:Int):Prop:=0<j/\j<1073741824
def YB(i j:Int):Prop:=(-(2 ^ 64)<i/\i<2 ^ 64)\/(-(2 ^ 64)<j/\j<2 ^ 64)
def YB.ok{i j:Int}(h:YB i j):IntMulOk i j:=by
 rcases h with⟨h1,h2⟩|⟨h1,h2⟩
 ·exact .of_left (intBits_le_64 h1 h2)
 ·exact .of_right (intBits_le_64 h1 h2)
def S8:GW X (binaryOp .Add) (S4 λi j=>.int (i+j)):=S5 λ_ _ _ _ _ _ _ q=>add_int q
def S9:GW X (binaryOp .Sub) (S4 λi j=>.int (i - j)):=S5 λ_ _ _ _ _ _ _ q=>sub_int q
def S_:GW X (binaryOp .Mult) (rI YB λi j=>.int (i*j)):=opI λ_ _ _ _ _ _ _ f q=>mul_int q f.ok
def QB:GW X (binaryOp .FloorDiv) (rI S7 λi j=>.int (i / j)):=opI λi j _ _ _ _ _ f q=>by
 have h1:(0:Int)<j:=f.1;have h2:j<1073741824:=f.2;exact floordiv_int (by omega) (by rw[Int.fdiv_eq_ediv_of_nonneg i (by omega)];exact q) (.inl (PyProof.noPylong_small (by omega)))
def Tc:GW X (binaryOp .Mod) (rI (λ_ j=>0<j) λi j=>.int (i%j)):=opI λi j _ _ _ _ _ f q=>by
 have h1:(0:Int)<j:=f;exact mod_int' (by omega) (by rw[Int.fmod_eq_emod_of_nonneg i (by omega)];exact q)
def YC{f:Value->Sem Value}{g:Int->Int}
  (j:∀(i:Int) (t:Tok) (s:Shared) (Q:oT) (E:oT),Q (.int (g i) s.toks) {s with toks:=s.toks+1}->wpAny (model X.prog X.w) X.A (f (.int i t)) Q E s):
  UnR X f (rU λi=>.int (g i)):=by
 intro D3 s FV H x v Q I l h;obtain⟨i,rfl,q⟩:=h;obtain⟨t,rfl⟩:=l;exact j i t s _ _ ⟨.int (g i),H,I.tok _,⟨_,rfl⟩,q⟩
def Td:UnR X (unaryOp .USub) (rU λi=>.int (-i)):=YC λ_ _ _ _ _ q=>neg_int q
end
noncomputable def MJ:V->V->Bool
 |.Ee,.Ee=>true|.Ee,.int _=>true|.int _,.Ee=>true|.Ee,.bl _=>true|.bl _,.Ee=>true|.Ee,.str _=>true|.str _,.Ee=>true
 |.int _,.int _=>true|.bl _,.bl _=>true|.str _,.str _=>true|.Si _,.Si _=>true
 |.int _,.str _=>true|.str _,.int _=>true|.bl _,.str _=>true|.str _,.bl _=>true
 |_,_=>false
def rEq:R2:=λx y H Q=>MJ x y=true/\Q (.bl (decide (x=y))) H
def rNe:R2:=λx y H Q=>MJ x y=true/\Q (.bl (!decide (x=y))) H
def Gx{i j:Int}:decide (V.int i=V.int j)=(i == j):=by
 rw[kq];simp
def JW{i j:Bool}:decide (V.bl i=V.bl j)=(i == j):=by
 rw[kq];simp
def Gy{i j:Str}:decide (V.str i=V.str j)=(i == j):=by
 rw[kq];simp
def Gz{i j:Array UInt8}:decide (V.Si i=V.Si j)=(i.toList == j.toList):=by
 rw[kq];cases i;cases j;simp
variable {us:re}
section
variable {X:Cx}{a b c:Expr}{ta tb tc:TE}{pos:Pos}
def bN{s:Shared}{Q:VK}{k f:Bool}(I:Inv X D3 FV H s)(q:Q (.bl k) H)(e:k=f):EP X D3 FV Q (.bool f) s:=by
 subst e;exact⟨.bl k,H,I,rfl,q⟩
def We:GW X (compareOp .Eq) rEq:=by
 intro D3 s FV H x y v u Q I m f h;obtain⟨l,q⟩:=h;cases x with
 |Ee=>
  cases m;cases y with
  |Ee=>cases f;exact PySem.EqNone.eq_none_none (bN I q (by simp))
  |bl j=>cases f;exact PySem.EqNone.eq_none_bool (bN I q (by simp))
  |int j=>obtain⟨t',rfl⟩:=f;exact PySem.EqNone.eq_none_int (bN I q (by simp))
  |str j=>obtain⟨t',rfl⟩:=f;exact PySem.EqNone.eq_none_str (bN I q (by simp))
  |_=>exact absurd (show false=true from l) bq
 |bl i=>
  cases m;cases y with
  |Ee=>cases f;exact PySem.EqNone.eq_bool_none (bN I q (by simp))
  |bl j=>cases f;exact eq_bool (bN I q JW)
  |str j=>obtain⟨t',rfl⟩:=f;exact PySem.EqMixed.eq_bool_str (bN I q (by simp))
  |_=>exact absurd (show false=true from l) bq
 |int i=>
  obtain⟨t,rfl⟩:=m;cases y with
  |Ee=>cases f;exact PySem.EqNone.eq_int_none (bN I q (by simp))
  |int j=>obtain⟨t',rfl⟩:=f;exact eq_int (bN I q Gx)
  |str j=>obtain⟨t',rfl⟩:=f;exact PySem.EqMixed.eq_int_str (bN I q (by simp))
  |_=>exact absurd (show false=true from l) bq
 |str i=>
  obtain⟨t,rfl⟩:=m;cases y with
  |Ee=>cases f;exact PySem.EqNone.eq_str_none (bN I q (by simp))
  |bl j=>cases f;exact PySem.EqMixed.eq_str_bool (bN I q (by simp))
  |int j=>obtain⟨t',rfl⟩:=f;exact PySem.EqMixed.eq_str_int (bN I q (by simp))
  |str j=>obtain⟨t',rfl⟩:=f;exact eq_str (bN I q Gy)
  |_=>exact absurd (show false=true from l) bq
 |Si i=>
  obtain⟨t,rfl⟩:=m;cases y with
  |Si j=>obtain⟨t',rfl⟩:=f;exact W.eq_bytes (bN I q Gz)
  |_=>exact absurd (show false=true from l) bq
 |_=>cases y<;>exact absurd (show false=true from l) bq
def Wf:GW X (compareOp .NotEq) rNe:=by
 intro D3 s FV H x y v u Q I m f h;obtain⟨l,q⟩:=h;cases x with
 |Ee=>
  cases m;cases y with
  |Ee=>cases f;exact PySem.EqNone.ne_none_none (bN I q (by simp))
  |bl j=>cases f;exact PySem.EqNone.ne_none_bool (bN I q (by simp))
  |int j=>obtain⟨t',rfl⟩:=f;exact PySem.EqNone.ne_none_int (bN I q (by simp))
  |str j=>obtain⟨t',rfl⟩:=f;exact PySem.EqNone.ne_none_str (bN I q (by simp))
  |_=>exact absurd (show false=true from l) bq
 |bl i=>
  cases m;cases y with
  |Ee=>cases f;exact PySem.EqNone.ne_bool_none (bN I q (by simp))
  |bl j=>cases f;exact ne_bool (bN I q (gg not JW))
  |str j=>obtain⟨t',rfl⟩:=f;exact PySem.EqMixed.ne_bool_str (bN I q (by simp))
  |_=>exact absurd (show false=true from l) bq
 |int i=>
  obtain⟨t,rfl⟩:=m;cases y with
  |Ee=>cases f;exact PySem.EqNone.ne_int_none (bN I q (by simp))
  |int j=>obtain⟨t',rfl⟩:=f;exact ne_int (bN I q (gg not Gx))
  |str j=>obtain⟨t',rfl⟩:=f;exact PySem.EqMixed.ne_int_str (bN I q (by simp))
  |_=>exact absurd (show false=true from l) bq
 |str i=>
  obtain⟨t,rfl⟩:=m;cases y with
  |Ee=>cases f;exact PySem.EqNone.ne_str_none (bN I q (by simp))
  |bl j=>cases f;exact PySem.EqMixed.ne_str_bool (bN I q (by simp))
  |int j=>obtain⟨t',rfl⟩:=f;exact PySem.EqMixed.ne_str_int (bN I q (by simp))
  |str j=>obtain⟨t',rfl⟩:=f;exact ne_str (bN I q (gg not Gy))
  |_=>exact absurd (show false=true from l) bq
 |Si i=>
  obtain⟨t,rfl⟩:=m;cases y with
  |Si j=>obtain⟨t',rfl⟩:=f;exact W.ne_bytes (bN I q (gg not Gz))
  |_=>exact absurd (show false=true from l) bq
 |_=>cases y<;>exact absurd (show false=true from l) bq
def Wg:GW X (compareOp .Lt) (S4 λi j=>.bl (decide (i<j))):=S6 λ_ _ _ _ _ _ _ q=>lt_int q
def Wh:GW X (compareOp .Gt) (S4 λi j=>.bl (decide (j<i))):=S6 λ_ _ _ _ _ _ _ q=>gt_int q
def JX:GW X (compareOp .In) (λx y H Q=>∃i j,x=.str i/\y=.str j/\Q (.bl (!(Builtin.Str.occurrences j i 0 j.length 1).isEmpty)) H):=by
 intro D3 s FV H x y v u Q I f l h;obtain⟨i,j,rfl,rfl,q⟩:=h;obtain⟨t,rfl⟩:=f;obtain⟨t',rfl⟩:=l;exact in_str (bN I q rfl)
def Te:GW X (compareOp .Is) (λx y H Q=>y=.Ee/\Q (.bl (decide (x=.Ee))) H):=by
 intro D3 s FV H x y v u Q I f i h;obtain⟨rfl,q⟩:=h;cases i;refine is_none_gen (bN I q ?_);cases x<;>first
  |(cases f;rfl)
  |(obtain⟨t,rfl⟩:=f;rfl)
def QC:GW X (compareOp .IsNot) (λx y H Q=>y=.Ee/\Q (.bl (!decide (x=.Ee))) H):=by
 intro D3 s FV H x y v u Q I f i h;obtain⟨rfl,q⟩:=h;cases i;refine isnot_none_gen (bN I q ?_);cases x<;>first
  |(cases f;rfl)
  |(obtain⟨t,rfl⟩:=f;rfl)
def GW.or{f:Value->Value->Sem Value}{r l:R2}(h:GW X f r)(h':GW X f l):GW X f (λx y H Q=>r x y H Q\/l x y H Q):=by
 intro D3 s FV H x y v u Q I i j q;rcases q with q|q
 ·exact h D3 s FV H x y v u Q I i j q
 ·exact h' D3 s FV H x y v u Q I i j q
def rM(b:Expr)(h:autoParam (op≠.In) r1_)(h2:autoParam (op≠.NotIn) r1_):behindInMarks op b=false:=by
 have e1:(op == CmpOp.In)=false:=by cases op<;>first|rfl|exact absurd rfl h
 have e2:(op == CmpOp.NotIn)=false:=by cases op<;>first|rfl|exact absurd rfl h2
 cases b<;>simp[behindInMarks,e1,e2]
def QD{r:R2}(p:GW X (compareOp op) r)(l:PE X a ta)(f:PE X b tb)(n:behindInMarks op b=false):PE X (.Compare a [op] [b] pos) (QE r ta tb):=by
 intro D3 s FV H Q I h;exact wpAny_Compare1 (MF l f I h λv u i x y H2 z j m q=>p D3 i FV H2 x y v u Q z j m q) n
def Wk(t:TE):TT:=fun FV H Q=>t FV H λx H'=>∃k,x=.bl k/\Q k H'
def QF{r:R2}(J:GW X (compareOp op) r)(n:PE X a ta)(f:PE X b tb)(F:behindInMarks op b=false):PT X (.Compare a [op] [b] pos) (Wk (QE r ta tb)):=by
 intro D3 s FV H Q I h;refine wpAny_isTrue_Compare1 (EO (n D3 s FV H _ I h) λv i ⟨x,H1,p,D,L⟩=>EO (f D3 i FV H1 _ p L) λu j ⟨y,H2,M,q,C⟩=>
  EO (J D3 j FV H2 x y v u _ M D q C) λc N ⟨z,l,B,G,k,e,m⟩=>?_) F
 subst e;cases G;exact iF ⟨l,B,m⟩
def rO:(sizeLine:Nat)<2 ^ 63:=by rw[ib];decide
def HH:GW X (binaryOp .Add) (λx y H Q=>∃i j,x=.str i/\y=.str j/\i.length+j.length<=sizeLine/\Q (.str (i++j)) H):=by
 intro D3 s FV H x y v u Q I f l h;obtain⟨i,j,rfl,rfl,hz,q⟩:=h;obtain⟨t,rfl⟩:=f;obtain⟨t',rfl⟩:=l;exact add_str (λt' m=>⟨.str (i++j),H,I.tok _,⟨_,rfl⟩,q⟩) hz
def vals1{x:V}(r:Vals [x] us):∃u,us=[u]/\RelV x u:=by
 cases r with
 |cons i f=>cases f;exact⟨_,rfl,i⟩
def vals2{x y:V}(r:Vals [x,y] us):∃u f,us=[u,f]/\RelV x u/\RelV y f:=by
 cases r with
 |cons i j=>
  cases j with
  |cons m l=>cases l;exact⟨_,_,rfl,i,m⟩
def JZ(f:X.calm=true):Fh X (.builtin "max") (λxs H Q=>∃i j,xs=[.int i,.int j]/\Q (.int (if j>i then j else i)) H):=by
 intro D3 s FV H xs us Q I r h;obtain⟨i,j,rfl,q⟩:=h;obtain⟨u,l,rfl,⟨t,rfl⟩,⟨t',rfl⟩⟩:=vals2 r;refine max_two_ints (I.ok.hd f) λh' m k=>⟨_,H,I.kept k,?_,q⟩;by_cases hj:j>i
 ·rw[bS hj,bS hj];exact⟨_,rfl⟩
 ·rw[br hj,br hj];exact⟨_,rfl⟩
def J0(f:X.calm=true):Fh X (.builtin "min") (λxs H Q=>∃i j,xs=[.int i,.int j]/\Q (.int (if j<i then j else i)) H):=by
 intro D3 s FV H xs us Q I r h;obtain⟨i,j,rfl,q⟩:=h;obtain⟨u,l,rfl,⟨t,rfl⟩,⟨t',rfl⟩⟩:=vals2 r;refine min_two_ints (I.ok.hd f) λh' m k=>⟨_,H,I.kept k,?_,q⟩;by_cases hj:j<i
 ·rw[bS hj,bS hj];exact⟨_,rfl⟩
 ·rw[br hj,br hj];exact⟨_,rfl⟩
end
structure OQ(h:Heap)(x dx C:Addr)(mA:rX):Prop where
 obj:h.get? x=some (W.instObj C dx)
 ns:h.Ns1 dx mA
 ne:dx≠x
set_option tactic.hygienic true in def J3{j:Addr}{i:rX}(n:h.Ns1 j i):∃l,h.get? j=some l/\∀name,W.lookIn name l=some (i name):=by
 obtain⟨o,es,ep,D,r,C,_,B⟩:=n;refine⟨o,D,λname=>?_⟩;have e:=B name;unfold nsFind findBy at e;rw[←Array.find?_toList]at e;unfold W.lookIn;rw[r];dsimp only;split
 ·rename_i y q
  rw[q]at e;exact gg some e
 ·rename_i q
  rw[q]at e;have a:es.toList.any (·.refKey)=false:=by
   rw[ny];intro y p;obtain⟨z,t,f⟩:=C y (Array.mem_toList_iff.mp p);simp[DictEntry.refKey,f]
  have m:¬ es.toList.any (·.refKey)=true:=by rw[a];exact bq
  rw[br m];exact gg some e
def OQ.look{x i C:Addr}{j:rX}(I:OQ h x i C j):∃f,W.InstAt h x (W.instObj C i) C (some f)/\∀name,W.lookIn name f=some (j name):=
 let ⟨f,ho,hl⟩:=J3 I.ns
 ⟨f,⟨I.obj,rfl,rfl,ho⟩,hl⟩
variable {kw:List (Str×Value)}
section
variable {prog:Program}{w:World}{A:Around}{E:oT}{s:Shared}{K:W.Frag}{x dx C f:Addr}{mA:rX}{name:Str}{v:Value}
def QG{i:Bool}{Q:oT}(X:K.In s.heap)(I:OQ s.heap x dx C mA)(q:W.plainGet K C name=true)(l:W.hasDictIn K C=true)
  (n:W.findIn K (.ref C) name=some none) (m:mA name=some v) (j:W.handedIn v=true) (h:Q v {s with toks:=s.toks+1}):
  wpAny (model prog w) A (getAttr (.ref x) name i) Q E s:=by
 obtain⟨r,J,p⟩:=I.look;exact W.get_value X J (l5 q).1 (W.findObj_own l n rfl (by rw[p,m])) j h
def MK{pl:Sem Bool}{Q:Value×List Value->Shared->Prop}(X:K.In s.heap)(I:OQ s.heap x dx C mA)(i:W.plainGet K C name=true)
  (m:W.findIn K (.ref C) name=some (some (.ref f))) (j:W.isFn K (.ref f)=true) (l:mA name=none) (h:Q (.ref f,[.ref x]) s):
  wpAny (model prog w) A (getMethod (.ref x) name pl) Q E s:=by
 obtain⟨p,J,n⟩:=I.look;exact W.method_fn X J (l5 i).1 (l5 i).2 m (iS.mp j) (by show(W.lookIn name p).map (·.isSome)=some false;rw[n,l];rfl) h
def QH{ns:rj}(X:K.In s.heap)(I:OQ s.heap x dx C mA)
  (D:W.findIn K (.ref C) "__setattr__" = some (some (.builtin "object.__setattr__"))) (N:W.plainOver K C=true) (F:W.takerIn K C name=some none) (p:W.hasDictIn K C=true)
  (q:PySem.Within mA ns) (hsz:ns.length<=sizeLine)
  (h:∀h',OQ h' x dx C (λy=>if y=name then some v else mA y)->Heap.SameBut dx s.heap h'->Q () {s with heap:=h',toks:=s.toks+2}):
  wpAny (model prog w) A (setAttr (.ref x) name v) Q E s:=by
 obtain⟨Y,J,U⟩:=I.look;refine W.set_plain X J D (W.osa_open (s:={s with toks:=s.toks+1}) (r:=none) X J N F λb=>?_);obtain⟨O,z,G⟩:=W.any_some p;have B:s.heap.get? x=some ⟨.ref C,some dx,.plain,#[]⟩:=I.obj;refine ab (ai (ab (ab (wpAny_loadPart B (ab (W.Looks.here (s:={s with toks:=s.toks+1}) (W.looks_clsIn X z) ?_))))));rw[G];refine ai (a:=some dx) (ab (ai (ab ?_)));refine wpAny_nsSet1 (s:={s with toks:=s.toks+1}) I.ns λh' i n=>?_;obtain⟨T,M,L,l,j,m⟩:=i.count (PySem.Within.cons name v q);refine ab (wpAny_lookBehind l (by rw[j];exact pastItsLine_dict (dE m (by rw[bm];omega))) ?_);exact ai (h _ ⟨(n.2 _ (gc I.ne)).trans I.obj,i,I.ne⟩ n)
def MN{R:Result->Shared->Prop}{vs:re}(X:K.In s.heap)(l:W.makesIn K C=true)
  (j:W.findIn K (.ref C) "__init__" = some (some (.ref f))) (m:W.typeIn K (.ref f)=some (.type "function"))
  (h:codeAny (model prog w) (A.under (.builtin "type.__call__" ⟨.ref C::vs,kw⟩)) (.call (.ref f) ⟨.ref (s.heap.objs.size+1)::vs,kw⟩) (W.InitBack (s.heap.objs.size+1) R)
   {s with heap:=(s.heap.push W.emptyDict).push (W.instObj C s.heap.objs.size)}):
  codeAny (model prog w) A (.call (.ref C) ⟨vs,kw⟩) R s:=by
 obtain⟨n,g,d,t,p⟩:=s;exact W.make_core (W.makes_of X l) (W.looks_findIn X j) (λi=>W.bind_fn X i m) (.inl rfl) h
end
noncomputable def cR(f:Str)(v:V):List (Str×V)->List (Str×V)
 |[]=>[(f,v)]
 |(g,x)::r=>if g=f then(g,v)::r else(g,x)::cR f v r
theorem vY(f g:Str)(v:V):∀fs:List (Str×V),(cR f v fs).lookup g=if g=f then some v else fs.lookup g
 |[]=>by
  show List.lookup g [(f,v)]=_;by_cases h:g=f
  ·have i:(g == f)=true:=iS.mpr h
   simp only[List.lookup,i,bS h]
  ·have i:(g == f)=false:=fT.mpr h
   simp only[List.lookup,i,br h]
 |(k,x)::r=>by
  have j:=vY f g v r;rw[show cR f v ((k,x)::r)=(if k=f then(k,v)::r else(k,x)::cR f v r)from rfl];by_cases hk:k=f
  ·rw[bS hk]
   by_cases h:g=k
   ·have i:(g == k)=true:=iS.mpr h
    simp only[List.lookup,i,bS (h.trans hk)]
   ·have i:(g == k)=false:=fT.mpr h
    simp only[List.lookup,i,br (λe:g=f=>h (e.trans hk.symm))]
  ·rw[br hk]
   by_cases h:g=k
   ·have i:(g == k)=true:=iS.mpr h
    simp only[List.lookup,i,br (λe:g=f=>hk (h.symm.trans e))]
   ·have i:(g == k)=false:=fT.mpr h
    simp only[List.lookup,i];exact j
theorem uH(f:Str)(v:V):∀fs:List (Str×V),f∈(cR f v fs).map (·.1)/\∀g,g∈fs.map (·.1)->g∈(cR f v fs).map (·.1)
 |[]=>⟨by simp[cR],λg h=>by simp at h⟩
 |(k,x)::r=>by
  obtain⟨j,i⟩:=uH f v r;rw[show cR f v ((k,x)::r)=(if k=f then(k,v)::r else(k,x)::cR f v r)from rfl];by_cases hk:k=f
  ·rw[bS hk]
   subst hk;exact⟨by simp,λg h=>by simpa using h⟩
  ·rw[br hk]
   refine⟨?_,λg h=>?_⟩
   ·rw[be]
    exact ap _ j
   ·rw[be]at h ⊢
    rcases bi.mp h with e|e
    ·exact bi.mpr (.inl e)
    ·exact ap _ (i g e)
theorem vZ(f:Str)(v:V):∀fs:List (Str×V),(cR f v fs).length<=fs.length+1
 |[]=>by simp[cR]
 |(k,x)::r=>by
  have i:=vZ f v r;rw[show cR f v ((k,x)::r)=(if k=f then(k,v)::r else(k,x)::cR f v r)from rfl];by_cases hk:k=f
  ·rw[bS hk,bm,bm];omega
  ·rw[br hk,bm,bm];omega
def Ic.some_of{v:V}{o:Option Value}(r:Ic (some v) o):∃u,o=some u/\RelV v u:=by
 cases o with
 |none=>exact(show False from r).elim
 |some u=>exact⟨u,rfl,r⟩
def Ic.none_of{o:Option Value}(r:Ic none o):o=none:=by
 cases o with
 |none=>rfl
 |some u=>exact(show False from r).elim
def J4{v:V}(r:RelV v u):W.handedIn u=true:=by
 cases v with
 |Ee=>cases(show u=Value.none from r);rfl
 |bl b=>cases(show u=Value.bool b from r);rfl
 |int i=>obtain⟨t,e⟩:=(show ∃t,u=Value.int i t from r);cases e;rfl
 |str x=>obtain⟨t,e⟩:=(show ∃t,u=Value.str x t from r);cases e;rfl
 |Si b=>obtain⟨t,e⟩:=(show ∃t,u=Value.bytes b t from r);cases e;rfl
 |ZN b=>obtain⟨t,e⟩:=(show ∃t,u=Value.float b t from r);cases e;rfl
 |ref a=>cases(show u=Value.ref a from r);rfl
 |ty n=>cases(show u=Value.type n from r);rfl
section
variable {P:Program}{w:World}{H H':Hp}{h h':Heap}{a C dx:Addr}{fs fs':List (Str×V)}
def vz(l:IA P w K H h)(e:H a=some (.ins C dx fs)):∃mA,OQ h a dx C mA/\(∀f,Ic (fs.lookup f) (mA f))/\PySem.Within mA (fs.map (·.1))/\fs.length<=1000/\H dx=some (.own a):=by
 obtain⟨d,z,j,i,mA,n,r,q⟩:=(show EG P w K H h a (.ins C dx fs)from l a _ e);exact⟨mA,⟨i,n,j⟩,r,q,z,d⟩
end
structure OE(K:W.Frag)(C:Addr):Prop where
 pg:W.plainGet K C Str.empty=true
 hd:W.hasDictIn K C=true
 po:W.plainOver K C=true
 sa:W.findIn K (.ref C) "__setattr__" = some (some (.builtin "object.__setattr__"))
def OE.get{C:Addr}(c:OE K C)(f:Str):W.plainGet K C f=true:=c.pg
def EX(K:W.Frag)(C:Addr)(f:Str):Prop:=W.findIn K (.ref C) f=some none
def EX.taker{C:Addr}{f:Str}(n:EX K C f):W.takerIn K C f=some none:=by
 unfold W.takerIn;rw[show W.findIn K (.ref C) f=some none from n];rfl
structure Meth(K:W.Frag)(C:Addr)(m:Str)(f:Addr):Prop where
 at_:W.findIn K (.ref C) m=some (some (.ref f))
 fn:W.isFn K (.ref f)=true
 kp:W.keepIn K (.ref f)=true
section
variable {X:Cx}{D3:qS}{FV:St}{H:Hp}{s:Shared}{a C dx:Addr}{fs:List (Str×V)}{f:Str}{v:V}{A:Around}{E:oT}
def HJ{b:Bool}{Q:oT}(I:Inv X D3 FV H s)(e:H a=some (.ins C dx fs))(c:OE X.K C)(n:EX X.K C f)(l:fs.lookup f=some v)
  (h:∀u j,Inv X D3 FV H j->RelV v u->Q u j):wpAny (model X.prog X.w) A (getAttr (.ref a) f b) Q E s:=by
 obtain⟨mA,O,r,_,_,_⟩:=vz I.EJ e;obtain⟨u,m,i⟩:=Ic.some_of (v:=v) (o:=mA f) (by rw[←l];exact r f);exact QG I.GL O (c.get f) c.hd n m (J4 i) (h u _ (I.tok _) i)
def HN{m:Str}{g:Addr}{pl:Sem Bool}{Q:Value×List Value->Shared->Prop}(I:Inv X D3 FV H s)(e:H a=some (.ins C dx fs))(c:OE X.K C)(k:Meth X.K C m g)(l:fs.lookup m=none)
  (h:Q (.ref g,[.ref a]) s):wpAny (model X.prog X.w) A (getMethod (.ref a) m pl) Q E s:=by
 obtain⟨mA,O,r,_,_,_⟩:=vz I.EJ e;have i:mA m=none:=Ic.none_of (by rw[←l];exact r m);exact MK I.GL O (c.get m) k.at_ k.fn i h
def HQ{y:V}(I:Inv X D3 FV H s)(e:H a=some (.ins C dx fs))(c:OE X.K C)(n:EX X.K C f)(G:fs.length<1000)(B:RelV y u)
  (h:∀j,Inv X D3 FV (upd H a (.ins C dx (cR f y fs))) j->Q () j):wpAny (model X.prog X.w) A (setAttr (.ref a) f u) Q E s:=by
 obtain⟨mA,O,r,l,_,m⟩:=vz I.EJ e;have hz:(fs.map (·.1)).length<=sizeLine:=by rw[ar,ib];omega
 refine QH I.GL O c.sa c.po n.taker c.hd l hz λh' i D=>h _ ?_;have hd:∃o,h'.get? dx=some o:=let ⟨o,_,_,e',_⟩:=i.ns;⟨o,e'⟩;refine I.write (x:=a) (e:=dx) (by rw[e];exact gs) (.inr m) (λb q p z=>(D.2 b p).trans z) hd ?_;refine⟨by rw[aG O.ne];exact m,?_,O.ne,i.obj,_,i.ns,λg=>?_,λg F=>?_⟩
 ·have:=vZ f y fs;omega
 ·show Ic ((cR f y fs).lookup g) (if g=f then some u else mA g)
  rw[vY];by_cases q:g=f
  ·rw[bS q,bS q];exact B
  ·rw[br q,br q];exact r g
 ·by_cases q:g=f
  ·rw[q];exact(uH f y fs).1
  ·refine(uH f y fs).2 g (l g λz=>F ?_)
   show(if g=f then some u else mA g)=none;rw[br q];exact z
def Inv.made(I:Inv X D3 FV H s):Inv X D3 FV (upd (upd H s.heap.objs.size (.own (s.heap.objs.size+1))) (s.heap.objs.size+1) (.ins C s.heap.objs.size []))
  {s with heap:=(s.heap.push W.emptyDict).push (W.instObj C s.heap.objs.size)}:=by
 have e1:(s.heap.push W.emptyDict).get? s.heap.objs.size=some W.emptyDict:=ay s.heap rfl;have e2:((s.heap.push W.emptyDict).push (W.instObj C s.heap.objs.size)).get? (s.heap.objs.size+1)=some (W.instObj C s.heap.objs.size):=by
  have:=ay (s.heap.push W.emptyDict) (o:=W.instObj C s.heap.objs.size) rfl;rwa [cy]at this
 have e3:(s.heap.push W.emptyDict).Ns s.heap.objs.size (λ_=>none):=⟨W.emptyDict,#[],_,e1,rfl,(λe j=>absurd j (by simp)),λ_=>rfl⟩;have l:=I.laid (a:=s.heap.objs.size) (o:=.own (s.heap.objs.size+1)) (h':=s.heap.push W.emptyDict) (t':=s.toks) (λb u q=>ac _ q) (aI _) ⟨_,e1⟩;refine l.laid (a:=s.heap.objs.size+1) (o:=.ins C s.heap.objs.size []) (t':=s.toks) (λb u q=>ac _ q) (Nat.le_of_eq (cy _ _)) ?_;have i:s.heap.objs.size≠s.heap.objs.size+1:=bE (hZ _);refine⟨by rw[aG i,aB],cq _,i,e2,λ_=>none,(Heap.Ns1.of_empty e3).at λo q=>ac _ q,λ_=>gs,λy m=>absurd rfl m⟩
def QJ{prog:Program}{env:Env}{f:Str}{s:Shared}{Q:oT}(i:attributeBase e f env (eval e env)=eval e env)
  (h:wpAny (model prog w) A (eval e env) (λo j=>wpAny (model prog w) A (getAttr o f true) Q E j) E s):wpAny (model prog w) A (eval (.Attribute e f pos) env) Q E s:=
 Attribute_any_ h (by rw[arm_eval_Attribute,i])
end
def mG(K:W.Frag)(ta:TE)(f:Str):TE:=fun FV H Q=>ta FV H λx H1=>∃a C dx fs v,x=.ref a/\H1 a=some (.ins C dx fs)/\OE K C/\EX K C f/\fs.lookup f=some v/\Q v H1
def uI(K:W.Frag)(ta tv:TE)(f:Str):TS:=λD FV H=>tv FV H λy H1=>ta FV H1 λx H2=>∃a C dx fs,x=.ref a/\H2 a=some (.ins C dx fs)/\OE K C/\EX K C f/\fs.length<1000 /\
 D.nx FV (upd H2 a (.ins C dx (cR f y fs)))
section
variable {X:Cx}{o e value:Expr}{f:Str}{pos pos' tpos:Pos}{ta tv:TE}
def J5(j:PE X e ta)(i:SY X e f):PE X (.Attribute e f pos) (mG X.K ta f):=by
 intro D3 s FV H Q I h;refine QJ i (EO (j D3 s FV H _ I h) ?_);rintro u D ⟨x,H1,r,m,a,C,dx,fs,v,ex,y,c,n,l,q⟩;subst ex;obtain rfl:u=Value.ref a:=m;exact HJ r y c n l λF B z p=>⟨v,H1,z,p,q⟩
def rP(p:PE X o ta)(j:PE X value tv)(F:swapsWith value (some (.Attribute o f pos')) pos.line X.env=pure false):PS X (.Assign [.Attribute o f pos'] value pos) (uI X.K ta tv f):=by
 intro D3 s FV H D I h;refine plainObj_wpAny_Assign_Attribute (EO (j D3 s FV H _ I h) λu i ⟨y,H1,r,z,q⟩=>EO (p D3 i FV H1 _ r q) ?_) F;rintro L N ⟨x,H2,M,m,a,C,dx,fs,ex,G,c,n,l,J⟩;subst ex;obtain rfl:L=Value.ref a:=m;exact HQ M G c n l z λO B=>⟨FV,_,B,J⟩
end
section
variable {X:Cx}{D3:qS}{FV:St}{H:Hp}{s:Shared}{A:Around}{E:oT}{Q:oT}{c:Value}{b:Bool}
inductive II(K:W.Frag)(H:Hp):V->Value->Prop where
 |Ee:II K H .Ee (.type "NoneType")
 |bl (x:Bool):II K H (.bl x) (.type "bool")
 |int (i:Int):II K H (.int i) (.type "int")
 |str (x:Str):II K H (.str x) (.type "str")
 |ZN (x:UInt64):II K H (.ZN x) (.type "float")
 |lst {a:Addr}{xs:sC}(e:H a=some (.lst xs)):II K H (.ref a) (.type "list")
 |frz {a:Addr}{o:Obj}{xs:sC}(e:H a=some (.frz o (.lst xs))):II K H (.ref a) (.type "list")
 |tup {a:Addr}{xs:sC}(e:H a=some (.tup xs)):II K H (.ref a) (.type "tuple")
 |GY {a:Addr}{xs:sC}(e:LF K a xs):II K H (.ref a) (.type "tuple")
 |dK {a:Addr}{kvs:List (Key×V)}(e:H a=some (.dK kvs)):II K H (.ref a) (.type "dict")
 |dT {a:Addr}{kvs:List (List D5×V)}(e:H a=some (.dT kvs)):II K H (.ref a) (.type "dict")
 |ins {a C dx:Addr}{fs:List (Str×V)}(e:H a=some (.ins C dx fs)) (cl:OE K C) (ha:W.findIn K (.ref C) "__class__" = some (some (.builtin "object.__class__")))
   (hn:W.specialIn K (.builtin "object.__class__") "__get__" = some (some (.builtin "getset_descriptor.__get__"))) (htk:W.takesIn K (.builtin "object.__class__")=some true)
   (hm:W.mroIn K C (.type "object")=some true):II K H (.ref a) (.ref C)
def J6{x:V}{t:Value}(I:Inv X D3 FV H s)(j:RelV x u)(ty:II X.K H x t)(e:W.kitOne X.K t c=some b)(h:∀G,Q (.bool b) {s with toks:=G}):
  wpAny (model X.prog X.w) A (call (.builtin "isinstance") [u,c]) Q E s:=by
 cases ty with
 |Ee=>cases(show u=Value.none from j);exact eK W.kitx_none I.GL gs e (λz=>nomatch z) h
 |bl y=>cases(show u=Value.bool y from j);exact eK W.kitx_bool I.GL gs e (λz=>nomatch z) h
 |int i=>obtain⟨t,q⟩:=(show ∃t,u=Value.int i t from j);cases q;exact eK W.kitx_int I.GL gs e (λz=>nomatch z) h
 |str y=>obtain⟨t,q⟩:=(show ∃t,u=Value.str y t from j);cases q;exact eK W.kitx_str I.GL gs e (λz=>nomatch z) h
 |ZN y=>obtain⟨t,q⟩:=(show ∃t,u=Value.float y t from j);cases q;exact eK W.kitx_float I.GL gs e (λz=>nomatch z) h
 |@lst a xs l=>
  cases(show u=Value.ref a from j);obtain⟨_,_,n,_,h1⟩:=(show EG X.prog X.w X.K H s.heap a (.lst xs)from I.EJ a _ l);exact eK W.kitx_list I.GL ⟨_,h1,rfl⟩ e (λz=>nomatch z) h
 |@frz a L xs l=>
  cases(show u=Value.ref a from j);obtain⟨_,_,_,n,_,h1⟩:=(show EG X.prog X.w X.K H s.heap a (.frz L (.lst xs))from I.EJ a _ l);exact eK W.kitx_list I.GL ⟨_,h1,rfl⟩ e (λz=>nomatch z) h
 |@tup a xs l=>
  cases(show u=Value.ref a from j);obtain⟨_,_,_,p⟩:=(show EG X.prog X.w X.K H s.heap a (.tup xs)from I.EJ a _ l);obtain⟨o,h1,h2,_⟩:=p;exact eK ml I.GL ⟨o,h1,h2⟩ e (λz=>nomatch z) h
 |@GY a xs e1=>
  cases(show u=Value.ref _ from j);obtain⟨o,U,n,B,D,T,_⟩:=e1;exact eK ml I.GL ⟨o,I.GL _ o B,D⟩ e (λz=>nomatch z) h
 |@dK a kvs l=>
  cases(show u=Value.ref a from j);obtain⟨_,_,vs,_,p⟩:=(show EG X.prog X.w X.K H s.heap a (.dK kvs)from I.EJ a _ l);obtain⟨o,es,ep,h1,h2,_⟩:=p;exact eK W.kitx_dict I.GL ⟨o,h1,h2.1⟩ e (λz=>nomatch z) h
 |@dT a kvs l=>
  cases(show u=Value.ref a from j);obtain⟨_,_,xs,_,o,es,ep,h1,h2,_⟩:=(show EG X.prog X.w X.K H s.heap a (.dT kvs)from I.EJ a _ l);exact eK W.kitx_dict I.GL ⟨o,h1,h2.1⟩ e (λz=>nomatch z) h
 |@ins a C dx fs l r N M m F=>
  cases(show u=Value.ref a from j);obtain⟨mA,O,_⟩:=vz I.EJ l;obtain⟨Y,J,_⟩:=O.look;exact eK (W.kitx_own (r.get _) r.hd N M m F) I.GL J e (λz=>nomatch z) h
end
structure EU(k:Nat)(A:Around):Prop where
 hd:A.handled=none
 dp:A.depth+3*k+5<recursionLimit
 un:A.units+16*k+200<cLine
def EU.mono{j k:Nat}(r:EU k A)(h:j<=k):EU j A:=⟨r.hd,by have:=r.dp;omega,by have:=r.un;omega⟩
def EU.deeper{k:Nat}{A:Around}(r:EU (k+1) A)(env:Env):EU k (A.deeper env):=
 ⟨r.hd,by have:=r.dp;show A.depth+1+3*k+5<_;omega,by have:=r.un;show A.units+3+16*k+200<_;omega⟩
def HR{C:Addr}:(A.under (.builtin "type.__call__" ⟨.ref C::us,kw⟩)).depth=A.depth+1:=by
 first|rfl|simp[Around.under,Code.weight,Code.isCreation,Code.isGuard,Code.isCaller,Code.frames,Code.isFrame,guardIds]
def HS{C:Addr}:(A.under (.builtin "type.__call__" ⟨.ref C::us,kw⟩)).units=A.units+1:=by
 first|rfl|simp[Around.under,Code.cUnits,Code.frames,Code.isFrame]
def EU.make{k:Nat}(r:EU (k+1) A)(C:Addr)(us:re)(kw:List (Str×Value)):EU k (A.under (.builtin "type.__call__" ⟨.ref C::us,kw⟩)):=
 ⟨r.hd,by have:=r.dp;rw[HR];omega,by have:=r.un;rw[HS];omega⟩
def EU.depth{k:Nat}{A:Around}(r:EU k A):A.depth<recursionLimit:=by have:=r.dp;omega
def EU.units{k:Nat}{A:Around}(r:EU k A):A.units+64<cLine:=by have:=r.un;omega
def bF:TA:=λ_ H Q=>Q [] H
def aU(ta:TE)(tr:TA):TA:=fun FV H Q=>ta FV H λx H1=>tr FV H1 λxs H2=>Q (x::xs) H2
section
variable {X:Cx}{e:Expr}{es:rh}{te:TE}{t:TA}{pos:Pos}
def aV:PA X [] bF:=λ_ _ _ _ H Q I h=>iL ⟨[],H,I,.nil,h⟩
def aD(j:PE X e te)(r:PA X es t)(n:autoParam (HK X e es) r0_):PA X (e::es) (aU te t):=by
 intro pos D3 s FV H Q I h;rw[n];show wpAny _ _ (spliced ((false,eval e X.env)::backTo pos (starEach es X.env))) _ _ s;refine gI (EO (j D3 s FV H _ I h) ?_);rintro u i ⟨x,H1,l,q,y⟩;exact EO (r pos D3 i FV H1 _ l y) λus B ⟨xs,H2,z,m,p⟩=>⟨x::xs,H2,z,.cons q m,p⟩
def sJ(t:TA):TE:=fun FV H Q=>t FV H λxs H1=>xs.length<=sizeLine/\∀p,H1 p=none->Q (.ref p) (upd H1 p (.tup xs))
def pY(t:TA):TE:=fun FV H Q=>t FV H λxs H1=>xs.length<=sizeLine/\∀p,H1 p=none->Q (.ref p) (upd H1 p (.lst xs))
def lg{x1}(h:PA X es t):PE X (.Tuple es x1 pos) (sJ t):=by
 intro D3 s FV H Q I l;refine wpAny_Tuple_spliced (EO (h pos D3 s FV H _ I l) λus i ⟨xs,H1,j,r,z,q⟩=>⟨by rw[←r.length];exact z,?_⟩);have m:H1 i.heap.objs.size=none:=j.EJ.fresh (aI _);refine⟨.ref i.heap.objs.size,upd H1 i.heap.objs.size (.tup xs),j.laid (t':=i.toks) (λb u e=>ac _ e) (aI _) ?_,rfl,q _ m⟩;exact⟨z,us,r,⟨_,ay _ rfl,rfl,_,rfl,rfl⟩⟩
def lq(h:PA X es t):PE X (.List es pos) (pY t):=by
 intro D3 s FV H Q I l;refine wpAny_List_spliced (EO (h pos D3 s FV H _ I l) λus i ⟨xs,H1,j,r,z,q⟩=>⟨by rw[←r.length];exact z,?_⟩);have m:H1 i.heap.objs.size=none:=j.EJ.fresh (aI _);refine⟨.ref i.heap.objs.size,upd H1 i.heap.objs.size (.lst xs),j.laid (t':=i.toks) (λb u e=>ac _ e) (aI _) ?_,rfl,q _ m⟩;exact⟨z,us,0,r,ay _ rfl⟩
end
abbrev Sp:=List V->Hp->VK->XK->Prop
abbrev Ta:=List Env->Hp->Shared->XK->Value->Shared->Prop
structure OR(P:Program)(w:World)(K:W.Frag)(mg:rX)(base:Heap)(A:Around)(outer:List Env)(s:Shared)(H:Hp):Prop where
 frames:A.frames=some outer
 mod:Mod K mg base
 bs:∀b o,base.get? b=some o->s.heap.get? b=some o/\H b=none
 Yx:base.objs.size<=s.heap.objs.size
 LG:s.heap.FunFrames base outer
 ZS:∀b∈FC outer,H b=none
 EJ:IA P w K H s.heap
 bare:AllBare s.gens
def CE(outer:List Env)(P:Program)(w:World)(K:W.Frag)(H:Hp)(s:Shared)(Q:VK)(u:Value)(s':Shared):Prop:=
 ∃v H',s'.os=s.os/\AllBare s'.gens/\Un (FC outer) [] H H' s.heap s'.heap/\IA P w K H' s'.heap/\RelV v u/\Q v H'
def CR(CX:Ta)(outer:List Env)(P:Program)(w:World)(K:W.Frag)(H:Hp)(s:Shared)(Q:VK)(E:XK)(r:Result)(s':Shared):Prop:=
 match r with
 |.ok (.ret u)=>CE outer P w K H s Q u s'
 |.ok _=>False
 |.error e=>CX outer H s E e s'
structure FA(P:Program)(w:World)(K:W.Frag)(mg:rX)(base:Heap)(CX:Ta)(k:Nat)(f:Addr)(fd:FuncData)(ps:rj)(sp:Sp):Prop where
 len:∀vs H Q E,sp vs H Q E->vs.length=ps.length
 run:∀(A:Around) (outer:List Env) (s:Shared) (H:Hp) (args:Args) (us:re) (vs:sC) (Q:VK) (E:XK),EU k A->OR P w K mg base A outer s H->BindsTo s fd args (ps.zip us)->Vals vs us->sp vs H Q E->
  codeAny (model P w) A (.call (.ref f) args) (CR CX outer P w K H s Q E) s
def FA.imp{n:rX}{i:Heap}{CX:Ta}{k:Nat}{f:Addr}{p:FuncData}{ps:rj}{sp l:Sp}(F:FA P w K n i CX k f p ps sp)
  (h:∀vs H Q E,l vs H Q E->sp vs H Q E):FA P w K n i CX k f p ps l:=
 ⟨λvs H Q E q=>F.len vs H Q E (h _ _ _ _ q),λA j s H m us vs Q E B y r z D=>F.run A j s H m us vs Q E B y r z (h _ _ _ _ D)⟩
def OR.make{l:rX}{j:Heap}{i:List Env}{s:Shared}(e:OR P w K l j A i s H)(C:Addr)(us:re)(kw:List (Str×Value)):
  OR P w K l j (A.under (.builtin "type.__call__" ⟨.ref C::us,kw⟩)) i s H:=⟨by first|exact e.frames|(simpa[Around.under,Code.envs,Code.isFrame,pushEnvs]using e.frames),e.mod,e.bs,e.Yx,e.LG,e.ZS,e.EJ,e.bare⟩
section
variable {X:Cx}{D3:qS}{FV:St}{H:Hp}{s s':Shared}
def Inv.env0(I:Inv X D3 FV H s):OR X.prog X.w X.K X.mg X.base X.A X.stack s H:=
 ⟨I.ok.frames,I.ok.mod,I.bs,dE I.ok.Yx I.sz,I.stack,I.Pe,I.EJ,I.bare⟩
def Inv.after{Q:VK}(I:Inv X D3 FV H s)(h:CE X.stack X.prog X.w X.K H s Q u s'):EP X D3 FV Q u s':=by
 obtain⟨v,H',os,i,un,m,r,q⟩:=h;obtain⟨l,g,d,t,j⟩:=s';obtain rfl:j=s.os:=os;exact⟨v,H',I.call (h':=l) (g':=g) (d':=d) (t':=t) (ch:=[]) un m i (λb z=>absurd z (by simp)),r,q⟩
end
def gB(sp:Sp)(MW:sC)(E:XK)(t:TA):TE:=fun FV H Q=>t FV H λvs H1=>sp (vs++MW) H1 Q E
def pM(C:Addr)(m:Str)(sp:Sp)(MW:sC)(E:XK)(ta:TE)(t:TA):TE:=fun FV H Q=>ta FV H λx H1=>∃a dx fs,x=.ref a/\H1 a=some (.ins C dx fs)/\fs.lookup m=none /\
 t FV H1 λvs H2=>sp (x::(vs++MW)) H2 Q E
def xO(C:Addr)(sp:Sp)(MW:sC)(E:XK)(t:TA):TE:=fun FV H Q=>t FV H λvs H1=>∀x dx,H1 x=none->H1 dx=none->dx≠x->
 sp (.ref x::(vs++MW)) (upd (upd H1 dx (.own x)) x (.ins C dx [])) (λv H2=>v=.Ee/\Q (.ref x) H2) E
def Binds(K:W.Frag)(fd:FuncData)(ps:rj)(ds:re):Prop:=
 ∀(s:Shared) (us:re),K.In s.heap->(us++ds).length=ps.length->BindsTo s fd ⟨us,[]⟩ (ps.zip (us++ds))
def Binds.all{j:FuncData}{ps:rj}(h:∀us:List Value,us.length=ps.length->bindArgs j ⟨us,[]⟩=pure (ps.zip us)):Binds K j ps []:=λs us _ i=>by
 rw[cS]at i ⊢;exact .of_eq (h us i)
def rQ(CX:Ta)(X:Cx)(E:XK):Prop:=∀(D3:qS) (FV:St) (H:Hp) (s:Shared) (e:Value) (s':Shared),Inv X D3 FV H s->CX X.stack H s E e s'->X.xe e s'
section
variable {X:Cx}{CX:Ta}{k:Nat}{f C:Addr}{fd:FuncData}{ps:rj}{sp:Sp}{MW:sC}{ds:re}{E:XK}{x m:Str}{p pos apos:Pos}{e o:Expr}{es:rh}{ta:TE}{t:TA}
def Cr{s:Shared}{Q:VK}{vs:sC}(F:FA X.prog X.w X.K X.mg X.base CX k f fd ps sp)(B:EU k X.A)(l:Binds X.K fd ps ds)(y:Vals MW ds)(q:rQ CX X E)
  (I:Inv X D3 FV H s) (r:Vals vs us) (h:sp (vs++MW) H Q E):wpAny (model X.prog X.w) X.A (call (.ref f) us) (EP X D3 FV Q) X.xe s:=by
 have j:Vals (vs++MW) (us++ds):=r.append y;have n:(us++ds).length=ps.length:=by rw[←j.length];exact F.len _ _ _ _ h
 refine wpAny_call (l6 (F.run X.A X.stack s H ⟨us,[]⟩ (us++ds) (vs++MW) Q E B I.env0 (l s us I.GL n) j h) λr s' i=>?_);cases r with
 |error e=>exact q D3 FV H s e s' I i
 |ok z=>
  cases z with
  |ret u=>exact I.after i
  |next=>exact False.elim i
  |brk=>exact False.elim i
  |cont=>exact False.elim i
def QK(F:FA X.prog X.w X.K X.mg X.base CX k f fd ps sp)(M:EU k X.A)(B:Gl X x)(G:X.mg x=some (.ref f))(L:W.keepIn X.K (.ref f)=true)(l:Binds X.K fd ps ds)(J:Vals MW ds)(y:rQ CX X E)
  (z:PA X (e::es) t) (j:autoParam (Kt x) r1_) (n:autoParam (HK X e es) r0_) (D:autoParam (Lo X pos es) r0_):
  PE X (.Call (.Name x p) (e::es) [] pos) (gB sp MW E t):=by
 intro D3 s FV H Q I h;refine fA (y_ I B G ?_ j);refine kB (h₀:=X.base) I.ok.mod.KG L (EO (z pos D3 s FV H _ I h) λus N ⟨vs,H1,i,r,q⟩=>⟨i.GL,?_⟩) n D;exact Cr F M l J y i r q
def GC{pl:Sem Bool}(N:PE X o ta)(c:OE X.K C)(j:Meth X.K C m f)(F:FA X.prog X.w X.K X.mg X.base CX k f fd ps sp)(L:EU k X.A)(M:Binds X.K fd ps ds)(J:Vals MW ds)(T:rQ CX X E)(U:PA X (e::es) t)
  (z:autoParam (HK X e es) r0_) (D:autoParam (Lo X pos es) r0_)
  (G:eval (.Call (.Attribute o m apos) (e::es) [] pos) X.env=(do
   let ov ←eval o X.env
   standAt apos.atName
   let (f,first) ←holding [ov] (getMethod ov m pl)
   callWith pos f first (backTo pos (starEach (e::es) X.env)) (backToKw pos (keywordEach [] X.env))):=by rfl):
  PE X (.Call (.Attribute o m apos) (e::es) [] pos) (pM C m sp MW E ta t):=by
 intro D3 s FV H Q I h;refine W.methodCall_KW (pl:=pl) (EO (N D3 s FV H _ I h) ?_) G;rintro u y ⟨x,H1,i,O,a,dx,fs,ex,B,l,q⟩;subst ex;obtain rfl:u=Value.ref a:=O;refine HN i B c j l ?_;refine kB (first:=[.ref a]) (h₀:=X.base) I.ok.mod.KG j.kp (EO (U pos D3 y FV H1 _ i q) λus Z ⟨vs,H2,n,r,Y⟩=>⟨n.GL,?_⟩) z D;exact Cr (us:=.ref a::us) (vs:=.ref a::vs) F L M J T n (.cons rfl r) Y
structure Mk(K:W.Frag)(C f:Addr):Prop where
 makes:W.makesIn K C=true
 init:W.findIn K (.ref C) "__init__" = some (some (.ref f))
 fn:W.isFn K (.ref f)=true
 kp:W.keepIn K (.ref C)=true
def MP{s:Shared}{Q:VK}{vs:sC}(M:Mk X.K C f)(F:FA X.prog X.w X.K X.mg X.base CX k f fd ps sp)(D:EU (k+1) X.A)(q:Binds X.K fd ps ds)(L:Vals MW ds)
  (B:rQ CX X E) (I:Inv X D3 FV H s) (r:Vals vs us)
  (h:∀x dx,H x=none->H dx=none->dx≠x->sp (.ref x::(vs++MW)) (upd (upd H dx (.own x)) x (.ins C dx [])) (λv H2=>v=.Ee/\Q (.ref x) H2) E):
  wpAny (model X.prog X.w) X.A (call (.ref C) us) (EP X D3 FV Q) X.xe s:=by
 have n:=h (s.heap.objs.size+1) s.heap.objs.size (I.EJ.fresh (hJ _)) (I.EJ.fresh (aI _)) (bE (hZ _));have j:=Inv.made (C:=C) I;have l:Vals (V.ref (s.heap.objs.size+1)::(vs++MW)) (Value.ref (s.heap.objs.size+1)::(us++ds)):=.cons rfl (r.append L);have J:(Value.ref (s.heap.objs.size+1)::us++ds).length=ps.length:=by
  have e:=l.length;rw[F.len _ _ _ _ n]at e;exact e.symm
 refine wpAny_call (MN (f:=f) I.GL M.makes M.init (iS.mp M.fn) (l6 (F.run _ X.stack _ _ ⟨Value.ref (s.heap.objs.size+1)::us,[]⟩ (Value.ref (s.heap.objs.size+1)::(us++ds)) _ _ E (D.make C us [])
  (j.env0.make C us []) (q _ (Value.ref (s.heap.objs.size+1)::us) j.GL J) l n) λr s' i=>?_))
 cases r with
 |error e=>exact B D3 FV _ _ e s' j i
 |ok N=>
  cases N with
  |ret u=>
   obtain⟨v,H',G,z,O,y⟩:=j.after i;subst O;exact⟨z,⟨V.ref (s.heap.objs.size+1),H',G,rfl,y⟩⟩
  |next=>exact False.elim i
  |brk=>exact False.elim i
  |cont=>exact False.elim i
def QL(M:Mk X.K C f)(F:FA X.prog X.w X.K X.mg X.base CX k f fd ps sp)(L:EU (k+1) X.A)(B:Gl X x)(G:X.mg x=some (.ref C))(l:Binds X.K fd ps ds)(J:Vals MW ds)(y:rQ CX X E)
  (z:PA X (e::es) t) (j:autoParam (Kt x) r1_) (n:autoParam (HK X e es) r0_) (D:autoParam (Lo X pos es) r0_):
  PE X (.Call (.Name x p) (e::es) [] pos) (xO C sp MW E t):=by
 intro D3 s FV H Q I h;refine fA (y_ I B G ?_ j);refine kB (h₀:=X.base) I.ok.mod.KG M.kp (EO (z pos D3 s FV H _ I h) λus N ⟨vs,H1,i,r,q⟩=>⟨i.GL,?_⟩) n D;exact MP M F L l J y i r q
end
structure D6(N P:rj)(sc:Scope):Prop where
 kind:sc.kind=.function
 co:sc.isCoroutine=false
 gen:sc.isGenerator=false
 nd:N.Nodup
 pre:N.take P.length=P
 par:∀x∈P,sc.names.lookup x=some .local\/sc.names.lookup x=some .cell
 ZW:∀y∈sc.names,y.2≠.free
theorem Ac{i:Str->Option NameKind}{x:Str}:∀{binds:List (Str×Value)}{m:rX},(∀v,(x,v)∉binds)->bindL i binds m x=m x
 |[],_,_=>rfl
 |(n,v)::r,m,h=>by
  unfold bindL;rw[Ac λw j=>h w (ap _ j)];split
  ·have:x≠n:=by rintro rfl;exact h v av
   simp[this]
  ·rfl
theorem Ad{i:Str->Option NameKind}{x:Str}:∀{binds:List (Str×Value)}{m:rX},(∀v,(x,v)∉binds)->bindC i binds m x=m x
 |[],_,_=>rfl
 |(n,v)::r,m,h=>by
  unfold bindC;rw[Ad λw j=>h w (ap _ j)];split
  ·rfl
  ·have:x≠n:=by rintro rfl;exact h v av
   simp[this]
theorem Ae{j:Str->Option NameKind}{x:Str}{v:Value}:∀{P:rj}{vs:re}{i:Nat}{m:rX},P.Nodup->P[i]?=some x->vs[i]?=some v->j x=some .local->
  bindL j (P.zip vs) m x=some v
 |[],_,_,_,_,h,_,_=>by simp at h
 |_::_,[],_,_,_,_,h,_=>by simp at h
 |p::P,w::vs,0,m,nd,h1,h2,hk=>by
  simp at h1 h2;subst h1;subst h2;show bindL j ((p,w)::P.zip vs) m p=_;unfold bindL;rw[Ac λv l=>(lx.mp nd).1 (pw l).1,bS hk];simp
 |p::P,w::vs,i+1,m,nd,h1,h2,hk=>by
  show bindL j ((p,w)::P.zip vs) m x=_;unfold bindL;exact Ae (i:=i) (lx.mp nd).2 (by simpa using h1) (by simpa using h2) hk
theorem Af{j:Str->Option NameKind}{x:Str}{v:Value}:∀{P:rj}{vs:re}{i:Nat}{m:rX},P.Nodup->P[i]?=some x->vs[i]?=some v->j x≠some .local->
  bindC j (P.zip vs) m x=some v
 |[],_,_,_,_,h,_,_=>by simp at h
 |_::_,[],_,_,_,_,h,_=>by simp at h
 |p::P,w::vs,0,m,nd,h1,h2,hk=>by
  simp at h1 h2;subst h1;subst h2;show bindC j ((p,w)::P.zip vs) m p=_;unfold bindC;rw[Ad λv l=>(lx.mp nd).1 (pw l).1,br hk];simp
 |p::P,w::vs,i+1,m,nd,h1,h2,hk=>by
  show bindC j ((p,w)::P.zip vs) m x=_;unfold bindC;exact Af (i:=i) (lx.mp nd).2 (by simpa using h1) (by simpa using h2) hk
def start(N:rj)(vs:sC):St:=vs.map some++List.replicate (N.length - vs.length) none
def wC(CX:Ta)(P:Program)(w:World)(K:W.Frag)(mg:rX)(base:Heap)(N:rj)(qual:Str)(scope:Scope)(f:Addr)(cd:Value)(A:Around)(outer:List Env)(s:Shared)(H:Hp)(E:XK):Cx where
 prog:=P
 w:=w
 K:=K
 mg:=mg
 base:=base
 A:=A.deeper (envOfC qual scope s.heap.objs.size f cd)
 N:=N
 s₀:=s
 H₀:=H
 env:=envOfC qual scope s.heap.objs.size f cd
 outer:=outer
 stack:=envOfC qual scope s.heap.objs.size f cd::outer
 ex:=[]
 calm:=true
 fn:=λ_=>true
 pn:=[]
 xe:=λe s'=>wpAny (model P w) (A.deeper (envOfC qual scope s.heap.objs.size f cd)) (leaving (envOfC qual scope s.heap.objs.size f cd) e) (λ_ s''=>CX outer H s E e s'') (λe' s''=>CX outer H s E e' s'') s'
def Cu{i:Scope}{n:Nat}{x:Str}(h:i.names.lookup x=some .cell):∃c,(cellsFrom n i.names []).lookup x=some c:=by
 have q:=oQ i.names n [] (.inl h);exact nS.mp q
def J7{CX:Ta}{O:rX}{D:Heap}{N ps:rj}{B:Str}{j:Scope}{f:Addr}{L:Value}{l:List Env}{s T:Shared}{E:XK}{vs:sC}
  (S:D6 N ps j) (hd:A.handled=none) (F:OR P w K O D A l s H) (hl:vs.length=ps.length) (r:Vals vs us)
  (x:InCallC s s.heap.objs.size (bindL (envOfC B j s.heap.objs.size f L).kindOf (ps.zip us) λ_=>none) (cellsFrom (s.heap.objs.size+1) j.names []) (bindC (envOfC B j s.heap.objs.size f L).kindOf (ps.zip us) λ_=>none) T):
  Inv (wC CX P w K O D N B j f L A l s H E) [] (start N vs) H T:=by
 have FO:ps.length<=N.length:=by have:=gg List.length S.pre;rw[js]at this;omega
 obtain⟨h1,tk,rfl,Y⟩:=x.done;have I:∀b:Addr,b∉(wC CX P w K O D N B j f L A l s H E).ex:=λb z=>absurd (show b∈([]:rS)from z) (by simp);refine⟨⟨F.mod,S.kind,rfl,rfl,aI _,λy z c h1 h2=>?_,λy G=>?_,λy c _ h=>?_,λ_=>hd,Around.frames_deeper F.frames,.inr ⟨rfl,rfl⟩,λb z=>absurd z (I b),F.bs,F.Yx,λb _ _=>I b,λb z=>absurd z (I b),F.LG,F.ZS⟩,
  rfl,F.bare,Un.kept Y,⟨_,x.toInCall.ns,λi y v h1 h2 h3=>?_⟩,λy c h=>⟨_,x.cell y c h⟩,F.EJ.fresh (aI _),λy c h=>?_,λp J=>absurd (show p∈([]:qS)from J) (by simp),F.EJ.kept Y,?_⟩
 ·exact name_of_addr x.apart (PySem.mem_of_lookup h1) (PySem.mem_of_lookup h2)
 ·have G:j.names.lookup y=some .cell\/j.names.lookup y=some .free:=G
  rcases G with G|G
  ·exact Cu G
  ·exact absurd rfl (S.ZW _ (PySem.mem_of_lookup G))
 ·exact gz (x.above y c (PySem.mem_of_lookup h))
 ·have M:i<vs.length:=by
   unfold start at h2;by_cases M:i<vs.length
   ·exact M
   ·rw[iX (by simpa using M)]at h2
    rw[om]at h2;split at h2<;>cases h2
  have ha:vs[i]?=some v:=by
   unfold start at h2;rw[cw (by simpa using M),cm]at h2;cases e:vs[i]? with
   |none=>rw[e]at h2;cases h2
   |some a=>rw[e]at h2;cases h2;rfl
  obtain⟨u,U,Z⟩:=r.get ha;have J:ps[i]?=some y:=by
   rw[←S.pre,List.getElem?_take_of_lt (by omega)];exact h1
  have HI:ps.Nodup:=by rw[←S.pre];exact S.nd.sublist (List.take_sublist _ _)
  refine⟨u,Z,?_⟩;rcases S.par y (b9 J)with k|k
  ·exact .inl ⟨k,Ae HI J U k⟩
  ·obtain⟨c,e⟩:=Cu (n:=s.heap.objs.size+1) k
   refine .inr ⟨.inl k,c,e,?_⟩;have q:=x.cell y c e;rw[Af HI J U (by show j.names.lookup y≠_;rw[k];decide)]at q;exact q
 ·exact F.EJ.fresh (gz (x.above y c (PySem.mem_of_lookup h)))
 ·unfold start
  show _=N.length;rw[cb,ar,pE];omega
def Wl{CX:Ta}{T:rX}{base:Heap}{k:Nat}{f:Addr}{name l:Str}{z:Arguments}{body:rg}{i:Scope}{dV kV L pm B ct oc:Value}{an od:Option Addr}
  {Zf:Array (Option Value)}{N ps:rj}{sp:Sp}(lk:K.lookup f=some ⟨oc,od,.func (W.fnOf name l z body i dV kV L pm an B ct),Zf⟩) (Kx:W.codeIn K B l=true) (S:D6 N ps i)
  (len:∀vs H Q E,sp vs H Q E->vs.length=ps.length)
  (Tb:∀(A:Around) (j:List Env) (s:Shared) (H:Hp) (vs:sC) (Q:VK) (E:XK),EU k (A.deeper (envOfC l i s.heap.objs.size f B))->sp vs H Q E->
   ∃t,L5 (wC CX P w K T base N l i f B A j s H E) body t/\t {nx:=λ_ H'=>Q .Ee H',rt:=Q} (start N vs) H):
  FA P w K T base CX (k+1) f (W.fnOf name l z body i dV kV L pm an B ct) ps sp:=by
 refine⟨len,λA j s H args us vs Q E Y M hb r Zg=>?_⟩;have hl:=len _ _ _ _ Zg;have KX:K.In s.heap:=M.mod.KG.keeps λb o e=>(M.bs b o e).1;have Z:s.heap.NoLimit:=M.mod.nolimit.keeps λb o e=>(M.bs b o e).1;have D:∀y∈ps.zip us,i.names.lookup y.1=some .local\/(i.names.lookup y.1=some .cell/\((cellsFrom (s.heap.objs.size+1) i.names []).lookup y.1).isSome=true):=by
  rintro⟨n,v⟩ hy;rcases S.par n (pw hy).1 with q|q
  ·exact .inl q
  ·exact .inr ⟨q,oQ _ _ _ (.inl q)⟩
 refine codeAny_call_function Y.depth (KX _ _ lk) rfl S.co S.gen rfl (W.codeRec_of KX Kx) (hb _ _ _ _ ?_);refine wpAny_newFunctionEnv_cells S.kind D λenv he s1 x=>?_;subst he;refine⟨Z.keeps x.toInCall.keep,codeAny_func ?_⟩;obtain⟨t,ht,hq⟩:=Tb A j s H vs Q E (Y.deeper _) Zg;have I:Inv (wC CX P w K T base N l i f B A j s H E) [] (start N vs) H s1:=J7 S Y.hd M hl r x;refine fm (ht [] s1 (start N vs) H _ I hq) (λfl s' F=>?_) λe s' F=>F;have G:∀{O:St}{H':Hp}{v:V}{u:Value},Inv (wC CX P w K T base N l i f B A j s H E) [] O H' s'->RelV v u->Q v H'->CE j P w K H s Q u s':=
  λ{O H' v u} J U q=>⟨v,H',J.os,J.bare,J.base,J.EJ,U,q⟩
 cases fl with
 |ret u=>
  obtain⟨v,O,H',J,U,q⟩:=F;exact G J U q
 |next=>
  obtain⟨O,H',J,q⟩:=F;exact G (v:=V.Ee) (u:=Value.none) J rfl q
 |brk=>
  obtain⟨_,_,_,q⟩:=F;exact False.elim q
 |cont=>
  obtain⟨_,_,_,q⟩:=F;exact False.elim q
section
variable {X:Cx}{x:Str}{p pos:Pos}{e:Expr}{es:rh}{t:TA}{id T:String}{r:List V->Hp->VK->Prop}
def Zh(r:List V->Hp->VK->Prop)(t:TA):TE:=fun FV H Q=>t FV H λvs H1=>r vs H1 Q
def gZ(y:Fh X (.builtin id) r)(D:Gl X x)(J:X.mg x=none)(q:bootBuiltins x=some (.builtin id))(z:PA X (e::es) t)(l:x ≠ "__name__" := by decide)(i:autoParam (Kt x) r1_)
  (n:autoParam (HK X e es) r0_) (F:autoParam (Lo X pos es) r0_):PE X (.Call (.Name x p) (e::es) [] pos) (Zh r t):=by
 intro D3 s FV H Q I h;refine fA (gG I D J q ?_ l i);exact PyProof.Rows.callWith_builtin1 (EO (z pos D3 s FV H _ I h) λus j ⟨vs,H1,B,G,L⟩=>y D3 j FV H1 vs us Q B G L) n F
def Ag(y:Fh X (.type T) r)(D:Gl X x)(J:X.mg x=none)(q:bootBuiltins x=some (.type T))(z:PA X (e::es) t)(l:x ≠ "__name__" := by decide)(i:autoParam (Kt x) r1_)
  (n:autoParam (HK X e es) r0_) (F:autoParam (Lo X pos es) r0_):PE X (.Call (.Name x p) (e::es) [] pos) (Zh r t):=by
 intro D3 s FV H Q I h;refine fA (gG I D J q ?_ l i);exact ci (EO (z pos D3 s FV H _ I h) λus j ⟨vs,H1,B,G,L⟩=>y D3 j FV H1 vs us Q B G L) n F
end
section
variable {κ:Type}[DecidableEq κ]
noncomputable def dU(kvs:List (κ×V))(k:κ):Option V:=(kvs.find? λkv=>decide (kv.1=k)).map (·.2)
noncomputable def putK(kvs:List (κ×V))(k:κ)(v:V):List (κ×V):=
 if(kvs.any λkv=>decide (kv.1=k))=true then kvs.map (λkv=>if kv.1=k then(kv.1,v)else kv)else kvs++[(k,v)]
def d8{p:κ×V}{r:List (κ×V)}{k:κ}(e:p.1=k):dU (p::r) k=some p.2:=by simp[dU,ix,e]
def d9{p:κ×V}{r:List (κ×V)}{k:κ}(e:¬ p.1=k):dU (p::r) k=dU r k:=by simp[dU,ix,e]
theorem sO(k:κ):∀kvs:List (κ×V),(kvs.any λi=>decide (i.1=k))=(dU kvs k).isSome
 |[]=>rfl
 |p::r=>by
  rw[fF];by_cases e:p.1=k
  ·simp only[d8 e,eP e,Bool.true_or,Option.isSome_some]
  ·rw[d9 e,cK e,Bool.false_or];exact sO k r
theorem Cv(k j:κ)(y:V):∀kvs:List (κ×V),dU (kvs.map λi=>if i.1=k then(i.1,y)else i) j=(dU kvs j).map λx=>if j=k then y else x
 |[]=>rfl
 |p::r=>by
  have l:=Cv k j y r;rw[be];by_cases h:p.1=k
  ·rw[bS h]
   by_cases e:p.1=j
   ·rw[d8 (p:=(p.1,y)) e,d8 e,kr,bS (e.symm.trans h)]
   ·rw[d9 (p:=(p.1,y)) e,d9 e,l]
  ·rw[br h]
   by_cases e:p.1=j
   ·rw[d8 (p:=p) e,d8 e,kr,br (λz=>h (e.trans z))]
   ·rw[d9 (p:=p) e,d9 e,l]
theorem Ah(k j:κ)(y:V):∀kvs:List (κ×V),dU kvs k=none->dU (kvs++[(k,y)]) j=if j=k then some y else dU kvs j
 |[],_=>by
  by_cases e:k=j
  ·rw[bS e.symm];exact d8 (p:=(k,y)) e
  ·rw[br (λz=>e z.symm)];exact d9 (p:=(k,y)) e
 |p::r,hn=>by
  rw[oo];have i:¬ p.1=k:=λz=>by rw[d8 z]at hn;cases hn
  rw[d9 i]at hn;have l:=Ah k j y r hn;by_cases e:p.1=j
  ·rw[d8 e,d8 e,br (λz=>i (e.trans z))]
  ·rw[d9 e,d9 e,l]
def wF(kvs:List (κ×V))(k j:κ)(y:V):dU (putK kvs k y) j=if j=k then some y else dU kvs j:=by
 unfold putK;by_cases a:(kvs.any λi=>decide (i.1=k))=true
 ·rw[bS a,Cv]
  rw[sO]at a;by_cases e:j=k
  ·obtain⟨x,l⟩:=nS.mp a
   rw[bS e,e,l,kr,bS rfl]
  ·rw[br e]
   cases dU kvs j with
   |none=>rfl
   |some x=>rw[kr,br e]
 ·rw[br a]
  refine Ah k j y kvs ?_;rw[sO]at a;cases q:dU kvs k with
  |none=>rfl
  |some x=>rw[q]at a;exact(a rfl).elim
def v4(kvs:List (κ×V))(k:κ)(v:V):(putK kvs k v).length<=kvs.length+1:=by
 unfold putK;split
 ·rw[ar];omega
 ·rw[cb,bm,gx];omega
def Ic.KL{o:Option V}{u:Option Value}(r:Ic o u):o.isSome=u.isSome:=by
 cases o with
 |none=>cases u with
  |none=>rfl
  |some _=>exact(show False from r).elim
 |some _=>cases u with
  |none=>exact(show False from r).elim
  |some _=>rfl
def Ic.getD{o:Option V}{u:Option Value}{d:V}{d':Value}(r:Ic o u)(i:RelV d d'):RelV (o.getD d) (u.getD d'):=by
 cases o with
 |none=>cases u with
  |none=>exact i
  |some _=>exact(show False from r).elim
 |some _=>cases u with
  |none=>exact(show False from r).elim
  |some _=>exact r
def KV.val{kvs:List (κ×V)}{vs:List (κ×Value)}(r:KV kvs vs)(k:κ):Ic (dU kvs k) (valueAt vs k):=by
 unfold KV at r;induction r with
 |nil=>exact gs
 |@cons p q ps j h t l=>
  obtain⟨h1,h2⟩:=h;by_cases e:p.1=k
  ·have i:q.1=k:=h1.symm.trans e
   have b:valueAt (q::j) k=some q.2:=by simp[valueAt,ix,i]
   rw[d8 e,b];exact h2
  ·have i:¬ q.1=k:=λz=>e (h1.trans z)
   have b:valueAt (q::j) k=valueAt j k:=by simp[valueAt,ix,i]
   rw[d9 e,b];exact l
def KV.any{kvs:List (κ×V)}{vs:List (κ×Value)}(r:KV kvs vs)(k:κ):(kvs.any λi=>decide (i.1=k))=vs.any λi=>decide (i.1=k):=by
 unfold KV at r;induction r with
 |nil=>rfl
 |cons h t j=>rw[fF,fF,j,h.1]
def KV.ZX{kvs:List (κ×V)}{vs:List (κ×Value)}(r:KV kvs vs)(k:κ){y:V}(j:RelV y u):
  KV (kvs.map λi=>if i.1=k then(i.1,y)else i) (vs.map λi=>if i.1=k then(i.1,u)else i):=by
 unfold KV at r ⊢;induction r with
 |nil=>exact .nil
 |@cons p q ps n h t l=>
  rw[be,be];refine .cons ?_ l;obtain⟨h1,h2⟩:=h;by_cases e:p.1=k
  ·rw[bS e,bS (h1.symm.trans e)];exact⟨h1,j⟩
  ·rw[br e,br (λz=>e (h1.trans z))];exact⟨h1,h2⟩
def KV.put{kvs:List (κ×V)}{vs:List (κ×Value)}(r:KV kvs vs)(k:κ){y:V}(i:RelV y u):KV (putK kvs k y) (stored vs k u):=by
 unfold putK stored;rw[r.any k];by_cases e:(vs.any λj=>decide (j.1=k))=true
 ·rw[bS e,bS e];exact r.ZX k i
 ·rw[br e,br e];exact Paired.snoc r ⟨rfl,i⟩
def KV.length{kvs:List (κ×V)}{vs:List (κ×Value)}(r:KV kvs vs):kvs.length=vs.length:=iE r
end
def Bq{k:Key}(r:RelV (kV k) u):(iD P w).is k u=true:=by
 cases k with
 |inl i=>obtain⟨t,e⟩:=(show ∃t,u=Value.int i t from r);subst e;exact FT P w i t
 |inr x=>obtain⟨t,e⟩:=(show ∃t,u=Value.str x t from r);subst e;exact FW P w x t
def Cw{k:Key}(r:RelV (kV k) u):eU k u=true:=by
 cases k with
 |inl i=>obtain⟨t,e⟩:=(show ∃t,u=Value.int i t from r);subst e;exact qN (uB i t)
 |inr x=>obtain⟨t,e⟩:=(show ∃t,u=Value.str x t from r);subst e;exact qN (uC x t)
theorem qW{j i q:Type}{F:j->i->Prop}{G:i->q->Prop}{R:j->q->Prop}(f:∀a b c,F a b->G b c->R a c):∀{l:List j}{m:List i}{n:List q},Paired F l m->Paired G m n->Paired R l n
 |_,_,_,.nil,.nil=>.nil
 |_,_,_,.cons h t,.cons h' t'=>.cons (f _ _ _ h h') (qW f t t')
def Qa{d:Nat}{vs:sC}(i:KB ks vs)(r:Vals vs us):Paired (HC d h) ks us:=by
 obtain⟨x,b,rfl,rfl⟩:=i;cases r with
 |cons h1 t=>cases t with
  |cons h2 t=>
   cases t;cases(show _=Value.bool b from h2);exact .cons (.leaf (Cw (k:=.inr x) h1)) (.cons (.leaf (FN b)) .nil)
theorem Qc{P:Program}{w:World}{K:W.Frag}{H:Hp}{h:Heap}(B:K.In h)(ok:IA P w K H h):∀(d:Nat) (n:D5) (v:V) (u:Value),NV K H d n v->RelV v u->HC d h n u
 |0,n,v,u,⟨x,e,j⟩,r=>by subst e j;exact⟨x,rfl,Cw r⟩
 |d+1,n,v,u,q,r=>by
  rcases q with⟨x,e,j⟩|⟨ns,a,vs,e,j,ta,q⟩
  ·subst e j;exact .inl ⟨x,rfl,Cw r⟩
  ·subst e j
   cases(show u=Value.ref a from r);refine .inr ⟨ns,a,rfl,rfl,?_⟩;have i:∀us:List Value,Vals vs us->Paired (HC d h) ns us:=λus z=>q.elim (λp=>qW (λx y c h1 h2=>Qc B ok d x y c h1 h2) p z) λp=>Qa p z;rcases ta with e|⟨o,l,n,e1,e2,e3,_,r⟩
   ·obtain⟨_,l,r,o,h1,h2,n,D,_⟩:=(show EG P w K H h a (.tup vs)from ok a _ e)
    exact⟨o,l.toArray,n,h1,h2,D,by simpa using i _ r⟩
   ·exact⟨o,l,n,B a o e1,e2,e3,i _ r⟩
def Ai{vs:sC}(i:K.In h)(ok:IA P w K H h)(j:MS K H ks vs)(r:Vals vs us):Paired (HC 2 h) ks us:=
 j.elim (λp=>qW (λx y c h1 h2=>Qc i ok 2 x y c h1 h2) p r) λp=>Qa p r
abbrev KT(K:PySem.W.Frag)(H:Hp):List (List D5×V)->List (List D5×Addr×Value)->Prop:=Paired λp q=>p.1=q.1/\GI K H q.2.1 p.1/\RelV p.2 q.2.2
variable {kvs:List (List D5×V)}{xs:List (List D5×Addr×Value)}
def KT.val(r:KT K H kvs xs)(k:List D5):Ic (dU kvs k) ((atKey xs k).map (·.2)):=by
 induction r with
 |nil=>exact gs
 |@cons p q ps j h t l=>
  obtain⟨h1,_,h2⟩:=h;by_cases e:p.1=k
  ·have i:q.1=k:=h1.symm.trans e
   have b:atKey (q::j) k=some q.2:=by simp[atKey,ix,i]
   rw[d8 e,b];exact h2
  ·have i:¬ q.1=k:=λz=>e (h1.trans z)
   have b:atKey (q::j) k=atKey j k:=by simp[atKey,ix,i]
   rw[d9 e,b];exact l
def KT.ZX(r:KT K H kvs xs)(k:List D5){y:V}(l:RelV y u):
  KT K H (kvs.map λi=>if i.1=k then(i.1,y)else i) (xs.map (putAt k u)):=by
 induction r with
 |nil=>exact .nil
 |@cons p q ps B h t n=>
  rw[be,be];refine .cons ?_ n;obtain⟨h1,h2,j⟩:=h;unfold putAt;by_cases e:p.1=k
  ·rw[bS e,bS (h1.symm.trans e)];exact⟨h1,h2,l⟩
  ·rw[br e,br (λz=>e (h1.trans z))];exact⟨h1,h2,j⟩
def KT.put(r:KT K H kvs xs)(k:List D5){y:V}(l:GI K H b k)(i:RelV y u):
  KT K H (putK kvs k y) (storedH xs k b u):=by
 have e:(kvs.any λj=>decide (j.1=k))=(atKey xs k).isSome:=by
  rw[sO,(r.val k).KL,Option.isSome_map]
 unfold putK storedH;rw[e];by_cases q:(atKey xs k).isSome=true
 ·rw[bS q,bS q];exact r.ZX k i
 ·rw[br q,br q];exact Paired.snoc r ⟨rfl,l,i⟩
def KT.keeps{K:W.Frag}{H H':Hp}{kvs:List (List D5×V)}{xs:List (List D5×Addr×Value)}(r:KT K H kvs xs)(i:∀b ys,H b=some (.tup ys)->H' b=some (.tup ys)):KT K H' kvs xs:=
 Paired.ZQ r λ_ _ z=>⟨z.1,z.2.1.keeps i,z.2.2⟩
section
variable {P:Program}{w:World}{K:W.Frag}{H:Hp}{h:Heap}{a:Addr}
def Qd{u:HO}(ok:IA P w K H h)(e:Rd H a u):EG P w K H h a u:=e.ok ok
def sS{kvs:List (Key×V)}(ok:IA P w K H h)(e:Rd H a (.dK kvs)):kvs.length<=sizeLine/\(a == sysModules)=false/\∃vs,KV kvs vs/\h.DictOf (iD P w) a vs:=
 show EG P w K H h a (.dK kvs)from Qd ok e
def Qe{kvs:List (Key×V)}(ok:IA P w K H h)(e:H a=some (.dK kvs)):kvs.length<=sizeLine/\(a == sysModules)=false/\∃vs,KV kvs vs/\h.DictOf (iD P w) a vs:=sS ok (.inl e)
def Tf(j:K.In h)(ok:IA P w K H h)(e:Sg K H a ks):(eZ P w).is h ks a:=by
 obtain⟨vs,e,l⟩:=e;obtain⟨_,q,r,o,h1,h2,n,i,_⟩:=(show EG P w K H h a (.tup vs)from ok a _ e);exact⟨o,q.toArray,n,h1,h2,i,by simpa using Ai j ok l r⟩
def mH(i:K.In h)(ok:IA P w K H h)(e:GI K H a ks):(eZ P w).is h ks a:=by
 rcases e with e|⟨vs,⟨o,EA,n,e1,e2,e3,_,r⟩,kt⟩
 ·exact Tf i ok e
 ·exact⟨o,EA,n,i a o e1,e2,e3,Ai i ok kt r⟩
def Cy(D:K.In h)(ok:IA P w K H h)(e:Rd H a (.dT kvs)):kvs.length<=sizeLine/\(a == sysModules)=false/\∃xs,KT K H kvs xs/\ET (eZ P w) h a xs:=by
 obtain⟨z,y,xs,r,o,es,ep,h1,h2,B,G,n,F⟩:=(show EG P w K H h a (.dT kvs)from Qd ok e);subst F;refine⟨z,y,xs,r,o,es,h1,h2,B,G,λx i=>?_,n⟩;have all:∀{l:List (List D5×V)}{m:List (List D5×Addr×Value)},KT K H l m->∀x∈m,(eZ P w).is h x.1 x.2.1:=by
  intro l m q;induction q with
  |nil=>intro x i;exact nomatch i
  |cons j t I=>
   intro x i;rcases bi.mp i with e|i
   ·rw[e];exact mH D ok (by rw[←j.1];exact j.2.1)
   ·exact I x i
 exact all r x i
def xP(i:K.In h)(ok:IA P w K H h)(e:Rd H a (.dT kvs)):kvs.length<=sizeLine/\(a == sysModules)=false /\
  ∃xs,KT K H kvs xs/\h.DictOfH (eZ P w) a xs:=let ⟨z,y,xs,r,q⟩:=Cy i ok e;⟨z,y,xs,r,q.of⟩
end
def FE(K:W.Frag)(H:Hp)(a:Addr)(y:V)(r:Option V):Prop:=
 (∃kvs k,Rd H a (.dK kvs)/\y=kV k/\r=dU kvs k)\/∃kvs k b,Rd H a (.dT kvs)/\y=.ref b/\GI K H b k/\r=dU kvs k
def LH(K:W.Frag)(H:Hp)(a:Addr)(y v:V)(H':Hp):Prop:=
 (∃kvs k,H a=some (.dK kvs)/\y=kV k/\kvs.length<sizeLine/\H'=upd H a (.dK (putK kvs k v))) \/
 ∃kvs k b,H a=some (.dT kvs)/\y=.ref b/\GI K H b k/\kvs.length<sizeLine/\H'=upd H a (.dT (putK kvs k v))
def FE.k{K:W.Frag}{H:Hp}{a:Addr}{kvs:List (Key×V)}{k:Key}(e:H a=some (.dK kvs)):FE K H a (kV k) (dU kvs k):=.inl ⟨kvs,k,.inl e,rfl,rfl⟩
def FE.t{k:List D5}(e:H a=some (.dT kvs))(i:GI K H b k):FE K H a (.ref b) (dU kvs k):=.inr ⟨kvs,k,b,.inl e,rfl,i,rfl⟩
def LH.k{K:W.Frag}{H:Hp}{a:Addr}{kvs:List (Key×V)}{k:Key}{v:V}(e:H a=some (.dK kvs))(i:kvs.length<sizeLine):LH K H a (kV k) v (upd H a (.dK (putK kvs k v))):=.inl ⟨kvs,k,e,rfl,i,rfl⟩
def LH.t{k:List D5}{v:V}(e:H a=some (.dT kvs))(j:GI K H b k)(i:kvs.length<sizeLine):
  LH K H a (.ref b) v (upd H a (.dT (putK kvs k v))):=.inr ⟨kvs,k,b,e,rfl,j,i,rfl⟩
section
variable {X:Cx}{D3:qS}{FV:St}{H:Hp}{s:Shared}{a:Addr}{y v:V}{u r:Value}{o:Option V}{A:Around}{E:oT}
def Inv.big(I:Inv X D3 FV H s):sysModules<s.heap.objs.size:=by
 have h:mainGlobals<s.heap.objs.size:=(I.mod.glob.keeps I.bk).lt;exact l7 (by decide) h
def J8{Q:oT}(G:A.units+9<cLine)(I:Inv X D3 FV H s)(g:FE X.K H a y (some v))(F:RelV y u)(h:∀j s',Inv X D3 FV H s'->RelV v j->Q j s'):
  wpAny (model X.prog X.w) A (getItem (.ref a) u) Q E s:=by
 rcases g with⟨kvs,k,e,D,l⟩|⟨kvs,k,b,e,D,eb,l⟩
 ·subst D
  obtain⟨z,J,vs,i,q⟩:=sS I.EJ e;obtain⟨j,n,B⟩:=Ic.some_of (v:=v) (o:=valueAt vs k) (by rw[l];exact i.val k);exact wpAny_getItem_of (Bq F) q.mapOf n (h j _ (I.tok _) B)
 ·subst D
  cases(show u=Value.ref b from F);obtain⟨z,J,xs,i,q⟩:=xP I.GL I.EJ e;obtain⟨j,n,B⟩:=Ic.some_of (v:=v) (o:=(atKey xs k).map (·.2)) (by rw[l];exact i.val k);obtain⟨p,M,L⟩:=bv.mp n;refine wpAny_getItem_heap (IG G) (mH I.GL I.EJ eb) q M ?_;rw[L];exact h j _ (I.tok _) B
def GD{Q:oT}(F:A.units+9<cLine)(I:Inv X D3 FV H s)(g:FE X.K H a y o)(D:RelV y u)(h:∀s',Inv X D3 FV H s'->Q (.bool (!o.isSome)) s'):
  wpAny (model X.prog X.w) A (compareOp .NotIn u (.ref a)) Q E s:=by
 rcases g with⟨kvs,k,e,B,l⟩|⟨kvs,k,b,e,B,eb,l⟩
 ·subst B
  obtain⟨z,n,vs,i,j⟩:=sS I.EJ e;refine wpAny_notIn_of (Bq D) n j.mapOf ?_;rw[←(i.val k).KL,←l];exact h _ (I.tok _)
 ·subst B
  cases(show u=Value.ref b from D);obtain⟨z,n,xs,i,j⟩:=xP I.GL I.EJ e;refine wpAny_notIn_heap (IG F) (mH I.GL I.EJ eb) n j ?_;have q:=(i.val k).KL;rw[Option.isSome_map]at q;rw[←q,←l];exact h _ (I.tok _)
def za{h':Heap}{t':Nat}{i:HO}(I:Inv X D3 FV H s)(n:Mut (H a))(B:Heap.SameBut a s.heap h')(l:∃q,h'.get? a=some q)(new:EG X.prog X.w X.K (upd H a i) h' a i):
  Inv X D3 FV (upd H a i) {s with heap:=h',toks:=t'}:=
 I.write (x:=a) (e:=a) n (.inl rfl) (λb q j z=>(B.2 b j).trans z) l new
def Tg{H':Hp}{h':Heap}{kvs:List (Key×V)}{vs:List (Key×Value)}(z:kvs.length<=sizeLine)(l:(a == sysModules)=false)(i:KV kvs vs)(j:h'.DictOf (iD P w) a vs):
  EG P w K H' h' a (.dK kvs):=⟨z,l,vs,i,j⟩
def J9{H':Hp}(hu:A.units+9<cLine)(I:Inv X D3 FV H s)(g:LH X.K H a y v H')(O:RelV y u)(M:RelV v r)(h:∀s',Inv X D3 FV H' s'->Q () s'):
  wpAny (model X.prog X.w) A (setItem (.ref a) u r) Q E s:=by
 rcases g with⟨kvs,k,e,L,l,B⟩|⟨kvs,k,b,e,L,eb,l,B⟩
 ·subst L B
  obtain⟨z,J,vs,i,G⟩:=Qe I.EJ e;have hz:vs.length<=sizeLine:=by rw[←i.length];exact z
  have F:(putK kvs k v).length<=sizeLine:=by have:=v4 kvs k v;omega
  refine wpAny_setItem_pairs (hsz:=hz) (Bq O) G λh' j D=>h _ ?_;have Z:∃q,h'.get? a=some q:=let ⟨q,_,_,n,_⟩:=j;⟨q,n⟩;exact za I (by rw[e];exact gs) D Z (Tg F J (i.put k M) j)
 ·subst L B
  cases(show u=Value.ref b from O);obtain⟨z,J,xs,i,G⟩:=Cy I.GL I.EJ (.inl e);have hz:xs.length<=sizeLine:=by rw[←iE i];exact z
  have F:(putK kvs k v).length<=sizeLine:=by have:=v4 kvs k v;omega
  refine Mp (IG hu) (mH I.GL I.EJ eb) G hz λh' j D=>h _ ?_;obtain⟨q,es,n,h2,Y,h4,_,U⟩:=j;refine za I (by rw[e];exact gs) D ⟨q,n⟩ ⟨F,J,_,(i.put k eb M).keeps λc ys N=>?_,q,es,_,n,h2,Y,h4,U,rfl⟩;rw[aG (cO N e (λz=>nomatch z))];exact N
end
section
variable {X:Cx}{D3:qS}{FV:St}{H:Hp}{s:Shared}{a:Addr}{kvs:List (Key×V)}{k:Key}{u:Value}{A:Around}{E:oT}
def Wm{Q:oT}(I:Inv X D3 FV H s)(e:Rd H a (.dK kvs))(h:∀t s',Inv X D3 FV H s'->Q (.int kvs.length t) s'):wpAny (model X.prog X.w) A (call (.builtin "len") [.ref a]) Q E s:=by
 obtain⟨z,l,vs,i,j⟩:=sS I.EJ e;refine call_len_dict l j (by rw[←i.length];rw[ib]at z;omega) ?_;rw[←i.length];exact h _ _ (I.tok _)
end
def MT(i:Expr):Prop:=∀ov iv,subscripted i false ov iv=operate [ov,iv] (getItem ov iv)
def QM{prog:Program}{s:Shared}{env:Env}{value j:Expr}{T id:String}{Q:oT}
  (I:typeLookup (.type T) "__getitem__" = pure (some (.builtin id))) (G:MT j)
  (h:wpAny (model prog w) A (eval value env) (λo D=>wpAny (model prog w) A (eval j env) (λi n=>n.TypeIs o T/\wpAny (model prog w) A (getItem o i) Q E n) E D) E s):
  wpAny (model prog w) A (eval (.Subscript value j pos) env) Q E s:=by
 refine Subscript_ (fm h (λo D h₁=>fm h₁ (λi n q=>?_) λ_ _ x=>x) λ_ _ x=>x);obtain⟨z,q⟩:=q;unfold subscriptTail;refine ab ?_;rw[getitemInPython_of_ne z.not_modules];refine ab (iq z I ?_);have l:wpAny (model prog w) A (subscripted j false o i) (λr B=>wpAny (model prog w) A (letTemporaryGo value o r >>= λ_=>pure r) Q E B) E n:=by
  rw[G o i];exact wpAny_operating (fm q (λr B F=>ab (wpAny_letTemporaryGo (ai F))) λ_ _ x=>x)
 first
  |exact ai (ab l)
  |exact ab (ai (ab l))
  |exact ab l
def FZ{X:Cx}{s:Shared}{y:V}{o:Option V}(I:Inv X D3 FV H s)(g:FE X.K H a y o):s.TypeIs (.ref a) "dict" := by
 rcases g with⟨kvs,k,e,_,_⟩|⟨kvs,k,b,e,_,_,_⟩
 ·obtain⟨_,_,vs,_,i⟩:=sS I.EJ e
  exact i.typeIs
 ·obtain⟨_,_,xs,_,i⟩:=xP I.GL I.EJ e
  exact i.typeIs
def sU(K:W.Frag)(td ty:TE):TE:=fun FV H Q=>td FV H λx H1=>ty FV H1 λy H2=>∃a v,x=.ref a/\FE K H2 a y (some v)/\Q v H2
def jq(K:W.Frag)(ty td:TE):TE:=fun FV H Q=>ty FV H λy H1=>td FV H1 λx H2=>∃a o,x=.ref a/\FE K H2 a y o/\Q (.bl (!o.isSome)) H2
def pN(K:W.Frag)(td ty tv:TE):TS:=λD FV H=>tv FV H λv H1=>td FV H1 λx H2=>ty FV H2 λy H3=>∃a H4,x=.ref a/\LH K H3 a y v H4/\D.nx FV H4
section
variable {X:Cx}{o i e value:Expr}{pos pos' tpos:Pos}{td ty tv:TE}
def vA(L:X.A.units+9<cLine)(N:PE X o td)(l:PE X i ty)(G:MT i):PE X (.Subscript o i pos) (sU X.K td ty):=by
 intro D3 s FV H Q I h;refine QM PySem.F.slot_dict_getitem.lookup G (EO (N D3 s FV H _ I h) λu n ⟨x,H1,z,q,O⟩=>EO (l D3 n FV H1 _ z O) ?_);rintro Y U ⟨y,H2,j,B,a,v,ex,g,J⟩;subst ex;obtain rfl:u=Value.ref a:=q;exact⟨FZ j g,J8 L j g B λZ s3 D M=>⟨v,H2,D,M,J⟩⟩
def qP(F:X.A.units+9<cLine)(j:PE X i ty)(J:PE X o td):PC X .NotIn i o (jq X.K ty td):=by
 intro D3 s FV H Q I h;refine EO (j D3 s FV H _ I h) λO l ⟨y,H1,q,z,L⟩=>EO (J D3 l FV H1 _ q L) ?_;rintro u N ⟨x,H2,M,n,a,G,ex,g,D⟩;subst ex;obtain rfl:u=Value.ref a:=n;exact GD F M g z λU B=>⟨.bl (!G.isSome),H2,B,rfl,D⟩
def rR(J:X.A.units+9<cLine)(M:PE X o td)(O:PE X i ty)(n:PE X value tv)(G:swapsWith value (some (.Subscript o i pos')) pos.line X.env=pure false):
  PS X (.Assign [.Subscript o i pos'] value pos) (pN X.K td ty tv):=by
 intro D3 s FV H D I h;refine wpAny_Assign_Subscript (EO (n D3 s FV H _ I h) λr j ⟨v,H1,z,q,N⟩=>EO (M D3 j FV H1 _ z N) λu U ⟨x,H2,I2,Y,q2⟩=>EO (O D3 U FV H2 _ I2 q2) ?_) G;rintro iv s3 ⟨y,H3,Z,B,a,L,ex,g,l⟩;subst ex;obtain rfl:u=Value.ref a:=Y;exact J9 J Z g B q λs4 F=>⟨FV,L,F,l⟩
end
def M6(h:Heap)(j:sysModules<h.objs.size):EG P w K H (h.push {cls:=.type "dict",data:=.dict #[]}) h.objs.size (.dK []):=
 ⟨cq _,fT.mpr (gc (bE j)),[],.nil,Heap.DictOf.new h⟩
def Cz(h:Heap)(j:sysModules<h.objs.size):EG P w K H (h.push {cls:=.type "dict",data:=.dict #[]}) h.objs.size (.dT []):=
 ⟨cq _,fT.mpr (gc (bE j)),[],.nil,_,#[],0,ay _ rfl,⟨rfl,rfl,rfl⟩,rfl,rfl,List.nodup_nil,rfl⟩
def J_:TE:=λ_ H Q=>∀p,H p=none->Q (.ref p) (upd H p (.dK []))
def CG:TE:=λ_ H Q=>∀p,H p=none->Q (.ref p) (upd H p (.dT []))
section
variable {X:Cx}{pos:Pos}
def CJ:PE X (.Dict [] [] pos) J_:=λD3 s FV H Q I h=>
 wpAny_Dict_empty ⟨.ref s.heap.objs.size,_,I.laid (a:=s.heap.objs.size) (o:=.dK []) (t':=s.toks) (λ_ _ q=>ac _ q) (aI _) (M6 s.heap I.big),rfl,h _ (I.EJ.fresh (aI _))⟩
def CK:PE X (.Dict [] [] pos) CG:=λD3 s FV H Q I h=>
 wpAny_Dict_empty ⟨.ref s.heap.objs.size,_,I.laid (a:=s.heap.objs.size) (o:=.dT []) (t':=s.toks) (λ_ _ q=>ac _ q) (aI _) (Cz s.heap I.big),rfl,h _ (I.EJ.fresh (aI _))⟩
end
structure M1(X:Cx)(o:Expr)(m:Str)(apos:Pos)(e:Expr)(EN:Pos):Prop where
 base:SY X o m
 few:Zb X EN [e]
 line:(apos.endLine == EN.line)=true
 trees:backTo EN (starEach [e] X.env)=[(false,eval e X.env)]
structure M2(X:Cx)(o:Expr)(m:Str)(apos:Pos)(e f:Expr)(EN:Pos):Prop where
 base:SY X o m
 few:Zb X EN [e,f]
 line:(apos.endLine == EN.line)=true
 trees:backTo EN (starEach [e,f] X.env)=[(false,eval e X.env),(false,eval f X.env)]
def IsD(H:Hp)(a:Addr):Prop:=(∃kvs,Rd H a (.dK kvs))\/∃kvs,Rd H a (.dT kvs)
def Ka{X:Cx}{s:Shared}(I:Inv X D3 FV H s)(d:IsD H a):
  s.TypeIs (.ref a) "dict" /\ (∀b,Value.ref a=.ref b->∃j,s.heap.get? b=some j/\j.dict=none)/\(a == sysModules)=false:=by
 rcases d with⟨kvs,e⟩|⟨kvs,e⟩
 ·obtain⟨_,n,vs,_,l⟩:=sS I.EJ e
  refine⟨l.typeIs,λb q=>?_,n⟩;cases q;obtain⟨j,_,_,h1,h2,_⟩:=l;exact⟨j,h1,h2.2.1⟩
 ·obtain⟨_,n,xs,_,l⟩:=xP I.GL I.EJ e
  refine⟨l.typeIs,λb q=>?_,n⟩;cases q;obtain⟨j,_,_,h1,h2,_⟩:=l;exact⟨j,h1,h2.2.1⟩
section
variable {X:Cx}{D3:qS}{FV:St}{H:Hp}{s:Shared}{a:Addr}{y d:V}{u r:Value}{o:Option V}{A:Around}{E:oT}
def Th{Q:oT}(J:A.units+9<cLine)(I:Inv X D3 FV H s)(g:FE X.K H a y o)(D:RelV y u)(G:RelV d r)(h:∀F s',Inv X D3 FV H s'->RelV (o.getD d) F->Q F s'):
  wpAny (model X.prog X.w) A (call (.builtin "dict.get") [.ref a,u,r]) Q E s:=by
 rcases g with⟨kvs,k,e,B,l⟩|⟨kvs,k,b,e,B,eb,l⟩
 ·subst B
  obtain⟨z,q,vs,j,n⟩:=sS I.EJ e;refine call_meetsIn kX n.typeIs o0 (oq _ _ _) (meets_dict_get_default (iD X.prog X.w) a (Bq D) q r) ⟨_,n.mapOf,h _ _ (I.tok _) ?_⟩;rw[l];exact(j.val k).getD G
 ·subst B
  cases(show u=Value.ref b from D);obtain⟨z,q,xs,j,n⟩:=xP I.GL I.EJ e;refine call_meetsIn kX n.typeIs o0 (oq _ _ _) (meetsH_dict_get_default (eZ X.prog X.w) a b q r) ⟨IG J,k,xs,mH I.GL I.EJ eb,n,h _ _ (I.tok _) ?_⟩;rw[l];exact(j.val k).getD G
end
def Ti(K:W.Frag)(td ty tx:TE):TE:=fun FV H Q=>td FV H λx H1=>∃a,x=.ref a/\IsD H1 a/\ty FV H1 λy H2=>tx FV H2 λz H3=>∃o,FE K H3 a y o/\Q (o.getD z) H3
section
variable {X:Cx}{o e f:Expr}{apos EN:Pos}{td ty tx:TE}
def M7(G:X.A.units+9<cLine)(L:PE X o td)(Y:PE X e ty)(J:PE X f tx)(m:M2 X o "get" apos e f EN):PE X (.Call (.Attribute o "get" apos) [e,f] [] EN) (Ti X.K td ty tx):=by
 intro D3 s FV H Q I h;refine wpAny_Call_method m.base m.few m.line PySem.F.plainAttrs_dict kX PySem.F.type_dict_get (EO (L D3 s FV H _ I h) ?_);rintro u l ⟨x,H1,j,Z,a,ex,d,N⟩;subst ex;obtain rfl:u=Value.ref a:=Z;obtain⟨t1,M,_⟩:=Ka j d;refine⟨t1,M,?_⟩;rw[m.trees];refine Calls.callWith_builtin rfl (Calls.evalArgs_plain (gI (EO (Y D3 l FV H1 _ j N) λiv O ⟨y,H2,I2,B,q2⟩=>
  gI (EO (J D3 O FV H2 _ I2 q2) λfv s3 ⟨z,U,I3,q,ov,g,n⟩=>iL ?_))))
 exact Th G I3 g B q λw' s4 D To=>⟨_,U,D,To,n⟩
end
end Lake.L2
namespace Lake.HT
open PySem PyProof.Rows
section
variable {prog:Program}{w:World}{A:Around}{E:oT}{s:Shared}
def YD{t b:Addr}{vs j:re}{Q:oT}(Z:IsTup s.heap t vs.toArray)(Y:IsTup s.heap b j.toArray)(D:vs≠[])
  (h1:j=[]->Q (.ref t) s) (h2:j≠[]->Q (.ref s.heap.objs.size) {s with heap:=s.heap.push {cls:=.type "tuple",data:=.seq (vs++j).toArray}})
  (hsz:vs.length+j.length<=sizeLine):wpAny (model prog w) A (binaryOp .Add (.ref t) (.ref b)) Q E s:=by
 obtain⟨⟨cls,L,data,N⟩,z,F,n,O⟩:=id Z;obtain⟨⟨G,M,B,U⟩,q,J,I,l⟩:=id Y;simp only at F O J l;subst F O J l;have e:vs.toArray++j.toArray=(vs++j).toArray:=by simp
 by_cases hw:j=[]
 ·exact concat_meets ⟨_,z,rfl⟩ ⟨_,q,rfl⟩ ow qo kK kD (kg _ _)
   (tuple_addW1 t b vs.toArray j.toArray n I L M N U (by simpa using D) (by simp[hw])) ⟨z,q,h1 hw⟩
 ·refine concat_meets ⟨_,z,rfl⟩ ⟨_,q,rfl⟩ ow qo kK kD (kg _ _)
   (tuple_addW2 t b vs.toArray j.toArray n I L M N U (by simpa using D) (by simpa using hw) (by rw[bb,bb];exact hsz)) ⟨z,q,?_⟩
  rw[e];exact h2 hw
noncomputable def ES(n d:Nat):Option Int->Nat
 |none=>d
 |some v=>if v<0 then(v+(n:Int)).toNat else min v.toNat n
def Po(n d k:Nat):ES n d (some (k:Int))=min k n:=by
 show(if(k:Int)<0 then((k:Int)+(n:Int)).toNat else min (k:Int).toNat n)=min k n;rw[br (by omega),fN]
def Tx(n d:Nat)(j:d<=n)(o:Option Int):ES n d o<=n:=by
 cases o with
 |none=>exact j
 |some v=>
  show(if v<0 then(v+(n:Int)).toNat else min v.toNat n)<=n;by_cases hv:v<0
  ·rw[bS hv];omega
  ·rw[br hv];exact Nat.min_le_right _ _
def GF(v:Int)(n d:Nat):(if v<0 then max (v+(n:Int)) 0 else min v (n:Int))=((ES n d (some v):Nat):Int):=by
 show(if v<0 then max (v+(n:Int)) 0 else min v (n:Int))=(((if v<0 then(v+(n:Int)).toNat else min v.toNat n):Nat):Int);by_cases hv:v<0
 ·simp only[bS hv];omega
 ·simp only[br hv];omega
def HW(lo j:Option Int)(n:Nat):Builtin.Slice.sliceAdjust lo j 1 (n:Int)=(((ES n 0 lo:Nat):Int),((ES n n j:Nat):Int)):=by
 have h1:¬ ((1:Int)<0):=by omega
 unfold Builtin.Slice.sliceAdjust;simp only[h1,fw];refine qE ?_ ?_
 ·cases lo with
  |none=>rfl
  |some v=>exact GF v n 0
 ·cases j with
  |none=>rfl
  |some v=>exact GF v n n
def HX(i j:Nat):Builtin.Slice.slicePlaces (i:Int) (j:Int) 1=j - i:=by
 unfold Builtin.Slice.slicePlaces;have h1:(1:Int)>0:=by omega
 simp only[h1,fE,Int.ediv_one];split<;>omega
def xQ{v:Value}{o:Option Int}{Q:Option Int->Shared->Prop}(p:IsPart v o)(h:Q o s):wpAny (model prog w) A (Builtin.Slice.slicePartIndex v) Q E s:=by
 cases p with
 |none=>exact slicePart_none h
 |int i t=>exact slicePart_int h
def pZ{D:Addr}{q z:Value}{lo j:Option Int}{n:Nat}{Q:Int×Int×Nat->Shared->Prop}(G:s.heap.IsSliceOf D q z .none)(pl:IsPart q lo)(F:IsPart z j)
  (h:Q (((ES n 0 lo:Nat):Int),1,ES n n j - ES n 0 lo) s):wpAny (model prog w) A (Builtin.Slice.sliceApplied (.ref D) (pure (n:Int))) Q E s:=by
 obtain⟨J,B,I,l⟩:=id G;unfold Builtin.Slice.sliceApplied Builtin.Slice.sliceFields;refine ab (ab (ed B l (x:=q) rfl (ab (ed B l (x:=z) rfl (ab (ed B l (x:=.none) rfl (ai ?_)))))));refine ab (slicePart_none ?_);show wpAny _ _ (if((1:Int) == 0)=true then _ else _) _ _ s;rw[br (by decide)];refine ab (xQ pl (ab (xQ F (ab (ai ?_)))));show wpAny _ _ (match Builtin.Slice.sliceAdjust lo j 1 (n:Int)with|(lo,j)=>pure (lo,(1:Int),Builtin.Slice.slicePlaces lo j 1)) _ _ s;rw[HW lo j n];show wpAny _ _ (pure (((ES n 0 lo:Nat):Int),(1:Int),Builtin.Slice.slicePlaces ((ES n 0 lo:Nat):Int) ((ES n n j:Nat):Int) 1)) _ _ s;rw[HX];exact ai h
def M8(xs:rV)(i k:Nat):((List.range k).filterMap λ(m:Nat)=>xs[((i:Int)+(m:Int)*1).toNat]?).toArray=((xs.toList.drop i).take k).toArray:=by
 have e:(λ(m:Nat)=>xs[((i:Int)+(m:Int)*1).toNat]?)=λm=>xs[i+m]?:=by
  funext m
  have:((i:Int)+(m:Int)*1).toNat=i+m:=by omega
  rw[this]
 rw[e];have:=pick_run xs i k;rw[List.filterMap_map]at this;have e2:((λx=>xs[x]?)∘λx=>i+x)=λm=>xs[i+m]?:=rfl;rw[e2]at this;rw[this]
def Kb{t D:Addr}{items:rV}{G I:Value}{lo j:Option Int}{Q:oT}(n:IsTup s.heap t items)(J:s.heap.IsSliceOf D G I .none)(pl:IsPart G lo)(L:IsPart I j)
  (M:¬ (ES items.size 0 lo=0/\ES items.size items.size j=items.size))
  (h:Q (.ref s.heap.objs.size) {s with heap:=s.heap.push {cls:=.type "tuple",data:=.seq ((items.toList.drop (ES items.size 0 lo)).take (ES items.size items.size j - ES items.size 0 lo)).toArray}})
  (hsz:items.size<=sizeLine):wpAny (model prog w) A (getItem (.ref t) (.ref D)) Q E s:=by
 have l:sizeOk (.seq ((items.toList.drop (ES items.size 0 lo)).take (ES items.size items.size j - ES items.size 0 lo)).toArray):=by
  show((items.toList.drop (ES items.size 0 lo)).take (ES items.size items.size j - ES items.size 0 lo)).toArray.size<=sizeLine;rw[bb,js,jv,f7];omega
 have Y:ES items.size items.size j<=items.size:=Tx _ _ (aI _) j;obtain⟨U,N,z,O⟩:=id J;have B:s.TypeIs (.ref D) "slice" := ⟨U,N,z⟩;unfold getItem
 try with_reducible refine eg ?_
 first|refine ab (ai ?_)|skip
 refine ab (nr n.typeIs (by decide) ?_);refine ab (c9 (name:=Str.ofString "__getitem__") n.typeIs eD
  (dy eD n.typeIs entry_tuple_getitem ?_ (args_tuple_getitem _ _)))
 show wpAny _ _ (Builtin.Tuple.tupleItemsOf (.ref t) >>= _) _ _ s;refine ab (tupleItemsOf_ n ?_);refine ab (jI B ?_);rw[bS (by decide)];refine ab (pZ J pl L ?_);have F:¬ ((((ES items.size 0 lo:Nat):Int) == 0&&(1:Int) == 1&&(ES items.size items.size j - ES items.size 0 lo) == items.size)=true):=by
  intro q;rw[cE,cE]at q;have q1:((ES items.size 0 lo:Nat):Int)=0:=eq_of_beq q.1.1;have Z:ES items.size items.size j - ES items.size 0 lo=items.size:=eq_of_beq q.2;exact M ⟨by omega,by omega⟩
 show wpAny _ _ (if(((ES items.size 0 lo:Nat):Int) == 0&&(1:Int) == 1&&(ES items.size items.size j - ES items.size 0 lo) == items.size)=true then _ else _) _ _ s;rw[br F,M8]
 first
  |exact ab (m:=Builtin.Tuple.tupleExact _) (dL (ai ⟨_,rfl,ai h⟩) l)
  |exact ab (m:=Builtin.Tuple.tupleExact _) (dL (ab (ai (ai ⟨_,rfl,ai h⟩))) l)
  |exact ab (ab (m:=Builtin.Tuple.tupleExact _) (dL (ai (ai ⟨_,rfl,ai h⟩)) l))
  |exact ab (ab (m:=Builtin.Tuple.tupleExact _) (dL (ai ⟨_,rfl,ai h⟩) l))
end
end Lake.HT
namespace Lake.L2
open PySem PySem.Spec PyProof.Rows
abbrev TO:=St->Hp->(Option Int->Hp->Prop)->Prop
def PO(X:Cx)(e:Option Expr)(t:TO):Prop:=
 ∀(D3:qS) (s:Shared) (FV:St) (H:Hp) (Q:Option Int->Hp->Prop),Inv X D3 FV H s->t FV H Q->
  wpAny (model X.prog X.w) X.A (evalPart e X.env) (λu s'=>∃o H',Inv X D3 FV H' s'/\IsPart u o/\Q o H') X.xe s
def QQ:TO:=λ_ H Q=>Q none H
def Wn(t:TE):TO:=fun FV H Q=>t FV H λx H1=>∃i,x=.int i/\Q (some i) H1
variable {r:V->Option Int->Option Int->Hp->VK->Prop}
section
variable {X:Cx}{e:Expr}{te:TE}{lo hi:Option Expr}{tl th:TO}{pos p2:Pos}
def QR:PO X none QQ:=by
 intro D3 s FV H Q I h;rw[evalPart_none];exact ai ⟨none,H,I,.none,h⟩
def QS(h:PE X e te):PO X (some e) (Wn te):=by
 intro D3 s FV H Q I j;rw[evalPart_some];refine EO (h D3 s FV H _ I j) ?_;rintro u B ⟨x,H1,l,n,z⟩;obtain⟨i,rfl,q⟩:=z;obtain⟨t,rfl⟩:=n;exact⟨some i,H1,l,.int i t,q⟩
def TB(X:Cx)(r:V->Option Int->Option Int->Hp->VK->Prop):Prop:=
 ∀(D3:qS) (s:Shared) (FV:St) (H:Hp) (x:V) (v vl vu:Value) (lo hi:Option Int) (sl:Addr) (Q:VK),Inv X D3 FV H s->RelV x v->s.heap.IsSliceOf sl vl vu .none->IsPart vl lo->IsPart vu hi->r x lo hi H Q->
  ∃T id,typeLookup (.type T) "__getitem__" = pure (some (.builtin id))/\s.TypeIs v T/\wpAny (model X.prog X.w) X.A (getItem v (.ref sl)) (EP X D3 FV Q) X.xe s
def TB.or{F:V->Option Int->Option Int->Hp->VK->Prop}(h:TB X r)(h':TB X F):TB X (λx lo hi H Q=>r x lo hi H Q\/F x lo hi H Q):=by
 intro D3 s FV H x v j z lo hi D Q I n B pl l q;rcases q with q|q
 ·exact h D3 s FV H x v j z lo hi D Q I n B pl l q
 ·exact h' D3 s FV H x v j z lo hi D Q I n B pl l q
def tSl(r:V->Option Int->Option Int->Hp->VK->Prop)(te:TE)(tl th:TO):TE:=fun FV H Q=>te FV H λx H1=>tl FV H1 λl H2=>th FV H2 λu H3=>r x l u H3 Q
def CN(U:TB X r)(he:PE X e te)(L:PO X lo tl)(M:PO X hi th):PE X (.Subscript e (.Slice lo hi none p2) pos) (tSl r te tl th):=by
 intro D3 s FV H Q I h;refine Subscript_ (EO (he D3 s FV H _ I h) ?_);rintro v D ⟨x,H1,G,O,Y⟩;refine wpAny_Slice (EO (L D3 D FV H1 _ G Y) λn Z ⟨l,H2,I2,pl,q2⟩=>EO (M D3 Z FV H2 _ I2 q2) ?_);rintro z j ⟨u,B,I3,pu,F⟩;rw[evalPart_none];refine ai ?_;have J:Inv X D3 FV B {j with heap:=j.heap.push {cls:=.type "slice",data:=.fields #[n,z,.none]}}:=I3.kept (t':=j.toks) λb ob q=>ac _ q;obtain⟨T,id,hT,N,hg⟩:=U D3 {j with heap:=j.heap.push {cls:=.type "slice",data:=.fields #[n,z,.none]}} FV B x v n z l u j.heap.objs.size Q J O (Heap.IsSliceOf.new ..) pl pu F;show wpAny (model X.prog X.w) X.A (subscriptTail e (.Slice lo hi none p2) v (.ref j.heap.objs.size)) (EP X D3 FV Q) X.xe {j with heap:=j.heap.push {cls:=.type "slice",data:=.fields #[n,z,.none]}};exact tail_any (ops:=[.ref j.heap.objs.size,v]) N hT hg (by with_unfolding_all rfl)
noncomputable def uJ(xs:sC)(lo hi:Option Int):List V:=(xs.drop (HT.ES xs.length 0 lo)).take (HT.ES xs.length xs.length hi - HT.ES xs.length 0 lo)
def v6(xs:sC)(lo hi:Option Int):(uJ xs lo hi).length<=xs.length:=by
 unfold uJ;rw[js,jv];omega
def Tj(K:W.Frag):V->Option Int->Option Int->Hp->VK->Prop:=λx lo hi H Q=>∃a xs,x=.ref a/\GN K H a xs /\
 ¬ (HT.ES xs.length 0 lo=0/\HT.ES xs.length xs.length hi=xs.length)/\∀p,H p=none->Q (.ref p) (upd H p (.tup (uJ xs lo hi)))
def Tn:TB X (Tj X.K):=by
 intro D3 s FV H x v J L lo hi M Q I B F pl n h;obtain⟨a,xs,rfl,D,z,q⟩:=h;cases B;obtain⟨G,r,l,hz⟩:=I.tuple D;have j:G.toArray.size=xs.length:=by rw[bb];exact r.length.symm
 refine⟨"tuple",_,eD.lookup,l.typeIs,?_⟩;refine HT.Kb l F pl n (by rw[j];exact z) ?_ (by rw[j];exact hz);rw[j];refine⟨.ref s.heap.objs.size,_,I.laid (t':=s.toks) (o:=.tup (uJ xs lo hi)) (λb N q=>ac _ q) (aI _) ?_,rfl,q _ (I.EJ.fresh (aI _))⟩;exact⟨dE (v6 xs lo hi) hz,_,(r.drop (HT.ES xs.length 0 lo)).take (HT.ES xs.length xs.length hi - HT.ES xs.length 0 lo),⟨_,ay _ rfl,rfl,0,rfl,rfl⟩⟩
def xR(K:W.Frag):R2:=λx y H Q=>∃a b xs ys,x=.ref a/\y=.ref b/\GN K H a xs/\GN K H b ys/\xs≠[]/\xs.length+ys.length<=sizeLine /\
 (ys=[]->Q (.ref a) H)/\(ys≠[]->∀p,H p=none->Q (.ref p) (upd H p (.tup (xs++ys))))
def Vals.MX{xs:sC}{us:re}(r:Vals xs us):us=[]↔xs=[]:=by
 cases r with
 |nil=>simp
 |cons _ _=>simp
def QT:GW X (binaryOp .Add) (xR X.K):=by
 intro D3 s FV H x y v u Q I B G h;obtain⟨a,b,xs,ys,rfl,rfl,F,n,D,hz,L,J⟩:=h;cases B;cases G;obtain⟨M,l,p1,_⟩:=I.tuple F;obtain⟨O,j,p2,_⟩:=I.tuple n;refine HT.YD p1 p2 (λz=>D (l.MX.mp z)) (λz=>⟨.ref a,H,I,rfl,L (j.MX.mp z)⟩) (λz=>?_) (by rw[←l.length,←j.length];exact hz);refine⟨.ref s.heap.objs.size,_,I.laid (t':=s.toks) (o:=.tup (xs++ys)) (λb N q=>ac _ q) (aI _) ?_,rfl,J (λw=>z (j.MX.mpr w)) _ (I.EJ.fresh (aI _))⟩;exact⟨by rw[cb];exact hz,_,l.append j,⟨_,ay _ rfl,rfl,0,rfl,rfl⟩⟩
end
noncomputable def L9(n:Nat)(i:Int):Option Nat:=if 0<=i then(if i<n then some i.toNat else none)else if -(n:Int)<=i then some (i+n).toNat else none
noncomputable def Fn{F3:Type}(xs:List F3)(i:Int):Option F3:=(L9 xs.length i).bind λj=>xs[j]?
def GJ{n:Nat}{i:Int}{j:Nat}(h:L9 n i=some j):seqIndex? i n=some j/\j<n/\-(n:Int)<=i/\i<n:=by
 unfold L9 at h;by_cases h0:0<=i
 ·rw[bS h0]at h
  by_cases h1:i<n
  ·rw[bS h1]at h
   have e:i.toNat=j:=bp h;exact⟨by rw[seqIndex_of h0 h1,e],by omega,by omega,h1⟩
  ·rw[br h1]at h;cases h
 ·rw[br h0]at h
  by_cases h1:-(n:Int)<=i
  ·rw[bS h1]at h
   have e:(i+n).toNat=j:=bp h;exact⟨by rw[seqIndex_neg (by omega) h1,e],by omega,h1,by omega⟩
  ·rw[br h1]at h;cases h
def zb{l:Type}{xs:List l}{i:Int}{v:l}(h:Fn xs i=some v):∃j,seqIndex? i xs.length=some j/\xs[j]?=some v/\j<xs.length/\-(xs.length:Int)<=i/\i<xs.length:=by
 unfold Fn at h;cases e:L9 xs.length i with
 |none=>rw[e]at h;cases h
 |some j=>
  rw[e]at h;obtain⟨h1,h2,q,n⟩:=GJ e;exact⟨j,h1,h,h2,q,n⟩
def pX{l:Type}{xs:List l}{j:Nat}{v:l}(h:xs[j]?=some v):Fn xs (j:Int)=some v:=by
 have n:j<xs.length:=(al.mp h).1;have e:L9 xs.length (j:Int)=some j:=by
  unfold L9;rw[bS (by omega),bS (by omega)];simp
 unfold Fn;rw[e];exact h
def GK(b:Expr):Prop:=∀o i,subscripted b false o i=operate [o,i] (getItem o i)
def TC(X:Cx)(r:R2):Prop:=
 ∀(value slice:Expr) (D3:qS) (s:Shared) (FV:St) (H:Hp) (x y:V) (v u:Value) (Q:VK),Inv X D3 FV H s->RelV x v->RelV y u->r x y H Q->
  subscripted slice false v u=operate [v,u] (getItem v u)->wpAny (model X.prog X.w) X.A (subscriptTail value slice v u) (EP X D3 FV Q) X.xe s
def MtR(X:Cx)(id:String)(r:V->List V->Hp->VK->Prop):Prop:=
 ∀(D3:qS) (s:Shared) (FV:St) (H:Hp) (x:V) (xs:sC) (v:Value) (us:re) (Q:VK),Inv X D3 FV H s->RelV x v->Vals xs us->r x xs H Q->
  wpAny (model X.prog X.w) X.A (call (.builtin id) (v::us)) (EP X D3 FV Q) X.xe s
section
variable {X:Cx}{a b:Expr}{ta tb:TE}{pos:Pos}
def TC.or{r B:R2}(h:TC X r)(h':TC X B):TC X (λx y H Q=>r x y H Q\/B x y H Q):=by
 intro value j D3 s FV H x y v u Q I l n q z;rcases q with q|q
 ·exact h value j D3 s FV H x y v u Q I l n q z
 ·exact h' value j D3 s FV H x y v u Q I l n q z
def vB{r:R2}(F:TC X r)(z:PE X a ta)(j:PE X b tb)(D:GK b):PE X (.Subscript a b pos) (QE r ta tb):=by
 intro D3 s FV H Q I h;exact Subscript_ (MF z j I h λv u l x y H2 G n B q=>F a b D3 l FV H2 x y v u Q G n B q (D _ _))
def wG(K:W.Frag):R2:=λx y H Q=>∃p xs i v,x=.ref p/\y=.int i/\Fc K H p xs/\Fn xs i=some v/\Q v H
def HY(K:W.Frag):R2:=λx y H Q=>∃p xs i v,x=.ref p/\y=.int i/\GN K H p xs/\Fn xs i=some v/\Q v H
def Tp:R2:=λx y H Q=>∃z i c,x=.str z/\y=.int i/\z.length<=sizeLine/\Fn z.cps.toList i=some c/\Q (.str ⟨#[c]⟩) H
def Pw:TC X (wG X.K):=by
 intro value n D3 s FV H x y v u Q I O G h D;obtain⟨p,xs,i,z,rfl,rfl,U,N,q⟩:=h;cases O;obtain⟨t,rfl⟩:=G;obtain⟨L,r,pl,hz⟩:=I.list U;obtain⟨j,h1,h2,h3,Y,M⟩:=zb N;obtain⟨w,F,Z⟩:=r.get h2;have J:=r.length;have hn:=rO;have l:EP X D3 FV Q w s:=⟨z,H,I,Z,q⟩;by_cases h0:0<=i
 ·have B:i.toNat=j:=by
   rw[seqIndex_of h0 M]at h1;exact bp h1
  exact item_listR pl.isList h0 (by omega) (by rw[B];simpa using F) l D
 ·have B:(i+(L.toArray.size:Int)).toNat=j:=by
   rw[seqIndex_neg (by omega) Y]at h1;rw[bb,←J];exact bp h1
  exact subscriptTail_builtinR (x:=w) pl.isList.typeIs slot_list_getitem.lookup
   (wpAny_getItem_list_neg (Q:=λr s'=>r=w/\EP X D3 FV Q r s') pl.isList (by omega) (by rw[bb]<;>omega) (by omega) (by rw[B];simpa using F) ⟨rfl,l⟩) D
def TH:TC X (HY X.K):=by
 intro value n D3 s FV H x y v u Q I J B h D;obtain⟨p,xs,i,z,rfl,rfl,L,G,q⟩:=h;cases J;obtain⟨t,rfl⟩:=B;obtain⟨O,r,pl,hz⟩:=I.tuple L;obtain⟨j,h1,h2,Z,h4,U⟩:=zb G;obtain⟨w,N,M⟩:=r.get h2;have F:=r.length;have Y:=rO;have l:EP X D3 FV Q w s:=⟨z,H,I,M,q⟩;exact subscriptTail_builtinR (x:=w) pl.typeIs slot_tuple_getitem.lookup
  (getItem_tuple (j:=j) (Q:=λr s'=>r=w/\EP X D3 FV Q r s') pl (by omega) (by omega) (by rw[bb,←F];exact h1) (by simpa using N) ⟨rfl,l⟩) D
def Tq:TC X Tp:=by
 intro value l D3 s FV H x y v u Q I B F h G;obtain⟨z,i,c,rfl,rfl,hz,D,q⟩:=h;obtain⟨t,rfl⟩:=B;obtain⟨t',rfl⟩:=F;obtain⟨j,h1,h2,N,L,n⟩:=zb D;have J:z.cps.toList.length=z.length:=by simp[Str.length]
 rw[J]at h1 L n;have M:=rO;exact tail_any (typeIs_str s z t) slot_str_getitem.lookup (getItem_str (c:=c) (by
  have e1:decide (i < -(2 ^ 63:Int))=false:=cK (by omega);have e2:decide (i ≥ 2 ^ 63)=false:=cK (by omega);rw[e1,e2,qq]) (by rw[h1];simpa using h2) ⟨.str ⟨#[c]⟩,H,I.tok _,⟨_,rfl⟩,q⟩) G
def rIx(K:W.Frag):R2:=λx y H Q=>wG K x y H Q\/HY K x y H Q\/Tp x y H Q
def Tr:TC X (rIx X.K):=Pw.or (TH.or Tq)
def H_(l:re)(n j:Nat)(u:Value):Obj.mapSeq (·.setIfInBounds j u) {cls:=.type "list",data:=.seq l.toArray n}={cls:=.type "list",data:=.seq (l.set j u).toArray n}:=by
 simp[Obj.mapSeq]
def Inv.lst{D3:qS}{FV:St}{H:Hp}{s:Shared}{p:Addr}{xs:sC}(I:Inv X D3 FV H s)(h:H p=some (.lst xs)):
  ∃(j:re) (n:Nat),Vals xs j/\s.heap.get? p=some {cls:=.type "list",data:=.seq j.toArray n}/\xs.length<=sizeLine:=by
 obtain⟨z,j,n,r,e⟩:=I.EJ p _ h;exact⟨j,n,r,e,z⟩
def Inv.ZZ{D3:qS}{FV:St}{H:Hp}{s:Shared}{p:Addr}{xs ys:sC}{z its':re}{n j:Nat}{f:Obj->Obj}(I:Inv X D3 FV H s)(h:H p=some (.lst xs))
  (D:s.heap.get? p=some {cls:=.type "list",data:=.seq z.toArray n}) (l:f {cls:=.type "list",data:=.seq z.toArray n}={cls:=.type "list",data:=.seq its'.toArray j}) (r:Vals ys its') (hz:ys.length<=sizeLine) (t:Nat):
  Inv X D3 FV (upd H p (.lst ys)) {s with heap:=s.heap.update p f,toks:=t}:=by
 have e:(s.heap.update p f).get? p=some {cls:=.type "list",data:=.seq its'.toArray j}:=by
  rw[eT f D (by rw[l]<;>rfl),l]
 refine I.write (x:=p) (e:=p) (by rw[h];trivial) (.inl rfl) (λb u B q=>(ff _ _ (gc B)).trans q) ⟨_,e⟩ ?_;exact⟨hz,its',j,r,e⟩
def Wo:V->V->V->Hp->(Hp->Prop)->Prop:=λo i v H Q=>∃p xs k j,o=.ref p/\i=.int k/\H p=some (.lst xs)/\L9 xs.length k=some j/\Q (upd H p (.lst (xs.set j v)))
def set_list:SM X Wo:=by
 intro D3 s FV H o i v Z iv u Q I N U M h;obtain⟨p,xs,k,j,rfl,rfl,J,O,q⟩:=h;cases N;obtain⟨t,rfl⟩:=U;obtain⟨D,n,r,z,hz⟩:=I.lst J;obtain⟨h1,h2,L,G⟩:=GJ O;have l:=r.length;have Y:=rO;have F:Inv X D3 FV (upd H p (.lst (xs.set j v))) {s with heap:=s.heap.update p (Obj.mapSeq (·.setIfInBounds j u))}:=
  I.ZZ J z (H_ D n j u) (r.set M j) (by rw[eM];exact hz) s.toks
 by_cases h0:0<=k
 ·have B:k.toNat=j:=by
   rw[seqIndex_of h0 G]at h1;exact bp h1
  exact W.ki_setAt z h0 (by omega) (by rw[bb,←l];exact G) (by rw[B];exact⟨_,F,q⟩)
 ·have B:(k+(D.toArray.size:Int)).toNat=j:=by
   rw[seqIndex_neg (by omega) L]at h1;rw[bb,←l];exact bp h1
  exact W.ki_setBack z (by omega) (by rw[bb,←l];exact L) (by omega) (by rw[B];exact⟨_,F,q⟩)
def CQ(lo hi:Option Int)(n:Nat):(sliceBounds lo hi none n).1=((HT.ES n 0 lo:Nat):Int)/\(sliceBounds lo hi none n).2.1=((HT.ES n n hi:Nat):Int)/\(sliceBounds lo hi none n).2.2=1:=by
 refine⟨?_,?_,rfl⟩
 ·cases lo with
  |none=>simp[sliceBounds,HT.ES]
  |some i=>
   simp only[sliceBounds,HT.ES,Option.getD_none,show(1:Int)>0 by decide,fE];by_cases h:i<0
   ·simp only[h,fE]<;>omega
   ·simp only[h,fw]<;>omega
 ·cases hi with
  |none=>simp[sliceBounds,HT.ES]
  |some i=>
   simp only[sliceBounds,HT.ES,Option.getD_none,show(1:Int)>0 by decide,fE];by_cases h:i<0
   ·simp only[h,fE]<;>omega
   ·simp only[h,fw]<;>omega
def Bc(j:re)(lo hi:Option Int):slicePick j.toArray lo hi none=((j.drop (HT.ES j.length 0 lo)).take (HT.ES j.length j.length hi - HT.ES j.length 0 lo)).toArray:=by
 obtain⟨h1,h2,l⟩:=CQ lo hi j.toArray.size;unfold slicePick;rw[h1,h2,l];simp only[sliceRange_one,pick_run,bb]<;>rfl
def Tt(K:W.Frag):V->Option Int->Option Int->Hp->VK->Prop:=λx lo hi H Q=>∃a xs,x=.ref a/\Fc K H a xs/\∀p,H p=none->Q (.ref p) (upd H p (.lst (uJ xs lo hi)))
def YE:TB X (Tt X.K):=by
 intro D3 s FV H x v F G lo hi J Q I z D pl n h;obtain⟨a,xs,rfl,B,q⟩:=h;cases z;obtain⟨M,r,l,hz⟩:=I.list B;have j:=r.length;refine⟨"list",_,slot_list_getitem.lookup,l.isList.typeIs,?_⟩;refine wpAny_getItem_list_slice l.isList D pl n .none (by simp) ?_ (by rw[bb]<;>omega);rw[Bc,←j];refine⟨.ref s.heap.objs.size,_,I.laid (t':=s.toks) (o:=.lst (uJ xs lo hi)) (λb L q=>ac _ q) (aI _) ?_,rfl,q _ (I.EJ.fresh (aI _))⟩;exact⟨dE (v6 xs lo hi) hz,_,0,(r.drop (HT.ES xs.length 0 lo)).take (HT.ES xs.length xs.length hi - HT.ES xs.length 0 lo),ay _ rfl⟩
noncomputable def lA:V->Bool
 |.Ee=>true
 |.bl _=>true
 |.int _=>true
 |.str _=>true
 |_=>false
noncomputable def YF:V->V->Bool
 |.Ee,.Ee=>true
 |.bl a,.bl b=>a == b
 |.bl a,.int b=>(if a then 1 else 0) == b
 |.int a,.bl b=>a == (if b then 1 else 0)
 |.int a,.int b=>a == b
 |.str a,.str b=>a == b
 |_,_=>false
def Tu{A:Around}{s:Shared}{y x:V}{u v:Value}(n:RelV y u)(j:RelV x v)(q:lA y=true)(l:lA x=true):SeqAt.EqAt A s u v (YF y x):=by
 cases y with
 |Ee=>
  cases n;cases x with
  |Ee=>cases j;exact SeqAt.EqAt.same _
  |bl b=>cases j;exact SeqAt.EqAt.none_bool b
  |int b=>obtain⟨t,rfl⟩:=j;exact SeqAt.EqAt.none_int b t
  |str b=>obtain⟨t,rfl⟩:=j;exact SeqAt.EqAt.none_str b t
  |_=>exact absurd (show false=true from l) bq
 |bl a=>
  cases n;cases x with
  |Ee=>cases j;exact SeqAt.EqAt.bool_none a
  |bl b=>cases j;exact SeqAt.EqAt.bool_bool a b
  |int b=>obtain⟨t,rfl⟩:=j;exact SeqAt.EqAt.bool_int a b t
  |str b=>obtain⟨t,rfl⟩:=j;exact SeqAt.EqAt.bool_str a b t
  |_=>exact absurd (show false=true from l) bq
 |int a=>
  obtain⟨t',rfl⟩:=n;cases x with
  |Ee=>cases j;exact SeqAt.EqAt.int_none a t'
  |bl b=>cases j;exact SeqAt.EqAt.int_bool a t' b
  |int b=>obtain⟨t,rfl⟩:=j;exact mv a t' b t
  |str b=>obtain⟨t,rfl⟩:=j;exact md a t' b t
  |_=>exact absurd (show false=true from l) bq
 |str a=>
  obtain⟨t',rfl⟩:=n;cases x with
  |Ee=>cases j;exact SeqAt.EqAt.str_none a t'
  |bl b=>cases j;exact SeqAt.EqAt.str_bool a t' b
  |int b=>obtain⟨t,rfl⟩:=j;exact me a t' b t
  |str b=>obtain⟨t,rfl⟩:=j;exact SeqAt.EqAt.str_str a t' b t
  |_=>exact absurd (show false=true from l) bq
 |_=>exact absurd (show false=true from q) bq
noncomputable def OS(x:V)(u:Value):Bool:=match u with
 |.none=>YF .Ee x
 |.bool b=>YF (.bl b) x
 |.int i _=>YF (.int i) x
 |.str z _=>YF (.str z) x
 |_=>false
def Kc{x y:V}{u:Value}(r:RelV y u)(f:lA y=true):OS x u=YF y x:=by
 cases y with
 |Ee=>cases r;rfl
 |bl b=>cases r;rfl
 |int i=>obtain⟨t,rfl⟩:=r;rfl
 |str z=>obtain⟨t,rfl⟩:=r;rfl
 |_=>exact absurd (show false=true from f) bq
theorem rT{x:V}:∀{xs:sC}{us:re},Vals xs us->xs.all lA=true->us.any (OS x)=xs.any λy=>YF y x
 |_,_,.nil,_=>rfl
 |y::xs,u::us,.cons r t,f=>by
  rw[kf,cE]at f;rw[fF,fF,Kc r f.1,rT t f.2]
theorem p6{A:Around}{s:Shared}{x:V}{v:Value}(n:RelV x v)(l:lA x=true):∀{xs:sC}{us:re},Vals xs us->xs.all lA=true->∀u∈us,SeqAt.EqAt A s u v (OS x u)
 |_,_,.nil,_=>λu j=>by cases j
 |y::xs,u::us,.cons r t,f=>λq j=>by
  rw[kf,cE]at f;rcases bi.mp j with rfl|j
  ·rw[Kc r f.1];exact Tu r n f.1 l
  ·exact p6 n l t f.2 q j
noncomputable def inV(x:V)(xs:sC):Bool:=xs.any λy=>YF y x
def rIn(K:W.Frag)(neg:Bool):R2:=λx y H Q=>∃p xs,y=.ref p/\(Fc K H p xs\/GN K H p xs)/\lA x=true/\xs.all lA=true/\Q (.bl (if neg then !inV x xs else inV x xs)) H
def Kd:GW X (compareOp .In) (rIn X.K false):=by
 intro D3 s FV H x y v u Q I B D h;obtain⟨p,xs,rfl,j,z,fs,q⟩:=h;cases D;rcases j with j|j
 ·obtain⟨l,r,pl,hz⟩:=I.list j
  refine SeqAt.in_listAt (OS x) pl.isList (λw n=>p6 B z r fs w (by simpa using n)) ⟨.bl _,H,I,rfl,?_⟩;rw[show l.toArray.any (OS x)=l.any (OS x) by simp,rT r fs];exact q
 ·obtain⟨l,r,pl,hz⟩:=I.tuple j
  refine SeqAt.in_tupleAt (OS x) pl (λw n=>p6 B z r fs w (by simpa using n)) ⟨.bl _,H,I,rfl,?_⟩;rw[show l.toArray.any (OS x)=l.any (OS x) by simp,rT r fs];exact q
def CT:GW X (compareOp .NotIn) (rIn X.K true):=by
 intro D3 s FV H x y v u Q I B D h;obtain⟨p,xs,rfl,j,z,fs,q⟩:=h;cases D;rcases j with j|j
 ·obtain⟨l,r,pl,hz⟩:=I.list j
  refine SeqAt.notIn_listAt (OS x) pl.isList (λw n=>p6 B z r fs w (by simpa using n)) ⟨.bl _,H,I,rfl,?_⟩;rw[show l.toArray.any (OS x)=l.any (OS x) by simp,rT r fs];exact q
 ·obtain⟨l,r,pl,hz⟩:=I.tuple j
  refine SeqAt.notIn_tupleAt (OS x) pl (λw n=>p6 B z r fs w (by simpa using n)) ⟨.bl _,H,I,rfl,?_⟩;rw[show l.toArray.any (OS x)=l.any (OS x) by simp,rT r fs];exact q
def uK:Fh X (.builtin "len") (λxs H Q=>∃p ys,xs=[.ref p]/\(Fc X.K H p ys\/GN X.K H p ys)/\Q (.int ys.length) H):=by
 intro D3 s FV H xs us Q I r h;obtain⟨p,ys,rfl,l,q⟩:=h;obtain⟨u,rfl,z⟩:=vals1 r;cases z;have D:=rO;rcases l with l|l
 ·obtain⟨B,n,pl,hz⟩:=I.list l
  have j:=n.length;exact Calls.call_len_list pl.isList (by simp only[bb]<;>omega) ⟨.int ys.length,H,I.tok _,⟨s.toks+1,by rw[bb,j]⟩,q⟩
 ·obtain⟨B,n,pl,hz⟩:=I.tuple l
  have j:=n.length;exact len_tuple pl (by simp only[bb]<;>omega) ⟨.int ys.length,H,I.tok _,⟨s.toks+1,by rw[bb,j]⟩,q⟩
def CV:Fh X (.builtin "len") (λxs H Q=>∃z,xs=[.str z]/\z.length<=sizeLine/\Q (.int z.length) H):=by
 intro D3 s FV H xs us Q I r h;obtain⟨z,rfl,hz,q⟩:=h;obtain⟨u,rfl,t,rfl⟩:=vals1 r;have j:=rO;exact len_str (by omega) ⟨.int z.length,H,I.tok _,⟨_,rfl⟩,q⟩
def Fh.or{f:Value}{r l:List V->Hp->VK->Prop}(h:Fh X f r)(h':Fh X f l):Fh X f (λxs H Q=>r xs H Q\/l xs H Q):=by
 intro D3 s FV H xs us Q I j q;rcases q with q|q
 ·exact h D3 s FV H xs us Q I j q
 ·exact h' D3 s FV H xs us Q I j q
def CW:Fh X (.type "list") (λxs H Q=>∃p ys,xs=[.ref p]/\(Fc X.K H p ys\/GN X.K H p ys)/\∀l,H l=none->Q (.ref l) (upd H l (.lst ys))):=by
 intro D3 s FV H xs us Q I r h;obtain⟨p,ys,rfl,G,q⟩:=h;obtain⟨u,rfl,O⟩:=vals1 r;cases O;have D:∀(j:re),Vals ys j->ys.length<=sizeLine->∀(h':Heap) (z:Nat),(∀b o',s.heap.get? b=some o'->h'.get? b=some o')->
   h'.get? s.heap.objs.size=some {cls:=.type "list",dict:=none,data:=.seq j.toArray z,slots:=#[]}->EP X D3 FV Q (.ref s.heap.objs.size) {s with heap:=h'}:=λj B hz h' z F e=>
  ⟨.ref s.heap.objs.size,_,I.laid (t':=s.toks) F (aI _) (show EG X.prog X.w X.K _ h' _ (.lst ys)from⟨hz,j,z,B,e⟩),rfl,q _ (I.EJ.fresh (aI _))⟩
 rcases G with G|G
 ·obtain⟨j,B,pl,hz⟩:=I.list G
  have J:=B.length;obtain⟨o,M,N,n,L⟩:=pl.isList;exact call_list_seq p (.inl rfl) M N L (λh' z F e=>D j B hz h' z F e) (by simp only[bb]<;>omega)
 ·obtain⟨j,B,pl,hz⟩:=I.tuple G
  have J:=B.length;obtain⟨o,M,N,n,L⟩:=pl;exact call_list_seq p (.inr rfl) M N L (λh' z F e=>D j B hz h' z F e) (by simp only[bb]<;>omega)
def uw:Fh X (.type "tuple") (λxs H Q=>∃p ys,xs=[.ref p]/\((Fc X.K H p ys/\∀l,H l=none->Q (.ref l) (upd H l (.tup ys)))\/(GN X.K H p ys/\Q (.ref p) H))):=by
 intro D3 s FV H xs us Q I r h;obtain⟨p,ys,rfl,h⟩:=h;obtain⟨u,rfl,F⟩:=vals1 r;cases F;rcases h with⟨j,q⟩|⟨j,q⟩
 ·obtain⟨n,z,pl,hz⟩:=I.list j
  have D:=z.length;refine call_tuple_list pl.isList (λh' G=>?_) (by simp only[bb]<;>omega);have B:Inv X D3 FV H {s with heap:=h'}:=I.kept (t':=s.toks) G;have J:Inv X D3 FV (upd H h'.objs.size (.tup ys)) {s with heap:=h'.push {cls:=.type "tuple",data:=.seq n.toArray}}:=
   B.laid (t':=s.toks) (λb o e=>ac _ e) (aI _) (show EG X.prog X.w X.K _ _ _ (.tup ys)from⟨hz,n,z,⟨_,ay _ rfl,rfl,0,rfl,rfl⟩⟩)
  exact⟨.ref h'.objs.size,_,J,rfl,q _ (B.EJ.fresh (aI _))⟩
 ·obtain⟨n,z,pl,hz⟩:=I.tuple j
  exact call_tuple_same pl ⟨.ref p,H,I,rfl,q⟩
def tyV(K:W.Frag)(T:String)(x:V)(H:Hp):Prop:=match x with
 |.str _=>T = "str"
 |.int _=>T = "int"
 |.ref p=>(T = "list" /\ ∃xs,Fc K H p xs)\/(T = "tuple" /\ ∃o,K.lookup p=some o/\o.cls=.type "tuple" /\ o.dict=none) \/
   (T = "dict" /\ ((∃kvs,H p=some (.dK kvs))\/∃kvs,H p=some (.dT kvs)))\/(T = "set" /\ ∃S n,H p=some (.set S n))
 |_=>False
def Tv{D3:qS}{FV:St}{H:Hp}{s:Shared}{T:String}{x:V}{v:Value}(I:Inv X D3 FV H s)(r:RelV x v)(ty:tyV X.K T x H):
  s.TypeIs v T/\∀a,v=.ref a->∃q,s.heap.get? a=some q/\q.dict=none:=by
 cases x with
 |str z=>
  obtain⟨t,rfl⟩:=r;cases(show T = "str" from ty);exact⟨typeIs_str s z t,λ_ e=>nomatch e⟩
 |int i=>
  obtain⟨t,rfl⟩:=r;cases(show T = "int" from ty);exact⟨pc s i t,λ_ e=>nomatch e⟩
 |ref p=>
  cases r;rcases ty with⟨rfl,xs,B⟩|⟨rfl,o,j,hc,l⟩|⟨rfl,j⟩|⟨rfl,S,n,j⟩
  ·obtain⟨D,_,pl,_⟩:=I.list B
   refine⟨pl.isList.typeIs,λa e=>?_⟩;cases e;obtain⟨o,n,e,c,l,_⟩:=pl;exact⟨o,e,l⟩
  ·refine⟨⟨o,I.GL p o j,hc⟩,λa e=>?_⟩
   cases e;exact⟨o,I.GL _ o j,l⟩
  ·have z:∃o,s.heap.get? p=some o/\o.ExactDict:=by
    rcases j with⟨kvs,j⟩|⟨kvs,j⟩
    ·obtain⟨_,_,_,_,o,_,_,e,ex,_⟩:=I.EJ p _ j
     exact⟨o,e,ex⟩
    ·obtain⟨_,_,_,_,o,_,_,e,ex,_⟩:=I.EJ p _ j
     exact⟨o,e,ex⟩
   obtain⟨o,e,ex⟩:=z;refine⟨⟨o,e,ex.1⟩,λa e2=>?_⟩;cases e2;exact⟨o,e,ex.2.1⟩
  ·obtain⟨o,_,_,_,e,ex,_⟩:=I.EJ p _ j
   refine⟨⟨o,e,ex.1⟩,λa e2=>?_⟩;cases e2;exact⟨o,e,ex.2.1⟩
 |_=>exact False.elim ty
def Zk(K:W.Frag)(T:String)(r:V->List V->Hp->VK->Prop)(to:TE)(t:TA):TE:=fun FV H Q=>to FV H λx H1=>tyV K T x H1/\t FV H1 λxs H2=>r x xs H2 Q
variable {o e:Expr}{es:rh}{to:TE}{t:TA}{name:Str}{apos EN:Pos}{T id:String}{r:V->List V->Hp->VK->Prop}
def Br(pa:PlainAttrs T)(j:Slot T name id)(M:typeOf (.builtin id)=pure (.type "method_descriptor"))(Z:MtR X id r)(N:PE X o to)(F:PA X (e::es) t)
  (U:autoParam (SY X o name) r0_)
  (Y:autoParam (Zb X EN (e::es)) r0_)
  (J:autoParam ((apos.endLine == EN.line)=true) r0_) (L:autoParam (HK X e es) r0_) (B:autoParam (Lo X EN es) r0_):
  PE X (.Call (.Attribute o name apos) (e::es) [] EN) (Zk X.K T r to t):=by
 intro D3 s FV H Q I h;refine wpAny_Call_method_late U Y J rfl (EO (N D3 s FV H _ I h) ?_);rintro v D ⟨x,H1,l,q,ty,q1⟩;obtain⟨h1,h2⟩:=Tv l q ty;refine⟨T,id,pa,j,M,h1,h2,?_⟩;have n:=F EN D3 D FV H1 _ l q1;rw[L]at n ⊢;refine Calls.callWith_builtin (by show(false||(backTo EN (starEach es X.env)).any (·.1))=false;rw[B]<;>rfl) (Calls.evalArgs_plain ?_);exact EO n λus z ⟨vs,H2,I2,G,O⟩=>Z D3 z FV H2 x vs v us Q I2 q G O
end
def MtM(X:Cx)(id:String)(r:V->List V->Hp->VK->Prop):Prop:=
 ∀(D3:qS) (s:Shared) (FV:St) (H:Hp) (x:V) (xs:sC) (v:Value) (us:re) (Q:VK),Inv X D3 FV H s->RelV x v->Vals xs us->r x xs H Q->
  wpAny (model X.prog X.w) X.A (call (.builtin id) (v::us)) (EP X D3 FV Q) X.xe s
def Vals.one{x:V}{us:re}(h:Vals [x] us):∃u,us=[u]/\RelV x u:=by
 cases h with
 |cons r t=>cases t;exact⟨_,rfl,r⟩
def Vals.reverse{xs:sC}{us:re}(h:Vals xs us):Vals xs.reverse us.reverse:=by
 induction h with
 |nil=>exact .nil
 |cons r t j=>rw[kL,kL];exact Vals.append j (.cons r .nil)
section
variable {X:Cx}{D3:qS}{FV:St}{H:Hp}{s:Shared}{l b:Addr}{xs ys zs:sC}
def Inv.lset{j its':re}{n:Nat}{f:Array Value->Array Value}{t':Nat}(I:Inv X D3 FV H s)(z:H l=some (.lst xs))
  (e:s.heap.get? l=some {cls:=.type "list",data:=.seq j.toArray n}) (G:f j.toArray=its'.toArray) (F:Vals ys its') (hz:ys.length<=sizeLine):
  Inv X D3 FV (upd H l (.lst ys)) {s with heap:=s.heap.update l (Obj.mapSeq f),toks:=t'}:=by
 have q:=PySem.IsL.update e f;rw[G]at q;refine I.write (x:=l) (e:=l) (by rw[z];exact trivial) (.inl rfl) (λJ u D B=>(ff s.heap (Obj.mapSeq f) (gc D)).trans B) ⟨_,q⟩ ?_;exact⟨hz,its',_,F,q⟩
def Inv.lnew{j:re}{t':Nat}(I:Inv X D3 FV H s)(n:Vals ys j)(hz:ys.length<=sizeLine):
  Inv X D3 FV (upd H s.heap.objs.size (.lst ys)) {s with heap:=s.heap.push {cls:=.type "list",data:=.seq j.toArray},toks:=t'}:=
 I.laid (λ_ _ q=>ac _ q) (aI _) ⟨hz,j,0,n,ay _ rfl⟩
def Inv.fresh(I:Inv X D3 FV H s):H s.heap.objs.size=none:=I.EJ.fresh (aI _)
def Inv.TK(I:Inv X D3 FV H s)(q:H l=some (.lst xs)):xs.length<=sizeLine/\∃(j:re) (n:Nat),Vals xs j/\xs.length=j.length/\s.heap.get? l=some {cls:=.type "list",data:=.seq j.toArray n}:=by
 obtain⟨z,j,n,r,e⟩:=I.EJ l _ q;exact⟨z,j,n,r,r.length,e⟩
def M9{n:Nat}(h:n<=sizeLine):Builtin.List.listTooLong n=false:=by
 unfold Builtin.List.listTooLong;exact cK (by omega)
end
section
variable {X:Cx}
def vC:V->List V->Hp->VK->Prop:=λx vs H Q=>∃l xs y,x=.ref l/\vs=[y]/\H l=some (.lst xs)/\xs.length<sizeLine/\Q .Ee (upd H l (.lst (xs++[y])))
def oF:MtM X "list.append" vC:=by
 intro D3 s FV H x vs v us Q I D G h;obtain⟨l,xs,y,rfl,rfl,j,hz,q⟩:=h;cases D;obtain⟨u,rfl,J⟩:=G.one;obtain⟨z,B,n,r,L,e⟩:=I.TK j;refine k7 F.slot_list_append ⟨_,e,rfl⟩ F.entry_list_append (F.args_list_append_2 _ _) (PySem.list_append l B.toArray n u (by rw[bb];omega)) ⟨e,?_⟩;refine⟨.Ee,_,I.lset (its':=B++[u]) j e (by simp) (r.append (.cons J .nil)) ?_,rfl,q⟩;rw[cb,gp];omega
def QV:V->List V->Hp->VK->Prop:=λx vs H Q=>∃l b xs zs,x=.ref l/\vs=[.ref b]/\H l=some (.lst xs)/\H b=some (.lst zs)/\xs.length+zs.length<=sizeLine/\Q .Ee (upd H l (.lst (xs++zs)))
def Ke:MtM X "list.extend" QV:=by
 intro D3 s FV H x vs v us Q I O J h;obtain⟨l,b,xs,zs,rfl,rfl,G,N,hz,q⟩:=h;cases O;obtain⟨u,rfl,L⟩:=J.one;cases L;obtain⟨z,B,n,r,Y,e⟩:=I.TK G;obtain⟨z2,D,M,U,Z,e2⟩:=I.TK N;have hsz:B.toArray.size+D.toArray.size<=sizeLine:=by rw[bb,bb];omega
 have j:¬ (!B.toArray.isEmpty&&Builtin.List.listTooLong (B.toArray.size+D.toArray.size))=true:=by
  rw[M9 hsz,Bool.and_false];exact bq
 refine k7 F.slot_list_extend ⟨_,e,rfl⟩ F.entry_list_extend (F.args_list_extend_2 _ _)
  (AutoSeq1.list_extend_list_list_0 l B.toArray n b D.toArray M j (by rw[bb];omega) (by omega)) ⟨e,e2,?_⟩
 refine⟨.Ee,_,I.lset (its':=B++D) G e (by simp) (r.append U) ?_,rfl,q⟩;rw[cb];omega
def M_:R2:=λx y H Q=>∃l b xs zs,x=.ref l/\y=.ref b/\H l=some (.lst xs)/\H b=some (.lst zs)/\xs.length+zs.length<=sizeLine/\∀p,H p=none->Q (.ref p) (upd H p (.lst (xs++zs)))
def Kf:GW X (binaryOp .Add) M_:=by
 intro D3 s FV H x y v u Q I D F h;obtain⟨l,b,xs,zs,rfl,rfl,M,L,hz,q⟩:=h;cases D;cases F;obtain⟨z,B,n,r,O,e⟩:=I.TK M;obtain⟨U,j,N,G,Y,e2⟩:=I.TK L;refine PySem.P.add_list e e2 ?_ (by rw[bb,bb];omega);have J:B.toArray++j.toArray=(B++j).toArray:=by simp
 rw[J];exact⟨.ref _,_,I.lnew (t':=s.toks) (r.append G) (by rw[cb];omega),rfl,q _ I.fresh⟩
end
end Lake.L2
namespace Lake.Att
open PySem PySem.W PySem.Calls PyProof.Rows
def xT{P:Params}{h:Heap}:∀(j:rL) (vs:re),WellAll P h vs (j.map WData.int)->IntsAre vs j:=by
 intro j;induction j with
 |nil=>
  intro vs w;rw[fe]at w;cases w;exact .nil
 |cons n j q=>
  intro vs w;rw[be]at w;cases w with
  |cons a b=>
   cases a;exact .cons _ _ (q _ b)
def Kg{l:OpenLaw}{n:Nat}(M:l.most=some n){P:Params}{h:Heap}{args:List WData}{z:re}
  (J:l.row.toRowW.claim.pre args=true) (Y:WellAll P h z args):
  ∃a vs j,z=[Value.ref a]/\args=[WData.list (j.map WData.int)]/\h.get? a=some {cls:=.type "list",data:=.seq vs.toArray}/\IntsAre vs j/\j.length<=n:=by
 have G:WShape.hasAll [] args [.list .int]=true:=(pre_splitW J).1;have I:l.pre.holds [] {args:=args}=true:=(pre_splitW J).2;obtain⟨d,r,rfl,h1,h2⟩:=hasAllW_cons G;obtain rfl:=hasAllW_nil h2;obtain⟨xs,rfl,O⟩:=hasW_list h1;obtain⟨j,rfl⟩:=items_int O;have B:j.length<=n:=by
  unfold OpenLaw.pre at I;have F:(WTm.not (.lt (.lit (.int (n:Int))) (.len (.arg 0)))).holds [] {args:=[.list (j.map .int)]}=true:=by
   have F:=(holds_andW I).1;rw[M]at F;exact F
  have D:=condW_of F (w_not (w_lt w_lit (w_len_list (w_arg rfl))));rw[ar]at D;refine Nat.le_of_not_lt λq=>?_;have U:(n:Int)<((j.length:Nat):Int):=by omega
  first
   |(rw[eP U]at D;exact absurd D (by decide))
   |(simp at D;omega)
 cases Y with
 |cons Z N=>
  cases N;cases Z with
  |list ho L=>exact⟨_,_,j,rfl,rfl,ho,xT j _ L,B⟩
def Kh(l:OpenLaw)(args:List WData):l.row.toRowW.claim.post args (.bool true) args=true:=
 postW_of (r:=l.row.toRowW) (X:=(true == true))
  (show WShape.has [] (.bool true) .bool=true by first|rfl|decide|simp[WShape.has,WShape.arms,WShape.armsAll])
  (show(WTm.eq .res (.lit (.bool true))).value [] {args:=args,res:=some (.bool true),after:=args}=some (.bool (true == true))from w_eq_bool (w_res rfl) w_lit) rfl
def NU{l:OpenLaw}{n:Nat}{q:Program}{j:rj}{XP:(Str->Option Value)->Heap->Prop}{YP:World->Heap->Prop}{d:DefRec}
  (hn:l.most=some n) (O:d.params.defaults=[])
  (call:∀(w:World) (s₀ z:Shared) (L U:rX) (F:Addr) (o:Obj) (pm J B:Value) (a:Addr) (vs:re) (M:rL),
   Ground q j [] XP w s₀ L U z.heap->YP w z.heap->
   z.heap.get? F=some o->o.data=.func (docDef d.name d.params d.body d.scope pm J B)->z.heap.CodeRec J d.name->L d.name=some (.ref F)->
   z.heap.get? a=some {cls:=.type "list",data:=.seq vs.toArray}->IntsAre vs M->M.length<=n->z.gens=#[]->
   codeAny (model l.prog w) callerA (.call (.ref F) ⟨[.ref a],[]⟩) (λr s'=>r=.ok (.ret (.bool true))/\OldK z.heap s'.heap/\s'.os=z.os/\AllBare s'.gens) z):
  WalkO q j XP YP l.row.toRowW d [] (λf vs=>PySem.call f vs):=by
 intro w s₀ z L U G Y F o pm J B dV kV ho hd Kx hD N hg args Z as YG hlay hrd KO Zl;obtain rfl:dV=.none:=Dflts.none hD O;obtain rfl:kV=.none:=Dflts.noKw hD;obtain⟨a,vs,M,rfl,rfl,Z1,D,I⟩:=Kg hn YG KO;refine enter_call (l6 (call w s₀ z L U F o pm J B a vs M G Y ho (fd_plain hd) Kx N Z1 D I hg) λr s' hq=>?_);obtain⟨rfl,h2,h3,h4⟩:=hq;exact⟨.inl ⟨.bool true,.bool true,[],rfl,λ_=>rfl,.bool true,Kh l _,λ_=>⟨List.Pairwise.nil,λ_ hm=>(nomatch hm)⟩⟩,h2,h3,h4⟩
end Lake.Att
namespace Lake.L2
open PySem PySem.Spec PyProof.Rows
theorem Aj:∀{vs:re}{ns:rL},IntsAre vs ns->Vals (ns.map V.int) vs
 |_,_,.nil=>.nil
 |_,_,.cons n t h=>.cons ⟨t,rfl⟩ (Aj h)
def YH(H:Hp):Prop:=∀b,H b=none\/∃o xs,H b=some (.frz o (.lst xs))
variable {K:W.Frag}{fd:FuncData}
def Nb{P:Program}{w:World}{M mb:rX}{CX:Ta}{k:Nat}{fa a:Addr}{x:Str}{sp:Sp}{j:Shared}{vs:re}{Z:rL}
  (KX:K.In j.heap) (U:j.heap.Ns mainGlobals M) (B:j.heap.Ns builtinsNs mb) (hbb:∀x:Str,x ≠ "__name__" -> mb x=bootBuiltins x) (hlim:j.heap.NoLimit) (hg:j.gens=#[])
  (ha:j.heap.get? a=some {cls:=.type "list",data:=.seq vs.toArray}) (hi:IntsAre vs Z) (hl:Z.length<=sizeLine) (hr:EU k callerA)
  (F:∀D:Heap,K.In D->D.Ns mainGlobals M->FA P w K M D CX k fa fd [x] sp) (J:∀(s:Shared) (u:Value),BindsTo s fd ⟨[u],[]⟩ [(x,u)])
  (Zg:∀H:Hp,YH H->Fc K H a (Z.map V.int)->sp [.ref a] H (λv _=>v=.bl true) λ_ _ _=>False)
  (hCX:∀H e s',CX [] H j (λ_ _ _=>False) e s'->False):
  codeAny (model P w) callerA (.call (.ref fa) ⟨[.ref a],[]⟩) (λr s'=>r=.ok (.ret (.bool true))/\OldK j.heap s'.heap/\s'.os=j.os/\AllBare s'.gens) j:=by
 have rv:=Aj hi;have FK:=hi.length;have I:∀H:Hp,YH H->Fc K H a (Z.map V.int)->IA P w K H j.heap->(∀b,H b≠none->b=a)->(H a≠none->K.lookup a=none)->
   codeAny (model P w) callerA (.call (.ref fa) ⟨[.ref a],[]⟩) (λr s'=>r=.ok (.ret (.bool true))/\OldK j.heap s'.heap/\s'.os=j.os/\AllBare s'.gens) j:=by
  intro H hO hS EJ hA hK;have PD:∀{b:Addr}{o:Obj},j.heap.get? b=some o->H b=none->(sI j.heap H).get? b=some o:=λe n=>Ms e n;have noA:∀{b:Addr}{o:Obj}{es:Array DictEntry}{ep:Nat},j.heap.get? b=some o->o.data=.dict es ep->H b=none:=λ{b o es ep} e d=>by
   cases q:H b with
   |none=>rfl
   |some u=>
    have e':b=a:=hA b (by rw[q];simp);subst e';rw[ha]at e;cases e;have d':Data.seq vs.toArray _=Data.dict es ep:=d;cases d'
  have G:∀{b:Addr}{m:rX},j.heap.Ns b m->(sI j.heap H).Ns b m:=λ{b m} ⟨o,es,ep,e,d,r⟩=>⟨o,es,ep,PD e (noA e d),d,r⟩;have O:K.In (sI j.heap H):=λb o e=>PD (KX b o e) (by
   cases q:H b with
   |none=>rfl
   |some u=>
    have e':b=a:=hA b (by rw[q];simp);subst e';rw[hK (by rw[q];simp)]at e;cases e)
  have hM:Mod K M (sI j.heap H):=⟨O,G U,⟨mb,G B,hbb⟩,let ⟨mc,h1,h2⟩:=hlim;⟨mc,G h1,h2⟩⟩;have e0:OR P w K M (sI j.heap H) callerA [] j H:=⟨rfl,hM,λb o e=>Qw e,Nat.le_of_eq (JM _ _),trivial,λb B=>absurd (show b∈([]:rS)from B) (by simp),EJ,.of_eq hg⟩;refine l6 ((F _ O (G U)).run callerA [] j H ⟨[.ref a],[]⟩ [.ref a] [.ref a] _ _ hr e0 (J j (.ref a)) (.cons rfl .nil) (Zg H hO hS)) λr s' h=>?_;cases r with
  |error e=>exact(hCX H e s' h).elim
  |ok fl=>
   cases fl with
   |next=>exact False.elim h
   |brk=>exact False.elim h
   |cont=>exact False.elim h
   |ret u=>
    obtain⟨v,H',os,Y,un,L,r',q⟩:=h;have q':v=.bl true:=q;subst q';obtain rfl:u=Value.bool true:=r';refine⟨rfl,OldK.of_keep λb o e=>?_,os,Y⟩;cases q:H b with
    |none=>exact un.keep b o e q (by intro z;exact absurd (show b∈([]:rS)from z) (by simp)) (by simp)
    |some u=>
     rcases hO b with z|⟨ob,xs,z⟩
     ·rw[q]at z;cases z
     ·have z2:=un.MU b ob _ z
      obtain⟨e1,_⟩:=EJ b _ z;obtain⟨e2,_⟩:=L b _ z2;rw[e]at e1;cases e1;exact e2
 cases hk:K.lookup a with
 |some o=>
  have e:=KX a o hk;rw[ha]at e;cases e;refine I (λ_=>none) (λ_=>.inl rfl) (.inr ⟨_,vs.toArray,_,hk,rfl,rfl,rfl,by rw[bb,FK];exact hl,by simpa using rv⟩) (λb u z=>by have N:(none:Option HO)=some u:=z;cases N) (λb z=>absurd rfl z) λz=>absurd rfl z
 |none=>
  refine I (λb=>if b=a then some (.frz {cls:=.type "list",data:=.seq vs.toArray} (.lst (Z.map V.int)))else none) (λb=>?_) (.inl (.inr ⟨{cls:=.type "list",data:=.seq vs.toArray},bS rfl⟩)) (λb u z=>?_) (λb z=>?_) λ_=>hk
  ·by_cases B:b=a
   ·exact .inr ⟨_,_,bS B⟩
   ·exact .inl (br B)
  ·by_cases B:b=a
   ·have N:=(bS B).symm.trans z
    cases N;subst B;exact⟨ha,by rw[ar];exact hl,vs,_,rv,ha⟩
   ·have N:=(br B).symm.trans z
    cases N
  ·by_cases B:b=a
   ·exact B
   ·exact absurd (br B) z
def YI{l:W.OpenLaw}{n k:Nat}{q:Program}{B:rj}{XP:(Str->Option Value)->Heap->Prop}{YP:World->Heap->Prop}{d:DefRec}{K:Params->W.Frag}{CX:World->Ta}{sp:World->Sp}{x:Str}
  (hn:l.most=some n) (N:n<=sizeLine) (O:d.params.defaults=[]) (hr:EU k callerA)
  (hY:∀(w:World) (h:Heap),YP w h->(K w.params).In h)
  (F:∀(w:World) (I:rX) (J:Addr) (h:Heap),(K w.params).In h->h.Ns mainGlobals I->I d.name=some (.ref J)->
   ∃fd:FuncData,(∀(s:Shared) (u:Value),BindsTo s fd ⟨[u],[]⟩ [(x,u)]) /\
    ∀j:Heap,(K w.params).In j->j.Ns mainGlobals I->FA l.prog w (K w.params) I j (CX w) k J fd [x] (sp w))
  (Zg:∀(w:World) (H:Hp) (a:Addr) (L:rL),L.length<=n->YH H->Fc (K w.params) H a (L.map V.int)->sp w [.ref a] H (λv _=>v=.bl true) λ_ _ _=>False)
  (U:∀(w:World) (H:Hp) (s:Shared) (e:Value) (s':Shared),CX w [] H s (λ_ _ _=>False) e s'->False):
  W.WalkO q B XP YP l.row.toRowW d [] (λf vs=>PySem.call f vs):=by
 refine Att.NU hn O λw s₀ GH I mb J o pm cd doc a vs L G Y ho hd Kx M Z1 D z hg=>?_;have Z:=hY w _ Y;obtain⟨fd,hb,hF⟩:=F w I J _ Z G.T.g M;exact Nb Z G.T.g G.T.b G.T.builtins G.T.nolimit hg Z1 D (dE z N) hr hF hb (λH hO hS=>Zg w H a L z hO hS) λH e s'=>U w H GH e s'
noncomputable def inClass(s:Stmt)(j:Nat):Stmt:=match s with
 |.ClassDef _ _ _ body _ _ _ _ _ _ _=>body.getD j (.Pass ⟨0,0,0,0⟩)
 |_=>.Pass ⟨0,0,0,0⟩
def iG(s:Stmt):Arguments:=match s with
 |.FunctionDef _ a _ _ _ _ _ _ _ _=>a
 |_=>{posonlyargs:=[],args:=[],vararg:=none,kwonlyargs:=[],kw_defaults:=[],kwarg:=none,defaults:=[]}
noncomputable def fZ(s:Stmt):List Stmt:=match s with
 |.FunctionDef _ _ b _ _ _ _ _ _ _=>b
 |_=>[]
def az(s:Stmt):Scope:=match s with
 |.FunctionDef _ _ _ _ _ _ sc _ _ _=>sc
 |_=>{kind:=.function,names:=[],isGenerator:=false,isCoroutine:=false}
abbrev Lu:Ta:=λ_ _ _ _ _ _=>False
abbrev E0:XK:=λ_ _ _=>False
def xU{X:Cx}:rQ Lu X E0:=λ_ _ _ _ _ _ _ h=>h.elim
structure IS(K:W.Frag)(x qual:Str)(st:Stmt)(f:Addr)(fd:FuncData):Prop where
 ex:∃(oc:Value) (od:Option Addr) (kV doc pm:Value) (an:Option Addr) (HV ct:Value) (Zf:Array (Option Value)),
  fd=W.fnOf x qual (iG st) (fZ st) (az st) .none kV doc pm an HV ct/\K.lookup f=some ⟨oc,od,.func fd,Zf⟩/\W.codeIn K HV qual=true
 kp:W.keepIn K (.ref f)=true
section
variable {P:Program}{w:World}{K:W.Frag}{mg:rX}{base:Heap}
def IS.ok{x n:Str}{st:Stmt}{f:Addr}{N ps:rj}{k:Nat}{sp:Sp}(F:IS K x n st f fd)(S:D6 N ps (az st))(len:∀vs H Q E,sp vs H Q E->vs.length=ps.length)
  (L:∀(z:Value) (A:Around) (j:List Env) (s:Shared) (H:Hp) (vs:sC) (Q:VK) (E:XK),EU k (A.deeper (envOfC n (az st) s.heap.objs.size f z))->sp vs H Q E->
   ∃t,L5 (wC Lu P w K mg base N n (az st) f z A j s H E).Qr (fZ st) t/\t {nx:=λ_ H'=>Q .Ee H',rt:=Q} (start N vs) H):FA P w K mg base Lu (k+1) f fd ps sp:=by
 obtain⟨Y,M,kV,B,pm,O,z,ct,U,rfl,D,I⟩:=F.ex;refine Wl D I S len λA j s H vs Q E G J=>?_;obtain⟨t,h,q⟩:=L z A j s H vs Q E G J;exact⟨t,h.Qr,q⟩
def IS.binds{x j:Str}{st:Stmt}{f:Addr}{ps:rj}(F:IS K x j st f fd)
  (h:∀(kV n pm:Value) (z:Option Addr) (q ct:Value) (us:re),us.length=ps.length->bindArgs (W.fnOf x j (iG st) (fZ st) (az st) .none kV n pm z q ct) ⟨us,[]⟩=pure (ps.zip us)):Binds K fd ps []:=by
 obtain⟨I,J,kV,n,pm,z,q,ct,D,rfl,G,B⟩:=F.ex;exact .all (h kV n pm z q ct)
def TM{x j:Str}{st:Stmt}{f:Addr}{B:Value}{F z:Option Addr}{D:Array (Option Value)}{kV n pm q ct:Value}(l:K.lookup f=some ⟨B,F,.func (W.fnOf x j (iG st) (fZ st) (az st) .none kV n pm z q ct),D⟩)
  (c:W.codeIn K q j=true) (k:W.keepIn K (.ref f)=true):IS K x j st f (W.fnOf x j (iG st) (fZ st) (az st) .none kV n pm z q ct):=⟨⟨B,F,kV,n,pm,z,q,ct,D,rfl,l,c⟩,k⟩
end
def fP{A:Around}{k:Nat}(j:EU k A):A.units+9<cLine:=ii (p9 (by decide:9<=64) _) j.units
section
variable {X:Cx}
def r5_q(j:True:=by first|exact fb rfl|exact fg (fb rfl)|exact fg (fg rfl)):True:=trivial
def r5_:Lean.Syntax:=r5_q._auto_1
def pv(i:Nat){x:Str}{pos:Pos}(j:autoParam (X.N[i]?=some x) r0_)(q:autoParam (S0 X.env.scope x) r5_)(z:autoParam (Kt x) r1_)
  (n:autoParam (XZ x) r1_):PE X (.Name x pos) (EC i):=k_ j q z n
end
def mJ{A B:Prop}(h:B):if false=true then A else B:=by
 rw[br bq];exact h
def jH{A B:Prop}(h:A):if true=true then A else B:=by
 rw[bS rfl];exact h
def D8(H H':Hp):Prop:=∀b o,H b=some o->H' b=some o
def D8.refl(H:Hp):D8 H H:=λ_ _ h=>h
def D8.trans{H H1 H2:Hp}(a:D8 H H1)(b:D8 H1 H2):D8 H H2:=λc o h=>b c o (a c o h)
def D8.free{H H':Hp}(e:D8 H H'){l:Addr}(h:H' l=Option.none):H l=Option.none:=by
 cases q:H l with
 |none=>rfl
 |some o=>
  rw[e l o q]at h;cases h
section
variable {X:Cx}
def Kl:Fh X (.builtin "len") (λxs H Q=>∃a kvs,xs=[V.ref a]/\H a=some (.dK kvs)/\Q (.int kvs.length) H):=by
 intro D3 s FV H xs us Q I r h;obtain⟨a,kvs,rfl,j,q⟩:=h;obtain⟨u,rfl,n⟩:=vals1 r;cases n;exact Wm I (.inl j) λt s' z=>⟨.int kvs.length,H,z,⟨t,rfl⟩,q⟩
end
def wH{n j:Type}{l:List n}{f:n->j->Sem (ForInStep j)}(g:n->j->j):∀(c:j),(∀x∈l,∀c,f x c=pure (.yield (g x c)))->
  forIn l c f=pure (l.foldl (λc x=>g x c) c):=by
 induction l with
 |nil=>intro c _;rfl
 |cons x l z=>
  intro c h;rw[ly,h x av,pure_bind];exact z _ λy q=>h y (ap _ q)
noncomputable def jc(env:Env)(x:Str×NameKind)(c:List (Str×Addr)):List (Str×Addr):=if x.2=.free then(x.1,(env.cells.lookup x.1).getD 0)::c else c
noncomputable def uL(env:Env)(names:List (Str×NameKind)):List (Str×Addr):=names.foldl (λc x=>jc env x c) []
variable {scope:Scope}
def Be{env:Env}(h:∀x∈scope.names,x.2=.free->∃c,env.cells.lookup x.1=some c):closureFor scope env=pure (uL env scope.names):=by
 simp only[closureFor];rw[wH (jc env) [] (λx z c=>by
  obtain⟨n,j⟩:=x;by_cases e:j=.free
  ·subst e
   obtain⟨a,B⟩:=h _ z rfl;have q:env.cells.lookup n=some a:=B;simp[jc,cellOf,q]
  ·have:(j == NameKind.free)=false:=by simpa using e
   simp[jc,e,this])]
 rfl
theorem xV{env:Env}:∀(l:List (Str×NameKind)) (cs:List (Str×Addr)),(∀x∈l,x.2=.free->∃c,env.cells.lookup x.1=some c)->(∀y c,cs.lookup y=some c->env.cells.lookup y=some c)->
  ∀y c,(l.foldl (λc x=>jc env x c) cs).lookup y=some c->env.cells.lookup y=some c
 |[],cs,_,h2,y,c,e=>h2 y c e
 |x::r,cs,h1,h2,y,c,e=>by
  refine xV r (jc env x cs) (λz hz=>h1 z (ap _ hz)) (λz d q=>?_) y c e;unfold jc at q;by_cases k:x.2=.free
  ·rw[bS k]at q
   obtain⟨a,j⟩:=h1 x av k;rw[cp]at q;cases hb:z == x.1 with
   |true=>
    rw[hb]at q;have B:z=x.1:=by simpa using hb
    rw[j]at q;have n:a=d:=by simpa using q
    rw[B,j,n]
   |false=>
    rw[hb]at q;exact h2 z d q
  ·rw[br k]at q
   exact h2 z d q
variable {names:List (Str×NameKind)}
def oG{env:Env}(h:∀x∈names,x.2=.free->∃c,env.cells.lookup x.1=some c){y:Str}{c:Addr}(e:(uL env names).lookup y=some c):env.cells.lookup y=some c:=
 xV names [] h (λy c q=>by simp at q) y c e
theorem xW{env:Env}{y:Str}:∀(l:List (Str×NameKind)) (cs:List (Str×Addr)),((y,.free)∈l\/∃c,cs.lookup y=some c)->∃c,(l.foldl (λc x=>jc env x c) cs).lookup y=some c
 |[],cs,h=>by
  rcases h with h|h
  ·simp at h
  ·exact h
 |x::r,cs,h=>by
  refine xW r (jc env x cs) ?_;rcases h with h|⟨c,h⟩
  ·rcases bi.mp h with e|e
   ·refine .inr ⟨(env.cells.lookup y).getD 0,?_⟩
    rw[←e];simp[jc]
   ·exact .inl e
  ·refine .inr ?_
   unfold jc;split
   ·rw[cp]
    split
    ·exact⟨_,rfl⟩
    ·exact⟨c,h⟩
   ·exact⟨c,h⟩
def Km{env:Env}{y:Str}(h:(y,.free)∈names):∃c,(uL env names).lookup y=some c:=xW names [] (.inl h)
theorem mem_of_lookup{x:Str}{k:NameKind}:∀{l:List (Str×NameKind)},l.lookup x=some k->(x,k)∈l
 |[],h=>by simp at h
 |(n,j)::r,h=>by
  rw[cp]at h;cases hb:x == n with
  |true=>
   rw[hb]at h;have e:x=n:=by simpa using hb
   have e2:j=k:=by simpa using h
   rw[e,e2];exact av
  |false=>
   rw[hb]at h;exact ap _ (mem_of_lookup h)
theorem uM{env:Env}:∀{names:List (Str×NameKind)}{x:Str},names.lookup x=some .free->
  (names.map λ(n,k)=>if(k == NameKind.free&&env.scope.kind == .function&&env.kindOf n == some .cell)then(n,NameKind.cell)else(n,k)).lookup x=some .cell \/
  (names.map λ(n,k)=>if(k == NameKind.free&&env.scope.kind == .function&&env.kindOf n == some .cell)then(n,NameKind.cell)else(n,k)).lookup x=some .free
 |[],_,h=>by simp at h
 |(n,k)::r,x,h=>by
  have j:=@uM env r x;cases hx:x == n with
  |true=>
   simp only[cp,hx]at h;cases h;by_cases hc:(NameKind.free == NameKind.free&&env.scope.kind == .function&&env.kindOf n == some .cell)=true
   ·refine .inl ?_
    simp only[be,bS hc,cp,hx]
   ·refine .inr ?_
    simp only[be,br hc,cp,hx]
  |false=>
   simp only[cp,hx]at h;have j:=j h;by_cases hc:(k == NameKind.free&&env.scope.kind == .function&&env.kindOf n == some .cell)=true
   ·simp only[be,bS hc,cp,hx]
    exact j
   ·simp only[be,br hc,cp,hx]
    exact j
theorem sV{env:Env}:∀{names:List (Str×NameKind)}{x:Str}{j:NameKind},(j=.cell\/j=.free)->
  (names.map λ(n,k)=>if(k == NameKind.free&&env.scope.kind == .function&&env.kindOf n == some .cell)then(n,NameKind.cell)else(n,k)).lookup x=some j->(x,.free)∈names\/(x,.cell)∈names
 |[],_,_,_,h=>by simp at h
 |(n,k)::r,x,j,hj,h=>by
  have B:=@sV env r x j hj;cases hx:x == n with
  |true=>
   have e:x=n:=by simpa using hx
   subst e;by_cases hc:(k == NameKind.free&&env.scope.kind == .function&&env.kindOf x == some .cell)=true
   ·have q:k=.free:=by
     simp only[cE,iS]at hc;exact hc.1.1
    subst q;exact .inl av
   ·simp only[be,br hc,cp,hx]at h
    have q:k=j:=by simpa using h
    rcases hj with z|z
    ·rw[q,z]
     exact .inr av
    ·rw[q,z]
     exact .inl av
  |false=>
   by_cases hc:(k == NameKind.free&&env.scope.kind == .function&&env.kindOf n == some .cell)=true
   ·simp only[be,bS hc,cp,hx]at h
    exact(B h).imp (ap _) (ap _)
   ·simp only[be,br hc,cp,hx]at h
    exact(B h).imp (ap _) (ap _)
noncomputable def Zm:Option Str->Addr->List (Str×Addr)
 |some z,c=>[(z,c)]
 |none,_=>[]
noncomputable def sW:Option Str->Heap->Heap
 |some _,h=>h.push {cls:=.type "cell",data:=.cell none}
 |none,h=>h
abbrev Cx.FX(X:Cx)(z:Option Str)(N:rj)(scope:Scope)(C:Addr)(s:Shared)(H:Hp)(fp:rS):Cx where
 prog:=X.prog
 w:=X.w
 K:=X.K
 mg:=X.mg
 base:=X.base
 A:=X.A
 N:=N
 s₀:=s
 H₀:=H
 env:=compEnvC scope (Zm z (C+1)++uL X.env scope.names) C X.env
 outer:=X.stack
 stack:=X.stack
 ex:=fp
 fn:=match z with
  |some z=>λx=>x == z
  |none=>λ_=>false
 calm:=X.calm
 pn:=[]
 xe:=λ_ _=>False
abbrev Cx.comp(X:Cx)(N:rj)(scope:Scope)(C:Addr)(s:Shared)(H:Hp)(fp:rS):Cx:=X.FX none N scope C s H fp
noncomputable def xX(scope:Scope)(ON N:rj)(ED:List (Option Nat)):Bool:=
 ED.length == N.length&&(List.range N.length).all λj=>match ED[j]? with
  |some (some i)=>(match N[j]?,ON[i]? with
   |some x,some y=>x == y&&(scope.names.lookup x == some NameKind.free)
   |_,_=>false)
  |_=>true
structure Zn(FH scope:Scope)(ON N:rj)(ED:List (Option Nat)):Prop where
 kind:scope.kind=.function
 noc:∀y∈scope.names,y.2≠.cell
 loc:∀y∈scope.names,y.2=.local->scope.names.lookup y.1=some .local
 fr:∀y∈scope.names,y.2=.free->FH.names.lookup y.1=some .cell\/FH.names.lookup y.1=some .free
 ED:xX scope ON N ED=true
structure MY(FH scope:Scope)(z:Option Str)(ON N:rj)(ED:List (Option Nat)):Prop where
 kind:scope.kind=.function
 loc:∀y∈scope.names,y.2=.local->scope.names.lookup y.1=some .local
 fr:∀y∈scope.names,y.2=.free->FH.names.lookup y.1=some .cell\/FH.names.lookup y.1=some .free
 ED:xX scope ON N ED=true
 one:∀n cl,cellsFrom n scope.names cl=Zm z n++cl
 push:∀h,pushCells h scope.names=sW z h
 zc:∀y∈scope.names,y.2=.cell->z=some y.1
 nz:∀y∈scope.names,y.2=.free->z≠some y.1
theorem sX:∀{names:List (Str×NameKind)},(∀y∈names,y.2≠.cell)->(∀n j,cellsFrom n names j=j)/\∀h,pushCells h names=h
 |[],_=>⟨λ_ _=>rfl,λ_=>rfl⟩
 |(a,k)::r,h=>by
  have z:=sX λy B=>h y (ap (a,k) B);have q:¬ (k == NameKind.cell)=true:=by simpa using h (a,k) av
  refine⟨λn j=>?_,λg=>?_⟩
  ·unfold cellsFrom
   rw[br q];exact z.1 n j
  ·unfold pushCells
   rw[br q];exact z.2 g
def Zn.g{FH:Scope}{ON N:rj}{ED:List (Option Nat)}(S:Zn FH scope ON N ED):MY FH scope none ON N ED:=
 ⟨S.kind,S.loc,S.fr,S.ED,(sX S.noc).1,(sX S.noc).2,λy h e=>absurd e (S.noc y h),λ_ _ _ e=>nomatch e⟩
def MY.at{FH scope:Scope}{z:Option Str}{ON N:rj}{ED:List (Option Nat)}(S:MY FH scope z ON N ED){j i:Nat}{x:Str}(h:ED[j]?=some (some i))(q:N[j]?=some x):ON[i]?=some x/\scope.names.lookup x=some .free:=by
 have n:=S.ED;unfold xX at n;rw[cE]at n;have B:j<N.length:=(al.mp q).1;have h1:=jS.mp n.2 j (cf.mpr B);rw[h]at h1;dsimp only at h1;rw[q]at h1;cases hy:ON[i]? with
 |none=>rw[hy]at h1;simp at h1
 |some y=>
  rw[hy]at h1;simp only[cE,iS]at h1;exact⟨by rw[h1.1],h1.2⟩
def MY.len{FH:Scope}{z:Option Str}{ON N:rj}{ED:List (Option Nat)}(S:MY FH scope z ON N ED):ED.length=N.length:=by
 have j:=S.ED;unfold xX at j;rw[cE,iS]at j;exact j.1
noncomputable def CZ(FV:St):Option Nat->Option V
 |some i=>(FV[i]?).getD none
 |none=>none
def dW(ED:List (Option Nat))(FV:St):St:=ED.map (CZ FV)
def qX(X:Cx)(ifs:rh)(t:TT):Prop:=
 ∀(D3:qS) (s:Shared) (FV:St) (H:Hp) (Q:Bool->Hp->Prop),Inv X D3 FV H s->t FV H Q->
  wpAny (model X.prog X.w) X.A (forIn ifs true λc r=>if r=true then do let ok ←isTrue c X.env (eval c X.env);pure (ForInStep.yield ok)else pure (ForInStep.yield r)) (TP X D3 FV Q) X.xe s
def sY:TT:=λ_ H Q=>Q true H
def p_{X:Cx}:qX X [] sY:=λ_ _ _ H _ I h=>wpAny_tests_nil ⟨H,I,h⟩
def jX{X:Cx}{c:Expr}{t:TT}(h:PT X c t):qX X [c] t:=λD3 s FV H Q I q=>wpAny_tests_one (h D3 s FV H Q I q)
def qL{prog:Program}{w:World}{A:Around}{R:Result->Shared->Prop}{s:Shared}{D j q:Expr}{z:rh}{pos:Pos}{it B:Value}{env:Env}(I:Nat->Shared->Prop)
  (turn:∀n s,I n s->wpAny (model prog w) A (pyNext it) (λr G=>match r with
   |none=>R (.ok .next) G
   |some v=>wpAny (model prog w) A (letOwnedTupleGo j it v) (λ_ s₁'=>wpAny (model prog w) A (assign j env v) (λ_ J=>
     wpAny (model prog w) A (forIn z true λc r=>if r=true then do let ok ←isTrue c env (eval c env);pure (ForInStep.yield ok)else pure (ForInStep.yield r)) (λok F=>
      if ok=true then wpAny (model prog w) A (eval D env) (λx M=>
       wpAny (model prog w) A (call (.builtin "list.append") [B,x]) (λ_ s₅=>∃m,m<n/\I m s₅) (λ_ _=>False) M) (λ_ _=>False) F
      else ∃m,m<n/\I m F) (λ_ _=>False) J) (λ_ _=>False) s₁') (λ_ _=>False) G) (λ_ _=>False) s)
  (n:Nat) (h:I n s):
  codeAny (model prog w) A (.compLoop (.ListComp D [⟨j,q,z,0⟩] scope pos) 0 it B env) R s:=by
 refine codeAny_loop rfl I (λn s N=>?_) n h;show wpAny _ A ((compTurn (.ListComp D [⟨j,q,z,0⟩] scope pos) 0 it B env).onRaise (λx=>do noteFrame x env;theTreesLotGoes x)) _ _ s;refine wpAny_noted ?_;rw[compTurn_list];refine ab (qh (ab (fm (turn n s N) (λr G h₁=>?_) λ_ _ h'=>h'.elim)));cases r with
 |none=>exact ai h₁
 |some v=>
  refine ab (fm h₁ (λ_ s₁' h₁'=>?_) λ_ _ h'=>h'.elim);refine ab (fm h₁' (λ_ J O=>ab (fm O (λok F L=>?_) λ_ _ h'=>h'.elim)) λ_ _ h'=>h'.elim);cases ok with
  |false=>exact ai ⟨rfl,L⟩
  |true=>
   exact ab (ab (fm L (λx M h₄=>ab (fm h₄ (λ_ s₅ h₅=>ai (ai ⟨rfl,h₅⟩)) λ_ _ h'=>h'.elim)) λ_ _ h'=>h'.elim))
def Kp(FV G2:St):Prop:=FV.length=G2.length/\∀(i:Nat) (v:V),FV[i]?=some (some v)->G2[i]?=some (some v)
def zf{rest:St}{x:V}:Kp (none::rest) (some x::rest):=⟨rfl,λi v e=>by
 cases i with
 |zero=>cases e
 |succ i=>exact e⟩
structure TComp(wi:TI)(ED:List (Option Nat))(g:TG)(tt:TT)(te:TE)(FV:St)(H:Hp)(Q:VK):Prop where
 ex:wi FV H λJ H1=>∀D,H1 D=none->∃W:Nat->Nat->List V->Hp->Prop,
 (∃m,W 0 m [] (upd H1 D (.lst [])))/\∀i m ys H,W i m ys H->H D=some (.lst ys)/\((J.stop i H/\Q (.ref D) H) \/
  (J.go i H/\∃N:List V->Hp->Prop,(∀Mb H',N Mb H'->∃m',m'<m/\W (i+1) m' Mb H')/\∀x H',J.S3 i H x H'->g x (dW ED FV) H' fun G2 H2=>Kp (dW ED FV) G2/\tt G2 H2 λb H3=>
   if b=true then te G2 H3 λy H4=>H4 D=some (.lst ys)/\ys.length<sizeLine/\N (ys++[y]) (upd H4 D (.lst (ys++[y])))else N ys H3))
def jt(wi:TI)(ED:List (Option Nat))(g:TG)(tt:TT)(te:TE):TE:=fun FV H Q=>TComp wi ED g tt te FV H Q
variable {cl:List (Str×Addr)}
def QW{M:Model}{A:Around}{E:oT}{s:Shared}{z:Option Str}{q:Addr}{D:Str}{B:Env}{j:Addr}{Q:Env->Shared->Prop}(one:∀n cl,cellsFrom n scope.names cl=Zm z n++cl)(push:∀h,pushCells h scope.names=sW z h)
  (h:Q (newEnv scope s.heap.objs.size q (Zm z (s.heap.objs.size+1)++cl) D none .none (some B) j) {s with heap:=sW z (s.heap.push {cls:=.type "dict",data:=.dict #[]})}):
  wpAny M A (newFunctionEnv scope q cl [] D none .none (some B) j) Q E s:=by
 simp only[newFunctionEnv,Option.isSome_some,fE];refine ab (wpAny_alloc ?_);refine ab (wpAny_layCells _ (λname F G=>by cases hkc:F == NameKind.cell<;>simp[hkc]) _ _ _ _ ?_);rw[one,push];refine ab ?_;rw[mB];refine ai (ai ?_);rw[show({s with heap:=s.heap.push {cls:=.type "dict",data:=.dict #[]}}:Shared).heap.objs.size=s.heap.objs.size+1 from cy ..];exact h
section
variable {X:Cx}{tg iter elt:Expr}{ifs:rh}{scope FH:Scope}{z:Option Str}{ON N:rj}{ED:List (Option Nat)}{wi:TI}{g:TG}{tt:TT}{te:TE}{pos:Pos}
def sZ{c d:Addr}{x:Str}(e:(Zm z d++cl).lookup x=some c):(z=some x/\c=d)\/(z≠some x/\cl.lookup x=some c):=by
 cases z with
 |none=>exact .inr ⟨(λq=>nomatch q),e⟩
 |some z=>
  have e:((z,d)::cl).lookup x=some c:=e;rw[cp]at e;cases hx:x == z with
  |true=>
   rw[hx]at e;exact .inl ⟨by rw[show x=z by simpa using hx],(bp e).symm⟩
  |false=>
   rw[hx]at e;exact .inr ⟨λq=>by rw[bp q]at hx;simp at hx,e⟩
def Ko{c d:Addr}{x:Str}(n:z≠some x)(e:cl.lookup x=some c):(Zm z d++cl).lookup x=some c:=by
 cases z with
 |none=>exact e
 |some z=>
  show((z,d)::cl).lookup x=some c;rw[cp,show(x == z)=false by simpa usingλq:x=z=>n (by rw[q])];exact e
def Tw{d:Addr}{x:Str}(e:z=some x):(Zm z d++cl).lookup x=some d:=by
 rw[e];show((x,d)::cl).lookup x=some d;rw[cp,show(x == x)=true by simp]
def QX{D3:qS}{FV:St}{H2:Hp}{G:Shared}{L:rS}{C:Addr}(j:Inv X D3 FV H2 G)(S:MY FH scope z ON N ED)(O:X.env.scope=FH)(J:∀b∈L,mF X D3 H2 b)
  (M:∀b∈L,b<G.heap.objs.size) (D:G.heap.objs.size<=C):(X.FX z N scope C G H2 L).Ok:=by
 have I:∀x∈scope.names,x.2=.free->∃c,X.env.cells.lookup x.1=some c:=λx Z e=>j.ok.has x.1 (by
  rcases S.fr x Z e with z|z
  ·exact .inl (by rw[Env.kindOf,O];exact z)
  ·exact .inr (by rw[Env.kindOf,O];exact z))
 have F:∀{x:Str}{c:Addr},(uL X.env scope.names).lookup x=some c->c<G.heap.objs.size:=λ{x c} e=>by
  obtain⟨v,q⟩:=j.cell x c (oG I e);exact q.lt
 refine⟨j.mod,S.kind,j.ok.glob,j.ok.blt,D,λx y c h1 h2=>?_,λx h=>?_,λx c h e=>?_,j.ok.hd,j.ok.frames,.inl rfl,λb n=>⟨?_,λx c e=>?_⟩,λb o e=>j.bs b o e,?_,λb o e n=>?_,λb n hz=>?_,j.stack,j.Pe⟩
 ·rcases sZ h1 with⟨e1,e2⟩|⟨e1,e2⟩<;>rcases sZ h2 with⟨e3,e4⟩|⟨e3,e4⟩
  ·exact bp (e1.symm.trans e3)
  ·have q:=F e4;rw[e2]at q;exact absurd q (Nat.not_lt.mpr (dE D (hJ _)))
  ·have q:=F e2;rw[e4]at q;exact absurd q (Nat.not_lt.mpr (dE D (hJ _)))
  ·exact j.ok.inj x y c (oG I e2) (oG I e4)
 ·have B:(x,NameKind.free)∈scope.names\/(x,NameKind.cell)∈scope.names:=by
   rcases h with h|h
   ·exact sV (env:=X.env) (.inl rfl) h
   ·exact sV (env:=X.env) (.inr rfl) h
  rcases B with B|B
  ·obtain⟨c,Y⟩:=Km (env:=X.env) B
   exact⟨c,Ko (S.nz _ B rfl) Y⟩
  ·exact⟨C+1,Tw (S.zc _ B rfl)⟩
 ·rcases sZ e with⟨_,e2⟩|⟨e1,_⟩
  ·rw[e2];exact dE D (hJ _)
  ·cases z with
   |none=>cases h
   |some z=>exact absurd (by rw[show x=z by simpa using h]) e1
 ·exact bE (bX (M b n) D)
 ·rcases sZ e with⟨_,e2⟩|⟨_,e2⟩
  ·rw[e2];exact d5 (bX (M b n) (dE D (hJ _)))
  ·exact(J b n).2.2.2.2.1 x c (oG I e2)
 ·exact dE j.ok.Yx j.sz
 ·rcases(J b n).2.2.2.1 with z|z
  ·exact j.ok.S1 b o e z
  ·exact absurd (bX (aE e) (dE j.ok.Yx z)) (gE _)
 ·obtain⟨_,U,f3,_⟩:=J b n
  rcases bi.mp (j.MV b hz)with z|z
  ·exact U z
  ·exact f3 z
def Ak{D3:qS}{s:Shared}{FV:St}{H:Hp}{Q:VK}{RR:Value->Addr->Result->Shared->Prop}(hc:X.calm=true)(S:MY FH scope z ON N ED)(LI:X.env.scope=FH)(hN:X.N=ON)
  (hi:PI X tg iter wi) (hg:∀C s H B,PG (X.FX z N scope C s H B) tg g) (ht:∀C s H B,qX (X.FX z N scope C s H B) ifs tt) (he:∀C s H B,PE (X.FX z N scope C s H B) elt te)
  (I:Inv X D3 FV H s) (h:jt wi ED g tt te FV H Q)
  (fin:∀D C H' s',Inv X D3 FV H' s'->mF X D3 H' C->(∃m,s'.heap.Ns C m)->Q (.ref D) H'->RR (.ref D) C (.ok .next) s'):
  wpAny (model X.prog X.w) X.A (eval iter X.env) (λx GH=>wpAny (model X.prog X.w) X.A (pyIter x) (λitv KP=>wpAny (model X.prog X.w) X.A (newList []) (λacc NC=>
   wpAny (model X.prog X.w) X.A (newFunctionEnv scope X.env.globals (uL X.env scope.names) [] X.env.qual none .none (some X.env)) (λO UY=>
    codeAny (model X.prog X.w) X.A (.compStart (.ListComp elt [⟨tg,iter,ifs,0⟩] scope pos) 0 itv acc {O with scope:=relabel scope X.env}) (RR acc O.locals) UY) X.xe NC) X.xe KP) X.xe GH) X.xe s:=by
 refine EO (hi D3 s FV H _ I h.ex) λv s1 h1=>EO h1 λitv F h2=>?_;obtain⟨it,B,tn,J,H2,e,L,T,st2,f2,q2⟩:=h2;subst e;refine dL (QW S.one S.push ?_);dsimp only;generalize hH2:F.heap.push {cls:=.type "list",dict:=none,data:=.seq ([]:re).toArray}=P2;generalize hD:F.heap.objs.size=D;have OU:(P2.push {cls:=.type "dict",data:=.dict #[]}).Ns P2.objs.size (λ_=>none):=Heap.Ns.new P2 (.type "dict");have hq₀:=cy P2 {cls:=.type "dict",data:=.dict #[]};have Y:∀b o,P2.get? b=some o->(P2.push {cls:=.type "dict",data:=.dict #[]}).get? b=some o:=λb o e=>ac _ e;generalize P2.push {cls:=.type "dict",data:=.dict #[]}=P3 at OU hq₀ Y ⊢;obtain⟨OU,Z3,Y⟩:(sW z P3).Ns P2.objs.size (λ_=>none)/\(z.isSome=true->(sW z P3).IsCell (P2.objs.size+1) none)/\∀b o,P2.get? b=some o->(sW z P3).get? b=some o:=by
  cases z with
  |none=>exact⟨OU,(λq=>nomatch q),Y⟩
  |some z=>exact⟨OU.keeps λb o e=>ac _ e,(λ_=>⟨_,hq₀▸ay _ rfl,rfl⟩),λb o e=>ac _ (Y b o e)⟩
 generalize sW z P3=h₁ at OU Z3 Y ⊢;generalize hCe:P2.objs.size=C at OU Z3 ⊢;have hCD:C=D+1:=by rw[←hCe,←hH2,cy,hD]
 have TN:F.heap.objs.size<=C:=by rw[hCD,hD];exact hJ _
 have Z2:∀b∈B,b<F.heap.objs.size:=λb G=>by
  obtain⟨o,e,_⟩:=T.obj 0 _ st2 b G;exact aE e
 have below:∀b,b<F.heap.objs.size->b≠C:=λb G=>bE (bX G TN);have k1:∀b o,F.heap.get? b=some o->h₁.get? b=some o:=λb o e=>Y b o (hH2▸ac _ e);have hDC:D≠C:=by rw[hCD];exact bE (hZ _)
 have gD:h₁.get? D=some {cls:=.type "list",dict:=none,data:=.seq ([]:re).toArray}:=by
  refine Y D _ ?_;rw[←hH2,←hD];exact ay _ rfl
 have nD:H2 D=none:=L.EJ.fresh (by rw[hD];exact aI _);have nC:H2 C=none:=L.EJ.fresh TN;have YJ:∀x∈scope.names,x.2=.free->∃c,X.env.cells.lookup x.1=some c:=λx hx e=>L.ok.has x.1 (by
  rcases S.fr x hx e with z|z
  ·exact .inl (by rw[Env.kindOf,LI];exact z)
  ·exact .inr (by rw[Env.kindOf,LI];exact z))
 obtain⟨W,⟨m0,w0⟩,turn⟩:=q2 D nD;have IY:Inv (X.FX z N scope C F H2 B) [] (dW ED FV) (upd H2 D (.lst [])) {F with heap:=h₁}:=by
  have hp:F.heap.objs.size<=D:=by rw[hD];exact aI _
  refine⟨QX L S LI f2 Z2 TN,rfl,L.bare,Un.laid k1 hp nD,⟨_,OU,λj x v e1 e2 e3=>?_⟩,λx c e=>?_,?_,λx c e=>?_,λp hp=>by simp at hp,L.EJ.laid k1 hp ⟨cq _,[],_,.nil,gD⟩,?_⟩
  ·have Z4:(ED.map (CZ FV))[j]?=some (some v):=e2
   rw[cm]at Z4;cases q:ED[j]? with
   |none=>rw[q]at Z4;cases Z4
   |some o=>
    rw[q]at Z4;have e4:CZ FV o=some v:=bp Z4;cases o with
    |none=>cases e4
    |some i=>
     have IF:FV[i]?=some (some v):=by
      have e5:(FV[i]?).getD none=some v:=e4;cases z:FV[i]? with
      |none=>rw[z]at e5;cases e5
      |some w=>rw[z]at e5;exact gg some e5
     obtain⟨Z5,OW⟩:=S.at q e1;have hk:X.env.kindOf x=some .cell\/X.env.kindOf x=some .free:=by
      rcases S.fr _ (mem_of_lookup OW) rfl with z|z
      ·exact .inl (by rw[Env.kindOf,LI];exact z)
      ·exact .inr (by rw[Env.kindOf,LI];exact z)
     obtain⟨m,hn,hl⟩:=L.loc;obtain⟨u,r,l⟩:=hl i x v (by rw[hN];exact Z5) IF (by
      rcases hk with z|z
      ·exact .inr (.inl z)
      ·exact .inr (.inr z))
     refine⟨u,r,?_⟩;rcases l with⟨z,_⟩|⟨_,c,hc',Pm⟩
     ·rcases hk with y|y
      ·rw[y]at z;cases z
      ·rw[y]at z;cases z
     ·obtain⟨c',Ts⟩:=Km (env:=X.env) (mem_of_lookup OW)
      have e6:=oG YJ Ts;rw[hc']at e6;have e7:c=c':=bp e6;subst e7;obtain⟨oc,ho,hd⟩:=Pm;exact .inr ⟨uM (env:=X.env) OW,c,Ko (S.nz _ (mem_of_lookup OW) rfl) Ts,⟨oc,k1 c oc ho,hd⟩⟩
  ·rcases sZ e with⟨e1,e2⟩|⟨_,e2⟩
   ·rw[e2];exact⟨none,Z3 (by rw[e1];rfl)⟩
   ·obtain⟨v,oc,ho,hd⟩:=L.cell x c (oG YJ e2)
    exact⟨v,oc,k1 c oc ho,hd⟩
  ·show upd H2 D (.lst []) C=none
   rw[aG (gc hDC)];exact nC
  ·rcases sZ e with⟨_,e2⟩|⟨_,e2⟩
   ·show upd H2 D (.lst []) c=none
    rw[e2,aG (show C+1≠D by omega)];exact L.EJ.fresh (by omega)
   ·have e':=oG YJ e2
    obtain⟨v,oc,ho,hd⟩:=L.cell x c e';show upd H2 D (.lst []) c=none;rw[aG (λz=>absurd (aE ho) (by rw[z,hD];exact gE _))];exact L.IC x c e'
  ·show(ED.map (CZ FV)).length=N.length
   rw[ar];exact S.len
 have OP:∀{H':Hp},(∀b∈B,H' b=none)->∀b∈B,mF (X.FX z N scope C F H2 B) [] H' b:=λhn b G=>by
  obtain⟨_,f1,f3,f4,f5,f6⟩:=f2 b G;refine⟨hn b G,below b (Z2 b G),λhz=>?_,.inl G,λx c e=>(sZ e).elim (λq=>by rw[q.2];exact d5 (bX (Z2 b G) (dE TN (hJ _)))) λq=>f5 x c (oG YJ q.2),λp hp=>by simp at hp⟩;rcases bi.mp (L.MV b hz)with z|z
  ·exact f1 z
  ·exact f3 z
 have back:∀{GG:St}{H':Hp}{s':Shared},Inv (X.FX z N scope C F H2 B) [] GG H' s'->Inv X D3 FV H' s':=λ{GG H' s'} I'=>
  L.call' (ch:=B) I'.os I'.base I'.EJ I'.bare λb G=>let ⟨_,f1,_,f4,f5,f6⟩:=f2 b G;⟨f4,f1,f5,f6⟩
 have st1:tn 0 h₁:=T.keep 0 _ _ st2 λb _ o e=>k1 b o e;have fr1:∀b∈B,upd H2 D (.lst []) b=none:=λb G=>by
  rw[aG (λz=>absurd (Z2 b G) (by rw[z,hD];exact gE _))];exact(f2 b G).1
 have U:codeAny (model X.prog X.w) X.A (.compLoop (.ListComp elt [⟨tg,iter,ifs,0⟩] scope pos) 0 (.ref it) (.ref D) (compEnvC scope (Zm z (C+1)++uL X.env scope.names) C X.env)) (RR (.ref D) C) {F with heap:=h₁}:=by
  refine qL (λn s'=>∃i ys H',Inv (X.FX z N scope C F H2 B) [] (dW ED FV) H' s'/\tn i s'.heap/\(∀b∈B,H' b=none)/\W i n ys H') ?_ m0 ⟨0,[],_,IY,st1,fr1,w0⟩;rintro n s3 ⟨i,ys,H3,I3,st3,fr3,w3⟩;obtain⟨hDy,hturn⟩:=turn i n ys H3 w3;rcases hturn with⟨stop,qn⟩|⟨go,Nx,hNx,step⟩
  ·refine EO (T.done (X.FX z N scope C F H2 B) rfl rfl rfl hc i [] s3 (dW ED FV) H3 _ I3 (OP fr3) st3 stop) ?_
   rintro r s4 ⟨hr,I4⟩;subst hr;obtain⟨m,hm,_⟩:=I4.loc;exact fin D C H3 s4 (back I4) (L.OO TN I4.free) ⟨m,hm⟩ qn
  ·refine EO (T.item (X.FX z N scope C F H2 B) rfl rfl rfl hc i [] s3 (dW ED FV) H3 _ I3 (OP fr3) st3 go) ?_
   rintro r s4 ⟨u,hr,h4⟩;subst hr;refine EO h4 ?_;rintro _ s5 ⟨x,H5,I5,r5,y5,ZU,fr5⟩;have I5':=I5.pinned (OP fr5) (T.obj _ _ ZU);refine EO (hg C F H2 B _ s5 (dW ED FV) H5 x u _ I5' r5 (step x H5 y5)) ?_;rintro _ s6 ⟨US,H6,I6,kp6,q6⟩;refine EO (ht C F H2 B _ s6 US H6 _ I6 q6) ?_;rintro b s7 ⟨Z,I7,q7⟩;have M:∀{Mb:sC}{Z:Hp}{s7:Shared},Inv (X.FX z N scope C F H2 B) ([]++uG B s5.heap) US Z s7->Nx Mb Z->∃m,m<n/\∃i ys H',Inv (X.FX z N scope C F H2 B) [] (dW ED FV) H' s7/\tn i s7.heap/\(∀b∈B,H' b=none)/\W i m ys H':=λ{Mb Z s7} I7 n7=>by
    obtain⟨m',hm,w7⟩:=hNx Mb Z n7;refine⟨m',hm,i+1,Mb,Z,I7.JY.weak kp6.1 kp6.2,T.keep _ _ _ ZU λb G o e=>(I7.pin (b,o) (dP _ (dP _ (pL G e)))).1,λb G=>?_,w7⟩;obtain⟨o,e,d⟩:=T.obj _ _ ZU b G;exact(I7.pin (b,o) (dP _ (dP _ (pL G e)))).2.1
   cases b with
   |false=>
    rw[br bq]at q7 ⊢;exact M I7 q7
   |true=>
    rw[bS rfl]at q7 ⊢;refine EO (he C F H2 B _ s7 US Z _ I7 q7) ?_;rintro xv s8 ⟨y,H8,I8,r8,hD8,hl8,n8⟩;refine EO (oF (X:=X.FX z N scope C F H2 B) _ s8 US H8 (.ref D) [y] (.ref D) [xv] (λ_ H9=>Nx (ys++[y]) H9) I8 rfl (.cons r8 .nil) ⟨D,ys,y,rfl,rfl,hD8,hl8,n8⟩) ?_;rintro _ s9 ⟨_,H9,I9,_,n9⟩;exact M I9 n9
 subst hD hCe;exact codeAny_compStart_list U (T.self _ 0 _ _ _ st1 U)
def C_{D3:qS}{s:Shared}{FV:St}{H:Hp}(S:MY FH scope z ON N ED)(j:X.env.scope=FH)(I:Inv X D3 FV H s):closureFor scope X.env=pure (uL X.env scope.names):=
 Be λx n e=>I.ok.has x.1 (by
  rcases S.fr x n e with z|z
  ·exact .inl (by rw[Env.kindOf,j];exact z)
  ·exact .inr (by rw[Env.kindOf,j];exact z))
def Inv.Zo{D3:qS}{s':Shared}{FV:St}{H':Hp}{C:Addr}{h':Heap}(I:Inv X D3 FV H' s')(f:mF X D3 H' C)(n:Heap.SameBut C s'.heap h'):Inv X D3 FV H' {s' with heap:=h'}:=
 I.turned (t':=s'.toks) (it:=C) (λb o j e=>(n.2 b j).trans e) f.1 f.2.1 f.2.2.2.1 f.2.2.2.2.1 f.2.2.2.2.2
def Dc(S:MY FH scope z ON N ED)(hi:PI X tg iter wi)(U:∀C s H j,PG (X.FX z N scope C s H j) tg g)(Z:∀C s H j,qX (X.FX z N scope C s H j) ifs tt)(G:∀C s H j,PE (X.FX z N scope C s H j) elt te)
  (J:autoParam (X.calm=true) r0_) (F:autoParam (X.env.scope=FH) r0_) (M:autoParam (X.N=ON) r0_) (O:autoParam (∀x,foldedSetIterable iter X.env x=pure x) r4_):PE X (.ListComp elt [⟨tg,iter,ifs,0⟩] scope pos) (jt wi ED g tt te):=by
 intro D3 s FV H Q I h;rw[eval_ListComp];refine nV (use:=none) rfl O (C_ S F I) S.kind S.loc ?_;refine Ak (RR:=λn C=>compPost (model X.prog X.w) X.A X.xe none (EP X D3 FV Q) n C) J S F M hi U Z G I h λD C H' s' Y f B q=>?_;obtain⟨m,B⟩:=B;exact⟨m,B,λh' L=>⟨.ref D,H',Y.Zo f L,rfl,q⟩⟩
def vD(S:Zn FH scope ON N ED)(hi:PI X tg iter wi)(I:∀C s H j,PG (X.comp N scope C s H j) tg g)(n:∀C s H j,qX (X.comp N scope C s H j) ifs tt)(q:∀C s H j,PE (X.comp N scope C s H j) elt te)
  (B:autoParam (X.calm=true) r0_) (D:autoParam (X.env.scope=FH) r0_) (G:autoParam (X.N=ON) r0_) (F:autoParam (∀x,foldedSetIterable iter X.env x=pure x) r4_):PE X (.ListComp elt [⟨tg,iter,ifs,0⟩] scope pos) (jt wi ED g tt te):=
 Dc S.g hi I n q B D G F
def GQ{i:Nat}{y:Str}{j Z:Pos}(S:Zn FH scope ON N ED)(M:X.N.Nodup)(LN:X.N[i]?=some y)(hy:Loc X.env.scope y)(hi:PI X tg iter wi)(hg:∀C s H n,PG (X.comp N scope C s H n) tg g)(ht:∀C s H n,qX (X.comp N scope C s H n) ifs tt)(he:∀C s H n,PE (X.comp N scope C s H n) elt te)
  (G:autoParam (swapsWith (.ListComp elt [⟨tg,iter,ifs,0⟩] scope pos) (some (.Name y j)) Z.line X.env=pure true) r0_)
  (hc:autoParam (X.calm=true) r0_) (Y:autoParam (X.env.scope=FH) r0_) (hN:autoParam (X.N=ON) r0_) (hs:autoParam (∀x,foldedSetIterable iter X.env x=pure x) r4_)
  (hf:autoParam (SV X y) r3_):
  PS X (.Assign [.Name y j] (.ListComp elt [⟨tg,iter,ifs,0⟩] scope pos) Z) (dB (jt wi ED g tt te) (bu i)):=by
 intro D3 s FV H U I h;rw[exec_Assign_Name_used _ _ _ _ G];refine ab (qh (ab ?_));show wpAny _ _ (do let _ ←comprehension (.ListComp elt [⟨tg,iter,ifs,0⟩] scope pos) scope X.env _ (newList []) false (eval iter X.env) (some (assign (.Name y j) X.env))) _ _ s;refine ab (fm (nV (use:=some (assign (.Name y j) X.env)) (Q:=λ_ s'=>SP X D3 U .next s') rfl hs (C_ S.g Y I) S.kind S.loc
  (Ak (RR:=λL C=>compPost (model X.prog X.w) X.A X.xe (some (assign (.Name y j) X.env)) (λ_ s'=>SP X D3 U .next s') L C) hc S.g Y hN hi hg ht he I h λD C H' s' I' f B q=>?_))
  (λ_ s' hq=>ai (ai hq)) λ_ _ e=>e)
 obtain⟨m,B⟩:=B;show wpAny _ _ (assign (.Name y j) X.env (.ref D)) _ _ s';refine wpAny_assign_Name (Ab I' M LN hy (v:=.ref D) rfl (λs'' J Sj=>?_) hf);obtain⟨a,O,ha⟩:=Sj;have F:C≠a:=by
  rintro rfl;rcases ha with z|z
  ·exact f.2.1 z
  ·exact f.2.2.2.2.1 y C z rfl
 refine⟨m,B.sameBut O F,λh' L4=>⟨_,H',J.Zo f L4,q⟩⟩
end
section
variable {tt:TT}{te:TE}{Q:VK}{NA rest:St}{H:Hp}{D:Addr}
def Kq{a:Addr}{xs:sC}(I:NA=none::rest)(j:Nat->List V->Hp->Prop)(O:j 0 [] (upd H D (.lst [])))
  (M:∀i ys H,i<=xs.length->j i ys H->Fc K H a xs/\H D=some (.lst ys))
  (J:∀i x ys H,xs[i]?=some x->j i ys H->tt (some x::rest) H λb n=>if b=true then te (some x::rest) n λy B=>B D=some (.lst ys)/\ys.length<sizeLine/\j (i+1) (ys++[y]) (upd B D (.lst (ys++[y])))else j (i+1) ys n)
  (U:∀ys H,j xs.length ys H->Q (.ref D) H):
  ∃W:Nat->Nat->List V->Hp->Prop,(∃m,W 0 m [] (upd H D (.lst [])))/\∀i m ys H,W i m ys H->H D=some (.lst ys)/\(((Yz K a).stop i H/\Q (.ref D) H) \/
   ((Yz K a).go i H/\∃N:List V->Hp->Prop,(∀F H',N F H'->∃G,G<m/\W (i+1) G F H')/\∀x H',(Yz K a).S3 i H x H'->bu 0 x NA H' fun G2 H2=>Kp NA G2/\tt G2 H2 λb n=>
    if b=true then te G2 n λy B=>B D=some (.lst ys)/\ys.length<sizeLine/\N (ys++[y]) (upd B D (.lst (ys++[y])))else N ys n)):=by
 subst I;refine⟨λi m ys H=>m=xs.length - i/\i<=xs.length/\j i ys H,⟨xs.length,by simp,cq _,O⟩,?_⟩;rintro i m ys H ⟨rfl,hi,p⟩;obtain⟨q,L⟩:=M i ys H hi p;refine⟨L,?_⟩;by_cases F4:i<xs.length
 ·refine .inr ⟨⟨xs,xs[i],q,by simp[F4]⟩,j (i+1),λF H' p'=>⟨xs.length - (i+1),by omega,rfl,F4,p'⟩,λx H' y=>?_⟩
  obtain⟨e,y⟩:=y;subst e;exact⟨zf,J i x ys _ (y xs q) p⟩
 ·have e:i=xs.length:=by omega
  subst e;exact .inl ⟨⟨xs,q,aI _⟩,U ys H p⟩
def Nf{a:Addr}{xs:sC}(I:NA=none::rest)(j:Nat->List V->Hp->Prop)(O:j 0 [] (upd H D (.lst [])))
  (M:∀i ys H,i<=xs.length->j i ys H->GN K H a xs/\H D=some (.lst ys))
  (J:∀i x ys H,xs[i]?=some x->j i ys H->tt (some x::rest) H λb n=>if b=true then te (some x::rest) n λy B=>B D=some (.lst ys)/\ys.length<sizeLine/\j (i+1) (ys++[y]) (upd B D (.lst (ys++[y])))else j (i+1) ys n)
  (U:∀ys H,j xs.length ys H->Q (.ref D) H):
  ∃W:Nat->Nat->List V->Hp->Prop,(∃m,W 0 m [] (upd H D (.lst [])))/\∀i m ys H,W i m ys H->H D=some (.lst ys)/\(((YA K a).stop i H/\Q (.ref D) H) \/
   ((YA K a).go i H/\∃N:List V->Hp->Prop,(∀F H',N F H'->∃G,G<m/\W (i+1) G F H')/\∀x H',(YA K a).S3 i H x H'->bu 0 x NA H' fun G2 H2=>Kp NA G2/\tt G2 H2 λb n=>
    if b=true then te G2 n λy B=>B D=some (.lst ys)/\ys.length<sizeLine/\N (ys++[y]) (upd B D (.lst (ys++[y])))else N ys n)):=by
 subst I;refine⟨λi m ys H=>m=xs.length - i/\i<=xs.length/\j i ys H,⟨xs.length,by simp,cq _,O⟩,?_⟩;rintro i m ys H ⟨rfl,hi,p⟩;obtain⟨q,L⟩:=M i ys H hi p;refine⟨L,?_⟩;by_cases F4:i<xs.length
 ·refine .inr ⟨⟨xs,xs[i],q,by simp[F4]⟩,j (i+1),λF H' p'=>⟨xs.length - (i+1),by omega,rfl,F4,p'⟩,λx H' y=>?_⟩
  obtain⟨e,y⟩:=y;subst e;exact⟨zf,J i x ys _ (y xs q) p⟩
 ·have e:i=xs.length:=by omega
  subst e;exact .inl ⟨⟨xs,q,aI _⟩,U ys H p⟩
def Ia{lo:Int}{n:Nat}(I:NA=none::rest)(j:Nat->List V->Hp->Prop)(M:j 0 [] (upd H D (.lst [])))
  (L:∀i ys H,i<=n->j i ys H->H D=some (.lst ys))
  (J:∀i ys H,i<n->j i ys H->tt (some (.int (lo+i))::rest) H λb q=>if b=true then te (some (.int (lo+i))::rest) q λy B=>B D=some (.lst ys)/\ys.length<sizeLine/\j (i+1) (ys++[y]) (upd B D (.lst (ys++[y])))else j (i+1) ys q)
  (O:∀ys H,j n ys H->Q (.ref D) H):
  ∃W:Nat->Nat->List V->Hp->Prop,(∃m,W 0 m [] (upd H D (.lst [])))/\∀i m ys H,W i m ys H->H D=some (.lst ys)/\(((Sk lo n).stop i H/\Q (.ref D) H) \/
   ((Sk lo n).go i H/\∃N:List V->Hp->Prop,(∀F H',N F H'->∃G,G<m/\W (i+1) G F H')/\∀x H',(Sk lo n).S3 i H x H'->bu 0 x NA H' fun G2 H2=>Kp NA G2/\tt G2 H2 λb q=>
    if b=true then te G2 q λy B=>B D=some (.lst ys)/\ys.length<sizeLine/\N (ys++[y]) (upd B D (.lst (ys++[y])))else N ys q)):=by
 subst I;refine⟨λi m ys H=>m=n - i/\i<=n/\j i ys H,⟨n,by simp,cq _,M⟩,?_⟩;rintro i m ys H ⟨rfl,hi,p⟩;refine⟨L i ys H hi p,?_⟩;by_cases F4:i<n
 ·refine .inr ⟨F4,j (i+1),λF H' p'=>⟨n - (i+1),by omega,rfl,F4,p'⟩,λx H' y=>?_⟩
  obtain⟨e,y⟩:=y;subst e y;exact⟨zf,J i ys _ F4 p⟩
 ·have e:i=n:=by omega
  subst e;exact .inl ⟨aI _,O ys H p⟩
end
section
variable {X:Cx}{D3:qS}{FV:St}{H H':Hp}{s:Shared}{h':Heap}
def Inv.PF{t':Nat}{ch:rS}{a:Addr}{o:HO}(I:Inv X D3 FV H s)(k:∀b u,b∉ch->s.heap.get? b=some u->h'.get? b=some u)(Z:∀b u,s.heap.get? b=some u->∃U,h'.get? b=some U)(J:∀b∈ch,mF X D3 H b)
  (O:s.heap.objs.size<=a) (new:EG X.prog X.w X.K (upd H a o) h' a o):Inv X D3 FV (upd H a o) {s with heap:=h',toks:=t'}:=by
 have F:H a=none:=I.EJ.fresh O;have L:∀b u,H b=some u->b∉ch:=λb u e j=>by
  rw[(J b j).1]at e;cases e
 have na:∀b u,s.heap.get? b=some u->b≠a:=λb u e=>bE (bX (aE e) O);have G:IA X.prog X.w X.K (upd H a o) h':=λb u e=>by
  by_cases j:b=a
  ·subst j;rw[aB]at e;cases e;exact new
  ·rw[aG j]at e
   refine(I.EJ b u e).NN (λc v B q=>k c v ?_ q) (λc q=>by rw[aG (aF q F)];exact q) λc xs q=>by rw[aG (aF q F)];exact q
   rcases B with rfl|B
   ·exact L c u e
   ·exact L c _ B
 refine I.step (g':=s.gens) (d':=s.drawn) (ch:=ch) (λb j=>let ⟨_,f1,_,f4,f5,f6⟩:=J b j;⟨f4,f1,f5,f6⟩) (λb o _ _ B e _=>k b o B e) (λb o _ _ B e _=>⟨o.slots,k b o B e⟩)
  (λb o _ e n=>by rw[aG (na b o e)];exact n) (λb o _ e=>Z b o e) (λb xs q=>by rw[aG (aF q F)];exact q) (λb u xs q=>by rw[aG (aF q F)];exact q)
  (λb ps q=>⟨#[],by rw[aG (aF q F),q];simp⟩) (λm hm=>?_) G I.bare
 obtain⟨M,es,ep,ho,r⟩:=hm;have Y:X.env.locals∉ch:=λj=>(J _ j).2.1 rfl;exact⟨M,es,ep,k _ M Y ho,r⟩
end
def Its(x:Str):It:=⟨λi _=>i<x.cps.size,λi H v H'=>H'=H/\∃c,x.cps[i]?=some c/\v=.str ⟨#[c]⟩,λi _=>i=x.cps.size⟩
def Dd{P:Program}{w:World}{tg:Expr}(it:Addr)(x:Str)(t:Tok)(ty:String)(Z0:["enumerate","zip","dict_itemiterator","dict_reverseitemiterator","odict_iterator","itertools.zip_longest","itertools.pairwise"].contains ty=false)
  (W:∀A:Around,A.handled=none->Walks P w A it [it] [it] x.cps.size (SignAt x) (λi h=>h.IsStrIter it ty x t i))
  (J:∀(A:Around) (i:Nat) (s:Shared) (Q:oT) (E:oT),s.heap.IsStrIter it ty x t i->Q (.ref it) s->wpAny (model P w) A (pyIter (.ref it)) Q E s):
  Turn P w K tg (Its x) [it] it (λi h=>h.IsStrIter it ty x t i) where
 mem:=by simp
 obj:=λi h st b j=>by
  have e:b=it:=by simpa using j
  subst e;obtain⟨o,e,c,d⟩:=st;exact⟨o,e,λv z=>by rw[d]at z;cases z⟩
 keep:=λi h h' st k=>by
  obtain⟨o,e,r⟩:=st;exact⟨o,k it (by simp) o e,r⟩
 item:=by
  intro X U L F M i D3 s FV H E I n st Y;subst U L F;obtain⟨O,B,f2,f3,f4,Z⟩:=n it (by simp);refine(W X.A (I.ok.hd M)).item i s _ _ Y st λv h' G hv Fu kk=>?_;obtain⟨c,u,hx,rfl⟩:=hv;have I1:Inv X D3 FV H {s with heap:=h',toks:=G}:=I.turned (λb o j e=>kk b o (by simpa using j) e) O B f3 f4 Z;obtain⟨o,e,cc,d⟩:=id Fu;exact⟨_,rfl,Bp (s:={s with heap:=h',toks:=G}) e cc d Z0 ⟨.str ⟨#[c]⟩,H,I1,⟨u,rfl⟩,⟨rfl,c,hx,rfl⟩,Fu,λb j=>(n b j).1⟩⟩
 done:=by
  intro X U L F M i D3 s FV H E I n st Y;subst U L F;obtain⟨O,B,f2,f3,f4,Z⟩:=n it (by simp);have q:i=x.cps.size:=Y;subst q;exact(W X.A (I.ok.hd M)).done s _ _ st λh' G kk=>⟨rfl,I.turned (λb o j e=>kk b o (by simpa using j) e) O B f3 f4 Z⟩
 self:=J
section
variable {X:Cx}{tg:Expr}
def Xg(tl:TE):TI:=fun FV H R=>tl FV H λx H1=>∃z,x=.str z/\R (Its z) H1
def Tz{l:Expr}{tl:TE}(J:PE X l tl):PI X tg l (Xg tl):=by
 intro D3 s FV H R I h;refine EO (J D3 s FV H _ I h) ?_;rintro v j ⟨x,H1,n,L,M⟩;obtain⟨z,e,q⟩:=M;subst e;obtain⟨t,rfl⟩:=L;have F:∀b∈[j.heap.objs.size],mF X D3 H1 b:=λb G=>by
  have e:b=j.heap.objs.size:=by simpa using G
  subst e;exact n.OO (aI _) (n.EJ.fresh (aI _))
 cases ha:z.cps.all (·<128)
 ·exact wpAny_pyIter_wide ha ⟨j.heap.objs.size,[j.heap.objs.size],_,_,H1,rfl,n.kept (t':=j.toks) λb o e=>ac _ e,Dd _ z t "str_iterator" (by decide) (λA B=>Walks.strWide B _ z t) (λA i s Q E st h=>wpAny_pyIter_striter_wide st h),⟨_,ay _ rfl,rfl,rfl⟩,F,q⟩
 ·exact wpAny_pyIter_ascii ha ⟨j.heap.objs.size,[j.heap.objs.size],_,_,H1,rfl,n.kept (t':=j.toks) λb o e=>ac _ e,Dd _ z t "str_ascii_iterator" (by decide) (λA B=>Walks.strAscii B _ z t) (λA i s Q E st h=>wpAny_pyIter_striter_ascii st h),⟨_,ay _ rfl,rfl,rfl⟩,F,q⟩
end
section
variable {X:Cx}
theorem uN:∀{zs:rj}{us:re},Vals (zs.map V.str) us->∃l:List (Str×Tok),us=strValues l/\l.map (·.1)=zs
 |[],_,r=>by cases r;exact⟨[],rfl,rfl⟩
 |z::zs,_,r=>by
  cases r with
  |cons n j=>
   obtain⟨t,rfl⟩:=n;obtain⟨l,rfl,e⟩:=uN j;exact⟨(z,t)::l,rfl,by rw[be,e]⟩
def rJoin(K:W.Frag):V->List V->Hp->VK->Prop:=λx vs H Q=>∃z l zs,x=.str z/\vs=[.ref l]/\Fc K H l (zs.map V.str)/\JoinOk z zs=true/\Q (.str (Str.join z zs)) H
def QZ:MtR X "str.join" (rJoin X.K):=by
 intro D3 s FV H x vs v us Q I j n h;obtain⟨z,l,zs,rfl,rfl,F,ok,q⟩:=h;obtain⟨t,rfl⟩:=j;obtain⟨u,rfl,B⟩:=n.one;cases B;obtain⟨G,r,p,_⟩:=I.list F;obtain⟨J,e,e2⟩:=uN r;subst e;refine SC.join p.isList e2 ok λt' k=>⟨.str (Str.join z zs),H,I.tok _,⟨t',?_⟩,q⟩;unfold Txt.join;rw[StrLaws.glued_eq_join]
def zg(hc:autoParam (X.calm=true) r0_):Fh X (.type "list") (λxs H Q=>∃p kvs,xs=[.ref p]/\H p=some (.dK kvs)/\∀l,H l=none->Q (.ref l) (upd H l (.lst (kvs.map λB=>kV B.1)))):=by
 intro D3 s FV H xs us Q I r h;obtain⟨p,kvs,rfl,hp,q⟩:=h;obtain⟨u,rfl,rx⟩:=vals1 r;cases rx;obtain⟨hz,lo,vs,F,hD⟩:=Qe I.EJ hp;obtain⟨o,es,ep,ho,hx,hd,Y,M,hn⟩:=hD;have hlen:=F.length;refine W.kdl_call (W.kdl_dict (knd:=iD X.prog X.w) (kvs:=vs) (ep:=ep) lo) (I.ok.hd hc) ⟨o,es,ho,hx,hd,Y,M,hn⟩ (by omega) λh' tk J c' kk hS Z=>?_;have hv:Vals (kvs.map λB=>kV B.1) J.toList:=by
  have L:∀(l:List (Key×V)) (n:List (Key×Value)) (us:re),KV l n->us.length=n.length->(∀(j:Nat) (v:Value),us[j]?=some v->∃k x,n[j]?=some (k,x)/\(iD X.prog X.w).is k v=true)->Vals (l.map λB=>kV B.1) us:=by
   intro l;induction l with
   |nil=>
    intro n us U G O;cases U;have:us=[]:=ox.mp G;subst this;exact .nil
   |cons a r ih=>
    intro n us U G O;cases U with
    |@cons _ b _ r2 h1 h2=>
     cases us with
     |nil=>simp at G
     |cons v us=>
      obtain⟨k,x,e,Y⟩:=O 0 v rfl;have e':b=(k,x):=by simpa using e
      have ek:a.1=k:=by rw[h1.1,e']
      refine .cons ?_ (ih r2 us h2 (by simpa using G) λj w e=>by simpa using O (j+1) w (by simpa using e));show RelV (kV a.1) v;rw[ek];rcases cQ Y with⟨i,t,rfl,rfl⟩|⟨x,t,rfl,rfl⟩
      ·exact⟨t,rfl⟩
      ·exact⟨t,rfl⟩
  refine L kvs vs J.toList F (by rw[f7];exact Z.1) λj v e=>Z.2 j v (by rw[←pS];exact e)
 refine⟨.ref s.heap.objs.size,_,I.laid kk (aI _) (show EG X.prog X.w X.K _ h' _ (.lst _)from⟨?_,J.toList,c',hv,?_⟩),rfl,q _ I.fresh⟩
 ·rw[ar];omega
 ·simpa using hS
mutual
inductive Dt(K:W.Frag)(H:Hp):V->PyData->Prop
 |Ee:Dt K H .Ee .none
 |bl (b:Bool):Dt K H (.bl b) (.bool b)
 |int (i:Int):Dt K H (.int i) (.int i)
 |str (x:Str):Dt K H (.str x) (.str x)
 |lst {a:Addr}{xs:sC}{ds:List PyData}:Fc K H a xs->PH K H xs ds->Dt K H (.ref a) (.list ds)
 |tup {a:Addr}{xs:sC}{ds:List PyData}:GN K H a xs->PH K H xs ds->Dt K H (.ref a) (.tuple ds)
inductive PH(K:W.Frag)(H:Hp):List V->List PyData->Prop
 |nil:PH K H [] []
 |cons {x:V}{xs:sC}{d:PyData}{ds:List PyData}:Dt K H x d->PH K H xs ds->PH K H (x::xs) (d::ds)
end
mutual
theorem Dt.reads{D3:qS}{FV:St}{H:Hp}{s:Shared}(I:Inv X D3 FV H s):∀{x:V}{d:PyData}{u:Value},Dt X.K H x d->RelV x u->∃q,Reads s.heap u d q
 |_,_,_,.Ee,r=>by cases r;exact⟨[],.none⟩
 |_,_,_,.bl b,r=>by cases r;exact⟨[],.bool b⟩
 |_,_,_,.int i,r=>by obtain⟨t,rfl⟩:=r;exact⟨[],.int i t⟩
 |_,_,_,.str x,r=>by obtain⟨t,rfl⟩:=r;exact⟨[],.str x t⟩
 |_,_,_,.lst hq hs,r=>by
  cases r;obtain⟨F,j,pl,_⟩:=I.list hq;obtain⟨o,e,c,n,d⟩:=pl.isList;obtain⟨q,B⟩:=PH.reads I hs j;exact⟨_,.list e c d (by simpa using B)⟩
 |_,_,_,.tup hq hs,r=>by
  cases r;obtain⟨F,j,pl,_⟩:=I.tuple hq;obtain⟨o,e,c,n,d⟩:=pl;obtain⟨q,B⟩:=PH.reads I hs j;exact⟨_,.tuple e c d (by simpa using B)⟩
theorem PH.reads{D3:qS}{FV:St}{H:Hp}{s:Shared}(I:Inv X D3 FV H s):∀{xs:sC}{ds:List PyData}{us:re},PH X.K H xs ds->Vals xs us->∃j,ReadsAll s.heap us ds j
 |_,_,_,.nil,r=>by cases r;exact⟨[],.nil⟩
 |_,_,_,.cons h hs,r=>by
  cases r with
  |cons n F=>
   obtain⟨j,q⟩:=Dt.reads I h n;obtain⟨bs,B⟩:=PH.reads I hs F;exact⟨_,.cons q B⟩
end
def TF(G:X.A.units+64<cLine):GW X (compareOp .Eq) (λx y H Q=>∃d e,Dt X.K H x d/\Dt X.K H y e/\SeqAt.shaped d=true/\SeqAt.shaped e=true/\Q (.bl (PyData.eqv d e)) H):=by
 intro D3 s FV H x y v u Q I B F h;obtain⟨d,e,h1,h2,n,j,q⟩:=h;obtain⟨M,L⟩:=h1.reads I B;obtain⟨bs,J⟩:=h2.reads I F;exact eq_dataH L J n j G ⟨.bl _,H,I,rfl,q⟩
def TJ(G:X.A.units+64<cLine):GW X (compareOp .NotEq) (λx y H Q=>∃d e,Dt X.K H x d/\Dt X.K H y e/\SeqAt.shaped d=true/\SeqAt.shaped e=true/\Q (.bl (!PyData.eqv d e)) H):=by
 intro D3 s FV H x y v u Q I B F h;obtain⟨d,e,h1,h2,n,j,q⟩:=h;obtain⟨M,L⟩:=h1.reads I B;obtain⟨bs,J⟩:=h2.reads I F;exact ne_dataH L J n j G ⟨.bl _,H,I,rfl,q⟩
def F_:Fh X (.builtin "isinstance") (λxs H Q=>∃x n t b,xs=[x,.ty n]/\II X.K H x t/\W.kitOne X.K t (.type n)=some b/\Q (.bl b) H):=by
 intro D3 s FV H xs us Q I r h;obtain⟨x,n,t,b,rfl,ty,e,q⟩:=h;obtain⟨u,F,rfl,B,j⟩:=vals2 r;cases j;exact J6 I B ty e λG=>⟨.bl b,H,I.tok _,rfl,q⟩
end
structure QI(P:Program)(w:World)(K:W.Frag)(mg:rX)(base:Heap)(k:Nat)(x:Str)(ps:rj)(sp:Sp):Prop where
 ex:∃f fd,FA P w K mg base Lu k f fd ps sp/\Binds K fd ps []/\W.keepIn K (.ref f)=true/\mg x=some (.ref f)
def TQ{P:Program}{w:World}{mg:rX}{base:Heap}{k:Nat}{x:Str}{ps:rj}{sp:Sp}{st:Stmt}{f:Addr}(F:IS K x x st f fd)
  (n:mg x=some (.ref f)) (j:Binds K fd ps []) (G:FA P w K mg base Lu k f fd ps sp):QI P w K mg base k x ps sp:=⟨f,fd,G,j,F.kp,n⟩
def iB{X:Cx}{k j:Nat}{x:Str}{ps:rj}{sp:Sp}{p pos:Pos}{e:Expr}{es:rh}{t:TA}(c:QI X.prog X.w X.K X.mg X.base k x ps sp)(U:EU j X.A)(J:PA X (e::es) t)(n:autoParam (k<=j) r1_)(L:autoParam (Gl X x) r0_)
  (q:autoParam (Kt x) r1_) (F:autoParam (HK X e es) r0_) (M:autoParam (Lo X pos es) r0_):
  PE X (.Call (.Name x p) (e::es) [] pos) (gB sp [] E0 t):=by
 obtain⟨f,fd,G,B,I,O⟩:=c.ex;exact QK G (U.mono n) L O I B .nil xU J q F M
def aM{H:Hp}{p:Addr}(h:H p=none)(o:HO):D8 H (upd H p o):=λb u q=>by rw[aG (aF q h)];exact q
def D8.new{H H':Hp}{p:Addr}(s:D8 H H')(h:H' p=none)(o:HO):D8 H (upd H' p o):=s.trans (aM h o)
def D8.over{H H':Hp}{p:Addr}(s:D8 H H')(h:H p=none)(o:HO):D8 H (upd H' p o):=λb u q=>by rw[aG (aF q h)];exact s b u q
def cT{n:Nat}(h:n<=1000000):n<sizeLine:=ii h (by decide)
section
variable (K:W.Frag){X:Cx}
theorem tu(h:autoParam (X.K=K) r0_):TC X (wG K):=by subst h;exact Pw
theorem Q0(h:autoParam (X.K=K) r0_):TC X (HY K):=by subst h;exact TH
theorem qQ(h:autoParam (X.K=K) r0_):Fh X (.builtin "len") (λxs H Q=>∃p ys,xs=[.ref p]/\(Fc K H p ys\/GN K H p ys)/\Q (.int ys.length) H):=by subst h;exact uK
theorem ju{e:Expr}{f:Str}{pos:Pos}{ta:TE}(n:PE X e ta)(j:autoParam (SY X e f) r0_)(h:autoParam (X.K=K) r0_):PE X (.Attribute e f pos) (mG K ta f):=by subst h;exact J5 n j
theorem De{o e:Expr}{es:rh}{to:TE}{t:TA}{name:Str}{apos EN:Pos}{T id:String}{r:V->List V->Hp->VK->Prop}(O:PlainAttrs T)(j:Slot T name id)(F:typeOf (.builtin id)=pure (.type "method_descriptor"))(L:MtR X id r)(I:PE X o to)(q:PA X (e::es) t)
  (J:autoParam (SY X o name) r0_)
  (M:autoParam (Zb X EN (e::es)) r0_)
  (B:autoParam ((apos.endLine == EN.line)=true) r0_) (G:autoParam (HK X e es) r0_) (n:autoParam (Lo X EN es) r0_) (h:autoParam (X.K=K) r0_):
  PE X (.Call (.Attribute o name apos) (e::es) [] EN) (Zk K T r to t):=by subst h;exact Br O j F L I q J M B G n
end
noncomputable def qY(x:Str)(lo hi:Option Int):Str:=⟨((x.cps.toList.drop (HT.ES x.length 0 lo)).take (HT.ES x.length x.length hi - HT.ES x.length 0 lo)).toArray⟩
def Q3(lo hi:Option Int)(n:Nat):Builtin.Str.strSliceIndices lo hi 1 n=(List.range (HT.ES n n hi - HT.ES n 0 lo)).map (HT.ES n 0 lo+·):=by
 rw[←sliceRange_one];unfold Builtin.Str.strSliceIndices;have cl:∀(o:Option Int) (d:Nat),d<=n->(match o with|none=>(d:Int)|some i=>let i:=if i<0 then i+(n:Int)else i;if(1:Int)>0 then max 0 (min i (n:Int))else max (-1) (min i ((n:Int) - 1)))=((HT.ES n d o:Nat):Int):=λo d B=>by
  cases o with
  |none=>rfl
  |some i=>
   simp only[HT.ES,show(1:Int)>0 by decide,fE];by_cases h:i<0
   ·simp only[h,fE]<;>omega
   ·simp only[h,fw]<;>omega
 have j:=cl lo 0 (cq _);have q:=cl hi n (aI _);simp only[show(1:Int)>0 by decide,fE]at j q ⊢;exact congr (gg sliceRange j) q▸rfl
def Ng(x:Str)(t:Tok)(l u:Option (Int×Tok)){Q:oT}{s:Shared}(F:x.length<=sizeLine)
  (h:∀t' s',(s'=s\/s'={s with toks:=s.toks+1})->Q (.str (qY x (l.map (·.1)) (u.map (·.1))) t') s'):(sliceMade x t l u none).post Q s:=by
 unfold sliceMade slicePicked;have e:Builtin.Str.strSliceIndices (l.map (·.1)) (u.map (·.1)) ((((none:Option (Int×Tok)).map (·.1)).getD 1)) x.length=_:=Q3 (l.map (·.1)) (u.map (·.1)) x.length;rw[e];have q:=pick_run x.cps (HT.ES x.length 0 (l.map (·.1))) (HT.ES x.length x.length (u.map (·.1)) - HT.ES x.length 0 (l.map (·.1)));have B:HT.ES x.length x.length (u.map (·.1))<=x.length:=HT.Tx _ _ (aI _) _;have j:x.length=x.cps.toList.length:=by simp[Str.length]
 by_cases hw:((((none:Option (Int×Tok)).map (·.1)).getD 1 == 1&&((List.range (HT.ES x.length x.length (u.map (·.1)) - HT.ES x.length 0 (l.map (·.1)))).map (HT.ES x.length 0 (l.map (·.1))+·)).length == x.length)=true)
 ·rw[bS hw]
  show Q (.str x t) s;have n:HT.ES x.length x.length (u.map (·.1)) - HT.ES x.length 0 (l.map (·.1))=x.length:=by
   have:=(cE _ _▸hw).2;simpa using this
  have e2:qY x (l.map (·.1)) (u.map (·.1))=x:=by
   unfold qY;rw[n];by_cases h0:x.length=0
   ·have:x.cps.toList=[]:=ic (by omega)
    cases x with|mk c=>simp at this;subst this;simp
   ·have h1:HT.ES x.length 0 (l.map (·.1))=0:=by omega
    rw[h1,List.drop_zero,j,oy]
  have:=h t s (.inl rfl);rw[e2]at this;exact this
 ·rw[br hw,q]
  refine⟨?_,h _ _ (.inr rfl)⟩;show((x.cps.toList.drop _).take _).toArray.size<=sizeLine;rw[bb,js,jv,←j];omega
section
variable {X:Cx}
def TV:V->Option Int->Option Int->Hp->VK->Prop:=λx lo hi H Q=>∃z,x=.str z/\z.length<=sizeLine/\Q (.str (qY z lo hi)) H
def TX:TB X TV:=by
 intro D3 s FV H x v J L lo hi M Q I B G pl n h;obtain⟨z,rfl,hz,q⟩:=h;obtain⟨t,rfl⟩:=B;refine⟨"str",_,slot_str_getitem.lookup,typeIs_str s z t,?_⟩;have j:∀{v:Value}{o:Option Int},IsPart v o->∃p:Option (Int×Tok),v=partValue p/\p.map (·.1)=o:=λp=>by
  cases p with
  |none=>exact⟨none,rfl,rfl⟩
  |int i t=>exact⟨some (i,t),rfl,rfl⟩
 obtain⟨l,rfl,rfl⟩:=j pl;obtain⟨u,rfl,rfl⟩:=j n;refine wpAny_getItem_str_slice (l:=l) (u:=u) (st:=none) G rfl (Ng z t l u hz λt' s' F=>?_);rcases F with rfl|rfl
 ·exact⟨.str (qY z (l.map (·.1)) (u.map (·.1))),H,I,⟨t',rfl⟩,q⟩
 ·exact⟨.str (qY z (l.map (·.1)) (u.map (·.1))),H,I.tok _,⟨t',rfl⟩,q⟩
def TY(K:W.Frag):V->Option Int->Option Int->Hp->VK->Prop:=λx lo hi H Q=>Tt K x lo hi H Q\/TV x lo hi H Q
def T3:TB X (TY X.K):=YE.or TX
end
end Lake.L2
namespace Lake.MR
open PySem L2
inductive PV where
 |Ee|bl (b:Bool)|int (i:Int)|str (x:Str)
 |lst (xs:List PV)|frz (xs:List PV)|tup (xs:List PV)|ktp (xs:List PV)
 |dK (kvs:List (Key×PV))|dT (kvs:List (List D5×PV))
 |obj (c:Nat) (fs:List (Str×PV))
structure MC where
 K:W.Frag
 cl:Nat->Addr
mutual
inductive Rep(C:MC)(A:se)(H:Hp):V->PV->Prop
 |Ee:Rep C A H .Ee .Ee
 |bl (b:Bool):Rep C A H (.bl b) (.bl b)
 |int (i:Int):Rep C A H (.int i) (.int i)
 |str (x:Str):Rep C A H (.str x) (.str x)
 |lst {a:Addr}{vs:sC}{xs:List PV}:H a=some (.lst vs)->A a->D7 C A H vs xs->Rep C A H (.ref a) (.lst xs)
 |QN {a:Addr}{o:Obj}{vs:sC}{xs:List PV}:H a=some (.frz o (.lst vs))->D7 C A H vs xs->Rep C A H (.ref a) (.frz xs)
 |lstK {a:Addr}{vs:sC}{xs:List PV}:Fc C.K (λ_=>none) a vs->D7 C A H vs xs->Rep C A H (.ref a) (.frz xs)
 |tup {a:Addr}{vs:sC}{xs:List PV}:H a=some (.tup vs)->D7 C A H vs xs->Rep C A H (.ref a) (.tup xs)
 |GY {a:Addr}{vs:sC}{xs:List PV}:LF C.K a vs->D7 C A H vs xs->Rep C A H (.ref a) (.tup xs)
 |tupK {a:Addr}{vs:sC}{xs:List PV}:GN C.K (λ_=>none) a vs->D7 C A H vs xs->Rep C A H (.ref a) (.ktp xs)
 |dK {a:Addr}{kv:List (Key×V)}{kvs:List (Key×PV)}:H a=some (.dK kv)->A a->EZ C A H kv kvs->Rep C A H (.ref a) (.dK kvs)
 |dT {a:Addr}{kv:List (List D5×V)}{kvs:List (List D5×PV)}:H a=some (.dT kv)->A a->EM C A H kv kvs->Rep C A H (.ref a) (.dT kvs)
 |obj {a dx:Addr}{c:Nat}{f:List (Str×V)}{fs:List (Str×PV)}:H a=some (.ins (C.cl c) dx f)->A a->F8 C A H f fs->Rep C A H (.ref a) (.obj c fs)
inductive D7(C:MC)(A:se)(H:Hp):List V->List PV->Prop
 |nil:D7 C A H [] []
 |cons {v:V}{p:PV}{vs:sC}{ps:List PV}:Rep C A H v p->D7 C A H vs ps->D7 C A H (v::vs) (p::ps)
inductive EZ(C:MC)(A:se)(H:Hp):List (Key×V)->List (Key×PV)->Prop
 |nil:EZ C A H [] []
 |cons {k:Key}{v:V}{p:PV}{vs:List (Key×V)}{ps:List (Key×PV)}:Rep C A H v p->EZ C A H vs ps->EZ C A H ((k,v)::vs) ((k,p)::ps)
inductive EM(C:MC)(A:se)(H:Hp):List (List D5×V)->List (List D5×PV)->Prop
 |nil:EM C A H [] []
 |cons {k:List D5}{v:V}{p:PV}{vs:List (List D5×V)}{ps:List (List D5×PV)}:Rep C A H v p->EM C A H vs ps->EM C A H ((k,v)::vs) ((k,p)::ps)
inductive F8(C:MC)(A:se)(H:Hp):List (Str×V)->List (Str×PV)->Prop
 |nil:F8 C A H [] []
 |cons {k:Str}{v:V}{p:PV}{vs:List (Str×V)}{ps:List (Str×PV)}:Rep C A H v p->F8 C A H vs ps->F8 C A H ((k,v)::vs) ((k,p)::ps)
end
noncomputable def jP:HO->Bool
 |.lst _=>true
 |.dK _=>true
 |.dT _=>true
 |.ins _ _ _=>true
 |_=>false
def Ex(A:se)(H:Hp)(A':se)(H':Hp):Prop:=∀a o,H a=some o->(A a->H' a=some o/\A' a)/\(jP o=false->H' a=some o)
def Ex.refl(A:se)(H:Hp):Ex A H A H:=λa o h=>⟨λq=>⟨h,q⟩,λ_=>h⟩
variable {A:se}{H:Hp}
def Ex.trans{B C:se}{I J:Hp}(e:Ex A H B I)(f:Ex B I C J):Ex A H C J:=λa o h=>⟨λq=>by
 obtain⟨h1,j⟩:=(e a o h).1 q;exact(f a o h1).1 j,λm=>(f a o ((e a o h).2 m)).2 m⟩
variable {H':Hp}
def Ex.of_same(s:D8 H H'):Ex A H A H':=λa o h=>⟨λq=>⟨s a o h,q⟩,λ_=>s a o h⟩
variable {C:MC}{M4:List (List D5×V)->List (List D5×PV)->Prop}
def Rep.nd{M1:V->PV->Prop}{M2:List V->List PV->Prop}{M3:List (Key×V)->List (Key×PV)->Prop}{M5:List (Str×V)->List (Str×PV)->Prop}(M:M1 .Ee .Ee)(L:∀b,M1 (.bl b) (.bl b))(O:∀i,M1 (.int i) (.int i))(n:∀x,M1 (.str x) (.str x))
  (a5:∀{a vs xs},H a=some (.lst vs)->A a->D7 C A H vs xs->M2 vs xs->M1 (.ref a) (.lst xs))(B:∀{a o vs xs},H a=some (.frz o (.lst vs))->D7 C A H vs xs->M2 vs xs->M1 (.ref a) (.frz xs))(U:∀{a vs xs},Fc C.K (λ_=>none) a vs->D7 C A H vs xs->M2 vs xs->M1 (.ref a) (.frz xs))
  (J:∀{a vs xs},H a=some (.tup vs)->D7 C A H vs xs->M2 vs xs->M1 (.ref a) (.tup xs))(G:∀{a vs xs},LF C.K a vs->D7 C A H vs xs->M2 vs xs->M1 (.ref a) (.tup xs))(b1:∀{a vs xs},GN C.K (λ_=>none) a vs->D7 C A H vs xs->M2 vs xs->M1 (.ref a) (.ktp xs))
  (b2:∀{a kv kvs},H a=some (.dK kv)->A a->EZ C A H kv kvs->M3 kv kvs->M1 (.ref a) (.dK kvs))(b3:∀{a kv kvs},H a=some (.dT kv)->A a->EM C A H kv kvs->M4 kv kvs->M1 (.ref a) (.dT kvs))(I:∀{a dx c f fs},H a=some (.ins (C.cl c) dx f)->A a->F8 C A H f fs->M5 f fs->M1 (.ref a) (.obj c fs))
  (Y:M2 [] [])(Z:∀{v p vs ps},Rep C A H v p->D7 C A H vs ps->M1 v p->M2 vs ps->M2 (v::vs) (p::ps))(c3:M3 [] [])(j:∀{k v p vs ps},Rep C A H v p->EZ C A H vs ps->M1 v p->M3 vs ps->M3 ((k,v)::vs) ((k,p)::ps))
  (c5:M4 [] [])(q:∀{k v p vs ps},Rep C A H v p->EM C A H vs ps->M1 v p->M4 vs ps->M4 ((k,v)::vs) ((k,p)::ps))(F:M5 [] [])(c8:∀{k v p vs ps},Rep C A H v p->F8 C A H vs ps->M1 v p->M5 vs ps->M5 ((k,v)::vs) ((k,p)::ps)):
  (∀{v p},Rep C A H v p->M1 v p)/\(∀{v p},D7 C A H v p->M2 v p)/\(∀{v p},EZ C A H v p->M3 v p)/\(∀{v p},EM C A H v p->M4 v p)/\(∀{v p},F8 C A H v p->M5 v p):=
 ⟨λ{v p} h=>@Rep.rec C A H (λv p _=>M1 v p) (λv p _=>M2 v p) (λv p _=>M3 v p) (λv p _=>M4 v p) (λv p _=>M5 v p) M L O n @a5 @B @U @J @G @b1 @b2 @b3 @I Y @Z c3 @j c5 @q F @c8 v p h,
  λ{v p} h=>@D7.rec C A H (λv p _=>M1 v p) (λv p _=>M2 v p) (λv p _=>M3 v p) (λv p _=>M4 v p) (λv p _=>M5 v p) M L O n @a5 @B @U @J @G @b1 @b2 @b3 @I Y @Z c3 @j c5 @q F @c8 v p h,
  λ{v p} h=>@EZ.rec C A H (λv p _=>M1 v p) (λv p _=>M2 v p) (λv p _=>M3 v p) (λv p _=>M4 v p) (λv p _=>M5 v p) M L O n @a5 @B @U @J @G @b1 @b2 @b3 @I Y @Z c3 @j c5 @q F @c8 v p h,
  λ{v p} h=>@EM.rec C A H (λv p _=>M1 v p) (λv p _=>M2 v p) (λv p _=>M3 v p) (λv p _=>M4 v p) (λv p _=>M5 v p) M L O n @a5 @B @U @J @G @b1 @b2 @b3 @I Y @Z c3 @j c5 @q F @c8 v p h,
  λ{v p} h=>@F8.rec C A H (λv p _=>M1 v p) (λv p _=>M2 v p) (λv p _=>M3 v p) (λv p _=>M4 v p) (λv p _=>M5 v p) M L O n @a5 @B @U @J @G @b1 @b2 @b3 @I Y @Z c3 @j c5 @q F @c8 v p h⟩
variable {A':se}
def Rep.ex5(e:Ex A H A' H'):(∀{v p},Rep C A H v p->Rep C A' H' v p)/\(∀{v p},D7 C A H v p->D7 C A' H' v p)/\(∀{v p},EZ C A H v p->EZ C A' H' v p)/\(∀{v p},EM C A H v p->EM C A' H' v p)/\(∀{v p},F8 C A H v p->F8 C A' H' v p):=
 Rep.nd .Ee .bl .int .str (λh q _ r=>.lst ((e _ _ h).1 q).1 ((e _ _ h).1 q).2 r) (λh _ r=>.QN ((e _ _ h).2 rfl) r) (λh _ r=>.lstK h r) (λh _ r=>.tup ((e _ _ h).2 rfl) r) (λh _ r=>.GY h r) (λh _ r=>.tupK h r)
  (λh q _ r=>.dK ((e _ _ h).1 q).1 ((e _ _ h).1 q).2 r) (λh q _ r=>.dT ((e _ _ h).1 q).1 ((e _ _ h).1 q).2 r) (λh q _ r=>.obj ((e _ _ h).1 q).1 ((e _ _ h).1 q).2 r) .nil (λ_ _ h t=>.cons h t) .nil (λ_ _ h t=>.cons h t) .nil (λ_ _ h t=>.cons h t) .nil (λ_ _ h t=>.cons h t)
variable {v:V}
def Rep.ex(e:Ex A H A' H'){p:PV}:Rep C A H v p->Rep C A' H' v p:=(Rep.ex5 e).1
def D7.ex(e:Ex A H A' H'){v:sC}{p:List PV}:D7 C A H v p->D7 C A' H' v p:=(Rep.ex5 e).2.1
def EZ.ex(e:Ex A H A' H'){v:List (Key×V)}{p:List (Key×PV)}:EZ C A H v p->EZ C A' H' v p:=(Rep.ex5 e).2.2.1
def EM.ex(e:Ex A H A' H'){v:List (List D5×V)}{p:List (List D5×PV)}:EM C A H v p->EM C A' H' v p:=(Rep.ex5 e).2.2.2.1
def F8.ex(e:Ex A H A' H'){v:List (Str×V)}{p:List (Str×PV)}:F8 C A H v p->F8 C A' H' v p:=(Rep.ex5 e).2.2.2.2
def bB(h:∀a o,H a=some o->A a->A' a):Ex A H A' H:=λa o e=>⟨λq=>⟨e,h a o e q⟩,λ_=>e⟩
theorem D7.length{C:MC}{A:se}{H:Hp}:∀{vs:sC}{ps:List PV},D7 C A H vs ps->vs.length=ps.length
 |_,_,.nil=>rfl
 |_,_,.cons _ t=>by simp[D7.length t]
theorem D7.append{C:MC}{A:se}{H:Hp}:∀{vs us:sC}{ps qs:List PV},D7 C A H vs ps->D7 C A H us qs->D7 C A H (vs++us) (ps++qs)
 |_,_,_,_,.nil,h=>h
 |_,_,_,_,.cons h t,r=>.cons h (D7.append t r)
theorem D7.get{C:MC}{A:se}{H:Hp}:∀{vs:sC}{ps:List PV}{i:Nat}{p:PV},D7 C A H vs ps->ps[i]?=some p->∃v,vs[i]?=some v/\Rep C A H v p
 |_,_,_,_,.nil,e=>by simp at e
 |_,_,0,_,.cons h t,e=>by simp at e;subst e;exact⟨_,rfl,h⟩
 |_,_,i+1,p,.cons h t,e=>by
  obtain⟨v,e1,r⟩:=D7.get (i:=i) (p:=p) t (by simpa using e);exact⟨v,by simpa using e1,r⟩
theorem D7.get'{C:MC}{A:se}{H:Hp}:∀{vs:sC}{ps:List PV}{i:Nat}{v:V},D7 C A H vs ps->vs[i]?=some v->∃p,ps[i]?=some p/\Rep C A H v p
 |_,_,_,_,.nil,e=>by simp at e
 |_,_,0,_,.cons h t,e=>by simp at e;subst e;exact⟨_,rfl,h⟩
 |_,_,i+1,v,.cons h t,e=>by
  obtain⟨p,e1,r⟩:=D7.get' (i:=i) (v:=v) t (by simpa using e);exact⟨p,by simpa using e1,r⟩
theorem D7.drop{C:MC}{A:se}{H:Hp}:∀{vs:sC}{ps:List PV}(n:Nat),D7 C A H vs ps->D7 C A H (vs.drop n) (ps.drop n)
 |_,_,0,h=>by simpa using h
 |_,_,n+1,.nil=>by simpa using D7.nil
 |_,_,n+1,.cons _ t=>by simpa using D7.drop n t
theorem D7.take{C:MC}{A:se}{H:Hp}:∀{vs:sC}{ps:List PV}(n:Nat),D7 C A H vs ps->D7 C A H (vs.take n) (ps.take n)
 |_,_,0,h=>by simpa using D7.nil
 |_,_,n+1,.nil=>by simpa using D7.nil
 |_,_,n+1,.cons h t=>by simpa using D7.cons h (D7.take n t)
theorem D7.set{C:MC}{A:se}{H:Hp}{v:V}{p:PV}(r:Rep C A H v p):∀{vs:sC}{ps:List PV}(n:Nat),D7 C A H vs ps->D7 C A H (vs.set n v) (ps.set n p)
 |_,_,_,.nil=>.nil
 |_,_,0,.cons _ t=>.cons r t
 |_,_,n+1,.cons h t=>.cons h (D7.set r n t)
theorem D7.reverse{C:MC}{A:se}{H:Hp}:∀{vs:sC}{ps:List PV},D7 C A H vs ps->D7 C A H vs.reverse ps.reverse
 |_,_,.nil=>.nil
 |_,_,.cons h t=>by
  rw[kL,kL];exact(D7.reverse t).append (.cons h .nil)
theorem mK{C:MC}{A:se}{H:Hp}{j:Type}(f:j->V)(g:j->PV)(h:∀x,Rep C A H (f x) (g x)):∀l:List j,D7 C A H (l.map f) (l.map g)
 |[]=>.nil
 |x::l=>.cons (h x) (mK f g h l)
theorem EZ.val{C:MC}{A:se}{H:Hp}{k:Key}:∀{j:List (Key×V)}{kvs:List (Key×PV)},EZ C A H j kvs->(∃v p,dU j k=some v/\(kvs.find? λx=>decide (x.1=k)).map (·.2)=some p/\Rep C A H v p)\/(dU j k=none/\(kvs.find? λx=>decide (x.1=k)).map (·.2)=none)
 |_,_,.nil=>.inr ⟨rfl,rfl⟩
 |_,_,.cons (k:=k') (v:=v) (p:=p) h t=>by
  by_cases e:k'=k
  ·subst e
   exact .inl ⟨v,p,d8 rfl,by simp,h⟩
  ·rw[d9 e,pd (by simpa using e)]
   exact EZ.val t
theorem EM.val{C:MC}{A:se}{H:Hp}{k:List D5}:∀{j:List (List D5×V)}{kvs:List (List D5×PV)},EM C A H j kvs->(∃v p,dU j k=some v/\(kvs.find? λx=>decide (x.1=k)).map (·.2)=some p/\Rep C A H v p)\/(dU j k=none/\(kvs.find? λx=>decide (x.1=k)).map (·.2)=none)
 |_,_,.nil=>.inr ⟨rfl,rfl⟩
 |_,_,.cons (k:=k') (v:=v) (p:=p) h t=>by
  by_cases e:k'=k
  ·subst e
   exact .inl ⟨v,p,d8 rfl,by simp,h⟩
  ·rw[d9 e,pd (by simpa using e)]
   exact EM.val t
theorem F8.look{C:MC}{A:se}{H:Hp}{k:Str}{p:PV}:∀{f:List (Str×V)}{fs:List (Str×PV)},F8 C A H f fs->fs.lookup k=some p->∃v,f.lookup k=some v/\Rep C A H v p
 |_,_,.nil,e=>by cases e
 |_,_,.cons (k:=k') (v:=v) (p:=p') h t,e=>by
  rw[cp]at e ⊢;cases q:k == k' with
  |true=>rw[q]at e;cases e;exact⟨v,rfl,h⟩
  |false=>rw[q]at e;exact F8.look t e
theorem F8.Zp{C:MC}{A:se}{H:Hp}{k:Str}:∀{f:List (Str×V)}{fs:List (Str×PV)},F8 C A H f fs->fs.lookup k=none->f.lookup k=none
 |_,_,.nil,e=>rfl
 |_,_,.cons (k:=k') (v:=v) (p:=p') h t,e=>by
  rw[cp]at e ⊢;cases q:k == k' with
  |true=>rw[q]at e;cases e
  |false=>rw[q]at e;exact F8.Zp t e
def Top(C:MC)(A:se)(H:Hp)(a:Addr):PV->Prop
 |.lst xs=>∃vs,H a=some (.lst vs)/\D7 C A H vs xs
 |.dK kvs=>∃kv,H a=some (.dK kv)/\EZ C A H kv kvs
 |.dT kvs=>∃kv,H a=some (.dT kv)/\EM C A H kv kvs
 |.obj c fs=>∃dx f,H a=some (.ins (C.cl c) dx f)/\F8 C A H f fs
 |_=>False
def Top.ex{C:MC}{A A':se}{H H':Hp}{a:Addr}{p:PV}(e:Ex A H A' H')(h:∀o,H a=some o->H' a=some o)(t:Top C A H a p):Top C A' H' a p:=by
 cases p with
 |lst xs=>obtain⟨vs,q,r⟩:=t;exact⟨vs,h _ q,r.ex e⟩
 |dK kvs=>obtain⟨vs,q,r⟩:=t;exact⟨vs,h _ q,r.ex e⟩
 |dT kvs=>obtain⟨vs,q,r⟩:=t;exact⟨vs,h _ q,r.ex e⟩
 |obj c fs=>obtain⟨dx,f,q,r⟩:=t;exact⟨dx,f,h _ q,r.ex e⟩
 |_=>exact t
variable {a:Addr}
def Top.live{p:PV}(t:Top C A H a p):∃o,H a=some o/\jP o=true:=by
 cases p with
 |lst xs=>obtain⟨vs,q,r⟩:=t;exact⟨_,q,rfl⟩
 |dK kvs=>obtain⟨vs,q,r⟩:=t;exact⟨_,q,rfl⟩
 |dT kvs=>obtain⟨vs,q,r⟩:=t;exact⟨_,q,rfl⟩
 |obj c fs=>obtain⟨dx,f,q,r⟩:=t;exact⟨_,q,rfl⟩
 |_=>exact t.elim
def Top.rep{p:PV}(t:Top C A H a p)(h:A a):Rep C A H (.ref a) p:=by
 cases p with
 |lst xs=>obtain⟨vs,q,r⟩:=t;exact .lst q h r
 |dK kvs=>obtain⟨vs,q,r⟩:=t;exact .dK q h r
 |dT kvs=>obtain⟨vs,q,r⟩:=t;exact .dT q h r
 |obj c fs=>obtain⟨dx,f,q,r⟩:=t;exact .obj q h r
 |_=>exact t.elim
def EB(C:MC)(A:se)(H:Hp)(v:V)(p:PV):Prop:=Rep C A H v p\/∃a,v=.ref a/\Top C A H a p
def EB.ex{C:MC}{A A':se}{H H':Hp}{v:V}{p:PV}(e:Ex A H A' H')(s:D8 H H')(h:EB C A H v p):EB C A' H' v p:=by
 rcases h with h|⟨a,q,t⟩
 ·exact .inl (h.ex e)
 ·exact .inr ⟨a,q,t.ex e λo z=>s _ _ z⟩
variable {K:W.Frag}{vs:sC}
section
variable {C:MC}{A:se}{H:Hp}{v:V}
def sqK(h:Fc K (λ_=>none) a vs):Fc K H a vs:=by
 rcases h with(h|⟨o,h⟩)|h
 ·cases h
 ·cases h
 ·exact .inr h
def qb(h:GN K (λ_=>none) a vs):GN K H a vs:=by
 rcases h with(h|⟨o,h⟩)|h
 ·cases h
 ·cases h
 ·exact .inr h
def EB.lst{xs:List PV}(h:EB C A H v (.lst xs)):∃a vs,v=.ref a/\H a=some (.lst vs)/\D7 C A H vs xs:=by
 rcases h with h|⟨a,rfl,vs,q,r⟩
 ·cases h with
  |lst q _ r=>exact⟨_,_,rfl,q,r⟩
 ·exact⟨a,vs,rfl,q,r⟩
def EB.frz{xs:List PV}(h:EB C A H v (.frz xs)):∃a vs,v=.ref a/\Fc C.K H a vs/\D7 C A H vs xs:=by
 rcases h with h|⟨a,rfl,t⟩
 ·cases h with
  |QN q r=>exact⟨_,_,rfl,.inl (.inr ⟨_,q⟩),r⟩
  |lstK q r=>exact⟨_,_,rfl,sqK q,r⟩
 ·exact t.elim
def IJ(K:W.Frag)(H:Hp)(a:Addr)(vs:sC):Prop:=H a=some (.tup vs)\/LF K a vs
def IJ.sq{H:Hp}(h:IJ K H a vs):GN K H a vs:=h.elim (λq=>GN.of q) fg
def IJ.rep{C:MC}{A:se}{H:Hp}{xs:List PV}(h:IJ C.K H a vs)(r:D7 C A H vs xs):Rep C A H (.ref a) (.tup xs):=h.elim (λq=>.tup q r) λq=>.GY q r
def IJ.ex{A:se}{H:Hp}(h:IJ K H a vs)(e:Ex A H A' H'):IJ K H' a vs:=h.imp (λq=>(e _ _ q).2 rfl) id
def IJ.up{H:Hp}(h:IJ K H a vs)(s:D8 H H'):IJ K H' a vs:=h.imp (λq=>s _ _ q) id
def IJ.key{H:Hp}{ks:List D5}(h:IJ K H a vs)(k:MS K H ks vs):GI K H a ks:=h.imp (λq=>⟨vs,q,k⟩) λq=>⟨vs,q,k⟩
def EB.tup{xs:List PV}(h:EB C A H v (.tup xs)):∃a vs,v=.ref a/\IJ C.K H a vs/\D7 C A H vs xs:=by
 rcases h with h|⟨a,rfl,t⟩
 ·cases h with
  |tup q r=>exact⟨_,_,rfl,.inl q,r⟩
  |GY q r=>exact⟨_,_,rfl,.inr q,r⟩
 ·exact t.elim
def EB.ktp{xs:List PV}(h:EB C A H v (.ktp xs)):∃a vs,v=.ref a/\GN C.K H a vs/\D7 C A H vs xs:=by
 rcases h with h|⟨a,rfl,t⟩
 ·cases h with
  |tupK q r=>exact⟨_,_,rfl,qb q,r⟩
 ·exact t.elim
def EB.dK{kvs:List (Key×PV)}(h:EB C A H v (.dK kvs)):∃a j,v=.ref a/\H a=some (.dK j)/\EZ C A H j kvs:=by
 rcases h with h|⟨a,rfl,vs,q,r⟩
 ·cases h with
  |dK q _ r=>exact⟨_,_,rfl,q,r⟩
 ·exact⟨a,vs,rfl,q,r⟩
def EB.dT{kvs:List (List D5×PV)}(h:EB C A H v (.dT kvs)):∃a j,v=.ref a/\H a=some (.dT j)/\EM C A H j kvs:=by
 rcases h with h|⟨a,rfl,vs,q,r⟩
 ·cases h with
  |dT q _ r=>exact⟨_,_,rfl,q,r⟩
 ·exact⟨a,vs,rfl,q,r⟩
def EB.obj{c:Nat}{fs:List (Str×PV)}(h:EB C A H v (.obj c fs)):∃a dx f,v=.ref a/\H a=some (.ins (C.cl c) dx f)/\F8 C A H f fs:=by
 rcases h with h|⟨a,rfl,dx,vs,q,r⟩
 ·cases h with
  |obj q _ r=>exact⟨_,_,_,rfl,q,r⟩
 ·exact⟨a,dx,vs,rfl,q,r⟩
def EB.int{i:Int}(h:EB C A H v (.int i)):v=.int i:=by
 rcases h with h|⟨a,rfl,t⟩
 ·cases h;rfl
 ·exact t.elim
def EB.str{x:Str}(h:EB C A H v (.str x)):v=.str x:=by
 rcases h with h|⟨a,rfl,t⟩
 ·cases h;rfl
 ·exact t.elim
def EB.bl{x:Bool}(h:EB C A H v (.bl x)):v=.bl x:=by
 rcases h with h|⟨a,rfl,t⟩
 ·cases h;rfl
 ·exact t.elim
def EB.Ee(h:EB C A H v .Ee):v=.Ee:=by
 rcases h with h|⟨a,rfl,t⟩
 ·cases h;rfl
 ·exact t.elim
end
structure BX where
 C:MC
 A:Addr->Prop
 H0:Hp
 fx:Nat->Option V
abbrev Env:=List (Option PV)
abbrev sB:=List (List D5×PV)
abbrev sA:=List PV
abbrev sx:=PV->PV->Option PV
abbrev sw:=Env->Option (List PV)
abbrev sv:=Env->Option Bool
abbrev sj:=List PV->Option PV
abbrev si:=Env->Option PV
def Bs(b:BX)(Ow:se)(a:Addr):Prop:=¬ Ow a/\(b.A a\/b.H0 a=none)
structure ER(b:BX)(Ow:se)(G:qV)(FV:St)(env:Env)(H:Hp):Prop where
 len:FV.length=env.length
 same:D8 b.H0 H
 live:∀a,Ow a->∃o,H a=some o
 new:∀a,Ow a->b.H0 a=none
 val:∀i p,env[i]?=some (some p)->i∉G->∃v,FV[i]?=some (some v)/\Rep b.C (Bs b Ow) H v p
 own:∀i p,env[i]?=some (some p)->i∈G->∃a,FV[i]?=some (some (.ref a))/\Ow a/\Top b.C (Bs b Ow) H a p
 sep:∀i j a p q,env[i]?=some (some p)->i∈G->FV[i]?=some (some (.ref a))->env[j]?=some (some q)->j∈G->FV[j]?=some (some (.ref a))->i=j
 fix:∀i v,b.fx i=some v->FV[i]?=some (some v)
inductive Md where|val|own|bor
def Res(b:BX)(Ow:se)(H H':Hp)(m:Md)(v:V)(p:PV):Prop:=match m with
 |.val=>Rep b.C (Bs b Ow) H' v p
 |.own=>∃a,v=.ref a/\H a=none/\Top b.C (λc=>Bs b Ow c/\c≠a) H' a p
 |.bor=>EB b.C (Bs b Ow) H' v p
inductive tM(b:BX)(G:qV)(m:Md)(f:si)(FV:St)(H:Hp)(Q:VK):Prop
 |mk (Ow:se) (env:Env) (p:PV) (E:ER b Ow G FV env H) (hf:f env=some p) (k:∀v H',D8 H H'->Res b Ow H H' m v p->Q v H'):tM b G m f FV H Q
inductive YK(b:BX)(G:qV)(f:sv)(FV:St)(H:Hp)(Q:Bool->Hp->Prop):Prop
 |mk (Ow:se) (env:Env) (c:Bool) (E:ER b Ow G FV env H) (hf:f env=some c) (k:∀H',D8 H H'->Q c H'):YK b G f FV H Q
section
variable {b:BX}{Ow:se}{G:qV}{FV:St}{env:Env}{H H':Hp}
def ER.up(E:ER b Ow G FV env H)(s:D8 H H'):ER b Ow G FV env H':=
 ⟨E.len,E.same.trans s,λa h=>let ⟨o,e⟩:=E.live a h;⟨o,s _ _ e⟩,E.new,λi p h n=>let ⟨v,e,r⟩:=E.val i p h n;⟨v,e,r.ex (.of_same s)⟩,
  λi p h n=>let ⟨a,e,w,t⟩:=E.own i p h n;⟨a,e,w,t.ex (.of_same s) λo z=>s _ _ z⟩,E.sep,E.fix⟩
def ER.fresh(E:ER b Ow G FV env H)(h:H a=none):Bs b Ow a:=
 ⟨λw=>(by obtain⟨o,e⟩:=E.live a w;rw[h]at e;cases e),.inr (E.same.free h)⟩
def Res.val{m:Md}{v:V}{p:PV}(E:ER b Ow G FV env H)(n:m≠.bor)(r:Res b Ow H H' m v p):Res b Ow H H' .val v p:=by
 cases m with
 |val=>exact r
 |bor=>exact absurd rfl n
 |own=>
  obtain⟨a,rfl,h,t⟩:=r;have j:Ex (λc=>Bs b Ow c/\c≠a) H' (Bs b Ow) H':=bB λ_ _ _ z=>z.1;exact(t.ex j λo z=>z).rep (E.fresh h)
def Res.bor{m:Md}{v:V}{p:PV}(r:Res b Ow H H' m v p):Res b Ow H H' .bor v p:=by
 cases m with
 |val=>exact .inl r
 |bor=>exact r
 |own=>
  obtain⟨a,rfl,h,t⟩:=r;have j:Ex (λc=>Bs b Ow c/\c≠a) H' (Bs b Ow) H':=bB λ_ _ _ z=>z.1;exact .inr ⟨a,rfl,t.ex j λo z=>z⟩
def Res.up{m:Md}{p:PV}{j:Hp}(r:Res b Ow H H' m v p)(s:D8 H' j):Res b Ow H j m v p:=by
 cases m with
 |val=>exact Rep.ex (.of_same s) r
 |bor=>exact EB.ex (.of_same s) s r
 |own=>
  obtain⟨a,e,h,t⟩:=r;exact⟨a,e,h,t.ex (.of_same s) λo z=>s _ _ z⟩
def Res.down{m:Md}{p:PV}{j:Hp}(s:D8 H H')(r:Res b Ow H' j m v p):Res b Ow H j m v p:=by
 cases m with
 |val=>exact r
 |bor=>exact r
 |own=>
  obtain⟨a,e,h,t⟩:=r;exact⟨a,e,s.free h,t⟩
end
variable {X:Cx}
def PE.imp{e:Expr}{t u:TE}(h:PE X e t)(i:∀ FV H Q,u FV H Q->t FV H Q):PE X e u:=λD3 s FV H Q I q=>h D3 s FV H Q I (i FV H Q q)
def PT.imp{e:Expr}{t u:TT}(h:PT X e t)(i:∀ FV H Q,u FV H Q->t FV H Q):PT X e u:=λD3 s FV H Q I q=>h D3 s FV H Q I (i FV H Q q)
def PS.imp{e:Stmt}{t u:TS}(h:PS X e t)(i:∀D FV H,u D FV H->t D FV H):PS X e u:=λD3 s FV H D I q=>h D3 s FV H D I (i D FV H q)
def PE.or{e:Expr}{t u:TE}(h:PE X e t)(h':PE X e u):PE X e (fun FV H Q=>t FV H Q\/u FV H Q):=λD3 s FV H Q I q=>q.elim (h D3 s FV H Q I) (h' D3 s FV H Q I)
def GW.or{op:Value->Value->Sem Value}{r B:R2}(h:GW X op r)(h':GW X op B):GW X op (λx y H Q=>r x y H Q\/B x y H Q):=λD3 s FV H x y v u Q I j n q=>q.elim (h D3 s FV H x y v u Q I j n) (h' D3 s FV H x y v u Q I j n)
abbrev SE(X:Cx)(b:BX)(G:qV)(m:Md)(e:Expr)(f:si):Prop:=PE X e (tM b G m f)
abbrev ST(X:Cx)(b:BX)(G:qV)(e:Expr)(f:sv):Prop:=PT X e (YK b G f)
def SE.bor{X:Cx}{b:BX}{G:qV}{m:Md}{e:Expr}{f:si}(h:SE X b G m e f):SE X b G .bor e f:=
 PE.imp h fun FV H Q ⟨Ow,env,p,E,hf,k⟩=>⟨Ow,env,p,E,hf,λv H' s r=>k v H' s r.bor⟩
def SE.val{X:Cx}{b:BX}{G:qV}{e:Expr}{f:si}(h:SE X b G .own e f):SE X b G .val e f:=
 PE.imp h fun FV H Q ⟨Ow,env,p,E,hf,k⟩=>⟨Ow,env,p,E,hf,λv H' s r=>k v H' s (r.val E (by intro z;cases z))⟩
noncomputable def bC(p:PV)(env:Env):Option PV:=some p
@[simp] def Ib(p:PV)(env:Env):bC p env=(some p):=id rfl
noncomputable def bV(i:Nat)(env:Env):Option PV:=match env[i]? with|some o=>o|none=>none
@[simp] def Qf(i:Nat)(env:Env):bV i env=(match env[i]? with|some o=>o|none=>none):=id rfl
noncomputable def b1(g:PV->Option PV)(f:si)(env:Env):Option PV:=(f env).bind g
@[simp] def Yh(g:PV->Option PV)(f:si)(env:Env):b1 g f env=((f env).bind g):=id rfl
noncomputable def b2(g:sx)(f h:si)(env:Env):Option PV:=(f env).bind λx=>(h env).bind λy=>g x y
@[simp] def Bu(g:sx)(f h:si)(env:Env):b2 g f h env=((f env).bind λx=>(h env).bind λy=>g x y):=id rfl
noncomputable def b3(g:PV->PV->PV->Option PV)(f h k:si)(env:Env):Option PV:=(f env).bind λx=>(h env).bind λy=>(k env).bind λz=>g x y z
@[simp] def Yi(g:PV->PV->PV->Option PV)(f h k:si)(env:Env):b3 g f h k env=((f env).bind λx=>(h env).bind λy=>(k env).bind λz=>g x y z):=id rfl
noncomputable def uO(f g:si)(env:Env):Option PV:=(f env).bind λx=>match x with|.bl true=>g env|.bl false=>some (.bl false)|_=>none
@[simp] def Xx(f g:si)(env:Env):uO f g env=((f env).bind λx=>match x with|.bl true=>g env|.bl false=>some (.bl false)|_=>none):=id rfl
noncomputable def bOr(f g:si)(env:Env):Option PV:=(f env).bind λx=>match x with|.bl true=>some (.bl true)|.bl false=>g env|_=>none
@[simp] def XX(f g:si)(env:Env):bOr f g env=((f env).bind λx=>match x with|.bl true=>some (.bl true)|.bl false=>g env|_=>none):=id rfl
noncomputable def Yf(c:sv)(f g:si)(env:Env):Option PV:=(c env).bind λx=>if x=true then f env else g env
@[simp] def X4(c:sv)(f g:si)(env:Env):Yf c f g env=((c env).bind λx=>if x=true then f env else g env):=id rfl
noncomputable def tV(f:si)(env:Env):Option Bool:=(f env).bind λx=>match x with|.bl c=>some c|_=>none
@[simp] def Qg(f:si)(env:Env):tV f env=((f env).bind λx=>match x with|.bl c=>some c|_=>none):=id rfl
noncomputable def tA(f g:sv)(env:Env):Option Bool:=(f env).bind λx=>if x=true then g env else some false
@[simp] def Ie(f g:sv)(env:Env):tA f g env=((f env).bind λx=>if x=true then g env else some false):=id rfl
noncomputable def tO(f g:sv)(env:Env):Option Bool:=(f env).bind λx=>if x=true then some true else g env
@[simp] def Yj(f g:sv)(env:Env):tO f g env=((f env).bind λx=>if x=true then some true else g env):=id rfl
noncomputable def tN(f:sv)(env:Env):Option Bool:=(f env).bind λx=>some (!x)
@[simp] def Yk(f:sv)(env:Env):tN f env=((f env).bind λx=>some (!x)):=id rfl
noncomputable def aK(env:Env):Option (List PV):=some []
@[simp] def Q4(env:Env):aK env=(some []):=id rfl
noncomputable def ak(f:si)(g:sw)(env:Env):Option (List PV):=(f env).bind λx=>(g env).bind λxs=>some (x::xs)
abbrev DU(n:Int):=bC (.int n)
abbrev DZ(i:Nat):=ak (bV i)
@[simp] def Nh(f:si)(g:sw)(env:Env):ak f g env=((f env).bind λx=>(g env).bind λxs=>some (x::xs)):=id rfl
noncomputable def e_(g:sw)(env:Env):Option PV:=(g env).bind λxs=>if xs.length<=1000000 then some (.lst xs)else none
@[simp] def Xy(g:sw)(env:Env):e_ g env=((g env).bind λxs=>if xs.length<=1000000 then some (.lst xs)else none):=id rfl
noncomputable def bR(g:sw)(env:Env):Option PV:=(g env).bind λxs=>if xs.length<=1000000 then some (.tup xs)else none
@[simp] def Xz(g:sw)(env:Env):bR g env=((g env).bind λxs=>if xs.length<=1000000 then some (.tup xs)else none):=id rfl
noncomputable def aW(m:sj)(g:sw)(env:Env):Option PV:=(g env).bind m
@[simp] def Ni(m:sj)(g:sw)(env:Env):aW m g env=((g env).bind m):=id rfl
section
variable {b:BX}{G:qV}{m:Md}{FV:St}{H:Hp}{Q:VK}
def Mc(b:BX)(m:Md)(r:R2)(g:sx):Prop:=∀(Ow:se) (H:Hp) (v1 v2:V) (p1 p2 p:PV) (Q:VK),(∀a,H a=none->Bs b Ow a)->EB b.C (Bs b Ow) H v1 p1->EB b.C (Bs b Ow) H v2 p2->g p1 p2=some p->
 (∀v H',D8 H H'->Res b Ow H H' m v p->Q v H')->r v1 v2 H Q
def Ig{r:R2}{g:sx}{F B:si}(J:Mc b m r g)(h:tM b G m (b2 g F B) FV H Q):QE r (tM b G .bor F) (tM b G .bor B) FV H Q:=by
 obtain⟨Ow,env,p,E,j,k⟩:=h;unfold b2 at j;cases h1:F env with
 |none=>rw[h1]at j;cases j
 |some p1=>
  rw[h1]at j;cases h2:B env with
  |none=>rw[h2]at j;cases j
  |some p2=>
   rw[h2]at j;exact⟨Ow,env,p1,E,h1,λO H1 q M=>⟨Ow,env,p2,E.up q,h2,λI H2 n L=>J Ow H2 O I p1 p2 p Q (λa=>(E.up (q.trans n)).fresh) (M.up n) L j λv H' s r=>k v H' (q.trans (n.trans s)) (r.down (q.trans n))⟩⟩
def Op1(b:BX)(m:Md)(r:V->Hp->VK->Prop)(g:PV->Option PV):Prop:=∀(Ow:se) (H:Hp) (v1:V) (p1 p:PV) (Q:VK),(∀a,H a=none->Bs b Ow a)->EB b.C (Bs b Ow) H v1 p1->g p1=some p->
 (∀v H',D8 H H'->Res b Ow H H' m v p->Q v H')->r v1 H Q
def Ih{r:V->Hp->VK->Prop}{g:PV->Option PV}{q:si}(B:Op1 b m r g)(h:tM b G m (b1 g q) FV H Q):tM b G .bor q FV H λx H1=>r x H1 Q:=by
 obtain⟨Ow,env,p,E,j,k⟩:=h;unfold b1 at j;cases h1:q env with
 |none=>rw[h1]at j;cases j
 |some p1=>
  rw[h1]at j;exact⟨Ow,env,p1,E,h1,λI H1 n F=>B Ow H1 I p1 p Q (λa=>(E.up n).fresh) F j λv H' s r=>k v H' (n.trans s) (r.down n)⟩
end
@[simp] noncomputable def iR:PV->PV->Option PV
 |.int i,.int j=>some (.int (i+j))
 |.str x,.str y=>if x.length+y.length<=1000000 then some (.str (x++y))else none
 |.lst xs,.lst ys=>if xs.length+ys.length<=1000000 then some (.lst (xs++ys))else none
 |_,_=>none
@[simp] noncomputable def Ii:PV->PV->Option PV
 |.lst xs,.lst ys=>if xs.length+ys.length<=1000000 then some (.lst (xs++ys))else none
 |_,_=>none
noncomputable def T4:PV->PV->Option PV
 |.tup xs,.tup ys=>if xs≠[]/\xs.length+ys.length<=1000000 then some (.tup (xs++ys))else none
 |_,_=>none
@[simp] noncomputable def YL:PV->PV->Option PV
 |.int i,.int j=>some (.int (i - j))
 |_,_=>none
noncomputable def YM(i:Int):Bool:=@decide (-18446744073709551616<i/\i<18446744073709551616) (Classical.propDecidable _)
@[simp] noncomputable def wI:PV->PV->Option PV
 |.int i,.int j=>if(YM i||YM j)=true then some (.int (i*j))else none
 |_,_=>none
@[simp] noncomputable def jd:PV->PV->Option PV
 |.int i,.int j=>if 0<j/\j<1073741824 then some (.int (i / j))else none
 |_,_=>none
@[simp] noncomputable def dI:PV->PV->Option PV
 |.int i,.int j=>if 0<j then some (.int (i%j))else none
 |_,_=>none
@[simp] noncomputable def qd(g:Int->Int->Bool):PV->PV->Option PV
 |.int i,.int j=>some (.bl (g i j))
 |_,_=>none
def iH{n:Nat}(h:n<=1000000):n<=sizeLine:=gz (cT h)
section
variable {b:BX}
def Q5{g:Int->Int->Int}{f:sx}(B:∀x y p,f x y=some p->∃i j,x=.int i/\y=.int j/\p=.int (g i j)):Mc b .val (S4 λi j=>.int (g i j)) f:=by
 intro Ow H J I p1 p2 p Q F q n e k;obtain⟨i,j,rfl,rfl,rfl⟩:=B _ _ _ e;rw[q.int,n.int];exact⟨i,j,rfl,rfl,k _ H (D8.refl _) (.int _)⟩
def Kr{g:Int->Int->Bool}:Mc b .val (S4 λi j=>.bl (g i j)) (qd g):=by
 intro Ow H I F p1 p2 p Q B q n e k;unfold qd at e;split at e
 ·cases e
  rw[q.int,n.int];exact⟨_,_,rfl,rfl,k _ H (D8.refl _) (.bl _)⟩
 ·cases e
def T5:Mc b .val (S4 λi j=>.int (i - j)) YL:=Q5 λx y p e=>by
 unfold YL at e;split at e
 ·cases e;exact⟨_,_,rfl,rfl,rfl⟩
 ·cases e
set_option tactic.hygienic true in def T6:Mc b .val (rI YB λi j=>.int (i*j)) wI:=by
 intro Ow H I F p1 p2 p Q B n q e k;unfold wI at e;split at e
 ·split at e
  ·rename_i h
   cases e;rw[n.int,q.int];refine⟨_,_,rfl,rfl,?_,k _ H (D8.refl _) (.int _)⟩;simp only[YM,Bool.or_eq_true,nE]at h;exact h
  ·cases e
 ·cases e
def xY{i:Int}(h:-18446744073709551616<i)(h':i<18446744073709551616):YM i=true:=@eP _ (Classical.propDecidable _) ⟨h,h'⟩
set_option tactic.hygienic true in def T7:Mc b .val (rI S7 λi j=>.int (i / j)) jd:=by
 intro Ow H I F p1 p2 p Q B n q e k;unfold jd at e;split at e
 ·split at e
  ·rename_i h
   cases e;rw[n.int,q.int];exact⟨_,_,rfl,rfl,h,k _ H (D8.refl _) (.int _)⟩
  ·cases e
 ·cases e
set_option tactic.hygienic true in def T8:Mc b .val (rI (λ_ j=>0<j) λi j=>.int (i%j)) dI:=by
 intro Ow H I F p1 p2 p Q B q n e k;unfold dI at e;split at e
 ·split at e
  ·rename_i h
   cases e;rw[q.int,n.int];exact⟨_,_,rfl,rfl,h,k _ H (D8.refl _) (.int _)⟩
  ·cases e
 ·cases e
end
variable {Ow:se}
def f9{b:BX}{xs:sA}(h:H a=none)(r:D7 b.C (Bs b Ow) H vs xs):Res b Ow H (upd H a (.lst vs)) .own (.ref a) (.lst xs):=by
 refine⟨a,rfl,h,vs,aB,r.ex λc o e=>?_⟩;have j:c≠a:=aF e h;exact⟨λq=>⟨by rw[aG j];exact e,q,j⟩,λ_=>by rw[aG j];exact e⟩
def rW{b:BX}{H0:Hp}{xs:sA}(h:H a=none)(r:D7 b.C (Bs b Ow) H vs xs):Res b Ow H0 (upd H a (.tup vs)) .val (.ref a) (.tup xs):=
 Rep.tup aB (r.ex (.of_same (aM h _)))
section
variable {b:BX}
set_option tactic.hygienic true in def T9:Mc b .val (λx y H Q=>(S4 (λi j=>.int (i+j)) x y H Q\/∃i j,x=.str i/\y=.str j/\i.length+j.length<=sizeLine/\Q (.str (i++j)) H)\/M_ x y H Q) iR:=by
 intro Ow H Y U p1 p2 p Q L F n e k;unfold iR at e;split at e
 ·cases e
  rw[F.int,n.int];exact .inl (.inl ⟨_,_,rfl,rfl,k _ H (D8.refl _) (.int _)⟩)
 ·split at e
  ·rename_i h
   cases e;rw[F.str,n.str];exact .inl (.inr ⟨_,_,rfl,rfl,iH h,k _ H (D8.refl _) (.str _)⟩)
  ·cases e
 ·split at e
  ·rename_i h
   cases e;obtain⟨a,vs,rfl,O,J⟩:=F.lst;obtain⟨c,us,rfl,M,I⟩:=n.lst;exact .inr ⟨a,c,vs,us,rfl,rfl,O,M,iH (by rw[J.length,I.length];exact h),λq B=>k _ _ (aM B _) (.lst aB (L q B) ((J.append I).ex (.of_same (aM B _))))⟩
  ·cases e
 ·cases e
set_option tactic.hygienic true in def T_:Mc b .own M_ Ii:=by
 intro Ow H U O p1 p2 p Q M L J e k;unfold Ii at e;split at e
 ·split at e
  ·rename_i h
   cases e;obtain⟨a,vs,rfl,I,B⟩:=L.lst;obtain⟨c,us,rfl,F,n⟩:=J.lst;refine⟨a,c,vs,us,rfl,rfl,I,F,iH (by rw[B.length,n.length];exact h),λq j=>k _ _ (aM j _) (f9 j (B.append n))⟩
  ·cases e
 ·cases e
set_option tactic.hygienic true in def Q6:Mc b .val (xR b.C.K) T4:=by
 intro Ow H Y U p1 p2 p Q O M J e k;unfold T4 at e;split at e
 ·split at e
  ·rename_i h
   cases e;obtain⟨a,vs,rfl,B,j⟩:=M.tup;obtain⟨c,us,rfl,I,n⟩:=J.tup;refine⟨a,c,vs,us,rfl,rfl,B.sq,I.sq,?_,iH (by rw[j.length,n.length];exact h.2),λL=>?_,λ_ q F=>k _ _ (aM F _) (rW F (j.append n))⟩;rotate_left
   ·subst L
    cases n;rw[cS]at k;exact k _ H (D8.refl _) (B.rep j)
   intro z;have:=j.length;rw[z]at this;exact h.1 (ox.mp this.symm)
  ·cases e
 ·cases e
end
section
variable {X:Cx}{b:BX}{G:qV}{m:Md}{e e1 e2:Expr}{f f1 f2:si}{pos:Pos}
def ao{i j pos}:SE X b G .val (.Constant (.int i) j pos) (DU i):=PE.imp iz<|by rintro FV H Q ⟨Ow,env,p,E,n,k⟩;cases n;exact k _ H (D8.refl _) (.int i)
def vG{i j pos}:SE X b G .val (.Constant (.bool i) j pos) (bC (.bl i)):=PE.imp V7<|by rintro FV H Q ⟨Ow,env,p,E,n,k⟩;cases n;exact k _ H (D8.refl _) (.bl i)
def aR{i j pos}:SE X b G .val (.Constant (.str i) j pos) (bC (.str i)):=PE.imp Sq<|by rintro FV H Q ⟨Ow,env,p,E,n,k⟩;cases n;exact k _ H (D8.refl _) (.str i)
def bK{j pos}:SE X b G .val (.Constant .none j pos) (bC .Ee):=PE.imp xK<|by rintro FV H Q ⟨Ow,env,p,E,n,k⟩;cases n;exact k _ H (D8.refl _) .Ee
set_option tactic.hygienic true in def iI{i:Nat}{env:Env}{p:PV}(h:bV i env=some p):env[i]?=some (some p):=by
 unfold bV at h;split at h
 ·rename_i o e;rw[e,h]
 ·cases h
def aj(i:Nat){x:Str}{pos:Pos}(q:autoParam (X.N[i]?=some x) r0_)(n:autoParam (S0 X.env.scope x) r5_)(B:autoParam (i∉G) r1_)(F:autoParam (Kt x) r1_)
  (j:autoParam (XZ x) r1_):SE X b G .val (.Name x pos) (bV i):=PE.imp (k_ q n F j)<|by
 rintro FV H Q ⟨Ow,env,p,E,I,k⟩;obtain⟨v,e,r⟩:=E.val i p (iI I) B;exact⟨v,e,k v H (D8.refl _) r⟩
def jJ(i:Nat){x:Str}{pos:Pos}(B:autoParam (X.N[i]?=some x) r0_)(q:autoParam (S0 X.env.scope x) r5_)(F:autoParam (Kt x) r1_)
  (n:autoParam (XZ x) r1_):SE X b G .bor (.Name x pos) (bV i):=PE.imp (k_ B q F n)<|by
 rintro FV H Q ⟨Ow,env,p,E,j,k⟩;by_cases hG:i∈G
 ·obtain⟨a,e,_,t⟩:=E.own i p (iI j) hG
  exact⟨_,e,k _ H (D8.refl _) (.inr ⟨a,rfl,t⟩)⟩
 ·obtain⟨v,e,r⟩:=E.val i p (iI j) hG
  exact⟨v,e,k v H (D8.refl _) (.inl r)⟩
def Wq{x z:Str}{t:Tok}{pos:Pos}(q:X.mg x=some (.str z t))(j:autoParam (Gl X x) r0_)(n:autoParam (Kt x) r1_):SE X b G .val (.Name x pos) (bC (.str z)):=
 PE.imp (mC j q (v:=.str z) ⟨_,rfl⟩ n)<|by rintro FV H Q ⟨Ow,env,p,E,B,k⟩;cases B;exact k _ H (D8.refl _) (.str z)
def Wr{x:Str}{q:PV}{pos:Pos}(j:X.mg x=some (.ref a))(F:∀A H,Rep b.C A H (.ref a) q)(I:autoParam (Gl X x) r0_)(n:autoParam (Kt x) r1_):SE X b G .val (.Name x pos) (bC q):=
 PE.imp (mC I j (v:=.ref a) rfl n)<|by rintro FV H Q ⟨Ow,env,p,E,B,k⟩;cases B;exact k _ H (D8.refl _) (F _ _)
def tD{op:Operator}{r:R2}{g:sx}(B:GW X (binaryOp op) r)(q:Mc b m r g){j n:Md}(h1:SE X b G j e1 f1)(h2:SE X b G n e2 f2):SE X b G m (.BinOp e1 op e2 pos) (b2 g f1 f2):=
 PE.imp (P_ B h1.bor h2.bor) fun FV H Q h=>Ig q h
def fH{j n:Md}(h1:SE X b G j e1 f1)(h2:SE X b G n e2 f2):SE X b G .val (.BinOp e1 .Add e2 pos) (b2 iR f1 f2):=tD (GW.or (GW.or S8 HH) Kf) T9 h1 h2
def Ua{j n:Md}(h1:SE X b G j e1 f1)(h2:SE X b G n e2 f2):SE X b G .own (.BinOp e1 .Add e2 pos) (b2 Ii f1 f2):=tD Kf T_ h1 h2
def Ub{j n:Md}(h1:SE X b G j e1 f1)(h2:SE X b G n e2 f2):SE X b G .val (.BinOp e1 .Sub e2 pos) (b2 YL f1 f2):=tD S9 T5 h1 h2
def xZ{j n:Md}(h1:SE X b G j e1 f1)(h2:SE X b G n e2 f2):SE X b G .val (.BinOp e1 .Mult e2 pos) (b2 wI f1 f2):=tD S_ T6 h1 h2
def gj{j n:Md}(h1:SE X b G j e1 f1)(h2:SE X b G n e2 f2):SE X b G .val (.BinOp e1 .FloorDiv e2 pos) (b2 jd f1 f2):=tD QB T7 h1 h2
def cH{j n:Md}(h1:SE X b G j e1 f1)(h2:SE X b G n e2 f2):SE X b G .val (.BinOp e1 .Mod e2 pos) (b2 dI f1 f2):=tD Tc T8 h1 h2
end
@[simp] noncomputable def eqN:PV->Option Bool
 |.Ee=>some true
 |.int _=>some false
 |.bl _=>some false
 |.str _=>some false
 |_=>none
@[simp] noncomputable def eqI(i:Int):PV->Option Bool
 |.Ee=>some false
 |.int j=>some (decide (i=j))
 |.str _=>some false
 |_=>none
@[simp] noncomputable def eqB(i:Bool):PV->Option Bool
 |.Ee=>some false
 |.bl j=>some (decide (i=j))
 |.str _=>some false
 |_=>none
@[simp] noncomputable def eqT(i:Str):PV->Option Bool
 |.Ee=>some false
 |.int _=>some false
 |.bl _=>some false
 |.str j=>some (decide (i=j))
 |_=>none
@[simp] noncomputable def Sl:PV->PV->Option Bool
 |.Ee,y=>eqN y
 |.int i,y=>eqI i y
 |.bl i,y=>eqB i y
 |.str i,y=>eqT i y
 |_,_=>none
mutual
noncomputable def toD:PV->Option PyData
 |.Ee=>some .none
 |.bl b=>some (.bool b)
 |.int i=>some (.int i)
 |.str x=>some (.str x)
 |.lst xs=>(fU xs).map .list
 |.frz xs=>(fU xs).map .list
 |.tup xs=>(fU xs).map .tuple
 |.ktp xs=>(fU xs).map .tuple
 |_=>none
noncomputable def fU:List PV->Option (List PyData)
 |[]=>some []
 |x::xs=>match toD x,fU xs with
  |some d,some ds=>some (d::ds)
  |_,_=>none
end
noncomputable def TR(x y:PV):Option Bool:=match toD x,toD y with
 |some d,some e=>if SeqAt.shaped d=true/\SeqAt.shaped e=true then some (PyData.eqv d e)else none
 |_,_=>none
noncomputable def IZ(x y:PV):Option Bool:=match Sl x y with
 |some k=>some k
 |none=>TR x y
noncomputable def eqQ(x y:PV):Option PV:=(IZ x y).map .bl
@[simp] def X5(x y:PV):eqQ x y=((IZ x y).map .bl):=id rfl
noncomputable def Yr(x y:PV):Option PV:=(IZ x y).map λk=>.bl (!k)
@[simp] def X6(x y:PV):Yr x y=((IZ x y).map λk=>.bl (!k)):=id rfl
def Rep.dt2:(∀{v p},Rep C A H v p->∀d,toD p=some d->Dt C.K H v d)/\(∀{v p},D7 C A H v p->∀d,fU p=some d->PH C.K H v d):=by
 have l:∀{a vs xs},Fc C.K H a vs->(∀d,fU xs=some d->PH C.K H vs d)->∀d,(fU xs).map .list=some d->Dt C.K H (.ref a) d:=by
  intro a vs xs h r d e;obtain⟨x,j,rfl⟩:=bv.mp e;exact .lst h (r x j)
 have t:∀{a vs xs},GN C.K H a vs->(∀d,fU xs=some d->PH C.K H vs d)->∀d,(fU xs).map .tuple=some d->Dt C.K H (.ref a) d:=by
  intro a vs xs h r d e;obtain⟨x,j,rfl⟩:=bv.mp e;exact .tup h (r x j)
 have nd:=Rep.nd (C:=C) (A:=A) (H:=H) (M1:=λv p=>∀d,toD p=some d->Dt C.K H v d) (M2:=λv p=>∀d,fU p=some d->PH C.K H v d) (M3:=λ_ _=>True) (M4:=λ_ _=>True) (M5:=λ_ _=>True)
  ?_ ?_ ?_ ?_ ?_ ?_ ?_ ?_ ?_ ?_ ?_ ?_ ?_ ?_ ?_ trivial (λ_ _ _ _=>trivial) trivial (λ_ _ _ _=>trivial) trivial (λ_ _ _ _=>trivial)
 ·exact⟨nd.1,nd.2.1⟩
 ·intro d e;simp only[toD]at e;cases e;exact .Ee
 ·intro b d e;simp only[toD]at e;cases e;exact .bl b
 ·intro b d e;simp only[toD]at e;cases e;exact .int b
 ·intro b d e;simp only[toD]at e;cases e;exact .str b
 ·intro a vs xs h _ _ r d e;simp only[toD]at e;exact l (Fc.of h) r d e
 ·intro a o vs xs h _ r d e;simp only[toD]at e;exact l (.inl (.inr ⟨_,h⟩)) r d e
 ·intro a vs xs h _ r d e;simp only[toD]at e;exact l (sqK h) r d e
 ·intro a vs xs h _ r d e;simp only[toD]at e;exact t (GN.of h) r d e
 ·intro a vs xs h _ r d e;simp only[toD]at e;exact t (.inr h) r d e
 ·intro a vs xs h _ r d e;simp only[toD]at e;exact t (qb h) r d e
 ·intro a vs xs h _ _ _ d e;simp only[toD]at e;cases e
 ·intro a vs xs h _ _ _ d e;simp only[toD]at e;cases e
 ·intro a dx c f fs h _ _ _ d e;simp only[toD]at e;cases e
 ·intro d e;simp only[fU]at e;cases e;exact .nil
 ·intro v p vs ps _ _ h t d e
  simp only[fU]at e;cases q:toD p with
  |none=>rw[q]at e;cases e
  |some d=>
   cases q2:fU ps with
   |none=>rw[q,q2]at e;cases e
   |some ds=>rw[q,q2]at e;cases e;exact .cons (h _ q) (t _ q2)
def Rep.dt{p:PV}{d:PyData}(h:Rep C A H v p)(e:toD p=some d):Dt C.K H v d:=Rep.dt2.1 h d e
def EB.dt{C:MC}{A:se}{H:Hp}{v:V}{p:PV}{d:PyData}(h:EB C A H v p)(e:toD p=some d):Dt C.K H v d:=by
 rcases h with h|⟨a,rfl,t⟩
 ·exact h.dt e
 ·cases p with
  |lst xs=>
   obtain⟨vs,q,r⟩:=t;exact(Rep.lst (A:=λ_=>True) q gs (r.ex (bB λ_ _ _ _=>gs))).dt e
  |dK kvs=>simp only[toD]at e;cases e
  |dT kvs=>simp only[toD]at e;cases e
  |obj c fs=>simp only[toD]at e;cases e
  |_=>exact t.elim
def Df{u:V}{p q:PV}{k:Bool}(h:EB C A H v p)(h':EB C A H u q)(e:Sl p q=some k):MJ v u=true/\decide (v=u)=k:=by
 unfold Sl at e;split at e
 ·unfold eqN at e
  split at e<;>cases e
  ·rw[h.Ee,h'.Ee];exact⟨rfl,rfl⟩
  ·rw[h.Ee,h'.int];exact⟨rfl,rfl⟩
  ·rw[h.Ee,h'.bl];exact⟨rfl,rfl⟩
  ·rw[h.Ee,h'.str];exact⟨rfl,rfl⟩
 ·unfold eqI at e
  split at e<;>cases e
  ·rw[h.int,h'.Ee];exact⟨rfl,rfl⟩
  ·rw[h.int,h'.int];exact⟨rfl,by simp⟩
  ·rw[h.int,h'.str];exact⟨rfl,rfl⟩
 ·unfold eqB at e
  split at e<;>cases e
  ·rw[h.bl,h'.Ee];exact⟨rfl,rfl⟩
  ·rw[h.bl,h'.bl];exact⟨rfl,by simp⟩
  ·rw[h.bl,h'.str];exact⟨rfl,rfl⟩
 ·unfold eqT at e
  split at e<;>cases e
  ·rw[h.str,h'.Ee];exact⟨rfl,rfl⟩
  ·rw[h.str,h'.int];exact⟨rfl,rfl⟩
  ·rw[h.str,h'.bl];exact⟨rfl,rfl⟩
  ·rw[h.str,h'.str];exact⟨rfl,by simp⟩
 ·cases e
def Uc(K:W.Frag):R2:=λx y H Q=>rEq x y H Q\/∃d e,Dt K H x d/\Dt K H y e/\SeqAt.shaped d=true/\SeqAt.shaped e=true/\Q (.bl (PyData.eqv d e)) H
def Ud(K:W.Frag):R2:=λx y H Q=>rNe x y H Q\/∃d e,Dt K H x d/\Dt K H y e/\SeqAt.shaped d=true/\SeqAt.shaped e=true/\Q (.bl (!PyData.eqv d e)) H
section
variable {b:BX}
set_option tactic.hygienic true in def Wu:Mc b .val (Uc b.C.K) eqQ:=by
 intro Ow H J I p1 p2 p Q F B j e k;unfold eqQ IZ at e;cases q:Sl p1 p2 with
 |some c=>
  rw[q]at e;cases e;obtain⟨h1,h2⟩:=Df B j q;exact .inl ⟨h1,by rw[h2];exact k _ H (D8.refl _) (.bl c)⟩
 |none=>
  rw[q]at e;simp only[TR]at e;cases q1:toD p1 with
  |none=>rw[q1]at e;cases e
  |some d=>
   cases q2:toD p2 with
   |none=>rw[q1,q2]at e;cases e
   |some d'=>
    rw[q1,q2]at e;simp only at e;split at e
    ·rename_i n
     cases e;exact .inr ⟨d,d',B.dt q1,j.dt q2,n.1,n.2,k _ H (D8.refl _) (.bl _)⟩
    ·cases e
set_option tactic.hygienic true in def Wv:Mc b .val (Ud b.C.K) Yr:=by
 intro Ow H J I p1 p2 p Q F B j e k;unfold Yr IZ at e;cases q:Sl p1 p2 with
 |some c=>
  rw[q]at e;cases e;obtain⟨h1,h2⟩:=Df B j q;exact .inl ⟨h1,by rw[h2];exact k _ H (D8.refl _) (.bl _)⟩
 |none=>
  rw[q]at e;simp only[TR]at e;cases q1:toD p1 with
  |none=>rw[q1]at e;cases e
  |some d=>
   cases q2:toD p2 with
   |none=>rw[q1,q2]at e;cases e
   |some d'=>
    rw[q1,q2]at e;simp only at e;split at e
    ·rename_i n
     cases e;exact .inr ⟨d,d',B.dt q1,j.dt q2,n.1,n.2,k _ H (D8.refl _) (.bl _)⟩
    ·cases e
end
@[simp] noncomputable def keyOf:PV->Option Key
 |.int i=>some (.inl i)
 |.str x=>some (.inr x)
 |_=>none
@[simp] noncomputable def Ik:PV->Option D5
 |.int i=>some (.k (.inl i))
 |.str x=>some (.k (.inr x))
 |_=>none
@[simp] noncomputable def uP(f:PV->Option D5):List PV->Option (List D5)
 |[]=>some []
 |x::xs=>(f x).bind λk=>(uP f xs).bind λks=>some (k::ks)
@[simp] noncomputable def jY(f:PV->Option D5):List PV->Option (List D5)
 |[.str x,.bl b]=>some [.k (.inr x),.k (.inl (if b=true then 1 else 0))]
 |xs=>uP f xs
@[simp] noncomputable def Il(f:PV->Option D5):PV->Option D5
 |.tup xs=>(jY f xs).map .tp
 |.ktp xs=>(jY f xs).map .tp
 |x=>Ik x
@[simp] noncomputable def EI(xs:sA):Option (List D5):=jY (Il (Il Ik)) xs
@[simp] noncomputable def jw:PV->Bool
 |.Ee=>true
 |.bl _=>true
 |.int _=>true
 |.str _=>true
 |_=>false
noncomputable def YN:PV->PV->Bool
 |.Ee,.Ee=>true
 |.bl a,.bl b=>a == b
 |.bl a,.int b=>(if a then 1 else 0) == b
 |.int a,.bl b=>a == (if b then 1 else 0)
 |.int a,.int b=>a == b
 |.str a,.str b=>a == b
 |_,_=>false
noncomputable def aZ{κ:Type}[DecidableEq κ](kvs:List (κ×PV))(k:κ):Option PV:=(kvs.find? λx=>decide (x.1=k)).map (·.2)
def zj{p:PV}{k:D5}(r:Rep C A H v p)(e:Ik p=some k):∃x,k=.k x/\v=kV x:=by
 cases r with
 |int i=>cases e;exact⟨_,rfl,rfl⟩
 |str x=>cases e;exact⟨_,rfl,rfl⟩
 |_=>cases e
theorem GR{C:MC}{A:se}{H:Hp}{f:PV->Option D5}{R:D5->V->Prop}(n:∀v p k,Rep C A H v p->f p=some k->R k v):∀{vs:sC}{ps:sA}{ks:List D5},D7 C A H vs ps->uP f ps=some ks->Paired R ks vs
 |_,_,_,.nil,e=>by cases e;exact .nil
 |_,_,_,.cons (p:=p) (ps:=ps) h t,e=>by
  unfold uP at e;obtain⟨k,q,e⟩:=ae.mp e;obtain⟨ks,j,e⟩:=ae.mp e;cases e;exact .cons (n _ _ _ h q) (GR n t j)
def vH{f:PV->Option D5}{R:D5->V->Prop}(j:∀v p k,Rep C A H v p->f p=some k->R k v){ps:sA}{ks:List D5}(r:D7 C A H vs ps)(e:jY f ps=some ks):Paired R ks vs\/KB ks vs:=by
 unfold jY at e;split at e
 ·cases e
  cases r with
  |cons h1 t=>cases t with
   |cons h2 t=>cases t;cases h1;cases h2;exact .inr ⟨_,_,rfl,rfl⟩
 ·exact .inl (GR j r e)
def GX{f:PV->Option D5}{d:Nat}(n:∀v p k,Rep C A H v p->f p=some k->NV C.K H d k v)(v:V)(p:PV)(k:D5)(r:Rep C A H v p)(e:Il f p=some k):NV C.K H (d+1) k v:=by
 cases r with
 |tup h q=>
  obtain⟨ks,j,e⟩:=bv.mp (show(jY f _).map D5.tp=some k from e);exact .inr ⟨ks,_,_,e.symm,rfl,.inl h,vH n q j⟩
 |GY h q=>
  obtain⟨ks,j,e⟩:=bv.mp (show(jY f _).map D5.tp=some k from e);exact .inr ⟨ks,_,_,e.symm,rfl,.inr h,vH n q j⟩
 |tupK h q=>
  obtain⟨ks,j,e⟩:=bv.mp (show(jY f _).map D5.tp=some k from e);refine .inr ⟨ks,_,_,e.symm,rfl,.inr ?_,vH n q j⟩;rcases h with(h|⟨o,h⟩)|h
  ·cases h
  ·cases h
  ·exact h
 |int i=>exact .inl (zj (Rep.int (C:=C) (A:=A) (H:=H) i) e)
 |str x=>exact .inl (zj (Rep.str (C:=C) (A:=A) (H:=H) x) e)
 |_=>cases e
def D7.EI{C:MC}{A:se}{H:Hp}{vs:sC}{ps:sA}{ks:List D5}(r:D7 C A H vs ps)(e:EI ps=some ks):MS C.K H ks vs:=
 vH (GX (d:=1) (GX (d:=0) λv p k r e=>show ∃x,k=.k x/\v=kV x from zj r e)) r e
def EB.key{p:PV}{k:Key}(h:EB C A H v p)(e:keyOf p=some k):v=kV k:=by
 unfold keyOf at e;split at e
 ·cases e;exact h.int
 ·cases e;exact h.str
 ·cases e
def EB.flat{p:PV}(h:EB C A H v p)(e:jw p=true):lA v=true:=by
 unfold jw at e;split at e
 ·rw[h.Ee];rfl
 ·rw[h.bl];rfl
 ·rw[h.int];rfl
 ·rw[h.str];rfl
 ·cases e
noncomputable def fV:PV->V
 |.bl b=>.bl b
 |.int i=>.int i
 |.str x=>.str x
 |_=>.Ee
def EB.fV{C:MC}{A:se}{H:Hp}{v:V}{p:PV}(h:EB C A H v p)(e:jw p=true):v=fV p:=by
 cases p with
 |Ee=>exact h.Ee
 |bl b=>exact h.bl
 |int i=>exact h.int
 |str x=>exact h.str
 |_=>cases e
def Ww(p q:PV)(j:jw p=true)(n:jw q=true):L2.YF (fV p) (fV q)=YN p q:=by
 cases p<;>cases q<;>first|rfl|(cases j;done)|(cases n;done)
theorem D7.flat{C:MC}{A:se}{H:Hp}{v:V}{p:PV}(h:EB C A H v p)(e:jw p=true):∀{vs:sC}{ps:sA},D7 C A H vs ps->ps.all jw=true->vs.all lA=true/\inV v vs=ps.any λy=>YN y p
 |_,_,.nil,_=>⟨rfl,rfl⟩
 |_,_,.cons (v:=v') (p:=p') (vs:=vs) (ps:=ps) q t,e'=>by
  rw[kf,cE]at e';obtain⟨h1,h2⟩:=D7.flat h e t e'.2;have n:lA v'=true:=EB.flat (.inl q) e'.1;refine⟨by rw[kf,n,h1];rfl,?_⟩;unfold inV at h2 ⊢;rw[fF,fF,h2];have B:=h.fV e;have j:=EB.fV (.inl q) e'.1;rw[B,j,Ww _ _ e'.1 e]
section
variable {X:Cx}
def Ks(F:X.A.units+9<cLine):GW X (compareOp .NotIn) (λx y H Q=>∃a o,y=.ref a/\FE X.K H a x o/\Q (.bl (!o.isSome)) H):=by
 intro D3 s FV H x y v u Q I j n h;obtain⟨a,o,rfl,g,q⟩:=h;obtain rfl:u=Value.ref a:=n;exact GD F I g j λJ B=>⟨.bl (!o.isSome),H,B,rfl,q⟩
end
@[simp] noncomputable def cj:PV->Bool
 |.Ee=>true
 |_=>false
noncomputable def OH(x y:PV):Option PV:=match y with
 |.Ee=>some (.bl (cj x))
 |_=>none
@[simp] def X8(x y:PV):OH x y=(match y with
 |.Ee=>some (.bl (cj x))
 |_=>none):=id rfl
noncomputable def dg(x y:PV):Option PV:=match y with
 |.Ee=>some (.bl (!cj x))
 |_=>none
@[simp] def W_(x y:PV):dg x y=(match y with
 |.Ee=>some (.bl (!cj x))
 |_=>none):=id rfl
def EB.OH{p:PV}(h:EB C A H v p):decide (v=.Ee)=cj p:=by
 cases p with
 |Ee=>rw[h.Ee];rfl
 |bl b=>rw[h.bl];rfl
 |int b=>rw[h.int];rfl
 |str b=>rw[h.str];rfl
 |lst b=>obtain⟨a,_,rfl,_⟩:=h.lst;rfl
 |frz b=>obtain⟨a,_,rfl,_⟩:=h.frz;rfl
 |tup b=>obtain⟨a,_,rfl,_⟩:=h.tup;rfl
 |ktp b=>obtain⟨a,_,rfl,_⟩:=h.ktp;rfl
 |dK b=>obtain⟨a,_,rfl,_⟩:=h.dK;rfl
 |dT b=>obtain⟨a,_,rfl,_⟩:=h.dT;rfl
 |obj c b=>obtain⟨a,_,_,rfl,_⟩:=h.obj;rfl
section
variable {b:BX}
def Ue:Mc b .val (λx y H Q=>y=.Ee/\Q (.bl (decide (x=.Ee))) H) OH:=by
 intro Ow H F B p1 p2 p Q q n j e k;cases p2 with
 |Ee=>
  simp only[OH]at e;cases e;exact⟨j.Ee,by rw[n.OH];exact k _ H (D8.refl _) (.bl _)⟩
 |_=>simp only[OH]at e;cases e
def Ku:Mc b .val (λx y H Q=>y=.Ee/\Q (.bl (!decide (x=.Ee))) H) dg:=by
 intro Ow H F B p1 p2 p Q q n j e k;cases p2 with
 |Ee=>
  simp only[dg]at e;cases e;exact⟨j.Ee,by rw[n.OH];exact k _ H (D8.refl _) (.bl _)⟩
 |_=>simp only[dg]at e;cases e
end
section
variable {X:Cx}{b:BX}{G:qV}{m:Md}{e e1 e2 e3:Expr}{f f1 f2 f3:si}{pos:Pos}{m1 m2 m3:Md}
structure SC(X:Cx)(b:BX)(G:qV)(op:CmpOp)(e1 e2:Expr)(f:si):Prop where
 pe:∀pos,SE X b G .val (.Compare e1 [op] [e2] pos) f
 pt:∀pos,ST X b G (.Compare e1 [op] [e2] pos) (tV f)
def nO{op:CmpOp}{r:R2}{g:sx}(F:GW X (compareOp op) r)(B:Mc b .val r g)(h1:SE X b G m1 e1 f1)(h2:SE X b G m2 e2 f2)(n:behindInMarks op e2=false):SC X b G op e1 e2 (b2 g f1 f2):=by
 refine⟨λpos=>PE.imp (QD F h1.bor h2.bor n) fun FV H Q h=>Ig B h,λpos=>PT.imp (QF F h1.bor h2.bor n) fun FV H Q h=>?_⟩;obtain⟨Ow,env,c,E,j,k⟩:=h;unfold tV at j;cases q:b2 g f1 f2 env with
 |none=>rw[q]at j;cases j
 |some p=>
  rw[q]at j;refine Ig (Q:=λx H'=>∃k,x=.bl k/\_) B ⟨Ow,env,p,E,q,λv H' s r=>?_⟩;cases p with
  |bl d=>
   cases j;cases r;exact⟨_,rfl,k H' s⟩
  |_=>cases j
def bJ{j:Nat}(q:EU j X.A)(h1:SE X b G m1 e1 f1)(h2:SE X b G m2 e2 f2)(n:autoParam (X.K=b.C.K) r0_):SC X b G .Eq e1 e2 (b2 eqQ f1 f2):=nO (r:=Uc b.C.K) (by rw[←n];exact GW.or We (TF q.units)) Wu h1 h2 (rM _)
def vI{j:Nat}(q:EU j X.A)(h1:SE X b G m1 e1 f1)(h2:SE X b G m2 e2 f2)(n:autoParam (X.K=b.C.K) r0_):SC X b G .NotEq e1 e2 (b2 Yr f1 f2):=nO (r:=Ud b.C.K) (by rw[←n];exact GW.or Wf (TJ q.units)) Wv h1 h2 (rM _)
def Qh(h1:SE X b G m1 e1 f1)(h2:SE X b G m2 e2 f2):SC X b G .Lt e1 e2 (b2 (qd λi j=>decide (i<j)) f1 f2):=nO Wg Kr h1 h2 (rM _)
def x_(h1:SE X b G m1 e1 f1)(h2:SE X b G m2 e2 f2):SC X b G .Gt e1 e2 (b2 (qd λi j=>decide (j<i)) f1 f2):=nO Wh Kr h1 h2 (rM _)
def tE(h1:SE X b G m1 e1 f1)(h2:SE X b G m2 e2 f2):SC X b G .Is e1 e2 (b2 OH f1 f2):=nO Te Ue h1 h2 (rM _)
def dC(h1:SE X b G m1 e1 f1)(h2:SE X b G m2 e2 f2):SC X b G .IsNot e1 e2 (b2 dg f1 f2):=nO QC Ku h1 h2 (rM _)
def dJ{op:CmpOp}(h:SC X b G op e1 e2 f):SE X b G .val (.Compare e1 [op] [e2] pos) f:=h.pe pos
def aQ{op:CmpOp}(h:SC X b G op e1 e2 f):ST X b G (.Compare e1 [op] [e2] pos) (tV f):=h.pt pos
def oJ{op}(h:SE X b G m e f):SE X b G m (.BoolOp op [e] pos) f:=Sw h
def uQ{rest:rh}(h1:SE X b G .val e1 f1)(h2:SE X b G .val (.BoolOp .And (e2::rest) pos) f2):SE X b G .val (.BoolOp .And (e1::e2::rest) pos) (uO f1 f2):=
 PE.imp (Sx h1 h2)<|by
  rintro FV H Q ⟨Ow,env,p,E,j,k⟩;unfold uO at j;cases q1:f1 env with
  |none=>rw[q1]at j;cases j
  |some p1=>
   rw[q1]at j;refine⟨Ow,env,p1,E,q1,λB H1 n q=>?_⟩;cases p1 with
   |bl c=>
    cases q;refine⟨c,rfl,?_⟩;cases c with
    |true=>exact⟨Ow,env,p,E.up n,j,λv H' s r=>k v H' (n.trans s) r⟩
    |false=>cases j;exact k _ H1 n (.bl false)
   |_=>cases j
def Im{rest:rh}(h1:SE X b G .val e1 f1)(h2:SE X b G .val (.BoolOp .Or (e2::rest) pos) f2):SE X b G .val (.BoolOp .Or (e1::e2::rest) pos) (bOr f1 f2):=
 PE.imp (Wa h1 h2)<|by
  rintro FV H Q ⟨Ow,env,p,E,j,k⟩;unfold bOr at j;cases q1:f1 env with
  |none=>rw[q1]at j;cases j
  |some p1=>
   rw[q1]at j;refine⟨Ow,env,p1,E,q1,λB H1 n q=>?_⟩;cases p1 with
   |bl c=>
    cases q;refine⟨c,rfl,?_⟩;cases c with
    |false=>exact⟨Ow,env,p,E.up n,j,λv H' s r=>k v H' (n.trans s) r⟩
    |true=>cases j;exact k _ H1 n (.bl true)
   |_=>cases j
@[simp] noncomputable def zm:PV->Option PV
 |.int i=>some (.int (-i))
 |_=>none
def yc(h1:SE X b G m e1 f1):SE X b G .val (.UnaryOp .USub e1 pos) (b1 zm f1):=
 PE.imp (Wd Td h1.bor) fun FV H Q h=>Ih (r:=rU λi=>.int (-i)) (λOw H q p1 p Q n j e k=>by
  cases p1<;>simp only[zm]at e<;>cases e;exact⟨_,j.int,k _ H (D8.refl _) (.int _)⟩) h
def gk(h:SE X b G .val e f)(B:autoParam (∀j,isTrue e X.env j=(do let v ←j;standAt e.pos;holding [v] (truthy v))) r4_):ST X b G e (tV f):=
 PT.imp (Ci h B)<|by
  rintro FV H Q ⟨Ow,env,c,E,n,k⟩;unfold tV at n;cases q1:f env with
  |none=>rw[q1]at n;cases n
  |some p1=>
   rw[q1]at n;refine⟨Ow,env,p1,E,q1,λI H1 q F=>?_⟩;cases p1 with
   |bl d=>cases F;cases n;exact⟨_,rfl,k H1 q⟩
   |_=>cases n
def oK{g:sv}(h:ST X b G e g):ST X b G (.UnaryOp .Not e pos) (tN g):=
 PT.imp (JP h)<|by
  rintro FV H Q ⟨Ow,env,c,E,j,k⟩;unfold tN at j;cases q1:g env with
  |none=>rw[q1]at j;cases j
  |some p1=>rw[q1]at j;cases j;exact⟨Ow,env,p1,E,q1,λH' s=>k H' s⟩
abbrev SW(X:Cx)(b:BX)(G:qV)(e:Expr)(g:sv):Prop:=PW X e (YK b G g)
def PW.imp{t u:TT}(h:PW X e t)(i:∀ FV H Q,u FV H Q->t FV H Q):PW X e u:=λj D3 s FV H Q I q=>h j D3 s FV H Q I (i FV H Q q)
variable {g1 g2:sv}
def cU(h:ST X b G e g1):SW X b G (.BoolOp .And [e] pos) g1:=Gw h
def ye(h:ST X b G e g1):SW X b G (.BoolOp .Or [e] pos) g1:=Sv h
def dh{rest:rh}(h1:ST X b G e1 g1)(h2:SW X b G (.BoolOp .And (e2::rest) pos) g2):SW X b G (.BoolOp .And (e1::e2::rest) pos) (tA g1 g2):=
 PW.imp (JN h1 h2)<|by
  rintro FV H Q ⟨Ow,env,c,E,j,k⟩;unfold tA at j;cases q1:g1 env with
  |none=>rw[q1]at j;cases j
  |some p1=>
   rw[q1]at j;refine⟨Ow,env,p1,E,q1,λH1 n=>?_⟩;cases p1 with
   |true=>exact⟨Ow,env,c,E.up n,j,λH' s=>k H' (n.trans s)⟩
   |false=>cases j;exact k H1 n
def yf{rest:rh}(h1:ST X b G e1 g1)(h2:SW X b G (.BoolOp .Or (e2::rest) pos) g2):SW X b G (.BoolOp .Or (e1::e2::rest) pos) (tO g1 g2):=
 PW.imp (V9 h1 h2)<|by
  rintro FV H Q ⟨Ow,env,c,E,j,k⟩;unfold tO at j;cases q1:g1 env with
  |none=>rw[q1]at j;cases j
  |some p1=>
   rw[q1]at j;refine⟨Ow,env,p1,E,q1,λH1 n=>?_⟩;cases p1 with
   |false=>exact⟨Ow,env,c,E.up n,j,λH' s=>k H' (n.trans s)⟩
   |true=>cases j;exact k H1 n
def SW.st(h:SW X b G e g1):ST X b G e g1:=h _
def tG{c:Expr}(q:ST X b G c g1)(h1:SE X b G m e1 f1)(h2:SE X b G m e2 f2):SE X b G m (.IfExp c e1 e2 pos) (Yf g1 f1 f2):=
 PE.imp (Mw q h1 h2)<|by
  rintro FV H Q ⟨Ow,env,p,E,n,k⟩;unfold Yf at n;cases q1:g1 env with
  |none=>rw[q1]at n;cases n
  |some c=>
   rw[q1]at n;refine⟨Ow,env,c,E,q1,λH1 j=>?_⟩;cases c with
   |true=>exact⟨Ow,env,p,E.up j,n,λv H' s r=>k v H' (j.trans s) (r.down j)⟩
   |false=>exact⟨Ow,env,p,E.up j,n,λv H' s r=>k v H' (j.trans s) (r.down j)⟩
end
def ArA(b:BX)(Ow:se)(L:Bool)(H:Hp)(a:Addr):Prop:=Bs b Ow a\/(L=true/\∃vs,H a=some (.lst vs))
inductive tMA(b:BX)(G:qV)(L:Bool)(g:sw)(FV:St)(H:Hp)(Q:(List V->Hp->Prop)):Prop
 |mk (Ow:_) (env:_) (ps:_) (h0:ER b Ow G FV env H) (h1:g env=some ps) (h2:∀vs H',D8 H H'->D7 b.C (ArA b Ow L H') H' vs ps->Q vs H'):tMA b G L g FV H Q
abbrev SA(X:Cx)(b:BX)(G:qV)(L:Bool)(es:rh)(g:sw):Prop:=PA X es (tMA b G L g)
def PA.imp{es:rh}{t u:TA}(h:PA X es t)(i:∀ FV H Q,u FV H Q->t FV H Q):PA X es u:=λpos D3 s FV H Q I q=>h pos D3 s FV H Q I (i FV H Q q)
variable {r:List V->Hp->VK->Prop}{FV:St}{ro:Bool}
section
variable {X:Cx}{b:BX}{G:qV}{m m1 m2:Md}{L:Bool}{e e1 e2:Expr}{es:rh}{f f1 f2:si}{g:sw}{pos p:Pos}
def aq:SA X b G L [] aK:=PA.imp aV<|by rintro FV H Q ⟨Ow,env,ps,E,j,k⟩;cases j;exact k [] H (D8.refl _) .nil
def aa(h1:SE X b G .val e f)(h2:SA X b G L es g)(J:autoParam (HK X e es) r0_):SA X b G L (e::es) (ak f g):=
 PA.imp (aD h1 h2 J)<|by
  rintro FV H Q ⟨Ow,env,ps,E,j,k⟩;unfold ak at j;cases q1:f env with
  |none=>rw[q1]at j;cases j
  |some p1=>
   rw[q1]at j;cases q2:g env with
   |none=>rw[q2]at j;cases j
   |some B=>
    rw[q2]at j;cases j;exact⟨Ow,env,p1,E,q1,λv H1 F M=>⟨Ow,env,B,E.up F,q2,λvs H2 n I=>k (v::vs) H2 (F.trans n) (.cons (Rep.ex (λa o h=>⟨λq=>⟨n _ _ h,.inl q⟩,λ_=>n _ _ h⟩) M) I)⟩⟩
noncomputable def bL(f:si)(env:Env):Option PV:=(f env).bind λp=>match p with|.lst xs=>some (.lst xs)|_=>none
@[simp] def Yl(f:si)(env:Env):bL f env=((f env).bind λp=>match p with|.lst xs=>some (.lst xs)|_=>none):=id rfl
def Nj(h1:SE X b G m e f)(h2:SA X b G true es g)(M:autoParam (HK X e es) r0_):SA X b G true (e::es) (ak (bL f) g):=
 PA.imp (aD h1.bor h2 M)<|by
  rintro FV H Q ⟨Ow,env,ps,E,j,k⟩;unfold ak bL at j;cases q1:f env with
  |none=>rw[q1]at j;cases j
  |some p1=>
   rw[q1]at j;cases p1 with
   |lst xs=>
    simp only[ba]at j;cases q2:g env with
    |none=>rw[q2]at j;cases j
    |some B=>
     rw[q2]at j;cases j;refine⟨Ow,env,_,E,q1,λv H1 F U=>⟨Ow,env,B,E.up F,q2,λvs H2 n J=>k (v::vs) H2 (F.trans n) (.cons ?_ J)⟩⟩;have O:EB b.C (Bs b Ow) H1 v (.lst xs):=U;obtain⟨a,us,rfl,I,Y⟩:=O.lst;exact .lst (n _ _ I) (.inr ⟨rfl,us,n _ _ I⟩) (Y.ex λa o h=>⟨λq=>⟨n _ _ h,.inl q⟩,λ_=>n _ _ h⟩)
   |_=>cases j
def Bv{b:BX}{ps:sA}(h:D7 b.C (ArA b Ow false H) H vs ps):D7 b.C (Bs b Ow) H vs ps:=h.ex (bB λa o _ q=>q.elim id λz=>by cases z.1)
set_option tactic.hygienic true in def cW(h:SA X b G false es g):SE X b G .own (.List es pos) (e_ g):=PE.imp (lq h)<|by
 rintro FV H Q ⟨Ow,env,p,E,j,k⟩;unfold e_ at j;cases q1:g env with
 |none=>rw[q1]at j;cases j
 |some ps=>
  rw[q1]at j;simp only[ba]at j;split at j
  ·rename_i F
   cases j;refine⟨Ow,env,ps,E,q1,λvs H1 n r=>⟨iH (by rw[r.length];exact F),λq B=>k _ _ (n.trans (aM B _)) (Res.down n (f9 B (Bv r)))⟩⟩
  ·cases j
set_option tactic.hygienic true in def bw{x1}(h:SA X b G false es g):SE X b G .val (.Tuple es x1 pos) (bR g):=PE.imp (lg h)<|by
 rintro FV H Q ⟨Ow,env,p,E,j,k⟩;unfold bR at j;cases q1:g env with
 |none=>rw[q1]at j;cases j
 |some ps=>
  rw[q1]at j;simp only[ba]at j;split at j
  ·rename_i F
   cases j;refine⟨Ow,env,ps,E,q1,λvs H1 B r=>⟨iH (by rw[r.length];exact F),λq n=>k _ _ (B.trans (aM n _)) (rW n (Bv r))⟩⟩
  ·cases j
def Qi:SE X b G .own (.Dict [] [] pos) (bC (.dK [])):=PE.imp CJ<|by
 rintro FV H Q ⟨Ow,env,p,E,n,k⟩ q j;cases n;exact k _ _ (aM j _) ⟨q,rfl,j,[],aB,.nil⟩
def Qj:SE X b G .own (.Dict [] [] pos) (bC (.dT [])):=PE.imp CK<|by
 rintro FV H Q ⟨Ow,env,p,E,n,k⟩ q j;cases n;exact k _ _ (aM j _) ⟨q,rfl,j,[],aB,.nil⟩
@[simp] noncomputable def EF:PV->PV->Option PV
 |.lst xs,.int i=>Fn xs i
 |.frz xs,.int i=>Fn xs i
 |.tup xs,.int i=>Fn xs i
 |.ktp xs,.int i=>Fn xs i
 |.str x,.int i=>if x.length<=1000000 then(Fn x.cps.toList i).map λc=>.str ⟨#[c]⟩else none
 |.dK kvs,y=>(keyOf y).bind λk=>aZ kvs k
 |.dT kvs,.tup ys=>(EI ys).bind λk=>aZ kvs k
 |_,_=>none
def D7.Fn{C:MC}{A:se}{H:Hp}{vs:sC}{ps:sA}{i:Int}{p:PV}(h:D7 C A H vs ps)(e:Fn ps i=some p):∃v,L2.Fn vs i=some v/\Rep C A H v p:=by
 unfold L2.Fn at e ⊢;rw[h.length];cases q:L9 ps.length i with
 |none=>rw[q]at e;cases e
 |some j=>rw[q]at e;exact h.get e
set_option tactic.hygienic true in def aA{j:Nat}(hr:EU j X.A)(h1:SE X b G m1 e1 f1)(h2:SE X b G m2 e2 f2)(hs:autoParam (GK e2) r9_)(L4:autoParam (MT e2) r9_)(hK:autoParam (X.K=b.C.K) r0_):SE X b G .val (.Subscript e1 e2 pos) (b2 EF f1 f2):=by
 refine PE.imp (PE.or (vB (r:=rIx b.C.K) (by rw[←hK];exact Tr) h1.bor h2.bor hs) (vA (fP hr) h1.bor h2.bor L4)) fun FV H Q h=>?_
 obtain⟨Ow,env,p,E,n,k⟩:=h;unfold b2 at n;cases q1:f1 env with
 |none=>rw[q1]at n;cases n
 |some p1=>
  rw[q1]at n;cases q2:f2 env with
  |none=>rw[q2]at n;cases n
  |some p2=>
   rw[q2]at n;simp only[ba]at n;have step:∀(R:V->V->Hp->VK->Prop),(∀H2 O J,EB b.C (Bs b Ow) H2 O p1->EB b.C (Bs b Ow) H2 J p2->D8 H H2->R O J H2 Q)->tM b G .bor f1 FV H λx H1=>tM b G .bor f2 FV H1 λy H2=>R x y H2 Q:=λR hR=>
    ⟨Ow,env,p1,E,q1,λO H1 Z q=>⟨Ow,env,p2,E.up Z,q2,λJ H2 s2 B=>hR H2 O J (Res.up (m:=.bor) q s2) B (Z.trans s2)⟩⟩
   unfold EF at n;split at n
   ·refine .inl (step _ λH2 O J q B s=>?_)
    obtain⟨a,vs,rfl,M,I⟩:=q.lst;obtain⟨v,U,F⟩:=I.Fn n;rw[B.int];exact .inl ⟨a,vs,_,v,rfl,rfl,Fc.of M,U,k v H2 s F⟩
   ·refine .inl (step _ λH2 O J q B s=>?_)
    obtain⟨a,vs,rfl,M,I⟩:=q.frz;obtain⟨v,U,F⟩:=I.Fn n;rw[B.int];exact .inl ⟨a,vs,_,v,rfl,rfl,M,U,k v H2 s F⟩
   ·refine .inl (step _ λH2 O J q B s=>?_)
    obtain⟨a,vs,rfl,M,I⟩:=q.tup;obtain⟨v,U,F⟩:=I.Fn n;rw[B.int];exact .inr (.inl ⟨a,vs,_,v,rfl,rfl,M.sq,U,k v H2 s F⟩)
   ·refine .inl (step _ λH2 O J q B s=>?_)
    obtain⟨a,vs,rfl,M,I⟩:=q.ktp;obtain⟨v,U,F⟩:=I.Fn n;rw[B.int];exact .inr (.inl ⟨a,vs,_,v,rfl,rfl,M,U,k v H2 s F⟩)
   ·split at n
    ·rename_i x i hx
     cases q3:Fn x.cps.toList i with
     |none=>rw[q3]at n;cases n
     |some c=>
      rw[q3]at n;cases n;refine .inl (step _ λH2 O J q B s=>?_);rw[q.str,B.int];exact .inr (.inr ⟨x,i,c,rfl,rfl,iH hx,q3,k _ H2 s (.str _)⟩)
    ·cases n
   ·rename_i kvs
    cases q3:keyOf p2 with
    |none=>rw[q3]at n;cases n
    |some Y=>
     rw[q3]at n;simp only[ba]at n;refine .inr (step (λx y H2 Q=>∃a v,x=.ref a/\FE X.K H2 a y (some v)/\Q v H2) λH2 O J q B s=>?_);obtain⟨a,kv,rfl,M,I⟩:=q.dK;rw[B.key q3];unfold aZ at n;rcases EZ.val (k:=Y) I with⟨v,p',h1,h2,F⟩|⟨h1,h2⟩
     ·rw[h2]at n
      cases n;exact⟨a,v,rfl,by rw[←h1];exact FE.k M,k v H2 s F⟩
     ·rw[h2]at n;cases n
   ·rename_i kvs ys
    cases q3:EI ys with
    |none=>rw[q3]at n;cases n
    |some Y=>
     rw[q3]at n;simp only[ba]at n;refine .inr (step (λx y H2 Q=>∃a v,x=.ref a/\FE X.K H2 a y (some v)/\Q v H2) λH2 O J q B s=>?_);obtain⟨a,kv,rfl,M,I⟩:=q.dT;obtain⟨c,vs,rfl,hc,rc⟩:=B.tup;unfold aZ at n;rcases EM.val (k:=Y) I with⟨v,p',h1,h2,F⟩|⟨h1,h2⟩
     ·rw[h2]at n
      cases n;exact⟨a,v,rfl,by rw[←h1,hK];exact FE.t M (hc.key (rc.EI q3)),k v H2 s F⟩
     ·rw[h2]at n;cases n
   ·cases n
noncomputable def je(xs:sA)(lo hi:Option Int):List PV:=(xs.drop (HT.ES xs.length 0 lo)).take (HT.ES xs.length xs.length hi - HT.ES xs.length 0 lo)
def D7.cut{ps:sA}(h:D7 C A H vs ps)(lo hi:Option Int):D7 C A H (uJ vs lo hi) (je ps lo hi):=by
 unfold uJ je;rw[h.length];exact(h.drop _).take _
noncomputable def oN(env:Env):Option (Option Int):=some none
@[simp] def Ym(env:Env):oN env=(some none):=id rfl
noncomputable def oS(f:si)(env:Env):Option (Option Int):=(f env).bind λp=>match p with|.int i=>some (some i)|_=>none
@[simp] def Yn(f:si)(env:Env):oS f env=((f env).bind λp=>match p with|.int i=>some (some i)|_=>none):=id rfl
inductive tMO(b:BX)(G:qV)(f:Env->Option (Option Int))(FV:St)(H:Hp)(Q:(Option Int->Hp->Prop)):Prop
 |mk (Ow:_) (env:_) (o:_) (h0:ER b Ow G FV env H) (h1:f env=some o) (h2:∀H',D8 H H'->Q o H'):tMO b G f FV H Q
def PO.imp{x:Option Expr}{t u:TO}(h:PO X x t)(i:∀ FV H Q,u FV H Q->t FV H Q):PO X x u:=by
 intro D3 s FV H Q I q;exact h D3 s FV H Q I (i FV H Q q)
abbrev SO(X:Cx)(b:BX)(G:qV)(e:Option Expr)(f:Env->Option (Option Int)):Prop:=PO X e (tMO b G f)
def zp:SO X b G none oN:=PO.imp QR<|by rintro FV H Q ⟨Ow,env,o,E,j,k⟩;cases j;exact k H (D8.refl _)
def jx(h:SE X b G m e f):SO X b G (some e) (oS f):=PO.imp (QS h.bor)<|by
 rintro FV H Q ⟨Ow,env,o,E,j,k⟩;unfold oS at j;cases q1:f env with
 |none=>rw[q1]at j;cases j
 |some p1=>
  rw[q1]at j;refine⟨Ow,env,p1,E,q1,λv H1 n q=>?_⟩;have B:EB b.C (Bs b Ow) H1 v p1:=q;cases p1<;>simp only[ba]at j<;>cases j;exact⟨_,B.int,k H1 n⟩
noncomputable def Z6(f:si)(lo hi:Env->Option (Option Int))(env:Env):Option PV:=(f env).bind λx=>(lo env).bind λl=>(hi env).bind λh=>match x with
 |.lst xs=>some (.lst (je xs l h))
 |.frz xs=>some (.lst (je xs l h))
 |.str x=>if x.length<=1000000 then some (.str (qY x l h))else none
 |_=>none
@[simp] def X_(f:si)(lo hi:Env->Option (Option Int))(env:Env):Z6 f lo hi env=((f env).bind λx=>(lo env).bind λl=>(hi env).bind λh=>match x with
 |.lst xs=>some (.lst (je xs l h))
 |.frz xs=>some (.lst (je xs l h))
 |.str x=>if x.length<=1000000 then some (.str (qY x l h))else none
 |_=>none):=id rfl
set_option tactic.hygienic true in def Bw{lo hi:Option Expr}{p2:Pos}{O I:Env->Option (Option Int)}(h1:SE X b G m e f)(hl:SO X b G lo O)(Y:SO X b G hi I)(hK:autoParam (X.K=b.C.K) r0_):SE X b G .val (.Subscript e (.Slice lo hi none p2) pos) (Z6 f O I):=by
 refine PE.imp (CN (r:=TY b.C.K) (by rw[←hK];exact T3) h1.bor hl Y) fun FV H Q ⟨Ow,env,p,E,hf,k⟩=>?_
 unfold Z6 at hf;cases q1:f env with
 |none=>rw[q1]at hf;cases hf
 |some p1=>
  rw[q1]at hf;cases q2:O env with
  |none=>rw[q2]at hf;cases hf
  |some l=>
   rw[q2]at hf;cases q3:I env with
   |none=>rw[q3]at hf;cases hf
   |some h=>
    rw[q3]at hf;refine⟨Ow,env,p1,E,q1,λv H1 j r1=>⟨Ow,env,l,E.up j,q2,λH2 n=>⟨Ow,env,h,E.up (j.trans n),q3,λZ B=>?_⟩⟩⟩;have M:EB b.C (Bs b Ow) Z v p1:=Res.up (m:=.bor) r1 (n.trans B);cases p1<;>simp only[ba]at hf
    case lst xs=>
     cases hf;obtain⟨a,vs,rfl,J,U⟩:=M.lst;exact .inl ⟨a,vs,rfl,Fc.of J,λq F=>k _ _ (j.trans (n.trans (B.trans (aM F _)))) (Res.val (m:=.own) E (λz=>nomatch z) (Res.down (j.trans (n.trans B)) (f9 F (U.cut l h))))⟩
    case frz xs=>
     cases hf;obtain⟨a,vs,rfl,J,U⟩:=M.frz;exact .inl ⟨a,vs,rfl,J,λq F=>k _ _ (j.trans (n.trans (B.trans (aM F _)))) (Res.val (m:=.own) E (λz=>nomatch z) (Res.down (j.trans (n.trans B)) (f9 F (U.cut l h))))⟩
    case str x=>
     split at hf
     ·rename_i hx
      cases hf;exact .inr ⟨x,M.str,iH hx,k _ _ (j.trans (n.trans B)) (.str _)⟩
     ·cases hf
    all_goals cases hf
def Ug{id:String}{x:Str}{g:PV->Option PV}(F:Fh X (.builtin id) r)(J:Op1 b m (λv H Q=>r [v] H Q) g)(I:X.mg x=none)(B:bootBuiltins x=some (.builtin id))(h:SE X b G m1 e f)
  (M:autoParam (Gl X x) r0_) (q:x ≠ "__name__" := by decide) (n:autoParam (Kt x) r1_) (j:autoParam (HK X e []) r0_):
  SE X b G m (.Call (.Name x p) [e] [] pos) (b1 g f):=
 PE.imp (gZ F M I B (aD h.bor aV j) q n j rfl) fun FV H Q h=>Ih J h
def zq{id:String}{x:Str}{g:PV->Option PV}(F:Fh X (.type id) r)(J:Op1 b m (λv H Q=>r [v] H Q) g)(I:X.mg x=none)(B:bootBuiltins x=some (.type id))(h:SE X b G m1 e f)
  (M:autoParam (Gl X x) r0_) (q:x ≠ "__name__" := by decide) (n:autoParam (Kt x) r1_) (j:autoParam (HK X e []) r0_):
  SE X b G m (.Call (.Name x p) [e] [] pos) (b1 g f):=
 PE.imp (Ag F M I B (aD h.bor aV j) q n j rfl) fun FV H Q h=>Ih J h
@[simp] noncomputable def FK:PV->Option PV
 |.lst xs=>some (.int xs.length)
 |.frz xs=>some (.int xs.length)
 |.tup xs=>some (.int xs.length)
 |.ktp xs=>some (.int xs.length)
 |.str x=>if x.length<=1000000 then some (.int x.length)else none
 |.dK kvs=>some (.int kvs.length)
 |_=>none
theorem EZ.length{C:MC}{A:se}{H:Hp}:∀{vs:List (Key×V)}{ps:List (Key×PV)},EZ C A H vs ps->vs.length=ps.length
 |_,_,.nil=>rfl
 |_,_,.cons _ t=>by simp[EZ.length t]
set_option tactic.hygienic true in def cI(J:X.mg "len" = none)(h:SE X b G m1 e f)(M:autoParam (X.K=b.C.K) r0_)(I:Gl X "len" := by rfl)(B:autoParam (HK X e []) r0_):SE X b G .val (.Call (.Name "len" p) [e] [] pos) (b1 FK f):=by
 refine Ug (Fh.or (Fh.or uK CV) Kl) (λOw H U p1 p Q O q e k=>?_) J kM h I (by decide) (by decide) B;rw[M];cases p1<;>simp only[FK]at e
 case lst xs=>cases e;obtain⟨a,vs,rfl,j,n⟩:=q.lst;exact .inl (.inl ⟨a,vs,rfl,.inl (Fc.of j),by rw[n.length];exact k _ H (D8.refl _) (.int _)⟩)
 case frz xs=>cases e;obtain⟨a,vs,rfl,j,n⟩:=q.frz;exact .inl (.inl ⟨a,vs,rfl,.inl j,by rw[n.length];exact k _ H (D8.refl _) (.int _)⟩)
 case tup xs=>cases e;obtain⟨a,vs,rfl,j,n⟩:=q.tup;exact .inl (.inl ⟨a,vs,rfl,.inr j.sq,by rw[n.length];exact k _ H (D8.refl _) (.int _)⟩)
 case ktp xs=>cases e;obtain⟨a,vs,rfl,j,n⟩:=q.ktp;exact .inl (.inl ⟨a,vs,rfl,.inr j,by rw[n.length];exact k _ H (D8.refl _) (.int _)⟩)
 case str x=>
  split at e
  ·rename_i F
   cases e;rw[q.str];exact .inl (.inr ⟨x,rfl,iH F,k _ H (D8.refl _) (.int _)⟩)
  ·cases e
 case dK kvs=>cases e;obtain⟨a,vs,rfl,j,n⟩:=q.dK;exact .inr ⟨a,vs,rfl,j,by rw[n.length];exact k _ H (D8.refl _) (.int _)⟩
 all_goals cases e
noncomputable def Io:Key->PV
 |.inl i=>.int i
 |.inr x=>.str x
@[simp] noncomputable def Ip:PV->Option PV
 |.lst xs=>some (.lst xs)
 |.frz xs=>some (.lst xs)
 |.tup xs=>some (.lst xs)
 |.ktp xs=>some (.lst xs)
 |.dK kvs=>some (.lst (kvs.map λkv=>Io kv.1))
 |_=>none
def Q7(k:Key):Rep C A H (kV k) (Io k):=by cases k with|inl i=>exact .int i|inr x=>exact .str x
theorem EZ.keys{C:MC}{A:se}{H:Hp}:∀{vs:List (Key×V)}{ps:List (Key×PV)},EZ C A H vs ps->D7 C A H (vs.map λj=>kV j.1) (ps.map λj=>Io j.1)
 |_,_,.nil=>.nil
 |_,_,.cons (k:=k) _ t=>.cons (Q7 k) (EZ.keys t)
def Q8(M:X.mg "list" = none)(h:SE X b G m1 e f)(F:autoParam (X.calm=true) r0_)(O:autoParam (X.K=b.C.K) r0_)(J:Gl X "list" := by rfl)(I:autoParam (HK X e []) r0_):SE X b G .own (.Call (.Name "list" p) [e] [] pos) (b1 Ip f):=by
 refine zq (Fh.or CW (zg F)) (λOw H Y p1 p Q U B e k=>?_) M ij h J (by decide) (by decide) I;rw[O];cases p1<;>simp only[Ip]at e<;>cases e
 case lst xs=>obtain⟨a,vs,rfl,n,q⟩:=B.lst;exact .inl ⟨a,vs,rfl,.inl (Fc.of n),λl j=>k _ _ (aM j _) (f9 j q)⟩
 case frz xs=>obtain⟨a,vs,rfl,n,q⟩:=B.frz;exact .inl ⟨a,vs,rfl,.inl n,λl j=>k _ _ (aM j _) (f9 j q)⟩
 case tup xs=>obtain⟨a,vs,rfl,n,q⟩:=B.tup;exact .inl ⟨a,vs,rfl,.inr n.sq,λl j=>k _ _ (aM j _) (f9 j q)⟩
 case ktp xs=>obtain⟨a,vs,rfl,n,q⟩:=B.ktp;exact .inl ⟨a,vs,rfl,.inr n,λl j=>k _ _ (aM j _) (f9 j q)⟩
 case dK kvs=>obtain⟨a,vs,rfl,n,q⟩:=B.dK;exact .inr ⟨a,vs,rfl,n,λl j=>k _ _ (aM j _) (f9 j q.keys)⟩
@[simp] noncomputable def IT:List PV->Option (List Str)
 |[]=>some []
 |.str c::r=>(IT r).map (c::·)
 |_::_=>none
set_option tactic.hygienic true in theorem D7.IT{C:MC}{A:se}{H:Hp}:∀{vs:sC}{ps:sA}{bs:rj},D7 C A H vs ps->IT ps=some bs->vs=bs.map V.str
 |_,_,_,.nil,e=>by cases e;rfl
 |_,_,_,.cons (p:=p) (ps:=ps) h t,e=>by
  cases p<;>simp only[MR.IT]at e<;>first|cases e|skip
  rename_i c;cases q:MR.IT ps with
  |none=>rw[q]at e;cases e
  |some bs=>rw[q]at e;cases e;cases h;rw[D7.IT t q];rfl
@[simp] noncomputable def yg:PV->PV->Option PV
 |.str z,.lst xs=>(IT xs).bind λzs=>if JoinOk z zs=true then some (.str (Str.join z zs))else none
 |_,_=>none
def Wx{id:String}{name:Str}{apos EN:Pos}{o:Expr}{fo:si}{r:V->List V->Hp->VK->Prop}{g:sx}(n:Slot "str" name id)(O:typeOf (.builtin id)=pure (.type "method_descriptor"))(pa:PlainAttrs "str")(Z:MtR X id r)
  (hr:Mc b m (λx y H Q=>(∃z,x=.str z)->r x [y] H Q) g) (F:∀x y p,g x y=some p->∃z,x=.str z) (ho:SE X b G m1 o fo) (h:SE X b G m2 e f)
  (U:autoParam (SY X o name) r0_)
  (LV:autoParam (Zb X EN [e]) r0_)
  (M:autoParam ((apos.endLine == EN.line)=true) r0_) (I:autoParam (HK X e []) r0_):
  SE X b G m (.Call (.Attribute o name apos) [e] [] EN) (b2 g fo f):=by
 refine PE.imp (Br pa n O Z ho.bor (aD h.bor aV I) U LV M I rfl) fun FV H Q h=>?_
 obtain⟨Ow,env,p,E,j,k⟩:=h;unfold b2 at j;cases q1:fo env with
 |none=>rw[q1]at j;cases j
 |some p1=>
  rw[q1]at j;cases q2:f env with
  |none=>rw[q2]at j;cases j
  |some p2=>
   rw[q2]at j;simp only[ba]at j;obtain⟨z,rfl⟩:=F _ _ _ j;refine⟨Ow,env,_,E,q1,λv1 H1 B Y=>?_⟩;have J:EB b.C (Bs b Ow) H1 v1 (.str z):=Y;have ev:=J.str;subst ev;refine⟨rfl,Ow,env,p2,E.up B,q2,λv2 H2 q r2=>?_⟩;exact hr Ow H2 _ v2 _ p2 p Q (λa=>(E.up (B.trans q)).fresh) (EB.ex (.of_same q) q J) r2 j (λv H' s r=>k v H' (B.trans (q.trans s)) (r.down (B.trans q))) ⟨z,rfl⟩
set_option tactic.hygienic true in def Q9:Mc b .val (λx y H Q=>(∃z,x=.str z)->rJoin b.C.K x [y] H Q) yg:=by
 intro Ow H U O p1 p2 p Q M I B e k _;unfold yg at e;split at e
 ·rename_i z xs
  cases q:IT xs with
  |none=>rw[q]at e;cases e
  |some zs=>
   rw[q]at e;simp only[ba]at e;split at e
   ·rename_i F
    cases e;obtain⟨a,vs,rfl,n,J⟩:=B.lst;have j:=J.IT q;subst j;exact⟨z,a,zs,I.str,rfl,Fc.of n,F,k _ H (D8.refl _) (.str _)⟩
   ·cases e
 ·cases e
def Q_{apos EN:Pos}{o:Expr}{fo:si}(J:SE X b G m1 o fo)(h:SE X b G m2 e f)(n:autoParam (X.K=b.C.K) r0_)(j:SY X o "join" := by rfl)
  (I:autoParam (Zb X EN [e]) r0_)
  (q:autoParam ((apos.endLine == EN.line)=true) r0_) (B:autoParam (HK X e []) r0_):
  SE X b G .val (.Call (.Attribute o "join" apos) [e] [] EN) (b2 yg fo f):=
 Wx PySem.F.slot_str_join PySem.F.type_str_join PySem.F.plainAttrs_str (r:=rJoin b.C.K) (by rw[←n];exact QZ) Q9 (λx y p e=>by
  unfold yg at e;split at e
  ·exact⟨_,rfl⟩
  ·cases e) J h j I q B
def Ret(C:MC)(A:se)(H:Hp)(ro:Bool)(H':Hp)(v:V)(p:PV):Prop:=match ro with
 |true=>∃a,v=.ref a/\H a=none/\Top C (λc=>(A c\/H c=none)/\c≠a) H' a p
 |false=>Rep C (λc=>A c\/H c=none) H' v p
inductive spN(C:MC)(m:sj)(ro:Bool)(vs:sC)(H:Hp)(Q:VK):Prop
 |mk (A:_) (ps:_) (p:_) (h0:D7 C A H vs ps) (h1:m ps=some p) (h2:∀v H',D8 H H'->Ret C A H ro H' v p->Q v H'):spN C m ro vs H Q
def IL(C:MC)(m:sj)(ro:Bool):Sp:=λvs H Q _=>spN C m ro vs H Q
def Nk:Bool->Md
 |true=>.own
 |false=>.val
def Ret.res{env:Env}{H1:Hp}{q:PV}(E:ER b Ow G FV env H)(s:D8 H H1)(r:Ret b.C (Bs b Ow) H1 ro H' v q):Res b Ow H H' (Nk ro) v q:=by
 cases ro with
 |true=>
  obtain⟨a,rfl,h,t⟩:=r;exact⟨a,rfl,s.free h,t.ex (bB λc o _ z=>⟨z.1.elim id λw=>(E.up s).fresh w,z.2⟩) λo z=>z⟩
 |false=>exact Rep.ex (bB λc o _ z=>z.elim id λw=>(E.up s).fresh w) r
def Ra{k j:Nat}{x:Str}{ps:rj}{F:sj}(c:QI X.prog X.w X.K X.mg X.base k x ps (IL b.C F ro))(Y:EU j X.A)(U:SA X b G false (e::es) g)(B:autoParam (k<=j) r1_)(Z:autoParam (Gl X x) r0_)
  (M:autoParam (Kt x) r1_) (O:autoParam (HK X e es) r0_) (FO:autoParam (Lo X pos es) r0_):
  SE X b G (Nk ro) (.Call (.Name x p) (e::es) [] pos) (aW F g):=by
 refine PE.imp (iB c Y U B Z M O FO) ?_;rintro FV H Q ⟨Ow,env,q,E,n,kk⟩;unfold aW at n;cases q1:g env with
 |none=>rw[q1]at n;cases n
 |some J=>
  rw[q1]at n;refine⟨Ow,env,J,E,q1,λvs H1 I r=>?_⟩;rw[cS];exact⟨Bs b Ow,J,q,Bv r,n,λv H' s' rr=>kk v H' (I.trans s') (Ret.res E I rr)⟩
mutual
noncomputable def NH:PV->Bool
 |.lst _=>false
 |.tup xs=>zr xs
 |.ktp xs=>zr xs
 |.frz xs=>zr xs
 |.dK kvs=>Ir kvs
 |.dT kvs=>Iu kvs
 |.obj _ fs=>Iv fs
 |_=>true
noncomputable def zr:List PV->Bool
 |[]=>true
 |x::xs=>NH x&&zr xs
noncomputable def Ir:List (Key×PV)->Bool
 |[]=>true
 |x::xs=>NH x.2&&Ir xs
noncomputable def Iu:List (List D5×PV)->Bool
 |[]=>true
 |x::xs=>NH x.2&&Iu xs
noncomputable def Iv:List (Str×PV)->Bool
 |[]=>true
 |x::xs=>NH x.2&&Iv xs
end
def NL(A A':se)(H:Hp):Prop:=∀a o,H a=some o->A a->A' a\/∃vs,o=.lst vs
def Rep.nl5(e:NL A A' H):(∀{v p},Rep C A H v p->NH p=true->Rep C A' H v p)/\(∀{v p},D7 C A H v p->zr p=true->D7 C A' H v p)/\(∀{v p},EZ C A H v p->Ir p=true->EZ C A' H v p)/\(∀{v p},EM C A H v p->Iu p=true->EM C A' H v p)/\(∀{v p},F8 C A H v p->Iv p=true->F8 C A' H v p):=by
 refine Rep.nd (λ_=>.Ee) (λb _=>.bl b) (λb _=>.int b) (λb _=>.str b) ?_ ?_ ?_ ?_ ?_ ?_ ?_ ?_ ?_ (λ_=>.nil) ?_ (λ_=>.nil) ?_ (λ_=>.nil) ?_ (λ_=>.nil) ?_
 ·intro a vs xs h q _ _ n;simp only[NH]at n;cases n
 ·intro a o vs xs h _ r n;simp only[NH]at n;exact .QN h (r n)
 ·intro a vs xs h _ r n;simp only[NH]at n;exact .lstK h (r n)
 ·intro a vs xs h _ r n;simp only[NH]at n;exact .tup h (r n)
 ·intro a vs xs h _ r n;simp only[NH]at n;exact .GY h (r n)
 ·intro a vs xs h _ r n;simp only[NH]at n;exact .tupK h (r n)
 ·intro a vs xs h q _ r n;simp only[NH]at n;exact .dK h ((e _ _ h q).elim id λz=>nomatch z.choose_spec) (r n)
 ·intro a vs xs h q _ r n;simp only[NH]at n;exact .dT h ((e _ _ h q).elim id λz=>nomatch z.choose_spec) (r n)
 ·intro a dx c f fs h q _ r n;simp only[NH]at n;exact .obj h ((e _ _ h q).elim id λz=>nomatch z.choose_spec) (r n)
 ·intro v p vs ps _ _ h t n;simp only[zr,cE]at n;exact .cons (h n.1) (t n.2)
 ·intro k v p vs ps _ _ h t n;simp only[Ir,cE]at n;exact .cons (h n.1) (t n.2)
 ·intro k v p vs ps _ _ h t n;simp only[Iu,cE]at n;exact .cons (h n.1) (t n.2)
 ·intro k v p vs ps _ _ h t n;simp only[Iv,cE]at n;exact .cons (h n.1) (t n.2)
def Rep.nl(e:NL A A' H){p:PV}:Rep C A H v p->NH p=true->Rep C A' H v p:=(Rep.nl5 e).1
noncomputable def yh(mi:sj)(g:sw)(env:Env):Option PV:=((g env).bind mi).bind λp=>if NH p=true then some p else none
@[simp] def Xa(j:sj)(g:sw)(env:Env):yh j g env=(((g env).bind j).bind λp=>if NH p=true then some p else none):=id rfl
set_option tactic.hygienic true in def Nm{k j:Nat}{x:Str}{ps:rj}{F:sj}(c:QI X.prog X.w X.K X.mg X.base k x ps (IL b.C F false))(Z:EU j X.A)(B:SA X b G true (e::es) g)(I:autoParam (k<=j) r1_)(hg:autoParam (Gl X x) r0_)
  (U:autoParam (Kt x) r1_) (Y:autoParam (HK X e es) r0_) (FO:autoParam (Lo X pos es) r0_):
  SE X b G .val (.Call (.Name x p) (e::es) [] pos) (yh F g):=by
 refine PE.imp (iB c Z B I hg U Y FO) ?_;rintro FV H Q ⟨Ow,env,q,E,n,kk⟩;unfold yh at n;cases q1:g env with
 |none=>rw[q1]at n;cases n
 |some M=>
  rw[q1]at n;simp only[ba]at n;cases q2:F M with
  |none=>rw[q2]at n;cases n
  |some q'=>
   rw[q2]at n;simp only[ba]at n;split at n
   ·rename_i hl
    cases n;refine⟨Ow,env,M,E,q1,λvs H1 O r=>?_⟩;rw[cS];refine⟨ArA b Ow true H1,M,q,r,q2,λv H' s' rr=>kk v H' (O.trans s') ?_⟩;have J:Rep b.C (λc=>ArA b Ow true H1 c\/H1 c=none) H' v q:=rr;refine J.nl (λa o B z=>?_) hl;rcases z with(z|⟨_,us,z⟩)|z
    ·exact .inl z
    ·have:=s' _ _ z
     rw[this]at B;exact .inr ⟨us,(bp B).symm⟩
    ·exact .inl ((E.up O).fresh z)
   ·cases n
noncomputable def mL(c:Nat)(x:Str)(f:si)(env:Env):Option PV:=(f env).bind λp=>match p with
 |.obj c' fs=>if c'=c then fs.lookup x else none
 |_=>none
@[simp] def jy(c:Nat)(x:Str)(f:si)(env:Env):mL c x f env=((f env).bind λp=>match p with
 |.obj j fs=>if j=c then fs.lookup x else none
 |_=>none):=id rfl
set_option tactic.hygienic true in def rY{c:Nat}{x:Str}(J:OE b.C.K (b.C.cl c))(I:EX b.C.K (b.C.cl c) x)(h:SE X b G m e f)(B:autoParam (SY X e x) r0_)(hK:autoParam (X.K=b.C.K) r0_):SE X b G .val (.Attribute e x pos) (mL c x f):=
 PE.imp (J5 h.bor B)<|by
  rintro FV H Q ⟨Ow,env,p,E,j,k⟩;unfold mL at j;cases q1:f env with
  |none=>rw[q1]at j;cases j
  |some p1=>
   rw[q1]at j;refine⟨Ow,env,p1,E,q1,λv H1 F r1=>?_⟩;have Z:EB b.C (Bs b Ow) H1 v p1:=r1;cases p1<;>simp only[ba]at j<;>first|cases j|skip
   rename_i c' fs;split at j
   ·rename_i n
    subst n;obtain⟨a,dx,M,rfl,Y,ra⟩:=Z.obj;obtain⟨q,O,U⟩:=ra.look j;rw[hK];exact⟨a,_,dx,M,q,rfl,Y,J,I,O,k q H1 F U⟩
   ·cases j
structure KS(P:Program)(w:World)(K:W.Frag)(mg:rX)(base:Heap)(C:Addr)(k:Nat)(x:Str)(ps:rj)(sp:Sp):Prop where
 ex:∃f fd,FA P w K mg base Lu k f fd ps sp/\Binds K fd ps []/\Meth K C x f
noncomputable def vJ(c:Nat)(x:Str)(mi:sj)(f:si)(g:sw)(env:Env):Option PV:=(f env).bind λp=>match p with
 |.obj c' fs=>if c'=c/\fs.lookup x=none then(g env).bind λps=>mi (p::ps)else none
 |_=>none
@[simp] def Xh(c:Nat)(x:Str)(j:sj)(f:si)(g:sw)(env:Env):vJ c x j f g env=((f env).bind λp=>match p with
 |.obj n fs=>if n=c/\fs.lookup x=none then(g env).bind λps=>j (p::ps)else none
 |_=>none):=id rfl
set_option tactic.hygienic true in def Rb{c k j:Nat}{o:Expr}{fo:si}{x:Str}{ps:rj}{Z:sj}{apos:Pos}(cM:KS X.prog X.w X.K X.mg X.base (b.C.cl c) k x ps (IL b.C Z ro))(hc:OE X.K (b.C.cl c))(hr:EU j X.A)(ho:SE X b G .val o fo)(ha:SA X b G false (e::es) g)(J:autoParam (k<=j) r1_)
  (OC:autoParam (HK X e es) r0_) (FO:autoParam (Lo X pos es) r0_){pl:Sem Bool}
  (ht:eval (.Call (.Attribute o x apos) (e::es) [] pos) X.env=(do
   let ov ←eval o X.env
   standAt apos.atName
   let (f,first) ←holding [ov] (getMethod ov x pl)
   callWith pos f first (backTo pos (starEach (e::es) X.env)) (backToKw pos (keywordEach [] X.env))):=by rfl):
  SE X b G (Nk ro) (.Call (.Attribute o x apos) (e::es) [] pos) (vJ c x Z fo g):=by
 obtain⟨f,fd,F,hb,hM⟩:=cM.ex;refine PE.imp (GC (pl:=pl) ho hc hM F (hr.mono J) hb .nil xU ha OC FO ht) ?_;rintro FV H Q ⟨Ow,env,q,E,n,kk⟩;unfold vJ at n;cases q1:fo env with
 |none=>rw[q1]at n;cases n
 |some p1=>
  rw[q1]at n;refine⟨Ow,env,p1,E,q1,λv H1 I r1=>?_⟩;have B:Rep b.C (Bs b Ow) H1 v p1:=r1;cases p1<;>simp only[ba]at n<;>first|cases n|skip
  rename_i c' fs;split at n
  ·rename_i Y
   obtain⟨rfl,U⟩:=Y;cases q2:g env with
   |none=>rw[q2]at n;cases n
   |some qs=>
    rw[q2]at n;obtain⟨a,dx,fv,rfl,M,ra⟩:=EB.obj (.inl B);refine⟨a,dx,fv,rfl,M,ra.Zp U,Ow,env,qs,E.up I,q2,λvs H2 O r2=>?_⟩;rw[cS];exact⟨Bs b Ow,_::qs,q,.cons (B.ex (.of_same O)) (Bv r2),n,λv' H' s' rr=>kk v' H' (I.trans (O.trans s')) (Ret.res E (I.trans O) rr)⟩
  ·cases n
def aL{k j:Nat}{x:Str}{ps:rj}{q:sj}(c:QI X.prog X.w X.K X.mg X.base k x ps (IL b.C q false))(J:EU j X.A)(I:SA X b G false (e::es) g)(n:autoParam (k<=j) r1_)(M:autoParam (Gl X x) r0_)
  (B:autoParam (Kt x) r1_) (F:autoParam (HK X e es) r0_) (O:autoParam (Lo X pos es) r0_):
  SE X b G .val (.Call (.Name x p) (e::es) [] pos) (aW q g):=Ra c J I n M B F O
def Dg{c k j:Nat}{o:Expr}{fo:si}{x:Str}{ps:rj}{q:sj}{apos:Pos}(O:KS X.prog X.w X.K X.mg X.base (b.C.cl c) k x ps (IL b.C q false))(B:OE X.K (b.C.cl c))(U:EU j X.A)(Y:SE X b G .val o fo)(I:SA X b G false (e::es) g)(n:autoParam (k<=j) r1_)
  (F:autoParam (HK X e es) r0_) (J:autoParam (Lo X pos es) r0_){pl:Sem Bool}
  (M:eval (.Call (.Attribute o x apos) (e::es) [] pos) X.env=(do
   let ov ←eval o X.env
   standAt apos.atName
   let (f,first) ←holding [ov] (getMethod ov x pl)
   callWith pos f first (backTo pos (starEach (e::es) X.env)) (backToKw pos (keywordEach [] X.env))):=by rfl):
  SE X b G .val (.Call (.Attribute o x apos) (e::es) [] pos) (vJ c x q fo g):=Rb (pl:=pl) O B U Y I n F J M
end
section
variable {b:BX}{Ow:se}{G:qV}{FV:St}{env:Env}{H H':Hp}
set_option tactic.hygienic true in def ER.set(E:ER b Ow G FV env H){i:Nat}{v:V}{p:PV}(hi:i∉G)(r:Rep b.C (Bs b Ow) H v p)(Y:b.fx i=none):ER b Ow G (FV.set i (some v)) (env.set i (some p)) H:=by
 refine⟨by rw[eM,eM];exact E.len,E.same,E.live,E.new,λj q e n=>?_,λj q e n=>?_,λj k a q q' e1 O M e2 U J=>?_,λk w I=>?_⟩
 ·by_cases B:i=j
  ·subst B
   rw[kN]at e;split at e
   ·split at e
    ·rename_i Z
     have:=bp (bp e);subst this;exact⟨v,by rw[eR (by rw[E.len];exact Z)],r⟩
    ·cases e
   ·exact absurd rfl ‹_›
  ·rw[bP B]at e ⊢
   exact E.val j q e n
 ·have B:i≠j:=λz=>hi (z▸n)
  rw[bP B]at e ⊢;exact E.own j q e n
 ·have B:i≠j:=λz=>hi (z▸O)
  have F:i≠k:=λz=>hi (z▸U);rw[bP B]at e1 M;rw[bP F]at e2 J;exact E.sep j k a q q' e1 O M e2 U J
 ·by_cases F:i=k
  ·subst F;rw[Y]at I;cases I
  ·rw[bP F];exact E.fix k w I
set_option tactic.hygienic true in def ER.setO(E:ER b Ow G FV env H){i:Nat}{p:PV}{H0:Hp}{G':qV}(U:∀j,j∈G'↔(j∈G\/j=i))(s0:D8 H0 H)(hn:H0 a=none)(I:ER b Ow G FV env H0)(t:Top b.C (λc=>Bs b Ow c/\c≠a) H a p)(hx:b.fx i=none):
  ER b (λc=>Ow c\/c=a) G' (FV.set i (some (.ref a))) (env.set i (some p)) H/\Ex (Bs b Ow) H0 (Bs b λc=>Ow c\/c=a) H:=by
 have O:Ex (Bs b Ow) H0 (Bs b λc=>Ow c\/c=a) H:=λc o h=>⟨λq=>⟨s0 _ _ h,λz=>z.elim q.1 (aF h hn),q.2⟩,λ_=>s0 _ _ h⟩;have ht:Top b.C (Bs b λc=>Ow c\/c=a) H a p:=t.ex (bB λc o _ q=>⟨λz=>z.elim q.1.1 q.2,q.1.2⟩) λo z=>z;refine⟨⟨by rw[eM,eM];exact E.len,E.same,λc w=>w.elim (E.live c) λz=>by subst z;obtain⟨o,h,_⟩:=t.live;exact⟨o,h⟩,λc w=>w.elim (E.new c) λz=>by subst z;exact I.same.free hn,λj q e n=>?_,λj q e n=>?_,λj k c q q' e1 n1 J e2 n2 M=>?_,λk w hw=>?_⟩,O⟩
 ·have B:i≠j:=λz=>n ((U j).mpr (.inr z.symm))
  rw[bP B]at e ⊢;obtain⟨v,h1,h2⟩:=I.val j q e λz=>n ((U j).mpr (.inl z));exact⟨v,h1,h2.ex O⟩
 ·by_cases B:i=j
  ·subst B
   rw[kN]at e;split at e
   ·split at e
    ·rename_i F
     have:=bp (bp e);subst this;exact⟨a,by rw[eR (by rw[E.len];exact F)],.inr rfl,ht⟩
    ·cases e
   ·exact absurd rfl ‹_›
  ·rw[bP B]at e ⊢
   have Z:j∈G:=((U j).mp n).elim id λz=>absurd z.symm B;obtain⟨c,h1,h2,h3⟩:=I.own j q e Z;exact⟨c,h1,.inl h2,h3.ex O λo z=>s0 _ _ z⟩
 ·have Y:∀{j:Nat}{q:PV},i≠j->j∈G'->env[j]?=some (some q)->FV[j]?=some (some (.ref c))->c≠a:=λ{j q} B n e s=>by
   have Z:j∈G:=((U j).mp n).elim id λz=>absurd z.symm B;obtain⟨c',h1,h2,h3⟩:=I.own j q e Z;rw[s]at h1;cases h1;obtain⟨o,h4,_⟩:=h3.live;exact aF h4 hn
  by_cases B:i=j
  ·by_cases hk:i=k
   ·exact B.symm.trans hk
   ·subst B
    rw[bP hk]at e2 M;have F:i<FV.length:=by
     by_cases F:i<FV.length
     ·exact F
     ·rw[eJ (by rw[eM];omega)]at J;cases J
    rw[eR F]at J;cases J;exact absurd rfl (Y hk n2 e2 M)
  ·by_cases hk:i=k
   ·subst hk
    rw[bP B]at e1 J;have F:i<FV.length:=by
     by_cases F:i<FV.length
     ·exact F
     ·rw[eJ (by rw[eM];omega)]at M;cases M
    rw[eR F]at M;cases M;exact absurd rfl (Y B n1 e1 J)
   ·rw[bP B]at e1 J
    rw[bP hk]at e2 M;have g1:j∈G:=((U j).mp n1).elim id λz=>absurd z.symm B;have g2:k∈G:=((U k).mp n2).elim id λz=>absurd z.symm hk;exact E.sep j k c q q' e1 g1 J e2 g2 M
 ·by_cases hk:i=k
  ·subst hk;rw[hx]at hw;cases hw
  ·rw[bP hk];exact E.fix k w hw
def ER.write(E:ER b Ow G FV env H){i:Nat}{p p':PV}{o':HO}(hi:i∈G)(Y:FV[i]?=some (some (.ref a)))(U:env[i]?=some (some p))(J:Ow a)(t:Top b.C (Bs b Ow) H a p)(t':Top b.C (Bs b Ow) (upd H a o') a p'):
  ER b Ow G FV (env.set i (some p')) (upd H a o')/\Ex (Bs b Ow) H (Bs b Ow) (upd H a o'):=by
 obtain⟨o,ho,hm⟩:=t.live;have M:Ex (Bs b Ow) H (Bs b Ow) (upd H a o'):=λc u h=>⟨λq=>⟨by rw[aG (λz:c=a=>q.1 (z▸J))];exact h,q⟩,λm=>by
  have B:c≠a:=λz=>by subst z;rw[ho]at h;cases h;rw[hm]at m;cases m
  rw[aG B];exact h⟩
 refine⟨⟨by rw[eM];exact E.len,λc u h=>?_,λc w=>?_,E.new,λj q e n=>?_,λj q e n=>?_,λj k c q q' e1 n1 Z e2 n2 s2=>?_,E.fix⟩,M⟩
 ·have B:c≠a:=aF h (E.new a J)
  rw[aG B];exact E.same c u h
 ·by_cases B:c=a
  ·subst B;exact⟨o',aB⟩
  ·obtain⟨u,h⟩:=E.live c w
   exact⟨u,by rw[aG B];exact h⟩
 ·have I:i≠j:=λz=>n (z▸hi)
  rw[bP I]at e;obtain⟨v,h1,h2⟩:=E.val j q e n;exact⟨v,h1,h2.ex M⟩
 ·by_cases I:i=j
  ·subst I
   rw[kN]at e;split at e
   ·split at e
    ·have:=bp (bp e)
     subst this;exact⟨a,Y,J,t'⟩
    ·cases e
   ·exact absurd rfl ‹_›
  ·rw[bP I]at e
   obtain⟨c,h1,h2,h3⟩:=E.own j q e n;have B:c≠a:=λz=>by subst z;exact I (E.sep i j c p q U hi Y e n h1)
   exact⟨c,h1,h2,h3.ex M λu z=>by rw[aG B];exact z⟩
 ·have F:∀{j:Nat}{q:PV},(env.set i (some p'))[j]?=some (some q)->∃q,env[j]?=some (some q):=λ{j q} e=>by
   by_cases I:i=j
   ·subst I;exact⟨p,U⟩
   ·rw[bP I]at e;exact⟨q,e⟩
  obtain⟨r1,O⟩:=F e1;obtain⟨r2,Z4⟩:=F e2;exact E.sep j k c r1 r2 O n1 Z Z4 n2 s2
def ER.weak{F:qV}(E:ER b Ow G FV env H)(h:∀j,j∈F->j∈G):∃J,ER b J F FV env H/\Ex (Bs b Ow) H (Bs b J) H:=by
 refine⟨λa=>Ow a/\∃j q,j∈F/\env[j]?=some (some q)/\FV[j]?=some (some (.ref a)),?_⟩;have B:Ex (Bs b Ow) H (Bs b λa=>Ow a/\∃j q,j∈F/\env[j]?=some (some q)/\FV[j]?=some (some (.ref a))) H:=bB λc o _ q=>⟨λz=>q.1 z.1,q.2⟩;refine⟨⟨E.len,E.same,λa w=>E.live a w.1,λa w=>E.new a w.1,λi p e n=>?_,λi p e n=>?_,λi j a p q e1 Z Y e2 n2 O=>E.sep i j a p q e1 (h i Z) Y e2 (h j n2) O,E.fix⟩,B⟩
 ·by_cases hi:i∈G
  ·obtain⟨a,h1,h2,I⟩:=E.own i p e hi
   refine⟨_,h1,(I.ex B λo z=>z).rep ⟨λz=>?_,.inr (E.new a h2)⟩⟩;obtain⟨_,j,q,M,U,s'⟩:=z;have:=E.sep i j a p q e hi h1 U (h j M) s';subst this;exact n M
  ·obtain⟨v,h1,h2⟩:=E.val i p e hi
   exact⟨v,h1,h2.ex B⟩
 ·obtain⟨a,h1,h2,I⟩:=E.own i p e (h i n)
  exact⟨a,h1,⟨h2,i,p,n,e,h1⟩,I.ex B λo z=>z⟩
def ER.forget(E:ER b Ow G FV env H)(i:Nat):ER b Ow G FV (env.set i none) H:=by
 have B:∀{j:Nat}{q:PV},(env.set i none)[j]?=some (some q)->env[j]?=some (some q):=λ{j q} e=>by
  by_cases hj:i=j
  ·subst hj
   rw[kN]at e;split at e
   ·split at e<;>cases e
   ·exact absurd rfl ‹_›
  ·rw[bP hj]at e;exact e
 exact⟨by rw[eM];exact E.len,E.same,E.live,E.new,λj q e n=>E.val j q (B e) n,λj q e n=>E.own j q (B e) n,λj k a q J e1 M I e2 O F=>E.sep j k a q J (B e1) M I (B e2) O F,E.fix⟩
@[simp] noncomputable def Lv:List Nat->Env->Env
 |[],env=>env
 |i::r,env=>Lv r (env.set i none)
theorem ER.Lv:∀{ds:qV}{env:Env},ER b Ow G FV env H->ER b Ow G FV (Lv ds env) H
 |[],_,E=>E
 |i::r,env,E=>ER.Lv (ds:=r) (E.forget i)
end
inductive Out where
 |nx (e:Env)|bk (e:Env)|ct (e:Env)|rt (p:PV)
def YO(b:BX)(Ow:se)(H:Hp)(G L:qV)(ro:Bool)(D:Ends):Out->Prop
 |.nx e=>∀Fs GG H',ER b Fs G GG e H'->Ex (Bs b Ow) H (Bs b Fs) H'->D.nx GG H'
 |.bk e=>∀Fs GG H',ER b Fs L GG e H'->Ex (Bs b Ow) H (Bs b Fs) H'->D.bk GG H'
 |.ct e=>∀Fs GG H',ER b Fs L GG e H'->Ex (Bs b Ow) H (Bs b Fs) H'->D.ct GG H'
 |.rt p=>∀v H',D8 b.H0 H'->Ret b.C b.A b.H0 ro H' v p->D.rt v H'
inductive tS(b:BX)(G G' L:qV)(ro:Bool)(f:Env->Option Out)(D:Ends)(FV:St)(H:Hp):Prop
 |mk (Ow:se) (env:Env) (out:Out) (E:ER b Ow G FV env H) (hf:f env=some out) (k:YO b Ow H G' L ro D out):tS b G G' L ro f D FV H
abbrev SS(X:Cx)(b:BX)(G G' L:qV)(ro:Bool)(st:Stmt)(f:Env->Option Out):Prop:=PS X st (tS b G G' L ro f)
abbrev QO(X:Cx)(b:BX)(G G' L:qV)(ro:Bool)(st:rg)(f:Env->Option Out):Prop:=L5 X st (tS b G G' L ro f)
def L5.imp{e:rg}{t u:TS}(h:L5 X e t)(i:∀D FV H,u D FV H->t D FV H):L5 X e u:=λD3 s FV H D I q=>h D3 s FV H D I (i D FV H q)
def PS.or{e:Stmt}{t u:TS}(h:PS X e t)(h':PS X e u):PS X e (λD FV H=>t D FV H\/u D FV H):=λD3 s FV H D I q=>q.elim (h D3 s FV H D I) (h' D3 s FV H D I)
def YO.ex{b:BX}{j:se}{H1:Hp}{G L:qV}{D:Ends}{o:Out}(e:Ex (Bs b Ow) H (Bs b j) H1)(h:YO b Ow H G L ro D o):YO b j H1 G L ro D o:=by
 cases o with
 |nx B=>exactλn q H' E x=>h n q H' E (e.trans x)
 |bk B=>exactλn q H' E x=>h n q H' E (e.trans x)
 |ct B=>exactλn q H' E x=>h n q H' E (e.trans x)
 |rt p=>exact h
noncomputable def HA(env:Env):Option Out:=some (.nx env)
@[simp] def Kv(env:Env):HA env=(some (.nx env)):=id rfl
noncomputable def sNo(env:Env):Option Out:=none
@[simp] def Yb(env:Env):sNo env=(none):=id rfl
noncomputable def aN(f g:Env->Option Out)(env:Env):Option Out:=(f env).bind λo=>match o with|.nx e=>g e|o=>some o
@[simp] def XC(f g:Env->Option Out)(env:Env):aN f g env=((f env).bind λo=>match o with|.nx e=>g e|o=>some o):=id rfl
noncomputable def aY(i:Nat)(f:si)(env:Env):Option Out:=(f env).bind λp=>some (.nx (env.set i (some p)))
@[simp] def XD(i:Nat)(f:si)(env:Env):aY i f env=((f env).bind λp=>some (.nx (env.set i (some p)))):=id rfl
noncomputable def bj(f:si)(env:Env):Option Out:=(f env).bind λp=>some (.rt p)
@[simp] def XF(f:si)(env:Env):bj f env=((f env).bind λp=>some (.rt p)):=id rfl
noncomputable def GO(c:sv)(f g:Env->Option Out)(env:Env):Option Out:=(c env).bind λk=>if k=true then f env else g env
@[simp] def Dh(c:sv)(f g:Env->Option Out)(env:Env):GO c f g env=((c env).bind λk=>if k=true then f env else g env):=id rfl
noncomputable def gC(g:sx)(i:Nat)(f:si)(env:Env):Option Out:=(bV i env).bind λx=>(f env).bind λp=>(g x p).bind λy=>some (.nx (env.set i (some y)))
@[simp] def Xi(g:sx)(i:Nat)(f:si)(env:Env):gC g i f env=((bV i env).bind λx=>(f env).bind λp=>(g x p).bind λy=>some (.nx (env.set i (some y)))):=id rfl
noncomputable def lB(g:PV->PV->PV->Option PV)(i:Nat)(f h:si)(env:Env):Option Out:=(bV i env).bind λx=>(f env).bind λp=>(h env).bind λq=>(g x p q).bind λy=>some (.nx (env.set i (some y)))
@[simp] def Xj(g:PV->PV->PV->Option PV)(i:Nat)(f h:si)(env:Env):lB g i f h env=((bV i env).bind λx=>(f env).bind λp=>(h env).bind λq=>(g x p q).bind λy=>some (.nx (env.set i (some y)))):=id rfl
@[simp] noncomputable def mO:PV->PV->Option PV
 |.lst xs,p=>if xs.length<1000000 then some (.lst (xs++[p]))else none
 |_,_=>none
noncomputable def cu{κ:Type}[DecidableEq κ](kvs:List (κ×PV))(k:κ)(v:PV):List (κ×PV):=
 if(kvs.any λkv=>decide (kv.1=k))=true then kvs.map (λkv=>if kv.1=k then(kv.1,v)else kv)else kvs++[(k,v)]
@[simp] noncomputable def qe:PV->PV->PV->Option PV
 |.dK kvs,k,v=>(keyOf k).bind λk=>if kvs.length<1000000 then some (.dK (cu kvs k v))else none
 |.dT kvs,.tup ks,v=>(EI ks).bind λk=>if kvs.length<1000000 then some (.dT (cu kvs k v))else none
 |.lst xs,.int i,v=>(L9 xs.length i).map λj=>.lst (xs.set j v)
 |_,_,_=>none
variable {tg:Expr}{fr:Bool}
section
variable {X:Cx}{b:BX}{G G' G1 L:qV}{ro:Bool}{st:Stmt}{rest:rg}{f g:Env->Option Out}{e e1 e2:Expr}{h h1 h2:si}{m m1 m2:Md}{pos:Pos}
def bH:QO X b G G L ro [] HA:=L5.imp j_<|by rintro D FV H ⟨Ow,env,o,E,j,k⟩;cases j;exact k Ow FV H E (Ex.refl _ _)
def au(a:SS X b G G1 L ro st f)(c:QO X b G1 G' L ro rest g):QO X b G G' L ro (st::rest) (aN f g):=L5.imp (bf a c)<|by
 rintro D FV H ⟨Ow,env,o,E,j,k⟩;unfold aN at j;cases q:f env with
 |none=>rw[q]at j;cases j
 |some B=>
  rw[q]at j;refine⟨Ow,env,B,E,q,?_⟩;cases B with
  |nx n=>exactλF J H' I x=>⟨F,n,o,I,j,k.ex x⟩
  |bk n=>cases j;exact k
  |ct n=>cases j;exact k
  |rt p=>cases j;exact k
def aC(a:SS X b G G' L ro st f):QO X b G G' L ro [st] f:=bT a
def rZ(c:QO X b G1 G' L ro rest g)(q:autoParam (∀j,j∈G1->j∈G) r1_):QO X b G G' L ro rest g:=L5.imp c<|by
 rintro D FV H ⟨Ow,env,o,E,n,k⟩;obtain⟨F,B,x⟩:=E.weak q;exact⟨F,env,o,B,n,k.ex x⟩
def Xk:SS X b G G' L ro st sNo:=PS.imp Mx<|by rintro D FV H ⟨Ow,env,o,E,j,k⟩;cases j
inductive BS{F3 HU:Type}(x:Option F3)(k:F3->Option HU)(y:HU):Prop
 |mk (a:F3) (h:x=some a) (e:k a=some y):BS x k y
def aJ{n j:Type}{x:Option n}{k:n->Option j}{y:j}(h:x.bind k=some y):BS x k y:=by
 cases x with
 |none=>cases h
 |some a=>exact⟨a,rfl,h⟩
def Uh{i:Nat}{D:Ends}(hi:i∉G)(j:b.fx i=none)(q:tS b G G L ro (aY i h) D FV H):tM b G .val h FV H λv H1=>D.nx (FV.set i (some v)) H1:=by
 obtain⟨Ow,env,o,E,n,k⟩:=q;obtain⟨p,B,e⟩:=aJ n;cases e;exact⟨Ow,env,p,E,B,λv H' s r=>k Ow _ H' ((E.up s).set hi r j) (.of_same s)⟩
def Qk{i:Nat}{D:Ends}(I:∀j,j∈G'↔(j∈G\/j=i))(B:b.fx i=none)(q:tS b G G' L ro (aY i h) D FV H):tM b G .own h FV H λv H1=>D.nx (FV.set i (some v)) H1:=by
 obtain⟨Ow,env,o,E,J,k⟩:=q;obtain⟨p,M,e⟩:=aJ J;cases e;refine⟨Ow,env,p,E,M,?_⟩;rintro v H' s ⟨a,O,n,t⟩;subst O;obtain⟨F,x⟩:=(E.up s).setO I s n E t B;exact k _ _ H' F x
def r7_q(j:True:=by first|exact fb rfl|exact fg rfl):True:=trivial
def r7_:Lean.Syntax:=r7_q._auto_1
def bD(i:Nat){x:Str}{pos':Pos}(nd:X.N.Nodup)(j:SE X b G .val e h)(J:autoParam (i∉G) r1_)(n:autoParam (b.fx i=none) r6_)(hi:autoParam (X.N[i]?=some x) r0_)(I:autoParam (Loc X.env.scope x) r7_)
  (F:autoParam (swapsWith e (some (.Name x pos')) pos.line X.env=pure false) r0_) (B:autoParam (SV X x) r3_):SS X b G G L ro (.Assign [.Name x pos'] e pos) (aY i h):=
 PS.imp (cZ nd hi I j F B) λD FV H q=>Uh J n q
def gJ(i:Nat){x:Str}{pos':Pos}(nd:X.N.Nodup)(n:SE X b G .own e h)(M:autoParam (i∈G) r1_)(B:autoParam (b.fx i=none) r6_)(hi:autoParam (X.N[i]?=some x) r0_)(J:autoParam (Loc X.env.scope x) r7_)
  (I:autoParam (swapsWith e (some (.Name x pos')) pos.line X.env=pure false) r0_) (F:autoParam (SV X x) r3_):SS X b G G L ro (.Assign [.Name x pos'] e pos) (aY i h):=
 PS.imp (cZ nd hi J n I F) λD FV H q=>Qk (λj=>⟨.inl,λz=>z.elim id λy=>y▸M⟩) B q
def aX(n:SE X b G .val e h):SS X b G G' L false (.Return (some e) pos) (bj h):=PS.imp (gH n)<|by
 rintro D FV H ⟨Ow,env,o,E,j,k⟩;obtain⟨p,B,F⟩:=aJ j;clear j;cases F;exact⟨Ow,env,p,E,B,λv H' s r=>k v H' (E.same.trans s) (Rep.ex (bB λc o _ q=>q.2) r)⟩
def Ui(i:Nat){x:Str}{p1:Pos}(hi:autoParam (i∈G) r1_)(F:autoParam (X.N[i]?=some x) r0_)(B:autoParam (S0 X.env.scope x) r5_)(I:autoParam (Kt x) r1_)
  (n:autoParam (XZ x) r1_):SS X b G G' L true (.Return (some (.Name x p1)) pos) (bj (bV i)):=PS.imp (gH (k_ F B I n))<|by
 rintro D FV H ⟨Ow,env,o,E,j,k⟩;obtain⟨p,J,M⟩:=aJ j;clear j;cases M;obtain⟨a,e,w,t⟩:=E.own i p (iI J) hi;exact⟨_,e,k _ H E.same ⟨a,rfl,E.new a w,t.ex (bB λc o _ q=>⟨q.2,λz=>q.1 (z▸w)⟩) λo z=>z⟩⟩
def cz{c:Expr}{k:sv}{n j:rg}(I:ST X b G c k)(J:QO X b G G' L ro n f)(F:QO X b G G' L ro j g):SS X b G G' L ro (.If c n j pos) (GO k f g):=PS.imp (pK I J F)<|by
 rintro D FV H ⟨Ow,env,o,E,q,kk⟩;obtain⟨p,M,B⟩:=aJ q;clear q;refine⟨Ow,env,p,E,M,λH' s=>?_⟩;cases p with
 |true=>exact jH ⟨Ow,env,o,E.up s,B,kk.ex (.of_same s)⟩
 |false=>exact mJ ⟨Ow,env,o,E.up s,B,kk.ex (.of_same s)⟩
set_option tactic.hygienic true in def lC(i:Nat){x:Str}{p1 apos EN:Pos}(he:SE X b G .val e h)(hi:autoParam (i∈G) r1_)(hN:autoParam (X.N[i]?=some x) r0_)(Z:autoParam (S0 X.env.scope x) r5_)(hd:autoParam (Kt x) r1_)
  (Kx:autoParam (XZ x) r1_) (F6:autoParam (attributeBase (.Name x p1) "append" X.env (eval (.Name x p1) X.env)=eval (.Name x p1) X.env) r0_)
  (LV:autoParam (Zb X EN [e]) r0_)
  (F7:autoParam ((apos.endLine == EN.line)=true) r0_) (B:autoParam (HK X e []) r0_):
  SS X b G G L ro (.Expr (.Call (.Attribute (.Name x p1) "append" apos) [e] [] EN) pos) (gC mO i h):=
 PS.imp (mD (Br gu hU hV oF (k_ hN Z hd Kx) (aD he aV B) F6 LV F7 B rfl))<|by
  rintro D FV H ⟨Ow,env,o,E,M,k⟩;obtain⟨Y,J,U⟩:=aJ M;clear M;obtain⟨p,hp,I⟩:=aJ U;clear U;obtain⟨y,j,z3⟩:=aJ I;clear I;cases z3;obtain⟨a,F,w,t⟩:=E.own i Y (iI J) hi;cases Y<;>simp only[mO]at j<;>first|cases j|skip
  rename_i xs;split at j
  ·rename_i hl
   cases j;obtain⟨vs,n,O⟩:=id t;refine⟨_,F,.inl ⟨rfl,_,Fc.of n⟩,Ow,env,p,E,hp,λv H' s r=>?_⟩;refine⟨a,vs,v,rfl,rfl,s _ _ n,cT (by rw[O.length];omega),?_⟩;have Zs:D7 b.C (Bs b Ow) (upd H' a (.lst (vs++[v]))) (vs++[v]) (xs++[p]):=by
    refine(O.ex (.of_same s)).append (.cons r .nil) |>.ex λc o h=>⟨λq=>⟨by rw[aG (λz:c=a=>q.1 (z▸w))];exact h,q⟩,λm=>?_⟩;have hc:c≠a:=λz=>by subst z;rw[s _ _ n]at h;cases h;cases m
    rw[aG hc];exact h
   obtain⟨E',x⟩:=(E.up s).write hi F (iI J) w (t.ex (.of_same s) λo z=>s _ _ z) (o':=.lst (vs++[v])) (p':=.lst (xs++[p])) ⟨_,aB,Zs⟩;exact k Ow FV _ E' ((Ex.of_same s).trans x)
  ·cases j
set_option tactic.hygienic true in def EZ.put{k:Key}{p:PV}(r:Rep C A H v p){j:List (Key×V)}{kvs:List (Key×PV)}(t:EZ C A H j kvs):EZ C A H (putK j k v) (cu kvs k p):=by
 have J:∀{j:List (Key×V)}{kvs:List (Key×PV)},EZ C A H j kvs->(j.any λx=>decide (x.1=k))=(kvs.any λx=>decide (x.1=k)):=by
  intro j kvs t;induction j generalizing kvs with
  |nil=>cases t;rfl
  |cons x l n=>cases t with|cons h t=>rw[fF,fF,n t]
 have I:∀{j:List (Key×V)}{kvs:List (Key×PV)},EZ C A H j kvs->EZ C A H (j.map λx=>if x.1=k then(x.1,v)else x) (kvs.map λx=>if x.1=k then(x.1,p)else x):=by
  intro j kvs t;induction j generalizing kvs with
  |nil=>cases t;exact .nil
  |cons x l n=>
   cases t with
   |cons h t=>
    rw[be,be];rename_i F M p' q;by_cases e:F=k
    ·simp only[e,fE];exact .cons r (n t)
    ·simp only[e,fw];exact .cons h (n t)
 have B:∀{j:List (Key×V)}{kvs:List (Key×PV)},EZ C A H j kvs->EZ C A H (j++[(k,v)]) (kvs++[(k,p)]):=by
  intro j kvs t;induction j generalizing kvs with
  |nil=>cases t;exact .cons r .nil
  |cons x l n=>cases t with|cons h t=>exact .cons h (n t)
 unfold putK cu;rw[J t];split
 ·exact I t
 ·exact B t
set_option tactic.hygienic true in def EM.put{k:List D5}{p:PV}(r:Rep C A H v p){j:List (List D5×V)}{kvs:sB}(t:EM C A H j kvs):EM C A H (putK j k v) (cu kvs k p):=by
 have J:∀{j:List (List D5×V)}{kvs:sB},EM C A H j kvs->(j.any λx=>decide (x.1=k))=(kvs.any λx=>decide (x.1=k)):=by
  intro j kvs t;induction j generalizing kvs with
  |nil=>cases t;rfl
  |cons x l n=>cases t with|cons h t=>rw[fF,fF,n t]
 have I:∀{j:List (List D5×V)}{kvs:sB},EM C A H j kvs->EM C A H (j.map λx=>if x.1=k then(x.1,v)else x) (kvs.map λx=>if x.1=k then(x.1,p)else x):=by
  intro j kvs t;induction j generalizing kvs with
  |nil=>cases t;exact .nil
  |cons x l n=>
   cases t with
   |cons h t=>
    rw[be,be];rename_i F M p' q;by_cases e:F=k
    ·simp only[e,fE];exact .cons r (n t)
    ·simp only[e,fw];exact .cons h (n t)
 have B:∀{j:List (List D5×V)}{kvs:sB},EM C A H j kvs->EM C A H (j++[(k,v)]) (kvs++[(k,p)]):=by
  intro j kvs t;induction j generalizing kvs with
  |nil=>cases t;exact .cons r .nil
  |cons x l n=>cases t with|cons h t=>exact .cons h (n t)
 unfold putK cu;rw[J t];split
 ·exact I t
 ·exact B t
theorem EM.length{C:MC}{A:se}{H:Hp}:∀{vs:List (List D5×V)}{ps:sB},EM C A H vs ps->vs.length=ps.length
 |_,_,.nil=>rfl
 |_,_,.cons _ t=>by simp[EM.length t]
def tK{o o':HO}(w:Ow a)(B:H a=some o)(n:jP o=true):Ex (Bs b Ow) H (Bs b Ow) (upd H a o'):=λc u h=>⟨λq=>⟨by rw[aG (λz:c=a=>q.1 (z▸w))];exact h,q⟩,λm=>by
 have j:c≠a:=λz=>by subst z;rw[B]at h;cases h;rw[n]at m;cases m
 rw[aG j];exact h⟩
set_option tactic.hygienic true in def pO(i:Nat){x:Str}{p1 p2:Pos}{j:Nat}(hr:EU j X.A)(hk:SE X b G .val e1 h1)(hv':SE X b G .val e2 h2)(hi:autoParam (i∈G) r1_)(hN:autoParam (X.N[i]?=some x) r0_)(hv:autoParam (S0 X.env.scope x) r5_)(hd:autoParam (Kt x) r1_)
  (Kx:autoParam (XZ x) r1_) (hs:autoParam (swapsWith e2 (some (.Subscript (.Name x p1) e1 p2)) pos.line X.env=pure false) r0_) (IQ:autoParam (swapsWithSole [.Subscript (.Name x p1) e1 p2] e2 pos.line X.env=pure false) r0_) (hw:autoParam (swappedStores [.Subscript (.Name x p1) e1 p2] e2 X.env=pure none) r0_)
  (ha1:autoParam ((assignEach [.Subscript (.Name x p1) e1 p2] X.env).map (·.2)=[assign (.Subscript (.Name x p1) e1 p2) X.env]) r0_)
  (F:∀v,assign (.Subscript (.Name x p1) e1 p2) X.env v=(do
   let ov ←holding [v] (eval (.Name x p1) X.env)
   let iv ←holding [v,ov] (eval e1 X.env)
   standAt p2
   holding [v,ov,iv] (setItem ov iv v)
   release [v,ov,iv] []):=by intro _;rfl) (hK:autoParam (X.K=b.C.K) r0_):SS X b G G L ro (.Assign [.Subscript (.Name x p1) e1 p2] e2 pos) (lB qe i h1 h2):=by
 refine PS.imp (PS.or (rR (fP hr) (k_ hN hv hd Kx) hk hv' hs) (SX hv' (SQ (k_ hN hv hd Kx) hk set_list F) IQ hw ha1)) ?_;rintro D FV H ⟨Ow,env,o,E,hf,k⟩;obtain⟨px,Zr,z1⟩:=aJ hf;clear hf;obtain⟨pk,Z,z2⟩:=aJ z1;clear z1;obtain⟨pv,Y,z3⟩:=aJ z2;clear z2;obtain⟨y,B,z4⟩:=aJ z3;clear z3;cases z4;obtain⟨a,ea,w,t⟩:=E.own i px (iI Zr) hi;have O:∀{H2:Hp}{o':HO},D8 H H2->Top b.C (Bs b Ow) (upd H2 a o') a y->D.nx FV (upd H2 a o'):=λ{H2 o'} s t'=>by
  obtain⟨E',x⟩:=(E.up s).write hi ea (iI Zr) w (t.ex (.of_same s) λo z=>s _ _ z) t';exact k Ow FV _ E' ((Ex.of_same s).trans x)
 unfold qe at B;split at B
 ·obtain⟨ky,U,B⟩:=aJ B
  split at B
  ·rename_i hl
   cases B;obtain⟨kv,F,J⟩:=id t;refine .inl ⟨Ow,env,pv,E,Y,λv H1 I r1=>⟨_,ea,Ow,env,pk,E.up I,Z,λu H2 M r2=>?_⟩⟩;have s:=I.trans M;have eu:=EB.key (.inl r2) U;subst eu;refine⟨a,_,rfl,LH.k (s _ _ F) (cT (by rw[J.length];omega)),O s ⟨_,aB,?_⟩⟩;exact(EZ.put (k:=ky) (Rep.ex (.of_same M) r1) (J.ex (.of_same s))).ex (tK w (s _ _ F) rfl)
  ·cases B
 ·obtain⟨ky,U,B⟩:=aJ B
  split at B
  ·rename_i hl
   cases B;obtain⟨kv,F,J⟩:=id t;refine .inl ⟨Ow,env,pv,E,Y,λv H1 I r1=>⟨_,ea,Ow,env,_,E.up I,Z,λu H2 M r2=>?_⟩⟩;have s:=I.trans M;obtain⟨c,us,rfl,hc,rc⟩:=EB.tup (.inl r2);refine⟨a,_,rfl,LH.t (s _ _ F) (by rw[hK];exact hc.key (rc.EI U)) (cT (by rw[J.length];omega)),O s ⟨_,aB,?_⟩⟩;exact(EM.put (k:=ky) (Rep.ex (.of_same M) r1) (J.ex (.of_same s))).ex (tK w (s _ _ F) rfl)
  ·cases B
 ·rename_i xs n
  cases q:L9 xs.length n with
  |none=>rw[q]at B;cases B
  |some jj=>
   rw[q]at B;cases B;obtain⟨vs,F,J⟩:=id t;refine .inr ⟨Ow,env,pv,E,Y,λv H1 I r1=>⟨_,ea,Ow,env,_,E.up I,Z,λu H2 M r2=>?_⟩⟩;have s:=I.trans M;have eu:=EB.int (.inl r2);subst eu;refine⟨a,vs,n,jj,rfl,rfl,s _ _ F,by rw[J.length];exact q,O s ⟨_,aB,?_⟩⟩;exact(D7.set (Rep.ex (.of_same M) r1) jj (J.ex (.of_same s))).ex (tK w (s _ _ F) rfl)
 ·cases B
def IW(b:BX)(Ow:se)(fr:Bool)(H1:Hp)(J:It)(ps:sA):Prop:=∀Fs H,(fr=false->D8 H1 H)->Ex (Bs b Ow) H1 (Bs b Fs) H->(∀a,H a=none->Bs b Fs a)->
 (∀i p,ps[i]?=some p->J.go i H/\∀x H',J.S3 i H x H'->D8 H H'/\Rep b.C (Bs b Fs) H' x p)/\J.stop ps.length H
inductive tMI(b:BX)(G:qV)(fr:Bool)(g:sw)(FV:St)(H:Hp)(R:(It->Hp->Prop)):Prop
 |mk (Ow:_) (env:_) (ps:_) (h0:ER b Ow G FV env H) (h1:g env=some ps) (h2:∀J H1,D8 H H1->IW b Ow fr H1 J ps->R J H1):tMI b G fr g FV H R
abbrev SI(X:Cx)(b:BX)(G:qV)(fr:Bool)(tg it:Expr)(g:sw):Prop:=PI X tg it (tMI b G fr g)
def PI.imp{it:Expr}{t u:TI}(h:PI X tg it t)(i:∀ FV H R,u FV H R->t FV H R):PI X tg it u:=λD3 s FV H R I q=>h D3 s FV H R I (i FV H R q)
def PI.or{it:Expr}{t u:TI}(h:PI X tg it t)(h':PI X tg it u):PI X tg it (fun FV H R=>t FV H R\/u FV H R):=λD3 s FV H R I q=>q.elim (h D3 s FV H R I) (h' D3 s FV H R I)
noncomputable def chV(x:Str):List PV:=x.cps.toList.map λc=>.str ⟨#[c]⟩
@[simp] noncomputable def I0:PV->Option (List PV)
 |.lst xs=>some xs
 |.frz xs=>some xs
 |.tup xs=>some xs
 |.ktp xs=>some xs
 |.str x=>some (chV x)
 |_=>none
noncomputable def iV(f:si)(env:Env):Option (List PV):=(f env).bind I0
@[simp] def Yo(f:si)(env:Env):iV f env=((f env).bind I0):=id rfl
def zu{H1:Hp}{xs:sA}(F:∀j H,(fr=false->D8 H1 H)->Ex (Bs b Ow) H1 (Bs b j) H->Fc b.C.K H a vs/\D7 b.C (Bs b j) H vs xs):IW b Ow fr H1 (Yz b.C.K a) xs:=by
 intro j H I h1 M;obtain⟨q,r⟩:=F j H I h1;refine⟨λi p J=>?_,⟨vs,q,by rw[r.length];exact aI _⟩⟩;obtain⟨v,n,B⟩:=r.get J;refine⟨⟨vs,v,q,n⟩,λx H' y=>?_⟩;obtain⟨e,y⟩:=y;subst e;have e2:=y vs q;rw[n]at e2;cases e2;exact⟨D8.refl _,B⟩
def Kw{H1:Hp}{xs:sA}(F:∀j H,(fr=false->D8 H1 H)->Ex (Bs b Ow) H1 (Bs b j) H->GN b.C.K H a vs/\D7 b.C (Bs b j) H vs xs):IW b Ow fr H1 (YA b.C.K a) xs:=by
 intro j H I h1 M;obtain⟨q,r⟩:=F j H I h1;refine⟨λi p J=>?_,⟨vs,q,by rw[r.length];exact aI _⟩⟩;obtain⟨v,n,B⟩:=r.get J;refine⟨⟨vs,v,q,n⟩,λx H' y=>?_⟩;obtain⟨e,y⟩:=y;subst e;have e2:=y vs q;rw[n]at e2;cases e2;exact⟨D8.refl _,B⟩
def Uj{H1:Hp}{x:Str}:IW b Ow fr H1 (Its x) (chV x):=by
 intro I H J h1 F;refine⟨λi p j=>?_,by show(chV x).length=x.cps.size;unfold chV;rw[ar,f7]⟩;unfold chV at j;rw[cm]at j;cases q:x.cps.toList[i]? with
 |none=>rw[q]at j;cases j
 |some c=>
  rw[q]at j;cases j;have n:x.cps[i]?=some c:=by rw[←pS];exact q
  refine⟨(Array.getElem?_eq_some_iff.mp n).1,λv H' y=>?_⟩;obtain⟨e,M,h',B⟩:=y;subst e;rw[n]at h';cases h';subst B;exact⟨D8.refl _,.str _⟩
def d_(Y:SE X b G m e h)(Z:autoParam (fr=true->m≠.bor) r10_)(hK:autoParam (X.K=b.C.K) r0_):SI X b G fr tg e (iV h):=by
 have U:=PI.or (tg:=tg) (PI.or (vy Y) (Cm Y)) (Tz Y);refine PI.imp U ?_;rintro FV H R ⟨Ow,env,ps,E,hg,k⟩;rw[hK];obtain⟨p,O,F⟩:=aJ hg;have keep:∀{H1 q H2}{v:V},D8 H H1->Res b Ow H H1 m v p->(fr=false->D8 H1 H2)->Ex (Bs b Ow) H1 (Bs b q) H2->EB b.C (Bs b q) H2 v p:=λ{H1 q H2 v} s r B h1=>by
  cases fr with
  |false=>exact EB.ex h1 (B rfl) r.bor
  |true=>exact .inl (Rep.ex h1 (r.val E (Z rfl)))
 unfold I0 at F;split at F
 ·cases F
  refine .inl (.inl ⟨Ow,env,_,E,O,λv H1 s r=>?_⟩);have j:EB b.C (Bs b Ow) H1 v (.lst _):=r.bor;obtain⟨a,vs,rfl,I,ra⟩:=j.lst;refine⟨a,rfl,⟨vs,Fc.of I⟩,k _ _ s (zu (vs:=vs) λq H2 B h1=>?_)⟩;obtain⟨a',NX,e',M,Zs⟩:=(keep s r B h1).lst;cases e';have:H2 a=some (.lst vs):=by
   cases fr with
   |false=>exact B rfl _ _ I
   |true=>
    have rv:Rep b.C (Bs b Ow) H1 (.ref a) (.lst _):=r.val E (Z rfl);cases rv with
    |lst n q2 J=>rw[I]at n;cases n;exact((h1 _ _ I).1 q2).1
  rw[M]at this;cases this;exact⟨Fc.of M,Zs⟩
 ·cases F
  refine .inl (.inl ⟨Ow,env,_,E,O,λv H1 s r=>?_⟩);have j:Rep b.C (Bs b Ow) H1 v (.frz _):=(by rcases r.bor with z|⟨_,_,z⟩;exact z;exact z.elim);cases j with
  |QN n J=>exact⟨_,rfl,⟨_,.inl (.inr ⟨_,n⟩)⟩,k _ _ s (zu λq H2 B h1=>⟨.inl (.inr ⟨_,(h1 _ _ n).2 rfl⟩),J.ex h1⟩)⟩
  |lstK n J=>exact⟨_,rfl,⟨_,sqK n⟩,k _ _ s (zu λq H2 B h1=>⟨sqK n,J.ex h1⟩)⟩
 ·cases F
  refine .inl (.inr ⟨Ow,env,_,E,O,λv H1 s r=>?_⟩);have j:EB b.C (Bs b Ow) H1 v (.tup _):=r.bor;obtain⟨a,vs,rfl,I,ra⟩:=j.tup;exact⟨a,rfl,⟨vs,I.sq⟩,k _ _ s (Kw (vs:=vs) λq H2 B h1=>⟨(I.ex h1).sq,ra.ex h1⟩)⟩
 ·cases F
  refine .inl (.inr ⟨Ow,env,_,E,O,λv H1 s r=>?_⟩);have j:EB b.C (Bs b Ow) H1 v (.ktp _):=r.bor;rcases j with j|⟨_,_,t⟩
  ·cases j with
   |tupK n J=>exact⟨_,rfl,⟨_,qb n⟩,k _ _ s (Kw λq H2 B h1=>⟨qb n,J.ex h1⟩)⟩
  ·exact t.elim
 ·cases F
  refine .inr ⟨Ow,env,_,E,O,λv H1 s r=>?_⟩;have j:EB b.C (Bs b Ow) H1 v (.str _):=r.bor;exact⟨_,j.str,k _ _ s Uj⟩
 ·cases F
noncomputable def ML(i:Int):Bool:=@decide (-4611686018427387904<=i/\i<4611686018427387904) (Classical.propDecidable _)
def F9{i:Int}(h:-4611686018427387904<=i)(h':i<4611686018427387904):ML i=true:=@eP _ (Classical.propDecidable _) ⟨h,h'⟩
def sr{i:Int}(h:ML i=true):-(2 ^ 62)<=i/\i<2 ^ 62:=by
 simp only[ML,nE]at h;exact h
noncomputable def cX(lo hi:Int):List PV:=(List.range (hi - lo).toNat).map λi=>.int (lo+(i:Nat))
noncomputable def YQ(f:si)(env:Env):Option (List PV):=(f env).bind λp=>match p with
 |.int j=>if ML j=true then some (cX 0 j)else none
 |_=>none
@[simp] def Yc(f:si)(env:Env):YQ f env=((f env).bind λp=>match p with
 |.int j=>if ML j=true then some (cX 0 j)else none
 |_=>none):=id rfl
noncomputable def iR2(f g:si)(env:Env):Option (List PV):=(f env).bind λp=>(g env).bind λq=>match p,q with
 |.int i,.int j=>if(ML i&&ML j)=true then some (cX i j)else none
 |_,_=>none
@[simp] def Uk(f g:si)(env:Env):iR2 f g env=((f env).bind λp=>(g env).bind λq=>match p,q with
 |.int i,.int j=>if(ML i&&ML j)=true then some (cX i j)else none
 |_,_=>none):=id rfl
def Ky{H1:Hp}{lo hi:Int}:IW b Ow fr H1 (Sk lo (hi - lo).toNat) (cX lo hi):=by
 intro F H I h1 B;have n:(cX lo hi).length=(hi - lo).toNat:=by unfold cX;rw[ar,fq]
 refine⟨λi p j=>?_,by show(hi - lo).toNat<=(cX lo hi).length;rw[n];exact aI _⟩;have q:i<(hi - lo).toNat:=by rw[←n];exact(al.mp j).1
 refine⟨q,λx H' y=>?_⟩;obtain⟨e,ex⟩:=y;subst e ex;unfold cX at j;rw[cm,List.getElem?_range q]at j;cases j;exact⟨D8.refl _,.int _⟩
set_option tactic.hygienic true in def tL{p pos:Pos}(U:X.mg "range" = none)(F:SE X b G m e h)(M:Gl X "range" := by rfl)(J:autoParam (starEach [e] X.env=[(false,eval e X.env)]) r0_)(I:autoParam (HK X e []) r0_):SI X b G fr tg (.Call (.Name "range" p) [e] [] pos) (YQ h):=by
 refine PI.imp (uF M U (aD F.bor aV I) J) ?_;rintro FV H R ⟨Ow,env,ps,E,Y,k⟩;obtain⟨p1,Z,n⟩:=aJ Y;refine⟨Ow,env,p1,E,Z,λv H1 s r=>?_⟩;have O:EB b.C (Bs b Ow) H1 v p1:=r;cases p1<;>simp only at n<;>first|cases n|skip
 rename_i j;split at n
 ·rename_i B
  cases n;have q:IW b Ow fr H1 (Sk 0 (j - 0).toNat) (cX 0 j):=Ky;rw[Int.sub_zero]at q;exact⟨j,by rw[O.int],(sr B).1,(sr B).2,k _ _ s q⟩
 ·cases n
set_option tactic.hygienic true in def Ql{p pos:Pos}(U:X.mg "range" = none)(Y:SE X b G m1 e1 h1)(Sm:SE X b G m2 e2 h2)(hg:Gl X "range" := by rfl)(M:autoParam (starEach [e1,e2] X.env=[(false,eval e1 X.env),(false,eval e2 X.env)]) r0_)(IQ:autoParam (starEach [e2] X.env=[(false,eval e2 X.env)]) r0_)
  (Z:autoParam (starEach [e1,e2] X.env=(false,eval e1 X.env)::starEach [e2] X.env) r0_) (B:autoParam (HK X e2 []) r0_):SI X b G fr tg (.Call (.Name "range" p) [e1,e2] [] pos) (iR2 h1 h2):=by
 refine PI.imp (JS hg U (aD Y.bor (aD Sm.bor aV B) Z) M IQ) ?_;rintro FV H R ⟨Ow,env,ps,E,I,k⟩;obtain⟨p1,hp,n⟩:=aJ I;clear I;obtain⟨p2,OF,q⟩:=aJ n;clear n;refine⟨Ow,env,p1,E,hp,λv H1 s r=>⟨Ow,env,p2,E.up s,OF,λv2 H2 s2 r2=>?_⟩⟩;have O:EB b.C (Bs b Ow) H1 v p1:=r;have J:EB b.C (Bs b Ow) H2 v2 p2:=r2;cases p1<;>cases p2<;>simp only at q<;>first|cases q|skip
 rename_i i j;split at q
 ·rename_i F
  cases q;exact⟨i,j,by rw[O.int,J.int],(by rw[cE]at F;exact⟨(sr F.1).1,(sr F.1).2,(sr F.2).1,(sr F.2).2⟩),k _ _ (s.trans s2) Ky⟩
 ·cases q
noncomputable def iY(n:Nat):List PV->List PV
 |[]=>[]
 |x::xs=>.tup [.int (n:Nat),x]::iY (n+1) xs
theorem Al{p:PV}:∀{xs:sA}{n i:Nat},(iY n xs)[i]?=some p->∃x,xs[i]?=some x/\p=.tup [.int ((n+i:Nat):Int),x]
 |[],n,i,e=>by simp[iY]at e
 |x::xs,n,0,e=>by
  simp[iY]at e;exact⟨x,rfl,by rw[←e];rfl⟩
 |x::xs,n,i+1,e=>by
  simp only[iY,kF]at e;obtain⟨y,h1,h2⟩:=Al e;exact⟨y,by simpa using h1,by rw[h2,Nat.add_right_comm,qf]⟩
theorem uR:∀{xs:sA}{n:Nat},(iY n xs).length=xs.length
 |[],_=>rfl
 |x::xs,n=>by simp[iY,uR (xs:=xs)]
end
noncomputable def gN(i:Nat)(p:PV)(env:Env):Option Env:=some (env.set i (some p))
@[simp] def Yp(i:Nat)(p:PV)(env:Env):gN i p env=(some (env.set i (some p))):=id rfl
@[simp] noncomputable def gNs:List Nat->List PV->Env->Option Env
 |[],[],env=>some env
 |i::is,p::ps,env=>gNs is ps (env.set i (some p))
 |_,_,_=>none
noncomputable def gT(is:qV)(p:PV)(env:Env):Option Env:=match p with
 |.tup xs=>gNs is xs env
 |_=>none
@[simp] def Yq(is:qV)(p:PV)(env:Env):gT is p env=(match p with
 |.tup xs=>gNs is xs env
 |_=>none):=id rfl
inductive tMG(b:BX)(G:qV)(g:PV->Env->Option Env)(v:V)(FV:St)(H:Hp)(Q:(St->Hp->Prop)):Prop
 |mk (Ow:_) (env:_) (p:_) (env':_) (h0:ER b Ow G FV env H) (h1:Rep b.C (Bs b Ow) H v p) (h2:g p env=some env') (h3:∀ GG,ER b Ow G GG env' H->Q GG H):tMG b G g v FV H Q
inductive tMGs(b:BX)(G:qV)(is:qV)(vs:sC)(FV:St)(H:Hp)(Q:(St->Hp->Prop)):Prop
 |mk (Ow:_) (env:_) (ps:_) (env':_) (h0:ER b Ow G FV env H) (h1:D7 b.C (Bs b Ow) H vs ps) (h2:gNs is ps env=some env') (h3:∀ GG,ER b Ow G GG env' H->Q GG H):tMGs b G is vs FV H Q
abbrev SG(X:Cx)(b:BX)(G:qV)(tg:Expr)(g:PV->Env->Option Env):Prop:=PG X tg (tMG b G g)
abbrev SGs(X:Cx)(b:BX)(G:qV)(tgs:rh)(is:qV):Prop:=X9 X tgs (tMGs b G is)
def PG.imp{t u:TG}(h:PG X tg t)(i:∀v FV H Q,u v FV H Q->t v FV H Q):PG X tg u:=λD3 s FV H v w Q I r q=>h D3 s FV H v w Q I r (i v FV H Q q)
def X9.imp{tg:rh}{t u:Ze}(h:X9 X tg t)(i:∀v FV H Q,u v FV H Q->t v FV H Q):X9 X tg u:=λD3 s FV H v w Q I r q=>h D3 s FV H v w Q I r (i v FV H Q q)
variable {f:Env->Option Out}
section
variable {X:Cx}{b:BX}{G G' L:qV}{ro:Bool}{pos:Pos}
def jK(i:Nat){x:Str}(nd:X.N.Nodup)(q:autoParam (i∉G) r1_)(j:autoParam (b.fx i=none) r6_)(hi:autoParam (X.N[i]?=some x) r0_)(n:autoParam (Loc X.env.scope x) r7_)
  (B:autoParam (SV X x) r3_):SG X b G (.Name x pos) (gN i):=
 PG.imp (d7 nd hi n B)<|by rintro v FV H Q ⟨Ow,env,p,env',E,r,e,k⟩;cases e;exact k _ (E.set q r j)
def vK:SGs X b G [] []:=X9.imp kh<|by
 rintro vs FV H Q ⟨Ow,env,ps,env',E,r,e,k⟩;cases ps with
 |nil=>cases r;cases e;exact⟨rfl,k FV E⟩
 |cons p ps=>cases e
def g_(i:Nat){x:Str}{es:rh}{is:qV}{p1:Pos}(nd:X.N.Nodup)(h2:SGs X b G es is)(F:autoParam (i∉G) r1_)(j:autoParam (b.fx i=none) r6_)(hi:autoParam (X.N[i]?=some x) r0_)(B:autoParam (Loc X.env.scope x) r7_)
  (J:autoParam (SV X x) r3_) (q:autoParam ((assignEach (.Name x p1::es) X.env).map (·.2)=assign (.Name x p1) X.env::(assignEach es X.env).map (·.2)) r0_):SGs X b G (.Name x p1::es) (i::is):=
 X9.imp (dz (d7 nd hi B J) h2 q)<|by
  rintro vs FV H Q ⟨Ow,env,ps,env',E,r,e,k⟩;cases ps with
  |nil=>cases e
  |cons p ps=>
   cases r with
   |cons I n=>exact⟨_,_,rfl,Ow,env.set i (some p),ps,env',E.set F I j,n,e,k⟩
theorem zx:∀{is:qV}{ps:sA}{env env':Env},gNs is ps env=some env'->ps.length=is.length
 |[],[],_,_,_=>rfl
 |i::is,p::ps,env,env',e=>by simp[zx (is:=is) (ps:=ps) e]
 |[],_::_,_,_,e=>by cases e
 |_::_,[],_,_,e=>by cases e
set_option tactic.hygienic true in def Iw{es:rh}{k:Nat}{is:qV}(h:SGs X b G es is)(q:autoParam (X.calm=true) r0_)(n:autoParam ((assignEach es X.env).length=is.length) r0_)(B:autoParam ((assignEach es X.env).findIdx? (·.1)=none) r0_)(I:autoParam (X.K=b.C.K) r0_):SG X b G (.Tuple es k pos) (gT is):=
 PG.imp (oE q h n B)<|by
  rintro v FV H Q ⟨Ow,env,p,env',E,r,e,k⟩;cases p<;>simp only[gT]at e<;>first|cases e|skip
  rename_i xs;obtain⟨a,vs,rfl,F,j⟩:=EB.tup (.inl r);rw[I];exact⟨a,vs,rfl,F.sq,by rw[j.length];exact zx e,Ow,env,xs,env',E,j,e,k⟩
noncomputable def cP(g:PV->Env->Option Env)(ds:qV)(body:Env->Option Out):List PV->Env->Option Out
 |[],env=>some (.nx env)
 |x::xs,env=>(g x env).bind λe1=>(body e1).bind λo=>match o with
  |.nx e=>cP g ds body xs (Lv ds e)
  |.ct e=>cP g ds body xs (Lv ds e)
  |.bk e=>some (.nx (Lv ds e))
  |.rt p=>some (.rt p)
noncomputable def fW(g:PV->Env->Option Env)(src:sw)(ds:qV)(body:Env->Option Out)(env:Env):Option Out:=(src env).bind λxs=>cP g ds body xs (Lv ds env)
@[simp] def Rc(g:PV->Env->Option Env)(j:sw)(ds:qV)(body:Env->Option Out)(env:Env):fW g j ds body env=((j env).bind λxs=>cP g ds body xs (Lv ds env)):=id rfl
def eY{it:Expr}{body:rg}{g:PV->Env->Option Env}{U:sw}(ds:qV)(hi:SI X b G true tg it U)(hg:SG X b G tg g)(hb:QO X b G G G ro body f)(hp:PassesOwn (model X.prog X.w) X.A X.env X.xe)(hc:autoParam (X.calm=true) r0_)
  (hs:autoParam (∀x,foldedSetIterable it X.env x=pure x) r4_):SS X b G G L ro (.For tg it body [] pos) (fW g U ds f):=by
 refine PS.imp (rK hp hc hi hg hb hs) ?_;rintro D FV H ⟨Ow,env,out,E,hf,k⟩;obtain⟨ps,LO,hl⟩:=aJ hf;refine⟨Ow,env,ps,E,LO,λJ H1 s1 iw=>?_⟩;refine⟨λi m G2 H2=>m=ps.length - i/\i<=ps.length/\∃n B,ER b n G G2 B H2/\Ex (Bs b Ow) H1 (Bs b n) H2/\cP g ds f (ps.drop i) B=some out,⟨ps.length,by simp,cq _,Ow,Lv ds env,(E.up s1).Lv,Ex.refl _ _,by simpa using hl⟩,?_⟩;rintro i m G2 H2 ⟨rfl,hi,n,B,E2,Y,j⟩;obtain⟨w1,w2⟩:=iw n H2 (λz=>by cases z) Y λa=>E2.fresh;have xk:Ex (Bs b Ow) H (Bs b n) H2:=(Ex.of_same s1).trans Y;by_cases F4:i<ps.length
 ·rw[db F4]at j
  obtain⟨e1,Zt,j⟩:=aJ j;obtain⟨o,ho,j⟩:=aJ j;obtain⟨g1,g2⟩:=w1 i ps[i] (ax F4);refine .inr ⟨g1,fun F H'=>i+1<=ps.length/\∃n B,ER b n G F B H'/\Ex (Bs b Ow) H1 (Bs b n) H'/\cP g ds f (ps.drop (i+1)) B=some out,fun F H' q=>⟨ps.length - (i+1),by omega,rfl,q⟩,λx H' y=>?_⟩;obtain⟨Z,r3⟩:=g2 x H' y;refine⟨n,B,_,e1,E2.up Z,r3,Zt,fun Nn E3=>⟨n,e1,o,E3,ho,?_⟩⟩;cases o with
  |nx e'=>exactλI F OG M O=>⟨F4,I,_,M.Lv,Y.trans ((Ex.of_same Z).trans O),j⟩
  |ct e'=>exactλI F OG M O=>⟨F4,I,_,M.Lv,Y.trans ((Ex.of_same Z).trans O),j⟩
  |bk e'=>cases j;exactλI F OG M O=>k I F OG M.Lv (xk.trans ((Ex.of_same Z).trans O))
  |rt p=>cases j;exact k
 ·have e:i=ps.length:=by omega
  subst e;rw[List.drop_length]at j;cases j;exact .inl ⟨w2,k n G2 H2 E2 xk⟩
noncomputable def pQ(c:sv)(ds:qV)(body:Env->Option Out):Nat->Env->Option Out
 |0,_=>none
 |n+1,env=>(c env).bind λk=>if k=true then(body env).bind λo=>match o with
   |.nx e=>pQ c ds body n (Lv ds e)
   |.ct e=>pQ c ds body n (Lv ds e)
   |.bk e=>some (.nx (Lv ds e))
   |.rt p=>some (.rt p)
  else some (.nx env)
noncomputable def Di(n:Nat)(c:sv)(ds:qV)(body:Env->Option Out)(env:Env):Option Out:=pQ c ds body n (Lv ds env)
@[simp] def Xb(n:Nat)(c:sv)(ds:qV)(body:Env->Option Out)(env:Env):Di n c ds body env=(pQ c ds body n (Lv ds env)):=id rfl
def Rf{c:Expr}{body:rg}{t:sv}(n:Nat)(ds:qV)(hc:ST X b G c t)(hb:QO X b G G G ro body f)(hp:PassesOwn (model X.prog X.w) X.A X.env X.xe):SS X b G G L ro (.While c body [] pos) (Di n t ds f):=by
 refine PS.imp (Ck hp hc hb) ?_;rintro D FV H ⟨Ow,env,out,E,hf,k⟩;refine⟨λm Z H2=>∃B F,ER b B G Z F H2/\Ex (Bs b Ow) H (Bs b B) H2/\pQ t ds f m F=some out,⟨n,Ow,Lv ds env,E.Lv,Ex.refl _ _,hf⟩,?_⟩;rintro m Z H2 ⟨B,F,E2,Y,j⟩;cases m with
 |zero=>cases j
 |succ m=>
  obtain⟨kk,hk,j⟩:=aJ j;refine⟨B,F,kk,E2,hk,λH3 J=>?_⟩;cases kk with
  |false=>cases j;exact mJ (k B Z H3 (E2.up J) (Y.trans (.of_same J)))
  |true=>
   refine jH ⟨fun I H'=>∃B F,ER b B G I F H'/\Ex (Bs b Ow) H (Bs b B) H'/\pQ t ds f m F=some out,fun I H' q=>⟨m,hZ m,q⟩,?_⟩;obtain⟨o,ho,j⟩:=aJ j;refine⟨B,F,o,E2.up J,ho,?_⟩;cases o with
   |nx e'=>exactλM I OG O U=>⟨M,_,O.Lv,Y.trans ((Ex.of_same J).trans U),j⟩
   |ct e'=>exactλM I OG O U=>⟨M,_,O.Lv,Y.trans ((Ex.of_same J).trans U),j⟩
   |bk e'=>cases j;exactλM I OG O U=>k M I OG O.Lv (Y.trans ((Ex.of_same J).trans U))
   |rt p=>cases j;exact k
end
noncomputable def mQ(ED:List (Option Nat))(env:Env):Env:=ED.map λo=>match o with|some i=>(env[i]?).getD none|none=>none
@[simp] def XH(ED:List (Option Nat))(env:Env):mQ ED env=(ED.map λo=>match o with|some i=>(env[i]?).getD none|none=>none):=id rfl
noncomputable def jZ(ED:List (Option Nat))(G:qV):List Nat:=(List.range ED.length).filter λj=>match ED[j]? with|some (some i)=>decide (i∈G)|_=>false
def BX.in(b:BX):BX:={b with fx:=λ_=>none}
noncomputable def cV(env:Env)(g:PV->Env->Option Env)(t:sv)(f:si):List PV->Option (List PV)
 |[]=>some []
 |x::xs=>(g x env).bind λe=>(t e).bind λk=>if k=true then(f e).bind λy=>(cV env g t f xs).bind λys=>some (y::ys)else cV env g t f xs
noncomputable def dM(ED:List (Option Nat))(src:sw)(g:PV->Env->Option Env)(t:sv)(f:si)(env:Env):Option PV:=(src env).bind λxs=>if xs.length<=1000000 then(cV (mQ ED env) g t f xs).bind λys=>some (.lst ys)else none
@[simp] def Xl(ED:List (Option Nat))(j:sw)(g:PV->Env->Option Env)(t:sv)(f:si)(env:Env):dM ED j g t f env=((j env).bind λxs=>if xs.length<=1000000 then(cV (mQ ED env) g t f xs).bind λys=>some (.lst ys)else none):=id rfl
noncomputable def dX(env:Env):Option Bool:=some true
@[simp] def Xm(env:Env):dX env=(some true):=id rfl
set_option tactic.hygienic true in def ID{ED:List (Option Nat)}{G:qV}{j:Nat}:j∈jZ ED G↔∃i,ED[j]?=some (some i)/\i∈G:=by
 unfold jZ;rw[df,cf];constructor
 ·rintro⟨h1,h2⟩
  split at h2
  ·rename_i i e;exact⟨i,e,by simpa using h2⟩
  ·cases h2
 ·rintro⟨i,e,h⟩
  refine⟨(al.mp e).1,?_⟩;rw[e];simpa using h
def tQ{ED:List (Option Nat)}{env:Env}{j:Nat}{p:PV}(h:(mQ ED env)[j]?=some (some p)):∃i,ED[j]?=some (some i)/\env[i]?=some (some p):=by
 unfold mQ at h;rw[cm]at h;cases q:ED[j]? with
 |none=>rw[q]at h;cases h
 |some o=>
  rw[q]at h;cases o with
  |none=>cases h
  |some i=>
   refine⟨i,rfl,?_⟩;have h':(env[i]?).getD none=some p:=by simpa using h
   cases q2:env[i]? with
   |none=>rw[q2]at h';cases h'
   |some o=>rw[q2]at h';simp at h';rw[h']
def qR{ED:List (Option Nat)}{j i:Nat}(h:ED[j]?=some (some i))(e:FV[i]?=some (some v)):(dW ED FV)[j]?=some (some v):=by
 unfold dW;rw[cm,h];simp[CZ,e]
noncomputable def su(ED:List (Option Nat)):Bool:=(List.range ED.length).all λj=>(List.range ED.length).all λk=>match ED[j]?,ED[k]? with
 |some (some i),some (some i')=>decide (i=i'->j=k)
 |_,_=>true
def Kz{ED:List (Option Nat)}(h:su ED=true){j k i:Nat}(h1:ED[j]?=some (some i))(h2:ED[k]?=some (some i)):j=k:=by
 have a:=jS.mp h j (cf.mpr (al.mp h1).1);have c:=jS.mp a k (cf.mpr (al.mp h2).1);rw[h1,h2]at c;simpa using c
def ER.ED{b:BX}{Ow:se}{G:qV}{FV:St}{env:Env}{H:Hp}{ED:List (Option Nat)}(E:ER b Ow G FV env H)(hc:su ED=true):ER b.in Ow (jZ ED G) (dW ED FV) (mQ ED env) H:=by
 refine⟨by unfold dW mQ;rw[ar,ar],E.same,E.live,E.new,λj p e n=>?_,λj p e n=>?_,λj k a p q e1 n1 s1 e2 n2 s2=>?_,λk v z=>by cases z⟩
 ·obtain⟨i,h1,h2⟩:=tQ e
  obtain⟨v,B,F⟩:=E.val i p h2 λz=>n (ID.mpr ⟨i,h1,z⟩);exact⟨v,qR h1 B,F⟩
 ·obtain⟨i,h1,h2⟩:=tQ e
  obtain⟨i',M,O⟩:=ID.mp n;rw[h1]at M;cases M;obtain⟨a,B,F,h5⟩:=E.own i p h2 O;exact⟨a,qR h1 B,F,h5⟩
 ·obtain⟨i,h1,h2⟩:=tQ e1
  obtain⟨i',M,O⟩:=ID.mp n1;rw[h1]at M;cases M;obtain⟨Z,B,F⟩:=tQ e2;obtain⟨k'',I,J⟩:=ID.mp n2;rw[B]at I;cases I;obtain⟨c,g1,_,_⟩:=E.own i p h2 O;obtain⟨c2,g2,_,_⟩:=E.own Z q F J;have Y:=qR (ED:=ED) h1 g1;have U:=qR (ED:=ED) B g2;rw[s1]at Y;cases Y;rw[s2]at U;cases U;have:=E.sep i Z _ p q h2 O g1 F J g2;subst this;exact Kz hc h1 B
def ER.more{b:BX}{G:qV}{env:Env}{D:Addr}(E:ER b Ow G FV env H)(B:H D=none)(s:D8 H H')(F:∃o,H' D=some o):ER b (λc=>Ow c\/c=D) G FV env H'/\Ex (Bs b Ow) H (Bs b λc=>Ow c\/c=D) H':=by
 have j:Ex (Bs b Ow) H (Bs b λc=>Ow c\/c=D) H':=λc o h=>⟨λq=>⟨s _ _ h,λz=>z.elim q.1 (aF h B),q.2⟩,λ_=>s _ _ h⟩;exact⟨⟨E.len,E.same.trans s,λc w=>w.elim (λz=>let ⟨o,h⟩:=E.live c z;⟨o,s _ _ h⟩) λz=>by subst z;exact F,λc w=>w.elim (E.new c) λz=>by subst z;exact E.same.free B,λi p e n=>let ⟨v,h1,h2⟩:=E.val i p e n;⟨v,h1,h2.ex j⟩,
  λi p e n=>let ⟨a,h1,h2,h3⟩:=E.own i p e n;⟨a,h1,.inl h2,h3.ex j λo z=>s _ _ z⟩,E.sep,E.fix⟩,j⟩
structure QU(K:W.Frag)(ED:List (Option Nat))(g:TG)(gm:PV->Env->Option Env):Prop where
 go:∀(b:BX) (Ow:se) (G:qV) (FV:St) (env e:Env) (H:Hp) (v:V) (p:PV) (Q:St->Hp->Prop),b.C.K=K->(∀i,b.fx i=none)->ER b Ow (jZ ED G) (dW ED FV) (mQ ED env) H->Rep b.C (Bs b Ow) H v p->gm p (mQ ED env)=some e->
  (∀ GG,Kp (dW ED FV) GG->ER b Ow (jZ ED G) GG e H->Q GG H)->g v (dW ED FV) H Q
def KC{n:St}{i:Nat}(h:Kp FV n)(q:∀w,FV[i]?≠some (some w)):Kp FV (n.set i (some v)):=by
 refine⟨by rw[eM];exact h.1,λj w e=>?_⟩;by_cases hj:i=j
 ·subst hj;exact absurd e (q w)
 ·rw[bP hj];exact h.2 j w e
def G3(FV:St):Kp FV FV:=⟨rfl,λ_ _ e=>e⟩
def yj{ED:List (Option Nat)}{i:Nat}(h:ED[i]?=some none)(w:V):(dW ED FV)[i]?≠some (some w):=by
 unfold dW;rw[cm,h];intro z;cases z
def Am{ED:List (Option Nat)}{G:qV}{i:Nat}(h:ED[i]?=some none):i∉jZ ED G:=λz=>by
 obtain⟨k,e,_⟩:=ID.mp z;rw[h]at e;cases e
def mR{ED:List (Option Nat)}(i:Nat)(h:autoParam (ED[i]?=some none) r0_):QU K ED (bu i) (gN i):=
 ⟨λb Ow G FV env e H v p Q q n E r j k=>by
  cases j;exact k _ (KC (G3 _) (yj h)) (E.set (Am h) r (n _))⟩
def Dj:List Nat->Ze
 |[]=>Cj
 |i::is=>JU (bu i) (Dj is)
set_option tactic.hygienic true in def Dk{ED:List (Option Nat)}(is:qV)(h:autoParam ((is.all λi=>decide (ED[i]?=some none))=true) r0_):QU K ED (QA K is.length (Dj is)) (gT is):=
 ⟨λb Ow G FV env e H v p Q U Z E r n k=>by
  subst U;cases p<;>simp only[gT]at n<;>first|cases n|skip
  rename_i xs;obtain⟨a,vs,rfl,ha,O⟩:=EB.tup (.inl r);refine⟨a,vs,rfl,ha.sq,by rw[O.length];exact zx n,?_⟩;have F:∀(is:qV) (vs:sC) (xs:sA) (j:St) (q:Env),(is.all λi=>decide (ED[i]?=some none))=true->Kp (dW ED FV) j->ER b Ow (jZ ED G) j q H->D7 b.C (Bs b Ow) H vs xs->gNs is xs q=some e->Dj is vs j H Q:=by
   intro is;induction is with
   |nil=>
    intro vs xs j q _ J M I e1;cases xs with
    |nil=>cases I;cases e1;exact⟨rfl,k j J M⟩
    |cons x xs=>cases e1
   |cons i is ih=>
    intro vs xs j q B J M I e1;cases xs with
    |nil=>cases e1
    |cons x xs=>
     cases I with
     |cons r2 Y=>
      rw[kf,cE]at B;have hi:ED[i]?=some none:=by simpa using B.1
      exact⟨_,_,rfl,ih _ xs _ _ B.2 (KC J (yj hi)) (M.set (Am hi) r2 (Z _)) Y e1⟩
  exact F is vs xs _ _ h (G3 _) E O n⟩
section
variable {X:Cx}{b:BX}{G L:qV}{ro:Bool}{pos:Pos}{tg iter elt:Expr}{ifs:rh}{scope FH:Scope}{ON N:rj}{ED:List (Option Nat)}{src:sw}{g:TG}{gm:PV->Env->Option Env}{t:sv}{f:si}
set_option tactic.hygienic true in def Iz{Q:VK}(tgo:QU b.C.K ED g gm)(hc:su ED=true)(h:tM b G .own (dM ED src gm t f) FV H Q):
  jt (tMI b G false src) ED g (YK b.in (jZ ED G) t) (tM b.in (jZ ED G) .val f) FV H Q:=by
 obtain⟨Ow,env,p,E,j,k⟩:=h;obtain⟨xs,hxs,j⟩:=aJ j;split at j
 ·rename_i hlen
  obtain⟨ys,hys,j⟩:=aJ j;cases j;refine⟨Ow,env,xs,E,hxs,λJ H1 Z iw D O=>?_⟩;have E1:=E.up Z;have nD:H D=none:=Z.free O;refine⟨λi m vs H2=>m=xs.length - i/\i<=xs.length/\D8 H1 H2/\H2 D=some (.lst vs)/\vs.length<=i/\∃done rest,D7 b.C (Bs b λc=>Ow c\/c=D) H2 vs done/\cV (mQ ED env) gm t f (xs.drop i)=some rest/\done++rest=ys,
   ⟨xs.length,by simp,cq _,aM O _,aB,aI _,[],ys,.nil,by simpa using hys,rfl⟩,?_⟩
  rintro i m vs H2 ⟨rfl,hi,n,F,hv,done,rest,rd,cl,I⟩;refine⟨F,?_⟩;obtain⟨E2,x2⟩:=E1.more O n ⟨_,F⟩;obtain⟨w1,w2⟩:=iw _ H2 (λ_=>n) x2 λa=>E2.fresh;by_cases F4:i<xs.length
  ·rw[db F4]at cl
   obtain⟨e1,Zt,cl⟩:=aJ cl;obtain⟨kk,hk,cl⟩:=aJ cl;obtain⟨g1,g2⟩:=w1 i xs[i] (ax F4);refine .inr ⟨g1,λM H'=>i+1<=xs.length/\D8 H1 H'/\H' D=some (.lst M)/\M.length<=i+1/\∃done rest,D7 b.C (Bs b λc=>Ow c\/c=D) H' M done/\cV (mQ ED env) gm t f (xs.drop (i+1))=some rest/\done++rest=ys,λM H' q=>⟨xs.length - (i+1),by omega,rfl,q⟩,λx H' y=>?_⟩;obtain⟨s3,r3⟩:=g2 x H' y;have E3:=(E2.up s3).ED hc;refine tgo.go b.in _ G FV env e1 H' x _ _ rfl (λ_=>rfl) E3 r3 Zt fun Nn kp E4=>⟨kp,_,e1,kk,E4,hk,λH4 s4=>?_⟩
   have d4:H4 D=some (.lst vs):=s4 _ _ (s3 _ _ F);have U:D8 H2 H4:=s3.trans s4;cases kk with
   |false=>
    refine mJ ⟨F4,n.trans U,d4,nI hv,done,rest,rd.ex (.of_same U),?_,I⟩;simpa using cl
   |true=>
    simp only[fE]at cl;obtain⟨y1,hy1,cl⟩:=aJ cl;obtain⟨ys1,B,cl⟩:=aJ cl;cases cl;refine jH ⟨_,e1,y1,E4.up s4,hy1,λv5 H5 Y r5=>⟨Y _ _ d4,cT (by omega),F4,?_,aB,by rw[cb];show vs.length+1<=i+1;omega,done++[y1],ys1,?_,B,by rw[gv];exact I⟩⟩
    ·exactλc o h=>by rw[aG (aF h O)];exact Y _ _ (U _ _ (n _ _ h))
    ·have r5':Rep b.C (Bs b λc=>Ow c\/c=D) H5 v5 y1:=r5
     refine((rd.ex (.of_same (U.trans Y))).append (.cons r5' .nil)).ex ?_;exact tK (b:=b) (Ow:=λc=>Ow c\/c=D) (.inr rfl) (Y _ _ d4) rfl
  ·have e:i=xs.length:=by omega
   subst e;rw[List.drop_length]at cl;cases cl;rw[cS]at I;subst I;refine .inl ⟨w2,k _ H2 (Z.trans n) ⟨D,rfl,nD,vs,F,rd.ex (bB λc o _ q=>⟨⟨λz=>q.1 (.inl z),q.2⟩,λz=>q.1 (.inr z)⟩)⟩⟩
 ·cases j
def fJ{X:Cx}:qX X [] (YK b G dX):=by rintro D3 s FV H Q I ⟨Ow,env,k,E,j,kk⟩;cases j;exact p_ D3 s FV H Q I (kk H (D8.refl _))
def jz(S:Zn FH scope ON N ED)(n:QU b.C.K ED g gm)(hi:SI X b G false tg iter src)(J:∀C s H j,PG (X.comp N scope C s H j) tg g)(M:∀C s H j,qX (X.comp N scope C s H j) ifs (YK b.in (jZ ED G) t))(q:∀C s H j,SE (X.comp N scope C s H j) b.in (jZ ED G) .val elt f)
  (U:autoParam (su ED=true) r0_) (B:autoParam (X.calm=true) r0_) (O:autoParam (X.env.scope=FH) r0_) (F:autoParam (X.N=ON) r0_) (I:autoParam (∀x,foldedSetIterable iter X.env x=pure x) r4_):SE X b G .own (.ListComp elt [⟨tg,iter,ifs,0⟩] scope pos) (dM ED src gm t f):=
 PE.imp (vD S hi J M q B O F I) fun FV H Q h=>Iz n U h
def oO(i:Nat){y:Str}{I J:Pos}(nd:X.N.Nodup)(S:Zn FH scope ON N ED)(n:QU b.C.K ED g gm)(hi:SI X b G false tg iter src)(hg:∀C s H j,PG (X.comp N scope C s H j) tg g)(Z:∀C s H j,qX (X.comp N scope C s H j) ifs (YK b.in (jZ ED G) t))(he:∀C s H j,SE (X.comp N scope C s H j) b.in (jZ ED G) .val elt f)
  (U:autoParam (i∉G) r1_) (hx:autoParam (b.fx i=none) r6_) (LN:autoParam (X.N[i]?=some y) r0_) (Y:autoParam (Loc X.env.scope y) r7_) (TZ:autoParam (su ED=true) r0_)
  (F:autoParam (swapsWith (.ListComp elt [⟨tg,iter,ifs,0⟩] scope pos) (some (.Name y I)) J.line X.env=pure true) r0_)
  (hc:autoParam (X.calm=true) r0_) (LI:autoParam (X.env.scope=FH) r0_) (M:autoParam (X.N=ON) r0_) (O:autoParam (∀x,foldedSetIterable iter X.env x=pure x) r4_)
  (B:autoParam (SV X y) r3_):
  SS X b G G L ro (.Assign [.Name y I] (.ListComp elt [⟨tg,iter,ifs,0⟩] scope pos) J) (aY i (dM ED src gm t f)):=
 PS.imp (GQ S nd LN Y hi hg Z he F hc LI M O B) λD FV H q=>Iz n TZ (by
  obtain⟨Ow,env,p,E,B,k⟩:=Uh U hx q;exact⟨Ow,env,p,E,B,λv H' s r=>k v H' s (r.val E (by intro z;cases z))⟩)
def Rg(i:Nat){y:Str}{I J:Pos}(nd:X.N.Nodup)(S:Zn FH scope ON N ED)(B:QU b.C.K ED g gm)(hi:SI X b G false tg iter src)(hg:∀C s H n,PG (X.comp N scope C s H n) tg g)(ht:∀C s H n,qX (X.comp N scope C s H n) ifs (YK b.in (jZ ED G) t))(M:∀C s H n,SE (X.comp N scope C s H n) b.in (jZ ED G) .val elt f)
  (hG:autoParam (i∈G) r1_) (U:autoParam (b.fx i=none) r6_) (LN:autoParam (X.N[i]?=some y) r0_) (hy:autoParam (Loc X.env.scope y) r7_) (TZ:autoParam (su ED=true) r0_)
  (F:autoParam (swapsWith (.ListComp elt [⟨tg,iter,ifs,0⟩] scope pos) (some (.Name y I)) J.line X.env=pure true) r0_)
  (O:autoParam (X.calm=true) r0_) (LI:autoParam (X.env.scope=FH) r0_) (Y:autoParam (X.N=ON) r0_) (Z:autoParam (∀x,foldedSetIterable iter X.env x=pure x) r4_)
  (hf:autoParam (SV X y) r3_):
  SS X b G G L ro (.Assign [.Name y I] (.ListComp elt [⟨tg,iter,ifs,0⟩] scope pos) J) (aY i (dM ED src gm t f)):=
 PS.imp (GQ S nd LN hy hi hg ht M F O LI Y Z hf) λD FV H q=>Iz B TZ (Qk (λj=>⟨.inl,λz=>z.elim id λy=>y▸hG⟩) U q)
end
noncomputable def bQ(n k:Nat)(ro:Bool)(f:Env->Option Out)(ps:sA):Option PV:=if ps.length=k then(f (ps.map some++List.replicate (n - k) none)).bind λo=>match o with
 |.nx _=>if ro=true then none else some .Ee
 |.rt p=>some p
 |_=>none
 else none
@[simp] def XJ(n k:Nat)(ro:Bool)(f:Env->Option Out)(ps:sA):bQ n k ro f ps=(if ps.length=k then(f (ps.map some++List.replicate (n - k) none)).bind λo=>match o with
 |.nx _=>if ro=true then none else some .Ee
 |.rt p=>some p
 |_=>none
 else none):=id rfl
def Np{N:rj}{ps:sA}{G:qV}(r:D7 C A H vs ps)(I:∀i,i∈G->ps.length<=i)(Y:ps.length<=N.length):ER ⟨C,A,H,λ_=>none⟩ (λ_=>False) G (L2.start N vs) (ps.map some++List.replicate (N.length - ps.length) none) H:=by
 have hl:=r.length;have B:∀i p,(ps.map some++List.replicate (N.length - ps.length) none)[i]?=some (some p)->ps[i]?=some p:=λi p e=>by
  by_cases hi:i<ps.length
  ·rw[cw (by rw[ar];exact hi),cm]at e
   cases q:ps[i]? with
   |none=>rw[q]at e;cases e
   |some p'=>rw[q]at e;cases e;rfl
  ·rw[iX (by rw[ar];omega),om]at e
   split at e<;>cases e
 refine⟨?_,D8.refl _,λa w=>w.elim,λa w=>w.elim,λi p e n=>?_,λi p e n=>?_,λi j a p q e1 J U e2 Z O=>?_,λk v z=>by cases z⟩
 ·unfold L2.start
  simp only[cb,ar,pE];omega
 ·obtain⟨v,F,M⟩:=r.get (B i p e)
  refine⟨v,?_,M.ex (bB λa o _ q=>⟨λz=>z,.inl q⟩)⟩;unfold L2.start;have hi:i<vs.length:=(al.mp F).1;rw[cw (by rw[ar];exact hi),cm,F];rfl
 ·have h1:=(al.mp (B i p e)).1
  have h2:=I i n;omega
 ·have h1:=(al.mp (B i p e1)).1
  have h2:=I i J;omega
set_option tactic.hygienic true in def Rh{N:rj}{n k:Nat}{G G' L:qV}{body:rg}(F:N.length=n)(hk:k<=n)(J:(G.all λi=>decide (k<=i))=true)(U:∀A H,QO X ⟨C,A,H,λ_=>none⟩ G G' L ro body f)
  {vs:sC}{H:Hp}{Q:VK}{E:XK}(h:IL C (bQ n k ro f) ro vs H Q E):∃t,L5 X body t/\t {nx:=λ_ H'=>Q .Ee H',rt:=Q} (L2.start N vs) H:=by
 obtain⟨A,ps,p,r,j,kk⟩:=h;refine⟨_,U A H,?_⟩;unfold bQ at j;split at j
 ·rename_i B
  obtain⟨o,O,j⟩:=aJ j;refine⟨_,_,o,Np (N:=N) (G:=G) r (λi hi=>by rw[B];simpa using jS.mp J i hi) (by omega),by rw[F,B];exact O,?_⟩;cases o with
  |nx e=>
   cases ro with
   |true=>cases j
   |false=>cases j;exactλY Z H' I _=>kk .Ee H' I.same .Ee
  |rt q=>cases j;exactλv H' s M=>kk v H' s M
  |bk e=>cases j
  |ct e=>cases j
 ·cases j
set_option tactic.hygienic true in def Ri{n k:Nat}{j:Bool}{Q:VK}{E:XK}(h:IL C (bQ n k j f) ro vs H Q E):vs.length=k:=by
 obtain⟨A,ps,p,r,q,kk⟩:=h;unfold bQ at q;split at q
 ·rename_i B;rw[r.length];exact B
 ·cases q
structure CalI(P:Program)(w:World)(K:W.Frag)(mg:rX)(base:Heap)(C:Addr)(k:Nat)(x:Str)(ps:rj)(sp:Sp):Prop where
 ex:∃f fd,FA P w K mg base Lu k f fd ps sp/\Binds K fd ps []/\Mk K C f/\mg x=some (.ref C)
section
variable {X:Cx}{b:BX}{G:qV}{pos p:Pos}{e:Expr}{es:rh}{g:sw}
@[simp] noncomputable def tyN:PV->Option String
 |.Ee=>some "NoneType"
 |.bl _=>some "bool"
 |.int _=>some "int"
 |.str _=>some "str"
 |.lst _=>some "list"
 |.tup _=>some "tuple"
 |.dK _=>some "dict"
 |.dT _=>some "dict"
 |_=>none
def EB.ty{p:PV}{t:String}(r:EB C A H v p)(h:tyN p=some t):II C.K H v (.type t):=by
 cases p<;>simp only[tyN]at h<;>cases h
 ·rw[r.Ee];exact .Ee
 ·rw[r.bl];exact .bl _
 ·rw[r.int];exact .int _
 ·rw[r.str];exact .str _
 ·obtain⟨a,vs,rfl,j,_⟩:=r.lst;exact .lst j
 ·obtain⟨a,vs,rfl,j,_⟩:=r.tup;exact j.elim (λq=>.tup q) λq=>.GY q
 ·obtain⟨a,vs,rfl,j,_⟩:=r.dK;exact .dK j
 ·obtain⟨a,vs,rfl,j,_⟩:=r.dT;exact .dT j
theorem tR{j n:Type}[BEq j][LawfulBEq j]{x:j}{y:n}:∀{l:List (j×n)},l.lookup x=some y->(x,y)∈l
 |[],h=>by cases h
 |(a,c)::r,h=>by
  rw[cp]at h;cases q:x == a with
  |true=>rw[q]at h;cases h;have:=eq_of_beq q;subst this;exact av
  |false=>rw[q]at h;exact ap _ (tR h)
end
end Lake.MR
namespace Lake.L2
open PySem PySem.Spec PyProof.Rows
section
variable {X:Cx}{D3:qS}{FV:St}{H H':Hp}{s:Shared}{h':Heap}
def Inv.YS{t':Nat}{ch:rS}(I:Inv X D3 FV H s)(k:∀b u,b∉ch->s.heap.get? b=some u->h'.get? b=some u)(F:∀b∈ch,mF X D3 H b):Inv X D3 FV H {s with heap:=h',toks:=t'}:=by
 have J:∀b u,H b=some u->b∉ch:=λb u e B=>by
  rw[(F b B).1]at e;cases e
 refine I.step (g':=s.gens) (d':=s.drawn) (ch:=ch) (λb B=>let ⟨_,f1,_,f4,f5,f6⟩:=F b B;⟨f4,f1,f5,f6⟩) (λb o _ _ j e _=>k b o j e) (λb o _ _ j e _=>⟨o.slots,k b o j e⟩)
  (λ_ _ _ _ n=>n) (λb o j e=>⟨o,k b o j e⟩) (λ_ _ e=>e) (λ_ _ _ e=>e) (λb ps e=>⟨#[],by rw[e];simp⟩) (λm U=>?_) (λb u e=>?_) I.bare
 ·obtain⟨M,es,ep,Y,r⟩:=U
  have O:X.env.locals∉ch:=λB=>(F _ B).2.1 rfl;exact⟨M,es,ep,k _ M O Y,r⟩
 ·refine(I.EJ b u e).NN (λc v j q=>k c v ?_ q) (λ_ q=>q) λ_ _ q=>q
  rcases j with z|z
  ·rw[z];exact J b u e
  ·exact J c _ z
end
end Lake.L2
namespace Lake.MR
open PySem L2
section
variable {X:Cx}{b:BX}{G G' L:qV}{ro:Bool}{pos p:Pos}{m m1 m2:Md}{e e1 e2:Expr}{f f1 f2:si}
@[simp] noncomputable def Nq:PV->PV->Option PV
 |.int i,.int j=>some (.int (if j<i then j else i))
 |_,_=>none
@[simp] noncomputable def OX:PV->PV->Option PV
 |.int i,.int j=>some (.int (if j>i then j else i))
 |_,_=>none
def Ul(hm:X.mg "min" = none)(h1:SE X b G m1 e1 f1)(h2:SE X b G m2 e2 f2)(I:autoParam (X.calm=true) r0_)(Y:Gl X "min" := by rfl)(n:autoParam (bootBuiltins "min" = some (.builtin "min")) r2_)
  (B:autoParam (starEach [e1,e2] X.env=(false,eval e1 X.env)::starEach [e2] X.env) r0_) (Sm:autoParam (HK X e2 []) r0_) (Z:autoParam ((backTo pos (starEach [e2] X.env)).any (·.1)=false) r0_):
  SE X b G .val (.Call (.Name "min" p) [e1,e2] [] pos) (b2 Nq f1 f2):=by
 refine PE.imp (gZ (J0 I) Y hm n (aD h1.bor (aD h2.bor aV Sm) B) (by decide) (by decide) B Z) ?_;rintro FV H Q ⟨Ow,env,q,E,j,kk⟩;obtain⟨p1,O,j⟩:=aJ j;obtain⟨p2,OF,j⟩:=aJ j;refine⟨Ow,env,p1,E,O,λv H1 s r=>⟨Ow,env,p2,E.up s,OF,λJ H2 F U=>?_⟩⟩;have r1:EB b.C (Bs b Ow) H1 v p1:=r;have M:EB b.C (Bs b Ow) H2 J p2:=U;cases p1<;>cases p2<;>simp only[Nq]at j<;>cases j;exact⟨_,_,by rw[r1.int,M.int],kk _ H2 (s.trans F) (.int _)⟩
def Dl(hm:X.mg "max" = none)(h1:SE X b G m1 e1 f1)(h2:SE X b G m2 e2 f2)(I:autoParam (X.calm=true) r0_)(Y:Gl X "max" := by rfl)(n:autoParam (bootBuiltins "max" = some (.builtin "max")) r2_)
  (B:autoParam (starEach [e1,e2] X.env=(false,eval e1 X.env)::starEach [e2] X.env) r0_) (Sm:autoParam (HK X e2 []) r0_) (Z:autoParam ((backTo pos (starEach [e2] X.env)).any (·.1)=false) r0_):
  SE X b G .val (.Call (.Name "max" p) [e1,e2] [] pos) (b2 OX f1 f2):=by
 refine PE.imp (gZ (JZ I) Y hm n (aD h1.bor (aD h2.bor aV Sm) B) (by decide) (by decide) B Z) ?_;rintro FV H Q ⟨Ow,env,q,E,j,kk⟩;obtain⟨p1,O,j⟩:=aJ j;obtain⟨p2,OF,j⟩:=aJ j;refine⟨Ow,env,p1,E,O,λv H1 s r=>⟨Ow,env,p2,E.up s,OF,λJ H2 F U=>?_⟩⟩;have r1:EB b.C (Bs b Ow) H1 v p1:=r;have M:EB b.C (Bs b Ow) H2 J p2:=U;cases p1<;>cases p2<;>simp only[OX]at j<;>cases j;exact⟨_,_,by rw[r1.int,M.int],kk _ H2 (s.trans F) (.int _)⟩
end
section
variable {X:Cx}{b:BX}{G G' L:qV}{ro:Bool}{pos p:Pos}{m m1 m2:Md}{e e1 e2:Expr}{f f1 f2 h:si}
@[simp] noncomputable def Dm:PV->PV->Option PV
 |.lst xs,.lst ys=>if xs.length+ys.length<=1000000 then some (.lst (xs++ys))else none
 |_,_=>none
def KD{x y z:PV}(e:Dm x y=some z):∃xs ys,x=.lst xs/\y=.lst ys/\xs.length+ys.length<=1000000/\z=.lst (xs++ys):=by
 unfold Dm at e;split at e
 ·split at e
  ·cases e;exact⟨_,_,rfl,rfl,‹_›,rfl⟩
  ·cases e
 ·cases e
def Qm(i:Nat){x:Str}{p1 apos EN:Pos}(he:SE X b G .val e h)(hi:autoParam (i∈G) r1_)(hN:autoParam (X.N[i]?=some x) r0_)(Z:autoParam (S0 X.env.scope x) r5_)(hd:autoParam (Kt x) r1_)
  (Kx:autoParam (XZ x) r1_) (F6:autoParam (attributeBase (.Name x p1) "extend" X.env (eval (.Name x p1) X.env)=eval (.Name x p1) X.env) r0_)
  (LV:autoParam (Zb X EN [e]) r0_)
  (F7:autoParam ((apos.endLine == EN.line)=true) r0_) (B:autoParam (HK X e []) r0_):
  SS X b G G L ro (.Expr (.Call (.Attribute (.Name x p1) "extend" apos) [e] [] EN) pos) (gC Dm i h):=
 PS.imp (mD (Br gu PySem.F.slot_list_extend PySem.F.type_list_extend Ke (k_ hN Z hd Kx) (aD he aV B) F6 LV F7 B rfl))<|by
  rintro D FV H ⟨Ow,env,o,E,O,k⟩;obtain⟨px,M,Y⟩:=aJ O;clear O;obtain⟨p,hp,J⟩:=aJ Y;clear Y;obtain⟨y,hy,z3⟩:=aJ J;clear J;cases z3;obtain⟨xs,ys,rfl,rfl,hl,rfl⟩:=KD hy;obtain⟨a,I,w,t⟩:=E.own i _ (iI M) hi;obtain⟨vs,j,U⟩:=id t;refine⟨_,I,.inl ⟨rfl,_,Fc.of j⟩,Ow,env,_,E,hp,λv H' s r=>?_⟩;cases r with
  |@lst c us _ q1 q2 n=>
   refine⟨a,c,vs,us,rfl,rfl,s _ _ j,q1,iH (by rw[U.length,n.length];exact hl),?_⟩;have Zs:D7 b.C (Bs b Ow) (upd H' a (.lst (vs++us))) (vs++us) (xs++ys):=by
    refine(U.ex (.of_same s)).append n |>.ex λc o h=>⟨λq=>⟨by rw[aG (λz:c=a=>q.1 (z▸w))];exact h,q⟩,λm=>?_⟩;have hc:c≠a:=λz=>by subst z;rw[s _ _ j]at h;cases h;cases m
    rw[aG hc];exact h
   obtain⟨E',x⟩:=(E.up s).write hi I (iI M) w (t.ex (.of_same s) λo z=>s _ _ z) (o':=.lst (vs++us)) (p':=.lst (xs++ys)) ⟨_,aB,Zs⟩;exact k Ow FV _ E' ((Ex.of_same s).trans x)
@[simp] noncomputable def qg:PV->Option PV
 |.lst xs=>some (.tup xs)
 |.frz xs=>some (.tup xs)
 |.tup xs=>some (.tup xs)
 |_=>none
def qi(J:X.mg "tuple" = none)(h:SE X b G m1 e f)(M:autoParam (X.K=b.C.K) r0_)(I:Gl X "tuple" := by rfl)(F:autoParam (HK X e []) r0_):SE X b G .val (.Call (.Name "tuple" p) [e] [] pos) (b1 qg f):=by
 refine zq uw (λOw H U p1 p Q O B e k=>?_) J kG h I (by decide) (by decide) F;rw[M];cases p1<;>simp only[qg]at e<;>cases e
 case lst xs=>obtain⟨a,vs,rfl,j,q⟩:=B.lst;exact⟨a,vs,rfl,.inl ⟨Fc.of j,λl n=>k _ _ (aM n _) (rW n q)⟩⟩
 case frz xs=>obtain⟨a,vs,rfl,j,q⟩:=B.frz;exact⟨a,vs,rfl,.inl ⟨j,λl n=>k _ _ (aM n _) (rW n q)⟩⟩
 case tup xs=>obtain⟨a,vs,rfl,j,q⟩:=B.tup;exact⟨a,vs,rfl,.inr ⟨j.sq,k _ _ (D8.refl _) (j.rep q)⟩⟩
@[simp] noncomputable def Bx:PV->Option PV
 |.int j=>if 0<=j/\j<=1000000 then some (.lst (cX 0 j))else none
 |_=>none
@[simp] noncomputable def By:PV->Option PV
 |.lst xs=>some (.lst xs.reverse)
 |_=>none
end
end Lake.MR
namespace Lake.L2
open PySem PySem.Spec PyProof.Rows
section
variable {X:Cx}
noncomputable def zy(n:Nat):List V:=(List.range n).map λi=>.int (i:Nat)
theorem wJ:∀(n k:Nat) (l:re),l.length=n->(∀(j:Nat) v,l[j]?=some v->∃t,v=.int ((k+j:Nat):Int) t)->Vals ((List.range' k n).map λi=>V.int (i:Nat)) l
 |0,k,l,h,_=>by
  have:=ic h;subst this;exact .nil
 |n+1,k,l,h,hv=>by
  cases l with
  |nil=>cases h
  |cons v l=>
   rw[List.range'_succ,be];refine .cons ?_ (wJ n (k+1) l (by simpa using h) λj u q=>?_)
   ·obtain⟨t,e⟩:=hv 0 v rfl
    exact⟨t,e⟩
   ·obtain⟨t,e⟩:=hv (j+1) u (by simpa using q)
    exact⟨t,by rw[e];congr 1;omega⟩
def Um(ta:TA):TE:=fun FV H Q=>ta FV H λvs H1=>∃n:Nat,vs=[.int (n:Nat)]/\n<=1000000/\∀l,H1 l=none->Q (.ref l) (upd H1 l (.lst (zy n)))
def Nr{a:Expr}{ta:TA}{p p2 pos B:Pos}(hg:Gl X "list")(hm:X.mg "list" = none)(Z:Gl X "range")(T2:X.mg "range" = none)(hc:X.calm=true)(ha:PA X [a] ta)(Y:autoParam (starEach [a] X.env=[(false,eval a X.env)]) r0_)
  (O:autoParam (starEach [.Call (.Name "range" p2) [a] [] B] X.env=(false,eval (.Call (.Name "range" p2) [a] [] B) X.env)::starEach [] X.env) r0_) (FO:autoParam (Lo X pos []) r0_):
  PE X (.Call (.Name "list" p) [.Call (.Name "range" p2) [a] [] B] [] pos) (Um ta):=by
 intro D3 s FV H Q I h;refine fA (gG I hg hm ij ?_ (by decide) (by decide));refine ci ?_ O FO;rw[O];show wpAny _ _ (spliced ((false,eval (.Call (.Name "range" p2) [a] [] B) X.env)::backTo pos (starEach [] X.env))) _ _ s;refine gI ?_;refine Call_ (gG I Z T2 oz (ci (EO (ha B D3 s FV H _ I h) ?_) Y rfl));rintro us M ⟨vs,H1,J,r1,q1⟩;obtain⟨n,e,hn,q⟩:=q1;subst e;cases r1 with
 |cons r rr=>
  cases rr;obtain⟨t,rfl⟩:=r;refine call_range_1 (iL ?_);have h64:(2 ^ 62:Int)=4611686018427387904:=by decide
  refine call_list_range (n:=n) (J.ok.hd hc) (IsRange.new ..) (small_one (by omega) (by omega) (by omega) (by omega)) (by rw[qk];split<;>omega) (by omega) λh' tk F c' kp e it=>?_;obtain⟨i1,i2⟩:=it;have U:Vals (zy n) F.toList:=by
   have:=wJ n 0 F.toList (by simpa using i1) λj v hj=>by
    obtain⟨t,e⟩:=i2 j v (by simpa using hj);exact⟨t,by rw[e];congr 1;omega⟩
   unfold zy;rw[p4];exact this
  have I2:=J.laid (a:=M.heap.objs.size+1) (o:=.lst (zy n)) (h':=h') (t':=tk) (λb o eb=>kp b o (ac _ eb)) (by omega)
   (show EG X.prog X.w X.K _ h' _ (.lst (zy n))from⟨(by unfold zy;rw[ar,fq];exact gz (cT hn)),F.toList,c',U,by
    have:=e;rw[cy]at this;simpa using this⟩)
  refine⟨.ref (M.heap.objs.size+1),_,I2,?_,q _ (J.EJ.fresh (by omega))⟩;show Value.ref _=Value.ref _;rw[cy]
end
def KH:typeLookup (.type "list_reverseiterator") "__len__" = pure none:=by rw[kz,gS];kernel_rfl
def Nt:typeLookup (.type "list_reverseiterator") "__length_hint__" = pure (some (.builtin "list_reverseiterator.__length_hint__")):=by rw[kz,gS];kernel_rfl
section
variable {prog:Program}{w:World}{A:Around}{E:oT}{s:Shared}
def IK{J l N:Addr}{items:rV}{UZ:Nat}{R:Result->Shared->Prop}(hh:A.handled=none)(j:s.heap.IsRevIter J l ((items.size:Int) - 1))(hl:s.heap.IsList l items)(Y:l≠J)(q:N≠J)(U:N≠l)(hn:items.size<=sizeLine)
  (hN:s.heap.get? N=some {cls:=.type "list",data:=.seq #[] UZ})
  (hR:∀h' tk n c,(∀b o,b≠J->b≠N->s.heap.get? b=some o->h'.get? b=some o)->h'.get? N=some {cls:=.type "list",dict:=none,data:=.seq n c,slots:=#[]}->ItemsOf (λi v=>items[items.size - 1 - i]?=some v) n items.size->R (.ok (.ret .none)) {s with heap:=h',toks:=tk}):
  wpAny (model prog w) A.in1 (Builtin.List.listExtendWith (.ref N) (.ref J) .none)
   (λB s'=>match B with|.done f=>R (.ok f) s'|.again c'=>c'.quiet=true/\codeAny (model prog w) A c' R s') (λe s'=>R (.error e) s') s:=by
 have W:=(Walks.listRev (prog:=prog) (w:=w) (A:=A.in1) hh J l Y items).toS;have M:(0:Nat)<=items.size/\s.heap.IsRevIter J l ((items.size:Int) - 1 - ((0:Nat):Int))/\s.heap.IsList l items:=⟨cq _,by simpa using j,hl⟩;unfold Builtin.List.listExtendWith;have hr:Builtin.List.listSameRef (.ref N) (.ref J)=false:=by simp[Builtin.List.listSameRef,q]
 refine ab (jI j.typeIs ?_);rw[br (by rw[hr];decide)];refine ab (wpAny_pyIter_revIter j (ab (eg ?_)));unfold Builtin.List.listLengthHint;refine ab (iq j.typeIs KH ?_);show wpAny _ A.in1 (specialOf (Value.ref J) (Str.ofString "__length_hint__") >>= _) _ _ _;refine ab (iq j.typeIs Nt ?_);(generalize hid:("list_reverseiterator.__length_hint__" : String)=nm;(fail_if_success (clear hid nm));wp_delta;rw[show splitId nm=some ("list_reverseiterator","__length_hint__")from by subst hid;decide +kernel];subst hid);refine ab (jp (b:=true) j.typeIs (by rw[isSubtype_type];kernel_rfl) (ai ?_));rw[br (by decide)];have O:N∉[J,l]:=by simp[q,U]
 refine ai ⟨k9 F.plain_extend_loop _,codeAny_extend_loopS W hn N O .none items.size 0 _ _ _ rfl (cq _) M hN (ItemsOf.nil _) λs' n c Z I it=>?_⟩;rw[Moved.eq_with Z];exact hR s'.heap s'.toks n c (λb o h1 h2 e=>Z.heap b o (by simp[h1,h2]) e) I it
def Bf{J l:Addr}{items:rV}{Q:oT}(hh:A.handled=none)(n:s.heap.IsRevIter J l ((items.size:Int) - 1))(Z:s.heap.IsList l items)(U:l≠J)(hn:items.size<=sizeLine)
  (hQ:∀h' O j c,(∀b o,b≠J->s.heap.get? b=some o->h'.get? b=some o)->h'.get? s.heap.objs.size=some {cls:=.type "list",dict:=none,data:=.seq j c,slots:=#[]}->ItemsOf (λi v=>items[items.size - 1 - i]?=some v) j items.size->Q (.ref s.heap.objs.size) {s with heap:=h',toks:=O}):
  wpAny (model prog w) A (call (.type "list") [.ref J]) Q E s:=by
 have lt:∀{b:Addr}{o:Obj},s.heap.get? b=some o->b≠s.heap.objs.size:=λe=>bE (aE e);have Y:J≠s.heap.objs.size:=let ⟨_,e,_⟩:=n;lt e;have nl:l≠s.heap.objs.size:=let ⟨_,e,_⟩:=Z;lt e;refine callType_codes (Q₁:=λx t=>x=.ref s.heap.objs.size/\t={s with heap:=s.heap.push {cls:=.type "list",data:=.seq #[]}}) F.called_list (F.typeCall_list_1 _) F.entry_list_init (code_list_new _ ⟨rfl,rfl⟩) λx t ht=>?_;obtain⟨rfl,rfl⟩:=ht;have q:(s.heap.push {cls:=.type "list",data:=.seq #[]}).get? s.heap.objs.size=some {cls:=.type "list",data:=.seq #[]}:=ay _ rfl;refine⟨⟨_,q,rfl⟩,F.args_list_init_2 _ _,?_⟩;generalize hS:s.heap.objs.size=N at *;have up:∀b o,b≠N->s.heap.get? b=some o->((s.heap.push {cls:=.type "list",data:=.seq #[]}).update N (Obj.mapSeq (λ_=>(#[]:rV)))).get? b=some o:=λb o B e=>(ff _ _ (gc B)).trans (ac _ e);show wpAny _ A.in1.in1 (do let old ←Builtin.List.listItems (.ref N);Builtin.List.listUpdate (.ref N) (λ_=>#[]);letGo old.toList.reverse;Builtin.List.listExtendWith (.ref N) (.ref J) .none) _ _ _;refine ab ?_;unfold Builtin.List.listItems;refine ab (fz q rfl (ai ?_));show wpAny _ A.in1.in1 (updateSeq N (λ_=>#[]) >>= λ_=>letGo (#[]:rV).toList.reverse >>= λ_=>Builtin.List.listExtendWith (.ref N) (.ref J) .none) _ _ _;refine ab (lI q rfl (ab (nK ?_)));have M:=eT (Obj.mapSeq (λ_=>(#[]:rV))) q rfl;refine IK (A:=A.in1) hh (n.at λo e=>up J o Y e) (Z.at λo e=>up l o nl e) U (gc Y) (gc nl) hn M λh' O j c k e it=>⟨rfl,hQ h' O j c (λb o B I=>k b o B (hS▸lt I) (up b o (hS▸lt I) I)) e it⟩
end
section
variable {X:Cx}{tg:Expr}
def KJ{xs:sC}{n:re}(r:Vals xs n)(j:re)(q:j.length=n.length)(h:∀(i:Nat) v,j[i]?=some v->n[n.length - 1 - i]?=some v):Vals xs.reverse j:=by
 have e:j=n.reverse:=by
  refine List.ext_getElem? λi=>?_;rcases l8 i j.length with hi|hi
  ·have:=h i j[i] (ax hi)
   rw[ax hi,List.getElem?_reverse (by omega),this]
  ·rw[eJ hi,eJ (by rw[qc];omega)]
 rw[e];exact r.reverse
def Uo(K:W.Frag)(ta:TA):TE:=fun FV H Q=>ta FV H λvs H1=>∃a xs,vs=[.ref a]/\Fc K H1 a xs/\∀l,H1 l=none->Q (.ref l) (upd H1 l (.lst xs.reverse))
def Nu{a:Expr}{ta:TA}{p p2 pos n:Pos}(hg:Gl X "list")(hm:X.mg "list" = none)(T1:Gl X "reversed")(T2:X.mg "reversed" = none)(hb:bootBuiltins "reversed" = some (.type "reversed"))(hc:X.calm=true)(ha:PA X [a] ta)(hs:autoParam (HK X a []) r0_)(OF:autoParam (Lo X n []) r0_)
  (M:autoParam (starEach [.Call (.Name "reversed" p2) [a] [] n] X.env=(false,eval (.Call (.Name "reversed" p2) [a] [] n) X.env)::starEach [] X.env) r0_) (FO:autoParam (Lo X pos []) r0_):
  PE X (.Call (.Name "list" p) [.Call (.Name "reversed" p2) [a] [] n] [] pos) (Uo X.K ta):=by
 intro D3 s FV H Q I h;refine fA (gG I hg hm ij (ci ?_ M FO) (by decide) (by decide));rw[M];show wpAny _ _ (spliced ((false,eval (.Call (.Name "reversed" p2) [a] [] n) X.env)::backTo pos (starEach [] X.env))) _ _ s;refine gI (Call_ (gG I T1 T2 hb (ci (EO (ha n D3 s FV H _ I h) ?_) hs OF)));rintro us F ⟨vs,H1,B,r1,q1⟩;obtain⟨a,xs,e,hq,q⟩:=q1;subst e;obtain⟨u,rfl,ru⟩:=vals1 r1;cases ru;obtain⟨EA,J,pl,hz⟩:=B.list hq;have Y:=J.length;have F4:a≠F.heap.objs.size:=let ⟨_,e,_⟩:=pl.isList;bE (aE e);refine call_reversed_list pl.isList (iL ?_);refine Bf (B.ok.hd hc) ⟨_,ay _ rfl,rfl,rfl⟩ (pl.isList.at λo e=>ac _ e) F4 (by rw[bb];omega) λh' tk j c k e it=>?_;obtain⟨U,i2⟩:=it;rw[bb]at U;have Z:Vals xs.reverse j.toList:=KJ J j.toList (by simpa using U) λi v hi=>by
  have:=i2 i v (by simpa using hi);simpa using this
 have I2:=B.laid (a:=F.heap.objs.size+1) (o:=.lst xs.reverse) (h':=h') (t':=tk) (λb o O=>k b o (bE (aE O)) (ac _ O)) (by omega)
  (show EG X.prog X.w X.K _ h' _ (.lst xs.reverse)from⟨(by rw[qc];exact hz),j.toList,c,Z,by
   have:=e;rw[cy]at this;simpa using this⟩)
 refine⟨.ref (F.heap.objs.size+1),_,I2,?_,q _ (B.EJ.fresh (by omega))⟩;show Value.ref _=Value.ref _;rw[cy]
end
end Lake.L2
namespace Lake.MR
open PySem L2
section
variable {X:Cx}{b:BX}{G G' L:qV}{ro:Bool}{pos p p2 FF:Pos}{m m1 m2:Md}{e e1 e2:Expr}{f f1 f2 h:si}
set_option tactic.hygienic true in def IV{x q:PV}(e:Bx x=some q):∃n:Nat,x=.int (n:Nat)/\n<=1000000/\q=.lst (cX 0 (n:Nat)):=by
 unfold Bx at e;split at e
 ·split at e
  ·rename_i j F
   cases e;have B:j=((j.toNat:Nat):Int):=by omega
   exact⟨j.toNat,by rw[←B],by omega,by rw[←B]⟩
  ·cases e
 ·cases e
def Nv(hm:X.mg "list" = none)(T2:X.mg "range" = none)(h:SE X b G m1 e f)(I:autoParam (X.calm=true) r0_)(Y:Gl X "list" := by rfl)(U:Gl X "range" := by rfl)(O:autoParam (starEach [e] X.env=[(false,eval e X.env)]) r0_)(M:autoParam (HK X e []) r0_)
  (IQ:autoParam (starEach [.Call (.Name "range" p2) [e] [] FF] X.env=(false,eval (.Call (.Name "range" p2) [e] [] FF) X.env)::starEach [] X.env) r0_) (Z:autoParam (Lo X pos []) r0_):
  SE X b G .own (.Call (.Name "list" p) [.Call (.Name "range" p2) [e] [] FF] [] pos) (b1 Bx f):=by
 refine PE.imp (Nr Y hm U T2 I (aD h.bor aV M) O IQ Z) ?_;rintro FV H Q ⟨Ow,env,q,E,j,k⟩;obtain⟨x,J,j⟩:=aJ j;obtain⟨n,rfl,F,rfl⟩:=IV j;refine⟨Ow,env,_,E,J,λv H1 s r=>?_⟩;have r1:EB b.C (Bs b Ow) H1 v (.int (n:Nat)):=r;refine⟨n,by rw[r1.int],F,λl B=>k _ _ (s.new B _) (Res.down s (f9 B ?_))⟩;have rr:D7 b.C (Bs b Ow) H1 ((List.range n).map λi=>V.int (i:Nat)) ((List.range n).map λi=>PV.int (i:Nat)):=mK _ _ (λi=>.int _) _;have e1:cX 0 (n:Nat)=(List.range n).map λi=>PV.int (i:Nat):=by unfold cX;simp
 rw[e1];exact rr
def I_{x q:PV}(e:By x=some q):∃xs,x=.lst xs/\q=.lst xs.reverse:=by
 unfold By at e;split at e
 ·cases e;exact⟨_,rfl,rfl⟩
 ·cases e
def Ny(hm:X.mg "list" = none)(Z:X.mg "reversed" = none)(h:SE X b G m1 e f)(F:autoParam (bootBuiltins "reversed" = some (.type "reversed")) r2_)(hK:autoParam (X.K=b.C.K) r0_)(I:autoParam (X.calm=true) r0_)(U:Gl X "list" := by rfl)(O:Gl X "reversed" := by rfl)(n:autoParam (HK X e []) r0_)(OF:autoParam (Lo X FF []) r0_)
  (IQ:autoParam (starEach [.Call (.Name "reversed" p2) [e] [] FF] X.env=(false,eval (.Call (.Name "reversed" p2) [e] [] FF) X.env)::starEach [] X.env) r0_) (Y:autoParam (Lo X pos []) r0_):
  SE X b G .own (.Call (.Name "list" p) [.Call (.Name "reversed" p2) [e] [] FF] [] pos) (b1 By f):=by
 refine PE.imp (Nu U hm O Z F I (aD h.bor aV n) n OF IQ Y) ?_;rintro FV H Q ⟨Ow,env,q,E,j,k⟩;rw[hK];obtain⟨x,J,j⟩:=aJ j;obtain⟨xs,rfl,rfl⟩:=I_ j;refine⟨Ow,env,_,E,J,λv H1 s r=>?_⟩;have r1:EB b.C (Bs b Ow) H1 v (.lst xs):=r;obtain⟨a,vs,rfl,M,ra⟩:=r1.lst;exact⟨a,vs,rfl,Fc.of M,λl B=>k _ _ (s.new B _) (Res.down s (f9 B ra.reverse))⟩
end
def qZ{q:Type}{n:Nat}{us:List q}(j:us.length=n+1):∃a r,us=a::r/\r.length=n:=by
 cases us with
 |nil=>cases j
 |cons a r=>exact⟨a,r,rfl,Nat.succ.inj j⟩
@[elab_as_elim] theorem len0{j:Type}{P:List j->Prop}(us:List j)(n:us.length=0)(h:P []):P us:=by
 cases us with
 |nil=>exact h
 |cons a r=>cases n
@[elab_as_elim] theorem Up{j:Type}{P:List j->Prop}(us:List j)(q:us.length=1)(h:∀a,P [a]):P us:=by
 obtain⟨a,r,rfl,n⟩:=qZ q;exact len0 (P:=λr=>P (a::r)) r n (h a)
@[elab_as_elim] theorem Uq{j:Type}{P:List j->Prop}(us:List j)(q:us.length=2)(h:∀a b,P [a,b]):P us:=by
 obtain⟨a,r,rfl,n⟩:=qZ q;exact Up (P:=λr=>P (a::r)) r n (h a)
@[elab_as_elim] theorem Ur{j:Type}{P:List j->Prop}(us:List j)(q:us.length=3)(h:∀a b c,P [a,b,c]):P us:=by
 obtain⟨a,r,rfl,n⟩:=qZ q;exact Uq (P:=λr=>P (a::r)) r n (h a)
@[elab_as_elim] theorem Us{j:Type}{P:List j->Prop}(us:List j)(q:us.length=4)(h:∀a b c d,P [a,b,c,d]):P us:=by
 obtain⟨a,r,rfl,n⟩:=qZ q;exact Ur (P:=λr=>P (a::r)) r n (h a)
@[elab_as_elim] theorem Xn{j:Type}{P:List j->Prop}(us:List j)(q:us.length=5)(h:∀a b c d e,P [a,b,c,d,e]):P us:=by
 obtain⟨a,r,rfl,n⟩:=qZ q;exact Us (P:=λr=>P (a::r)) r n (h a)
end Lake.MR
namespace Lake.L2
open PySem PySem.Spec PyProof.Rows
section
variable {prog:Program}{w:World}{A:Around}{E:oT}{s:Shared}
def nextT{it t:Addr}{i:Nat}{items:rV}{x:Value}{Q:oT}(j:s.heap.IsTupleIter it t i)(J:s.heap.IsTuple t items)(B:items[i]?=some x)
  (q:∀h',h'.IsTupleIter it t (i+1)->Heap.SameBut it s.heap h'->Q x {s with heap:=h'}):wpAny (model prog w) A (Builtin.SmallTypes.nextOf (.ref it)) Q E s:=by
 obtain⟨o,n,I,fo⟩:=id j;obtain⟨p,ep,_,M,F⟩:=J;unfold Builtin.SmallTypes.nextOf;refine ab (c9 (name:=Str.ofString "__next__") j.typeIs gL (dy gL j.typeIs l9 ?_ (lP _)));show wpAny _ _ (field (.ref it) 0 >>= _) _ _ _;refine ab (ed n fo (x:=.ref t) rfl ?_);show wpAny _ _ (if(Value.ref t == Value.none)=true then _ else _) _ _ _;rw[br (λz:(Value.ref t == Value.none)=true=>bq z)];show wpAny _ _ (field (.ref it) 1 >>= _) _ _ _;refine ab (ed n fo (x:=.int i 0) rfl ?_);show wpAny _ _ (seqItems? (.ref t) >>= _) _ _ _;refine ab (fz ep F ?_);simp only[fN,B];refine ab (mE n fo (by simp) (ai ⟨x,rfl,ai (q _ ⟨_,eT _ n (Obj.isFreed_of_fields (Obj.data_mapFields fo _)),(Obj.cls_mapFields ..).trans I,?_⟩ (eS ..))⟩));rw[Obj.data_mapFields fo];simp[rawInt]
def KN{it t:Addr}{i:Nat}{items:rV}{Q:oT}(q:A.handled=none)(j:s.heap.IsTupleIter it t i)(J:s.heap.IsTuple t items)(F:items[i]?=none)
  (B:∀h' e,Heap.ExtBut it s.heap h'->(∃o,h'.get? e=some o/\o.cls=.type "StopIteration")->E (.ref e) {s with heap:=h'}):wpAny (model prog w) A (Builtin.SmallTypes.nextOf (.ref it)) Q E s:=by
 obtain⟨o,n,O,fo⟩:=id j;obtain⟨p,ep,_,M,I⟩:=J;unfold Builtin.SmallTypes.nextOf;refine ab (c9 (name:=Str.ofString "__next__") j.typeIs gL (dy gL j.typeIs l9 ?_ (lP _)));show wpAny _ _ (field (.ref it) 0 >>= _) _ _ _;refine ab (ed n fo (x:=.ref t) rfl ?_);show wpAny _ _ (if(Value.ref t == Value.none)=true then _ else _) _ _ _;rw[br (λz:(Value.ref t == Value.none)=true=>bq z)];show wpAny _ _ (field (.ref it) 1 >>= _) _ _ _;refine ab (ed n fo (x:=.int i 0) rfl ?_);show wpAny _ _ (seqItems? (.ref t) >>= _) _ _ _;refine ab (fz ep I ?_);simp only[fN,F];refine ab (iO (ab (mE n fo (by simp) ?_)));show wpAny _ _ (newExc (.type "StopIteration") [] >>= _) _ _ _;refine ab ?_;simp only[newExc,newTuple];refine ab (dL (ab (m:=firstArgMember _ _) (wpAny_of_eq (a:=Value.none) (by first|rfl|(simp only[firstArgMember];rfl)) (dL ?_ (by size_fits)))) (by size_fits));simp only[raiseNew];refine ab (qr ?_);rw[q];refine ab (ai (wpAny_throw ?_));exact B _ _ (((eS ..).extBut.push _).push _) ⟨_,ay _ rfl,rfl⟩
def Ut(j:A.handled=none)(it t:Addr)(B:t≠it)(items:rV):Draws prog w A it [it,t] items.size (λi v=>items[i]?=some v) (λi h=>h.IsTupleIter it t i/\h.IsTuple t items) where
 live:=λi h st=>let ⟨o,e,_⟩:=st.1;⟨o,e⟩
 frame:=λi h h' st k=>⟨st.1.at λo e=>k it (by simp) o e,let ⟨o,e,c⟩:=st.2;⟨o,k t (by simp) o e,c⟩⟩
 item:=λi s Q E hi st n=>nextT st.1 st.2 (fk hi) λh' a b=>n _ h' s.toks (fk hi) ⟨a,let ⟨o,e,c⟩:=st.2;⟨o,(b.2 t B).trans e,c⟩⟩ b
 done:=λs Q E st q=>KN j st.1 st.2 (kP (aI _)) q
structure ZA(z TI TO i1 i2:Addr)(Q1 Q2:rS):Prop where
 TIz:TI≠z
 TOz:TO≠z
 TIO:TI≠TO
 m1:i1∈Q1
 m2:i2∈Q2
 z1:z∉Q1
 z2:z∉Q2
 o1:TO∉Q1
 o2:TO∉Q2
 x12:i1∉Q2
 x21:i2∉Q1
variable {z TI TO i1 i2:Addr}{Q1 Q2:rS}{n1 n2:Nat}{P1 P2:Nat->Value->Prop}{St1 Zu:Nat->Heap->Prop}
def ZA.i1z(D:ZA z TI TO i1 i2 Q1 Q2):i1≠z:=λe=>D.z1 (e▸D.m1)
def ZA.i2z(D:ZA z TI TO i1 i2 Q1 Q2):i2≠z:=λe=>D.z2 (e▸D.m2)
def ZA.i1o(D:ZA z TI TO i1 i2 Q1 Q2):i1≠TO:=λe=>D.o1 (e▸D.m1)
def ZA.i2o(D:ZA z TI TO i1 i2 Q1 Q2):i2≠TO:=λe=>D.o2 (e▸D.m2)
def gb{b:Addr}{h h':Heap}{j:rS}(F:Heap.SameBut b h h')(n:b∉j):∀c∈j,∀o,h.get? c=some o->h'.get? c=some o:=λc B o e=>(F.2 c (λq=>n (q▸B))).trans e
def KQ{k:Nat}{a b:Value}{Q:oT}(D:ZA z TI TO i1 i2 Q1 Q2)(F:Draws prog w A i1 Q1 n1 P1 St1)(I:Draws prog w A i2 Q2 n2 P2 Zu)(hz:IsZip s.heap z TI TO .none)(OY:IsPair s.heap TI (.ref i1) (.ref i2))(PR:IsPair s.heap TO a b)
  (t1:St1 k s.heap) (t2:Zu k s.heap) (k1:k<n1) (k2:k<n2)
  (hQ:∀h' tk x y,P1 k x->P2 k y->IsZip h' z TI TO (rawInt s.heap.objs.size)->IsPair h' TO x y->St1 (k+1) h'->Zu (k+1) h'->IsPair h' s.heap.objs.size x y->h'.objs.size=s.heap.objs.size+1->
   (∀c o,c≠z->c≠TO->c≠i1->c≠i2->s.heap.get? c=some o->h'.get? c=some o)->Q (.ref s.heap.objs.size) {s with heap:=h',toks:=tk}):
  wpAny (model prog w) A (Builtin.«zip.__next__» ⟨[.ref z],[]⟩) (λfin s'=>∃v,fin=.done (.ret v)/\Q v s') E s:=by
 show wpAny _ _ (field (.ref z) 2 >>= _) _ _ _;refine ab (ed hz rfl (x:=.bool false) rfl ?_);show wpAny _ _ (field (.ref z) 3 >>= _) _ _ _;refine ab (ed hz rfl (x:=.ref TI) rfl (ab (fz OY rfl ?_)));show wpAny _ _ (Builtin.SmallTypes.ownedTupleIsFree (.ref z) >>= _) _ _ _;refine ab ?_;unfold Builtin.SmallTypes.ownedTupleIsFree;refine ab (ed hz rfl (x:=.none) rfl (ai ?_));simp only[fE];refine ab (iO (ab (ed hz rfl (x:=.ref TO) rfl (ab (d0 hz (by simp) λg1 z1 J=>?_)))));replace z1:IsZip g1 z TI TO .ellipsis:=z1;refine ab ?_;simp only[List.zipIdx_cons,List.zipIdx_nil,ly,mB];refine ab (ab (nX ?_));show wpAny _ _ (Builtin.SmallTypes.nextOf (.ref i1) >>= _) _ _ _;refine ab (F.item k _ _ _ k1 (F.frame k _ _ t1 (gb J D.z1)) λx g2 tk2 px u2 O=>ai ?_);have o2:IsPair g2 TO a b:=O.extBut _ _ D.i1o.symm (J.extBut _ _ D.TOz PR);refine ab (fz o2 rfl (ab (lh o2 λg3 o3 Y=>ab (nK (ai ?_)))));replace o3:IsPair g3 TO x b:=o3;refine ab (ab (nX ?_));show wpAny _ _ (Builtin.SmallTypes.nextOf (.ref i2) >>= _) _ _ _;have v3:Zu k g3:=I.frame k _ _ (I.frame k _ _ (I.frame k _ _ t2 (gb J D.z2)) (gb O D.x12)) (gb Y D.o2);refine ab (I.item k _ _ _ k2 v3 λy g4 tk4 py u4 U=>ai ?_);have o4:IsPair g4 TO x b:=U.extBut _ _ D.i2o.symm o3;refine ab (fz o4 rfl (ab (lh o4 λj o5 M=>ab (nK (ai (ai ?_))))));replace o5:IsPair j TO x y:=o5;refine ab (fz o5 rfl (ab (mI ?_)));have sz:j.objs.size=s.heap.objs.size:=by rw[M.1,U.1,Y.1,O.1,J.1]
 have z5:IsZip j z TI TO .ellipsis:=M.extBut _ _ D.TOz.symm (U.extBut _ _ D.i2z.symm (Y.extBut _ _ D.TOz.symm (O.extBut _ _ D.i1z.symm z1)));have k5:∀c o,c≠z->c≠TO->c≠i1->c≠i2->s.heap.get? c=some o->j.get? c=some o:=λc o n c2 c3 c4 e=>M.extBut _ _ c2 (U.extBut _ _ c4 (Y.extBut _ _ c2 (O.extBut _ _ c3 (J.extBut _ _ n e))));have w1:St1 (k+1) j:=F.frame _ _ _ (F.frame _ _ _ (F.frame _ _ _ u2 (gb Y D.o1)) (gb U D.x21)) (gb M D.o1);have w2:Zu (k+1) j:=I.frame _ _ _ u4 (gb M D.o2);have lz:z<j.objs.size:=aE z5;show wpAny _ _ (Builtin.SmallTypes.ownedTupleHandOut (.ref z) (.ref j.objs.size) >>= _) _ _ _;refine ab ?_;unfold Builtin.SmallTypes.ownedTupleHandOut;have z6:IsZip (j.push {cls:=.type "tuple",data:=.seq #[x,y]}) z TI TO .ellipsis:=ac _ z5;refine ab (d0 z6 (by simp) λg7 z7 s7=>?_);replace z7:IsZip g7 z TI TO (rawInt j.objs.size):=z7;refine d0 z7 (by simp) λB Z s8=>?_;replace Z:IsZip B z TI TO (rawInt j.objs.size):=Z;have up:∀c o,c≠z->j.get? c=some o->B.get? c=some o:=λc o n e=>s8.extBut _ _ n (s7.extBut _ _ n (ac _ e));have p8:IsPair B j.objs.size x y:=s8.extBut _ _ (d5 lz) (s7.extBut _ _ (d5 lz) (ay _ rfl));have y8:B.objs.size=j.objs.size+1:=by rw[s8.1,s7.1,cy]
 have fr:∀{fp:rS},z∉fp->∀c∈fp,∀o,j.get? c=some o->B.get? c=some o:=λhz' c hc o e=>up c o (λq=>hz' (q▸hc)) e;rw[sz]at Z p8 y8;refine ai ⟨_,rfl,?_⟩;show Q (.ref j.objs.size) _;rw[sz];exact hQ B _ x y px py Z (up _ _ D.TOz o5) (F.frame _ _ _ w1 (fr D.z1)) (I.frame _ _ _ w2 (fr D.z2)) p8 y8 λc o n c2 c3 c4 e=>up c o n (k5 c o n c2 c3 c4 e)
def Nz{k:Nat}{a b:Value}{Q:Fin->Shared->Prop}(D:ZA z TI TO i1 i2 Q1 Q2)(D1:Draws prog w A i1 Q1 n1 P1 St1)(O:Draws prog w A i2 Q2 n2 P2 Zu)(hz:IsZip s.heap z TI TO .none)(OY:IsPair s.heap TI (.ref i1) (.ref i2))(PR:IsPair s.heap TO a b)
  (t1:St1 k s.heap) (t2:Zu k s.heap) (hk:k=n1\/(k<n1/\k=n2))
  (hE:∀h' tk e,(∀c o,c≠z->c≠TO->c≠i1->c≠i2->s.heap.get? c=some o->h'.get? c=some o)->(∃o,h'.get? e=some o/\o.cls=.type "StopIteration")->E (.ref e) {s with heap:=h',toks:=tk}):
  wpAny (model prog w) A (Builtin.«zip.__next__» ⟨[.ref z],[]⟩) Q E s:=by
 show wpAny _ _ (field (.ref z) 2 >>= _) _ _ _;refine ab (ed hz rfl (x:=.bool false) rfl ?_);show wpAny _ _ (field (.ref z) 3 >>= _) _ _ _;refine ab (ed hz rfl (x:=.ref TI) rfl (ab (fz OY rfl ?_)));show wpAny _ _ (Builtin.SmallTypes.ownedTupleIsFree (.ref z) >>= _) _ _ _;refine ab ?_;unfold Builtin.SmallTypes.ownedTupleIsFree;refine ab (ed hz rfl (x:=.none) rfl (ai ?_));simp only[fE];refine ab (iO (ab (ed hz rfl (x:=.ref TO) rfl (ab (d0 hz (by simp) λg1 z1 J=>?_)))));replace z1:IsZip g1 z TI TO .ellipsis:=z1;refine ab ?_;simp only[List.zipIdx_cons,List.zipIdx_nil,ly,mB];refine ab (ab (nX ?_));show wpAny _ _ (Builtin.SmallTypes.nextOf (.ref i1) >>= _) _ _ _;have v1:St1 k g1:=D1.frame k _ _ t1 (gb J D.z1);rcases hk with rfl|⟨hk1,rfl⟩
 ·refine ab (D1.done _ _ _ v1 λg2 e F he=>?_)
  obtain⟨Y,j,n⟩:=he;have z2:IsZip g2 z TI TO .ellipsis:=F _ _ D.i1z.symm z1;have B:e≠z:=λq=>by subst q;rw[z2]at j;cases j;simp at n
  exact d0 z2 (by simp) λU _ I=>hE U _ e (λc o M _ Z _ q=>I.extBut _ _ M (F _ _ Z (J.extBut _ _ M q))) ⟨Y,I.extBut _ _ B j,n⟩
 ·refine ab (D1.item k _ _ _ hk1 v1 λx g2 tk2 px u2 F=>ai ?_)
  have o2:IsPair g2 TO a b:=F.extBut _ _ D.i1o.symm (J.extBut _ _ D.TOz PR);refine ab (fz o2 rfl (ab (lh o2 λU o3 I=>ab (nK (ai ?_)))));refine ab (ab (nX ?_));show wpAny _ _ (Builtin.SmallTypes.nextOf (.ref i2) >>= _) _ _ _;have v3:Zu k U:=O.frame k _ _ (O.frame k _ _ (O.frame k _ _ t2 (gb J D.z2)) (gb F D.x12)) (gb I D.o2);refine ab (O.done _ _ _ v3 λg4 e s4 he=>?_);obtain⟨Y,j,n⟩:=he;have z4:IsZip g4 z TI TO .ellipsis:=s4 _ _ D.i2z.symm (I.extBut _ _ D.TOz.symm (F.extBut _ _ D.i1z.symm z1));have B:e≠z:=λq=>by subst q;rw[z4]at j;cases j;simp at n
  exact d0 z4 (by simp) λg5 _ s5=>hE g5 _ e (λc o M c2 Z c4 q=>s5.extBut _ _ M (s4 _ _ c4 (I.extBut _ _ c2 (F.extBut _ _ Z (J.extBut _ _ M q))))) ⟨Y,s5.extBut _ _ B j,n⟩
end
inductive SK where|L|T
def SK.ty:SK->String
 |.L => "list_iterator"
 |.T => "tuple_iterator"
def SK.is(k:SK)(h:Heap)(a:Addr)(items:rV):Prop:=match k with
 |.L=>h.IsList a items
 |.T=>h.IsTuple a items
def SK.at(k:SK)(h:Heap)(it a:Addr)(i:Nat):Prop:=match k with
 |.L=>h.IsListIter it a i
 |.T=>h.IsTupleIter it a i
def SK.at_of{k:SK}{h:Heap}{it a:Addr}(e:h.get? it=some {cls:=.type k.ty,data:=.fields #[.ref a,.int 0 0]}):k.at h it a 0:=by
 cases k with
 |L=>exact⟨_,e,rfl,rfl⟩
 |T=>exact⟨_,e,rfl,rfl⟩
def SK.HL{k:SK}{h:Heap}{it a:Addr}{i:Nat}(st:k.at h it a i):∃o,h.get? it=some o/\∀v,o.data≠.cell v:=by
 cases k with
 |L=>obtain⟨o,e,c,d⟩:=st;exact⟨o,e,λv y=>by rw[d]at y;cases y⟩
 |T=>obtain⟨o,e,c,d⟩:=st;exact⟨o,e,λv y=>by rw[d]at y;cases y⟩
def SK.IH{k:SK}{h h':Heap}{it a:Addr}{i:Nat}(st:k.at h it a i)(q:∀o,h.get? it=some o->h'.get? it=some o):k.at h' it a i:=by
 cases k with
 |L=>exact Heap.IsListIter.at st q
 |T=>exact Heap.IsTupleIter.at st q
def SK.is_lt{k:SK}{h:Heap}{a:Addr}{items:rV}(p:k.is h a items):a<h.objs.size:=by
 cases k with
 |L=>obtain⟨o,e,_⟩:=p;exact aE e
 |T=>obtain⟨o,e,_⟩:=p;exact aE e
def SK.draws{prog:Program}{w:World}{A:Around}(k:SK)(j:A.handled=none)(it a:Addr)(n:a≠it)(items:rV):Draws prog w A it [it,a] items.size (λi v=>items[i]?=some v) (λi h=>k.at h it a i/\k.is h a items):=by
 cases k with
 |L=>exact Draws.list j it a n items
 |T=>exact Ut j it a n items
noncomputable def zh1(k1:SK)(h:Heap)(l1:Addr):Heap:=h.push {cls:=.type k1.ty,data:=.fields #[.ref l1,.int 0 0]}
noncomputable def zh2(k1 k2:SK)(h:Heap)(l1 l2:Addr):Heap:=(zh1 k1 h l1).push {cls:=.type k2.ty,data:=.fields #[.ref l2,.int 0 0]}
noncomputable def zh3(k1 k2:SK)(h:Heap)(l1 l2:Addr):Heap:=(zh2 k1 k2 h l1 l2).push {cls:=.type "tuple",data:=.seq #[.ref h.objs.size,.ref (zh1 k1 h l1).objs.size]}
noncomputable def zh4(k1 k2:SK)(h:Heap)(l1 l2:Addr):Heap:=(zh3 k1 k2 h l1 l2).push {cls:=.type "tuple",data:=.seq #[.none,.none]}
noncomputable def zh5(k1 k2:SK)(h:Heap)(l1 l2:Addr):Heap:=(zh4 k1 k2 h l1 l2).push {cls:=.type "zip",data:=.fields #[.none,.bool false,.bool false,.ref (zh2 k1 k2 h l1 l2).objs.size,.ref (zh3 k1 k2 h l1 l2).objs.size]}
def Uu(k1 k2:SK)(j n:Addr)(xs ys:rV):Meets (Builtin.«zip.__new__» ⟨[.type "zip",.ref j,.ref n],[]⟩) (λ_ R s=>k1.is s.heap j xs/\k2.is s.heap n ys /\
   R (.ok (.ret (.ref (zh4 k1 k2 s.heap j n).objs.size))) {s with heap:=zh5 k1 k2 s.heap j n}):=
 .of_wp λprog w A R s h=>by
  obtain⟨F,g,d,q,B⟩:=s;obtain⟨M,I,h⟩:=h;have J:=sub_zip;cases k1 with
  |L=>
   have e1:Heap.IsList (Shared.heap ⟨F,g,d,q,B⟩) j xs:=M;cases k2 with
   |L=>
    have e2:Heap.IsList (Shared.heap ⟨F.push {cls:=.type "list_iterator",data:=.fields #[.ref j,.int 0 0]},g,d,q,B⟩) n ys:=Heap.IsList.push I _;wp_walk using fI e1,fI e2;exact⟨_,rfl,h⟩
   |T=>
    have e2:Heap.IsTuple (Shared.heap ⟨F.push {cls:=.type "list_iterator",data:=.fields #[.ref j,.int 0 0]},g,d,q,B⟩) n ys:=let ⟨o,e,c⟩:=I;⟨o,ac _ e,c⟩;wp_walk using fI e1,e9 e2;exact⟨_,rfl,h⟩
  |T=>
   have e1:Heap.IsTuple (Shared.heap ⟨F,g,d,q,B⟩) j xs:=M;cases k2 with
   |L=>
    have e2:Heap.IsList (Shared.heap ⟨F.push {cls:=.type "tuple_iterator",data:=.fields #[.ref j,.int 0 0]},g,d,q,B⟩) n ys:=Heap.IsList.push I _;wp_walk using e9 e1,fI e2;exact⟨_,rfl,h⟩
   |T=>
    have e2:Heap.IsTuple (Shared.heap ⟨F.push {cls:=.type "tuple_iterator",data:=.fields #[.ref j,.int 0 0]},g,d,q,B⟩) n ys:=let ⟨o,e,c⟩:=I;⟨o,ac _ e,c⟩;wp_walk using e9 e1,e9 e2;exact⟨_,rfl,h⟩
section
variable {prog:Program}{w:World}{A:Around}{E:oT}{s:Shared}
def KR{k1 k2:SK}{j n:Addr}{xs ys:rV}{Q:oT}(Y:k1.is s.heap j xs)(Z:k2.is s.heap n ys)
  (h:∀h',IsZip h' (s.heap.objs.size+4) (s.heap.objs.size+2) (s.heap.objs.size+3) .none->IsPair h' (s.heap.objs.size+2) (.ref s.heap.objs.size) (.ref (s.heap.objs.size+1))->
   IsPair h' (s.heap.objs.size+3) .none .none->k1.at h' s.heap.objs.size j 0->k2.at h' (s.heap.objs.size+1) n 0->h'.objs.size=s.heap.objs.size+5->
   (∀c o,s.heap.get? c=some o->h'.get? c=some o)->Q (.ref (s.heap.objs.size+4)) {s with heap:=h'}):
  wpAny (model prog w) A (call (.type "zip") [.ref j,.ref n]) Q E s:=by
 refine callType_new F.called_zip (by decide) (F.typeCall_zip_2 _ _) (F.newCall_zip_2 _ _) (λobj=>F.args_object_init_3 obj _ _) F.entry_zip_new (Uu k1 k2 j n xs ys) ⟨Y,Z,?_⟩;have M:(zh1 k1 s.heap j).objs.size=s.heap.objs.size+1:=cy ..;have B:(zh2 k1 k2 s.heap j n).objs.size=s.heap.objs.size+2:=(cy ..).trans (by rw[M]);have I:(zh3 k1 k2 s.heap j n).objs.size=s.heap.objs.size+3:=(cy ..).trans (by rw[B]);have q:(zh4 k1 k2 s.heap j n).objs.size=s.heap.objs.size+4:=(cy ..).trans (by rw[I]);have U:(zh5 k1 k2 s.heap j n).objs.size=s.heap.objs.size+5:=(cy ..).trans (by rw[q]);have J:(zh5 k1 k2 s.heap j n).get? (zh4 k1 k2 s.heap j n).objs.size=some {cls:=.type "zip",data:=.fields #[.none,.bool false,.bool false,.ref (zh2 k1 k2 s.heap j n).objs.size,.ref (zh3 k1 k2 s.heap j n).objs.size]}:=ay _ rfl;have O:(zh5 k1 k2 s.heap j n).get? (zh3 k1 k2 s.heap j n).objs.size=some {cls:=.type "tuple",data:=.seq #[.none,.none]}:=ac _ (ay _ rfl);have b3:(zh5 k1 k2 s.heap j n).get? (zh2 k1 k2 s.heap j n).objs.size=some {cls:=.type "tuple",data:=.seq #[.ref s.heap.objs.size,.ref (zh1 k1 s.heap j).objs.size]}:=ac _ (ac _ (ay _ rfl));have b2:(zh5 k1 k2 s.heap j n).get? (zh1 k1 s.heap j).objs.size=some {cls:=.type k2.ty,data:=.fields #[.ref n,.int 0 0]}:=ac _ (ac _ (ac _ (ay _ rfl)));have b1:(zh5 k1 k2 s.heap j n).get? s.heap.objs.size=some {cls:=.type k1.ty,data:=.fields #[.ref j,.int 0 0]}:=ac _ (ac _ (ac _ (ac _ (ay _ rfl))));rw[B,I,q]at J;rw[I]at O;rw[M,B]at b3;rw[M]at b2;show _/\_;rw[q];exact⟨⟨_,J,rfl⟩,h _ J b3 O (SK.at_of b1) (SK.at_of b2) U λc o x=>ac _ (ac _ (ac _ (ac _ (ac _ x))))⟩
end
def SK.sq(k:SK)(K:W.Frag)(H:Hp)(a:Addr)(xs:sC):Prop:=match k with
 |.L=>Fc K H a xs
 |.T=>GN K H a xs
section
variable {X:Cx}{D3:qS}{FV:St}{H:Hp}{s:Shared}
def Inv.sk(I:Inv X D3 FV H s){k:SK}{a:Addr}{xs:sC}(h:k.sq X.K H a xs):∃j:List Value,Vals xs j/\k.is s.heap a j.toArray:=by
 cases k with
 |L=>obtain⟨j,r,p,_⟩:=I.list h;exact⟨j,r,p.isList⟩
 |T=>obtain⟨j,r,p,_⟩:=I.tuple h;exact⟨j,r,p⟩
def Inv.OZ(I:Inv X D3 FV H s){k:SK}{a:Addr}{xs ys:sC}(h:k.sq X.K H a xs)(h':k.sq X.K H a ys):xs=ys:=by
 cases k with
 |L=>exact I.NS h h'
 |T=>exact I.MH h h'
end
def Itk(K:W.Frag)(k1 k2:SK)(a b:Addr):It:=
  ⟨λi H=>∃xs x ys y,k1.sq K H a xs/\xs[i]?=some x/\k2.sq K H b ys/\ys[i]?=some y,
   λi H v H'=>∃t x y,H t=none/\v=.ref t/\H'=upd H t (.tup [x,y])/\(∀xs,k1.sq K H a xs->xs[i]?=some x)/\∀ys,k2.sq K H b ys->ys[i]?=some y,
   λi H=>∃xs ys,k1.sq K H a xs/\k2.sq K H b ys/\(xs.length=i\/(i<xs.length/\ys.length=i))⟩
def ZAt(k1 k2:SK)(z TI TO i1 i2 l1 l2:Addr)(i:Nat)(h:Heap):Prop:=IsZip h z TI TO .none/\IsPair h TI (.ref i1) (.ref i2)/\(∃a b,IsPair h TO a b)/\k1.at h i1 l1 i/\k2.at h i2 l2 i
def Qn{z TI TO i1 i2 j n:Addr}(D:ZipApart z TI TO i1 i2 j n):ZA z TI TO i1 i2 [i1,j] [i2,n] where
 TIz:=D.TIz
 TOz:=D.TOz
 TIO:=D.TITO
 m1:=by simp
 m2:=by simp
 z1:=by simp[D.i1z.symm,D.l1z.symm]
 z2:=by simp[D.i2z.symm,D.l2z.symm]
 o1:=by simp[D.TOi1,D.l1TO.symm]
 o2:=by simp[D.TOi2,D.l2TO.symm]
 x12:=by simp[D.i12,D.l2i1.symm]
 x21:=by simp[D.i12.symm,D.l1i2.symm]
def An{P:Program}{w:World}{K:W.Frag}{es:rh}{x1:Nat}{tpos:Pos}{k1 k2:SK}{z TI TO i1 i2 l1 l2:Addr}(D:ZipApart z TI TO i1 i2 l1 l2):Turn P w K (.Tuple es x1 tpos) (Itk K k1 k2 l1 l2) [z,TI,TO,i1,i2] z (ZAt k1 k2 z TI TO i1 i2 l1 l2) where
 mem:=by simp
 obj:=λi h st b j=>by
  obtain⟨hz,B,⟨a,c,U⟩,O,Y⟩:=st;simp only[bi,bt,eI]at j;rcases j with rfl|rfl|rfl|rfl|rfl
  ·exact⟨_,hz,λv y=>by have n:Data.fields _=Data.cell v:=y;cases n⟩
  ·exact⟨_,B,λv y=>by have n:Data.seq _ _=Data.cell v:=y;cases n⟩
  ·exact⟨_,U,λv y=>by have n:Data.seq _ _=Data.cell v:=y;cases n⟩
  ·exact(SK.HL O)
  ·exact(SK.HL Y)
 keep:=λi h h' st k=>by
  obtain⟨hz,B,⟨a,c,U⟩,O,Y⟩:=st;exact⟨k z (by simp) _ hz,k TI (by simp) _ B,⟨a,c,k TO (by simp) _ U⟩,SK.IH O λo q=>k i1 (by simp) o q,SK.IH Y λo q=>k i2 (by simp) o q⟩
 item:=by
  intro X hP hw hK hc i D3 s FV H E I hf st hg;subst hP hw hK;obtain⟨xs,x,ys,y,M,hx,J,hy⟩:=hg;obtain⟨hz,B,⟨a,b,U⟩,O,Y⟩:=st;obtain⟨NY,Z,p1⟩:=I.sk M;obtain⟨Iq,rv2,p2⟩:=I.sk J;obtain⟨u,hu,ru⟩:=Z.get hx;obtain⟨v,hv,rv⟩:=rv2.get hy;have hh:=I.ok.hd hc;have hT:s.TypeIs (.ref z) "zip" := ⟨_,hz,rfl⟩;have hi1:i<NY.toArray.size:=by
   rcases l8 i NY.length with q|q
   ·simpa using q
   ·rw[eJ q]at hu;cases hu
  have hi2:i<Iq.toArray.size:=by
   rcases l8 i Iq.length with q|q
   ·simpa using q
   ·rw[eJ q]at hv;cases hv
  unfold pyNext;refine ab (kl (c9 (name:=Str.ofString "__next__") hT lS (dy lS hT F.entry_zip_next
   (KQ (Qn D) (SK.draws (prog:=X.prog) (w:=X.w) (A:=X.A.in1) k1 hh i1 l1 D.l1i1 NY.toArray) (SK.draws (prog:=X.prog) (w:=X.w) (A:=X.A.in1) k2 hh i2 l2 D.l2i2 Iq.toArray) hz B U ⟨O,p1⟩ ⟨Y,p2⟩ hi1 hi2 λh' tk x' n ex ey z1 t1 j1 j2 tp hsz hk=>ai ⟨_,rfl,?_⟩) (F.args_zip_next_1 _))))
  have eu:x'=u:=bp (by rw[←ex,←hu];simp);have ev:n=v:=bp (by rw[←ey,←hv];simp);subst eu ev;refine wpAny_letOwnedTupleGo_zip (s:={s with heap:=h',toks:=tk}) z1 λh2 z2 sb=>?_;have lz:z<s.heap.objs.size:=aE hz;have g2:h2.get? s.heap.objs.size=some {cls:=.type "tuple",data:=.seq #[x',n]}:=(sb.2 _ (d5 lz)).trans tp;have kp:∀c o,c∉[z,TO,i1,i2]->s.heap.get? c=some o->h2.get? c=some o:=λc o j q=>by
   simp only[bi,bt,eI,not_or]at j;exact(sb.2 c j.1).trans (hk c o j.1 j.2.1 j.2.2.1 j.2.2.2 q)
  have gTO:IsPair h2 TO x' n:=(sb.2 _ D.TOz).trans t1;have g1:k1.at h2 i1 l1 (i+1):=SK.IH j1.1 λo e=>(sb.2 i1 D.i1z).trans e;have g2':k2.at h2 i2 l2 (i+1):=SK.IH j2.1 λo e=>(sb.2 i2 D.i2z).trans e;have So:∀c o,s.heap.get? c=some o->∃o',h2.get? c=some o':=λc o q=>by
   by_cases n1:c=z
   ·subst n1;exact⟨_,z2⟩
   ·by_cases n2:c=TO
    ·subst n2;exact⟨_,gTO⟩
    ·by_cases n3:c=i1
     ·subst n3;obtain⟨o',e',_⟩:=(SK.HL g1);exact⟨o',e'⟩
     ·by_cases n4:c=i2
      ·subst n4;obtain⟨o',e',_⟩:=(SK.HL g2');exact⟨o',e'⟩
      ·exact⟨o,kp c o (by simp[n1,n2,n3,n4]) q⟩
  have I2:Inv X D3 FV (upd H s.heap.objs.size (.tup [x,y])) {s with heap:=h2,toks:=tk}:=
   I.PF (ch:=[z,TO,i1,i2]) kp So (λb j=>hf b (by simp only[bi,bt,eI]at j ⊢;rcases j with e|e|e|e<;>simp[e])) (aI _)
    ⟨by show 2<=sizeLine;decide,[x',n],.cons ru (.cons rv .nil),⟨_,g2,rfl,_,rfl,rfl⟩⟩
  refine⟨.ref s.heap.objs.size,_,I2,rfl,⟨s.heap.objs.size,x,y,I.fresh,rfl,rfl,λzs hy=>by rw[I.OZ hy M];exact hx,λzs hy'=>by rw[I.OZ hy' J];exact hy⟩,⟨z2,?_,⟨x',n,gTO⟩,g1,g2'⟩,λb j=>?_⟩
  ·exact kp TI _ (by simp[D.TIz,D.TITO,D.TIi1,D.TIi2]) B
  ·have hb0:=(hf b j).1
   rw[aG ?_]
   ·exact hb0
   ·have F4:b<s.heap.objs.size:=by
     simp only[bi,bt,eI]at j;rcases j with rfl|rfl|rfl|rfl|rfl
     ·exact lz
     ·exact aE B
     ·exact aE U
     ·obtain⟨o,e1,_⟩:=(SK.HL O);exact aE e1
     ·obtain⟨o,e1,_⟩:=(SK.HL Y);exact aE e1
    exact bE F4
 done:=by
  intro X hP hw hK hc i D3 s FV H E I hf st hg;subst hP hw hK;obtain⟨xs,ys,M,J,hl⟩:=hg;obtain⟨hz,B,⟨a,b,U⟩,O,Y⟩:=st;obtain⟨NY,Z,p1⟩:=I.sk M;obtain⟨Iq,rv2,p2⟩:=I.sk J;have l1':=Z.length;have l2':=rv2.length;have hh:=I.ok.hd hc;have hT:s.TypeIs (.ref z) "zip" := ⟨_,hz,rfl⟩;have hk:i=NY.toArray.size\/(i<NY.toArray.size/\i=Iq.toArray.size):=by
   rw[bb,bb];omega
  unfold pyNext;refine ab (kl (c9 (name:=Str.ofString "__next__") hT lS (dy lS hT F.entry_zip_next
   (Nz (Qn D) (SK.draws (prog:=X.prog) (w:=X.w) (A:=X.A.in1) k1 hh i1 l1 D.l1i1 NY.toArray) (SK.draws (prog:=X.prog) (w:=X.w) (A:=X.A.in1) k2 hh i2 l2 D.l2i2 Iq.toArray) hz B U ⟨O,p1⟩ ⟨Y,p2⟩ hk λh' tk e kp he=>?_) (F.args_zip_next_1 _))))
  obtain⟨o,ho,Se⟩:=he;refine ab (jp (T := "StopIteration") (b:=true) ⟨o,ho,Se⟩ p5 (ai ⟨rfl,?_⟩));refine I.YS (ch:=[z,TO,i1,i2]) (λc o j q=>?_) (λb j=>hf b (by simp only[bi,bt,eI]at j ⊢;rcases j with e|e|e|e<;>simp[e]));simp only[bi,bt,eI,not_or]at j;exact kp c o j.1 j.2.1 j.2.2.1 j.2.2.2 q
 self:=λA i s Q E st h=>wpAny_pyIter_zip st.1 h
section
variable {X:Cx}
def BJ(K:W.Frag)(k1 k2:SK)(ta:TA):TI:=fun FV H R=>ta FV H λvs H1=>∃a b,vs=[.ref a,.ref b]/\(∃xs,k1.sq K H1 a xs)/\(∃ys,k2.sq K H1 b ys)/\R (Itk K k1 k2 a b) H1
def G4{k1 k2:SK}{l r:Expr}{ta:TA}{es:rh}{x1:Nat}{tpos p pos:Pos}(hg:Gl X "zip")(hm:X.mg "zip" = none)(ha:PA X [l,r] ta)(hs:autoParam (starEach [l,r] X.env=(false,eval l X.env)::starEach [r] X.env) r0_)(hp:autoParam ((backTo pos (starEach [r] X.env)).any (·.1)=false) r0_):
  PI X (.Tuple es x1 tpos) (.Call (.Name "zip" p) [l,r] [] pos) (BJ X.K k1 k2 ta):=by
 intro D3 s FV H R I h;refine Call_ (gG I hg hm PyProof.Rows.boot_zip (ci (EO (ha pos D3 s FV H _ I h) ?_) hs hp));rintro us j ⟨vs,H1,n,r1,q1⟩;obtain⟨a,b,e,⟨xs,F⟩,⟨ys,J⟩,q⟩:=q1;subst e;obtain⟨u,v,rfl,Z,Y⟩:=vals2 r1;cases Z;cases Y;obtain⟨NY,rv1,p1⟩:=n.sk F;obtain⟨Iq,rv2,p2⟩:=n.sk J;refine KR p1 p2 λh' hz OY PR M B hsz hk=>?_;have I2:Inv X D3 FV H1 {j with heap:=h'}:=n.kept (t':=j.toks) hk;have D:=zipApart_new (SK.is_lt p1) (SK.is_lt p2);have st:ZAt k1 k2 (j.heap.objs.size+4) (j.heap.objs.size+2) (j.heap.objs.size+3) j.heap.objs.size (j.heap.objs.size+1) a b 0 h':=⟨hz,OY,⟨_,_,PR⟩,M,B⟩;refine(An (P:=X.prog) (w:=X.w) (K:=X.K) (es:=es) (x1:=x1) (tpos:=tpos) D).self X.A 0 {j with heap:=h'} _ _ st ?_;refine⟨j.heap.objs.size+4,_,_,_,H1,rfl,I2,An D,st,λc U=>?_,q⟩;have O:j.heap.objs.size<=c:=by
  simp only[bi,bt,eI]at U;rcases U with e|e|e|e|e<;>rw[e]<;>omega
 exact n.OO O (n.EJ.fresh O)
end
end Lake.L2
namespace Lake.MR
open PySem L2
@[simp] noncomputable def Ja:PV->Option (List PV)
 |.lst xs=>some xs
 |.frz xs=>some xs
 |.tup xs=>some xs
 |.ktp xs=>some xs
 |_=>none
def kd:PV->SK
 |.tup _=>.T
 |.ktp _=>.T
 |_=>.L
section
variable {X:Cx}{b:BX}{G G' L:qV}{ro:Bool}{pos p:Pos}{m m1 m2:Md}{e e1 e2:Expr}
def NB{Ow:se}{FV:St}{env:Env}{H H2:Hp}{fr:Bool}{v:V}{p:PV}{xs:sA}(E:ER b Ow G FV env H)(r:Res b Ow H H2 m v p)(U:fr=true->m≠.bor)(J:Ja p=some xs):
  ∃a vs,v=.ref a/\SK.sq (kd p) b.C.K H2 a vs/\D7 b.C (Bs b Ow) H2 vs xs/\∀I q,(fr=false->D8 H2 q)->Ex (Bs b Ow) H2 (Bs b I) q->SK.sq (kd p) b.C.K q a vs/\D7 b.C (Bs b I) q vs xs:=by
 have b1:EB b.C (Bs b Ow) H2 v p:=r.bor;unfold Ja at J;split at J
 ·cases J
  obtain⟨a,vs,rfl,F,O⟩:=b1.lst;refine⟨a,vs,rfl,Fc.of F,O,λI q M j=>?_⟩;have hq:q a=some (.lst vs):=by
   cases fr with
   |false=>exact M rfl _ _ F
   |true=>
    have Z:Rep b.C (Bs b Ow) H2 (.ref a) (.lst _):=r.val E (U rfl);cases Z with
    |lst n q2 B=>rw[F]at n;cases n;exact((j _ _ F).1 q2).1
  exact⟨Fc.of hq,O.ex j⟩
 ·cases J
  have Y:Rep b.C (Bs b Ow) H2 v (.frz _):=(by rcases b1 with z|⟨_,_,z⟩;exact z;exact z.elim);cases Y with
  |QN n B=>exact⟨_,_,rfl,.inl (.inr ⟨_,n⟩),B,λI q M j=>⟨.inl (.inr ⟨_,(j _ _ n).2 rfl⟩),B.ex j⟩⟩
  |lstK n B=>exact⟨_,_,rfl,sqK n,B,λI q M j=>⟨sqK n,B.ex j⟩⟩
 ·cases J
  obtain⟨a,vs,rfl,F,O⟩:=b1.tup;exact⟨a,vs,rfl,F.sq,O,λI q M j=>⟨(F.ex j).sq,O.ex j⟩⟩
 ·cases J
  have Y:Rep b.C (Bs b Ow) H2 v (.ktp _):=(by rcases b1 with z|⟨_,_,z⟩;exact z;exact z.elim);cases Y with
  |tupK n B=>exact⟨_,_,rfl,qb n,B,λI q M j=>⟨qb n,B.ex j⟩⟩
 ·cases J
def PI.all{j:Type}{tg iter:Expr}{wi:j->TI}(h:∀a,PI X tg iter (wi a)):PI X tg iter (fun FV H R=>∃a,wi a FV H R):=λD3 s FV H R I ⟨a,q⟩=>h a D3 s FV H R I q
end
end Lake.MR
namespace Lake.L2
open PySem PySem.Spec PyProof.Rows
noncomputable def en1(k:SK)(h:Heap)(l:Addr):Heap:=h.push {cls:=.type k.ty,data:=.fields #[.ref l,.int 0 0]}
noncomputable def en2(k:SK)(h:Heap)(l:Addr):Heap:=(en1 k h l).push {cls:=.type "enumerate",data:=.fields #[.none,.bool false,.ref h.objs.size,rawInt 0,.none,.none]}
set_option tactic.hygienic true in def Rj(k:SK)(l:Addr)(xs:rV):Meets (Builtin.«enumerate.__new__» ⟨[.type "enumerate",.ref l],[]⟩) (λ_ R s=>k.is s.heap l xs/\R (.ok (.ret (.ref (en1 k s.heap l).objs.size))) {s with heap:=en2 k s.heap l}):=
 .of_wp λprog w A R s h=>by
  obtain⟨B,g,d,n,q⟩:=s;obtain⟨F,h⟩:=h;have j:=sub_enumerate;cases k with
  |L=>
   have e1:Heap.IsList (Shared.heap ⟨B,g,d,n,q⟩) l xs:=F;wp_walk using fI e1;refine wpAny_stack_any λst=>ai ?_;split
   ·rename_i c _ _ _ _ _
    cases(c == Value.type "enumerate")<;>(wp_walk using fI e1;exact⟨_,rfl,h⟩)
   ·wp_walk using fI e1
    exact⟨_,rfl,h⟩
  |T=>
   have e1:Heap.IsTuple (Shared.heap ⟨B,g,d,n,q⟩) l xs:=F;wp_walk using e9 e1;refine wpAny_stack_any λst=>ai ?_;split
   ·rename_i c _ _ _ _ _
    cases(c == Value.type "enumerate")<;>(wp_walk using e9 e1;exact⟨_,rfl,h⟩)
   ·wp_walk using e9 e1
    exact⟨_,rfl,h⟩
def Jb{prog:Program}{w:World}{A:Around}{E:oT}{s:Shared}{k:SK}{l:Addr}{xs:rV}{Q:oT}(n:k.is s.heap l xs)
  (h:∀h',IsEnum h' (s.heap.objs.size+1) s.heap.objs.size 0 .none->k.at h' s.heap.objs.size l 0->(∀b o,s.heap.get? b=some o->h'.get? b=some o)->Q (.ref (s.heap.objs.size+1)) {s with heap:=h'}):
  wpAny (model prog w) A (call (.type "enumerate") [.ref l]) Q E s:=by
 refine callType_new F.called_enumerate (by decide) (F.typeCall_enumerate_1 _) (F.newCall_enumerate_1 _) (λobj=>F.args_object_init_2 obj _) F.entry_enumerate_new (Rj k l xs) ⟨n,?_⟩;have hz:(en1 k s.heap l).objs.size=s.heap.objs.size+1:=cy ..;show _/\_;rw[hz];have j:IsEnum (en2 k s.heap l) (s.heap.objs.size+1) s.heap.objs.size 0 .none:=by
  have z:=ay (en1 k s.heap l) (o:={cls:=.type "enumerate",data:=.fields #[.none,.bool false,.ref s.heap.objs.size,rawInt 0,.none,.none]}) rfl;rw[hz]at z;exact z
 exact⟨⟨_,j,rfl⟩,h _ j (SK.at_of (ac _ (ay _ rfl))) λb o x=>ac _ (ac _ x)⟩
def Uv(K:W.Frag)(k:SK)(a:Addr):It:=
 ⟨λi H=>∃xs x,k.sq K H a xs/\xs[i]?=some x,λi H v H'=>∃t x,H t=none/\v=.ref t/\H'=upd H t (.tup [.int (i:Nat),x])/\∀xs,k.sq K H a xs->xs[i]?=some x,λi H=>∃xs,k.sq K H a xs/\xs.length=i⟩
def EAt(k:SK)(e it a:Addr)(i:Nat)(h:Heap):Prop:=(∃old,IsEnum h e it (i:Nat) old)/\k.at h it a i
def Jc{P:Program}{w:World}{K:W.Frag}{es:rh}{x1:Nat}{tpos:Pos}(k:SK)(a e it:Addr)(He:e≠it)(hae:a≠e)(O:a≠it):Turn P w K (.Tuple es x1 tpos) (Uv K k a) [it,e] e (EAt k e it a) where
 mem:=by simp
 obj:=λi h st b j=>by
  obtain⟨⟨n,J⟩,B⟩:=st;simp only[bi,bt,eI]at j;rcases j with rfl|rfl
  ·exact SK.HL B
  ·exact⟨_,J,λv y=>by have y':Data.fields _=Data.cell v:=y;cases y'⟩
 keep:=λi h h' st kk=>by
  obtain⟨⟨n,J⟩,B⟩:=st;exact⟨⟨n,kk e (by simp) _ J⟩,SK.IH B λo q=>kk it (by simp) o q⟩
 item:=by
  intro X hP hw hK hc i D3 s FV H E I hf st hg;subst hP hw hK;obtain⟨xs,x,hq,hx⟩:=hg;obtain⟨⟨n,J⟩,B⟩:=st;obtain⟨M,rv,p1⟩:=I.sk hq;obtain⟨u,hu,ru⟩:=rv.get hx;have hh:=I.ok.hd hc;have hi1:i<M.toArray.size:=by
   rcases l8 i M.length with q|q
   ·simpa using q
   ·rw[eJ q]at hu;cases hu
  refine wpAny_pyNext_enum_itemD (SK.draws (prog:=X.prog) (w:=X.w) (A:=X.A.in1) k hh it a O M.toArray) J ⟨B,p1⟩ hi1 He (by simp[He,hae.symm]) λZ h' tk ex Za j1 Y hsz hk=>⟨_,rfl,?_⟩;have eu:Z=u:=bp (by rw[←ex,←hu];simp);subst eu;refine wpAny_letOwnedTupleGo_enum (s:={s with heap:=h',toks:=tk+1}) Za λh2 Sm IQ=>?_;have U:e<s.heap.objs.size:=aE J;have g2:h2.get? s.heap.objs.size=some {cls:=.type "tuple",data:=.seq #[.int i tk,Z]}:=(IQ.2 _ (d5 U)).trans Y;have k2:∀b o,b∉[it,e]->s.heap.get? b=some o->h2.get? b=some o:=λb o j q=>by
   simp only[bi,bt,eI,not_or]at j;exact(IQ.2 b j.2).trans (hk b o j.2 j.1 q)
  have g1:k.at h2 it a (i+1):=SK.IH j1.1 λo q=>(IQ.2 it (gc He)).trans q;have So:∀b o,s.heap.get? b=some o->∃o',h2.get? b=some o':=λb o q=>by
   by_cases n1:b=it
   ·subst n1;obtain⟨o',e',_⟩:=SK.HL g1;exact⟨o',e'⟩
   ·by_cases n2:b=e
    ·subst n2;exact⟨_,Sm⟩
    ·exact⟨o,k2 b o (by simp[n1,n2]) q⟩
  have I2:Inv X D3 FV (upd H s.heap.objs.size (.tup [.int (i:Nat),x])) {s with heap:=h2,toks:=tk+1}:=
   I.PF (ch:=[it,e]) k2 So hf (aI _) ⟨by show 2<=sizeLine;decide,[.int i tk,Z],.cons ⟨_,rfl⟩ (.cons ru .nil),⟨_,g2,rfl,_,rfl,rfl⟩⟩
  refine⟨.ref s.heap.objs.size,_,I2,rfl,⟨s.heap.objs.size,x,I.fresh,rfl,rfl,λys hy=>by rw[I.OZ hy hq];exact hx⟩,⟨⟨Z,Sm⟩,g1⟩,λb j=>?_⟩;have hb0:=(hf b j).1;rw[aG ?_]
  ·exact hb0
  ·simp only[bi,bt,eI]at j
   rcases j with rfl|rfl
   ·obtain⟨o,e1,_⟩:=SK.HL B;exact bE (aE e1)
   ·exact bE U
 done:=by
  intro X hP hw hK hc i D3 s FV H E I hf st hg;subst hP hw hK;obtain⟨xs,hq,hx⟩:=hg;obtain⟨⟨n,J⟩,B⟩:=st;obtain⟨M,rv,p1⟩:=I.sk hq;obtain⟨f0,f1,f2,f3,f4,f5⟩:=hf it (by simp);have hl:=rv.length;have hi:i=M.toArray.size:=by rw[bb];omega
  rw[hi]at B;exact wpAny_pyNext_enum_endD (SK.draws (prog:=X.prog) (w:=X.w) (A:=X.A.in1) k (I.ok.hd hc) it a O M.toArray) J ⟨B,p1⟩ λh' eb=>⟨rfl,I.turned (t':=s.toks) (λb o j q=>eb b o j q) f0 f1 f3 f4 f5⟩
 self:=λA i s Q E st h=>by
  obtain⟨⟨n,J⟩,B⟩:=st;have hT:s.TypeIs (.ref e) "enumerate" := ⟨_,J,rfl⟩;refine wpAny_pyIter_slot hT F.slot_enumerate_iter (dy F.slot_enumerate_iter hT F.entry_enumerate_iter ?_ (F.args_enumerate_iter_1 _));show wpAny _ _ (ret (.ref e)) _ _ s;exact ai ⟨_,rfl, "enumerate",_,hT,F.slot_enumerate_next.lookup,h⟩
section
variable {X:Cx}
def Uw(K:W.Frag)(k:SK)(ta:TA):TI:=fun FV H R=>ta FV H λvs H1=>∃a,vs=[.ref a]/\(∃xs,k.sq K H1 a xs)/\R (Uv K k a) H1
def NK{k:SK}{l:Expr}{ta:TA}{es:rh}{x1:Nat}{tpos p pos:Pos}(hg:Gl X "enumerate")(Z:X.mg "enumerate" = none)(ha:PA X [l] ta)(U:autoParam (starEach [l] X.env=[(false,eval l X.env)]) r0_):
  PI X (.Tuple es x1 tpos) (.Call (.Name "enumerate" p) [l] [] pos) (Uw X.K k ta):=by
 intro D3 s FV H R I h;refine Call_ (gG I hg Z PyProof.Rows.boot_enumerate (ci (EO (ha pos D3 s FV H _ I h) ?_) U rfl));rintro us j ⟨vs,H1,n,Y,q1⟩;obtain⟨a,e,⟨xs,hq⟩,q⟩:=q1;subst e;obtain⟨u,rfl,O⟩:=vals1 Y;cases O;obtain⟨EA,rv,p1⟩:=n.sk hq;refine Jb p1 λh' he B hk=>?_;have I2:Inv X D3 FV H1 {j with heap:=h'}:=n.kept (t':=j.toks) hk;have F:=SK.is_lt p1;have st:EAt k (j.heap.objs.size+1) j.heap.objs.size a 0 h':=⟨⟨.none,he⟩,B⟩;have T:=Jc (P:=X.prog) (w:=X.w) (K:=X.K) (es:=es) (x1:=x1) (tpos:=tpos) k a (j.heap.objs.size+1) j.heap.objs.size (Nat.succ_ne_self _) (bE (Nat.lt_succ_of_lt F)) (bE F);refine T.self X.A 0 {j with heap:=h'} _ _ st ?_;refine⟨j.heap.objs.size+1,[j.heap.objs.size,j.heap.objs.size+1],_,_,H1,rfl,I2,T,st,λb J=>?_,q⟩;have M:j.heap.objs.size<=b:=by
  simp only[bi,bt,eI]at J;rcases J with z|z
  ·rw[z];exact aI _
  ·rw[z];exact hJ _
 exact n.OO M (n.EJ.fresh M)
end
end Lake.L2
namespace Lake.MR
open PySem L2
noncomputable def iE2(f:si)(env:Env):Option (List PV):=(f env).bind λp=>(Ja p).bind λxs=>some (iY 0 xs)
@[simp] def Yd(f:si)(env:Env):iE2 f env=((f env).bind λp=>(Ja p).bind λxs=>some (iY 0 xs)):=id rfl
section
variable {X:Cx}{b:BX}{G G' L:qV}{ro:Bool}{pos p:Pos}{m m1 m2:Md}{e e1 e2:Expr}
def Dn{fr:Bool}{h:si}{es:rh}{x1:Nat}{tpos:Pos}(hm:X.mg "enumerate" = none)(he:SE X b G m e h)(B:autoParam (fr=true->m≠.bor) r10_)(hK:autoParam (X.K=b.C.K) r0_)(hg:Gl X "enumerate" := by rfl)(hs:autoParam (starEach [e] X.env=[(false,eval e X.env)]) r0_)(L4:autoParam (HK X e []) r0_):
  SI X b G fr (.Tuple es x1 tpos) (.Call (.Name "enumerate" p) [e] [] pos) (iE2 h):=by
 refine PI.imp (PI.all λk:SK=>NK (k:=k) hg hm (aD he aV L4) hs) ?_;rintro FV H R ⟨Ow,env,ps,E,M,k⟩;rw[hK];obtain⟨p1,Sn,O⟩:=aJ M;clear M;obtain⟨xs,F,z4⟩:=aJ O;clear O;cases z4;refine⟨kd p1,Ow,env,p1,E,Sn,λv H1 s r=>?_⟩;obtain⟨a,vs,rfl,qa,ra,ka⟩:=NB (fr:=fr) E r B F;refine⟨a,rfl,⟨vs,qa⟩,k _ _ s λZ H3 h0 hx hn=>?_⟩;obtain⟨j,U⟩:=ka Z H3 h0 hx;refine⟨λi p q=>?_,⟨vs,j,by rw[uR,U.length]⟩⟩;obtain⟨x,Zv,rfl⟩:=Al q;obtain⟨v,I,Y⟩:=U.get Zv;refine⟨⟨vs,v,j,I⟩,λy H' n=>?_⟩;obtain⟨t,x',J,e1,e2,n⟩:=n;subst e1 e2;have e3:=n vs j;rw[I]at e3;cases e3;refine⟨aM J _,.tup aB (.cons ?_ (.cons (Y.ex (.of_same (aM J _))) .nil))⟩;rw[qv];exact .int _
end
inductive Inn(C:MC)(A:se)(H:Hp):List Addr->List (List PV)->Prop
 |nil:Inn C A H [] []
 |cons {c:Addr}{cs:rS}{us:sC}{ys:sA}{yss:List (List PV)}:H c=some (.lst us)->D7 C A H us ys->Inn C A H cs yss->Inn C A H (c::cs) (ys::yss)
def bn(b:BX)(i:Nat)(a:Addr)(cs:rS)(H:Hp):BX:=⟨b.C,λx=>b.A x/\x∉a::cs,λx=>if x∈a::cs then H x else b.H0 x,λj=>if j=i then some (.ref a)else b.fx j⟩
noncomputable def hid(i:Nat)(f:Env->Option Out)(env:Env):Option Out:=(f (env.set i none)).bind λo=>match o with
 |.nx e=>some (.nx (e.set i (env.getD i none)))
 |_=>none
section
variable {X:Cx}{b:BX}{G G' L:qV}{ro:Bool}{i:Nat}{st:Stmt}{rest:rg}{f g:Env->Option Out}{e e1 e2:Expr}{h h1 h2:si}{m m1 m2:Md}{pos:Pos}
def KY{n:Nat}{k:Int}{j:Nat}(h:L9 n k=some j):j<n:=by
 unfold L9 at h;split at h
 ·split at h
  ·cases h;omega
  ·cases h
 ·split at h
  ·cases h;omega
  ·cases h
end
end Lake.MR
namespace Lake.L2
open PySem PySem.Spec PyProof.Rows
section
variable {X:Cx}
noncomputable def Do(a n:Nat):List V:=(List.range' a n).map λi=>.int (i:Nat)
def Ux(ta:TA):TE:=fun FV H Q=>ta FV H λvs H1=>∃a n:Nat,vs=[.int (a:Nat),.int ((a+n:Nat):Int)]/\a+n<=1000000/\∀l,H1 l=none->Q (.ref l) (upd H1 l (.lst (Do a n)))
def NP{a c:Expr}{ta:TA}{p p2 pos FF:Pos}(hg:Gl X "list")(hm:X.mg "list" = none)(T1:Gl X "range")(T2:X.mg "range" = none)(hc:X.calm=true)(ha:PA X [a,c] ta)(Z:autoParam (starEach [a,c] X.env=[(false,eval a X.env),(false,eval c X.env)]) r0_)(B:autoParam (starEach [c] X.env=[(false,eval c X.env)]) r0_)
  (U:autoParam (starEach [.Call (.Name "range" p2) [a,c] [] FF] X.env=(false,eval (.Call (.Name "range" p2) [a,c] [] FF) X.env)::starEach [] X.env) r0_) (FO:autoParam (Lo X pos []) r0_):
  PE X (.Call (.Name "list" p) [.Call (.Name "range" p2) [a,c] [] FF] [] pos) (Ux ta):=by
 intro D3 s FV H Q I h;refine fA (gG I hg hm ij ?_ (by decide) (by decide));refine ci ?_ U FO;rw[U];show wpAny _ _ (spliced ((false,eval (.Call (.Name "range" p2) [a,c] [] FF) X.env)::backTo pos (starEach [] X.env))) _ _ s;refine gI ?_;refine Call_ (gG I T1 T2 oz (ci (EO (ha FF D3 s FV H _ I h) λus O ⟨vs,H1,J,r1,q1⟩=>?_) (by rw[Z,B]) (by rw[B];rfl)));obtain⟨i,n,e,hn,q⟩:=q1;subst e;cases r1 with
 |cons r M=>
  cases M with
  |cons r' M=>
   cases M;obtain⟨t,rfl⟩:=r;obtain⟨t',rfl⟩:=r';refine call_range_2 (iL ?_);have h64:(2 ^ 62:Int)=4611686018427387904:=by decide
   refine call_list_range (n:=n) (J.ok.hd hc) (IsRange.new ..) (small_one (by omega) (by omega) (by omega) (by omega)) (by rw[qk];split<;>omega) (by omega) λh' tk F c' kp e it=>?_;obtain⟨i1,i2⟩:=it;have Y:Vals (Do i n) F.toList:=wJ n i F.toList (by simpa using i1) λj v hj=>by
    obtain⟨t,e⟩:=i2 j v (by simpa using hj);exact⟨t,by rw[e];congr 1;omega⟩
   have I2:=J.laid (a:=O.heap.objs.size+1) (o:=.lst (Do i n)) (h':=h') (t':=tk) (λb o eb=>kp b o (ac _ eb)) (by omega)
    (show EG X.prog X.w X.K _ h' _ (.lst (Do i n))from⟨(by unfold Do;rw[ar,List.length_range'];exact gz (cT (by omega))),F.toList,c',Y,by
     have:=e;rw[cy]at this;simpa using this⟩)
   refine⟨.ref (O.heap.objs.size+1),_,I2,?_,q _ (J.EJ.fresh (by omega))⟩;show Value.ref _=Value.ref _;rw[cy]
end
end Lake.L2
namespace Lake.MR
open PySem L2
@[simp] noncomputable def Dp:PV->PV->Option PV
 |.int i,.int j=>if 0<=i/\i<=j/\j<=1000000 then some (.lst ((List.range' i.toNat (j - i).toNat).map λk=>.int (k:Nat)))else none
 |_,_=>none
section
variable {X:Cx}{b:BX}{G:qV}{pos p p2 FF:Pos}{m1 m2:Md}{e1 e2:Expr}{f1 f2:si}
set_option tactic.hygienic true in def NQ(hm:X.mg "list" = none)(T2:X.mg "range" = none)(h1:SE X b G m1 e1 f1)(h2:SE X b G m2 e2 f2)(hc:autoParam (X.calm=true) r0_)(hg:Gl X "list" := by rfl)(Y:Gl X "range" := by rfl)(U:autoParam (starEach [e1,e2] X.env=[(false,eval e1 X.env),(false,eval e2 X.env)]) r0_)(F:autoParam (starEach [e2] X.env=[(false,eval e2 X.env)]) r0_)
  (L4:autoParam (starEach [e1,e2] X.env=(false,eval e1 X.env)::starEach [e2] X.env) r0_) (B:autoParam (HK X e2 []) r0_)
  (IQ:autoParam (starEach [.Call (.Name "range" p2) [e1,e2] [] FF] X.env=(false,eval (.Call (.Name "range" p2) [e1,e2] [] FF) X.env)::starEach [] X.env) r0_) (FO:autoParam (Lo X pos []) r0_):
  SE X b G .own (.Call (.Name "list" p) [.Call (.Name "range" p2) [e1,e2] [] FF] [] pos) (b2 Dp f1 f2):=by
 refine PE.imp (NP hg hm Y T2 hc (aD h1.bor (aD h2.bor aV B) L4) U F IQ FO) ?_;rintro FV H Q ⟨Ow,env,q,E,n,k⟩;obtain⟨x,hx,J⟩:=aJ n;clear n;obtain⟨y,Z,n⟩:=aJ J;clear J;cases x<;>cases y<;>simp only[Dp]at n<;>first|cases n|skip
 rename_i i j;split at n
 ·rename_i hij
  cases n;refine⟨Ow,env,_,E,hx,λv H1 s r=>⟨Ow,env,_,E.up s,Z,λv2 H2 M r2=>?_⟩⟩;have MI:EB b.C (Bs b Ow) H1 v (.int i):=r;have O:EB b.C (Bs b Ow) H2 v2 (.int j):=r2;have e1:((i.toNat:Nat):Int)=i:=by omega
  have e2:((i.toNat+(j - i).toNat:Nat):Int)=j:=by omega
  refine⟨i.toNat,(j - i).toNat,by rw[MI.int,O.int,e1,e2],by omega,λl I=>k _ _ ((s.trans M).new I _) (Res.down (s.trans M) (f9 I ?_))⟩;exact mK _ _ (λi=>.int _) _
 ·cases n
end
@[simp] noncomputable def ym:PV->PV->PV->Option PV
 |.dK kvs,y,z=>(keyOf y).map λk=>(aZ kvs k).getD z
 |.dT kvs,.tup ys,z=>(EI ys).map λk=>(aZ kvs k).getD z
 |_,_,_=>none
section
variable {X:Cx}{b:BX}{G:qV}{apos EN:Pos}{m1 m2:Md}{e1 e2 e3:Expr}{f1 f2 f3:si}
set_option tactic.hygienic true in def zz{j:Nat}(hr:EU j X.A)(h1:SE X b G m1 e1 f1)(h2:SE X b G m2 e2 f2)(h3:SE X b G .val e3 f3)(m:M2 X e1 "get" apos e2 e3 EN:=by exact⟨rfl,rfl,rfl,rfl⟩)(hK:autoParam (X.K=b.C.K) r0_):SE X b G .val (.Call (.Attribute e1 "get" apos) [e2,e3] [] EN) (b3 ym f1 f2 f3):=by
 refine PE.imp (M7 (fP hr) h1.bor h2.bor h3 m) fun FV H Q h=>?_
 obtain⟨Ow,env,p,E,B,k⟩:=h;obtain⟨p1,q1,z1⟩:=aJ B;clear B;obtain⟨p2,q2,z2⟩:=aJ z1;clear z1;obtain⟨p3,q3,B⟩:=aJ z2;clear z2;refine⟨Ow,env,p1,E,q1,λv1 H1 I r1=>?_⟩;unfold ym at B;split at B
 ·rename_i kvs
  obtain⟨Y,hk,e⟩:=bv.mp B;obtain⟨a,U,rfl,J,Z⟩:=r1.dK;refine⟨a,rfl,.inl ⟨U,.inl J⟩,Ow,env,p2,E.up I,q2,λv2 H2 n r2=>⟨Ow,env,p3,(E.up I).up n,q3,λv3 H3 q r3=>?_⟩⟩;have M:EB b.C (Bs b Ow) H2 v2 p2:=r2;rw[M.key hk];have F:=q _ _ (n _ _ J);refine⟨_,FE.k F,k _ H3 ((I.trans n).trans q) ?_⟩;unfold aZ at e;rcases EZ.val (k:=Y) Z with⟨v,p',g1,g2,O⟩|⟨g1,g2⟩
  ·rw[g2]at e
   rw[g1,←e];exact O.ex (.of_same (n.trans q))
  ·rw[g2]at e
   rw[g1,←e];exact r3
 ·rename_i kvs ys
  obtain⟨Y,hk,e⟩:=bv.mp B;obtain⟨a,U,rfl,J,Z⟩:=r1.dT;refine⟨a,rfl,.inr ⟨U,.inl J⟩,Ow,env,_,E.up I,q2,λv2 H2 n r2=>⟨Ow,env,p3,(E.up I).up n,q3,λv3 H3 q r3=>?_⟩⟩;have M:EB b.C (Bs b Ow) H2 v2 (.tup ys):=r2;obtain⟨c,vs,rfl,hc,rc⟩:=M.tup;have F:=q _ _ (n _ _ J);refine⟨_,FE.t F (by rw[hK];exact(hc.up q).key ((rc.ex (.of_same q)).EI hk)),k _ H3 ((I.trans n).trans q) ?_⟩;unfold aZ at e;rcases EM.val (k:=Y) Z with⟨v,p',g1,g2,O⟩|⟨g1,g2⟩
  ·rw[g2]at e
   rw[g1,←e];exact O.ex (.of_same (n.trans q))
  ·rw[g2]at e
   rw[g1,←e];exact r3
 ·cases B
end
noncomputable def j0:PV->PV->Option Bool
 |x,.lst ys=>if jw x=true/\ys.all jw=true then some (ys.any λy=>YN y x)else none
 |x,.tup ys=>if jw x=true/\ys.all jw=true then some (ys.any λy=>YN y x)else none
 |_,_=>none
noncomputable def lD(x y:PV):Option PV:=(j0 x y).map λk=>.bl (!k)
@[simp] def KZ(x y:PV):lD x y=((j0 x y).map λk=>.bl (!k)):=id rfl
set_option tactic.hygienic true in def Ao{b:BX}:Mc b .val (rIn b.C.K true) lD:=by
 intro Ow H O M p1 p2 p Q J n I e k;unfold lD at e;obtain⟨c,q,rfl⟩:=bv.mp e;have j:=k (.bl (!c)) H (D8.refl _) (.bl _);unfold j0 at q;split at q
 ·split at q
  ·rename_i h
   cases q;obtain⟨a,vs,rfl,B,F⟩:=I.lst;obtain⟨h1,h2⟩:=D7.flat n h.1 F h.2;rw[←h2]at j;exact⟨a,vs,rfl,.inl (Fc.of B),n.flat h.1,h1,j⟩
  ·cases q
 ·split at q
  ·rename_i h
   cases q;obtain⟨a,vs,rfl,B,F⟩:=I.tup;obtain⟨h1,h2⟩:=D7.flat n h.1 F h.2;rw[←h2]at j;exact⟨a,vs,rfl,.inr B.sq,n.flat h.1,h1,j⟩
  ·cases q
 ·cases q
def oR{X:Cx}{b:BX}{G:qV}{m1 m2:Md}{e1 e2:Expr}{f1 f2:si}(h1:SE X b G m1 e1 f1)(h2:SE X b G m2 e2 f2)(j:autoParam (behindInMarks .NotIn e2=false) r0_)(n:autoParam (X.K=b.C.K) r0_):SC X b G .NotIn e1 e2 (b2 lD f1 f2):=
 nO (r:=rIn b.C.K true) (by rw[←n];exact CT) Ao h1 h2 j
end Lake.MR
namespace Lake.L2
open PySem PySem.Spec PyProof.Rows
set_option tactic.hygienic true in def tR{L:List (Addr×HO)}{a:Addr}{o:HO}(h:L.lookup a=some o):(a,o)∈L:=by
 induction L with
 |nil=>cases h
 |cons p L j=>
  rw[cp]at h;split at h
  ·rename_i e
   cases h;rw[iS]at e;subst e;exact av
  ·exact ap _ (j h)
section
variable {X:Cx}{tg:Expr}{D3:qS}{FV:St}{H:Hp}{s:Shared}{apos EN pos:Pos}{td ty tx tv:TE}{o e f:Expr}
def Jd(K:W.Frag)(tk tv:TE):TE:=fun FV H Q=>∀p,H p=none->tk FV (upd H p (.dT [])) λy H1=>tv FV H1 λz H2=>H2 p=some (.dT [])/\∃b ks,y=.ref b/\GI K H2 b ks/\Q (.ref p) (upd H2 p (.dT [(ks,z)]))
def G5(hu:X.A.units+9<cLine)(hk:PE X e ty)(U:PE X f tv):PE X (.Dict [some e] [f] pos) (Jd X.K ty tv):=by
 intro D3 s FV H Q I q;have hn:=I.EJ.fresh (aI s.heap.objs.size);have I1:=I.laid (a:=s.heap.objs.size) (o:=.dT []) (h':=s.heap.push {cls:=.type "dict",data:=.dict #[]}) (t':=s.toks) (λ_ _ q=>ac _ q) (aI _) (Cz s.heap I.big);refine wpAny_Dict_any rfl rfl (λz=>nomatch z) (show(1:Nat)<=15 by decide) ?_;refine pairTrees_cons_walk (EO (hk D3 _ FV _ _ I1 (q _ hn)) λu O ⟨y,H1,I2,Z,q1⟩=>EO (U D3 O FV H1 _ I2 q1) λw2 s2 ⟨z,H2,j,Y,e1,b,ks,e2,F,q2⟩=>pairTrees_nil_walk ?_);subst e2;cases(show u=Value.ref b from Z);obtain⟨_,hd,xs,B,dd⟩:=Cy j.GL j.EJ (.inl e1);cases B;unfold storeAll;rw[ly];refine ab (ab (wz (show X.A.units+3<cLine from by omega) (mH j.GL j.EJ F) dd (cq _) λh' n hs=>ai ?_));show wpAny _ _ (forIn [] _ _) _ _ _;rw[mB];refine ai ?_;obtain⟨o,es,M,h2,h3,h4,_,h5⟩:=n;have new:EG X.prog X.w X.K (upd H2 s.heap.objs.size (.dT [(ks,z)])) h' s.heap.objs.size (.dT [(ks,z)]):=⟨by show(1:Nat)<=sizeLine;decide,hd,_,((KT.put (H:=H2) (kvs:=[]) .nil ks F Y)).keeps λc ys J=>by rw[aG (cO J e1 (λz=>nomatch z))];exact J,o,es,_,M,h2,h3,h4,h5,rfl⟩;exact⟨.ref s.heap.objs.size,_,za (t':=s2.toks+(eZ X.prog X.w).draws ks) j (by rw[e1];exact gs) hs ⟨o,M⟩ new,rfl,q2⟩
end
variable {i:Nat}{Q:Option Value->Shared->Prop}
section
variable {prog:Program}{w:World}{κ:Type}[DecidableEq κ]{kd:HeapKind prog w κ}{A:Around}{E:oT}{s:Shared}{d a it vw:Addr}{xs:List (κ×Addr×Value)}{k:κ}{v ok ov:Value}
def Dq(kd:HeapKind prog w κ)(d:Addr)(j:(d == sysModules)=false):
  MeetsIn prog w (Builtin.«dict.items» ⟨[.ref d],[]⟩) (λ_ R s=>(∃xs,ET kd s.heap d xs) /\
   R (.ok (.ret (.ref s.heap.objs.size))) {s with heap:=s.heap.push {cls:=.type "dict_items",data:=.fields #[.ref d]}}):=
 .of_wp<|by
  rintro A R s ⟨⟨xs,m⟩,h⟩;unfold Builtin.«dict.items»;refine ab ?_;unfold Builtin.Dict.noArgs;refine ab (kU m.of.typeIs ?_);show wpAny _ _ (pure d) _ _ s;refine ai ?_;show wpAny _ _ (Builtin.Dict.showsAll d >>= _) _ _ s;unfold Builtin.Dict.showsAll;rw[br (by rw[j];decide)];exact ab (ai (ab (dL (ai ⟨_,rfl,h⟩))))
def Uy{Q:oT}(j:s.heap.IsItemsView vw d)(m:ET kd s.heap d xs)
  (q:∀h',h'=s.heap.push {cls:=.type "dict_itemiterator",data:=.fields #[.none,.bool false,.ref d,.int 0 0,.int xs.length 0,.int xs.length 0,.none,.none]}->Q (.ref s.heap.objs.size) {s with heap:=h'}):wpAny (model prog w) A (pyIter (.ref vw)) Q E s:=by
 obtain⟨u,I,O,M⟩:=id j;obtain⟨o,es,B,Y,n,J,U,Z⟩:=id m;have sz:=ip J;refine wpAny_pyIter_slot j.typeIs F.slot_dict_items_iter (dy F.slot_dict_items_iter j.typeIs F.entry_dict_items_iter ?_ (F.args_dict_items_iter_1 _));unfold Builtin.«dict_items.__iter__»;refine ab (ai (ab ?_));unfold Builtin.Dict_items.dictOf;refine ab (ed I M (x:=.ref d) rfl (ai (ab ?_)));unfold Builtin.Dict_items.newIterator;refine ab (iN B n (ab (kA B n ?_)));have own:Builtin.Dict_items.ownsTuple "dict_itemiterator" = true:=by decide
 simp only[own,fE];refine dL (ai ⟨_,rfl, "dict_itemiterator",_,⟨_,ay _ rfl,rfl⟩,cx.lookup,?_⟩)
  (by simp only[sizeOk,Builtin.Dict_items.ownedTupleFields,bb,cb,bm,gx,ib];omega)
 simpa[rawInt,sz,Builtin.Dict_items.ownedTupleFields]using q _ rfl
def Uz{b:Addr}(hi:IsItemIter s.heap it d i xs.length xs.length ok ov)(m:ET kd s.heap d xs)(hx:xs[i]?=some (k,b,v))
  (q:∀h',IsItemIterOut h' it d (i+1) xs.length xs.length (.ref b) v s.heap.objs.size->h'.get? s.heap.objs.size=some {cls:=.type "tuple",data:=.seq #[.ref b,v]}->h'.objs.size=s.heap.objs.size+1->
   (∀c o,c≠it->s.heap.get? c=some o->h'.get? c=some o)->Q (some (.ref s.heap.objs.size)) {s with heap:=h'}):wpAny (model prog w) A (pyNext (.ref it)) Q E s:=by
 obtain⟨j,g,I,F,J⟩:=s;obtain⟨o,es,o1,o2,o3,o4,o5,o6⟩:=id m;have ty:Shared.TypeIs ⟨j,g,I,F,J⟩ (.ref it) "dict_itemiterator" := ⟨_,hi,rfl⟩;have sz:=ip o4;unfold pyNext;refine ab (kl (c9 (name:=Str.ofString "__next__") ty cx (dy cx ty gt ?_ (ga _))));refine ab (ai (ab (ab ?_)))
 first|refine ab (dc ty (ai ?_))|refine ab (ef ty (ai ?_))
 refine ab (mM hi rfl ?_);have own:Builtin.Dict_items.ownsTuple "dict_itemiterator" = true:=by decide
 simp only[own,fE];show wpAny _ _ (if(Value.ref d == Value.none)=true then _ else _) _ _ _;rw[br (by intro z;cases z)];refine ab (ai (ab (iN o1 o3 ?_)));rw[br (by rw[sz];simp)];refine ab (ai (ab (kA o1 o3 ?_)));rw[br (by simp)];refine ai ?_;have lt:i<es.size:=by rw[sz];exact(al.mp hx).1
 have ee:es[i]=entryOfKey kd (k,b,v):=by
  have z:=entry_at o4 i;rw[hx,fk lt]at z;exact bp z
 have ek:es[i].key=.ref b:=by rw[ee];rfl
 have ev:es[i].val=v:=by rw[ee];rfl
 simp only[show ¬ ((i:Int)<0) by omega,fw,fN,fk lt];refine ab ?_
 first|refine ab (dc ty (ai ?_))|refine ab (ef ty (ai ?_))
 refine ab (fR ty ?_);show wpAny _ _ (setField (.ref it) 3 (rawInt ((i:Int)+1)) >>= _) _ _ ⟨j,g,I,F,J⟩;refine ab (d0 hi (by simp) λh1 e1 M=>?_);have M:Heap.SameBut it j h1:=M;have e1:IsItemIter h1 it d (i+1) xs.length xs.length ok ov:=by
  have e:((i+1:Nat):Int)=(i:Int)+1:=by omega
  unfold IsItemIter;rw[e];simpa[rawInt]using e1
 have t1:Shared.TypeIs ⟨h1,g,I,F,J⟩ (.ref it) "dict_itemiterator" := ⟨_,e1,rfl⟩;refine ab (eg (ab (fR t1 (ab (fR t1 ?_)))));show wpAny _ _ (Builtin.Dict_items.pairFromOwner (.ref it) 6 es[i].key es[i].val) _ _ ⟨h1,g,I,F,J⟩;rw[ek,ev];unfold Builtin.Dict_items.pairFromOwner;refine ab (mI ?_);have z1:h1.objs.size=j.objs.size:=M.1;have il:it<j.objs.size:=aE hi;have e2:IsItemIter (h1.push {cls:=.type "tuple",data:=.seq #[.ref b,v]}) it d (i+1) xs.length xs.length ok ov:=ac _ e1;have t2:(h1.push {cls:=.type "tuple",data:=.seq #[.ref b,v]}).get? j.objs.size=some {cls:=.type "tuple",data:=.seq #[.ref b,v]}:=by rw[←z1];exact ay _ rfl
 have z2:(h1.push {cls:=.type "tuple",data:=.seq #[.ref b,v]}).objs.size=j.objs.size+1:=by rw[cy,z1]
 have k2:∀c o,c≠it->j.get? c=some o->(h1.push {cls:=.type "tuple",data:=.seq #[.ref b,v]}).get? c=some o:=λc o n e=>ac _ (M.extBut c o n e);generalize h1.push {cls:=.type "tuple",data:=.seq #[.ref b,v]}=h2 at e2 t2 z2 k2 ⊢;show wpAny _ _ (Builtin.Dict_items.ownedTupleIsFree (.ref it) >>= _) _ _ ⟨h2,g,I,F,J⟩;rw[z1];refine ab ?_;unfold Builtin.Dict_items.ownedTupleIsFree;refine ab (ed e2 rfl (x:=.none) rfl (ai ?_));simp only[fE];refine ab (ed e2 rfl (x:=ok) rfl (ab (ed e2 rfl (x:=ov) rfl ?_)));refine ab (d0 e2 (by simp) λh3 e3 Y=>?_);have Y:Heap.SameBut it h2 h3:=Y;have e3:IsItemIter h3 it d (i+1) xs.length xs.length (.ref b) ov:=e3;refine ab (d0 e3 (by simp) λh4 e4 U=>?_);have U:Heap.SameBut it h3 h4:=U;have e4:IsItemIter h4 it d (i+1) xs.length xs.length (.ref b) v:=e4;refine ab (d0 e4 (by simp) λh5 e5 Z=>?_);have Z:Heap.SameBut it h4 h5:=Z;have e5:IsItemIterOut h5 it d (i+1) xs.length xs.length (.ref b) v j.objs.size:=e5;refine ab (d0 e5 (by simp) λB e6 O=>?_);have O:Heap.SameBut it h5 B:=O;have e6:IsItemIterOut B it d (i+1) xs.length xs.length (.ref b) v j.objs.size:=e6;have kk:∀c o,c≠it->h2.get? c=some o->B.get? c=some o:=λc o n e=>O.extBut c o n (Z.extBut c o n (U.extBut c o n (Y.extBut c o n e)));refine ab (nK (ai (ai ⟨_,rfl,ai (q B e6 (kk _ _ (d5 il) t2) ?_ λc o n e=>kk c o n (k2 c o n e))⟩)));show B.objs.size=j.objs.size+1;rw[O.1,Z.1,U.1,Y.1,z2]
def Wy(B:A.handled=none)(hi:IsItemIter s.heap it d i xs.length xs.length ok ov)(m:ET kd s.heap d xs)(I:xs.length<=i)
  (q:∀h',Heap.ExtBut it s.heap h'->Q none {s with heap:=h'}):wpAny (model prog w) A (pyNext (.ref it)) Q E s:=by
 obtain⟨o,es,j,M,n,F,J,O⟩:=id m;have ty:s.TypeIs (.ref it) "dict_itemiterator" := ⟨_,hi,rfl⟩;have sz:=ip F;unfold pyNext;refine ab (kl (c9 (name:=Str.ofString "__next__") ty cx (dy cx ty gt ?_ (ga _))));refine ab (ai (ab (ab ?_)))
 first|refine ab (dc ty (ai ?_))|refine ab (ef ty (ai ?_))
 refine ab (mM hi rfl ?_);have own:Builtin.Dict_items.ownsTuple "dict_itemiterator" = true:=by decide
 simp only[own,fE];show wpAny _ _ (if(Value.ref d == Value.none)=true then _ else _) (λ_ _=>_) _ s;rw[br (by intro z;cases z)];refine ab (ai (ab (iN j n ?_)));rw[br (by rw[sz];simp)];refine ab (ai (ab (kA j n ?_)));rw[br (by simp)];refine ai ?_;simp only[show ¬ ((i:Int)<0) by omega,fw,fN,kP (show es.size<=i by omega)];refine ab ?_
 first|refine ab (dc ty (ai ?_))|refine ab (ef ty (ai ?_))
 show wpAny _ _ (setField (.ref it) 2 .none >>= λ_=>_) _ _ s;refine ab (mE hi rfl (by simp) ?_);show wpAny _ _ (newExc (.type "StopIteration") [] >>= λ_=>_) _ _ _;refine ab ?_;simp only[newExc,newTuple];refine ab (dL (ab (m:=firstArgMember _ _) (wpAny_of_eq (a:=Value.none) (by first|rfl|(simp only[firstArgMember];rfl)) (dL ?_ (by size_fits)))) (by size_fits));simp only[raiseNew];refine ab (qr ?_);rw[show A.in1.handled=none by exact B];refine ab (ai (wpAny_throw ?_));refine ab (jp (b:=true) (T := "StopIteration") ⟨_,ay _ rfl,rfl⟩ p5 ?_);exact ai (q _ (((eS ..).extBut.push _).push _))
end
open PySem.W (KdxIt kdx_alive kdx_hint)
section
variable {prog:Program}{w:World}{κ:Type}[DecidableEq κ]{kd:HeapKind prog w κ}{A:Around}{E:oT}{s:Shared}{d a it vw S:Addr}{xs:List (κ×Addr×Value)}{k:κ}{v ok ov:Value}{fl:Bool}
def UG{b:Addr}{Z:Obj}(hi:KdxIt s.heap it d i xs.length xs.length ok ov a fl)(ha:s.heap.get? a=some Z)(ne:a≠it)(m:ET kd s.heap d xs)(hx:xs[i]?=some (k,b,v))
  (q:∀h',KdxIt h' it d (i+1) xs.length xs.length ok ov a true->h'.get? s.heap.objs.size=some {cls:=.type "tuple",data:=.seq #[.ref b,v]}->h'.objs.size=s.heap.objs.size+1->
   (∀c o,c≠it->s.heap.get? c=some o->h'.get? c=some o)->Q (some (.ref s.heap.objs.size)) {s with heap:=h'}):wpAny (model prog w) A (pyNext (.ref it)) Q E s:=by
 obtain⟨j,g,I,F,J⟩:=s;obtain⟨o,es,o1,o2,o3,o4,o5,o6⟩:=id m;have ty:Shared.TypeIs ⟨j,g,I,F,J⟩ (.ref it) "dict_itemiterator" := ⟨_,hi,rfl⟩;have sz:=ip o4;unfold pyNext;refine ab (kl (c9 (name:=Str.ofString "__next__") ty cx (dy cx ty gt ?_ (ga _))));refine ab (ai (ab (ab ?_)))
 first|refine ab (dc ty (ai ?_))|refine ab (ef ty (ai ?_))
 refine ab (mM hi rfl ?_);have own:Builtin.Dict_items.ownsTuple "dict_itemiterator" = true:=by decide
 simp only[own,fE];show wpAny _ _ (if(Value.ref d == Value.none)=true then _ else _) _ _ _;rw[br (by intro z;cases z)];refine ab (ai (ab (iN o1 o3 ?_)));rw[br (by rw[sz];simp)];refine ab (ai (ab (kA o1 o3 ?_)));rw[br (by simp)];refine ai ?_;have lt:i<es.size:=by rw[sz];exact(al.mp hx).1
 have ee:es[i]=entryOfKey kd (k,b,v):=by
  have z:=entry_at o4 i;rw[hx,fk lt]at z;exact bp z
 have ek:es[i].key=.ref b:=by rw[ee];rfl
 have ev:es[i].val=v:=by rw[ee];rfl
 simp only[show ¬ ((i:Int)<0) by omega,fw,fN,fk lt];refine ab ?_
 first|refine ab (dc ty (ai ?_))|refine ab (ef ty (ai ?_))
 refine ab (fR ty ?_);show wpAny _ _ (setField (.ref it) 3 (rawInt ((i:Int)+1)) >>= _) _ _ ⟨j,g,I,F,J⟩;refine ab (d0 hi (by simp) λh1 e1 O=>?_);have O:Heap.SameBut it j h1:=O;have e1:KdxIt h1 it d (i+1) xs.length xs.length ok ov a fl:=by
  have e:((i+1:Nat):Int)=(i:Int)+1:=by omega
  unfold KdxIt;rw[e];simpa[rawInt]using e1
 have t1:Shared.TypeIs ⟨h1,g,I,F,J⟩ (.ref it) "dict_itemiterator" := ⟨_,e1,rfl⟩;refine ab (eg (ab (fR t1 (ab (fR t1 ?_)))));show wpAny _ _ (Builtin.Dict_items.pairFromOwner (.ref it) 6 es[i].key es[i].val) _ _ ⟨h1,g,I,F,J⟩;rw[ek,ev];unfold Builtin.Dict_items.pairFromOwner;refine ab (mI ?_);have Y:h1.objs.size=j.objs.size:=O.1;have il:it<j.objs.size:=aE hi;have e2:KdxIt (h1.push {cls:=.type "tuple",data:=.seq #[.ref b,v]}) it d (i+1) xs.length xs.length ok ov a fl:=ac _ e1;have t2:(h1.push {cls:=.type "tuple",data:=.seq #[.ref b,v]}).get? j.objs.size=some {cls:=.type "tuple",data:=.seq #[.ref b,v]}:=by rw[←Y];exact ay _ rfl
 have z2:(h1.push {cls:=.type "tuple",data:=.seq #[.ref b,v]}).objs.size=j.objs.size+1:=by rw[cy,Y]
 have k2:∀c o,c≠it->j.get? c=some o->(h1.push {cls:=.type "tuple",data:=.seq #[.ref b,v]}).get? c=some o:=λc o U e=>ac _ (O.extBut c o U e);generalize h1.push {cls:=.type "tuple",data:=.seq #[.ref b,v]}=h2 at e2 t2 z2 k2 ⊢;show wpAny _ _ (Builtin.Dict_items.ownedTupleIsFree (.ref it) >>= _) _ _ ⟨h2,g,I,F,J⟩;rw[Y];have a2:h2.get? a=some Z:=k2 a Z ne ha;refine ab ?_;unfold Builtin.Dict_items.ownedTupleIsFree;refine ab (ed e2 rfl (x:=rawInt a) rfl ?_);show wpAny _ _ (loadIfAlive ((a:Int).toNat) >>= _) _ _ _;rw[fN];refine ab (kdx_alive a2 ?_);simp only[Option.isNone_some,d6,fw];refine ab (ed e2 rfl (x:=.bool fl) rfl ?_);have M:∀n:Heap,KdxIt n it d (i+1) xs.length xs.length ok ov a true->Heap.SameBut it h2 n->Q (some (.ref j.objs.size)) ⟨n,g,I,F,J⟩:=λn e3 B=>
  q n e3 (B.extBut _ _ (d5 il) t2) (by show n.objs.size=j.objs.size+1;rw[B.1,z2]) λc o U e=>B.extBut c o U (k2 c o U e)
 cases fl with
 |true=>
  rw[br (show ¬ ((Value.bool true != Value.bool true)=true)from bq)];refine ai ?_;simp only[d6,fw];exact ai (ai ⟨_,rfl,ai (M h2 e2 (Heap.SameBut.refl _ _))⟩)
 |false=>
  rw[bS (show(Value.bool false != Value.bool true)=true from rfl)];refine ab (d0 e2 (by simp) λn e3 B=>?_);have B:Heap.SameBut it h2 n:=B;have e3:KdxIt n it d (i+1) xs.length xs.length ok ov a true:=e3;refine ai ?_;simp only[d6,fw];exact ai (ai ⟨_,rfl,ai (M n e3 B)⟩)
def Wz(B:A.handled=none)(hi:KdxIt s.heap it d i xs.length xs.length ok ov a fl)(m:ET kd s.heap d xs)(I:xs.length<=i)
  (q:∀h',Heap.ExtBut it s.heap h'->Q none {s with heap:=h'}):wpAny (model prog w) A (pyNext (.ref it)) Q E s:=by
 obtain⟨o,es,j,M,n,F,J,O⟩:=id m;have ty:s.TypeIs (.ref it) "dict_itemiterator" := ⟨_,hi,rfl⟩;have sz:=ip F;unfold pyNext;refine ab (kl (c9 (name:=Str.ofString "__next__") ty cx (dy cx ty gt ?_ (ga _))));refine ab (ai (ab (ab ?_)))
 first|refine ab (dc ty (ai ?_))|refine ab (ef ty (ai ?_))
 refine ab (mM hi rfl ?_);have own:Builtin.Dict_items.ownsTuple "dict_itemiterator" = true:=by decide
 simp only[own,fE];show wpAny _ _ (if(Value.ref d == Value.none)=true then _ else _) (λ_ _=>_) _ s;rw[br (by intro z;cases z)];refine ab (ai (ab (iN j n ?_)));rw[br (by rw[sz];simp)];refine ab (ai (ab (kA j n ?_)));rw[br (by simp)];refine ai ?_;simp only[show ¬ ((i:Int)<0) by omega,fw,fN,kP (show es.size<=i by omega)];refine ab ?_
 first|refine ab (dc ty (ai ?_))|refine ab (ef ty (ai ?_))
 show wpAny _ _ (setField (.ref it) 2 .none >>= λ_=>_) _ _ s;refine ab (mE hi rfl (by simp) ?_);show wpAny _ _ (newExc (.type "StopIteration") [] >>= λ_=>_) _ _ _;refine ab ?_;simp only[newExc,newTuple];refine ab (dL (ab (m:=firstArgMember _ _) (wpAny_of_eq (a:=Value.none) (by first|rfl|(simp only[firstArgMember];rfl)) (dL ?_ (by size_fits)))) (by size_fits));simp only[raiseNew];refine ab (qr ?_);rw[show A.in1.handled=none by exact B];refine ab (ai (wpAny_throw ?_));refine ab (jp (b:=true) (T := "StopIteration") ⟨_,ay _ rfl,rfl⟩ p5 ?_);exact ai (q _ (((eS ..).extBut.push _).push _))
def StE(h:Heap)(it d S:Addr)(i n:Nat):Prop:=(i=0/\∃ok ov,IsItemIter h it d 0 n n ok ov)\/∃ok ov a fl oa,KdxIt h it d i n n ok ov a fl/\h.get? a=some oa/\a≠it/\a≠S
def StE.keep{h h':Heap}{n:Nat}(x:StE h it d S i n)(j:∀b o,b≠S->h.get? b=some o->h'.get? b=some o)(B:it≠S):StE h' it d S i n:=by
 rcases x with⟨e,ok,ov,q⟩|⟨ok,ov,a,fl,oa,q,ha,n1,n2⟩
 ·exact .inl ⟨e,ok,ov,j _ _ B q⟩
 ·exact .inr ⟨ok,ov,a,fl,oa,j _ _ B q,j _ _ n2 ha,n1,n2⟩
def WD{b:Addr}(st:StE s.heap it d S i xs.length)(n:S<s.heap.objs.size)(m:ET kd s.heap d xs)(j:xs[i]?=some (k,b,v))
  (q:∀h',StE h' it d S (i+1) xs.length->h'.get? s.heap.objs.size=some {cls:=.type "tuple",data:=.seq #[.ref b,v]}->h'.objs.size=s.heap.objs.size+1->
   (∀c o,c≠it->s.heap.get? c=some o->h'.get? c=some o)->Q (some (.ref s.heap.objs.size)) {s with heap:=h'}):wpAny (model prog w) A (pyNext (.ref it)) Q E s:=by
 rcases st with⟨rfl,ok,ov,hi⟩|⟨ok,ov,a,fl,oa,hi,ha,n1,n2⟩
 ·exact Uz hi m j λh' e1 e2 e3 e4=>q h' (.inr ⟨_,_,_,false,_,e1,e2,d5 (aE hi),d5 n⟩) e2 e3 e4
 ·exact UG hi ha n1 m j λh' e1 e2 e3 e4=>q h' (.inr ⟨ok,ov,a,true,oa,e1,e4 a oa n1 ha,n1,n2⟩) e2 e3 e4
def WF(j:A.handled=none)(st:StE s.heap it d S i xs.length)(m:ET kd s.heap d xs)(n:xs.length<=i)
  (q:∀h',Heap.ExtBut it s.heap h'->Q none {s with heap:=h'}):wpAny (model prog w) A (pyNext (.ref it)) Q E s:=by
 rcases st with⟨rfl,ok,ov,hi⟩|⟨ok,ov,a,fl,oa,hi,ha,n1,n2⟩
 ·exact Wy j hi m n q
 ·exact Wz j hi m n q
def Lie(h:Heap)(lo:Addr)(xs:List (κ×Addr×Value))(as:rS):Prop:=∀(j:Nat) (c:Addr),as[j]?=some c->lo<c/\∃k b v,xs[j]?=some (k,b,v)/\h.get? c=some {cls:=.type "tuple",data:=.seq #[.ref b,v]}
def wK{h h':Heap}(m:ET kd h d xs)(n:∀(x:κ) (b:Addr),kd.is h x b->kd.is h' x b)(I:∀o,h.get? d=some o->h'.get? d=some o):ET kd h' d xs:=by
 obtain⟨o,es,J,F,M,B,q,O⟩:=m;exact⟨o,es,I o J,F,M,B,λx j=>n _ _ (q x j),O⟩
def WK{R:Result->Shared->Prop}{I:Addr}(hh:A.handled=none)(hSI:S<I)(hSd:d≠S)(hId:d≠I)(hn:xs.length<=sizeLine)(res:Value){h₁:Heap}
  (kp:∀h h':Heap,(∀b o,h.get? b=some o->o.cls=.type "tuple" -> h'.get? b=some o)->∀(x:κ) (b:Addr),kd.is h x b->kd.is h' x b)
  (hR:∀h' J n c F,(∀b o,b≠S->b≠I->h₁.get? b=some o->h'.get? b=some o)->h'.get? S=some {cls:=.type "list",dict:=none,data:=.seq n c,slots:=#[]}->F.length=xs.length->Lie h' I xs F->
   n.toList=F.map Value.ref->R (.ok (.ret res)) {s with heap:=h',toks:=J}):
  ∀(j i:Nat) (h:Heap) (J c:Nat) (n:rV) (F:rS),xs.length - i=j->i<=xs.length->StE h I d S i xs.length->ET kd h d xs->(∀b o,b≠S->b≠I->h₁.get? b=some o->h.get? b=some o)->
   h.get? S=some {cls:=.type "list",dict:=none,data:=.seq n c,slots:=#[]}->n.toList=F.map Value.ref->F.length=i->Lie h I xs F->I<h.objs.size->
   codeAny (model prog w) A (.builtin "list.extend.loop" ⟨[.ref S,.ref I,res],[]⟩) R {s with heap:=h,toks:=J}:=by
 have He:S≠I:=bE hSI;intro j;induction j with
 |zero=>
  intro i h J c n F hk hi OC hD keep Y IX Zw hG M;refine iA mS ?_;rw[i6 gd _];show wpAny _ A.in1 (pyNext (.ref I) >>= _) _ _ _;refine ab (WF (s:={s with heap:=h,toks:=J}) (A:=A.in1) hh OC hD (by omega) λh' he=>?_);refine ai (hR h' J n c F (λb o n1 n2 e=>he b o n2 (keep b o n1 n2 e)) (he S _ He Y) (by omega) (λj c O=>?_) IX);obtain⟨U,k,b,v,e1,e2⟩:=hG j c O;exact⟨U,k,b,v,e1,he c _ (d5 U) e2⟩
 |succ j ih=>
  intro i h J c n F hk hi OC hD keep Y IX Zw hG M;have F4:i<xs.length:=by omega
  obtain⟨⟨kk,b,x⟩,hx⟩:∃p,xs[i]?=some p:=⟨xs[i],ax F4⟩;have hsz:n.size=i:=by rw[←f7,IX,ar,Zw]
  refine iA mS ?_;rw[i6 gd _];show wpAny _ A.in1 (pyNext (.ref I) >>= _) _ _ _;refine ab (WD (s:={s with heap:=h,toks:=J}) (S:=S) OC (aE Y) hD hx λh' Fu ht hz B=>?_);dsimp only at ht hz B ⊢;have Sr:=B S _ He Y;have up:∀b o,b≠S->h'.get? b=some o->(h'.update S (Obj.mapSeq (·.push (Value.ref h.objs.size)))).get? b=some o:=λb o hb e=>(ff _ _ (gc hb)).trans e;have Z:S<h.objs.size:=aE Y;have tS:∀b o,h.get? b=some o->o.cls=.type "tuple" -> b≠S:=λb o e q z=>by rw[z,Y]at e;cases e;exact absurd (i7 q) (by decide)
  have tI:∀b o,h.get? b=some o->o.cls=.type "tuple" -> b≠I:=λb o e q z=>by
   rcases OC with⟨_,ok,ov,y⟩|⟨ok,ov,a,fl,oa,y,_⟩<;>(rw[z,y]at e;cases e;exact absurd (i7 q) (by decide))
  show wpAny _ A.in1 (updateSeq S (·.push (Value.ref h.objs.size)) >>= _) _ _ _;refine ab ?_;refine lI Sr rfl (ai ⟨k9 gd _,ih (i+1) _ J _ (n.push (Value.ref h.objs.size)) (F++[h.objs.size]) (by omega) F4 (Fu.keep up (gc He))
   (wK hD (kp _ _ λb o e q=>up b o (tS b o e q) (B b o (tI b o e q) e)) λo e=>up d o hSd (B d o hId e))
   (λb o n1 n2 e=>up b o n1 (B b o n2 (keep b o n1 n2 e))) (eT _ Sr rfl) (by rw[Array.toList_push,IX,de];rfl) (by rw[cb,Zw];rfl) ?_ ?_⟩) (by rw[hsz];omega) (by rw[Array.size_push,hsz];omega)
  ·intro j c O
   rcases Nat.lt_trichotomy j F.length with h1|h1|h1
   ·rw[cw h1]at O
    obtain⟨U,k',b',v',e1,e2⟩:=hG j c O;exact⟨U,k',b',v',e1,up c _ (d5 (l7 hSI U)) (B c _ (d5 U) e2)⟩
   ·subst h1
    have hb:h.objs.size=c:=by simpa using O
    subst hb;exact⟨M,kk,b,x,by rw[Zw];exact hx,up _ _ (d5 Z) ht⟩
   ·rw[eJ (by rw[cb,gp];omega)]at O;cases O
  ·have e:(h'.update S (Obj.mapSeq (·.push (Value.ref h.objs.size)))).get? h.objs.size=_:=up _ _ (d5 Z) ht
   exact l7 M (aE e)
end
end Lake.L2
namespace Lake.HT
open PySem PyProof.Rows
def UJ(A:Around)(s:Shared)(x y:Value)(r:Bool):Prop:=∀(prog:Program) (w:World) (E Q:oT),Q (.bool r) s->wpAny (model prog w) A (richCompare .Lt x y) Q E s
section
open PySem.SeqAt
open PySem.AutoSeq1 (wpAny_loadPart')
open PySem.MeetsSeq PySem.MeetsSeq2 PySem.MeetsSeq3
def MZ(l b:Addr)(x1 q F B:Value)(n n2:Nat)(dd Zi:Option Addr)(Z Zj:Array (Option Value))(e1 e2 J M:Bool):
  Meets (Builtin.«tuple.__lt__» ⟨[.ref l,.ref b],[]⟩)
   (λA R s=>s.heap.get? l=some {cls:=.type "tuple",dict:=dd,data:=.seq #[x1,q] n,slots:=Z}/\s.heap.get? b=some {cls:=.type "tuple",dict:=Zi,data:=.seq #[F,B] n2,slots:=Zj} /\
    EqAt A.in1 s x1 F e1/\(e1=true->EqAt A.in1 s q B e2)/\(e1=false->UJ A.in1 s x1 F J)/\(e1=true->e2=false->UJ A.in1 s q B M) /\
    R (.ok (.ret (.bool (if e1=true then(if e2=true then false else M)else J)))) s):=
 .of_wp λprog w A R s h=>by
  obtain⟨hp,g,d,tk,os⟩:=s;obtain⟨Y,hb,q1,q2,O,U,h⟩:=h;have f2:=AutoSeq1.sub_tuple_tuple;wp_walk using g6 Y,g6 hb,og _ (λrest b s'=>b.1=none/\s'=⟨hp,g,d,tk,os⟩/\(rest=[(x1,F),(q,B)]\/(rest=[(q,B)]/\e1=true)\/(rest=[]/\e1=true/\e2=true))) _
  case turn=>
   rintro⟨y,x⟩ rest b s' ⟨I,rfl,hz⟩;rcases hz with hz|⟨hz,Zt⟩|⟨hz,_⟩
   ·injection hz with hyx UA
    injection hyx with hy hx;subst hy hx;refine ab (q1 prog w _ _ ?_);cases e1 with
    |true=>
     wp_walk
     exact⟨rfl,rfl,.inr (.inl ⟨UA,rfl⟩)⟩
    |false=>
     have j:=O rfl prog w;wp_walk using j;exact⟨_,rfl,by simpa using h⟩
   ·injection hz with hyx UA
    injection hyx with hy hx;subst hy hx Zt;refine ab (q2 rfl prog w _ _ ?_);cases e2 with
    |true=>
     wp_walk
     exact⟨rfl,rfl,.inr (.inr ⟨UA,rfl,rfl⟩)⟩
    |false=>
     have j:=U rfl rfl prog w;wp_walk using j;exact⟨_,rfl,by simpa using h⟩
   ·cases hz
  case fin=>
   rintro⟨b1,b2⟩ s' ⟨I,rfl,hz⟩;simp only at I;subst I;rcases hz with hz|⟨hz,Zt⟩|⟨_,Zt,Sm⟩
   ·cases hz
   ·cases hz
   ·subst Zt Sm
    wp_walk
    exact⟨_,rfl,by simpa[Builtin.Tuple.tupleCompareSizes]using h⟩
  case h=>
   exact⟨rfl,rfl,.inl rfl⟩
end
end Lake.HT
namespace Lake.L2
open PySem PySem.Spec PyProof.Rows
open PySem.W (KasT kas_asc kas_desc kas_tail3 kas_descPart kas_count kas_place kas_bin kas_sort kas_rev)
def zA{F3:Type}(lt:Nat->Nat->Bool):KasT F3->F3
 |.ret a=>a
 |.ask i j k=>zA lt (k (lt i j))
def KW{F3:Type}(n:Nat)(P:F3->Prop):KasT F3->Prop
 |.ret a=>P a
 |.ask i j k=>i<n/\j<n/\∀b,KW n P (k b)
variable {p:Array Nat}
section
variable {F3 HU:Type}{n:Nat}
theorem KW.bind{P:F3->Prop}{R:HU->Prop}{f:F3->KasT HU}(q:∀a,P a->KW n R (f a)):∀t:KasT F3,KW n P t->KW n R (t.bind f)
 |.ret a,h=>q a h
 |.ask i j k,h=>⟨h.1,h.2.1,λb=>KW.bind q (k b) (h.2.2 b)⟩
theorem KW.run{P:F3->Prop}(lt:Nat->Nat->Bool):∀t:KasT F3,KW n P t->P (zA lt t)
 |.ret _,h=>h
 |.ask _ _ k,h=>KW.run lt (k _) (h.2.2 _)
theorem KW.wp{P:F3->Prop}{lt:Nat->Nat->Bool}{s:Shared}{B:Nat->Nat->(Bool->Shared->Prop)->Shared->Prop}(F:∀i j (C:Bool->Shared->Prop),i<n->j<n->C (lt i j) s->B i j C s){Q:F3->Shared->Prop}:∀t:KasT F3,KW n P t->Q (zA lt t) s->t.kasWp B Q s
 |.ret _,_,q=>q
 |.ask i j k,h,q=>F i j _ h.1 h.2.1 (KW.wp F (k _) (h.2.2 _) q)
def Rw(n:Nat)(p:Array Nat):Prop:=p.Perm (List.range n).toArray
def Rw.at(h:Rw n p)(j:0<n)(i:Nat):p.getD i 0<n:=by
 by_cases hi:i<p.size
 ·have e:p.getD i 0=p[i]:=by simp[Array.getD,hi]
  rw[e];have m:p[i]∈(List.range n).toArray:=(Array.Perm.mem_iff h).mp (Array.getElem_mem hi);simpa using m
 ·have e:p.getD i 0=0:=by simp[Array.getD,hi]
  rw[e];exact j
def Rw.rev(h:Rw n p)(i j:Nat):Rw n (kas_rev p i j):=(mirror_perm _ _ _ _).trans h
def Rw.bub(h:Rw n p)(i j:Nat):Rw n (bubble p i j):=(bubble_perm _ _ _).trans h
theorem Dr{p:Array Nat}(h:Rw n p)(j:0<n):∀f m,KW n (λ_=>True) (kas_asc p f m)
 |0,_=>trivial
 |f+1,m=>⟨h.at j _,h.at j _,λc=>by
  cases c with
  |true=>exact trivial
  |false=>exact Dr h j f (m+1)⟩
theorem vL(j:0<n):∀f (p:Array Nat) m q,Rw n p->KW n (λr=>Rw n r.1) (kas_desc f p m q)
 |0,p,_,_,h=>h
 |f+1,p,m,q,h=>⟨h.at j _,h.at j _,λc=>by
  cases c with
  |true=>
   show KW n _ (if q>0 then kas_desc f (kas_rev p (m - (q+1)) m) (m+1) 0 else kas_desc f p (m+1) 0);split
   ·exact vL j f _ _ _ (h.rev _ _)
   ·exact vL j f _ _ _ h
  |false=>
   refine⟨h.at j _,h.at j _,λd=>?_⟩;cases d with
   |true=>exact h
   |false=>exact vL j f _ _ _ h⟩
def Ds(h:Rw n p)(j:0<n)(m r:Nat):KW n (λr=>Rw n r.2) (kas_tail3 m r p):=by
 unfold kas_tail3;refine KW.bind (P:=λ_=>True) (λ_ _=>?_) _ (Dr (h.rev 0 m) j _ _);exact h.rev 0 m
def v7(h:Rw n p)(j:0<n)(m r:Nat):KW n (λr=>Rw n r.2) (kas_descPart m r p):=KW.bind (λa q=>by
 split
 ·exact Ds (q.rev _ _) j _ _
 ·exact Ds q j _ _) _ (vL j _ _ _ _ h)
def NT(h:Rw n p)(j:0<n)(r:Nat):KW n (λr=>Rw n r.2) (kas_count r p):=KW.bind (λa _=>by
 split
 ·exact h
 ·split
  ·refine⟨h.at j _,h.at j _,λc=>?_⟩
   cases c with
   |true=>exact h
   |false=>exact v7 (h.rev _ _) j _ _
  ·exact v7 h j _ _) _ (Dr h j _ _)
theorem wL{p:Array Nat}(h:Rw n p)(j:0<n)(k:Nat):∀f l r,KW n (λ_=>True) (kas_place p k f l r)
 |0,_,_=>trivial
 |f+1,l,r=>by
  unfold kas_place;split
  ·exact trivial
  ·refine⟨h.at j _,h.at j _,λc=>?_⟩
   cases c with
   |true=>exact wL h j k f _ _
   |false=>exact wL h j k f _ _
theorem K_(j:0<n):∀f (p:Array Nat) k,Rw n p->KW n (Rw n) (kas_bin f p k)
 |0,_,_,h=>h
 |f+1,p,k,h=>KW.bind (λ_ _=>K_ j f _ _ (h.bub _ _)) _ (wL h j k _ _ _)
def G6(j:0<n):KW n (Rw n) (kas_sort n):=KW.bind (λr h=>by
 split
 ·exact K_ j _ _ _ h
 ·exact h) _ (NT (Array.Perm.refl _) j n)
end
noncomputable def q8(lt:Nat->Nat->Bool)(n:Nat):List Nat:=if n<2 then List.range n else(zA lt (kas_sort n)).toList
def qj(lt:Nat->Nat->Bool)(n:Nat):(q8 lt n).Perm (List.range n):=by
 unfold q8;split
 ·exact List.Perm.refl _
 ·have:=(G6 (n:=n) (by omega)).run lt
  have h:((zA lt (kas_sort n)).toList).Perm ((List.range n).toArray.toList):=Array.perm_iff_toList_perm.mp this;simpa using h
noncomputable def ltK(p q:Int×Str):Bool:=if decide (p.1=q.1)=true then(if decide (p.2=q.2)=true then false else decide (p.2.cps.toList<q.2.cps.toList))else decide (p.1<q.1)
noncomputable def ltI(p q:(Int×Str)×Int):Bool:=if decide (p.1=q.1)=true then(if decide (p.2=q.2)=true then false else decide (p.2<q.2))else ltK p.1 q.1
def UB(h:Heap)(p:Int×Str)(b:Addr):Prop:=∃t u,IsTup h b #[.int p.1 t,.str p.2 u]
def PrT(h:Heap)(p:(Int×Str)×Int)(c:Addr):Prop:=∃b t,IsTup h c #[.ref b,.int p.2 t]/\UB h p.1 b
section
variable {prog:Program}{w:World}{A:Around}{E:oT}{s:Shared}
def La{p:Int×Str}{b:Addr}(h:UB s.heap p b):GV (HC 0 s.heap) s.heap [.k (.inl p.1),.k (.inr p.2)] b:=by
 obtain⟨t,u,o,h1,h2,n,j⟩:=h;exact⟨o,_,n,h1,h2,j,.cons ⟨_,rfl,qN (uB _ _)⟩ (.cons ⟨_,rfl,qN (uC _ _)⟩ .nil)⟩
def UL{p q:Int×Str}{b d:Addr}(J:A.units+1<cLine)(F:UB s.heap p b)(j:UB s.heap q d):SeqAt.EqAt A s (.ref b) (.ref d) (decide (p=q)):=by
 have h:=Hz (A:=A) (R:=HC 0 s.heap) (λx y v=>HC.inj x y v) (by omega) (La F) (La j) λp q u v h1 h2=>HC.eq p q u v (by rw[in1_units];omega) h1 h2;have e:decide (([.k (.inl p.1),.k (.inr p.2)]:List D5)=[.k (.inl q.1),.k (.inr q.2)])=decide (p=q):=by
  obtain⟨p1,p2⟩:=p;obtain⟨B,I⟩:=q;by_cases z:p1=B<;>by_cases z2:p2=I<;>simp[z,z2]
 rw[←e];exact h
def UT{p q:Int×Str}{b d:Addr}(hu:A.units+1<cLine)(hx:UB s.heap p b)(hy:UB s.heap q d){Q:oT}(h:Q (.bool (ltK p q)) s):wpAny (model prog w) A (compareOp .Lt (.ref b) (.ref d)) Q E s:=by
 obtain⟨t,u,⟨cls,dd,U,sl⟩,Z,J,n,Y⟩:=hx;obtain⟨t',u',⟨M,Zi,B,Zj⟩,I,O,n2,j⟩:=hy;simp only at J Y O j;subst J Y O j;refine richCompare_meets_room (op:=.Lt) ⟨_,Z,rfl⟩ ⟨_,I,rfl⟩ PySem.F.slot_tuple_lt PySem.F.entry_tuple_lt (PySem.F.args_tuple_lt_2 _ _) (HT.MZ b d _ _ _ _ n n2 dd Zi sl Zj (decide (p.1=q.1)) (decide (p.2=q.2)) (decide (p.1<q.1)) (decide (p.2.cps.toList<q.2.cps.toList)))
  ⟨Z,I,?_,λ_=>?_,λ_ prog w E Q q=>?_,λ_ _ prog w E Q q=>?_,?_⟩ (by omega)
 ·have:=mv (A:=A.in1) (s:=s) p.1 t q.1 t'
  rw[pT]at this;exact this
 ·have:=SeqAt.EqAt.str_str (A:=A.in1) (s:=s) p.2 u q.2 u'
  rw[show(p.2 == q.2)=decide (p.2=q.2) by by_cases z:p.2=q.2<;>simp[z]]at this;exact this
 ·exact lt_int q
 ·exact lt_str q
 ·exact(show Value.bool (ltK p q)≠Value.notImplemented/\Q (.bool (ltK p q)) s from⟨(λx=>nomatch x),h⟩)
def UV{p q:(Int×Str)×Int}{c d:Addr}(I:A.units+1<cLine)(M:PrT s.heap p c)(U:PrT s.heap q d){Q:Bool->Shared->Prop}(h:Q (ltI p q) s):wpAny (model prog w) A (keyLt' (tuples' false) (.ref c) (.ref d)) Q E s:=by
 obtain⟨b,t,⟨o,h1,h2,n,O⟩,F⟩:=M;obtain⟨b',t',⟨o',J,Y,Z,B⟩,j⟩:=U;refine W.kat_lt h1 O J B ?_;refine W.kat_cons ((UL I F j) _ _ _ _ ?_);unfold ltI at h;refine W.kat_go (λe=>W.kat_yes ?_) λe=>W.kat_no ?_
 ·rw[e]at h
  simp only[fE]at h;refine W.kat_cons ?_;have key:=mv (A:=A) (s:=s) p.2 t q.2 t';rw[pT]at key;refine key _ _ _ _ ?_;refine W.kat_go (λe2=>W.kat_yes (W.kat_nil ?_)) λe2=>W.kat_no ?_
  ·rw[e2]at h
   simpa using h
  ·rw[e2]at h
   simp only[d6,fw]at h;exact W.kat_one _ _ (lt_int h)
 ·rw[e]at h
  simp only[d6,fw]at h;exact W.kat_one _ _ (UT I F j h)
variable {κ:Type}[DecidableEq κ]{kd:HeapKind prog w κ}{d r S:Addr}{xs:List (κ×Addr×Value)}
def Rk{R:Result->Shared->Prop}(hh:A.handled=none)(hv:s.heap.IsItemsView r d)(m:ET kd s.heap d xs)
  (kp:∀h h':Heap,(∀b o,h.get? b=some o->o.cls=.type "tuple" -> h'.get? b=some o)->∀(x:κ) (b:Addr),kd.is h x b->kd.is h' x b)
  (hSr:S≠r) (M:d≠S) (res:Value) (UZ:Nat) (hS:s.heap.get? S=some {cls:=.type "list",data:=.seq #[] UZ})
  (hR:∀h' J B c I,(∀b o,b≠S->s.heap.get? b=some o->h'.get? b=some o)->h'.get? S=some {cls:=.type "list",dict:=none,data:=.seq B c,slots:=#[]}->I.length=xs.length->Lie h' s.heap.objs.size xs I->
   B.toList=I.map Value.ref->R (.ok (.ret res)) {s with heap:=h',toks:=J}) (hn:xs.length<=sizeLine):
  wpAny (model prog w) A.in1 (Builtin.List.listExtendWith (.ref S) (.ref r) res)
   (λZ s'=>match Z with|.done f=>R (.ok f) s'|.again c'=>c'.quiet=true/\codeAny (model prog w) A c' R s') (λe s'=>R (.error e) s') s:=by
 have U:S<s.heap.objs.size:=aE hS;have hdI:d<s.heap.objs.size:=by obtain⟨o,es,o1,_⟩:=m;exact aE o1
 have key:∀(h:Heap) (U1 J:Nat),(∀b o,b≠S->(s.heap.push {cls:=.type "dict_itemiterator",data:=.fields #[.none,.bool false,.ref d,.int 0 0,.int xs.length 0,.int xs.length 0,.none,.none]}).get? b=some o->h.get? b=some o)->
   h.get? S=some {cls:=.type "list",data:=.seq #[] U1}->codeAny (model prog w) A (.builtin "list.extend.loop" ⟨[.ref S,.ref s.heap.objs.size,res],[]⟩) R {s with heap:=h,toks:=J}:=by
  intro h U1 J Y O;have hI:=Y s.heap.objs.size _ (d5 U) (ay _ rfl);have tS:∀b o,s.heap.get? b=some o->o.cls=.type "tuple" -> b≠S:=λb o e q z=>by rw[z,hS]at e;cases e;exact absurd (i7 q) (by decide)
  refine WK (kd:=kd) (xs:=xs) (s:=s) (h₁:=s.heap) hh U M (bE hdI) hn res kp (λh' tk' B c I YU Sr hl hG IX=>hR h' tk' B c I (λb o F e=>YU b o F (bE (aE e)) e) Sr hl hG IX)
   xs.length 0 h J U1 #[] [] (Nat.sub_zero _) (cq _) (.inl ⟨rfl,.none,.none,hI⟩) (wK m (kp _ _ λb o e q=>Y b o (tS b o e q) (ac _ e)) λo e=>Y d o M (ac _ e)) (λb o F _ e=>Y b o F (ac _ e)) O rfl rfl
   (λj a hj=>by simp at hj) (aE hI)
 unfold Builtin.List.listExtendWith;refine ab (jI (T := "dict_items") hv.typeIs ?_);have g1:Builtin.List.listSameRef (.ref S) (.ref r)=false:=by simp[Builtin.List.listSameRef,hSr]
 have g2:(Value.type "dict_items" == Value.type "list")=false:=by decide
 have g3:(Value.type "dict_items" == Value.type "tuple")=false:=by decide
 simp only[g1,g2,g3,qq,d6,fw];refine ab (Uy hv m λh' eh=>?_);subst eh;have O:=ac {cls:=.type "dict_itemiterator",data:=.fields #[.none,.bool false,.ref d,.int 0 0,.int xs.length 0,.int xs.length 0,.none,.none]} hS;refine ab (eg (W.kdx_hint (let ⟨o,ho,hc,_⟩:=hv;⟨o,ac _ ho,hc⟩) ?_));refine wpAny_ite_split (λ_=>?_) (λ_=>ai ⟨k9 gd _,key _ UZ _ (λb o _ e=>e) O⟩);refine ab (iO ?_);refine ab ?_;show wpAny _ _ (updateSeq S (·.push .none) >>= λ_=>updateSeq S (·.pop)) _ _ _;refine ab (lI O rfl ?_);have hS₂:=eT (Obj.mapSeq (·.push Value.none)) O rfl;refine lI (hz:=by seq_fits) hS₂ rfl ?_;have hS₃:=eT (Obj.mapSeq (·.pop)) hS₂ rfl;refine ai ⟨k9 gd _,key _ _ _ (λb o F e=>?_) hS₃⟩;exact(ff _ _ (gc F)).trans ((ff _ _ (gc F)).trans e)
def NZ{R:List Value->Shared->Prop}(hh:A.handled=none)(hv:s.heap.IsItemsView r d)(m:ET kd s.heap d xs)
  (kp:∀h h':Heap,(∀b o,h.get? b=some o->o.cls=.type "tuple" -> h'.get? b=some o)->∀(x:κ) (b:Addr),kd.is h x b->kd.is h' x b) (hn:xs.length<=sizeLine)
  (q:∀h' J I,(∀b o,s.heap.get? b=some o->h'.get? b=some o)->s.heap.objs.size<h'.objs.size->I.length=xs.length->Lie h' s.heap.objs.size xs I->R (I.map Value.ref) {s with heap:=h',toks:=J}):wpAny (model prog w) A (collect (.ref r)) R E s:=by
 have lr:r<s.heap.objs.size:=by obtain⟨o,ho,_⟩:=hv;exact aE ho
 have ld:d<s.heap.objs.size:=by obtain⟨o,es,o1,_⟩:=m;exact aE o1
 unfold collect;refine ab (wpAny_runValue (iA entry_proto_collect' ?_));rw[i6 PySem.F.plain_proto_collect _];show wpAny _ A.in1 (newList [] >>= λl=>again (.builtin "list.__iadd__" ⟨[l,.ref r],[]⟩)) _ _ s;refine ab (dL ?_);refine ai ⟨k9 oB _,iA entry_list_iadd' ?_⟩;rw[i6 oB _];have ND:(s.heap.push {cls:=.type "list",data:=.seq ([]:re).toArray}).get? s.heap.objs.size=some {cls:=.type "list",data:=.seq #[]}:=ay _ rfl;show wpAny _ A.in1 (Builtin.List.listExtendWith (.ref s.heap.objs.size) (.ref r) (.ref s.heap.objs.size)) _ _ _;have hv1:(s.heap.push {cls:=.type "list",data:=.seq ([]:re).toArray}).IsItemsView r d:=by obtain⟨o,ho,e⟩:=hv;exact⟨o,ac _ ho,e⟩
 have m1:ET kd (s.heap.push {cls:=.type "list",data:=.seq ([]:re).toArray}) d xs:=wK m (kp _ _ λb o e _=>ac _ e) λo e=>ac _ e;have key:=Rk (A:=A) (s:={s with heap:=s.heap.push {cls:=.type "list",data:=.seq ([]:re).toArray}}) (S:=s.heap.objs.size)
  (R:=λ(z:Result) (s':Shared)=>∃(h':Heap) (J:Nat) (B:rV) (c:Nat) (I:rS),z=.ok (.ret (.ref s.heap.objs.size))/\s'={s with heap:=h',toks:=J} /\
   (∀b o,s.heap.get? b=some o->h'.get? b=some o)/\h'.get? s.heap.objs.size=some {cls:=.type "list",dict:=none,data:=.seq B c,slots:=#[]}/\I.length=xs.length/\Lie h' s.heap.objs.size xs I/\B.toList=I.map Value.ref)
  hh hv1 m1 kp (d5 lr) (bE ld) (.ref s.heap.objs.size) 0 ND
  (λh' J B c I Z M O U Y=>⟨h',J,B,c,I,rfl,rfl,λb o e=>Z b o (bE (aE e)) (ac _ e),M,O,λj c hj=>by
   obtain⟨e0,e1⟩:=U j c hj;have e0:(s.heap.push {cls:=.type "list",data:=.seq ([]:re).toArray}).objs.size<c:=e0;rw[size_push']at e0;exact⟨l7 (hZ _) e0,e1⟩,Y⟩) hn
 refine fm key (λfin s' x=>?_) λe s' x=>?_
 ·cases fin with
  |done f=>
   obtain⟨h',J,B,c,I,e,rfl,Z,M,O,U,Y⟩:=x;cases e;show wpAny _ A (load s.heap.objs.size >>= _) _ _ _;refine ab (wpAny_load M (ai ?_));show R B.toList _;rw[Y];exact q h' J I Z (aE M) O U
  |again U1=>
   refine⟨x.1,l6 x.2 λz KP y=>?_⟩;obtain⟨h',J,B,c,I,rfl,rfl,Z,M,O,U,Y⟩:=y;show wpAny _ A (load s.heap.objs.size >>= _) _ _ _;refine ab (wpAny_load M (ai ?_));show R B.toList _;rw[Y];exact q h' J I Z (aE M) O U
 ·obtain⟨_,_,_,_,_,e',_⟩:=x
  cases e'
end
open PySem.W (kas_sort kas_ask kat_run kat_snds kat_kind KatTups)
section
variable {prog:Program}{w:World}{A:Around}{E:oT}{s:Shared}
noncomputable def pq(lt:Nat->Nat->Bool)(vs:re):List Value:=(q8 lt vs.length).map λi=>vs.getD i Value.none
def N5(lt:Nat->Nat->Bool)(vs:re):(pq lt vs).length=vs.length:=by
 unfold pq;rw[ar,(qj lt vs.length).length_eq,fq]
def Je{lt:Nat->Nat->Bool}{vs:re}(h:vs.length<2):pq lt vs=vs:=by
 unfold pq q8;rw[bS h];match vs,h with
 |[],_=>rfl
 |[v],_=>rfl
 |_::_::_,h=>exact absurd h (by simp only[bm];omega)
def Rm(vs:re):(vs.toArray.zip vs.toArray).map (·.2)=vs.toArray:=by
 apply Array.toList_inj.mp;simp[List.map_snd_zip]
noncomputable def lE(h:Heap)(a:Addr)(vs:re):Heap:=((h.update a (Obj.mapSeq λ_=>(#[]:rV))).push (seqObj "tuple" vs.toArray 0)).push (seqObj "list" #[] 0)
def N6{h:Heap}{a b:Addr}{vs:re}{o:Obj}(j:b≠a)(e:h.get? b=some o):(lE h a vs).get? b=some o:=
 ac _ (ac _ ((ff _ _ (gc j)).trans e))
def UW{a:Addr}{vs:re}{n:Nat}{P:PySem.Fin->Shared->Prop}(lt:Nat->Nat->Bool)(M:s.heap.get? a=some (seqObj "list" vs.toArray n))(O:vs.length<64)
  (hk:2<=vs.length->∀Q:SortKind->Shared->Prop,Q (tuples' false) {s with heap:=lE s.heap a vs}->wpAny (model prog w) A (keyKind' vs.toArray) Q (λ_ _=>False) {s with heap:=lE s.heap a vs})
  (Z:∀i j (C:Bool->Shared->Prop),i<vs.length->j<vs.length->C (lt i j) {s with heap:=lE s.heap a vs}->kas_ask prog w A (tuples' false) vs i j C {s with heap:=lE s.heap a vs})
  (h:P (.done (.ret .none)) {s with heap:=sortedHeap s.heap a vs (pq lt vs).toArray}):
  wpAny (model prog w) A (Builtin.«list.sort» ⟨[.ref a],[]⟩) P E s:=by
 rw[list_sort_plain];have Y:a<s.heap.objs.size:=aE M;have hz:vs.length<=sizeLine:=by rw[ib];omega
 refine ab (listItems_at M rfl ?_);refine ab (listUpdate_at M rfl ?_ (by rw[bb,ib];omega) (cq _));obtain⟨e1,F⟩:∃e1,(s.heap.update a (Obj.mapSeq λ_=>#[])).get? a=some (seqObj "list" #[] e1):=⟨_,get?_update_seq M (λ_=>#[])⟩;refine ab (seqEpoch_at F rfl ?_);refine ab (mI ?_ (by show vs.length<=_;exact hz));refine ab (wpAny_newList ?_ (cq _));refine eg ?_;have q:(lE s.heap a vs).get? a=some (seqObj "list" #[] e1):=by
  unfold lE;rw[Heap.get?_push_ne _ _ _ (by rw[size_push',Heap.size_update];exact bE (Nat.lt_succ_of_lt Y)),Heap.get?_push_ne _ _ _ (by rw[Heap.size_update];exact bE Y)];exact F
 show wpAny (model prog w) A _ P E {s with heap:=lE s.heap a vs};dsimp only;by_cases h2:vs.toArray.size<2
 ·rw[bS h2,bS h2]
  have B:vs.length<2:=by rwa [bb]at h2
  refine ab (ai ?_);rw[StateT.run_pure];refine ab (ai ?_);dsimp only;refine ab (seqEpoch_at q rfl ?_);have eo:(arrOf (SortSt.mk' general' (vs.toArray.zip vs.toArray) #[] 7 none)).map (·.2)=vs.toArray:=by
   exact Rm vs
  rw[eo];refine ab (listUpdate_at q rfl ?_ (cq _) (by show vs.toArray.size<=_;rw[bb];exact nI hz));simp only[bne_self_eq_false,d6,fw];rw[Je B]at h;exact ai h
 ·rw[br h2,br h2]
  have B:2<=vs.length:=by rw[bb]at h2;omega
  refine ab (fm (hk B (fun κ s'=>κ=tuples' false/\s'={s with heap:=lE s.heap a vs}) ⟨rfl,rfl⟩) (fun κ s0 hκ=>?_) λ_ _ x=>x.elim);obtain⟨rfl,rfl⟩:=hκ;refine ab (fm (kat_run (A:=A) (κ:=tuples' false) (ks:=vs) (vs:=vs) (Q:=λJ s'=>s'={s with heap:=lE s.heap a vs}/\(arrOf J).map (·.2)=(pq lt vs).toArray/\failedOf J=none)
   (G:=λp s'=>s'={s with heap:=lE s.heap a vs}/\p=zA lt (kas_sort vs.length)) rfl B O (λp J s' a1 a2 a3 U=>⟨U.1,?_,a3⟩) (KW.wp (s:={s with heap:=lE s.heap a vs}) Z _ (G6 (by omega)) ⟨rfl,rfl⟩)) ?_ λ_ _ e=>e)
  ·rw[kat_snds rfl a2,U.2]
   unfold pq q8;rw[br (by omega)]
  ·rintro⟨⟨⟩,J⟩ s' ⟨rfl,I,hf⟩
   dsimp only;rw[I];refine ab (seqEpoch_at q rfl ?_);refine ab (listUpdate_at q rfl ?_ (cq _) (by show(pq lt vs).toArray.size<=_;rw[bb,N5];exact nI hz));rw[hf];simp only[bne_self_eq_false,d6,fw];exact ai h
variable {κ:Type}[DecidableEq κ]{kd:HeapKind prog w κ}{d r:Addr}{xs:List (κ×Addr×Value)}
noncomputable def ltAt(L:List ((Int×Str)×Int))(i j:Nat):Bool:=match L[i]?,L[j]? with
 |some p,some q=>ltI p q
 |_,_=>false
def N7{h h':Heap}{p:Int×Str}{b:Addr}(x:UB h p b)(k:∀o,h.get? b=some o->h'.get? b=some o):UB h' p b:=by
 obtain⟨t,u,o,h1,h2⟩:=x;exact⟨t,u,o,k o h1,h2⟩
theorem G7{h:Heap}:∀q:List Addr,(∀c∈q,∃p,PrT h p c)->∃fs:List Value,fs.length=q.length/\KatTups h (q.map Value.ref) fs/\∀f∈fs,∃b o,f=.ref b/\h.get? b=some o/\o.cls=.type "tuple"
 |[],_=>⟨[],rfl,.nil,λf j=>nomatch j⟩
 |c::q,hp=>by
  obtain⟨fs,h1,h2,F⟩:=G7 q λc B=>hp c (ap _ B);obtain⟨p,b,t,⟨o,e1,e2,n,e3⟩,J,M,I,b1,b2,_⟩:=hp c av;refine⟨.ref b::fs,by simp[h1],.cons e1 e2 e3 rfl h2,λf j=>?_⟩;rcases bi.mp j with rfl|j
  ·exact⟨b,I,rfl,b1,b2⟩
  ·exact F f j
def Rn{Q:oT}(L:List ((Int×Str)×Int))(hh:A.handled=none)(hu:A.units+9<cLine)(hv:s.heap.IsItemsView r d)(m:ET kd s.heap d xs)
  (kp:∀h h':Heap,(∀b o,h.get? b=some o->o.cls=.type "tuple" -> h'.get? b=some o)->∀(x:κ) (b:Addr),kd.is h x b->kd.is h' x b) (O:L.length=xs.length) (h64:xs.length<64)
  (hL:∀(j:Nat) (k:κ) (b:Addr) (v:Value),xs[j]?=some (k,b,v)->∃p:(Int×Str)×Int,L[j]?=some p/\UB s.heap p.1 b/\∃t,v=Value.int p.2 t)
  (q:∀h' U D e B,s.heap.objs.size<=D->(∀b o,s.heap.get? b=some o->h'.get? b=some o)->B.length=xs.length->(∀c∈B,s.heap.objs.size<=c/\c≠D)->Lie h' s.heap.objs.size xs B->
   h'.get? D=some (seqObj "list" ((q8 (ltAt L) L.length).map λi=>Value.ref (B.getD i 0)).toArray e)->Q (.ref D) {s with heap:=h',toks:=U}):
  wpAny (model prog w) A (call (.builtin "sorted") [.ref r]) Q E s:=by
 refine Calls.call_function_entry kind_sorted plain_sorted entry_sorted (args_sorted1 _) ?_;unfold Builtin.«sorted»;refine ab (m:=checkCount "sorted" 1 1 _) (ai ?_);refine ab (NZ (A:=A.in1) (kd:=kd) hh hv m kp (by rw[ib];omega) λh1 U B k1 sz1 Zw hG=>?_);have I:(B.map Value.ref).length=xs.length:=by rw[ar,Zw]
 refine ab (wpAny_newList ?_ (by rw[I,ib];omega));have hD:(h1.push (seqObj "list" (B.map Value.ref).toArray 0)).get? h1.objs.size=some (seqObj "list" (B.map Value.ref).toArray 0):=ay _ rfl;have szl:(B.map Value.ref).length<64:=by omega
 have Z:∀(j:Nat) (c:Addr),B[j]?=some c->c<h1.objs.size/\s.heap.objs.size<c/\∃p,L[j]?=some p/\∀h2:Heap,(∀b o,b<h1.objs.size->h1.get? b=some o->h2.get? b=some o)->PrT h2 p c:=λj c F=>by
  obtain⟨e0,k,b,v,e1,e2⟩:=hG j c F;obtain⟨p,hp,pk,t,rfl⟩:=hL j k b v e1;refine⟨aE e2,e0,p,hp,λh2 k2=>⟨b,t,⟨_,k2 c _ (aE e2) e2,rfl,0,rfl⟩,N7 pk λo e=>?_⟩⟩;have e':=k1 b o e;exact k2 b o (aE e') e'
 have kS:∀b o,b<h1.objs.size->h1.get? b=some o->(lE (h1.push (seqObj "list" (B.map Value.ref).toArray 0)) h1.objs.size (B.map Value.ref)).get? b=some o:=λb o Y e=>N6 (bE Y) (ac _ e);refine ab (eg (dy slot_list_sort ⟨_,hD,rfl⟩ entry_list_sort ?body (args_list_sort _)))
 case body=>
  refine UW (A:=A.in1.in1) (s:={s with heap:=h1.push (seqObj "list" (B.map Value.ref).toArray 0),toks:=U}) (ltAt L) hD szl (λh2 Q M=>?_) (λi j C hi F M=>?_) ?_
  ·obtain⟨fs,f1,f2,f3⟩:=G7 (h:=lE (h1.push (seqObj "list" (B.map Value.ref).toArray 0)) h1.objs.size (B.map Value.ref)) B λc hc=>by
    obtain⟨j,F⟩:=dQ.mp hc;obtain⟨_,_,p,_,e⟩:=Z j c F;exact⟨p,e _ kS⟩
   refine kat_kind (T:=.type "tuple") f2 (by rw[f1];simp at h2;omega) (λv hv=>?_) (by decide) M;obtain⟨b,o,rfl,e1,e2⟩:=f3 v hv;rw[←e2];exact(W.Looks.ld e1).andThen .now
  ·rw[ar]at hi F
   obtain⟨_,_,p,hp,e1⟩:=Z i B[i] (ax hi);obtain⟨_,_,q',ZV,e2⟩:=Z j B[j] (ax F);have g1:(B.map Value.ref).getD i Value.none=.ref B[i]:=by simp[hi]
   have g2:(B.map Value.ref).getD j Value.none=.ref B[j]:=by simp[F]
   unfold kas_ask;rw[g1,g2];unfold ltAt at M;rw[hp,ZV]at M;exact UV (by rw[in1_units,in1_units];omega) (e1 _ kS) (e2 _ kS) M
  ·refine⟨_,rfl,ai ⟨_,rfl,?_⟩⟩
   have J:∀b o,b<h1.objs.size->h1.get? b=some o->(sortedHeap (h1.push (seqObj "list" (B.map Value.ref).toArray 0)) h1.objs.size (B.map Value.ref) (pq (ltAt L) (B.map Value.ref)).toArray).get? b=some o:=λb o Y e=>by
    rw[sortedHeap_old (bE Y) (bX Y (by rw[size_push'];exact hJ _))];exact ac _ e
   obtain⟨e,he⟩:=sortedHeap_at (out:=(pq (ltAt L) (B.map Value.ref)).toArray) hD;refine q _ U h1.objs.size e B (gz sz1) (λb o eb=>J b o (aE (k1 b o eb)) (k1 b o eb)) Zw (λc hc=>?_) (λj c F=>?_) ?_
   ·obtain⟨j,F⟩:=dQ.mp hc
    obtain⟨a1,a2,_⟩:=Z j c F;exact⟨gz a2,bE a1⟩
   ·obtain⟨e0,k,b,v,e1,e2⟩:=hG j c F
    exact⟨e0,k,b,v,e1,J c _ (aE e2) e2⟩
   ·rw[he]
    have eo:pq (ltAt L) (B.map Value.ref)=(q8 (ltAt L) L.length).map λi=>Value.ref (B.getD i 0):=by
     unfold pq;rw[I,O];refine hW λi hi=>?_;have LN:i<B.length:=by
      have:=(qj _ _).mem_iff.mp hi;rw[cf]at this;omega
     simp[LN]
    rw[eo]
end
noncomputable def wM(L:List ((Int×Str)×Int)):List ((Int×Str)×Int):=(q8 (ltAt L) L.length).map λi=>L.getD i ((0, ""),0)
def Lb(L:List ((Int×Str)×Int)):(wM L).Perm L:=by
 unfold wM;have h:=(qj (ltAt L) L.length).map λi=>L.getD i ((0, ""),0);have e:(List.range L.length).map (λi=>L.getD i ((0, ""),0))=L:=by
  apply List.ext_getElem
  ·simp
  ·intro i h1 h2
   simp[h2]
 rw[e]at h;exact h
def Jn(p a:Addr)(h:Heap):Prop:=h.get? p=some {cls:=.type "dict_items",data:=.fields #[.ref a]}
noncomputable def kI(p:(Int×Str)×Int):List D5×V:=([.k (.inl p.1.1),.k (.inr p.1.2)],.int p.2)
def zB(K:W.Frag)(H:Hp)(p:(Int×Str)×Int)(v:V):Prop:=∃c b,v=.ref c/\H c=some (.tup [.ref b,.int p.2])/\(H b=some (.tup [.int p.1.1,.str p.1.2])\/LF K b [.int p.1.1,.str p.1.2])
section
variable {X:Cx}{D3:qS}{FV:St}{H:Hp}{s:Shared}{apos EN:Pos}{td:TE}{o:Expr}
def U0(td:TE):TE:=fun FV H Q=>td FV H λx H1=>∃a kvs,x=.ref a/\Rd H1 a (.dT kvs)/\∀p,H1 p=none->Q (.ref p) (upd H1 p (.ext (Jn p a)))
def N8(ho:PE X o td)(F6:SY X o "items" := by rfl)(Z:autoParam ((apos.endLine == EN.line)=true) r0_):
  PE X (.Call (.Attribute o "items" apos) [] [] EN) (U0 td):=by
 intro D3 s FV H Q I h;refine wpAny_Call_method (T := "dict") (id := "dict.items") F6 rfl Z F.plainAttrs_dict F.slot_dict_items F.type_dict_items (EO (ho D3 s FV H _ I h) ?_);rintro u j ⟨x,H1,B,U,a,kvs,ex,O,q⟩;subst ex;cases(show u=Value.ref a from U);obtain⟨M,t2,_⟩:=Ka B (.inr ⟨kvs,O⟩);refine⟨M,t2,?_⟩;obtain⟨_,hd,xs,Y,dd⟩:=Cy B.GL B.EJ O;have J:Jn j.heap.objs.size a (j.heap.push {cls:=.type "dict_items",data:=.fields #[.ref a]}):=ay _ rfl;have I2:Inv X D3 FV (upd H1 j.heap.objs.size (.ext (Jn j.heap.objs.size a))) {j with heap:=j.heap.push {cls:=.type "dict_items",data:=.fields #[.ref a]},toks:=j.toks}:=
  B.laid (λb o e=>ac _ e) (aI _) ⟨J,⟨_,J⟩,λh1 h2 e k=>k _ e⟩
 refine method_meetsIn F.slot_dict_items F.entry_dict_items rfl (PySem.evalArgs_none ⟨rfl,M,F.args_dict_items_1 _,_,Dq (eZ X.prog X.w) a hd,⟨xs,dd⟩,?_⟩);exact⟨.ref j.heap.objs.size,_,I2,rfl,q _ (B.EJ.fresh (aI _))⟩
def U3{K:W.Frag}{h:Heap}{b:Addr}{p:Int×Str}{P:Program}{w:World}(B:K.In h)(ok:IA P w K H h)(c:GI K H b [.k (.inl p.1),.k (.inr p.2)]):(H b=some (.tup [.int p.1,.str p.2])\/LF K b [.int p.1,.str p.2])/\UB h p b:=by
 have q:∀vs,MS K H [.k (.inl p.1),.k (.inr p.2)] vs->vs=[.int p.1,.str p.2]:=λvs k=>by
  rcases k with k|⟨x,b,e,_⟩
  ·cases k with
   |cons a k=>cases k with
    |cons b k=>
     cases k;rcases a with⟨x,e,rfl⟩|⟨ns,_,_,e,_⟩
     ·cases e
      rcases b with⟨y,e,rfl⟩|⟨ns,_,_,e,_⟩
      ·cases e;rfl
      ·exact(D5.Yw e.symm).elim
     ·exact(D5.Yw e.symm).elim
  ·cases e
 have j:∀us:List Value,Vals [.int p.1,.str p.2] us->∃t u,us=[.int p.1 t,.str p.2 u]:=λus r=>by
  cases r with
  |cons a r=>cases r with
   |cons b r=>
    cases r;obtain⟨t,rfl⟩:=a;obtain⟨u,rfl⟩:=b;exact⟨t,u,rfl⟩
 rcases c with⟨vs,e,k⟩|⟨vs,e,k⟩
 ·cases q vs k
  refine⟨.inl e,?_⟩;obtain⟨_,I,r,it⟩:=(show EG P w K H h b (.tup [.int p.1,.str p.2])from ok b _ e);have it:=it.tup;obtain⟨t,u,rfl⟩:=j _ r;exact⟨t,u,it⟩
 ·cases q vs k
  refine⟨.inr e,?_⟩;obtain⟨o,I,n,e1,e2,e3,_,r⟩:=e;obtain⟨t,u,F⟩:=j _ r;refine⟨t,u,o,B b o e1,e2,n,?_⟩;rw[e3];congr 1;exact Array.toList_inj.mp F
noncomputable def I0(o:Obj):List V:=match o.data with
 |.seq EA _=>EA.toList.filterMap Sy
 |_=>[]
def Jf(Z:X.calm=true)(hu:X.A.units+9<cLine):Fh X (.builtin "sorted") (λxs H Q=>∃p a L,xs=[.ref p]/\H p=some (.ext (Jn p a))/\Rd H a (.dT (L.map kI))/\L.length<64 /\
  ∀H2 l vs,D8 H H2->H l=none->H2 l=none->Paired (zB X.K H2) (wM L) vs->Q (.ref l) (upd H2 l (.lst vs))):=by
 intro D3 s FV H xs us Q I r h;obtain⟨p,a,L,rfl,hp,ha,h64,q⟩:=h;obtain⟨u,rfl,ru⟩:=Vals.one r;cases(show u=Value.ref p from ru);have vw:Jn p a s.heap:=(show EG X.prog X.w X.K H s.heap p (.ext (Jn p a))from I.EJ p _ hp).1;obtain⟨_,hd,ys,rel,dd⟩:=Cy I.GL I.EJ ha;have hlen:L.length=ys.length:=by rw[←iE rel,ar]
 have at':∀(j:Nat) (k:List D5) (b:Addr) (v:Value),ys[j]?=some (k,b,v)->∃p:(Int×Str)×Int,L[j]?=some p/\(H b=some (.tup [.int p.1.1,.str p.1.2])\/LF X.K b [.int p.1.1,.str p.1.2])/\UB s.heap p.1 b/\∃t,v=Value.int p.2 t:=λj k b v e=>by
  obtain⟨⟨k',v'⟩,e1,e2,e3,e4⟩:=qO rel e;rw[cm]at e1;obtain⟨p,hp,ep⟩:=bv.mp e1;cases ep;obtain⟨g1,g2⟩:=U3 I.GL I.EJ e3;exact⟨p,hp,g1,g2,e4⟩
 refine Rn (kd:=eZ X.prog X.w) L (I.ok.hd Z) hu ⟨_,vw,rfl,rfl⟩ dd (λh h' k x b e=>?_) hlen (by omega) (λj k b v e=>let ⟨p,h1,_,F⟩:=at' j k b v e;⟨p,h1,F⟩) λh' tk D e B M kp Zw Y lie hL=>?_
 ·obtain⟨o,EA,n,h1,h2,F,r⟩:=e
  have go:∀(n:Nat) (x:D5) (v:Value),HC n h x v->HC n h' x v:=by
   intro n;induction n with
   |zero=>exactλ_ _ z=>z
   |succ n ih=>exactλx v z=>z.imp id λ⟨ns,a,e,ev,o,EA,m,h1,h2,F,p⟩=>⟨ns,a,e,ev,o,EA,m,k a o h1 h2,h2,F,gY p ih⟩
  exact⟨o,EA,n,k b o h1 h2,h2,F,gY r (go 2)⟩
 ·have new:∀c,s.heap.objs.size<=c->H c=none:=λc Z=>I.EJ.fresh Z
  have old:∀b o,s.heap.get? b=some o->b≠D/\b∉B:=λb o e=>⟨bE (bX (aE e) M),λJ=>absurd (aE e) (Nat.not_lt.mpr (Y b J).1)⟩;have tp:∀(j:Nat) (c:Addr),B[j]?=some c->∃(p:(Int×Str)×Int) (b:Addr) (t:Tok),L[j]?=some p/\(H b=some (.tup [.int p.1.1,.str p.1.2])\/LF X.K b [.int p.1.1,.str p.1.2])/\h'.get? c=some {cls:=.type "tuple",data:=.seq #[.ref b,.int p.2 t]}:=λj c O=>by
   obtain⟨_,k,b,v,e1,e2⟩:=lie j c O;obtain⟨p,h1,h2,_,t,rfl⟩:=at' j k b v e1;exact⟨p,b,t,h1,h2,e2⟩
  have HTd:∃HT:Hp,(∀c,c∉B->HT c=H c)/\∀(j:Nat) (c:Addr),B[j]?=some c->∀(p:(Int×Str)×Int) (b:Addr) (t:Tok),h'.get? c=some {cls:=.type "tuple",data:=.seq #[.ref b,.int p.2 t]}->HT c=some (.tup [.ref b,.int p.2]):=by
   refine⟨λc=>if c∈B then some (.tup (I0 ((h'.get? c).getD {cls:=.none,data:=.fields #[]})))else H c,λc Z=>br Z,λj c O p b t e=>?_⟩;show(if c∈B then _ else _)=_;rw[bS (b9 O),e];rfl
  obtain⟨HT,t1,t2⟩:=HTd;have U:D8 H HT:=λb o e=>by rw[t1 b λJ=>by rw[new b (Y b J).1]at e;cases e];exact e
  have fD:HT D=none:=by rw[t1 D λJ=>(Y D J).2 rfl];exact new D M
  have out:∃vs:List V,Paired (zB X.K HT) (wM L) vs/\Vals vs ((q8 (ltAt L) L.length).map λi=>Value.ref (B.getD i 0))/\vs.length=L.length:=by
   refine⟨(q8 (ltAt L) L.length).map λi=>V.ref (B.getD i 0),?_,?_,?_⟩
   ·unfold wM
    have go:∀l:List Nat,(∀i∈l,i<L.length)->Paired (zB X.K HT) (l.map λi=>L.getD i ((0, ""),0)) (l.map λi=>V.ref (B.getD i 0)):=by
     intro l;induction l with
     |nil=>exactλ_=>.nil
     |cons i l ih=>
      intro hl;refine .cons ?_ (ih λj O=>hl j (ap _ O));have hi:i<L.length:=hl i av;have LN:i<B.length:=by omega
      obtain⟨p,b,t,h1,h2,F⟩:=tp i B[i] (ax LN);have eL:L.getD i ((0, ""),0)=p:=by rw[dn,h1];rfl
      have eA:B.getD i 0=B[i]:=by simp[LN]
      show zB X.K HT (L.getD i ((0, ""),0)) (V.ref (B.getD i 0));rw[eL,eA];exact⟨B[i],b,rfl,t2 i _ (ax LN) p b t F,h2.imp (λz=>U _ _ z) id⟩
    exact go _ λi hi=>by
     have:=(qj _ _).mem_iff.mp hi;exact cf.mp this
   ·have go:∀l:List Nat,Vals (l.map λi=>V.ref (B.getD i 0)) (l.map λi=>Value.ref (B.getD i 0)):=by
     intro l;induction l with
     |nil=>exact .nil
     |cons i l ih=>exact .cons rfl ih
    exact go _
   ·rw[ar,(qj _ _).length_eq,fq]
  obtain⟨vs,p1,p2,p3⟩:=out;refine⟨.ref D,upd HT D (.lst vs),I.step (g':=s.gens) (d':=s.drawn) (ch:=[]) (λ_ z=>nomatch z) (λb o _ _ _ e _=>kp b o e) (λb o _ _ _ e _=>⟨o.slots,kp b o e⟩)
   (λb o _ e z=>?_) (λb o _ e=>⟨o,kp b o e⟩) (λb xs z=>?_) (λb o u z=>?_) (λb ps z=>⟨#[],?_⟩) (λm ⟨o,es,ep,ho,r⟩=>⟨o,es,ep,kp _ _ ho,r⟩) (λb u z=>?_) I.bare,rfl,q HT D vs U (new D M) fD p1⟩
  ·rw[aG (old b o e).1,t1 b (old b o e).2];exact z
  ·rw[aG (aF z (new D M))];exact U _ _ z
  ·rw[aG (aF z (new D M))];exact U _ _ z
  ·rw[aG (aF z (new D M)),U _ _ z];simp
  ·by_cases J:b=D
   ·rw[J,aB]at z
    cases z;rw[J];exact⟨by rw[p3,ib];omega,_,e,p2,hL⟩
   ·rw[aG J]at z
    by_cases hb2:b∈B
    ·obtain⟨j,O⟩:=dQ.mp hb2
     obtain⟨p,c,t,_,_,F⟩:=tp j b O;rw[t2 j b O p c t F]at z;cases z;exact⟨by show(2:Nat)<=sizeLine;decide,[.ref c,.int p.2 t],.cons rfl (.cons ⟨t,rfl⟩ .nil),_,F,rfl,0,rfl,rfl⟩
    ·rw[t1 b hb2]at z
     exact(I.EJ b u z).NN (λa v _ w=>kp a v w) (λa w=>by rw[aG (aF w (new D M))];exact U _ _ w) λa xs w=>by rw[aG (aF w (new D M))];exact U _ _ w
end
end Lake.L2
namespace Lake.MR
open PySem L2
noncomputable def kJ(p:(Int×Str)×Int):List D5×PV:=([.k (.inl p.1.1),.k (.inr p.1.2)],.int p.2)
open Classical in
noncomputable def Du(kvs:sB):Option (List ((Int×Str)×Int)):=if h:∃L,kvs=L.map kJ then some h.choose else none
noncomputable def O0(p:(Int×Str)×Int):PV:=.tup [.tup [.int p.1.1,.str p.1.2],.int p.2]
@[simp] noncomputable def Dv:PV->Option PV
 |.dT kvs=>(Du kvs).bind λL=>if L.length<64 then some (.lst ((wM L).map O0))else none
 |_=>none
variable {C:MC}{H:Hp}
set_option tactic.hygienic true in def N_{A:se}{j:List (List D5×V)}{kvs:sB}{L:List ((Int×Str)×Int)}(r:EM C A H j kvs)(e:Du kvs=some L):j=L.map kI:=by
 unfold Du at e;split at e
 ·rename_i h
  cases e;have q:=h.choose_spec;generalize h.choose=L at q;clear h;subst q;induction L generalizing j with
  |nil=>cases r;rfl
  |cons y L B=>
   cases r with
   |cons r t=>cases r;rw[B t];rfl
 ·cases e
section
variable {X:Cx}{b:BX}{G:qV}{apos EN p pos:Pos}{m:Md}{e:Expr}{f:si}
def Oa{A:se}{p:(Int×Str)×Int}{v:V}(h:zB C.K H p v):Rep C A H v (O0 p):=by
 obtain⟨c,b,rfl,h1,h2⟩:=h;refine .tup h1 (.cons ?_ (.cons (.int _) .nil));have r:D7 C A H [.int p.1.1,.str p.1.2] [.int p.1.1,.str p.1.2]:=.cons (.int _) (.cons (.str _) .nil);rcases h2 with h2|h2
 ·exact .tup h2 r
 ·exact .GY h2 r
theorem Aq{C:MC}{A:se}{H:Hp}:∀{L:List ((Int×Str)×Int)}{vs:sC},Paired (zB C.K H) L vs->D7 C A H vs (L.map O0)
 |_,_,.nil=>.nil
 |_,_,.cons h t=>.cons (Oa h) (Aq t)
set_option tactic.hygienic true in def Ob{k:Nat}(hr:EU k X.A)(hm:X.mg "sorted" = none)(h:SE X b G m e f)(I:autoParam (X.calm=true) r0_)(hK:autoParam (X.K=b.C.K) r0_)(hg:Gl X "sorted" := by rfl)(F6:SY X e "items" := by rfl)(Z:autoParam ((apos.endLine == EN.line)=true) r0_)
  (M:autoParam (starEach [.Call (.Attribute e "items" apos) [] [] EN] X.env=(false,eval (.Call (.Attribute e "items" apos) [] [] EN) X.env)::starEach [] X.env) r0_) (FO:autoParam (Lo X pos []) r0_):
  SE X b G .own (.Call (.Name "sorted" p) [.Call (.Attribute e "items" apos) [] [] EN] [] pos) (b1 Dv f):=by
 refine PE.imp (gZ (Jf I (fP hr)) hg hm PyProof.Rows.boot_sorted (aD (N8 h.bor F6 Z) aV M) (by decide) (by decide) M FO) ?_;rintro FV H Q ⟨Ow,env,q,E,j,k⟩;obtain⟨x,hx,j⟩:=aJ j;unfold Dv at j;split at j
 ·rename_i kvs
  obtain⟨L,hL,j⟩:=ae.mp j;split at j
  ·rename_i F
   cases j;refine⟨Ow,env,_,E,hx,λv H1 s r=>?_⟩;have r1:EB b.C (Bs b Ow) H1 v (.dT kvs):=r;obtain⟨a,kv,rfl,J,ra⟩:=r1.dT;have ek:=N_ ra hL;subst ek;refine⟨a,_,rfl,.inl J,λp Y=>?_⟩;have nap:a≠p:=aF J Y;have B:=aM Y (.ext (Jn p a));refine⟨p,a,L,rfl,aB,.inl (B _ _ J),F,λH2 l vs s2 hl NG U=>?_⟩;have O:H1 l=none:=B.free hl;refine k _ _ (((s.trans B).trans s2).over (s.free O) _) ⟨l,rfl,s.free O,vs,aB,?_⟩;rw[hK]at U;exact(Aq (A:=λ_=>False) U).ex λc o e=>⟨λz=>z.elim,λ_=>by rw[aG (aF e NG)];exact e⟩
  ·cases j
 ·cases j
end
structure WS where
 Sb:List (List D5×PV)
 most:Int
 fin:PV
 FL:List PV
 nums:List (List D5×PV)
 L3:List (Key×PV)
structure WC where
 n:Nat
 a:Addr
 dx:Addr
 ah:Addr
 lp:Addr
 ln:Addr
 lo:Addr
 fin:V
noncomputable def WC.fs(c:WC)(m:Int):List (Str×V):=[("ahead",.ref c.ah),("most",.int m),("end",c.fin),("places",.ref c.lp),("numbers",.ref c.ln),("onward",.ref c.lo)]
structure WR(C:MC)(F:se)(H:Hp)(c:WC)(w:WS):Prop where
 ob:H c.a=some (.ins (C.cl c.n) c.dx (c.fs w.most))
 ah:∃kv,H c.ah=some (.dT kv)/\EM C F H kv w.Sb
 fn:Rep C F H c.fin w.fin
 lp:∃vs,H c.lp=some (.lst vs)/\D7 C F H vs w.FL
 ln:∃kv,H c.ln=some (.dT kv)/\EM C F H kv w.nums
 lo:∃kv,H c.lo=some (.dK kv)/\EZ C F H kv w.L3
 ne:c.ah≠c.ln
 dm:∀b,F b->∃o,H b=some o
 nF:¬ F c.a/\¬ F c.ah/\¬ F c.lp/\¬ F c.ln/\¬ F c.lo
structure WT(K:W.Frag)(Cl:Addr):Prop where
 cl:OE K Cl
 YV:EX K Cl "ahead"
 n_most:EX K Cl "most"
 n_end:EX K Cl "end"
 Ki:EX K Cl "places"
 HE:EX K Cl "numbers"
 N0:EX K Cl "onward"
section
variable {C:MC}{F F':se}{H H':Hp}{c:WC}{w:WS}
def WR.ex(W:WR C F H c w)(e:Ex F H F' H')(k:∀b o,(b=c.a\/b=c.ah\/b=c.lp\/b=c.ln\/b=c.lo)->H b=some o->H' b=some o)(dm:∀b,F' b->∃o,H' b=some o)(n:¬ F' c.a/\¬ F' c.ah/\¬ F' c.lp/\¬ F' c.ln/\¬ F' c.lo):WR C F' H' c w where
 ob:=k _ _ (.inl rfl) W.ob
 ah:=let ⟨kv,h,r⟩:=W.ah;⟨kv,k _ _ (.inr (.inl rfl)) h,r.ex e⟩
 fn:=W.fn.ex e
 lp:=let ⟨kv,h,r⟩:=W.lp;⟨kv,k _ _ (.inr (.inr (.inl rfl))) h,r.ex e⟩
 ln:=let ⟨kv,h,r⟩:=W.ln;⟨kv,k _ _ (.inr (.inr (.inr (.inl rfl)))) h,r.ex e⟩
 lo:=let ⟨kv,h,r⟩:=W.lo;⟨kv,k _ _ (.inr (.inr (.inr (.inr rfl)))) h,r.ex e⟩
 ne:=W.ne
 dm:=dm
 nF:=n
def WR.same(W:WR C F H c w)(s:D8 H H'):WR C F H' c w:=W.ex (.of_same s) (λb o _ e=>s b o e) (λb f=>let ⟨o,e⟩:=W.dm b f;⟨o,s b o e⟩) W.nF
noncomputable def WS.pv(w:WS)(n:Nat):PV:=.obj n [("ahead",.dT w.Sb),("most",.int w.most),("end",w.fin),("places",.lst w.FL),("numbers",.dT w.nums),("onward",.dK w.L3)]
def WR.rep(W:WR C F H c w):Rep C (λb=>F b\/b=c.a\/b=c.ah\/b=c.lp\/b=c.ln\/b=c.lo) H (.ref c.a) (w.pv c.n):=by
 have e:Ex F H (λb=>F b\/b=c.a\/b=c.ah\/b=c.lp\/b=c.ln\/b=c.lo) H:=bB λ_ _ _ z=>.inl z;obtain⟨k1,h1,j⟩:=W.ah;obtain⟨k2,h2,I⟩:=W.lp;obtain⟨O,B,M⟩:=W.ln;obtain⟨U,q,J⟩:=W.lo;exact .obj W.ob (.inr (.inl rfl)) (.cons (.dT h1 (.inr (.inr (.inl rfl))) (j.ex e)) (.cons (.int _) (.cons (W.fn.ex e) (.cons (.lst h2 (.inr (.inr (.inr (.inl rfl)))) (I.ex e)) (.cons (.dT B (.inr (.inr (.inr (.inr (.inl rfl))))) (M.ex e)) (.cons (.dK q (.inr (.inr (.inr (.inr (.inr rfl))))) (J.ex e)) .nil))))))
end
noncomputable def wN(w:WS)(p:PV):Option (Int×WS):=match p with
 |.tup xs=>(EI xs).bind λk=>match aZ w.nums k with
  |some (.int n)=>some (n,w)
  |none=>if w.FL.length<1000000/\w.nums.length<1000000 then some ((w.FL.length:Nat),{w with nums:=cu w.nums k (.int (w.FL.length:Nat)),FL:=w.FL++[.tup xs]})else none
  |_=>none
 |_=>none
def Kept(c:WC)(F:se)(H H':Hp):Prop:=∀b o,H b=some o->b≠c.lp->b≠c.ln->b≠c.lo->H' b=some o
def vM(C:MC):Sp:=λvs H Q _=>∃F c w v p n w',vs=[.ref c.a,v]/\WT C.K (C.cl c.n)/\WR C F H c w/\Rep C F H v p/\wN w p=some (n,w')/\∀H',Kept c F H H'->WR C F H' c w'->Q (.int n) H'
variable {vs:sC}{Q:VK}
def Ld{E:XK}(h:vM C vs H Q E):vs.length=2:=by
 obtain⟨F,c,w,v,p,n,j,e,_⟩:=h;rw[e];rfl
abbrev Jg(K:PySem.W.Frag):List V->Hp->VK->Prop:=λxs H Q=>∃p ys,xs=[.ref p]/\(Fc K H p ys\/GN K H p ys)/\Q (.int ys.length) H
def Oc(K:W.Frag):TS:=
 bO (jG (tB (jq K (EC 1) (mG K (EC 0) "numbers")))
   (bO (pN K (mG K (EC 0) "numbers") (EC 1) (Zh (Jg K) (aU (mG K (EC 0) "places") bF)))
    (nM (Zk K "list" vC (mG K (EC 0) "places") (aU (EC 1) bF))))
   iW)
  (fQ (sU K (mG K (EC 0) "numbers") (EC 1)))
set_option tactic.hygienic true in def Ro{E:XK}(h:vM C vs H Q E):Oc C.K {nx:=λ_ H'=>Q .Ee H',rt:=Q} (L2.start ["self","place"] vs) H:=by
 obtain⟨F,c,w,v,p,n,w',rfl,T,W,rp,Y,q⟩:=h;obtain⟨I,J,rn⟩:=W.ln;obtain⟨pl,M,rl⟩:=W.lp;cases p<;>first|(cases Y;done)|skip
 rename_i xs;obtain⟨k,hk,Y⟩:=ae.mp (show((EI xs).bind _)=_ from Y);obtain⟨b,us,rfl,hb,rb⟩:=EB.tup (.inl rp);have ck:GI C.K H b k:=hb.key (rb.EI hk);have e0:(L2.start ["self","place"] [V.ref c.a,V.ref b])[0]?=some (some (.ref c.a)):=rfl;have e1:(L2.start ["self","place"] [V.ref c.a,V.ref b])[1]?=some (some (.ref b)):=rfl;have j:∀(f:Str) (x:V) (H1:Hp),EX C.K (C.cl c.n) f->(c.fs w.most).lookup f=some x->H1 c.a=some (.ins (C.cl c.n) c.dx (c.fs w.most))->∀R:VK,R x H1->mG C.K (EC 0) f (L2.start ["self","place"] [V.ref c.a,V.ref b]) H1 R:=λf x H1 na lk O R r=>⟨_,e0,c.a,_,_,_,x,rfl,O,T.cl,na,lk,r⟩;unfold Oc;dsimp only[bO,jG,tB,jq,pN,Zh,nM,Zk,fQ,sU,iW,aU,bF];refine⟨_,e1,j "numbers" _ _ T.HE rfl W.ob _ ⟨c.ln,_,rfl,FE.t J ck,_,rfl,?_⟩⟩;rcases EM.val (k:=k) rn with⟨y,py,g1,g2,ry⟩|⟨g1,g2⟩
 ·have B:(match aZ w.nums k with|some (.int n)=>some (n,w)|none=>if w.FL.length<1000000/\w.nums.length<1000000 then some (((w.FL.length:Nat):Int),{w with nums:=cu w.nums k (.int (w.FL.length:Nat)),FL:=w.FL++[.tup xs]})else none|_=>none)=some (n,w'):=Y
  have eL:aZ w.nums k=some py:=g2;rw[eL]at B;cases py<;>first|(cases B;done)|skip
  cases B;cases ry;rw[g1];refine mJ ?_;refine j "numbers" _ _ T.HE rfl W.ob _ ?_;refine⟨_,e1,c.ln,_,rfl,by rw[←g1];exact FE.t J ck,?_⟩;exact q H (λb o e _ _ _=>e) W
 ·have B:(match aZ w.nums k with|some (.int n)=>some (n,w)|none=>if w.FL.length<1000000/\w.nums.length<1000000 then some (((w.FL.length:Nat):Int),{w with nums:=cu w.nums k (.int (w.FL.length:Nat)),FL:=w.FL++[.tup xs]})else none|_=>none)=some (n,w'):=Y
  have eL:aZ w.nums k=none:=g2;rw[eL]at B;dsimp only at B;split at B
  ·rename_i hz
   cases B;rw[g1];refine jH ?_;have lpl:pl.length=w.FL.length:=rl.length;have U:c.lp≠c.ln:=cO M J (λz=>nomatch z);have nal:c.a≠c.ln:=cO W.ob J (λz=>nomatch z);have nap:c.a≠c.lp:=cO W.ob M (λz=>nomatch z);refine j "places" _ _ T.Ki rfl W.ob _ ?_;refine⟨c.lp,pl,rfl,.inl (Fc.of M),?_⟩;refine j "numbers" _ _ T.HE rfl W.ob _ ?_;refine⟨_,e1,c.ln,_,rfl,LH.t J ck (cT (by rw[rn.length];omega)),?_⟩;have W1:upd H c.ln (.dT (putK I k (.int (pl.length:Nat)))) c.a=some (.ins (C.cl c.n) c.dx (c.fs w.most)):=by rw[aG nal];exact W.ob
   have P1:upd H c.ln (.dT (putK I k (.int (pl.length:Nat)))) c.lp=some (.lst pl):=by rw[aG U];exact M
   refine j "places" _ _ T.Ki rfl W1 _ ?_;refine⟨.inl ⟨rfl,pl,Fc.of P1⟩,_,e1,c.lp,pl,.ref b,rfl,rfl,P1,cT (by omega),?_⟩;have W2:upd (upd H c.ln (.dT (putK I k (.int (pl.length:Nat))))) c.lp (.lst (pl++[.ref b])) c.a=some (.ins (C.cl c.n) c.dx (c.fs w.most)):=by rw[aG nap];exact W1
   refine j "numbers" _ _ T.HE rfl W2 _ ?_;have L2:upd (upd H c.ln (.dT (putK I k (.int (pl.length:Nat))))) c.lp (.lst (pl++[.ref b])) c.ln=some (.dT (putK I k (.int (pl.length:Nat)))):=by rw[aG U.symm,aB]
   have Z:∀x o,H x=some o->x≠c.lp->x≠c.ln->upd (upd H c.ln (.dT (putK I k (.int (pl.length:Nat))))) c.lp (.lst (pl++[.ref b])) x=some o:=λx o e n1 n2=>by rw[aG n1,aG n2];exact e
   have ex:Ex F H F (upd (upd H c.ln (.dT (putK I k (.int (pl.length:Nat))))) c.lp (.lst (pl++[.ref b]))):=λx o e=>⟨λf=>⟨Z x o e (λz=>W.nF.2.2.1 (z▸f)) (λz=>W.nF.2.2.2.1 (z▸f)),f⟩,λm=>Z x o e (λz=>by rw[z,M]at e;cases e;cases m) λz=>by rw[z,J]at e;cases e;cases m⟩;have ck2:GI C.K _ b k:=ck.keeps (H':=upd (upd H c.ln (.dT (putK I k (.int (pl.length:Nat))))) c.lp (.lst (pl++[.ref b]))) λx ys e=>(ex x _ e).2 rfl;have g3:dU (putK I k (.int (pl.length:Nat))) k=some (.int (pl.length:Nat)):=by rw[wF,bS rfl]
   refine⟨_,e1,c.ln,_,rfl,by rw[←g3];exact FE.t L2 ck2,?_⟩;rw[lpl]at *;obtain⟨ka,ha,ra⟩:=W.ah;obtain⟨ko,O,ro⟩:=W.lo;refine q _ (λx o e n1 n2 _=>Z x o e n1 n2) ⟨W2,⟨ka,Z _ _ ha (cO ha M (λz=>nomatch z)) W.ne,ra.ex ex⟩,W.fn.ex ex,⟨_,aB,(rl.ex ex).append (.cons (rp.ex ex) .nil)⟩,⟨_,L2,EM.put (.int _) (rn.ex ex)⟩,⟨ko,Z _ _ O (cO O M (λz=>nomatch z)) (cO O J (λz=>nomatch z)),ro.ex ex⟩,W.ne,λx f=>(let ⟨o,e⟩:=W.dm x f;⟨o,((ex x o e).1 f).1⟩),W.nF⟩
  ·cases B
section
variable {C:MC}{A F:se}{H:Hp}
theorem Dw{f:PV->Option D5}(q:∀v p k,Rep C A H v p->f p=some k->Rep C F H v p):∀{vs:sC}{ps:sA}{ks:List D5},D7 C A H vs ps->uP f ps=some ks->D7 C F H vs ps
 |_,_,_,.nil,_=>.nil
 |_,_,_,.cons (p:=p) (ps:=ps) h t,e=>by
  unfold uP at e;obtain⟨k,B,e⟩:=ae.mp e;obtain⟨ks,j,e⟩:=ae.mp e;exact .cons (q _ _ _ h B) (Dw q t j)
def ql{f:PV->Option D5}(j:∀v p k,Rep C A H v p->f p=some k->Rep C F H v p){ps:sA}{ks:List D5}(r:D7 C A H vs ps)(e:jY f ps=some ks):D7 C F H vs ps:=by
 unfold jY at e;split at e
 ·cases r with
  |cons h1 t=>cases t with
   |cons h2 t=>cases t;cases h1;cases h2;exact .cons (.str _) (.cons (.bl _) .nil)
 ·exact Dw j r e
def Dy(v:V)(p:PV)(k:D5)(r:Rep C A H v p)(e:Ik p=some k):Rep C F H v p:=by
 cases r with
 |int i=>exact .int i
 |str x=>exact .str x
 |_=>cases e
def tU{f:PV->Option D5}(B:∀v p k,Rep C A H v p->f p=some k->Rep C F H v p)(v:V)(p:PV)(k:D5)(r:Rep C A H v p)(e:Il f p=some k):Rep C F H v p:=by
 cases r with
 |tup h q=>
  obtain⟨ks,j,e⟩:=bv.mp (show(jY f _).map D5.tp=some k from e);exact .tup h (ql B q j)
 |GY h q=>
  obtain⟨ks,j,e⟩:=bv.mp (show(jY f _).map D5.tp=some k from e);exact .GY h (ql B q j)
 |tupK h q=>
  obtain⟨ks,j,e⟩:=bv.mp (show(jY f _).map D5.tp=some k from e);exact .tupK h (ql B q j)
 |int i=>exact .int i
 |str x=>exact .str x
 |_=>cases e
def G8{v:V}{xs:sA}{ks:List D5}(r:Rep C A H v (.tup xs))(e:EI xs=some ks):Rep C F H v (.tup xs):=by
 cases r with
 |tup h q=>exact .tup h (ql (tU (tU Dy)) q e)
 |GY h q=>exact .GY h (ql (tU (tU Dy)) q e)
end
noncomputable def N1(pb:sj)(cn:Nat)(num:Int):List PV->WS->Option (List PV×WS)
 |[],w=>some ([],w)
 |s::S,w=>(pb [w.pv cn,.int num,s]).bind λp=>(wN w p).bind λr=>(N1 pb cn num S r.2).bind λq=>some (.int r.1::q.1,q.2)
noncomputable def wO(pb:sj)(cn:Nat)(S:sA)(w:WS)(num:Int):Option (PV×WS):=match aZ w.L3 (.inl num)with
 |some l=>some (l,w)
 |none=>(N1 pb cn num S w).bind λr=>if r.2.L3.length<1000000/\r.1.length<1000000 then some (.lst r.1,{r.2 with L3:=cu r.2.L3 (.inl num) (.lst r.1)})else none
def Mo(F F':se)(H:Hp):Prop:=(∀b,F b->F' b)/\∀b,F' b->F b\/H b=none
def yo(C:MC)(cn:Nat)(pb:sj)(S:sA):Sp:=λvs H Q _=>∃F c w n l w',vs=[.ref c.a,.int n]/\c.n=cn/\WT C.K (C.cl c.n)/\WR C F H c w/\wO pb c.n S w n=some (l,w') /\
 ∀H' F' v,Kept c F H H'->Mo F F' H->WR C F' H' c w'->Rep C F' H' v l->Q v H'
def uT(C:MC)(aS:Addr)(S:sA):Prop:=∃us,GN C.K (λ_=>none) aS us/\∀B H,D7 C B H us S
def Od(C:MC)(cn:Nat)(pb:sj)(aS:Addr):TS:=
 bO (jG (tB (jq C.K (EC 1) (mG C.K (EC 0) "onward")))
   (pN C.K (mG C.K (EC 0) "onward") (EC 1) (jt (HF C.K (tC (.ref aS))) [none,some 0,some 1] (bu 0) sY
    (pM (C.cl cn) "number_of_place" (vM C) [] E0 (EC 1) (aU (pM (C.cl cn) "place_behind" (IL C pb false) [] E0 (EC 1) (aU (EC 2) (aU (EC 0) bF))) bF))))
   iW)
  (fQ (sU C.K (mG C.K (EC 0) "onward") (EC 1)))
set_option tactic.hygienic true in def Le{w j:WS}{p:PV}{n:Int}(h:wN w p=some (n,j)):∃xs ks,p=.tup xs/\EI xs=some ks/\j.most=w.most:=by
 cases p<;>first|(cases h;done)|skip
 rename_i xs;obtain⟨k,q,h⟩:=ae.mp (show((EI xs).bind _)=_ from h);refine⟨xs,k,rfl,q,?_⟩;split at h
 ·cases h;rfl
 ·split at h
  ·cases h;rfl
  ·cases h
 ·cases h
variable {F:se}
def Oe{c:WC}{w I:WS}{M:sj}{j k:Int}{s p:PV}{x:V}{D:Addr}{ys:sC}{R:VK}(T:WT C.K (C.cl c.n))(W:WR C F H c w)(rs:∀B H,Rep C B H x s)(hp:M [w.pv c.n,.int j,s]=some p)(O:wN w p=some (k,I))
  (q:∀H',Kept c F H H'->WR C F H' c I->R (.int k) H'):
  pM (C.cl c.n) "number_of_place" (vM C) [] E0 (EC 1) (aU (pM (C.cl c.n) "place_behind" (IL C M false) [] E0 (EC 1) (aU (EC 2) (aU (EC 0) bF))) bF) [some x,some (.ref c.a),some (.int j)] H R:=by
 obtain⟨xs,ks,rfl,hk,_⟩:=Le O;refine⟨_,rfl,c.a,c.dx,_,rfl,W.ob,rfl,?_⟩;refine⟨_,rfl,c.a,c.dx,_,rfl,W.ob,rfl,?_⟩;refine⟨_,rfl,_,rfl,?_⟩;refine⟨_,[w.pv c.n,.int j,s],_,.cons W.rep (.cons (.int _) (.cons (rs _ _) .nil)),hp,λv H1 J Y=>?_⟩;have U:Rep C F H1 v (.tup xs):=G8 (show Rep C _ H1 v (.tup xs)from Y) hk;exact⟨F,c,w,v,.tup xs,k,I,rfl,T,W.same J,U,O,λH' kp Z=>q H' (λb o e n1 n2 n3=>kp b o (J _ _ e) n1 n2 n3) Z⟩
variable {cn:Nat}
def Lf{j:sj}{S:sA}{E:XK}(h:yo C cn j S vs H Q E):vs.length=2:=by
 obtain⟨F,c,w,n,l,q,e,_⟩:=h;rw[e];rfl
def Jh{K:W.Frag}{q:Addr}{us:sC}{ED:List (Option Nat)}{tt:TT}{te:TE}{FV rest:St}(O:dW ED FV=none::rest)(M:GN K H q us)
  (k:∀D,H D=none->∃j:Nat->List V->Hp->Prop,j 0 [] (upd H D (.lst []))/\(∀i ys H,i<=us.length->j i ys H->GN K H q us/\H D=some (.lst ys)) /\
   (∀i x ys H,us[i]?=some x->j i ys H->tt (some x::rest) H λb B=>if b=true then te (some x::rest) B λy I=>I D=some (.lst ys)/\ys.length<sizeLine/\j (i+1) (ys++[y]) (upd I D (.lst (ys++[y])))else j (i+1) ys B) /\
   ∀ys H,j us.length ys H->Q (.ref D) H):jt (HF K (tC (.ref q))) ED (bu 0) tt te FV H Q:=
 ⟨⟨q,rfl,⟨us,M⟩,λD J=>let ⟨j,h0,h1,h2,h3⟩:=k D J;Nf O j h0 h1 h2 h3⟩⟩
set_option tactic.hygienic true in def Rp{pb:sj}{S:sA}{aS:Addr}{E:XK}(hS:uT C aS S)(h:yo C cn pb S vs H Q E):Od C cn pb aS {nx:=λ_ H'=>Q .Ee H',rt:=Q} (L2.start ["self","number"] vs) H:=by
 obtain⟨F,c,w,I,l,w',rfl,rfl,T,W,U,q⟩:=h;obtain⟨us,YW,rus⟩:=hS;obtain⟨ko,Zl,ro⟩:=W.lo;have e0:(L2.start ["self","number"] [V.ref c.a,V.int I])[0]?=some (some (.ref c.a)):=rfl;have e1:(L2.start ["self","number"] [V.ref c.a,V.int I])[1]?=some (some (.int I)):=rfl;have Y:∀(x:V) (H1:Hp) (m:Int),(c.fs m).lookup ("onward" : Str)=some x->H1 c.a=some (.ins (C.cl c.n) c.dx (c.fs m))->∀R:VK,R x H1->mG C.K (EC 0) "onward" (L2.start ["self","number"] [V.ref c.a,V.int I]) H1 R:=λx H1 m lk ho R r=>⟨_,e0,c.a,_,_,_,x,rfl,ho,T.cl,T.N0,lk,r⟩;unfold Od;dsimp only[bO,jG,tB,jq,pN,fQ,sU,iW];refine⟨_,e1,Y _ _ _ rfl W.ob _ ⟨c.lo,_,rfl,FE.k (k:=.inl I) Zl,_,rfl,?_⟩⟩;unfold wO at U;rcases EZ.val (k:=(.inl I:Key)) ro with⟨y,py,g1,g2,ry⟩|⟨g1,g2⟩
 ·have eL:aZ w.L3 (.inl I)=some py:=g2
  rw[eL]at U;cases U;rw[g1];refine mJ ?_;refine Y _ _ _ rfl W.ob _ ?_;refine⟨_,e1,c.lo,_,rfl,by rw[←g1];exact FE.k (k:=.inl I) Zl,?_⟩;exact q H F _ (λb o e _ _ _=>e) ⟨λ_ z=>z,λ_ z=>.inl z⟩ W ry
 ·have eL:aZ w.L3 (.inl I)=none:=g2
  rw[eL]at U;obtain⟨⟨ls,w1⟩,hF,U⟩:=ae.mp U;split at U
  ·rename_i hz
   cases U;rw[g1];refine jH ?_;refine Jh (us:=us) (rest:=[some (.ref c.a),some (.int I)]) rfl (qb YW) λD J=>?_;have j:∀b,b=c.a\/b=c.ah\/b=c.lp\/b=c.ln\/b=c.lo->b≠D:=λb hb z=>by
    subst z;obtain⟨_,h1,_⟩:=W.ah;obtain⟨_,h2,_⟩:=W.lp;obtain⟨_,h3,_⟩:=W.ln;rcases hb with rfl|rfl|rfl|rfl|rfl
    ·rw[W.ob]at J;cases J
    ·rw[h1]at J;cases J
    ·rw[h2]at J;cases J
    ·rw[h3]at J;cases J
    ·rw[Zl]at J;cases J
   have nFD:¬ F D:=λz=>by obtain⟨o,e⟩:=W.dm D z;rw[J]at e;cases e
   have qZ:us.length=S.length:=(rus F H).length;refine⟨λi ys O=>∃wi rest Z,N1 pb c.n I (S.drop i) wi=some (rest,w1)/\ls=Z.map PV.int++rest/\ys=Z.map V.int/\Z.length=i/\WR C F O c wi/\O D=some (.lst ys)/\∀b o,H b=some o->b≠c.lp->b≠c.ln->b≠c.lo->O b=some o,
    ⟨w,ls,[],hF,rfl,rfl,rfl,W.same (aM J _),aB,λb o e _ _ _=>aM J _ b o e⟩,λi ys O _ ⟨wi,rest,Z,_,_,_,_,_,d,_⟩=>⟨qb YW,d⟩,λi x ys O hx ⟨wi,rest,Z,h1,h2,h3,h4,M,d,kp⟩=>?_,λys O ⟨wi,rest,Z,h1,h2,h3,h4,M,d,kp⟩=>?_⟩
   ·dsimp only[sY]
    refine jH ?_;have hi:i<us.length:=(al.mp hx).1;have hs:S[i]?=some (S[i]'(by omega)):=ax (by omega);generalize S[i]'(by omega)=s at hs;have rs:∀B H,Rep C B H x s:=λB H=>by
     obtain⟨p,e,r⟩:=(rus B H).get' hx;rw[hs]at e;cases e;exact r
    have PU:S.drop i=s::S.drop (i+1):=by
     rw[db (by omega)];congr 1;exact(al.mp hs).2
    rw[PU]at h1;obtain⟨p,hp,h1⟩:=ae.mp (show((pb [wi.pv c.n,.int I,s]).bind _)=_ from h1);obtain⟨⟨k,w2⟩,hn,h1⟩:=ae.mp h1;obtain⟨⟨r2,w3⟩,h5,he⟩:=ae.mp h1;cases he;refine Oe (D:=D) (ys:=ys) T M rs hp hn λH4 k4 W4=>?_;have d4:H4 D=some (.lst ys):=k4 D _ d (j c.lp (.inr (.inr (.inl rfl)))).symm (j c.ln (.inr (.inr (.inr (.inl rfl))))).symm (j c.lo (.inr (.inr (.inr (.inr rfl))))).symm;refine⟨d4,cT (by rw[h3,ar,h4];have:=hz.2;rw[h2]at this;simp at this;omega),w2,r2,Z++[k],h5,by rw[h2];simp,by rw[h3];simp,by simp[h4],?_,aB,λb o e n1 n2 n3=>?_⟩
    ·have nD:∀b,F b->b≠D:=λb f z=>nFD (z▸f)
     refine W4.ex (λb o e=>⟨λf=>⟨by rw[aG (nD b f)];exact e,f⟩,λm=>?_⟩) (λb o hb e=>by rw[aG (j b hb)];exact e) (λb f=>?_) W4.nF
     ·rw[aG ?_]
      ·exact e
      ·intro z;rw[z,d4]at e;cases e;cases m
     ·obtain⟨o,e⟩:=W4.dm b f
      exact⟨o,by rw[aG (nD b f)];exact e⟩
    ·have nb:b≠D:=aF e J
     rw[aG nb];exact k4 b o (kp b o e n1 n2 n3) n1 n2 n3
   ·have PU:S.drop us.length=[]:=by rw[qZ];simp
    rw[PU]at h1;cases h1;rw[cS]at h2;obtain⟨k2,RA,ro2⟩:=M.lo;refine Y _ _ _ rfl M.ob _ ?_;refine⟨_,e1,c.lo,_,rfl,LH.k (k:=.inl I) RA (cT (by rw[ro2.length];exact gz hz.1)),?_⟩;have nal:c.a≠c.lo:=cO M.ob RA (λz=>nomatch z);have nDl:D≠c.lo:=(j c.lo (.inr (.inr (.inr (.inr rfl))))).symm;have ob4:upd O c.lo (.dK (putK k2 (.inl I) (.ref D))) c.a=some (.ins (C.cl c.n) c.dx (c.fs w1.most)):=by rw[aG nal];exact M.ob
    refine Y _ _ _ rfl ob4 _ ?_;have g3:dU (putK k2 (.inl I) (.ref D)) (.inl I)=some (.ref D):=by rw[wF,bS rfl]
    refine⟨_,e1,c.lo,_,rfl,by rw[←g3];exact FE.k (k:=.inl I) aB,?_⟩;have Zx:∀b o,O b=some o->b≠c.lo->upd O c.lo (.dK (putK k2 (.inl I) (.ref D))) b=some o:=λb o e n=>by rw[aG n];exact e
    have ex:Ex F O (λb=>F b\/b=D) (upd O c.lo (.dK (putK k2 (.inl I) (.ref D)))):=λb o e=>⟨λf=>⟨Zx b o e (λz=>M.nF.2.2.2.2 (z▸f)),.inl f⟩,λm=>Zx b o e λz=>by rw[z,RA]at e;cases e;cases m⟩;have rD:Rep C (λb=>F b\/b=D) (upd O c.lo (.dK (putK k2 (.inl I) (.ref D)))) (.ref D) (.lst ls):=by
     refine .lst (Zx D _ d nDl) (.inr rfl) ?_;rw[h2,h3];exact mK _ _ (λi=>.int i) Z
    refine q _ (λb=>F b\/b=D) _ (λb o e n1 n2 n3=>Zx b o (kp b o e n1 n2 n3) n3) ⟨λb z=>.inl z,λb z=>z.imp id λz=>by rw[z];exact J⟩ ⟨ob4,?_,M.fn.ex ex,?_,?_,⟨_,aB,EZ.put rD (ro2.ex ex)⟩,M.ne,λb f=>?_,?_⟩ rD
    ·obtain⟨kv,e,r⟩:=M.ah
     exact⟨kv,Zx _ _ e (cO e RA (λz=>nomatch z)),r.ex ex⟩
    ·obtain⟨kv,e,r⟩:=M.lp
     exact⟨kv,Zx _ _ e (cO e RA (λz=>nomatch z)),r.ex ex⟩
    ·obtain⟨kv,e,r⟩:=M.ln
     exact⟨kv,Zx _ _ e (cO e RA (λz=>nomatch z)),r.ex ex⟩
    ·rcases f with f|f
     ·obtain⟨o,e⟩:=M.dm b f
      exact⟨o,((ex b o e).1 f).1⟩
     ·exact⟨_,by rw[f];exact Zx D _ d nDl⟩
    ·obtain⟨n1,n2,n3,n4,n5⟩:=M.nF
     exact⟨λz=>z.elim n1 (j _ (.inl rfl)),λz=>z.elim n2 (j _ (.inr (.inl rfl))),λz=>z.elim n3 (j _ (.inr (.inr (.inl rfl)))),λz=>z.elim n4 (j _ (.inr (.inr (.inr (.inl rfl))))),λz=>z.elim n5 (j _ (.inr (.inr (.inr (.inr rfl)))))⟩
  ·cases U
def U4{rest:St}{x y:V}:Kp (none::none::rest) (some x::some y::rest):=⟨rfl,λi v e=>by
 cases i with
 |zero=>cases e
 |succ i=>cases i with
  |zero=>cases e
  |succ i=>exact e⟩
def Ji{K:W.Frag}{k1 k2:SK}{a b:Addr}{xs ys:sC}{ta:TA}{ED:List (Option Nat)}{tt:TT}{te:TE}{FV rest:St}(hw:∀R:List V->Hp->Prop,R [.ref a,.ref b] H->ta FV H R)(IF:dW ED FV=none::none::rest)(O:ys.length=xs.length)(ha:k1.sq K H a xs)(hb:k2.sq K H b ys)
  (k:∀D,H D=none->∃q:Nat->List V->Hp->Prop,q 0 [] (upd H D (.lst []))/\(∀i zs j,i<=xs.length->q i zs j->k1.sq K j a xs/\k2.sq K j b ys/\j D=some (.lst zs)) /\
   (∀i x y zs j,xs[i]?=some x->ys[i]?=some y->q i zs j->∀t,j t=none->tt (some x::some y::rest) (upd j t (.tup [x,y])) λb M=>if b=true then te (some x::some y::rest) M λz J=>J D=some (.lst zs)/\zs.length<sizeLine/\q (i+1) (zs++[z]) (upd J D (.lst (zs++[z])))else q (i+1) zs M) /\
   ∀zs j,q xs.length zs j->Q (.ref D) j):jt (BJ K k1 k2 ta) ED (QA K 2 (JU (bu 0) (JU (bu 1) Cj))) tt te FV H Q:=by
 refine⟨hw _ ⟨a,b,rfl,⟨xs,ha⟩,⟨ys,hb⟩,λD hD=>?_⟩⟩;obtain⟨q,Y,h1,h2,h3⟩:=k D hD;refine⟨λi m zs j=>m=xs.length - i/\i<=xs.length/\q i zs j,⟨xs.length,by simp,cq _,Y⟩,?_⟩;rintro i m zs j ⟨rfl,hi,p⟩;obtain⟨B,I,U⟩:=h1 i zs j hi p;refine⟨U,?_⟩;by_cases F4:i<xs.length
 ·refine .inr ⟨⟨xs,xs[i],ys,ys[i]'(by omega),B,by simp[F4],I,ax (by omega)⟩,q (i+1),λMb H' p'=>⟨xs.length - (i+1),by omega,rfl,F4,p'⟩,λv H' yd=>?_⟩
  obtain⟨t,x,y,Z,rfl,rfl,e1,e2⟩:=yd;rw[IF];refine⟨t,[x,y],rfl,GN.of aB,rfl,x,[y],rfl,?_⟩;refine⟨y,[],rfl,rfl,U4,?_⟩;exact h2 i x y zs j (e1 xs B) (e2 ys I) p t Z
 ·have e:i=xs.length:=by omega
  subst e;exact .inl ⟨⟨xs,ys,B,I,.inl rfl⟩,h3 zs j p⟩
def Og{K:W.Frag}{k1 k2:SK}{a b:Addr}{xs ys:sC}{g:TG}{tb:TS}{D:Ends}{FV:St}(J:ys.length=xs.length)(j:Nat->St->Hp->Prop)(U:j 0 FV H)(O:∀i FV H,i<=xs.length->j i FV H->k1.sq K H a xs/\k2.sq K H b ys)
  (M:∀i x y FV H,xs[i]?=some x->ys[i]?=some y->j i FV H->∀t,H t=none->g (.ref t) FV (upd H t (.tup [x,y])) fun G2 H2=>tb {D with nx:=j (i+1),ct:=j (i+1),bk:=D.nx} G2 H2) (Z:∀ FV H,j xs.length FV H->D.nx FV H):
  ∃W:Nat->Nat->St->Hp->Prop,(∃m,W 0 m FV H)/\∀i m FV H,W i m FV H->
   ((Itk K k1 k2 a b).stop i H/\D.nx FV H)\/((Itk K k1 k2 a b).go i H/\∃N:St->Hp->Prop,(∀ GG H',N GG H'->∃I,I<m/\W (i+1) I GG H')/\∀x H',(Itk K k1 k2 a b).S3 i H x H'->g x FV H' fun G2 H2=>tb {D with nx:=N,ct:=N,bk:=D.nx} G2 H2):=by
 refine⟨λi m FV H=>m=xs.length - i/\i<=xs.length/\j i FV H,⟨xs.length,by simp,cq _,U⟩,?_⟩;rintro i m FV H ⟨rfl,hi,p⟩;obtain⟨q,B⟩:=O i FV H hi p;by_cases F4:i<xs.length
 ·refine .inr ⟨⟨xs,xs[i],ys,ys[i]'(by omega),q,by simp[F4],B,ax (by omega)⟩,j (i+1),λMb H' p'=>⟨xs.length - (i+1),by omega,rfl,F4,p'⟩,λv H' yd=>?_⟩
  obtain⟨t,x,y,Y,rfl,rfl,e1,e2⟩:=yd;exact M i x y FV H (e1 xs q) (e2 ys B) p t Y
 ·have e:i=xs.length:=by omega
  subst e;exact .inl ⟨⟨xs,ys,q,B,.inl rfl⟩,Z FV H p⟩
structure LA(C:MC)(cn:Nat)(F:se)(H:Hp)(cs:List WC)(ws:List WS):Prop where
 len:cs.length=ws.length
 all:∀(i:Nat) (c:WC) (w:WS),cs[i]?=some c->ws[i]?=some w->c.n=cn/\WR C F H c w
 sep:∀(i j:Nat) (c d:WC),cs[i]?=some c->cs[j]?=some d->i≠j->d.lp≠c.lp/\d.ln≠c.ln/\d.lo≠c.lo/\d.ah≠c.ln
def Fm(cs:List WC)(H H':Hp):Prop:=∀b o,H b=some o->(∀c∈cs,b≠c.lp/\b≠c.ln/\b≠c.lo)->H' b=some o
variable {cs:List WC}
def Fm.trans{H1 H2:Hp}(a:Fm cs H H1)(b:Fm cs H1 H2):Fm cs H H2:=λx o e n=>b x o (a x o e n) n
def Mo.trans{j q:se}{H1:Hp}(a:Mo F j H)(b:Mo j q H1)(s:∀x,H1 x=none->H x=none):Mo F q H:=⟨λx z=>b.1 x (a.1 x z),λx z=>(b.2 x z).elim (a.2 x) λn=>.inr (s x n)⟩
def LA.same{C:MC}{cn:Nat}{F:se}{H H':Hp}{cs:List WC}{j:List WS}(W:LA C cn F H cs j)(s:D8 H H'):LA C cn F H' cs j:=⟨W.len,λi c w e1 e2=>⟨(W.all i c w e1 e2).1,(W.all i c w e1 e2).2.same s⟩,W.sep⟩
def LA.set{C:MC}{cn:Nat}{F F':se}{H H':Hp}{cs:List WC}{ws:List WS}{i:Nat}{c:WC}{w':WS}(W:LA C cn F H cs ws)(hi:cs[i]?=some c)(Y:Kept c F H H')(gr:Mo F F' H)(Wi:WR C F' H' c w')(hcn:c.n=cn):LA C cn F' H' cs (ws.set i w'):=by
 have Sz:i<ws.length:=by rw[←W.len];exact(al.mp hi).1
 obtain⟨_,UC,_⟩:=id Wi.lp;refine⟨by rw[eM];exact W.len,λj d v e1 e2=>?_,W.sep⟩;by_cases hij:i=j
 ·subst hij
  rw[hi]at e1;cases e1;rw[eR Sz]at e2;cases e2;exact⟨hcn,Wi⟩
 ·rw[bP hij]at e2
  obtain⟨n0,B⟩:=W.all j d v e1 e2;have q:∃w,WR C F H c w:=⟨_,(W.all i c _ hi (ax Sz)).2⟩;obtain⟨w0,q⟩:=q;obtain⟨s1,s2,s3,s4⟩:=W.sep i j c d hi e1 hij;obtain⟨_,O,_⟩:=q.lp;obtain⟨_,U,_⟩:=q.ln;obtain⟨_,J,_⟩:=q.lo;obtain⟨_,b1,_⟩:=B.ah;obtain⟨_,b2,_⟩:=B.lp;obtain⟨_,b3,_⟩:=B.ln;obtain⟨_,Z,_⟩:=B.lo;have dom:∀b,(b=d.a\/b=d.ah\/b=d.lp\/b=d.ln\/b=d.lo)->∃o,H b=some o:=λb I=>by
   rcases I with rfl|rfl|rfl|rfl|rfl
   ·exact⟨_,B.ob⟩
   ·exact⟨_,b1⟩
   ·exact⟨_,b2⟩
   ·exact⟨_,b3⟩
   ·exact⟨_,Z⟩
  have keep:∀b o,(b=d.a\/b=d.ah\/b=d.lp\/b=d.ln\/b=d.lo)->H b=some o->H' b=some o:=λb o I e=>by
   refine Y b o e ?_ ?_ ?_
   ·rcases I with rfl|rfl|rfl|rfl|rfl
    ·exact cO B.ob O (λz=>nomatch z)
    ·exact cO b1 O (λz=>nomatch z)
    ·exact s1
    ·exact cO b3 O (λz=>nomatch z)
    ·exact cO Z O (λz=>nomatch z)
   ·rcases I with rfl|rfl|rfl|rfl|rfl
    ·exact cO B.ob U (λz=>nomatch z)
    ·exact s4
    ·exact cO b2 U (λz=>nomatch z)
    ·exact s2
    ·exact cO Z U (λz=>nomatch z)
   ·rcases I with rfl|rfl|rfl|rfl|rfl
    ·exact cO B.ob J (λz=>nomatch z)
    ·exact cO b1 J (λz=>nomatch z)
    ·exact cO b2 J (λz=>nomatch z)
    ·exact cO b3 J (λz=>nomatch z)
    ·exact s3
  have M:∀b,(b=d.a\/b=d.ah\/b=d.lp\/b=d.ln\/b=d.lo)->¬ F b->¬ F' b:=λb I n z=>(gr.2 b z).elim n λe=>by obtain⟨o,e'⟩:=dom b I;rw[e]at e';cases e'
  obtain⟨n1,n2,n3,n4,n5⟩:=q.nF;have ex:Ex F H F' H':=λb o e=>⟨λf=>⟨Y b o e (λz=>n3 (z▸f)) (λz=>n4 (z▸f)) (λz=>n5 (z▸f)),gr.1 b f⟩,λm=>Y b o e (λz=>by rw[z,O]at e;cases e;cases m) (λz=>by rw[z,U]at e;cases e;cases m) λz=>by rw[z,J]at e;cases e;cases m⟩;obtain⟨m1,m2,m3,m4,m5⟩:=B.nF;exact⟨n0,B.ex ex keep Wi.dm ⟨M _ (.inl rfl) m1,M _ (.inr (.inl rfl)) m2,M _ (.inr (.inr (.inl rfl))) m3,M _ (.inr (.inr (.inr (.inl rfl)))) m4,M _ (.inr (.inr (.inr (.inr rfl)))) m5⟩⟩
def LA.own{B:List WS}{D:Addr}{u o:HO}(W:LA C cn F H cs B)(J:H D=some u)(m:jP u=true)(nF:¬ F D)(nc:∀c∈cs,D≠c.a/\D≠c.ah/\D≠c.lp/\D≠c.ln/\D≠c.lo):LA C cn F (upd H D o) cs B:=by
 have nD:∀b,F b->b≠D:=λb f z=>nF (z▸f);refine⟨W.len,λi c w e1 e2=>?_,W.sep⟩;obtain⟨O,j⟩:=W.all i c w e1 e2;obtain⟨n1,n2,U,M,Y⟩:=nc c (b9 e1);refine⟨O,j.ex (λb o e=>⟨λf=>⟨by rw[aG (nD b f)];exact e,f⟩,λq=>?_⟩) (λb o I e=>?_) (λb f=>?_) j.nF⟩
 ·rw[aG ?_]
  ·exact e
  ·intro z;rw[z,J]at e;cases e;rw[m]at q;cases q
 ·rw[aG ?_]
  ·exact e
  ·rcases I with rfl|rfl|rfl|rfl|rfl
   ·exact n1.symm
   ·exact n2.symm
   ·exact U.symm
   ·exact M.symm
   ·exact Y.symm
 ·obtain⟨o,e⟩:=j.dm b f
  exact⟨o,by rw[aG (nD b f)];exact e⟩
def LA.nc{B:List WS}{D:Addr}(W:LA C cn F H cs B)(j:H D=none):∀c∈cs,D≠c.a/\D≠c.ah/\D≠c.lp/\D≠c.ln/\D≠c.lo:=λc I=>by
 obtain⟨i,hi⟩:=dQ.mp I;have J:i<B.length:=by rw[←W.len];exact(al.mp hi).1
 obtain⟨_,q⟩:=W.all i c _ hi (ax J);obtain⟨_,b1,_⟩:=q.ah;obtain⟨_,b2,_⟩:=q.lp;obtain⟨_,b3,_⟩:=q.ln;obtain⟨_,M,_⟩:=q.lo;exact⟨(aF q.ob j).symm,(aF b1 j).symm,(aF b2 j).symm,(aF b3 j).symm,(aF M j).symm⟩
noncomputable def Zy(pb:sj)(cn:Nat)(S:sA):List WS->List Int->Option (List PV×List WS)
 |[],[]=>some ([],[])
 |w::ws,n::ns=>(wO pb cn S w n).bind λr=>(Zy pb cn S ws ns).bind λq=>some (r.1::q.1,r.2::q.2)
 |_,_=>none
noncomputable def tW:List PV->Option (List Int)
 |[]=>some []
 |.int i::r=>(tW r).bind λl=>some (i::l)
 |_=>none
noncomputable def vN(m:Nat):List PV->Option (List (List Int))
 |[]=>some []
 |.lst l::r=>(tW l).bind λk=>(vN m r).bind λq=>if k.length=m then some (k::q)else none
 |_=>none
noncomputable def YY(pb:sj)(cn:Nat)(S:sA)(ws:List WS)(ns:rL):Option (List (List Int)×List WS):=
 (Zy pb cn S ws ns).bind λr=>(vN S.length r.1).bind λrows=>some ((List.range S.length).map λi=>rows.map λk=>k.getD i 0,r.2)
noncomputable def HI(n:rL):PV:=.tup (n.map PV.int)
def Dz(C:MC)(cn:Nat)(pb:sj)(S:sA):Sp:=λvs H Q _=>∃F cs ws ns nodes MM wl vn,vs=[.ref wl,vn]/\cs≠[]/\WT C.K (C.cl cn)/\LA C cn F H cs ws/\H wl=some (.lst (cs.map λc=>V.ref c.a))/\¬ F wl/\(∀c∈cs,wl≠c.lp)/\cs.length<=1000/\Rep C F H vn (HI ns)/\YY pb cn S ws ns=some (nodes,MM) /\
 ∀H' F' l NX,Fm cs H H'->Mo F F' H->LA C cn F' H' cs MM->H l=none->¬ F' l->H' l=some (.lst NX)->D7 C F' H' NX (nodes.map HI)->Q (.ref l) H'
def Oh{q:sj}{S:sA}{E:XK}(h:Dz C cn q S vs H Q E):vs.length=2:=by
 obtain⟨F,cs,J,I,j,M,O,B,e,_⟩:=h;rw[e];rfl
def U5(C:MC)(cn:Nat)(pb:sj)(S:sA):TE:=jt (BJ C.K .L .T (aU (EC 0) (aU (EC 1) bF))) [none,none] (QA C.K 2 (JU (bu 0) (JU (bu 1) Cj))) sY (pM (C.cl cn) "later" (yo C cn pb S) [] E0 (EC 0) (aU (EC 1) bF))
theorem uU{C:MC}{A:se}{H:Hp}:∀{j:rL}{vs:sC},D7 C A H vs (j.map PV.int)->vs=j.map V.int
 |[],_,r=>by cases r;rfl
 |n::j,_,r=>by
  cases r with
  |cons h t=>
   cases h;rw[uU t];rfl
theorem zE{B:sj}{cn:Nat}{S:sA}:∀{j q:List WS}{ns:rL}{ls:sA},Zy B cn S j ns=some (ls,q)->j.length=ns.length/\ls.length=j.length/\q.length=j.length
 |[],_,[],_,h=>by cases h;exact⟨rfl,rfl,rfl⟩
 |[],_,_::_,_,h=>by cases h
 |_::_,_,[],_,h=>by cases h
 |w::j,q,n::ns,ls,h=>by
  obtain⟨r,_,h2⟩:=ae.mp (show((wO B cn S w n).bind _)=_ from h);obtain⟨⟨Z,Y⟩,U,O⟩:=ae.mp h2;cases O;obtain⟨J,I,M⟩:=zE U;exact⟨by simp[J],by simp[I],by simp[M]⟩
def Fm.tup{C:MC}{cn:Nat}{F:se}{H H':Hp}{cs:List WC}{q:List WS}(W:LA C cn F H cs q)(I:Fm cs H H'){b:Addr}{o:HO}(e:H b=some o)(m:jP o=false):H' b=some o:=by
 refine I b o e λc B=>?_;obtain⟨i,hi⟩:=dQ.mp B;have J:i<q.length:=by rw[←W.len];exact(al.mp hi).1
 obtain⟨_,j⟩:=W.all i c _ hi (ax J);obtain⟨_,b2,_⟩:=j.lp;obtain⟨_,b3,_⟩:=j.ln;obtain⟨_,M,_⟩:=j.lo;exact⟨λz=>(by rw[z,b2]at e;cases e;cases m),λz=>(by rw[z,b3]at e;cases e;cases m),λz=>(by rw[z,M]at e;cases e;cases m)⟩
def Fm.lst{C:MC}{cn:Nat}{F:se}{H H':Hp}{cs:List WC}{B:List WS}(W:LA C cn F H cs B)(I:Fm cs H H'){b:Addr}{xs:sC}(e:H b=some (.lst xs))(n:∀c∈cs,b≠c.lp):H' b=some (.lst xs):=by
 refine I b _ e λc j=>?_;obtain⟨i,hi⟩:=dQ.mp j;have J:i<B.length:=by rw[←W.len];exact(al.mp hi).1
 obtain⟨_,q⟩:=W.all i c _ hi (ax J);obtain⟨_,b3,_⟩:=q.ln;obtain⟨_,M,_⟩:=q.lo;exact⟨n c j,cO e b3 (λz=>nomatch z),cO e M (λz=>nomatch z)⟩
def Fm.dom{H':Hp}{I:List WS}(B:Fm cs H H')(W:LA C cn F H' cs I){x:Addr}(e:H' x=none):H x=none:=by
 cases q:H x with
 |none=>rfl
 |some o=>
  have nc:=W.nc e;rw[B x o q λc j=>⟨(nc c j).2.2.1,(nc c j).2.2.2.1,(nc c j).2.2.2.2⟩]at e;cases e
def Kept.S{c:WC}{H':Hp}(k:Kept c F H H')(j:c∈cs):Fm cs H H':=λb o e n=>k b o e (n c j).1 (n c j).2.1 (n c j).2.2
def nb1{pb:sj}{S:sA}{j MM:List WS}{ns:rL}{ls:sA}{wl b:Addr}{rest:St}{R:VK}(T:WT C.K (C.cl cn))(W:LA C cn F H cs j)(KO:H wl=some (.lst (cs.map λc=>V.ref c.a)))(RE:∀c∈cs,wl≠c.lp)(hz:cs.length<=1000)
  (hb:IJ C.K H b (ns.map V.int)) (hn:Zy pb cn S j ns=some (ls,MM)) (dF:∀D,H D=none->¬ F D)
  (q:∀H' F' D zs,Fm cs H H'->Mo F F' H->LA C cn F' H' cs MM->H D=none->¬ F' D->H' D=some (.lst zs)->D7 C F' H' zs ls->R (.ref D) H'):
  U5 C cn pb S (some (.ref wl)::some (.ref b)::rest) H R:=by
 obtain⟨l1,l2,l3⟩:=zE hn;have lc:=W.len;refine Ji (a:=wl) (b:=b) (xs:=cs.map λc=>V.ref c.a) (ys:=ns.map V.int) (rest:=[]) (λR r=>⟨_,rfl,_,rfl,r⟩) rfl (by simp;omega) (Fc.of KO) hb.sq λD Y=>?_;have wD:wl≠D:=aF KO Y;refine⟨λi zs B=>∃O J I U M,Zy pb cn S (j.drop i) (ns.drop i)=some (J,I)/\ls=U++J/\MM=M++I/\U.length=i/\M.length=i/\LA C cn O B cs (M++j.drop i)/\D7 C O B zs U/\Mo F O H/\Fm cs H B/\B D=some (.lst zs)/\¬ O D,
  ⟨F,ls,MM,[],[],hn,rfl,rfl,rfl,rfl,W.same (aM Y _),.nil,⟨λ_ z=>z,λ_ z=>.inl z⟩,λx o e _=>aM Y _ x o e,aB,dF D Y⟩,
  λi zs B _ ⟨O,J,I,U,M,h1,h2,h3,h4,h5,Wi,ri,gi,ki,di,ni⟩=>⟨Fc.of (ki.lst W KO RE),IJ.sq (hb.imp (λz=>ki.tup W z rfl) id),di⟩,λi x y zs B hx hy ⟨O,J,I,U,M,h1,h2,h3,h4,h5,Wi,ri,gi,ki,di,ni⟩ t ht=>?_,
  λzs B ⟨O,J,I,U,M,h1,h2,h3,h4,h5,Wi,ri,gi,ki,di,ni⟩=>?_⟩
 ·dsimp only[sY]
  refine jH ?_;rw[cm]at hx hy;obtain⟨c,hc,rfl⟩:=bv.mp hx;obtain⟨n,Qb,rfl⟩:=bv.mp hy;have hi:i<cs.length:=(al.mp hc).1;have hw:j.drop i=j[i]'(by omega)::j.drop (i+1):=db (by omega);have hns:ns.drop i=n::ns.drop (i+1):=by
   rw[db (by omega)];congr 1;exact(al.mp Qb).2
  generalize j[i]'(by omega)=w at hw;rw[hw,hns]at h1;obtain⟨⟨l,w1⟩,hl,h1⟩:=ae.mp (show((wO pb cn S w n).bind _)=_ from h1);obtain⟨⟨q1,q2⟩,hr,he⟩:=ae.mp h1;cases he;have cur:(M++j.drop i)[i]?=some w:=by rw[hw,iX (by omega),h5];simp
  have s1:=aM ht (.tup [V.ref c.a,V.int n]);have Wt:=Wi.same s1;obtain⟨ZC,Wc⟩:=Wt.all i c w hc cur;have dt:upd B t (.tup [V.ref c.a,V.int n]) D=some (.lst zs):=s1 _ _ di;refine⟨_,rfl,c.a,c.dx,_,rfl,by rw[←ZC];exact Wc.ob,rfl,_,rfl,?_⟩;refine⟨O,c,w,n,l,w1,rfl,ZC,by rw[ZC];exact T,Wc,by rw[ZC];exact hl,λH' F' v kp gr W' rv=>?_⟩;have mc:=b9 hc;have ncD:=W.nc Y c mc;have dD:H' D=some (.lst zs):=kp D _ dt ncD.2.2.1 ncD.2.2.2.1 ncD.2.2.2.2;have YX:¬ F' D:=λz=>(gr.2 D z).elim ni λe=>by rw[dt]at e;cases e
  have Ws:=Wt.set hc kp gr W' ZC;have es:(M++j.drop i).set i w1=(M++[w1])++j.drop (i+1):=by
   rw[hw,pV _ _ (by omega),h5];simp
  rw[es]at Ws;have kS:Fm cs B H':=Fm.trans (λx o e _=>s1 x o e) (kp.S mc);have exz:Ex O B F' H':=λx o e=>by
   have Z:=s1 x o e;obtain⟨m1,m2,m3,m4,m5⟩:=Wc.nF;obtain⟨_,a1,_⟩:=Wc.lp;obtain⟨_,a2,_⟩:=Wc.ln;obtain⟨_,a3,_⟩:=Wc.lo;exact⟨λf=>⟨kp x o Z (λz=>m3 (z▸f)) (λz=>m4 (z▸f)) (λz=>m5 (z▸f)),gr.1 x f⟩,λm=>kp x o Z (λz=>by rw[z,a1]at Z;cases Z;cases m) (λz=>by rw[z,a2]at Z;cases Z;cases m) λz=>by rw[z,a3]at Z;cases Z;cases m⟩
  have exD:Ex F' H' F' (upd H' D (.lst (zs++[v]))):=λx o e=>⟨λf=>⟨by rw[aG (show x≠D fromλz=>YX (z▸f))];exact e,f⟩,λm=>by
   rw[aG (show x≠D fromλz=>by rw[z,dD]at e;cases e;cases m)];exact e⟩
  have lz:zs.length=U.length:=ri.length;refine⟨dD,cT (by omega),F',q1,q2,U++[l],M++[w1],hr,by rw[h2];simp,by rw[h3];simp,by simp[h4],by simp[h5],Ws.own dD rfl YX (λd hd=>W.nc Y d hd),((ri.ex exz).ex exD).append (.cons (rv.ex exD) .nil),gi.trans gr (λx e=>ki.dom Wi (s1.free e)),λx o e n=>?_,aB,YX⟩;rw[aG (aF e Y)];exact(ki.trans kS) x o e n
 ·have hdw:j.drop (cs.map λc=>V.ref c.a).length=[]:=by rw[ar,lc];simp
  have hdn:ns.drop (cs.map λc=>V.ref c.a).length=[]:=by rw[ar,lc,l1];simp
  rw[hdw,hdn]at h1;cases h1;rw[cS]at h2 h3;rw[hdw,cS]at Wi;subst h2 h3;exact q B O D zs ki gi Wi Y ni di ri
def Ga{K:W.Frag}{a:Addr}{us:sC}{tl:TE}{ED:List (Option Nat)}{tt:TT}{te:TE}{FV rest:St}(I:∀R:VK,R (.ref a) H->tl FV H R)(O:dW ED FV=none::rest)(M:Fc K H a us)
  (k:∀D,H D=none->∃j:Nat->List V->Hp->Prop,j 0 [] (upd H D (.lst []))/\(∀i ys H,i<=us.length->j i ys H->Fc K H a us/\H D=some (.lst ys)) /\
   (∀i x ys H,us[i]?=some x->j i ys H->tt (some x::rest) H λb q=>if b=true then te (some x::rest) q λy B=>B D=some (.lst ys)/\ys.length<sizeLine/\j (i+1) (ys++[y]) (upd B D (.lst (ys++[y])))else j (i+1) ys q) /\
   ∀ys H,j us.length ys H->Q (.ref D) H):jt (xM K tl) ED (bu 0) tt te FV H Q:=
 ⟨I _ ⟨a,rfl,⟨us,M⟩,λD J=>let ⟨j,h0,h1,h2,h3⟩:=k D J;Kq O j h0 h1 h2 h3⟩⟩
def Jj{n:Nat}{ta:TA}{ED:List (Option Nat)}{tt:TT}{te:TE}{FV rest:St}(I:∀R:List V->Hp->Prop,R [.int (n:Nat)] H->ta FV H R)(Y:n<=1000000)(O:dW ED FV=none::rest)
  (k:∀D,H D=none->∃j:Nat->List V->Hp->Prop,j 0 [] (upd H D (.lst []))/\(∀i ys H,i<=n->j i ys H->H D=some (.lst ys)) /\
   (∀i ys H,i<n->j i ys H->tt (some (.int (0+(i:Nat)))::rest) H λb q=>if b=true then te (some (.int (0+(i:Nat)))::rest) q λy B=>B D=some (.lst ys)/\ys.length<sizeLine/\j (i+1) (ys++[y]) (upd B D (.lst (ys++[y])))else j (i+1) ys q) /\
   ∀ys H,j n ys H->Q (.ref D) H):jt (xN ta) ED (bu 0) tt te FV H Q:=by
 refine⟨I _ ⟨(n:Nat),rfl,by omega,by omega,λD J=>?_⟩⟩;obtain⟨j,U,h1,h2,M⟩:=k D J;have e:((n:Nat):Int).toNat=n:=rfl;rw[e];exact Ia O j U h1 h2 M
abbrev Xo(K:PySem.W.Frag):List V->Hp->VK->Prop:=λxs H Q=>∃p ys,xs=[.ref p]/\((Fc K H p ys/\∀l,H l=none->Q (.ref l) (upd H l (.tup ys)))\/(GN K H p ys/\Q (.ref p) H))
def U6(K:W.Frag)(aS:Addr):TE:=jt (xN (aU (Zh (Jg K) (aU (tC (.ref aS)) bF)) bF)) [none,some 2] (bu 0) sY
 (Zh (Xo K) (aU (jt (xM K (EC 1)) [none,some 0] (bu 0) sY (QE (wG K) (EC 0) (EC 1))) bF))
theorem Ar{C:MC}{A:se}{H:Hp}:∀{l:sA}{k:rL}{vs:sC},D7 C A H vs l->tW l=some k->vs=k.map V.int
 |[],_,_,r,e=>by cases e;cases r;rfl
 |p::l,k,_,r,e=>by
  cases p<;>first|(cases e;done)|skip
  obtain⟨k2,h2,e⟩:=ae.mp (show((tW l).bind _)=_ from e);cases e;cases r with
  |cons h t=>cases h;rw[Ar t h2];rfl
set_option tactic.hygienic true in theorem Av{C:MC}{A:se}{H:Hp}{m:Nat}:∀{ls:sA}{rows:List (List Int)}{zs:sC},D7 C A H zs ls->vN m ls=some rows->zs.length=rows.length/\∀(j:Nat) (z:V),zs[j]?=some z->∃a B,z=.ref a/\H a=some (.lst (B.map V.int))/\rows[j]?=some B/\B.length=m
 |[],_,_,r,e=>by cases e;cases r;exact⟨rfl,λj z h=>by simp at h⟩
 |p::ls,rows,_,r,e=>by
  cases p<;>first|(cases e;done)|skip
  rename_i l;obtain⟨k,h1,e⟩:=ae.mp (show((tW l).bind _)=_ from e);obtain⟨q,h2,e⟩:=ae.mp e;split at e
  ·rename_i J
   cases e;cases r with
   |cons h t=>
    obtain⟨M,I⟩:=Av t h2;refine⟨by simp[M],λj z hz=>?_⟩;cases j with
    |zero=>
     simp at hz;subst hz;cases h with
     |lst e _ r=>exact⟨_,k,rfl,by rw[←Ar r h1];exact e,rfl,J⟩
    |succ j=>exact I j z (by simpa using hz)
  ·cases e
def nb2{m:Nat}{aS lv:Addr}{us zs:sC}{ls:sA}{B:List (List Int)}{v0 v1:Option V}{R:VK}(hS:GN C.K (λ_=>none) aS us)(hu:us.length=m)(hm:m<=1000)(hlv:H lv=some (.lst zs))(hz:zs.length<=1000)(rz:D7 C F H zs ls)(hr:vN m ls=some B)
  (q:∀H' D NX,D8 H H'->H D=none->H' D=some (.lst NX)->D7 C F H' NX (((List.range m).map λi=>B.map λk=>k.getD i 0).map HI)->R (.ref D) H'):U6 C.K aS [v0,v1,some (.ref lv)] H R:=by
 obtain⟨lz,U⟩:=Av rz hr;refine Jj (n:=m) (rest:=[some (.ref lv)]) (λR r=>?_) (by omega) rfl λD hD=>?_
 ·exact⟨aS,us,rfl,.inr (qb hS),by rw[hu];exact r⟩
 ·refine⟨λi ys I=>D8 H I/\I D=some (.lst ys)/\ys.length=i/\D7 C (λ_=>False) I ys (((List.range i).map λi=>B.map λk=>k.getD i 0).map HI),⟨aM hD _,aB,rfl,.nil⟩,λi ys I _ h=>h.2.1,?_,λys I ⟨s,d,l,r⟩=>q I D ys s hD d (r.ex (bB λ_ _ _ z=>z.elim))⟩
  rintro i ys I hi ⟨s,d,l,r⟩;dsimp only[sY];refine jH ?_;have M:=s _ _ hlv;refine Ga (a:=lv) (us:=zs) (rest:=[some (.int (0+(i:Nat)))]) (λR r=>⟨_,rfl,r⟩) rfl (Fc.of M) λD2 hD2=>?_;refine⟨λj J Y=>D8 I Y/\Y D2=some (.lst J)/\J=(B.take j).map λk=>V.int (k.getD i 0),⟨aM hD2 _,aB,by simp⟩,λj J Y _ h=>⟨Fc.of (h.1 _ _ M),h.2.1⟩,λj z J Y hz2 ⟨s2,d2,l2⟩=>?_,λJ Y ⟨s2,d2,l2⟩=>?_⟩
  ·dsimp only[sY]
   refine jH ?_;obtain⟨a,Z,rfl,ha,O,hlen⟩:=U j z hz2;have hj:j<B.length:=(al.mp O).1;refine⟨_,rfl,_,rfl,a,Z.map V.int,_,.int (Z.getD i 0),rfl,rfl,Fc.of (s2 _ _ (s _ _ ha)),?_,d2,cT ?_,s2.over hD2 _,aB,?_⟩
   ·unfold Fn L9
    have Sz:i<Z.length:=by omega
    have e1:(0:Int)<=0+(i:Nat):=by omega
    simp[Sz]
   ·rw[l2,ar,js];omega
   ·rw[l2,List.take_add_one,O];simp
  ·refine⟨D2,J,rfl,.inl ⟨Fc.of d2,λt ht=>?_⟩⟩
   rw[lz,oy]at l2;have dj:Y D=some (.lst ys):=s2 _ _ d;have st:=aM ht (.tup J);have nDt:D≠t:=aF dj ht;refine⟨st _ _ dj,cT (by omega),((s.trans s2).trans st).over hD _,aB,by simp[l],?_⟩;have ex:Ex (λ_=>False) I (λ_=>False) (upd (upd Y t (.tup J)) D (.lst (ys++[.ref t]))):=λx o e=>⟨λz=>z.elim,λm=>by
    rw[aG (show x≠D fromλz=>by rw[z,d]at e;cases e;cases m)];exact st x o (s2 x o e)⟩
   have er:(List.range (i+1)).map (λi=>B.map λk=>k.getD i 0)=(List.range i).map (λi=>B.map λk=>k.getD i 0)++[B.map λk=>k.getD i 0]:=by rw[List.range_succ,de];rfl
   rw[er,de];refine(r.ex ex).append (.cons (.tup (vs:=J) (by rw[aG nDt.symm,aB]) ?_) .nil);rw[l2,im];exact mK _ _ (λk=>.int _) B
def tNb(C:MC)(cn:Nat)(pb:sj)(S:sA)(aS:Addr):TS:=bO (dB (U5 C cn pb S) (bu 2)) (fQ (U6 C.K aS))
def U7{pb:sj}{S:sA}{aS:Addr}{E:XK}(hS:uT C aS S)(hm:S.length<=1000)(h:Dz C cn pb S vs H Q E):tNb C cn pb S aS {nx:=λ_ H'=>Q .Ee H',rt:=Q} (L2.start ["walks","node","later"] vs) H:=by
 obtain⟨F,cs,ws,ns,U,MM,wl,vn,rfl,ne,T,W,KO,nwF,RE,hz,rn,j,q⟩:=h;obtain⟨us,YW,M⟩:=hS;have qZ:us.length=S.length:=(M F H).length;obtain⟨⟨ls,w2⟩,hF,j⟩:=ae.mp j;obtain⟨Y,hr,j⟩:=ae.mp j;cases j;obtain⟨b,vs,rfl,hb,rb⟩:=EB.tup (.inl rn);have ev:=uU rb;subst ev;unfold tNb;dsimp only[bO,dB,fQ,bu];obtain⟨c,hc⟩:=kc _ ne;obtain⟨i,hi⟩:=dQ.mp hc;have Sz:i<ws.length:=by rw[←W.len];exact(al.mp hi).1
 have dm:=(W.all i c _ hi (ax Sz)).2.dm;refine nb1 (rest:=[none]) T W KO RE hz hb hF (λD e z=>by obtain⟨o,e'⟩:=dm D z;rw[e]at e';cases e') λH1 O D zs k1 g1 I hD nD d1 Z=>?_;obtain⟨l1,l2,l3⟩:=zE hF;have lz:zs.length=ls.length:=Z.length;have lc:=W.len;refine nb2 (C:=C) (F:=O) (us:=us) (zs:=zs) (ls:=ls) YW qZ hm d1 (by omega) Z hr λH' D2 NX s B d2 r2=>?_;have J:∀b,O b->∃o,H1 b=some o:=(I.all i c _ hi (ax (by have:=I.len;omega))).2.dm;exact q H' O D2 NX (λx o e n=>s x o (k1 x o e n)) g1 (I.same s) (k1.dom I B) (λz=>by obtain⟨o,e⟩:=J D2 z;rw[B]at e;cases e) d2 r2
end Lake.MR
namespace Lake.L2
open PySem PySem.Spec PyProof.Rows
def sy:fillsNumberSlot (.type "tuple") "mul" = pure false:=
 PySem.fillsNumberSlot_seq (id := "tuple.__mul__") (r:=some (.builtin "tuple.__rmul__")) k8.lookup (by decide +kernel) (by rw[kz,gS];kernel_rfl) (by decide +kernel)
def Gb:typeLookup (.type "tuple") "__rmul__" = pure (some (.builtin "tuple.__rmul__")):=by rw[kz,gS];kernel_rfl
def yp:seqRepeat? (.type "tuple")=pure (some (.builtin "tuple.__mul__")):=by
 unfold seqRepeat?;rw[PySem.seqSlot_of (T := "tuple") (name := "__mul__") (id := "tuple.__mul__") k8.lookup (by decide +kernel),PySem.seqSlot_of (T := "tuple") (name := "__rmul__") (id := "tuple.__rmul__") Gb (by decide +kernel)];rfl
def DG(a:Int)(t:Tok)(l:Addr)(items:rV)(n:Nat)(j:Array (Option Value)):Meets (Builtin.«int.__rmul__» ⟨[.int a t,.ref l],[]⟩) (λ_ R s=>s.heap.get? l=some {cls:=.type "tuple",dict:=none,data:=.seq items n,slots:=j}/\R (.ok (.ret Value.notImplemented)) s):=
 .of_wp λprog w A R s h=>by
  obtain⟨I,g,d,q,B⟩:=s;obtain⟨h1,h⟩:=h;wp_walk;exact⟨_,rfl,h⟩
def Gg(l:Addr)(t:Tok)(items:rV)(n:Nat)(j:Array (Option Value)):Meets (Builtin.«tuple.__mul__» ⟨[.ref l,.int 1 t],[]⟩) (λ_ R s=>s.heap.get? l=some {cls:=.type "tuple",dict:=none,data:=.seq items n,slots:=j}/\R (.ok (.ret (.ref l))) s):=
 .of_wp λprog w A R s h=>by
  obtain⟨I,g,d,q,B⟩:=s;obtain⟨h1,h⟩:=h;unfold Builtin.«tuple.__mul__»;wp_walk;exact⟨_,rfl,h⟩
def Gh(l:Addr)(t:Tok)(u:Value)(n:Nat)(j:Array (Option Value)):Meets (Builtin.«tuple.__mul__» ⟨[.ref l,.int 2 t],[]⟩) (λ_ R s=>s.heap.get? l=some {cls:=.type "tuple",dict:=none,data:=.seq #[u] n,slots:=j}/\R (.ok (.ret (.ref s.heap.objs.size))) {s with heap:=s.heap.push {cls:=.type "tuple",data:=.seq #[u,u]}}):=
 .of_wp λprog w A R s h=>by
  obtain⟨I,g,d,q,B⟩:=s;obtain⟨h1,h⟩:=h;unfold Builtin.«tuple.__mul__»;wp_walk;exact⟨_,rfl,h⟩
section
variable {X:Cx}
def Qo:R2:=λx y H Q=>∃t u,x=.ref t/\H t=some (.tup [u])/\((y=.int 1/\Q (.ref t) H)\/(y=.int 2/\∀l,H l=none->Q (.ref l) (upd H l (.tup [u,u]))))
def Rq:GW X (binaryOp .Mult) Qo:=by
 intro D3 s FV H x y v u Q I Y M h;obtain⟨t,a,rfl,O,h⟩:=h;cases Y;obtain⟨_,Z,r,⟨c,dd,da,J⟩,e1,e2,n,e3,e4⟩:=(show EG X.prog X.w X.K H s.heap t (.tup [a])from I.EJ t _ O);simp only at e2 e3 e4;subst e2 e3 e4;obtain⟨w,rfl,B⟩:=Vals.one r;have T:s.TypeIs (.ref t) "tuple" := ⟨_,e1,rfl⟩;rcases h with⟨rfl,q⟩|⟨rfl,q⟩
 ·obtain⟨j,rfl⟩:=M
  exact mT (T := "tuple") (U := "int") (by decide) T (λs'=>pc s' 1 j) sy F.fills_int_mul lT yp F.slot_int_index.lookup
   (k7 lT (pc s 1 j) F.entry_int_rmul (F.args_int_rmul_2 _ _) (DG 1 j t _ n J) ⟨e1,rfl,T,k7 k8 T F.entry_tuple_mul (F.args_tuple_mul_2 _ _) (Gg t j _ n J) ⟨e1,.ref t,H,I,rfl,q⟩⟩)
 ·obtain⟨j,rfl⟩:=M
  refine mT (T := "tuple") (U := "int") (by decide) T (λs'=>pc s' 2 j) sy F.fills_int_mul lT yp F.slot_int_index.lookup
   (k7 lT (pc s 2 j) F.entry_int_rmul (F.args_int_rmul_2 _ _) (DG 2 j t _ n J) ⟨e1,rfl,T,k7 k8 T F.entry_tuple_mul (F.args_tuple_mul_2 _ _) (Gh t j w n J) ⟨e1,?_⟩⟩)
  exact⟨.ref s.heap.objs.size,_,I.laid (t':=s.toks) (λb o e=>ac _ e) (aI _) (show EG X.prog X.w X.K _ _ _ (.tup [a,a])from⟨by show(2:Nat)<=sizeLine;decide,[w,w],.cons B (.cons B .nil),⟨_,ay _ rfl,rfl,0,rfl,rfl⟩⟩),rfl,q _ I.fresh⟩
def yq(i:Nat)(f:Addr)(sp:Sp)(t:TA):TE:=fun FV H Q=>FV[i]?=some (some (.ref f))/\t FV H λvs H1=>sp vs H1 Q E0
def Oi{k i:Nat}{f:Addr}{fd:FuncData}{ps:rj}{sp:Sp}{x:Str}{p pos:Pos}{e:Expr}{es:rh}{t:TA}(F:FA X.prog X.w X.K X.mg X.base Lu k f fd ps sp)(hr:EU k X.A)(hk:W.keepIn X.K (.ref f)=true)(hb:Binds X.K fd ps [])(ha:PA X (e::es) t)
  (O:autoParam (X.N[i]?=some x) r0_) (J:autoParam (S0 X.env.scope x) r5_) (Z:autoParam (Kt x) r1_) (Kx:autoParam (XZ x) r1_)
  (he:autoParam (HK X e es) r0_) (U:autoParam (Lo X pos es) r0_):PE X (.Call (.Name x p) (e::es) [] pos) (yq i f sp t):=by
 intro D3 s FV H Q I ⟨IF,h⟩;refine fA (EO ((k_ O J Z Kx) D3 s FV H (λv H1=>v=.ref f/\t FV H1 λvs H2=>sp vs H2 Q E0) I ⟨_,IF,rfl,h⟩) ?_);rintro u B ⟨v,H1,M,Y,e1,h1⟩;subst e1;cases(show u=Value.ref f from Y);refine kB (h₀:=X.base) I.ok.mod.KG hk (EO (ha pos D3 B FV H1 _ M h1) λus s2 ⟨vs,H2,j,r,q⟩=>⟨j.GL,?_⟩) he U;exact Cr F hr hb .nil xU j r (by rw[cS];exact q)
end
end Lake.L2
namespace Lake.MR
open PySem L2
noncomputable def Jk:PV->Option String
 |.ktp _=>some "tuple"
 |p=>tyN p
noncomputable def yr(tb:List (String×Bool))(p:PV):Option PV:=(Jk p).bind λt=>(tb.lookup t).bind λk=>some (.bl k)
@[simp] def Xp(tb:List (String×Bool))(p:PV):yr tb p=((Jk p).bind λt=>(tb.lookup t).bind λk=>some (.bl k)):=id rfl
section
variable {X:Cx}{b:BX}{G:qV}{p pos:Pos}{m1:Md}{e:Expr}{f:si}
def DK:Fh X (.builtin "isinstance") (λxs H Q=>(∃x n t b,xs=[x,.ty n]/\II X.K H x t/\W.kitOne X.K t (.type n)=some b/\Q (.bl b) H) \/
  ∃a ys n b,xs=[.ref a,.ty n]/\GN X.K H a ys/\W.kitOne X.K (.type "tuple") (.type n)=some b/\Q (.bl b) H):=by
 intro D3 s FV H xs us Q I r h;rcases h with h|⟨a,ys,n,b,rfl,hs,e,q⟩
 ·exact F_ D3 s FV H xs us Q I r h
 ·obtain⟨u,J,rfl,B,j⟩:=vals2 r
  cases j;cases(show u=Value.ref a from B);have key:∃o:Obj,s.heap.get? a=some o/\o.cls=.type "tuple" := by
   obtain⟨M,_,pl,_⟩:=I.tuple hs;obtain⟨o,e,c,_⟩:=pl;exact⟨o,e,c⟩
  exact eK ml I.GL key e (λz=>nomatch z) λO=>⟨.bl b,H,I.tok _,rfl,q⟩
def zF{m:Md}{n:Str}{B:String}{p1:Pos}(tb:List (String×Bool))(hk:∀t k,(t,k)∈tb->W.kitOne X.K (.type t) (.type B)=some k)(hm:X.mg "isinstance" = none)(O:X.mg n=none)(M:bootBuiltins n=some (.type B))(h:SE X b G m e f)(hK:autoParam (X.K=b.C.K) r0_)(hg:Gl X "isinstance" := by rfl)(Y:autoParam (Gl X n) r0_)
  (J:autoParam (bootBuiltins "isinstance" = some (.builtin "isinstance")) r2_) (U:n ≠ "__name__" := by decide) (hd:autoParam (Kt n) r1_)
  (he:autoParam (starEach [e,.Name n p1] X.env=(false,eval e X.env)::starEach [.Name n p1] X.env) r0_) (Sm:autoParam (starEach [.Name n p1] X.env=(false,eval (.Name n p1) X.env)::starEach [] X.env) r0_) (FO:autoParam ((backTo pos (starEach [.Name n p1] X.env)).any (·.1)=false) r0_):
  SE X b G .val (.Call (.Name "isinstance" p) [e,.Name n p1] [] pos) (b1 (yr tb) f):=by
 refine PE.imp (gZ DK hg hm J (aD h.bor (aD (Qy (v:=.ty B) Y O M rfl U hd) aV Sm) he) (by decide) (by decide) he FO) ?_;rintro FV H Q ⟨Ow,env,q,E,j,kk⟩;obtain⟨p1,Sn,j⟩:=aJ j;obtain⟨t,I,j⟩:=aJ j;obtain⟨k,YU,j⟩:=aJ j;cases j;refine⟨Ow,env,p1,E,Sn,λv H1 s r=>?_⟩;have Z:EB b.C (Bs b Ow) H1 v p1:=r;unfold Jk at I;split at I
 ·cases I
  obtain⟨a,vs,rfl,ha,_⟩:=Z.ktp;exact .inr ⟨a,vs,B,k,rfl,by rw[hK];exact ha,hk _ k (tR YU),kk _ H1 s (.bl k)⟩
 ·exact .inl ⟨v,B,.type t,k,rfl,by rw[hK];exact Z.ty I,hk t k (tR YU),kk _ H1 s (.bl k)⟩
end
end Lake.MR
namespace Lake.My
open PySem L2 MR
@[simp] def XM(i j:Int):IZ (.int i) (.int j)=some (decide (i=j)):=rfl
@[simp] def XN(i j:Str):IZ (.str i) (.str j)=some (decide (i=j)):=rfl
@[simp] def Ye(i j:Bool):IZ (.bl i) (.bl j)=some (decide (i=j)):=rfl
def Rr{F3 HU:Type}(f:F3->HU)(xs:List F3)(i:Int):Fn (xs.map f) i=(Fn xs i).map f:=by
 unfold Fn;rw[ar];cases L9 xs.length i with
 |none=>rfl
 |some j=>simp
def fK{F3:Type}{xs:List F3}{k:Nat}{x:F3}(h:xs[k]?=some x):Fn xs (k:Int)=some x:=pX h
section
variable {F3:Type}{env:MR.Env}{g:PV->MR.Env->Option MR.Env}{t:MR.Env->Option Bool}{f:MR.Env->Option PV}
theorem jf(c h:F3->PV):∀(ys:List F3),(∀y∈ys,∃e,g (c y) env=some e/\f e=some (h y))->cV env g dX f (ys.map c)=some (ys.map h)
 |[],_=>rfl
 |y::ys,hh=>by
  obtain⟨e,h1,h2⟩:=hh y av;have j:=jf c h ys λz hz=>hh z (ap _ hz);simp[cV,h1,h2,j]
theorem fL(c h:F3->PV)(p:F3->Bool):∀(ys:List F3),(∀y∈ys,∃e,g (c y) env=some e/\t e=some (p y)/\(p y=true->f e=some (h y)))->cV env g t f (ys.map c)=some ((ys.filter p).map h)
 |[],_=>rfl
 |y::ys,hh=>by
  obtain⟨e,h1,h2,q⟩:=hh y av;have j:=fL c h p ys λz hz=>hh z (ap _ hz);cases hp:p y with
  |true=>simp[cV,h1,h2,q hp,j,hp]
  |false=>simp[cV,h1,h2,j,hp]
end
theorem uV{F3:Type}(c:F3->PV):∀(ys:List F3) (n:Nat),iY n (ys.map c)=(ys.zipIdx n).map λy=>.tup [.int (y.2:Nat),c y.1]
 |[],_=>rfl
 |y::ys,n=>by simp[iY,uV c ys]
end Lake.My
namespace Lake.MR
open PySem L2 PyProof.Rows PySem.Spec
def N2{FH scope:Scope}{ON N:rj}{ED:List (Option Nat)}(h1:autoParam (scope.kind=.function) r0_)(h2:autoParam (∀y∈scope.names,y.2≠.cell) r2_)(B:autoParam (∀y∈scope.names,y.2=.local->scope.names.lookup y.1=some .local) r2_)
  (q:autoParam (∀y∈scope.names,y.2=.free->FH.names.lookup y.1=some .cell\/FH.names.lookup y.1=some .free) r2_) (j:autoParam (xX scope ON N ED=true) r2_):Zn FH scope ON N ED:=⟨h1,h2,B,q,j⟩
def FY{N P:rj}{j:Scope}(h1:autoParam (j.kind=.function) r0_)(h2:autoParam (j.isCoroutine=false) r0_)(J:autoParam (j.isGenerator=false) r0_)(I:autoParam (N.Nodup) r2_)(q:autoParam (N.take P.length=P) r0_)
  (M:autoParam (∀x∈P,j.names.lookup x=some .local\/j.names.lookup x=some .cell) r2_) (B:autoParam (∀y∈j.names,y.2≠.free) r2_):D6 N P j:=⟨h1,h2,J,I,q,M,B⟩
def fX{X:Cx}{N:rj}{scope:Scope}{C s H fp}{x:Str}{pos:Pos}(i:Nat)(q:autoParam (N.Nodup) r2_)(hi:autoParam (N[i]?=some x) r0_)(j:Loc (X.comp N scope C s H fp).env.scope x:=by exact fb rfl)
  (B:autoParam ((X.comp N scope C s H fp).fn x=true\/(X.comp N scope C s H fp).env.scope.names.lookup x=some .local) r3_):PG (X.comp N scope C s H fp) (.Name x pos) (bu i):=d7 q hi j B
section
variable {P:Program}{w:World}{K:W.Frag}{mg:rX}{base:Heap}
def G0{x q:Str}{st:Stmt}{f:Addr}{fd:FuncData}{N ps:rj}{k n kk:Nat}{C:MC}{ro:Bool}{g:Env->Option Out}(F:IS K x q st f fd)(S:D6 N ps (az st))(G G' L:qV)
  (U:∀{I:Value}{A:Around}{j:List PySem.Env}{s:Shared}{H:Hp}{E:XK},EU k (A.deeper (envOfC q (az st) s.heap.objs.size f I))->∀{B H'},QO (wC Lu P w K mg base N q (az st) f I A j s H E).Qr ⟨C,B,H',λ_=>none⟩ G G' L ro (fZ st) g)
  (Z:autoParam (kk=ps.length) r0_) (J:autoParam (N.length=n) r0_) (Y:autoParam (kk<=n) r1_) (M:autoParam ((G.all λi=>decide (kk<=i))=true) r1_):FA P w K mg base Lu (k+1) f fd ps (IL C (bQ n kk ro g) ro):=
 F.ok S (λvs H Q E h=>(Ri h).trans Z) λI A j s H vs Q E O h=>Rh J Y M (λB H'=>U O) h
end
end Lake.MR
namespace Lake.L2
open PySem MR
section
variable {K:W.Frag}{x q:Str}{st:Stmt}{f:Addr}{fd:FuncData}{ps:rj}(F:IS K x q st f fd)
include F
theorem IS.OI(j:autoParam (ps.length=1) r0_)(h:autoParam (∀k d p n c t a,bindArgs (W.fnOf x q (iG st) (fZ st) (az st) .none k d p n c t) ⟨[a],[]⟩=pure (ps.zip [a])) r8_):Binds K fd ps []:=F.binds λk d p n c t us e=>Up us (e.trans j) (h k d p n c t)
theorem IS.LS(j:autoParam (ps.length=2) r0_)(h:autoParam (∀k d p n c t a b,bindArgs (W.fnOf x q (iG st) (fZ st) (az st) .none k d p n c t) ⟨[a,b],[]⟩=pure (ps.zip [a,b])) r8_):Binds K fd ps []:=F.binds λk d p n c t us e=>Uq us (e.trans j) (h k d p n c t)
theorem IS.ZD(j:autoParam (ps.length=3) r0_)(h:autoParam (∀k d p n c t a b g,bindArgs (W.fnOf x q (iG st) (fZ st) (az st) .none k d p n c t) ⟨[a,b,g],[]⟩=pure (ps.zip [a,b,g])) r8_):Binds K fd ps []:=F.binds λk d p n c t us e=>Ur us (e.trans j) (h k d p n c t)
theorem IS.bd4(j:autoParam (ps.length=4) r0_)(h:autoParam (∀k d p n c t a b g i,bindArgs (W.fnOf x q (iG st) (fZ st) (az st) .none k d p n c t) ⟨[a,b,g,i],[]⟩=pure (ps.zip [a,b,g,i])) r8_):Binds K fd ps []:=F.binds λk d p n c t us e=>Us us (e.trans j) (h k d p n c t)
theorem IS.bd5(B:autoParam (ps.length=5) r0_)(h:autoParam (∀k d p n c t a b g i j,bindArgs (W.fnOf x q (iG st) (fZ st) (az st) .none k d p n c t) ⟨[a,b,g,i,j],[]⟩=pure (ps.zip [a,b,g,i,j])) r8_):Binds K fd ps []:=F.binds λk d p n c t us e=>Xn us (e.trans B) (h k d p n c t)
end
open PySem PySem.Spec PyProof.Rows
section
variable {X:Cx}
def BK(K:W.Frag):R2:=λx y H Q=>∃a b ys,x=.ref a/\y=.ref b/\GN K H a []/\GN K H b ys/\Q (.ref b) H
def Rt:GW X (binaryOp .Add) (BK X.K):=by
 intro D3 s FV H x y v u Q I rx ry h;obtain⟨a,b,ys,rfl,rfl,ha,hb,q⟩:=h;cases rx;cases ry;obtain⟨EA,r1,p1,_⟩:=I.tuple ha;obtain⟨Iq,r2,p2,_⟩:=I.tuple hb;cases r1;obtain⟨⟨cls,dd,data,sl⟩,M,U,n,J⟩:=id p1;obtain⟨⟨Y,Zi,B,Zj⟩,O,Z,n2,j⟩:=id p2;simp only at U J Z j;subst U J Z j;exact concat_meets ⟨_,M,rfl⟩ ⟨_,O,rfl⟩ ow qo kK kD (kg _ _)
  (tuple_addW0 a b _ Iq.toArray n n2 dd Zi sl Zj (by simp)) ⟨M,O,⟨.ref b,H,I,rfl,q⟩⟩
end
end Lake.L2
namespace Lake.MR
open PySem L2 PyProof.Rows PySem.Spec
noncomputable def tY:PV->PV->Option PV
 |.tup [],.tup ys=>some (.tup ys)
 |.tup xs,.tup ys=>if xs.length+ys.length<=1000000 then some (.tup (xs++ys))else none
 |_,_=>none
@[simp] def Xc(ys:sA):tY (.tup []) (.tup ys)=some (.tup ys):=id rfl
@[simp] def Jl(x:PV)(xs ys:sA):tY (.tup (x::xs)) (.tup ys)=if(x::xs).length+ys.length<=1000000 then some (.tup ((x::xs)++ys))else none:=id rfl
section
variable {X:Cx}{b:BX}{G L:qV}{ro:Bool}{pos apos EN:Pos}{m1 m2:Md}{e1 e2:Expr}{f1 f2:si}
set_option tactic.hygienic true in def Oj:Mc b .val (λx y H Q=>xR b.C.K x y H Q\/BK b.C.K x y H Q) tY:=by
 intro Ow H Z M p1 p2 p Q J I B e k;unfold tY at e;split at e
 ·cases e
  obtain⟨a,vs,rfl,O,ra⟩:=I.tup;obtain⟨c,us,rfl,j,U⟩:=B.tup;cases ra;exact .inr ⟨a,c,us,rfl,rfl,O.sq,j.sq,k _ H (D8.refl _) (j.rep U)⟩
 ·rename_i xs ys Y
  split at e
  ·rename_i h
   cases e;refine .inl (Q6 Ow H Z M (.tup xs) (.tup ys) (.tup (xs++ys)) Q J I B ?_ k);show(if xs≠[]/\xs.length+ys.length<=1000000 then some (PV.tup (xs++ys))else none)=_;rw[bS ⟨λz=>Y z,h⟩]
  ·cases e
 ·cases e
def Ru:GW X (binaryOp .Add) (λx y H Q=>xR X.K x y H Q\/BK X.K x y H Q):=λD3 s FV H x y v u Q I j B h=>h.elim (QT D3 s FV H x y v u Q I j B) (Rt D3 s FV H x y v u Q I j B)
def Ol(h1:SE X b G m1 e1 f1)(h2:SE X b G m2 e2 f2)(j:autoParam (X.K=b.C.K) r0_):SE X b G .val (.BinOp e1 .Add e2 pos) (b2 tY f1 f2):=tD (r:=λx y H Q=>xR b.C.K x y H Q\/BK b.C.K x y H Q) (by rw[←j];exact Ru) Oj h1 h2
end
end Lake.MR
namespace Lake.L2
open PySem PySem.Spec PyProof.Rows
section
variable {prog:Program}{w:World}{A:Around}{E:oT}{s:Shared}{a:Addr}
def Aw:entryFor table "dict.update.loop" = some Builtin.«dict.update.loop»:=entryFor_of_tree (by kernel_rfl)
abbrev RF(prog:Program)(w:World):=eZ prog w
theorem DN{h h':Heap}(k:∀b o,h.get? b=some o->o.cls=.type "tuple" -> h'.get? b=some o):∀(n:Nat) (x:D5) (v:Value),HC n h x v->HC n h' x v
 |0,_,_,q=>q
 |n+1,x,v,q=>q.imp id λ⟨B,a,e,J,o,I,m,h1,h2,j,p⟩=>⟨B,a,e,J,o,I,m,k a o h1 h2,h2,j,gY p λx y=>DN k n x y⟩
def vO{h h':Heap}{ks:List D5}{b:Addr}(e:(RF prog w).is h ks b)(k:∀b o,h.get? b=some o->o.cls=.type "tuple" -> h'.get? b=some o):(RF prog w).is h' ks b:=by
 obtain⟨o,j,n,h1,h2,B,r⟩:=e;exact⟨o,j,n,k b o h1 h2,h2,B,gY r λx y=>DN k 2 x y⟩
def DP{h:Heap}{ks:List D5}{b:Addr}(e:(RF prog w).is h ks b):∃o,h.get? b=some o/\o.cls=.type "tuple" := by
 obtain⟨o,j,n,h1,h2,r⟩:=e;exact⟨o,h1,h2⟩
def tZ{h h':Heap}{d:Addr}{xs:List (List D5×Addr×Value)}(m:ET (RF prog w) h d xs)(k:∀b o,h.get? b=some o->(b=d\/o.cls=.type "tuple")->h'.get? b=some o):ET (RF prog w) h' d xs:=by
 obtain⟨o,es,M,J,O,I,B,U⟩:=m;refine⟨o,es,k d o M (.inl rfl),J,O,I,λx j=>?_,U⟩;obtain⟨Y,h1,h2⟩:=DP (B x j);exact vO (B x j) λb o' e q=>k _ _ e (.inr q)
def t6(prog:Program)(w:World)(h:Heap)(p:List D5×Addr×Value)(u:Value):Prop:=∃t,u=.ref t/\IsTup h t #[.ref p.2.1,p.2.2]/\(RF prog w).is h p.1 p.2.1
def Lg(h:Heap):ET (RF prog w) (h.push {cls:=.type "dict",data:=.dict #[]}) h.objs.size []:=⟨_,#[],ay _ rfl,⟨rfl,rfl,rfl⟩,rfl,rfl,(λx j=>absurd j bt),List.nodup_nil⟩
end
inductive Lc(K:W.Frag)(H:Hp):List V->List (List D5×V)->Prop where
 |nil:Lc K H [] []
 |cons {t b:Addr}{ks:List D5}{v:V}{ts:sC}{kvs:List (List D5×V)}(h:H t=some (.tup [.ref b,v])\/LF K t [.ref b,v]) (k:GI K H b ks) (r:Lc K H ts kvs):Lc K H (.ref t::ts) ((ks,v)::kvs)
noncomputable def jM(kvs more:List (List D5×V)):List (List D5×V):=more.foldl (λacc kv=>putK acc kv.1 kv.2) kvs
theorem ux:∀(more kvs:List (List D5×V)),(jM kvs more).length<=kvs.length+more.length
 |[],kvs=>aI _
 |p::more,kvs=>by
  have h:=ux more (putK kvs p.1 p.2);have h2:(putK kvs p.1 p.2).length<=kvs.length+1:=by unfold putK;split<;>simp
  show(jM (putK kvs p.1 p.2) more).length<=_;simp only[bm];omega
theorem Ax{P:Program}{w:World}{K:W.Frag}{H:Hp}{h:Heap}(J:K.In h)(ok:IA P w K H h):∀{M:sC}{kvs:List (List D5×V)}{EA:re},Lc K H M kvs->Vals M EA->∃B:List (List D5×Addr×Value),KT K H kvs B/\Paired (t6 P w h) B EA
 |_,_,_,.nil,r=>by cases r;exact⟨[],.nil,.nil⟩
 |_,_,_,.cons (t:=t) (b:=b) (ks:=ks) (v:=v) e ck q,r=>by
  cases r with
  |cons r1 Z=>
   cases r1;obtain⟨B,h1,h2⟩:=Ax J ok q Z;obtain⟨us,I,j⟩:∃us,Vals [.ref b,v] us/\IsTup h t us.toArray:=by
    rcases e with e|⟨o,EA,n,e1,e2,e3,_,r⟩
    ·obtain⟨_,us,I,j⟩:=(show EG P w K H h t (.tup [.ref b,v])from ok t _ e)
     have j:=j.tup;exact⟨us,I,j⟩
    ·exact⟨EA.toList,r,o,J t o e1,e2,n,by simpa using e3⟩
   obtain⟨ku,Y,rfl,O,U⟩:=vals2 I;cases O;exact⟨(ks,b,Y)::B,.cons ⟨rfl,ck,U⟩ h1,.cons ⟨t,rfl,j,mH J ok ck⟩ h2⟩
def KT.merge{K:W.Frag}{H:Hp}:∀{more:List (List D5×V)}{B:List (List D5×Addr×Value)}{kvs:List (List D5×V)}{xs:List (List D5×Addr×Value)},KT K H more B->KT K H kvs xs->KT K H (jM kvs more) (B.foldl (λj I=>storedH j I.1 I.2.1 I.2.2) xs):=by
 intro more B kvs xs r;unfold KT at r;induction r generalizing kvs xs with
 |nil=>intro q;exact q
 |@cons p q ps Z h t U=>
  intro M;obtain⟨e,O,J⟩:=h;refine U ?_;obtain⟨q1,q2,Y⟩:=q;cases e;exact KT.put M p.1 O J
end Lake.L2
namespace Lake.MR
open PySem L2 PyProof.Rows PySem.Spec
noncomputable def t7:List PV->Option (List (List D5×PV))
 |[]=>some []
 |.tup [.tup k,v]::r=>(EI k).bind λk=>(t7 r).bind λl=>some ((k,v)::l)
 |_::_=>none
@[simp] def Xq:t7 []=some []:=id rfl
@[simp] def Xd(k:sA)(v:PV)(r:sA):t7 (.tup [.tup k,v]::r)=((EI k).bind λk=>(t7 r).bind λl=>some ((k,v)::l)):=id rfl
noncomputable def lF(l acc:sB):List (List D5×PV):=l.foldl (λacc kv=>cu acc kv.1 kv.2) acc
set_option tactic.hygienic true in theorem Ay{C:MC}{A:se}{H:Hp}:∀{vs:sC}{xs:sA}{l:sB},D7 C A H vs xs->t7 xs=some l->∃kvs,Lc C.K H vs kvs/\EM C A H kvs l
 |_,_,_,.nil,h=>by cases h;exact⟨[],.nil,.nil⟩
 |_,x::xs,l,.cons r1 r2,h=>by
  unfold t7 at h;split at h
  ·rename_i e;cases e
  ·rename_i k v r e
   obtain⟨e1,e2⟩:=List.cons.inj e;subst e1 e2;obtain⟨k',Y,h⟩:=aJ h;obtain⟨l',U,h⟩:=aJ h;cases h;obtain⟨kvs,h1,h2⟩:=Ay r2 U;have q0:EB C A H _ (.tup [.tup k,v]):=.inl r1;obtain⟨a,us,rfl,J,M⟩:=q0.tup;cases M with
   |cons I j=>
    cases j with
    |cons j O=>
     cases O;have q1:EB C A H _ (.tup k):=.inl I;obtain⟨b,ks,rfl,B,Z⟩:=q1.tup;exact⟨_,.cons J (B.key (Z.EI Y)) h1,.cons j h2⟩
  ·cases h
theorem yt{C:MC}{A:se}{H:Hp}:∀{kvs:List (List D5×V)}{l:sB}{a:List (List D5×V)}{b:sB},EM C A H kvs l->EM C A H a b->EM C A H (jM a kvs) (lF l b)
 |_,_,_,_,.nil,r=>r
 |(k,v)::kvs,(_,p)::l,a,b,.cons h t,r=>by
  show EM C A H (jM (putK a k v) kvs) (lF l (cu b k p));exact yt t (EM.put h r)
end Lake.MR
namespace Lake.L2
open PySem PySem.Spec PyProof.Rows
def DQ:typeLookup (.type "tuple") "keys" = pure none:=by rw[kz,gS];kernel_rfl
variable {sl:Array (Option Value)}
section
variable {prog:Program}{w:World}{A:Around}{E:oT}{s:Shared}{a:Addr}
def Rv{xs:rV}{k:Nat}{Q:Option Value->Shared->Prop}(I:s.heap.get? a=some {cls:=.type "tuple",data:=.seq xs k,slots:=sl})(U:A.handled=none)
  (O:∀h' M,(∀b o,s.heap.get? b=some o->h'.get? b=some o)->Q none {s with heap:=h',toks:=M}):wpAny (model prog w) A (getAttr? (.ref a) "keys") Q E s:=by
 obtain⟨Z,g,d,M,Y⟩:=s;have J:∀j,(⟨Z,g,d,j,Y⟩:Shared).TypeIs (.ref a) "tuple" := λ_=>⟨_,I,rfl⟩;have f1:=sub_AttributeError;have f3:=ke.lookup;have f4:=ke.bind (.ref a);have f5:=am_tuple_getattr_none;unfold getAttr? getAttrBy? getAttrBy
 repeat(any_goals (first|assumption|exact J _|((with_reducible show wpAny _ _ (call (Value.builtin "tuple.__getattribute__") _ _) _ _ _);refine k7 ke (J _) am_entry_tuple_getattribute (F.args_tuple_getattribute_2 _ _) (meets_getattribute_miss_tuple a xs k sl "keys" _ DQ (by decide)) ⟨I,U,λh' j e B=>?_⟩)|wp_step))
 obtain⟨t',u',he⟩:=B.there;show wpAny _ _ (getattributeRaised _ _ _ _ _ _ _) _ _ _;unfold getattributeRaised
 repeat(any_goals (first|assumption|wp_step))
 exact O _ _ B.keeps
theorem Qp{R:Result->Shared->Prop}{j it l:Addr}{items:rV}(hA:A.handled=none)(hu:(A.in1).units+3<cLine)(nd:it≠j)(nl:l≠j)(J:l≠it):∀(L:List (List D5×Addr×Value)) (rest:re) (i:Nat) (kvs:List (List D5×Addr×Value)) (s:Shared),
  items.toList.drop i=rest->Paired (t6 prog w s.heap) L rest->s.heap.IsTupleIter it l i->s.heap.IsTuple l items->ET (RF prog w) s.heap j kvs->kvs.length+L.length<=sizeLine->
  (∀h' tk,ET (RF prog w) h' j (L.foldl (λacc kv=>storedH acc kv.1 kv.2.1 kv.2.2) kvs)->(∀b o,b≠j->b≠it->s.heap.get? b=some o->h'.get? b=some o)->R (.ok (.ret .none)) {s with heap:=h',toks:=tk})->
  codeAny (model prog w) A (.builtin "dict.update.loop" ⟨[.ref j,.ref it,rawInt i,.none],[]⟩) R s
 |[],rest,i,kvs,s,hr,O,hit,hl,hd,hz,hR=>by
  cases O;refine iA Aw ?_;unfold Builtin.«dict.update.loop»;have hx:items[i]?=none:=by
   rw[Array.getElem?_eq_none_iff];have:=li.mp hr;simpa using this
  show wpAny _ _ (pyNext (.ref it) >>= _) _ _ _;refine ab (wpAny_pyNext_tuple_end (A:=A.under _) hA hit hl hx λh1 x1=>?_);show wpAny _ _ (Builtin.Dict.addKeywords j [] >>= _) _ _ _;refine ab (ai (ai ?_));obtain⟨oi,B,Y,_⟩:=hit;refine hR h1 s.toks (tZ hd λb o e q=>x1 b o (λz=>?_) e) λb o' _ n2 e=>x1 b o' n2 e;rcases q with q|q
  ·exact nd (z.symm.trans q)
  ·rw[z,B]at e;cases e;rw[Y]at q;exact absurd (i7 q) (by decide)
 |p::L,rest,i,kvs,s,hr,O,hit,hl,hd,hz,hR=>by
  cases O with
  |@cons _ u _ us hpu O=>
   obtain⟨t,rfl,htup,hk⟩:=hpu;have hx:items[i]?=some (.ref t):=by
    have e:items.toList[i]?=some (.ref t):=by rw[←List.head?_drop,hr];rfl
    rw[←e];simp
   obtain⟨oi,B,Y,U⟩:=id hit;refine iA Aw ?_;unfold Builtin.«dict.update.loop»;show wpAny _ _ (pyNext (.ref it) >>= _) _ _ _;refine ab (oj hit hl hx λh1 hit1 I=>?_);have N3:∀{b:Addr}{o:Obj},s.heap.get? b=some o->o.cls=.type "tuple" -> b≠it:=λ{b o} e q z=>by rw[z,B]at e;cases e;rw[Y]at q;exact absurd (i7 q) (by decide)
   have ZE:∀{b:Addr}{o:Obj},s.heap.get? b=some o->o.cls=.type "tuple" -> b≠j:=λ{b o} e q z=>by
    obtain⟨od,es,hod,hex,_⟩:=hd;rw[z,hod]at e;cases e;rw[hex.1]at q;exact absurd (i7 q) (by decide)
   obtain⟨ot,Z,hct,nt,hdt⟩:=id htup;have M:h1.get? t=some ot:=(I.2 t (N3 Z hct)).trans Z;have hT:({s with heap:=h1}:Shared).TypeIs (.ref t) "tuple" := ⟨_,M,hct⟩;show wpAny _ _ (holding [.ref t] _ >>= _) _ _ _;refine ab (eg ?_);refine ab (wpAny_tryCatch ?_);unfold Builtin.Dict.pairItems;refine ab (jI hT ?_);rw[bS (by decide)];refine ab (fz M hdt (ai ?_));show wpAny _ _ (holding [.ref p.2.1,p.2.2] (dictSet j (.ref p.2.1) p.2.2)) _ _ _;have hd1:ET (RF prog w) h1 j kvs:=tZ hd λb o e q=>(I.2 b (q.elim (λz=>z▸nd.symm) λz=>N3 e z)).trans e;obtain⟨ok,EJ,hck⟩:=DP hk;have hk1:(RF prog w).is h1 p.1 p.2.1:=vO hk λb o e q=>(I.2 _ (N3 e q)).trans e;have hzl:kvs.length<=sizeLine:=by simp only[bm]at hz;omega
   refine eg (wz (kd:=RF prog w) ?_ hk1 hd1 hzl λh2 hd2 sb2=>?_)
   ·exact hu
   refine ai ⟨Code.quiet_builtin _ (by decide +kernel),?_⟩;have keep:∀b o,b≠j->b≠it->s.heap.get? b=some o->h2.get? b=some o:=λb o n1 n2 e=>(sb2.2 b n1).trans ((I.2 b n2).trans e);have hls:(storedH kvs p.1 p.2.1 p.2.2).length<=kvs.length+1:=by
    unfold storedH;split<;>simp
   refine Qp (items:=items) hA hu nd nl J L us (i+1) (storedH kvs p.1 p.2.1 p.2.2) _ ?_ ?_ ?_ ?_ hd2 ?_ λh3 tk hd3 k3=>?_
   ·rw[←List.drop_drop,hr];rfl
   ·have go:∀{L:List (List D5×Addr×Value)}{us:re},Paired (t6 prog w s.heap) L us->Paired (t6 prog w h2) L us:=by
     intro L us O;induction O with
     |nil=>exact .nil
     |cons a _ ih=>
      obtain⟨t1,e1,⟨o1,q1,q2,q4⟩,q3⟩:=a;obtain⟨o2,g1,g2⟩:=DP q3;exact .cons ⟨t1,e1,⟨o1,keep t1 o1 (ZE q1 q2) (N3 q1 q2) q1,q2,q4⟩,vO q3 λb o e q=>keep _ o (ZE e q) (N3 e q) e⟩ ih
    exact go O
   ·obtain⟨oi,B,Y,U⟩:=hit1
    exact⟨oi,(sb2.2 it nd).trans B,Y,U⟩
   ·obtain⟨ol,hol,hcl,nl',hdl⟩:=hl
    exact⟨ol,keep l ol nl J hol,hcl,nl',hdl⟩
   ·simp only[bm]at hz;omega
   ·exact hR h3 tk hd3 λb o n1 n2 e=>k3 b o n1 n2 (keep b o n1 n2 e)
def Jm{l:Addr}{I:re}{n:Nat}{L:List (List D5×Addr×Value)}{Q:oT}(hA:A.handled=none)(hu:A.units+9<cLine)(O:s.heap.get? l=some {cls:=.type "tuple",data:=.seq I.toArray n,slots:=sl})(hp:Paired (t6 prog w s.heap) L I)(hz:L.length<=sizeLine)
  (hq:∀h' Z,ET (RF prog w) h' s.heap.objs.size (L.foldl (λacc U=>storedH acc U.1 U.2.1 U.2.2) [])->(∀b o,s.heap.get? b=some o->h'.get? b=some o)->Q (.ref s.heap.objs.size) {s with heap:=h',toks:=Z}):
  wpAny (model prog w) A (call (.type "dict") [.ref l]) Q E s:=by
 refine callType_codes (Q₁:=λobj GH=>obj=.ref s.heap.objs.size/\GH={s with heap:=s.heap.push {cls:=.type "dict",data:=.dict #[]}}) F.kt_called_dict (F.kt_typeCall_dict_1 _) F.entry_dict_init (kt_code_dict_new _ ⟨rfl,rfl⟩) ?_;rintro obj GH ⟨rfl,rfl⟩;have j:=Lg (prog:=prog) (w:=w) s.heap;have ty:({s with heap:=s.heap.push {cls:=.type "dict",data:=.dict #[]}}:Shared).TypeIs (.ref s.heap.objs.size) "dict" := j.of.typeIs;refine⟨ty,F.args_dict_init_2 _ _,?_⟩;have Rl:(s.heap.push {cls:=.type "dict",data:=.dict #[]}).get? l=some {cls:=.type "tuple",data:=.seq I.toArray n,slots:=sl}:=ac _ O;unfold Builtin.«dict.__init__»;refine ab ?_;unfold Builtin.Dict.selfAndRest;refine ab (kU ty ?_);show wpAny _ _ (pure (s.heap.objs.size,[Value.ref l])) _ _ _;refine ai ?_;show wpAny _ _ (Builtin.Dict.updateFrom "dict.__init__" s.heap.objs.size (.ref l) [] .none) _ _ _;unfold Builtin.Dict.updateFrom;refine ab (jI (T := "tuple") ⟨_,Rl,rfl⟩ ?_);rw[bS (by decide)];refine ab (Rv Rl hA λh2 tk2 k2=>?_);rw[bS (show(none:Option Value).isNone=true from rfl)];refine ab (iO ?_);have NG:h2.IsTuple l I.toArray:=⟨_,k2 _ _ Rl,rfl,n,rfl⟩;refine ab (e9 NG ?_);refine ai ⟨Code.quiet_builtin _ (by decide +kernel),?_⟩;have J:s.heap.objs.size<h2.objs.size:=by
  obtain⟨o,es,ho,_⟩:=j;exact aE (k2 _ _ ho)
 have k3:∀b o,h2.get? b=some o->(h2.push {cls:=.type "tuple_iterator",data:=.fields #[.ref l,.int 0 0]}).get? b=some o:=λb o e=>ac _ e;have Y:∀b o,s.heap.get? b=some o->(h2.push {cls:=.type "tuple_iterator",data:=.fields #[.ref l,.int 0 0]}).get? b=some o:=λb o e=>k3 b o (k2 b o (ac _ e));have B:∀b o,s.heap.get? b=some o->b≠s.heap.objs.size/\b≠h2.objs.size:=λb o e=>by
  have:=aE e;exact⟨bE this,bE (l7 this J)⟩
 refine Qp (A:=A.in1) (items:=I.toArray) (show A.in1.handled=none from hA) (by rw[in1_units,in1_units];omega) (d5 J) (B l _ O).1 (B l _ O).2 L I 0 [] _ (by simp) ?_ ?_ ?_ ?_ (by simpa using hz) λh4 Z hd4 k4=>?_
 ·have go:∀{L:List (List D5×Addr×Value)}{us:re},Paired (t6 prog w s.heap) L us->Paired (t6 prog w (h2.push {cls:=.type "tuple_iterator",data:=.fields #[.ref l,.int 0 0]})) L us:=by
   intro L us hp;induction hp with
   |nil=>exact .nil
   |cons a _ ih=>
    obtain⟨t1,e1,⟨o1,q1,q2⟩,q3⟩:=a;exact .cons ⟨t1,e1,⟨o1,Y t1 o1 q1,q2⟩,vO q3 λb o e q=>Y _ o e⟩ ih
  exact go hp
 ·exact⟨_,ay _ rfl,rfl,rfl⟩
 ·obtain⟨ol,M,r⟩:=NG
  exact⟨ol,k3 _ _ M,r⟩
 ·exact tZ j λb o e _=>k3 b o (k2 b o e)
 ·exact⟨rfl,hq h4 Z hd4 λb o e=>k4 b o (B b o e).1 (B b o e).2 (Y b o e)⟩
end
def Bg{X:Cx}(hc:X.calm=true)(hu:X.A.units+9<cLine):Fh X (.type "dict") (λxs H Q=>∃p B kvs,xs=[.ref p]/\(H p=some (.tup B)\/LF X.K p B)/\Lc X.K H B kvs/\kvs.length<=1000000/\∀l,H l=none->Q (.ref l) (upd H l (.dT (jM [] kvs)))):=by
 intro D3 s FV H xs us Q I r h;obtain⟨p,B,kvs,rfl,Z,LO,hz,q⟩:=h;obtain⟨u,rfl,rx⟩:=vals1 r;cases rx;obtain⟨j,n,sl,J,ho⟩:∃(j:re) (n:Nat) (sl:Array (Option Value)),Vals B j/\s.heap.get? p=some {cls:=.type "tuple",dict:=none,data:=.seq j.toArray n,slots:=sl}:=by
  rcases Z with Z|⟨⟨c,dd,da,sl⟩,j,n,h1,h2,M,⟨_,O⟩,J⟩
  ·obtain⟨_,j,J,⟨c,dd,da,sl⟩,h1,h2,n,M,O⟩:=(show EG X.prog X.w X.K H s.heap p (.tup B)from I.EJ p _ Z)
   simp only at h2 M O;subst h2 M O;exact⟨j,n,sl,J,h1⟩
  ·simp only at h2 M O
   subst h2 M O;exact⟨j.toList,n,sl,J,by simpa using I.GL _ _ h1⟩
 obtain⟨rs,h1,h2⟩:=Ax I.GL I.EJ LO J;have hl:rs.length<=sizeLine:=by rw[←iE h1];exact gz (cT hz)
 refine Jm (I.ok.hd hc) hu ho h2 hl λh' tk hd hk=>?_;have U:(s.heap.objs.size == sysModules)=false:=by
  have:=modules_low I.nolimit;rw[fT];exact d5 this
 have kt:KT X.K H (jM [] kvs) _:=KT.merge h1 .nil;have lm:=ux kvs [];have hn:=I.EJ.fresh (aI s.heap.objs.size);have Y:=kt.keeps (H':=upd H s.heap.objs.size (.dT (jM [] kvs))) λb ys e=>by rw[aG (aF e hn)];exact e
 obtain⟨o,es,o1,o2,o3,o4,o5,o6⟩:=hd;refine⟨.ref s.heap.objs.size,_,I.laid (t':=tk) hk (aI _) (show EG X.prog X.w X.K _ h' _ (.dT (jM [] kvs))from⟨?_,U,_,Y,o,es,_,o1,o2,o3,o4,o6,rfl⟩),rfl,q _ hn⟩;have:(1000000:Nat)<=sizeLine:=by decide
 simp only[gx]at lm;omega
end Lake.L2
namespace Lake.MR
open PySem L2 PyProof.Rows PySem.Spec
noncomputable def dctP:PV->Option PV
 |.tup xs=>(t7 xs).bind λl=>if l.length<=1000000 then some (.dT (lF l []))else none
 |_=>none
@[simp] def XQ(xs:sA):dctP (.tup xs)=((t7 xs).bind λl=>if l.length<=1000000 then some (.dT (lF l []))else none):=id rfl
section
variable {X:Cx}{b:BX}{G:qV}{m1:Md}{e e1 e2:Expr}{f f1 f2:si}{p pos:Pos}
set_option tactic.hygienic true in def Om{k:Nat}(Z:EU k X.A)(U:X.mg "dict" = none)(h:SE X b G m1 e f)(j:autoParam (X.calm=true) r0_)(Y:autoParam (X.K=b.C.K) r0_)(hg:Gl X "dict" := by rfl)(hb:autoParam (bootBuiltins "dict" = some (.type "dict")) r2_)(he:autoParam (HK X e []) r0_):SE X b G .own (.Call (.Name "dict" p) [e] [] pos) (b1 dctP f):=by
 have M:X.A.units+9<cLine:=ii (p9 (by decide:9<=64) _) Z.units;refine zq (Bg j M) (λOw H v1 p1 p Q hn O e k=>?_) U hb h hg (by decide) (by decide) he;cases p1 with
 |tup xs=>
  unfold dctP at e;obtain⟨l,J,e⟩:=aJ e;split at e
  ·rename_i hz
   cases e;obtain⟨a,vs,rfl,ha,ra⟩:=O.tup;obtain⟨kvs,h1,h2⟩:=Ay ra J;rw[Y];refine⟨a,vs,kvs,rfl,ha,h1,by rw[h2.length];exact hz,λd B=>k _ _ (aM B _) ⟨d,rfl,B,jM [] kvs,aB,(yt h2 .nil).ex λc o e=>?_⟩⟩;have I:c≠d:=aF e B;exact⟨λq=>⟨by rw[aG I];exact e,q,I⟩,λ_=>by rw[aG I];exact e⟩
  ·cases e
 |_=>cases e
end
noncomputable def dG(n:rL):List D5:=n.map λi=>.k (.inl i)
theorem Az(f:PV->Option D5)(j:∀i,f (.int i)=some (.k (.inl i))):∀n:List Int,uP f (n.map PV.int)=some (dG n)
 |[]=>rfl
 |i::n=>by
  show(f (.int i)).bind _=_;rw[j,ba,Az f j n];rfl
set_option tactic.hygienic true in def lG(n:rL):EI (n.map PV.int)=some (dG n):=by
 unfold EI jY;split
 ·rename_i e
  match n,e with
  |[],e=>cases e
  |[_],e=>cases e
  |_::_::_,e=>injection e with e1 _;cases e1
 ·exact Az _ (λi=>rfl) n
structure FS where
 ws:List WS
 EW:List (List D5×PV)
 later:List (List Int)
noncomputable def zG(cn:Nat)(io so ro:sj)(node:rL)(x:PV×List Int)(st:FS):Option (FS ⊕ PV):=match aZ st.EW (dG x.2)with
 |some _=>some (.inl st)
 |none=>match st.ws,x.2 with
  |w0::_,k::_=>(io [w0.pv cn,.int k]).bind λo=>match o with
   |.bl true=>some (.inl st)
   |.bl false=>if st.EW.length<1000000/\st.later.length<1000000 then
     (so [.lst (st.ws.map λw=>w.pv cn),HI x.2]).bind λs=>match s with
      |.bl true=>(ro [.dT (cu st.EW (dG x.2) (.tup [HI node,x.1])),HI x.2]).bind λv=>some (.inr v)
      |.bl false=>some (.inl {st with EW:=cu st.EW (dG x.2) (.tup [HI node,x.1]),later:=st.later++[x.2]})
      |_=>none
    else none
   |_=>none
  |_,_=>none
structure FI(C:MC)(cn:Nat)(cs:List WC)(wl da lb:Addr)(H0:Hp)(F:se)(H:Hp)(st:FS):Prop where
 W:LA C cn F H cs st.ws
 KO:H wl=some (.lst (cs.map λc=>V.ref c.a))
 Iy:∃kv,H da=some (.dT kv)/\EM C (λ_=>False) H kv st.EW
 M0:∃vs,H lb=some (.lst vs)/\D7 C (λ_=>False) H vs (st.later.map HI)
 dm:∀b,F b->∃o,H b=some o
 nF:¬ F wl/\¬ F da/\¬ F lb
 RE:∀c∈cs,wl≠c.lp
 Y0:∀c∈cs,da≠c.a/\da≠c.ah/\da≠c.lp/\da≠c.ln/\da≠c.lo
 RH:∀c∈cs,lb≠c.a/\lb≠c.ah/\lb≠c.lp/\lb≠c.ln/\lb≠c.lo
 wlb:wl≠lb
 new:H0 da=none/\H0 lb=none
 kp:Fm cs H0 H
variable {H:Hp}{F:se}
def pR{H':Hp}(h:∀x o,H x=some o->jP o=false->H' x=some o):Ex (λ_=>False) H F H':=λx o e=>⟨λz=>z.elim,λm=>h x o e m⟩
def FI.same{C:MC}{cn:Nat}{cs:List WC}{J B j:Addr}{H0 H H':Hp}{F:se}{st:FS}(I:FI C cn cs J B j H0 F H st)(s:D8 H H'):FI C cn cs J B j H0 F H' st where
 W:=I.W.same s
 KO:=s _ _ I.KO
 Iy:=let ⟨kv,e,r⟩:=I.Iy;⟨kv,s _ _ e,r.ex (.of_same s)⟩
 M0:=let ⟨kv,e,r⟩:=I.M0;⟨kv,s _ _ e,r.ex (.of_same s)⟩
 dm:=λb f=>let ⟨o,e⟩:=I.dm b f;⟨o,s b o e⟩
 nF:=I.nF
 RE:=I.RE
 Y0:=I.Y0
 RH:=I.RH
 wlb:=I.wlb
 new:=I.new
 kp:=λx o e n=>s x o (I.kp x o e n)
def LA.rep{C:MC}{cn:Nat}{F:se}{H:Hp}{cs:List WC}{j:List WS}(W:LA C cn F H cs j):D7 C (λ_=>True) H (cs.map λc=>V.ref c.a) (j.map λw=>w.pv cn):=by
 have h:∀(cs:List WC) (j:List WS),cs.length=j.length->(∀(i:Nat) (c:WC) (w:WS),cs[i]?=some c->j[i]?=some w->c.n=cn/\WR C F H c w)->D7 C (λ_=>True) H (cs.map λc=>V.ref c.a) (j.map λw=>w.pv cn):=by
  intro cs;induction cs with
  |nil=>
   intro j l _;cases j with
   |nil=>exact .nil
   |cons w j=>cases l
  |cons c cs I=>
   intro j l a;cases j with
   |nil=>cases l
   |cons w j=>
    obtain⟨e,B⟩:=a 0 c w rfl rfl;refine .cons ?_ (I j (by simpa using l) λi c w h1 h2=>a (i+1) c w (by simpa using h1) (by simpa using h2));have:=B.rep;rw[e]at this;exact this.ex (bB λ_ _ _ _=>trivial)
 exact h cs j W.len W.all
def Qq(C:MC)(cn:Nat)(io:sj):TE:=pM (C.cl cn) "is_over" (IL C io false) [] E0 (QE (wG C.K) (EC 0) (tC (.int 0))) (aU (QE (HY C.K) (EC 8) (tC (.int 0))) bF)
def Jo(C:MC)(cn:Nat)(io so ro:sj)(fS:Addr):TS:=
 jG (Mu (tB (jq C.K (EC 8) (EC 3))) (Mv (tB (Qq C cn io))))
  (bO (pN C.K (EC 3) (EC 8) (sJ (aU (EC 6) (aU (EC 7) bF))))
   (bO (nM (Zk C.K "list" vC (EC 5) (aU (EC 8) bF)))
    (jG (tB (yq 1 fS (IL C so false) (aU (EC 0) (aU (EC 8) bF)))) (fQ (gB (IL C ro false) [] E0 (aU (EC 3) (aU (EC 8) bF)))) iW)))
  iW
variable {C:MC}{cn:Nat}{cs:List WC}
def FI.grow{wl j B p b:Addr}{H0:Hp}{st:FS}{kd:List (List D5×V)}{U:sC}{Y J:rL}{sd:PV}{O M:V}(I:FI C cn cs wl j B H0 F H st)(Z:H j=some (.dT kd))(Y1:EM C (λ_=>False) H kd st.EW)(M0:H B=some (.lst U))(rlb:D7 C (λ_=>False) H U (st.later.map HI))(hp:H p=none)
  (rn:Rep C (λ_=>False) H O (HI Y)) (rd:Rep C (λ_=>False) H M sd) (rr:Rep C (λ_=>False) H (.ref b) (HI J)):
  FI C cn cs wl j B H0 F (upd (upd (upd H p (.tup [O,M])) j (.dT (putK kd (dG J) (.ref p)))) B (.lst (U++[.ref b]))) {st with EW:=cu st.EW (dG J) (.tup [HI Y,sd]),later:=st.later++[J]} /\
  (∀x o,H x=some o->jP o=false->upd (upd (upd H p (.tup [O,M])) j (.dT (putK kd (dG J) (.ref p)))) B (.lst (U++[.ref b])) x=some o) /\
  (∀x o,H x=some o->x≠j->x≠B->upd (upd (upd H p (.tup [O,M])) j (.dT (putK kd (dG J) (.ref p)))) B (.lst (U++[.ref b])) x=some o):=by
 have s1:=aM hp (.tup [O,M]);have npd:p≠j:=(aF Z hp).symm;have npl:p≠B:=(aF M0 hp).symm;have ndl:j≠B:=cO Z M0 (λz=>nomatch z);have I1:=I.same s1;have Y2:=s1 _ _ Z;have W2:LA C cn F (upd (upd H p (.tup [O,M])) j (.dT (putK kd (dG J) (.ref p)))) cs st.ws:=I1.W.own Y2 rfl I.nF.2.1 I.Y0;have hlb2:upd (upd H p (.tup [O,M])) j (.dT (putK kd (dG J) (.ref p))) B=some (.lst U):=by rw[aG ndl.symm];exact s1 _ _ M0
 have W3:=W2.own (o:=.lst (U++[.ref b])) hlb2 rfl I.nF.2.2 I.RH;have k3:∀x o,H x=some o->x≠j->x≠B->upd (upd (upd H p (.tup [O,M])) j (.dT (putK kd (dG J) (.ref p)))) B (.lst (U++[.ref b])) x=some o:=λx o e n1 n2=>by rw[aG n2,aG n1];exact s1 x o e
 have km:∀x o,H x=some o->jP o=false->upd (upd (upd H p (.tup [O,M])) j (.dT (putK kd (dG J) (.ref p)))) B (.lst (U++[.ref b])) x=some o:=λx o e m=>k3 x o e (λz=>by rw[z,Z]at e;cases e;cases m) λz=>by rw[z,M0]at e;cases e;cases m
 have ex:=pR (F:=λ_=>False) km;have hp3:upd (upd (upd H p (.tup [O,M])) j (.dT (putK kd (dG J) (.ref p)))) B (.lst (U++[.ref b])) p=some (.tup [O,M]):=by rw[aG npl,aG npd,aB]
 refine⟨⟨W3,k3 _ _ I.KO (cO I.KO Z (λz=>nomatch z)) I.wlb,⟨_,by rw[aG ndl,aB],EM.put (.tup hp3 (.cons (rn.ex ex) (.cons (rd.ex ex) .nil))) (Y1.ex ex)⟩,⟨_,aB,?_⟩,λx f=>?_,I.nF,I.RE,I.Y0,I.RH,I.wlb,I.new,λx o e n=>?_⟩,km,k3⟩
 ·rw[de]
  exact(rlb.ex ex).append (.cons (rr.ex ex) .nil)
 ·obtain⟨o,e⟩:=I.dm x f
  exact⟨o,k3 x o e (λz=>I.nF.2.1 (z▸f)) (λz=>I.nF.2.2 (z▸f))⟩
 ·exact k3 x o (I.kp x o e n) (λz=>by rw[z,I.new.1]at e;cases e) λz=>by rw[z,I.new.2]at e;cases e
variable {out:FS ⊕ PV}
set_option tactic.hygienic true in def Oo{io so ro:sj}{fS wl M Z la:Addr}{H0:Hp}{st:FS}{J Y:rL}{sd:PV}{vs vn vd vr:V}{D:Ends}(I:FI C cn cs wl M Z H0 F H st)(rn:Rep C (λ_=>False) H vn (HI J))(rd:Rep C (λ_=>False) H vd sd)(rr:Rep C (λ_=>False) H vr (HI Y))
  (h:zG cn io so ro J (sd,Y) st=some out)
  (q1:∀H' Fu,out=.inl Fu->FI C cn cs wl M Z H0 F H' Fu->(∀x o,H x=some o->jP o=false->H' x=some o)->(∀x o,H x=some o->x≠M->x≠Z->H' x=some o)->D.nx [some (.ref wl),some (.ref fS),some vs,some (.ref M),some (.ref la),some (.ref Z),some vn,some vd,some vr] H')
  (q2:∀H' v p,out=.inr p->Fm cs H0 H'->Rep C (λb=>H0 b=none) H' v p->D.rt v H'):
  Jo C cn io so ro fS D [some (.ref wl),some (.ref fS),some vs,some (.ref M),some (.ref la),some (.ref Z),some vn,some vd,some vr] H:=by
 obtain⟨kd,Iy,Y1⟩:=I.Iy;obtain⟨lv,M0,rlb⟩:=I.M0;obtain⟨b,us,rfl,hb,rb⟩:=EB.tup (.inl rr);have ck:GI C.K H b (dG Y):=hb.key (rb.EI (lG Y));have eus:=uU rb;unfold Jo;dsimp only[jG,Mu,tB,jq,Mv,bO,pN,nM,Zk,iW,fQ,gB,yq];refine⟨_,rfl,_,rfl,M,_,rfl,FE.t Iy ck,_,rfl,?_⟩;unfold zG at h;dsimp only at h;rcases EM.val (k:=dG Y) Y1 with⟨y,py,g1,g2,ry⟩|⟨g1,g2⟩
 ·have eL:aZ st.EW (dG Y)=some py:=g2
  rw[eL]at h;cases h;rw[g1];exact mJ (mJ (q1 H st rfl I (λ_ _ e _=>e) λ_ _ e _ _=>e))
 ·have eL:aZ st.EW (dG Y)=none:=g2
  rw[eL]at h;rw[g1];refine jH ?_;cases ews:st.ws with
  |nil=>rw[ews]at h;cases h
  |cons w0 wr=>
   cases Y with
   |nil=>rw[ews]at h;cases h
   |cons k B=>
    rw[ews]at h;obtain⟨o,ho,h⟩:=ae.mp h;obtain⟨U,cr,ecs⟩:∃U cr,cs=U::cr:=by
     have:=I.W.len;rw[ews]at this;cases cs with
     |nil=>cases this
     |cons U cr=>exact⟨U,cr,rfl⟩
    obtain⟨ZC,W0⟩:=I.W.all 0 U w0 (by rw[ecs];rfl) (by rw[ews];rfl);have YW:us=V.int k::B.map V.int:=eus;have i0:Fn (cs.map λc=>V.ref c.a) 0=some (.ref U.a):=by rw[ecs];simp[Fn,L9]
    have i1:Fn us 0=some (.int k):=by rw[YW];simp[Fn,L9]
    unfold Qq;dsimp only[pM,QE,tC,aU,bF];refine⟨_,rfl,wl,_,0,_,rfl,rfl,Fc.of I.KO,i0,U.a,U.dx,_,rfl,by rw[←ZC];exact W0.ob,rfl,?_⟩;refine⟨_,rfl,b,us,0,_,rfl,rfl,hb.sq,i1,?_⟩;have r0:Rep C (λ_=>True) H (.ref U.a) (w0.pv cn):=by
     have:=W0.rep;rw[ZC]at this;exact this.ex (bB λ_ _ _ _=>trivial)
    refine⟨λ_=>True,[w0.pv cn,.int k],o,.cons r0 (.cons (.int _) .nil),ho,λv1 H1 O r1=>?_⟩;have MI:EB C _ H1 v1 o:=.inl r1;cases o<;>first|(cases h;done)|skip
    rename_i ob;refine⟨ob,MI.bl,?_⟩;have I1:=I.same O;cases ob with
    |true=>
     cases h;exact mJ (q1 H1 st rfl I1 (λx o e _=>O x o e) λx o e _ _=>O x o e)
    |false=>
     refine jH ?_;dsimp only at h;split at h
     ·rename_i hz
      obtain⟨s,hs,h⟩:=ae.mp h;have Y2:=O _ _ Iy;have hlb1:=O _ _ M0;have j:Ex (λ_=>False) H (λ_=>False) H1:=.of_same O;refine⟨_,rfl,_,rfl,by show(2:Nat)<=sizeLine;decide,λp hp=>?_⟩;have ck1:GI C.K H1 b (dG (k::B)):=ck.keeps λx ys e=>O _ _ e;have sp:=aM hp (.tup [vn,vd]);have ck2:GI C.K (upd H1 p (.tup [vn,vd])) b (dG (k::B)):=ck1.keeps λx ys e=>sp _ _ e;refine⟨_,rfl,_,rfl,M,_,rfl,LH.t (sp _ _ Y2) ck2 (cT (by rw[Y1.length];omega)),?_⟩;obtain⟨I4,km,k4⟩:=I1.grow Y2 (Y1.ex j) hlb1 (rlb.ex j) hp (rn.ex j) (rd.ex j) (rr.ex j);have ndl:M≠Z:=cO Iy M0 (λz=>nomatch z);have hl3:upd (upd H1 p (.tup [vn,vd])) M (.dT (putK kd (dG (k::B)) (.ref p))) Z=some (.lst lv):=by rw[aG ndl.symm];exact sp _ _ hlb1
      refine⟨_,rfl,.inl ⟨rfl,lv,Fc.of hl3⟩,_,rfl,Z,lv,.ref b,rfl,rfl,hl3,cT (by have:=rlb.length;rw[ar]at this;omega),?_⟩;refine⟨rfl,_,rfl,_,rfl,?_⟩;have rr4:=(rr.ex j).ex (pR (F:=λ_=>True) km);refine⟨λ_=>True,[.lst (st.ws.map λw=>w.pv cn),HI (k::B)],s,.cons (.lst I4.KO trivial I4.W.rep) (.cons rr4 .nil),by rw[ews];exact hs,λv5 H5 s5 r5=>?_⟩;have r5':EB C _ H5 v5 s:=.inl r5;cases s<;>first|(cases h;done)|skip
      rename_i sb;refine⟨sb,r5'.bl,?_⟩;have I5:=I4.same s5;cases sb with
      |true=>
       refine jH ?_;obtain⟨pv,hro,h⟩:=ae.mp h;cases h;obtain⟨kd5,hd5,rd5⟩:=I5.Iy;refine⟨_,rfl,_,rfl,?_⟩;refine⟨λc=>c=M,[.dT (cu st.EW (dG (k::B)) (.tup [HI J,sd])),HI (k::B)],pv,.cons (.dT hd5 rfl (rd5.ex (bB λ_ _ _ z=>z.elim))) (.cons (((rr.ex j).ex (pR (F:=λ_=>False) km)).ex (pR λx o e m=>s5 x o e)) .nil),hro,λv H6 s6 r6=>?_⟩;refine q2 H6 v pv rfl (λx o e n=>s6 x o (I5.kp x o e n)) ?_;exact(show Rep C (λc=>c=M\/H5 c=none) H6 v pv from r6).ex (bB λx o _ z=>z.elim (λe=>by rw[e];exact I.new.1) λe=>I5.kp.dom I5.W e)
      |false=>
       cases h;exact mJ (q1 H5 _ (by rw[ews]) I5 (λx o e m=>s5 x o (km x o (O x o e) m)) λx o e n1 n2=>s5 x o (k4 x o (O x o e) n1 n2))
     ·cases h
noncomputable def DR(cn:Nat)(io so ro:sj)(node:rL):List (PV×List Int)->FS->Option (FS ⊕ PV)
 |[],st=>some (.inl st)
 |x::xs,st=>(zG cn io so ro node x st).bind λo=>match o with
  |.inl Fu=>DR cn io so ro node xs Fu
  |.inr v=>some (.inr v)
noncomputable def zH(pb:sj)(cn:Nat)(S:sA)(io so ro:sj):List (List Int)->FS->Option (FS ⊕ PV)
 |[],st=>some (.inl st)
 |n::ns,st=>(YY pb cn S st.ws n).bind λr=>(DR cn io so ro n (S.zip r.1) {st with ws:=r.2}).bind λo=>match o with
  |.inl Fu=>zH pb cn S io so ro ns Fu
  |.inr v=>some (.inr v)
noncomputable def zJ(pb:sj)(cn:Nat)(S:sA)(io so ro:sj):Nat->List (List Int)->FS->Option PV
 |0,_,_=>none
 |_+1,[],_=>some .Ee
 |f+1,n::ns,st=>(zH pb cn S io so ro (n::ns) {st with later:=[]}).bind λo=>match o with
  |.inl Fu=>zJ pb cn S io so ro f Fu.later Fu
  |.inr v=>some v
noncomputable def frW(pb:sj)(cn:Nat)(S:sA)(io so ro:sj)(ws:List WS):Option PV:=
 zJ pb cn S io so ro 1000 [List.replicate ws.length 0] {ws:=ws,EW:=[(dG (List.replicate ws.length 0),.Ee)],later:=[List.replicate ws.length 0]}
section
variable {C:MC}{cn:Nat}{cs:List WC}{wl da lb:Addr}{H0 H H1:Hp}{F F1:se}{st:FS}{MM:List WS}
def FI.walk(I:FI C cn cs wl da lb H0 F H st)(kp:Fm cs H H1)(O:Mo F F1 H)(W:LA C cn F1 H1 cs MM)(Y:∀b,F1 b->∃o,H1 b=some o):FI C cn cs wl da lb H0 F1 H1 {st with ws:=MM}:=by
 have ex:=pR (H:=H) (H':=H1) (F:=λ_=>False) λx o e m=>kp.tup I.W e m;obtain⟨kd,Iy,M⟩:=I.Iy;obtain⟨U,M0,J⟩:=I.M0;have B:∀x o,H x=some o->¬ F x->¬ F1 x:=λx o e n z=>(O.2 x z).elim n λq=>by rw[q]at e;cases e
 exact⟨W,kp.lst I.W I.KO I.RE,⟨kd,kp da _ Iy λc j=>⟨(I.Y0 c j).2.2.1,(I.Y0 c j).2.2.2.1,(I.Y0 c j).2.2.2.2⟩,M.ex ex⟩,⟨U,kp lb _ M0 λc j=>⟨(I.RH c j).2.2.1,(I.RH c j).2.2.2.1,(I.RH c j).2.2.2.2⟩,J.ex ex⟩,Y,
  ⟨B _ _ I.KO I.nF.1,B _ _ Iy I.nF.2.1,B _ _ M0 I.nF.2.2⟩,I.RE,I.Y0,I.RH,I.wlb,I.new,I.kp.trans kp⟩
end
def DW(C:MC)(cn:Nat)(pb:sj)(S:sA)(io so ro:sj)(fS aS:Addr):TS:=
 wB (BJ C.K .T .L (aU (tC (.ref aS)) (aU (gB (Dz C cn pb S) [] E0 (aU (EC 0) (aU (EC 6) bF))) bF))) (QA C.K 2 (JU (bu 7) (JU (bu 8) Cj))) (Jo C cn io so ro fS)
def WL{A:se}{v:V}{n:rL}(r:Rep C A H v (HI n)):Rep C (λ_=>False) H v (HI n):=G8 r (lG n)
variable {nodes:List (List Int)}
def Lh{pb:sj}{S:sA}{io so ro:sj}{fS aS wl da lb la:Addr}{H0:Hp}{st:FS}{B:rL}{vs U:V}{x7 x8:Option V}{MM:List WS}{D:Ends}(hS:uT C aS S)(ne:cs≠[])(hz:cs.length<=1000)(T:WT C.K (C.cl cn))(I:FI C cn cs wl da lb H0 F H st)(rn:Rep C (λ_=>False) H U (HI B))
  (Z:YY pb cn S st.ws B=some (nodes,MM)) (h:DR cn io so ro B (S.zip nodes) {st with ws:=MM}=some out)
  (q1:∀H' F' Fu y7 y8,out=.inl Fu->FI C cn cs wl da lb H0 F' H' Fu->(∀x o,H x=some o->jP o=false->H' x=some o)->(∀x xs,H x=some (.lst xs)->(∀c∈cs,x≠c.lp)->x≠lb->H' x=some (.lst xs))->D.nx [some (.ref wl),some (.ref fS),some vs,some (.ref da),some (.ref la),some (.ref lb),some U,y7,y8] H')
  (q2:∀H' v p,out=.inr p->Fm cs H0 H'->Rep C (λb=>H0 b=none) H' v p->D.rt v H'):
  DW C cn pb S io so ro fS aS D [some (.ref wl),some (.ref fS),some vs,some (.ref da),some (.ref la),some (.ref lb),some U,x7,x8] H:=by
 obtain⟨us,YW,rus⟩:=hS;have qZ:us.length=S.length:=(rus F H).length;have nl:nodes.length=S.length:=by
  obtain⟨r,_,h2⟩:=ae.mp Z;obtain⟨rows,_,h3⟩:=ae.mp h2;cases h3;simp
 unfold DW;refine⟨_,rfl,_,rfl,?_⟩;refine⟨F,cs,st.ws,B,nodes,MM,wl,U,rfl,ne,T,I.W,I.KO,I.nF.1,I.RE,hz,rn.ex (bB λ_ _ _ z=>z.elim),Z,λH1 F1 l NX k1 g1 W1 hl nl1 Rl r1=>?_⟩;refine⟨aS,l,rfl,⟨us,qb YW⟩,⟨NX,Fc.of Rl⟩,?_⟩;obtain⟨c0,ZF⟩:=kc _ ne;obtain⟨i0,hi0⟩:=dQ.mp ZF;have dm1:∀b,F1 b->∃o,H1 b=some o:=(W1.all i0 c0 _ hi0 (ax (by rw[←W1.len];exact(al.mp hi0).1))).2.dm;have I1:=I.walk k1 g1 W1 dm1;obtain⟨kd,Iy,_⟩:=I.Iy;obtain⟨lv,M0,_⟩:=I.M0;have nld:l≠da:=(aF Iy hl).symm;have RH:l≠lb:=(aF M0 hl).symm;have lv':NX.length=nodes.length:=by have:=r1.length;simpa using this
 refine Og (K:=C.K) (k1:=.T) (k2:=.L) (a:=aS) (b:=l) (xs:=us) (ys:=NX) (by omega) (λj FV J=>∃y7 y8 O,FV=[some (.ref wl),some (.ref fS),some vs,some (.ref da),some (.ref la),some (.ref lb),some U,y7,y8]/\FI C cn cs wl da lb H0 F1 J O/\DR cn io so ro B ((S.zip nodes).drop j) O=some out/\(∀x o,H1 x=some o->jP o=false->J x=some o)/\∀x o,H1 x=some o->x≠da->x≠lb->J x=some o)
  ⟨x7,x8,_,rfl,I1,h,λ_ _ e _=>e,λ_ _ e _ _=>e⟩ (λj FV J _ ⟨y7,y8,O,_,Ij,_,_,kj⟩=>⟨qb YW,Fc.of (kj _ _ Rl nld RH)⟩) (λj x y FV J hx hy ⟨y7,y8,O,e,Ij,M,mj,kj⟩ t ht=>?_) (fun FV J ⟨y7,y8,O,e,Ij,M,mj,kj⟩=>?_)
 ·subst e
  have hj1:j<us.length:=(al.mp hx).1;have hs:S[j]?=some (S[j]'(by omega)):=ax (by omega);have hn:nodes[j]?=some (nodes[j]'(by omega)):=ax (by omega);have PU:(S.zip nodes).drop j=(S[j]'(by omega),nodes[j]'(by omega))::(S.zip nodes).drop (j+1):=by
   rw[db (by simp;omega)];simp
  generalize S[j]'(by omega)=sd at hs PU;generalize nodes[j]'(by omega)=rc at hn PU;rw[PU]at M;obtain⟨o,ho,M⟩:=ae.mp (show((zG cn io so ro B (sd,rc) O).bind _)=_ from M);have Y:=aM ht (.tup [x,y]);refine⟨t,[x,y],rfl,GN.of aB,rfl,x,[y],rfl,?_⟩;refine⟨y,[],rfl,rfl,?_⟩;have rd:Rep C (λ_=>False) (upd J t (.tup [x,y])) x sd:=by
   obtain⟨p,e,r⟩:=(rus (λ_=>False) (upd J t (.tup [x,y]))).get' hx;rw[hs]at e;cases e;exact r
  have rr:Rep C (λ_=>False) (upd J t (.tup [x,y])) y (HI rc):=by
   obtain⟨p,e,r⟩:=r1.get' hy;rw[cm,hn]at e;cases e;exact((WL r).ex (pR (F:=λ_=>False) mj)).ex (.of_same Y)
  have rn':Rep C (λ_=>False) (upd J t (.tup [x,y])) U (HI B):=((rn.ex (pR (F:=λ_=>False) λx o e m=>k1.tup I.W e m)).ex (pR (F:=λ_=>False) mj)).ex (.of_same Y);refine Oo (Ij.same Y) rn' rd rr ho (λH' Fu e I' m' k'=>?_) (λH' v p e kp rp=>?_)
  ·subst e
   exact⟨some x,some y,Fu,rfl,I',M,λz o e m=>m' z o (Y z o (mj z o e m)) m,λz o e n1 n2=>k' z o (Y z o (kj z o e n1 n2)) n1 n2⟩
  ·subst e
   cases M;exact q2 H' v p rfl kp rp
 ·subst e
  have PU:(S.zip nodes).drop us.length=[]:=by rw[li];simp;omega
  rw[PU]at M;cases M;refine q1 J F1 O y7 y8 rfl Ij (λx o e m=>mj x o (k1.tup I.W e m) m) λx xs e n1 n2=>?_;exact kj x _ (k1.lst I.W e n1) (λz=>by rw[z,Iy]at e;cases e) n2
def U8(C:MC)(cn:Nat)(pb:sj)(S:sA)(io so ro:sj)(fS aS:Addr):TS:=wB (xM C.K (EC 4)) (bu 6) (DW C cn pb S io so ro fS aS)
def vP{pb:sj}{S:sA}{io so ro:sj}{fS aS wl da lb B:Addr}{H0:Hp}{st:FS}{M:sC}{vs:V}{x6 x7 x8:Option V}{D:Ends}(hS:uT C aS S)(ne:cs≠[])(hz:cs.length<=1000)(T:WT C.K (C.cl cn))(I:FI C cn cs wl da lb H0 F H st)
  (OK:H B=some (.lst M)) (rla:D7 C (λ_=>False) H M (nodes.map HI)) (nla:∀c∈cs,B≠c.lp) (RH:B≠lb) (h:zH pb cn S io so ro nodes st=some out)
  (q1:∀H' F' Fu U y7 y8,out=.inl Fu->FI C cn cs wl da lb H0 F' H' Fu->D.nx [some (.ref wl),some (.ref fS),some vs,some (.ref da),some (.ref B),some (.ref lb),U,y7,y8] H')
  (q2:∀H' v p,out=.inr p->Fm cs H0 H'->Rep C (λb=>H0 b=none) H' v p->D.rt v H'):
  U8 C cn pb S io so ro fS aS D [some (.ref wl),some (.ref fS),some vs,some (.ref da),some (.ref B),some (.ref lb),x6,x7,x8] H:=by
 refine⟨_,rfl,B,rfl,⟨M,Fc.of OK⟩,?_⟩;have ln:M.length=nodes.length:=by have:=rla.length;simpa using this
 refine Cq (K:=C.K) (a:=B) (xs:=M) (λj FV O=>∃U y7 y8 Y Fj,FV=[some (.ref wl),some (.ref fS),some vs,some (.ref da),some (.ref B),some (.ref lb),U,y7,y8]/\FI C cn cs wl da lb H0 Fj O Y/\zH pb cn S io so ro (nodes.drop j) Y=some out/\(∀x o,H x=some o->jP o=false->O x=some o)/\O B=some (.lst M))
  ⟨x6,x7,x8,st,F,rfl,I,h,λ_ _ e _=>e,OK⟩ (λj FV O _ ⟨_,_,_,_,_,_,_,_,_,e⟩=>Fc.of e) (λj x FV O hx ⟨U,y7,y8,Y,Fj,e,Ij,J,mj,Z⟩=>?_) (fun FV O ⟨U,y7,y8,Y,Fj,e,Ij,J,mj,Z⟩=>?_)
 ·subst e
  have hj1:j<M.length:=(al.mp hx).1;have hn:nodes[j]?=some (nodes[j]'(by omega)):=ax (by omega);have PU:nodes.drop j=nodes[j]'(by omega)::nodes.drop (j+1):=db (by omega);generalize nodes[j]'(by omega)=n at hn PU;rw[PU]at J;obtain⟨⟨nds,ws2⟩,hnb,J⟩:=ae.mp (show((YY pb cn S Y.ws n).bind _)=_ from J);obtain⟨o,ho,J⟩:=ae.mp J;have rn:Rep C (λ_=>False) O x (HI n):=by
   obtain⟨p,e,r⟩:=rla.get' hx;rw[cm,hn]at e;cases e;exact r.ex (pR mj)
  refine Lh hS ne hz T Ij rn hnb ho (λH' F' Fu z7 z8 e I' m' k'=>?_) (λH' v p e kp rp=>?_)
  ·subst e
   exact⟨some x,z7,z8,Fu,F',rfl,I',J,λy o e m=>m' y o (mj y o e m) m,k' B M Z nla RH⟩
  ·subst e
   cases J;exact q2 H' v p rfl kp rp
 ·subst e
  have PU:nodes.drop M.length=[]:=by rw[li];omega
  rw[PU]at J;cases J;exact q1 O Fj Y U y7 y8 rfl Ij
def FI.fresh{wl da J lb:Addr}{H0:Hp}{st:FS}(I:FI C cn cs wl da J H0 F H st)(j:H lb=none):FI C cn cs wl da lb H0 F (upd H lb (.lst [])) {st with later:=[]}:=by
 have s:=aM j (.lst []);obtain⟨kd,Iy,B⟩:=I.Iy;exact⟨I.W.same s,s _ _ I.KO,⟨kd,s _ _ Iy,B.ex (.of_same s)⟩,⟨[],aB,.nil⟩,λb f=>(let ⟨o,e⟩:=I.dm b f;⟨o,s b o e⟩),⟨I.nF.1,I.nF.2.1,λf=>by obtain⟨o,e⟩:=I.dm lb f;rw[j]at e;cases e⟩,I.RE,I.Y0,I.W.nc j,aF I.KO j,⟨I.new.1,I.kp.dom I.W j⟩,λx o e n=>s x o (I.kp x o e n)⟩
def tWh(C:MC)(cn:Nat)(pb:sj)(S:sA)(io so ro:sj)(fS aS:Addr):TS:=
 JQ (tB (tGt (Zh (Jg C.K) (aU (EC 4) bF)) (tC (.int 0)))) (bO (dB (pY bF) (bu 5)) (bO (U8 C cn pb S io so ro fS aS) (dB (EC 5) (bu 4))))
def U9{J:sj}{S:sA}{O M ro:sj}{Z aS wl da j:Addr}{H0:Hp}{st:FS}{vs:V}{x5 x6 x7 x8:Option V}{out:PV}{fuel:Nat}{D:Ends}(hS:uT C aS S)(ne:cs≠[])(hz:cs.length<=1000)(T:WT C.K (C.cl cn))(I:FI C cn cs wl da j H0 F H st)(h:zJ J cn S O M ro fuel st.later st=some out)
  (q1:∀ FV H',out=.Ee->Fm cs H0 H'->D.nx FV H')
  (q2:∀H' v,Fm cs H0 H'->Rep C (λb=>H0 b=none) H' v out->D.rt v H'):
  tWh C cn J S O M ro Z aS D [some (.ref wl),some (.ref Z),some vs,some (.ref da),some (.ref j),x5,x6,x7,x8] H:=by
 refine⟨λm FV H=>∃j x5 x6 x7 x8 F st,FV=[some (.ref wl),some (.ref Z),some vs,some (.ref da),some (.ref j),x5,x6,x7,x8]/\FI C cn cs wl da j H0 F H st/\zJ J cn S O M ro m st.later st=some out,⟨fuel,j,x5,x6,x7,x8,F,st,rfl,I,h⟩,?_⟩;rintro m FV H ⟨j,x5,x6,x7,x8,F,st,rfl,I,h⟩;obtain⟨B,OK,U⟩:=I.M0;have Y:B.length=st.later.length:=by have:=U.length;simpa using this
 cases m with
 |zero=>cases h
 |succ f=>
  refine⟨_,rfl,j,B,rfl,.inl (Fc.of OK),_,_,rfl,rfl,_,rfl,?_⟩;cases hl:st.later with
  |nil=>
   rw[hl]at h Y;cases h;have e:decide ((0:Int)<(B.length:Nat))=false:=by rw[Y];rfl
   exact(br (λx=>bq (e.symm.trans x))).mpr (q1 _ H rfl I.kp)
  |cons n ns=>
   rw[hl]at h Y;have e:decide ((0:Int)<(B.length:Nat))=true:=by
    have:B.length=ns.length+1:=Y;exact eP (by omega)
   refine(bS e).mpr ?_;obtain⟨o,ho,h⟩:=ae.mp (show((zH J cn S O M ro (n::ns) {st with later:=[]}).bind _)=_ from h);refine⟨fun FV H=>∃j x5 x6 x7 x8 F st,FV=[some (.ref wl),some (.ref Z),some vs,some (.ref da),some (.ref j),x5,x6,x7,x8]/\FI C cn cs wl da j H0 F H st/\zJ J cn S O M ro f st.later st=some out,fun GG H' p=>⟨f,hZ _,p⟩,?_⟩;refine⟨cq _,λlb hb=>?_⟩;have s:=aM hb (.lst []);have I2:=I.fresh hb;refine vP hS ne hz T I2 (s _ _ OK) ((show D7 C (λ_=>False) H B ((n::ns).map HI)from by rw[←hl];exact U).ex (.of_same s)) (λc hc=>(I.RH c hc).2.2.1) (aF OK hb) ho (λH' F' Fu y6 y7 y8 e I'=>?_) (λH' v p e kp rp=>?_)
   ·subst e
    exact⟨_,rfl,lb,some (.ref lb),y6,y7,y8,F',Fu,rfl,I',h⟩
   ·subst e
    cases h;exact q2 H' v kp rp
def DX(K:W.Frag):TE:=QE Qo (sJ (aU (tC (.int 0)) bF)) (Zh (Jg K) (aU (EC 0) bF))
def Li{K:W.Frag}{wl:Addr}{ls:sC}{rest:List (Option V)}{Q:VK}(B:H wl=some (.lst ls))(j:ls.length=1\/ls.length=2)(q:∀H1 a,D8 H H1->H1 a=some (.tup (List.replicate ls.length (V.int 0)))->Q (.ref a) H1):DX K (some (.ref wl)::rest) H Q:=by
 unfold DX;refine⟨by show(1:Nat)<=sizeLine;decide,λp J=>?_⟩;have s:=aM J (.tup [V.int 0]);refine⟨_,rfl,wl,ls,rfl,.inl (Fc.of (s _ _ B)),p,_,rfl,aB,?_⟩;rcases j with e|e
 ·rw[e]at q
  exact .inl ⟨by rw[e];rfl,q _ p s aB⟩
 ·rw[e]at q
  exact .inr ⟨by rw[e];rfl,λl I=>q _ l (s.trans (aM I _)) aB⟩
def tFr(C:MC)(cn:Nat)(pb:sj)(S:sA)(io so ro:sj)(fS aS:Addr):TS:=
 bO (dB (DX C.K) (bu 2)) (bO (dB (Jd C.K (EC 2) (tC .Ee)) (bu 3)) (bO (dB (pY (aU (EC 2) bF)) (bu 4)) (bO (tWh C cn pb S io so ro fS aS) (fQ (tC .Ee)))))
def U_(C:MC)(cn:Nat)(pb:sj)(S:sA)(io so ro:sj)(fS:Addr):Sp:=λvs H Q _=>∃F cs ws out wl,vs=[.ref wl,.ref fS]/\(cs.length=1\/cs.length=2)/\WT C.K (C.cl cn)/\LA C cn F H cs ws/\H wl=some (.lst (cs.map λc=>V.ref c.a))/\¬ F wl/\(∀c∈cs,wl≠c.lp)/\frW pb cn S io so ro ws=some out /\
 ∀H' v,Fm cs H H'->Rep C (λb=>H b=none) H' v out->Q v H'
def Va{pb:sj}{S:sA}{io so ro:sj}{fS aS:Addr}{vs:sC}{Q:VK}{E:XK}(hS:uT C aS S)(h:U_ C cn pb S io so ro fS vs H Q E):tFr C cn pb S io so ro fS aS {nx:=λ_ H'=>Q .Ee H',rt:=Q} (L2.start ["walks","is_sought","start","ways","nodes","later","node","said","reached"] vs) H:=by
 obtain⟨F,cs,ws,out,wl,rfl,I,T,W,KO,nwF,RE,hf,q⟩:=h;have ne:cs≠[]:=by rintro rfl;rcases I with e|e<;>cases e
 have hz:cs.length<=1000:=by rcases I with e|e<;>omega
 have lw:=W.len;obtain⟨c0,ZF⟩:=kc _ ne;obtain⟨i0,O⟩:=dQ.mp ZF;have dm:∀b,F b->∃o,H b=some o:=(W.all i0 c0 _ O (ax (by rw[←W.len];exact(al.mp O).1))).2.dm;unfold tFr;dsimp only[bO,dB,bu];refine Li KO (by simpa using I) λH1 a s1 ha=>?_;rw[ar,lw]at ha;have rz:Rep C (λ_=>False) H1 (.ref a) (HI (List.replicate ws.length 0)):=.tup ha (by
  rw[show List.replicate ws.length (V.int 0)=(List.replicate ws.length (0:Int)).map V.int by simp];exact mK _ _ (λi=>.int i) _)
 obtain⟨b,us,e,hb,rb⟩:=EB.tup (.inl rz);cases e;have ck:GI C.K H1 a (dG (List.replicate ws.length 0)):=hb.key (rb.EI (lG _));intro da Z;have sd:=aM Z (.dT []);refine⟨_,rfl,aB,a,_,rfl,ck.keeps λx ys e=>sd _ _ e,?_⟩;have s3:=sd.over Z (.dT [(dG (List.replicate ws.length 0),V.Ee)]);refine⟨_,rfl,by show(1:Nat)<=sizeLine;decide,λM U=>?_⟩;have s4:=aM U (.lst [.ref a]);have J:=s3.trans s4;have Y:=s1.trans J;have j:H da=none:=by
  cases e:H da with
  |none=>rfl
  |some o=>rw[s1 _ _ e]at Z;cases Z
 have B:H1 M=none:=by
  cases e:H1 M with
  |none=>rfl
  |some o=>rw[s3 _ _ e]at U;cases U
 have Y4:H M=none:=by
  cases e:H M with
  |none=>rfl
  |some o=>rw[s1 _ _ e]at B;cases B
 have ndl:da≠M:=aF aB U;have nf:∀x,H x=none->¬ F x:=λx e f=>by obtain⟨o,z⟩:=dm x f;rw[e]at z;cases z
 refine U9 (H0:=H) (F:=F) (st:={ws:=ws,EW:=[(dG (List.replicate ws.length 0),.Ee)],later:=[List.replicate ws.length 0]}) (fuel:=1000) (out:=out) hS ne hz T
  ⟨W.same Y,Y _ _ KO,⟨_,s4 _ _ aB,.cons .Ee .nil⟩,⟨_,aB,.cons (rz.ex (.of_same J)) .nil⟩,λb f=>(let ⟨o,e⟩:=dm b f;⟨o,Y b o e⟩),⟨nwF,nf _ j,nf _ Y4⟩,RE,W.nc j,W.nc Y4,aF KO Y4,⟨j,Y4⟩,λx o e _=>Y x o e⟩ hf
  (fun FV H' e kp=>?_) (λH' v kp r=>q H' v kp r)
 subst e;exact q H' .Ee kp .Ee
def Oq(mg:rX)(x:Str)(C:MC)(cn:Nat)(pb:sj)(S:sA)(io so ro:sj):Sp:=λvs H Q E=>∃fS,mg x=some (.ref fS)/\U_ C cn pb S io so ro fS vs H Q E
section
variable {X:Cx}
def vQ{I:Addr}{k j:Nat}{o e:Expr}{es:rh}{ta:TE}{t:TA}{x:Str}{ps:rj}{sp:Sp}{apos pos:Pos}(cM:KS X.prog X.w X.K X.mg X.base I k x ps sp)(M:OE X.K I)(hr:EU j X.A)(ho:PE X o ta)(Y:PA X (e::es) t)(B:autoParam (k<=j) r1_)
  (O:autoParam (HK X e es) r0_) (Z:autoParam (Lo X pos es) r0_){pl:Sem Bool}
  (ht:eval (.Call (.Attribute o x apos) (e::es) [] pos) X.env=(do
   let ov ←eval o X.env
   standAt apos.atName
   let (f,first) ←holding [ov] (getMethod ov x pl)
   callWith pos f first (backTo pos (starEach (e::es) X.env)) (backToKw pos (keywordEach [] X.env))):=by rfl):
  PE X (.Call (.Attribute o x apos) (e::es) [] pos) (pM I x sp [] E0 ta t):=by
 obtain⟨f,fd,F,J,U⟩:=cM.ex;exact GC (pl:=pl) ho M U F (hr.mono B) J .nil xU Y O Z ht
def Rx{k j i:Nat}{J:Addr}{x y:Str}{ps:rj}{sp:Sp}{p pos:Pos}{e:Expr}{es:rh}{t:TA}(c:QI X.prog X.w X.K X.mg X.base k y ps sp)(hm:X.mg y=some (.ref J))(hr:EU j X.A)(ha:PA X (e::es) t)(I:autoParam (k<=j) r1_)
  (hN:autoParam (X.N[i]?=some x) r0_) (Y:autoParam (S0 X.env.scope x) r5_) (hd:autoParam (Kt x) r1_) (O:autoParam (XZ x) r1_)
  (U:autoParam (HK X e es) r0_) (FO:autoParam (Lo X pos es) r0_):PE X (.Call (.Name x p) (e::es) [] pos) (yq i J sp t):=by
 obtain⟨f,fd,F,M,Z,B⟩:=c.ex;rw[hm]at B;cases B;exact Oi F (hr.mono I) Z M ha hN Y hd O U FO
end
noncomputable def wkW(wl ra ro es:sj)(st p:PV)(most:Int):Option WS:=
 (wl [p]).bind λc=>(ra [c]).bind λa=>match a with
  |.dT Sb=>(es [c]).bind λs=>(ro [c,s]).bind λe=>(ro [c,st]).bind λr0=>(EI [.tup [r0,.int 1]]).bind λk=>
    some {Sb:=Sb,most:=most,fin:=e,FL:=[.tup [.tup [r0,.int 1]]],nums:=[(k,.int 0)],L3:=[]}
  |_=>none
def zK(C:MC)(cn:Nat)(wl ra ro es:sj)(st:PV):Sp:=λvs H Q _=>∃A p most w x dx vm,vs=[.ref x,vm,.int most]/\WT C.K (C.cl cn)/\H x=some (.ins (C.cl cn) dx [])/\¬ A x/\Rep C A H vm p/\wkW wl ra ro es st p most=some w /\
 ∀H' F c,(∀a o,a≠x->H a=some o->H' a=some o)->c.n=cn->c.a=x->(H c.ah=none/\H c.lp=none/\H c.ln=none/\H c.lo=none)->(∀b,F b->(A b\/H b=none)/\b≠x)->WR C F H' c w->Q .Ee H'
def tWk(C:MC)(wl ra ro es:sj)(aT:Addr):TS:=
 bO (dB (gB (IL C wl false) [] E0 (aU (EC 1) bF)) (bu 3))
  (bO (uI C.K (EC 0) (gB (IL C ra true) [] E0 (aU (EC 3) bF)) "ahead")
  (bO (uI C.K (EC 0) (EC 2) "most")
  (bO (uI C.K (EC 0) (gB (IL C ro false) [] E0 (aU (EC 3) (aU (gB (IL C es false) [] E0 (aU (EC 3) bF)) bF))) "end")
  (bO (uI C.K (EC 0) (pY (aU (sJ (aU (sJ (aU (gB (IL C ro false) [] E0 (aU (EC 3) (aU (tC (.ref aT)) bF))) (aU (tC (.int 1)) bF))) bF)) bF)) "places")
  (bO (uI C.K (EC 0) (Jd C.K (QE (wG C.K) (mG C.K (EC 0) "places") (tC (.int 0))) (tC (.int 0))) "numbers")
  (uI C.K (EC 0) J_ "onward"))))))
def yu{A A':se}{H':Hp}{x J dx:Addr}{fs:List (Str×V)}(I:H x=some (.ins J dx fs))(M:¬ A x)(j:∀a o,a≠x->H a=some o->H' a=some o)(B:∀a o,H a=some o->A a->A' a):Ex A H A' H':=λa o e=>
 ⟨λq=>⟨j a o (λz=>M (z▸q)) e,B a o e q⟩,λm=>j a o (λz=>by rw[z,I]at e;cases e;cases m) e⟩
set_option tactic.hygienic true in def Vb{wl ra ro es:sj}{st:PV}{aT:Addr}{vs:sC}{Q:VK}{E:XK}(hT:∀B H,Rep C B H (.ref aT) st)(h:zK C cn wl ra ro es st vs H Q E):tWk C wl ra ro es aT {nx:=λ_ H'=>Q .Ee H',rt:=Q} (L2.start ["self","metre","most","closed"] vs) H:=by
 obtain⟨A,p,most,w,x,dx,vm,rfl,T,hx,nA,rm,hw,q⟩:=h;obtain⟨c,hc,hw⟩:=ae.mp hw;obtain⟨a,ha,hw⟩:=ae.mp hw;cases a<;>first|(cases hw;done)|skip
 rename_i Sb;obtain⟨s,hs,hw⟩:=ae.mp hw;obtain⟨e,he,hw⟩:=ae.mp hw;obtain⟨r0,hr0,hw⟩:=ae.mp hw;obtain⟨k,hk,hw⟩:=ae.mp hw;cases hw;unfold tWk;dsimp only[bO,dB,bu,uI];refine⟨_,rfl,A,[p],c,.cons rm .nil,hc,λvc H1 s1 rc=>?_⟩;have rc:Rep C (λa=>(A a\/H a=none)/\∃o,H1 a=some o) H1 vc c:=Rep.ex (bB λa o e q=>⟨q,o,e⟩) rc;generalize hA1:(λa=>(A a\/H a=none)/\∃o,H1 a=some o)=U at rc;have nA1:¬ U x:=by rw[←hA1];rintro⟨z|z,_⟩;exact nA z;rw[hx]at z;cases z
 have Z5:=s1 _ _ hx;refine⟨_,rfl,U,[c],.dT Sb,.cons rc .nil,ha,?_⟩;rintro _ H2 s2 ⟨j,rfl,hah,kv,hkv,rkv⟩;have OW:=s2 _ _ Z5;refine⟨_,rfl,x,_,dx,_,rfl,OW,T.cl,T.YV,by decide,?_⟩;have hx3:upd H2 x (.ins (C.cl cn) dx (cR "ahead" (.ref j) [])) x=some (.ins (C.cl cn) dx [("ahead",.ref j)]):=aB;have UD:∀a o,a≠x->H2 a=some o->upd H2 x (.ins (C.cl cn) dx (cR "ahead" (.ref j) [])) a=some o:=λa o n e=>by rw[aG n];exact e
 generalize upd H2 x (.ins (C.cl cn) dx (cR "ahead" (.ref j) []))=H3 at hx3 UD ⊢;refine⟨_,rfl,_,rfl,x,_,dx,_,rfl,hx3,T.cl,T.n_most,by show(1:Nat)<1000;decide,?_⟩;have hx4:upd H3 x (.ins (C.cl cn) dx (cR "most" (.int most) [("ahead",.ref j)])) x=some (.ins (C.cl cn) dx [("ahead",.ref j),("most",.int most)]):=aB;have UE:∀a o,a≠x->H3 a=some o->upd H3 x (.ins (C.cl cn) dx (cR "most" (.int most) [("ahead",.ref j)])) a=some o:=λa o n e=>by rw[aG n];exact e
 generalize upd H3 x (.ins (C.cl cn) dx (cR "most" (.int most) [("ahead",.ref j)]))=H4 at hx4 UE ⊢;have off14:∀a o,a≠x->H1 a=some o->H4 a=some o:=λa o n e=>UE a o n (UD a o n (s2 a o e));have rc4:Rep C U H4 vc c:=rc.ex (yu Z5 nA1 off14 λa o _ z=>z);refine⟨_,rfl,_,rfl,U,[c],s,.cons rc4 .nil,hs,λv5 H5 s5 r5=>?_⟩;have r5:Rep C (λa=>U a\/H4 a=none) H5 v5 s:=r5;refine⟨λa=>U a\/H4 a=none,[c,s],e,.cons (rc4.ex ((Ex.of_same s5).trans (bB λa o _ z=>.inl z))) (.cons r5 .nil),he,λY H6 s6 r6=>?_⟩;have r6:Rep C (λa=>(U a\/H4 a=none)\/H5 a=none) H6 Y e:=r6;have hx6:=s6 _ _ (s5 _ _ hx4);refine⟨_,rfl,x,_,dx,_,rfl,hx6,T.cl,T.n_end,by show(2:Nat)<1000;decide,?_⟩;have hx7:upd H6 x (.ins (C.cl cn) dx (cR "end" Y [("ahead",.ref j),("most",.int most)])) x=some (.ins (C.cl cn) dx [("ahead",.ref j),("most",.int most),("end",Y)]):=aB;have Y5:∀a o,a≠x->H6 a=some o->upd H6 x (.ins (C.cl cn) dx (cR "end" Y [("ahead",.ref j),("most",.int most)])) a=some o:=λa o n e=>by rw[aG n];exact e
 generalize upd H6 x (.ins (C.cl cn) dx (cR "end" Y [("ahead",.ref j),("most",.int most)]))=H7 at hx7 Y5 ⊢;have PZ:∀a o,a≠x->H4 a=some o->H7 a=some o:=λa o n e=>Y5 a o n (s6 a o (s5 a o e));have rc7:Rep C U H7 vc c:=rc4.ex (yu hx4 nA1 PZ λa o _ z=>z);refine⟨_,rfl,U,[c,st],r0,.cons rc7 (.cons (hT _ _) .nil),hr0,λv0 Z s8 r8=>?_⟩;have r8:Rep C (λa=>U a\/H7 a=none) Z v0 r0:=r8;refine⟨by show(2:Nat)<=sizeLine;decide,λt1 ht1=>⟨by show(1:Nat)<=sizeLine;decide,λJ So=>⟨by show(1:Nat)<=sizeLine;decide,λI UC=>?_⟩⟩⟩;have s9:=aM ht1 (.tup [v0,.int 1]);have s10:=aM So (.tup [.ref t1]);have s11:=aM UC (.lst [.ref J]);have N4:=s11 _ _ (s10 _ _ (s9 _ _ (s8 _ _ hx7)));refine⟨_,rfl,x,_,dx,_,rfl,N4,T.cl,T.Ki,by show(3:Nat)<1000;decide,?_⟩;have n12:t1≠J:=aF aB So;have UH:upd (upd (upd Z t1 (.tup [v0,.int 1])) J (.tup [.ref t1])) I (.lst [.ref J]) I=some (.lst [.ref J]):=aB;have N9:upd (upd (upd Z t1 (.tup [v0,.int 1])) J (.tup [.ref t1])) I (.lst [.ref J]) J=some (.tup [.ref t1]):=s11 _ _ aB;have Of:upd (upd (upd Z t1 (.tup [v0,.int 1])) J (.tup [.ref t1])) I (.lst [.ref J]) t1=some (.tup [v0,.int 1]):=s11 _ _ (s10 _ _ aB);have s811:D8 Z (upd (upd (upd Z t1 (.tup [v0,.int 1])) J (.tup [.ref t1])) I (.lst [.ref J])):=(s9.trans s10).trans s11;have hlp8:Z I=none:=(s9.trans s10).free UC;have ht18:=ht1;have ht28:Z J=none:=s9.free So;generalize upd (upd (upd Z t1 (.tup [v0,.int 1])) J (.tup [.ref t1])) I (.lst [.ref J])=H11 at UH N9 Of s811 N4 ⊢;have hx12:upd H11 x (.ins (C.cl cn) dx (cR "places" (.ref I) [("ahead",.ref j),("most",.int most),("end",Y)])) x=some (.ins (C.cl cn) dx [("ahead",.ref j),("most",.int most),("end",Y),("places",.ref I)]):=aB;have LB:∀a o,a≠x->H11 a=some o->upd H11 x (.ins (C.cl cn) dx (cR "places" (.ref I) [("ahead",.ref j),("most",.int most),("end",Y)])) a=some o:=λa o n e=>by rw[aG n];exact e
 generalize upd H11 x (.ins (C.cl cn) dx (cR "places" (.ref I) [("ahead",.ref j),("most",.int most),("end",Y)]))=ZG at hx12 LB ⊢;have ZH:I≠x:=λz=>by rw[z]at UH;rw[UH]at N4;cases N4
 have n1x:t1≠x:=λz=>by rw[z]at Of;rw[Of]at N4;cases N4
 have n2x:J≠x:=λz=>by rw[z]at N9;rw[N9]at N4;cases N4
 have LX:∀a o,a≠x->Z a=some o->ZG a=some o:=λa o n e=>LB a o n (s811 a o e);have hx8:=s8 _ _ hx7;have nB8:¬ (U x\/H7 x=none):=λz=>z.elim nA1 λz=>by rw[hx7]at z;cases z
 have r12:Rep C (λa=>U a\/H7 a=none) ZG v0 r0:=r8.ex (yu hx8 nB8 LX λa o _ z=>z);have rp12:Rep C (λa=>U a\/H7 a=none) ZG (.ref J) (.tup [.tup [r0,.int 1]]):=.tup (LB _ _ n2x N9) (.cons (.tup (LB _ _ n1x Of) (.cons r12 (.cons (.int 1) .nil))) .nil);intro M Pc;have sn:=aM Pc (.dT []);refine⟨_,rfl,x,_,dx,_,.ref I,rfl,sn _ _ hx12,T.cl,T.Ki,rfl,I,[.ref J],0,.ref J,rfl,rfl,Fc.of (sn _ _ (LB _ _ ZH UH)),rfl,?_⟩;obtain⟨b,us,eb,hb,rb⟩:=EB.tup (.inl (rp12.ex (.of_same sn)));cases eb;refine⟨aB,J,k,rfl,hb.key (rb.EI hk),?_⟩;have s13:D8 ZG (upd (upd ZG M (.dT [])) M (.dT [(k,.int 0)])):=sn.over Pc _;have Y6:upd (upd ZG M (.dT [])) M (.dT [(k,.int 0)]) M=some (.dT [(k,.int 0)]):=aB;generalize upd (upd ZG M (.dT [])) M (.dT [(k,.int 0)])=H13 at s13 Y6 ⊢;have hx13:=s13 _ _ hx12;refine⟨_,rfl,x,_,dx,_,rfl,hx13,T.cl,T.HE,by show(4:Nat)<1000;decide,?_⟩;have hx14:upd H13 x (.ins (C.cl cn) dx (cR "numbers" (.ref M) [("ahead",.ref j),("most",.int most),("end",Y),("places",.ref I)])) x=some (.ins (C.cl cn) dx [("ahead",.ref j),("most",.int most),("end",Y),("places",.ref I),("numbers",.ref M)]):=aB;have Na:∀a o,a≠x->H13 a=some o->upd H13 x (.ins (C.cl cn) dx (cR "numbers" (.ref M) [("ahead",.ref j),("most",.int most),("end",Y),("places",.ref I)])) a=some o:=λa o n e=>by rw[aG n];exact e
 generalize upd H13 x (.ins (C.cl cn) dx (cR "numbers" (.ref M) [("ahead",.ref j),("most",.int most),("end",Y),("places",.ref I)]))=H14 at hx14 Na ⊢;intro lo Zl;have s15:=aM Zl (.dK []);have Y7:upd H14 lo (.dK []) lo=some (.dK []):=aB;generalize upd H14 lo (.dK [])=H15 at s15 Y7 ⊢;have hx15:=s15 _ _ hx14;refine⟨_,rfl,x,_,dx,_,rfl,hx15,T.cl,T.N0,by show(5:Nat)<1000;decide,?_⟩;have hx16:upd H15 x (.ins (C.cl cn) dx (cR "onward" (.ref lo) [("ahead",.ref j),("most",.int most),("end",Y),("places",.ref I),("numbers",.ref M)])) x=some (.ins (C.cl cn) dx [("ahead",.ref j),("most",.int most),("end",Y),("places",.ref I),("numbers",.ref M),("onward",.ref lo)]):=aB;have UI:∀a o,a≠x->H15 a=some o->upd H15 x (.ins (C.cl cn) dx (cR "onward" (.ref lo) [("ahead",.ref j),("most",.int most),("end",Y),("places",.ref I),("numbers",.ref M)])) a=some o:=λa o n e=>by rw[aG n];exact e
 generalize upd H15 x (.ins (C.cl cn) dx (cR "onward" (.ref lo) [("ahead",.ref j),("most",.int most),("end",Y),("places",.ref I),("numbers",.ref M)]))=P4 at hx16 UI ⊢;have ZI:M≠x:=λz=>by rw[z]at Y6;rw[Y6]at hx13;cases hx13
 have Qr:lo≠x:=λz=>by rw[z]at Y7;rw[Y7]at hx15;cases hx15
 have nax:j≠x:=λz=>by rw[z]at hkv;rw[hkv]at OW;cases OW
 have u14:∀a o,a≠x->H14 a=some o->P4 a=some o:=λa o n e=>UI a o n (s15 a o e);have u12:∀a o,a≠x->ZG a=some o->P4 a=some o:=λa o n e=>u14 a o n (Na a o n (s13 a o e));have u8:∀a o,a≠x->Z a=some o->P4 a=some o:=λa o n e=>u12 a o n (LX a o n e);have u7:∀a o,a≠x->H7 a=some o->P4 a=some o:=λa o n e=>u8 a o n (s8 a o e);have u6:∀a o,a≠x->H6 a=some o->P4 a=some o:=λa o n e=>u7 a o n (Y5 a o n e);have u4:∀a o,a≠x->H4 a=some o->P4 a=some o:=λa o n e=>u7 a o n (PZ a o n e);have u2:∀a o,a≠x->H2 a=some o->P4 a=some o:=λa o n e=>u4 a o n (UE a o n (UD a o n e));have u1:∀a o,a≠x->H1 a=some o->P4 a=some o:=λa o n e=>u2 a o n (s2 a o e);have u0:∀a o,a≠x->H a=some o->P4 a=some o:=λa o n e=>u1 a o n (s1 a o e);have O:∀{G G':Hp}{l:Addr},l≠x->(∀a o,a≠x->G a=some o->G' a=some o)->G' l=none->G l=none:=λ{G G' l} n u e=>by
  cases z:G l with
  |none=>rfl
  |some o=>rw[u l o n z]at e;cases e
 have p8:Z I=none:=hlp8;have n8:Z M=none:=O ZI LX Pc;have o14:H14 lo=none:=Zl;have o8:Z lo=none:=O Qr (λa o n e=>Na a o n (s13 a o (LX a o n e))) o14;have b8:∀{l:Addr},l≠x->Z l=none->H7 l=none:=λn e=>O n (λa o _ e=>s8 a o e) e;have b7:∀{l:Addr},l≠x->H7 l=none->H6 l=none/\H4 l=none:=λn e=>⟨O n Y5 e,O n PZ e⟩;have b4:∀{l:Addr},l≠x->H4 l=none->H2 l=none:=λn e=>O n (λa o n e=>UE a o n (UD a o n e)) e;have b1:∀{l:Addr},H1 l=none->H l=none:=λe=>s1.free e;have a1:∀{l:Addr},U l->(A l\/H l=none)/\∃o,H1 l=some o:=λz=>by rw[←hA1]at z;exact z
 have nah:∀{l:Addr},U l->l≠j:=λz e=>by obtain⟨_,o,q⟩:=a1 z;rw[e,hah]at q;cases q
 have h4ah:H4 j=some (.dT kv):=UE _ _ nax (UD _ _ nax hkv);have h7ah:H7 j=some (.dT kv):=PZ _ _ nax h4ah;have UK:∀{l:Addr},H4 l=none->(A l\/H l=none)/\l≠j:=λ{l} z=>by
  have n:l≠x:=λe=>by rw[e,hx4]at z;cases z
  exact⟨.inr (b1 (s2.free (b4 n z))),λe=>by rw[e,h4ah]at z;cases z⟩
 have none7:∀{l:Addr},H7 l=none->(A l\/H l=none)/\l≠j:=λ{l} z=>by
  have n:l≠x:=λe=>by rw[e,hx7]at z;cases z
  exact UK (b7 n z).2
 obtain⟨F,hF⟩:∃F:Addr->Prop,F=λb=>(A b\/H b=none)/\b≠x/\b≠j/\b≠I/\b≠M/\b≠lo/\∃o,P4 b=some o:=⟨_,rfl⟩;have exF:∀{B:se}{G:Hp}{fs:List (Str×V)},G x=some (.ins (C.cl cn) dx fs)->¬ B x->(∀a o,a≠x->G a=some o->P4 a=some o)->G I=none->G M=none->G lo=none->(∀a,B a->(A a\/H a=none)/\a≠j)->Ex B G F P4:=λ{B G fs} hg nB u g1 g2 g3 cond=>yu hg nB u λa o e z=>by
  rw[hF];have n:a≠x:=λq=>nB (q▸z);exact⟨(cond a z).1,n,(cond a z).2,(λq=>by rw[q,g1]at e;cases e),(λq=>by rw[q,g2]at e;cases e),(λq=>by rw[q,g3]at e;cases e),o,u a o n e⟩
 have p7:=b8 ZH p8;have n7:=b8 ZI n8;have o7:=b8 Qr o8;have x2:=exF (B:=λc=>(U c\/H1 c=none)/\c≠j) OW (λz=>z.1.elim nA1 λq=>by rw[Z5]at q;cases q) u2 (b4 ZH (b7 ZH p7).2) (b4 ZI (b7 ZI n7).2) (b4 Qr (b7 Qr o7).2) λa z=>⟨z.1.elim (λq=>(a1 q).1) λq=>.inr (b1 q),z.2⟩;have x6:=exF (B:=λa=>(U a\/H4 a=none)\/H5 a=none) hx6 (λz=>z.elim (λz=>z.elim nA1 λq=>by rw[hx4]at q;cases q) λq=>by rw[s5 _ _ hx4]at q;cases q) u6 (b7 ZH p7).1 (b7 ZI n7).1 (b7 Qr o7).1 λa z=>z.elim (λz=>z.elim (λq=>⟨(a1 q).1,nah q⟩) UK) λq=>UK (s5.free q);have x8:=exF (B:=λa=>U a\/H7 a=none) hx8 nB8 u8 p8 n8 o8 λa z=>z.elim (λq=>⟨(a1 q).1,nah q⟩) none7;have r16:Rep C F P4 v0 r0:=r8.ex x8;have z0:∀{l:Addr},l≠x->H7 l=none->H l=none:=λn z=>b1 (s2.free (b4 n (b7 n z).2));refine q P4 F ⟨cn,x,dx,j,I,M,lo,Y⟩ u0 rfl rfl ⟨b1 hah,z0 ZH p7,z0 ZI n7,z0 Qr o7⟩ (λb f=>by rw[hF]at f;exact⟨f.1,f.2.1⟩) ⟨hx16,⟨kv,u2 _ _ nax hkv,rkv.ex x2⟩,r6.ex x6,⟨_,u12 _ _ ZH (LB _ _ ZH UH),.cons (.tup (u12 _ _ n2x (LB _ _ n2x N9)) (.cons (.tup (u12 _ _ n1x (LB _ _ n1x Of)) (.cons r16 (.cons (.int 1) .nil))) .nil)) .nil⟩,⟨_,u14 _ _ ZI (Na _ _ ZI Y6),.cons (.int 0) .nil⟩,⟨_,UI _ _ Qr Y7,.nil⟩,?_,λb f=>by rw[hF]at f;exact f.2.2.2.2.2.2,?_⟩
 ·exact aF (LX _ _ nax (s8 _ _ h7ah)) Pc
 ·rw[hF]
  exact⟨λf=>f.2.1 rfl,λf=>f.2.2.1 rfl,λf=>f.2.2.2.1 rfl,λf=>f.2.2.2.2.1 rfl,λf=>f.2.2.2.2.2.1 rfl⟩
def G9{X:Cx}{I:Addr}{k j:Nat}{x:Str}{ps:rj}{sp:Sp}{p pos:Pos}{e:Expr}{es:rh}{t:TA}(c:CalI X.prog X.w X.K X.mg X.base I k x ps sp)(hr:EU j X.A)(Y:PA X (e::es) t)(B:autoParam (k+1<=j) r1_)(Z:autoParam (Gl X x) r0_)
  (J:autoParam (Kt x) r1_) (U:autoParam (HK X e es) r0_) (FO:autoParam (Lo X pos es) r0_):
  PE X (.Call (.Name x p) (e::es) [] pos) (xO I sp [] E0 t):=by
 obtain⟨f,fd,F,O,M,hm⟩:=c.ex;exact QL M F (hr.mono B) Z hm O .nil xU Y J U FO
def Lj{wl O ro es:sj}{st p:PV}{most:Int}{w:WS}{A:se}{v:V}{R:Addr->Hp->Prop}{E:XK}(T:WT C.K (C.cl cn))(Z:∀a,A a->∃o,H a=some o)(r:Rep C A H v p)(Y:wkW wl O ro es st p most=some w)
  (q:∀H' F c,D8 H H'->c.n=cn->(H c.a=none/\H c.ah=none/\H c.lp=none/\H c.ln=none/\H c.lo=none)->(∀b,F b->A b\/H b=none)->WR C F H' c w->R c.a H'):
  ∀x dx,H x=none->H dx=none->dx≠x->zK C cn wl O ro es st (.ref x::([v,.int most]++[])) (upd (upd H dx (.own x)) x (.ins (C.cl cn) dx [])) (λu H2=>u=.Ee/\R x H2) E:=by
 intro x dx B I ne;have s:D8 H (upd (upd H dx (.own x)) x (.ins (C.cl cn) dx [])):=λa o h=>by rw[aG (aF h B),aG (aF h I)];exact h
 refine⟨A,p,most,w,x,dx,v,rfl,T,aB,(λz=>by obtain⟨o,e⟩:=Z x z;rw[B]at e;cases e),r.ex (.of_same s),Y,λH' F c J en M j U W=>⟨rfl,?_⟩⟩;rw[←M];refine q H' F c (λa o e=>J a o (aF e B) (s a o e)) en ⟨by rw[M];exact B,s.free j.1,s.free j.2.1,s.free j.2.2.1,s.free j.2.2.2⟩ (λb f=>(U b f).1.imp id λz=>s.free z) W
def New(H:Hp)(c:WC):Prop:=H c.a=none/\H c.ah=none/\H c.lp=none/\H c.ln=none/\H c.lo=none
def WM(H:Hp)(c:WC):Prop:=(∃o,H c.a=some o)/\(∃o,H c.ah=some o)/\(∃o,H c.lp=some o)/\(∃o,H c.ln=some o)/\∃o,H c.lo=some o
def WR.there{c:WC}{w:WS}(W:WR C F H c w):WM H c:=⟨⟨_,W.ob⟩,(let ⟨_,h,_⟩:=W.ah;⟨_,h⟩),(let ⟨_,h,_⟩:=W.lp;⟨_,h⟩),(let ⟨_,h,_⟩:=W.ln;⟨_,h⟩),(let ⟨_,h,_⟩:=W.lo;⟨_,h⟩)⟩
def nP{a b:Addr}(h1:H a=none)(h2:∃o,H b=some o):a≠b:=λz=>by obtain⟨o,e⟩:=h2;rw[←z,h1]at e;cases e
def Xr{A F1 O:se}{H0 H2 Y:Hp}{Z c2:WC}{w1 w2:WS}(dA:∀a,A a->∃o,H0 a=some o)(W1:WR C F1 H2 Z w1)(U:WR C O Y c2 w2)(s02:D8 H0 H2)(s23:D8 H2 Y)(e1:Z.n=cn)(e2:c2.n=cn)(n1:New H0 Z)(n2:New H2 c2)(f2:∀b,O b->A b\/H2 b=none):
  LA C cn (λb=>F1 b\/O b) Y [Z,c2] [w1,w2]:=by
 have I:=W1.there;have B:=W1.same s23;have M:∀{l:Addr},H0 l=none->(∃o,H2 l=some o)->¬ O l:=λ{l} h0 h2 f=>(f2 l f).elim (λz=>by obtain⟨o,e⟩:=dA l z;rw[h0]at e;cases e) λz=>by obtain⟨o,e⟩:=h2;rw[z]at e;cases e
 have J:∀{l:Addr},H2 l=none->¬ F1 l:=λ{l} h f=>by obtain⟨o,e⟩:=W1.dm l f;rw[h]at e;cases e
 have dm:∀b,(F1 b\/O b)->∃o,Y b=some o:=λb f=>f.elim (λz=>B.dm b z) λz=>U.dm b z;have V1:WR C (λb=>F1 b\/O b) Y Z w1:=B.ex (bB λ_ _ _ z=>.inl z) (λ_ _ _ e=>e) dm ⟨λf=>f.elim B.nF.1 (M n1.1 I.1),λf=>f.elim B.nF.2.1 (M n1.2.1 I.2.1),λf=>f.elim B.nF.2.2.1 (M n1.2.2.1 I.2.2.1),λf=>f.elim B.nF.2.2.2.1 (M n1.2.2.2.1 I.2.2.2.1),λf=>f.elim B.nF.2.2.2.2 (M n1.2.2.2.2 I.2.2.2.2)⟩;have V2:WR C (λb=>F1 b\/O b) Y c2 w2:=U.ex (bB λ_ _ _ z=>.inr z) (λ_ _ _ e=>e) dm ⟨λf=>f.elim (J n2.1) U.nF.1,λf=>f.elim (J n2.2.1) U.nF.2.1,λf=>f.elim (J n2.2.2.1) U.nF.2.2.1,λf=>f.elim (J n2.2.2.2.1) U.nF.2.2.2.1,λf=>f.elim (J n2.2.2.2.2) U.nF.2.2.2.2⟩;refine⟨rfl,λi c w h1 h2=>?_,λi j c d h1 h2 ne=>?_⟩
 ·match i,h1,h2 with
  |0,h1,h2=>cases h1;cases h2;exact⟨e1,V1⟩
  |1,h1,h2=>cases h1;cases h2;exact⟨e2,V2⟩
  |i+2,h1,_=>simp at h1
 ·match i,j,h1,h2,ne with
  |0,0,_,_,ne=>exact absurd rfl ne
  |1,1,_,_,ne=>exact absurd rfl ne
  |0,1,h1,h2,_=>cases h1;cases h2;exact⟨nP n2.2.2.1 I.2.2.1,nP n2.2.2.2.1 I.2.2.2.1,nP n2.2.2.2.2 I.2.2.2.2,nP n2.2.1 I.2.2.2.1⟩
  |1,0,h1,h2,_=>cases h1;cases h2;exact⟨(nP n2.2.2.1 I.2.2.1).symm,(nP n2.2.2.2.1 I.2.2.2.1).symm,(nP n2.2.2.2.2 I.2.2.2.2).symm,(nP n2.2.2.2.1 I.2.1).symm⟩
  |i+2,_,h1,_,_=>simp at h1
  |0,j+2,_,h2,_=>simp at h2
  |1,j+2,_,h2,_=>simp at h2
noncomputable def Ot(cn:Nat)(wl ra rf es pb io so ro:sj)(S:sA)(st:PV):List PV->Option PV
 |[p,q]=>(wkW wl ra rf es st p 1).bind λw1=>(wkW wl ra rf es st q 1).bind λw2=>frW pb cn S io so ro [w1,w2]
 |_=>none
def tMw(mg:rX)(x:Str)(C:MC)(cn:Nat)(wl ra rf es pb io so ro:sj)(S:sA)(st:PV)(fS:Addr):TS:=
 fQ (gB (Oq mg x C cn pb S io so ro) [] E0 (aU (pY (aU (xO (C.cl cn) (zK C cn wl ra rf es st) [] E0 (aU (EC 0) (aU (tC (.int 1)) bF))) (aU (xO (C.cl cn) (zK C cn wl ra rf es st) [] E0 (aU (EC 1) (aU (tC (.int 1)) bF))) bF))) (aU (tC (.ref fS)) bF)))
def Vc{mg:rX}{x:Str}{wl Y rf es pb io so ro:sj}{S:sA}{st:PV}{Z:Addr}{vs:sC}{Q:VK}{E:XK}(T:WT C.K (C.cl cn))(hfS:mg x=some (.ref Z))(h:IL C (Ot cn wl Y rf es pb io so ro S st) false vs H Q E):
  tMw mg x C cn wl Y rf es pb io so ro S st Z {nx:=λ_ H'=>Q .Ee H',rt:=Q} (L2.start ["one","other"] vs) H:=by
 obtain⟨A,ps,out,r,B,q⟩:=h;cases r with
 |nil=>cases B
 |@cons v1 p ps _ r1 r=>cases r with
  |nil=>cases B
  |@cons v2 q2 ps _ r2 r=>cases r with
   |cons _ _=>cases B
   |nil=>
    obtain⟨w1,h1,B⟩:=ae.mp (show((wkW wl Y rf es st p 1).bind _)=_ from B);obtain⟨w2,h2,B⟩:=ae.mp B;have dA:∀a,(A a/\∃o,H a=some o)->∃o,H a=some o:=λa z=>z.2;have x1:Rep C (λa=>A a/\∃o,H a=some o) H v1 p:=r1.ex (bB λa o e z=>⟨z,o,e⟩);have x2:Rep C (λa=>A a/\∃o,H a=some o) H v2 q2:=r2.ex (bB λa o e z=>⟨z,o,e⟩);unfold tMw;dsimp only[fQ,gB,aU,bF,pY,xO,EC,tC];refine⟨_,rfl,Lj T dA x1 h1 λH2 F1 c1 I e1 n1 f1 W1=>?_⟩;refine⟨_,rfl,Lj T (λa z=>(let ⟨o,e⟩:=z.2;⟨o,I a o e⟩)) (x2.ex (.of_same I)) h2 λH3 F2 c2 O e2 n2 f2 W2=>?_⟩;refine⟨by show(2:Nat)<=sizeLine;decide,λwa j=>?_⟩;have s3:=aM j (.lst [.ref c1.a,.ref c2.a]);have U:=(Xr dA W1 W2 I O e1 e2 n1 n2 f2);have t1:=(W1.same O).there;have t2:=W2.there;refine⟨Z,hfS,λb=>F1 b\/F2 b,[c1,c2],[w1,w2],out,wa,rfl,.inr rfl,T,U.same s3,aB,λf=>?_,λc J=>?_,B,λH5 v kp rv=>?_⟩
    ·obtain⟨o,e⟩:=f.elim (λz=>(W1.same O).dm wa z) λz=>W2.dm wa z
     rw[j]at e;cases e
    ·simp only[bi,bt,eI]at J
     rcases J with rfl|rfl
     ·exact nP j t1.2.2.1
     ·exact nP j t2.2.2.1
    ·have M:=(I.trans O).trans s3
     refine q v H5 (λa o e=>kp a o (M a o e) λc J=>?_) (Rep.ex (bB λa o _ z=>.inr (M.free z)) rv);simp only[bi,bt,eI]at J;rcases J with rfl|rfl
     ·exact⟨(aF e n1.2.2.1),(aF e n1.2.2.2.1),(aF e n1.2.2.2.2)⟩
     ·exact⟨(aF e (I.free n2.2.2.1)),(aF e (I.free n2.2.2.2.1)),(aF e (I.free n2.2.2.2.2))⟩
end Lake.MR
namespace Lake.L2
open PySem PySem.Spec PyProof.Rows
section
open HT
variable {prog:Program}{w:World}{A:Around}{E:oT}{s:Shared}
def uA{t sl:Addr}{items:rV}{O U:Value}{lo hi:Option Int}{Q:oT}(j:IsTup s.heap t items)(Y:s.heap.IsSliceOf sl O U .none)(pl:IsPart O lo)(Z:IsPart U hi)
  (M:ES items.size 0 lo=0) (B:ES items.size items.size hi=items.size) (h:Q (.ref t) s):wpAny (model prog w) A (getItem (.ref t) (.ref sl)) Q E s:=by
 obtain⟨os,ZY,I,hds⟩:=id Y;have J:s.TypeIs (.ref sl) "slice" := ⟨os,ZY,I⟩;unfold getItem
 try with_reducible refine eg ?_
 first|refine ab (ai ?_)|skip
 refine ab (nr j.typeIs (by decide) ?_);refine ab (c9 (name:=Str.ofString "__getitem__") j.typeIs eD
  (dy eD j.typeIs entry_tuple_getitem ?_ (args_tuple_getitem _ _)))
 show wpAny _ _ (Builtin.Tuple.tupleItemsOf (.ref t) >>= _) _ _ s;refine ab (tupleItemsOf_ j ?_);refine ab (jI J ?_);rw[bS (by decide)];refine ab (pZ Y pl Z ?_);have hy:(((ES items.size 0 lo:Nat):Int) == 0&&(1:Int) == 1&&(ES items.size items.size hi - ES items.size 0 lo) == items.size)=true:=by rw[M,B];simp
 show wpAny _ _ (if(((ES items.size 0 lo:Nat):Int) == 0&&(1:Int) == 1&&(ES items.size items.size hi - ES items.size 0 lo) == items.size)=true then _ else _) _ _ s;rw[bS hy];refine ab ?_;unfold Builtin.Tuple.tupleIsExact;refine ab (jI j.typeIs (ai ?_));rw[bS (by decide)];refine ab (iO ?_);exact ai ⟨_,rfl,ai h⟩
end
variable {X:Cx}
def Vd(K:W.Frag):V->Option Int->Option Int->Hp->VK->Prop:=λx lo hi H Q=>∃a xs,x=.ref a/\GN K H a xs/\HT.ES xs.length 0 lo=0/\HT.ES xs.length xs.length hi=xs.length/\Q x H
def Ry:TB X (Vd X.K):=by
 intro D3 s FV H x v vl vu lo hi sl Q I U Z pl O h;obtain⟨a,xs,rfl,Y,J,B,q⟩:=h;cases U;obtain⟨EA,r,M,hz⟩:=I.tuple Y;have j:EA.toArray.size=xs.length:=by rw[bb];exact r.length.symm
 refine⟨"tuple",_,eD.lookup,M.typeIs,?_⟩;exact uA M Z pl O (by rw[j];exact J) (by rw[j];exact B) ⟨.ref a,H,I,rfl,q⟩
end Lake.L2
namespace Lake.MR
open PySem PySem.Spec PyProof.Rows L2
noncomputable def DY(x:PV)(l h:Option Int):Option PV:=match x with
 |.tup xs=>some (.tup (je xs l h))
 |_=>none
@[simp] def Xu(xs:sA)(l h:Option Int):DY (.tup xs) l h=some (.tup (je xs l h)):=id rfl
noncomputable def yw(f:si)(lo hi:Env->Option (Option Int))(env:Env):Option PV:=(f env).bind λx=>(lo env).bind λl=>(hi env).bind λh=>DY x l h
@[simp] def Xv(f:si)(lo hi:Env->Option (Option Int))(env:Env):yw f lo hi env=((f env).bind λx=>(lo env).bind λl=>(hi env).bind λh=>DY x l h):=id rfl
section
variable {X:Cx}{b:BX}{G:qV}{m:Md}{e:Expr}{f:si}{pos:Pos}
set_option tactic.hygienic true in def G_{lo hi:Option Expr}{p2:Pos}{fl J:Env->Option (Option Int)}(h1:SE X b G m e f)(hl:SO X b G lo fl)(Z:SO X b G hi J)(hK:autoParam (X.K=b.C.K) r0_):SE X b G .val (.Subscript e (.Slice lo hi none p2) pos) (yw f fl J):=by
 refine PE.imp (CN (r:=λx lo hi H Q=>Tj b.C.K x lo hi H Q\/Vd b.C.K x lo hi H Q) (by rw[←hK];exact TB.or Tn Ry) h1.bor hl Z) fun FV H Q ⟨Ow,env,p,E,hf,k⟩=>?_
 unfold yw at hf;cases q1:f env with
 |none=>rw[q1]at hf;cases hf
 |some p1=>
  rw[q1]at hf;cases q2:fl env with
  |none=>rw[q2]at hf;cases hf
  |some l=>
   rw[q2]at hf;cases q3:J env with
   |none=>rw[q3]at hf;cases hf
   |some h=>
    rw[q3]at hf;refine⟨Ow,env,p1,E,q1,λv H1 j r1=>⟨Ow,env,l,E.up j,q2,λH2 B=>⟨Ow,env,h,E.up (j.trans B),q3,λH3 I=>?_⟩⟩⟩;have MI:EB b.C (Bs b Ow) H3 v p1:=Res.up (m:=.bor) r1 (B.trans I);simp only[ba]at hf;unfold DY at hf;split at hf
    ·rename_i xs
     cases hf;obtain⟨a,vs,rfl,M,O⟩:=MI.tup;have U:=O.length;by_cases hw:HT.ES vs.length 0 l=0/\HT.ES vs.length vs.length h=vs.length
     ·refine .inr ⟨a,vs,rfl,M.sq,hw.1,hw.2,?_⟩
      have e:je xs l h=xs:=by
       unfold je;rw[←U,hw.1,hw.2,List.drop_zero,Nat.sub_zero,U,oy]
      rw[e]at k;exact k _ _ (j.trans (B.trans I)) (Res.down (j.trans (B.trans I)) (M.rep O))
     ·exact .inl ⟨a,vs,rfl,M.sq,hw,λq Y=>k _ _ (j.trans (B.trans (I.trans (aM Y _)))) (Res.down (j.trans (B.trans I)) (rW Y (O.cut l h)))⟩
    ·cases hf
end
end Lake.MR
namespace Lake.My
open PySem L2 MR
section
variable {F3:Type}(a b c d e f g h:F3)(l:List F3)
@[simp] theorem at0:Fn (a::l) 0=some a:=fK (k:=0) rfl
@[simp] theorem at1:Fn (a::b::l) 1=some b:=fK (k:=1) rfl
@[simp] theorem at2:Fn (a::b::c::l) 2=some c:=fK (k:=2) rfl
@[simp] theorem at3:Fn (a::b::c::d::l) 3=some d:=fK (k:=3) rfl
end
@[simp] noncomputable def nxt(ds:qV):Option Out->Option MR.Env
 |some (.nx e)=>some (Lv ds e)
 |some (.ct e)=>some (Lv ds e)
 |_=>none
noncomputable def turn(g:PV->MR.Env->Option MR.Env)(ds:qV)(body:MR.Env->Option Out)(x:PV)(env:MR.Env):Option MR.Env:=(g x env).bind λe=>nxt ds (body e)
def bA(g:PV->MR.Env->Option MR.Env)(ds:qV)(body:MR.Env->Option Out)(x:PV)(env:MR.Env):turn g ds body x env=(g x env).bind λe=>nxt ds (body e):=id rfl
set_option tactic.hygienic true in def dw{g:PV->MR.Env->Option MR.Env}{ds:qV}{body:MR.Env->Option Out}{x:PV}{xs:sA}{env env':MR.Env}(h:turn g ds body x env=some env'):cP g ds body (x::xs) env=cP g ds body xs env':=by
 unfold turn at h;obtain⟨e,h1,h2⟩:=aJ h;unfold nxt at h2;split at h2
 ·rename_i q;cases h2;simp[cP,h1,q]
 ·rename_i q;cases h2;simp[cP,h1,q]
 ·cases h2
theorem uW{F3 S:Type}{g:PV->MR.Env->Option MR.Env}{ds:qV}{body:MR.Env->Option Out}(c:F3->PV)(E:S->MR.Env)(step:S->F3->S)(I:List F3->S->Prop):∀(ys:List F3) (s:S),I ys s->
  (∀y ys s,I (y::ys) s->I ys (step s y)/\turn g ds body (c y) (E s)=some (E (step s y)))->
  cP g ds body (ys.map c) (E s)=some (.nx (E (ys.foldl step s)))
 |[],s,_,_=>rfl
 |y::ys,s,i,hh=>by
  obtain⟨j,h1⟩:=hh y ys s i;have B:=uW c E step I ys (step s y) j hh;rw[be,dw h1,B,List.foldl_cons]
theorem v8{F3:Type}{g:PV->MR.Env->Option MR.Env}{ds:qV}{body:MR.Env->Option Out}{env:MR.Env}(c:F3->PV):∀(ys:List F3),(∀y∈ys,turn g ds body (c y) env=some env)->cP g ds body (ys.map c) env=some (.nx env)
 |[],_=>rfl
 |y::ys,h=>by
  rw[be,dw (h y av)];exact v8 c ys λz hz=>h z (ap _ hz)
def aH{f g:MR.Env->Option Out}{env e:MR.Env}(h:f env=some (.nx e)):aN f g env=g e:=by simp[h]
def kO{f g:MR.Env->Option Out}{env:MR.Env}{p:PV}(h:f env=some (.rt p)):aN f g env=some (.rt p):=by simp[h]
def fc(n:Nat):cX 0 (n:Int)=(List.range n).map λk=>PV.int (k:Nat):=by
 unfold cX;simp
noncomputable def cell(ns:rL)(k:Nat):Int:=ns.getD k 0
def F5:Nat->PV->Prop
 |_,.Ee=>True
 |_,.bl _=>True
 |_,.int _=>True
 |_,.str x=>PyData.strOk x=true
 |n+1,.lst xs=>∀x∈xs,F5 n x
 |n+1,.tup xs=>∀x∈xs,F5 n x
 |_,_=>False
theorem yx{n:Nat}(j:∀p,F5 n p->∃d,toD p=some d/\d.canLay0=true/\d.depth<=n/\PyData.eqv d d=true):∀xs:List PV,(∀x∈xs,F5 n x)->∃ds,fU xs=some ds/\PyData.canLayAll0 ds=true/\PyData.depthAll ds<=n/\PyData.eqvAll ds ds=true
 |[],_=>⟨[],rfl,rfl,cq _,rfl⟩
 |x::xs,h=>by
  obtain⟨d,h1,h2,J,B⟩:=j x (h x av);obtain⟨ds,g1,g2,M,I⟩:=yx j xs λz hz=>h z (ap _ hz);refine⟨d::ds,by simp[fU,h1,g1],by simp[PyData.canLayAll0,h2,g2],?_,by simp[PyData.eqvAll,B,I]⟩;simp only[PyData.depthAll];omega
theorem yz:∀(n:Nat) (p:PV),F5 n p->∃d,toD p=some d/\d.canLay0=true/\d.depth<=n/\PyData.eqv d d=true
 |n,.Ee,_=>⟨.none,by simp[toD],by simp[PyData.canLay0],by simp[PyData.depth],by simp[PyData.eqv]⟩
 |n,.bl b,_=>⟨.bool b,by simp[toD],by simp[PyData.canLay0],by simp[PyData.depth],by simp[PyData.eqv]⟩
 |n,.int b,_=>⟨.int b,by simp[toD],by simp[PyData.canLay0],by simp[PyData.depth],by simp[PyData.eqv]⟩
 |n,.str b,h=>⟨.str b,by simp[toD],by simpa[PyData.canLay0,F5]using h,by simp[PyData.depth],by simp[PyData.eqv]⟩
 |n+1,.lst xs,h=>by
  obtain⟨ds,g1,g2,B,j⟩:=yx (yz n) xs (by simpa[F5]using h);exact⟨.list ds,by simp[toD,g1],by simp[PyData.canLay0,g2],by simp only[PyData.depth];omega,by simp[PyData.eqv,j]⟩
 |n+1,.tup xs,h=>by
  obtain⟨ds,g1,g2,B,j⟩:=yx (yz n) xs (by simpa[F5]using h);exact⟨.tuple ds,by simp[toD,g1],by simp[PyData.canLay0,g2],by simp only[PyData.depth];omega,by simp[PyData.eqv,j]⟩
 |0,.lst _,h=>by simp[F5]at h
 |0,.tup _,h=>by simp[F5]at h
 |_,.frz _,h=>by simp[F5]at h
 |_,.ktp _,h=>by simp[F5]at h
 |_,.dK _,h=>by simp[F5]at h
 |_,.dT _,h=>by simp[F5]at h
 |_,.obj _ _,h=>by simp[F5]at h
def Ou{n:Nat}{p:PV}(h:F5 n p)(I:n<=64):TR p p=some true:=by
 obtain⟨d,h1,h2,J,j⟩:=yz n p h;have B:SeqAt.shaped d=true:=by
  unfold SeqAt.shaped;rw[h2,Bool.true_and,nE];omega
 simp[TR,h1,B,j]
def Ov{p:PV}{k:Bool}(h:Sl p p=some k):k=true:=by
 cases p<;>simp at h<;>first|exact h|exact h.symm|cases h
def D_{n:Nat}{p:PV}(h:F5 n p)(j:n<=64):IZ p p=some true:=by
 unfold IZ;cases q:Sl p p with
 |none=>exact Ou h j
 |some k=>rw[Ov q]
def nQ{n:Nat}{x:PV}{xs:sA}(h:F5 (n+1) (.lst (x::xs)))(Y:n<=60):IZ (.lst (x::xs)) (.lst [])=some false:=by
 have h':∀y∈x::xs,F5 n y:=by simpa[F5]using h
 obtain⟨d,J,B,O,M⟩:=yz n x (h' x av);obtain⟨ds,g1,g2,U,Z⟩:=yx (yz n) xs λz hz=>h' z (ap _ hz);have j:SeqAt.shaped (.list (d::ds))=true:=by
  have h1:(PyData.list (d::ds)).canLay0=true:=by simp[PyData.canLay0,PyData.canLayAll0,B,g2]
  have h2:(PyData.list (d::ds)).depth<=64:=by simp only[PyData.depth,PyData.depthAll];omega
  simp[SeqAt.shaped,h1,h2]
 have I:SeqAt.shaped (.list [])=true:=by decide
 simp[IZ,Sl,TR,toD,fU,J,g1,j,I,PyData.eqv,PyData.eqvAll]
@[simp] def XS:IZ (.lst []) (.lst [])=some true:=D_ (n:=1) (by simp[F5]) (by decide)
abbrev Row:=List Nat
abbrev Pl:=List ((Int×Str)×Int)
noncomputable def IB(p:Pl):PV:=.tup (p.map O0)
def itK(x:(Int×Str)×Int):D5:=.tp [.tp [.k (.inl x.1.1),.k (.inr x.1.2)],.k (.inl x.2)]
noncomputable def OL(p:Pl):List D5:=p.map itK
theorem Ea(f:PV->Option D5)(j:∀x,f (O0 x)=some (itK x)):∀p:Pl,uP f (p.map O0)=some (OL p)
 |[]=>rfl
 |i::n=>by
  show(f (O0 i)).bind _=_;rw[j,ba,Ea f j n];rfl
set_option tactic.hygienic true in def wQ(p:Pl):EI (p.map O0)=some (OL p):=by
 unfold EI jY;split
 ·rename_i e
  match p,e with
  |[],e=>cases e
  |[_],e=>cases e
  |_::_::_,e=>injection e with e1 _;cases e1
 ·exact Ea _ (λi=>rfl) p
def Rz{x y:(Int×Str)×Int}(h:itK x=itK y):x=y:=by
 have h1:=D5.LU h;injection h1 with a b;have B:=D5.LU a;injection B with c d;injection c with c;injection c with c;injection d with d _;injection d with d;injection d with d;injection b with b _;injection b with b;injection b with b;obtain⟨⟨i,s⟩,n⟩:=x;obtain⟨⟨j,t⟩,m⟩:=y;simp only at c d b;subst c d b;rfl
def zL{p q:Pl}(h:OL p=OL q):p=q:=by
 unfold OL at h;induction p generalizing q with
 |nil=>cases q with
  |nil=>rfl
  |cons=>cases h
 |cons x p j=>cases q with
  |nil=>cases h
  |cons y q=>
   rw[be,be]at h;injection h with h1 h2;rw[Rz h1,j h2]
def RB{p q:Pl}(h:IB p=IB q):p=q:=by
 injection h with h;have e:=gg EI h;rw[wQ,wQ]at e;exact zL (bp e)
section
variable {κ:Type}[DecidableEq κ]
def Jp{kvs:List (κ×PV)}{k:κ}(h:aZ kvs k=none):(kvs.any λj=>decide (j.1=k))=false:=by
 unfold aZ at h;rw[kR,kC]at h;rw[ny];exact h
def wR{kvs:List (κ×PV)}{k:κ}(h:aZ kvs k=none)(v:PV):cu kvs k v=kvs++[(k,v)]:=by
 unfold cu;rw[Jp h];rfl
def Lk(kvs:List (κ×PV))(k:κ)(v:PV)(j:κ):aZ (kvs++[(k,v)]) j=(aZ kvs j).or (if k=j then some v else none):=by
 unfold aZ;rw[List.find?_append];cases h:kvs.find? λx=>decide (x.1=j)with
 |some y=>simp
 |none=>
  by_cases e:k=j
  ·simp[e]
  ·simp[e]
end
end Lake.My
namespace Lake.MR
open PySem L2
inductive EV(C:MC)(F:se)(H:Hp):St->Env->Prop
 |nil:EV C F H [] []
 |no {x:Option V}{FV:St}{env:Env}:EV C F H FV env->EV C F H (x::FV) (none::env)
 |co {v:V}{p:PV}{FV:St}{env:Env}:Rep C F H v p->EV C F H FV env->EV C F H (some v::FV) (some p::env)
section
variable {C:MC}{F F':se}{H H':Hp}{FV:St}{env:Env}{f:si}{p:PV}{Q:VK}{X:Cx}{e:Expr}{D:Ends}{g:Env->Option Out}{da:Addr}{n:Nat}
def EV.len(E:EV C F H FV env):FV.length=env.length:=by
 induction E with
 |nil=>rfl
 |no _ j=>simp[j]
 |co _ _ j=>simp[j]
def EV.val(E:EV C F H FV env):∀(i:Nat) (p:PV),env[i]?=some (some p)->∃v,FV[i]?=some (some v)/\Rep C F H v p:=by
 induction E with
 |nil=>intro i q e;cases e
 |no _ j=>
  intro i q e;cases i with
  |zero=>cases e
  |succ i=>exact j i q e
 |co r _ j=>
  intro i q e;cases i with
  |zero=>cases e;exact⟨_,rfl,r⟩
  |succ i=>exact j i q e
def EV.ex(E:EV C F H FV env)(x:Ex F H F' H'):EV C F' H' FV env:=by
 induction E with
 |nil=>exact .nil
 |no _ j=>exact .no j
 |co r _ j=>exact .co (r.ex x) j
def EV.set{v:V}(r:Rep C F H v p)(E:EV C F H FV env):∀i,EV C F H (FV.set i (some v)) (env.set i (some p)):=by
 induction E with
 |nil=>exactλ_=>.nil
 |no E j=>
  intro i;cases i with
  |zero=>exact .co r E
  |succ i=>exact .no (j i)
 |co q E j=>
  intro i;cases i with
  |zero=>exact .co r E
  |succ i=>exact .co q (j i)
abbrev bx(C:MC)(F:se)(H:Hp):BX:=⟨C,F,H,λ_=>none⟩
def EV.er(E:EV C F H FV env):ER (bx C F H) (λ_=>False) [] FV env H:=
 ⟨E.len,D8.refl _,λ_ w=>w.elim,λ_ w=>w.elim,λi p e _=>let ⟨v,h,r⟩:=E.val i p e;⟨v,h,r.ex (bB λa o _ q=>⟨id,.inl q⟩)⟩,(λ_ _ _ n=>nomatch n),(λ_ _ _ _ _ _ n=>nomatch n),λ_ _ z=>nomatch z⟩
def tX(C:MC)(f:si):TE:=fun FV H Q=>∃F,tM (bx C F H) [] .val f FV H Q
def lH(h:∀F H,SE X (bx C F H) [] .val e f):PE X e (tX C f):=λD3 s FV H Q I ⟨F,q⟩=>h F H D3 s FV H Q I q
def EV.x(E:EV C F H FV env)(j:∀a,H a=none->F a)(B:f env=some p)(k:∀v H',D8 H H'->Rep C F H' v p->Q v H'):tX C f FV H Q:=
 ⟨F,_,env,p,E.er,B,λv H' s r=>k v H' s (Rep.ex (bB λa o e z=>z.2.elim id (j a)) r)⟩
def tXT(C:MC)(f:sv):TT:=fun FV H Q=>∃F,YK (bx C F H) [] f FV H Q
def Ox{f:sv}(h:∀F H,ST X (bx C F H) [] e f):PT X e (tXT C f):=λD3 s FV H Q I ⟨F,q⟩=>h F H D3 s FV H Q I q
def EV.t{f:sv}{c:Bool}{Q:Bool->Hp->Prop}(E:EV C F H FV env)(j:f env=some c)(k:∀H',D8 H H'->Q c H'):tXT C f FV H Q:=⟨F,_,env,c,E.er,j,k⟩
def tXS(C:MC)(f:Env->Option Out):TS:=λD FV H=>∃F,tS (bx C F H) [] [] [] false f D FV H
def WN{body:rg}(h:∀F H,QO X (bx C F H) [] [] [] false body g):L5 X body (tXS C g):=λD3 s FV H D I ⟨F,q⟩=>h F H D3 s FV H D I q
def EV.s(E:EV C F H FV env)(j:∀a,H a=none->F a)(B:g env=some (.rt p))(k:∀v H',D8 H H'->Rep C F H' v p->D.rt v H'):tXS C g D FV H:=
 ⟨F,_,env,_,E.er,B,λv H' s r=>k v H' s (Rep.ex (bB λa o e z=>z.elim id (j a)) r)⟩
end
open PySem L2 My
section
variable {C:MC}{F F':se}{H H':Hp}{da:Addr}{n:Nat}
structure KI(C:MC)(G:Str->Str->Option PV)(n:Nat)(F:se)(H:Hp)(da:Addr):Prop where
 ex:∃kv kvs,H da=some (.dT kv)/\EM C F H kv kvs/\kvs.length<=n/\∀a b p,aZ kvs [.k (.inr a),.k (.inr b)]=some p->G a b=some p
 nF:¬ F da
 nw:∀a,H a=none->F a
variable {G:Str->Str->Option PV}
def KI.up(K:KI C G n F H da)(s:D8 H H'):KI C G n F H' da:=
 let ⟨kv,kvs,h,r,l,q⟩:=K.ex
 ⟨⟨kv,kvs,s _ _ h,r.ex (.of_same s),l,q⟩,K.nF,λa e=>K.nw a (s.free e)⟩
def KI.mono(K:KI C G n F H da){m:Nat}(h:n<=m):KI C G m F H da:=let ⟨kv,kvs,h1,r,l,q⟩:=K.ex;⟨⟨kv,kvs,h1,r,dE l h,q⟩,K.nF,K.nw⟩
def Bt(da:Addr)(H H':Hp):Prop:=∀x o,H x=some o->x≠da->H' x=some o
def Bt.ex(B:Bt da H H')(K:KI C G n F H da):Ex F H F H':=λa o e=>⟨λq=>⟨B a o e λz=>K.nF (z▸q),q⟩,λm=>B a o e λz=>by
 obtain⟨j,_,h,_⟩:=K.ex;rw[z,h]at e;cases e;cases m⟩
def Bt.of(s:D8 H H'):Bt da H H':=λx o e _=>s x o e
def Bt.trans{j:Hp}(B:Bt da H H')(I:Bt da H' j):Bt da H j:=λx o e n=>I x o (B x o e n) n
end
noncomputable def RO(mi:sj):List PV->Option PV
 |[pm,.str a,.str b]=>(EF pm (.str a)).bind λx=>(EF pm (.str b)).bind λy=>mi [x,y]
 |_=>none
abbrev sbE(mi:sj):Env->Option PV:=aW mi (ak (b2 EF (bV 0) (bV 2)) (ak (b2 EF (bV 0) (bV 3)) aK))
def Eb(C:MC)(mi:sj):Sp:=λvs H Q _=>∃F n pm vm da a b p,vs=[vm,.ref da,.str a,.str b]/\Rep C F H vm pm/\KI C (λa b=>RO mi [pm,.str a,.str b]) n F H da/\n<1000000/\RO mi [pm,.str a,.str b]=some p /\
 ∀v H',KI C (λa b=>RO mi [pm,.str a,.str b]) (n+1) F H' da->Bt da H H'->Rep C F H' v p->Q v H'
variable {C:MC}{vs:sC}{H:Hp}
def Oz{j:sj}{Q:VK}{E:XK}(h:Eb C j vs H Q E):vs.length=4:=by
 obtain⟨F,n,pm,B,da,a,b,p,e,_⟩:=h;rw[e];rfl
abbrev tK2:TE:=sJ (aU (EC 2) (aU (EC 3) bF))
def tSb(C:MC)(mi:sj):TS:=bO (jG (tB (jq C.K tK2 (EC 1))) (pN C.K (EC 1) tK2 (tX C (sbE mi))) iW) (fQ (sU C.K (EC 1) tK2))
def yC{t:Addr}{a b:Str}(h:H t=some (.tup [.str a,.str b])):GI C.K H t [.k (.inr a),.k (.inr b)]:=
 IJ.key (.inl h) (D7.EI (C:=C) (A:=λ_=>False) (.cons (.str a) (.cons (.str b) .nil)) rfl)
def Ve{mi:sj}{Q:VK}{E:XK}(h:Eb C mi vs H Q E):tSb C mi {nx:=λ_ H'=>Q .Ee H',rt:=Q} (L2.start ["metres","known","one","other"] vs) H:=by
 obtain⟨F,n,pm,vm,da,a,b,p,rfl,rm,j,hn,hp,q⟩:=h;obtain⟨M,kvs,Iy,rk,hl,hq⟩:=id j.ex;obtain⟨x,hx,I⟩:=ae.mp (show((EF pm (.str a)).bind _)=_ from hp);obtain⟨y,hy,I⟩:=ae.mp I;show tSb C mi _ [some vm,some (.ref da),some (.str a),some (.str b)] H;unfold tSb;dsimp only[bO,jG,tB,jq,sJ,aU,bF,EC,iW,fQ,sU,pN];have B:([.str a,.str b]:sC).length<=sizeLine:=by show(2:Nat)<=sizeLine;decide
 refine⟨_,rfl,_,rfl,B,λt ht=>⟨_,rfl,da,_,rfl,FE.t (aM ht _ _ _ Iy) (yC aB),_,rfl,?_⟩⟩;have Y:=aM ht (.tup [.str a,.str b]);generalize upd H t (.tup [.str a,.str b])=H1 at Y ⊢;rcases EM.val (k:=[.k (.inr a),.k (.inr b)]) rk with⟨v,pv,g1,g2,rv⟩|⟨g1,g2⟩
 ·rw[g1]
  refine mJ ⟨_,rfl,_,rfl,_,rfl,B,λt2 So=>?_⟩;have O:=Y.trans (aM So (.tup [.str a,.str b]));refine⟨da,_,rfl,g1▸FE.t (O _ _ Iy) (yC aB),?_⟩;have e:p=pv:=bp (hp.symm.trans (hq a b pv g2));rw[e]at q;exact q v _ ((j.up O).mono (hJ n)) (.of O) (rv.ex (.of_same O))
 ·rw[g1]
  have E1:EV C F H1 [some vm,some (.ref da),some (.str a),some (.str b)] [some pm,none,some (.str a),some (.str b)]:=.co (rm.ex (.of_same Y)) (.no (.co (.str a) (.co (.str b) .nil)));refine jH (E1.x (λc e=>j.nw c (Y.free e)) (p:=p) (by simp only[Ni,Nh,Bu,Qf,Q4,oC,kF,ba,hx,hy,I]) λv H2 O rv=>⟨_,rfl,_,rfl,_,rfl,B,λt2 So=>?_⟩);have s3:=(Y.trans O).trans (aM So (.tup [.str a,.str b]));have J:=rv.ex (.of_same (aM So (.tup [.str a,.str b])));have k3:=yC (C:=C) (aB (H:=H2) (a:=t2) (o:=.tup [.str a,.str b]));generalize upd H2 t2 (.tup [.str a,.str b])=U at s3 J k3 ⊢;have hd3:=s3 _ _ Iy;refine⟨da,_,rfl,LH.t hd3 k3 (cT (by rw[rk.length];omega)),_,rfl,_,rfl,_,rfl,B,λt4 ht4=>?_⟩;have K3:=j.up s3;have h4:upd U da (.dT (putK M [.k (.inr a),.k (.inr b)] v)) da=some (.dT (putK M [.k (.inr a),.k (.inr b)] v)):=aB;have B4:Bt da U (upd U da (.dT (putK M [.k (.inr a),.k (.inr b)] v))):=λx o e n=>by rw[aG n];exact e
  have n4:∀c,upd U da (.dT (putK M [.k (.inr a),.k (.inr b)] v)) c=none->U c=none:=λc e=>by
   by_cases z:c=da
   ·rw[z,h4]at e;cases e
   ·rw[aG z]at e;exact e
  generalize upd U da (.dT (putK M [.k (.inr a),.k (.inr b)] v))=H4 at ht4 h4 B4 n4 ⊢;have s5:=aM ht4 (.tup [.str a,.str b]);have g3:dU (putK M [.k (.inr a),.k (.inr b)] v) [.k (.inr a),.k (.inr b)]=some v:=by rw[wF,bS rfl]
  refine⟨da,v,rfl,g3▸FE.t (s5 _ _ h4) (yC aB),?_⟩;have x4:=B4.ex K3;have gl:aZ kvs [.k (.inr a),.k (.inr b)]=none:=g2;refine q v _ (KI.up ⟨⟨_,_,h4,EM.put (J.ex x4) ((rk.ex (.of_same s3)).ex x4),?_,λa' b' p' e=>?_⟩,j.nF,λc e=>K3.nw c (n4 c e)⟩ s5) (((Bt.of s3).trans B4).trans (.of s5)) ((J.ex x4).ex (.of_same s5))
  ·rw[wR gl,cb]
   simpa using hl
  ·rw[wR gl,Lk]at e
   cases z:aZ kvs [.k (.inr a'),.k (.inr b')]with
   |some Z=>
    rw[z]at e;rw[←show Z=p' by simpa using e];exact hq a' b' Z z
   |none=>
    rw[z]at e;by_cases w:([.k (.inr a),.k (.inr b)]:List D5)=[.k (.inr a'),.k (.inr b')]
    ·rw[bS w]at e
     have e2:p=p':=by simpa using e
     simp only[List.cons.injEq,D5.k.injEq,Sum.inr.injEq,and_true]at w;rw[←w.1,←w.2,←e2];exact hp
    ·rw[br w]at e;cases e
def set_inv{i:Nat}{f:si}{g:Env->Option Out}{env:Env}{o:Out}(h:aN (aY i f) g env=some o):∃q,f env=some q/\g (env.set i (some q))=some o:=by
 obtain⟨x,j,h⟩:=ae.mp (show((aY i f env).bind _)=_ from h);obtain⟨q,B,e⟩:=ae.mp (show((f env).bind _)=_ from j);cases e;exact⟨q,B,h⟩
noncomputable def fbF(mi:sj)(e1 e2 eA eB:si)(rest:Env->Option Out):Env->Option Out:=
 aN (aY 5 e1) (aN (aY 6 e2) (aN (aY 7 (aW (RO mi) (DZ 0 (ak eA (ak eB aK))))) rest))
noncomputable def miF(f:Env->Option Out):List PV->Option PV
 |[m,x,y,n]=>(f [some m,none,some x,some y,some n,none,none,none,none]).bind λo=>match o with
  |.rt p=>some p
  |_=>none
 |_=>none
def Ec(C:MC)(mi:sj)(mf:sj):Sp:=λvs H Q _=>∃F n pm p1 p2 p3 vm v1 v2 v3 da p,vs=[vm,.ref da,v1,v2,v3]/\Rep C F H vm pm/\Rep C F H v1 p1/\Rep C F H v2 p2/\Rep C F H v3 p3/\KI C (λa b=>RO mi [pm,.str a,.str b]) n F H da/\n<1000000/\mf [pm,p1,p2,p3]=some p /\
 ∀v H',KI C (λa b=>RO mi [pm,.str a,.str b]) (n+1) F H' da->Bt da H H'->Rep C F H' v p->Q v H'
def OD{j B:sj}{Q:VK}{E:XK}(h:Ec C j B vs H Q E):vs.length=5:=by
 obtain⟨F,n,pm,p1,p2,J,M,U,I,O,da,p,e,_⟩:=h;rw[e];rfl
def tFi(C:MC)(mi:sj)(e1 e2 eA eB:si)(rest:Env->Option Out):TS:=
 bO (dB (tX C e1) (bu 5)) (bO (dB (tX C e2) (bu 6)) (bO (dB (gB (Eb C mi) [] E0 (aU (EC 0) (aU (EC 1) (aU (tX C eA) (aU (tX C eB) bF))))) (bu 7)) (tXS C rest)))
def Vf{J:sj}{e1 e2 I B:si}{rest:Env->Option Out}{Q:VK}{E:XK}(h:Ec C J (miF (fbF J e1 e2 I B rest)) vs H Q E):
  tFi C J e1 e2 I B rest {nx:=λ_ H'=>Q .Ee H',rt:=Q} (L2.start ["metres","known","one","other","number","many","back","said","free"] vs) H:=by
 obtain⟨F,n,pm,p1,p2,p3,vm,v1,v2,v3,da,p,rfl,rm,r1,r2,r3,K0,hn,O,q⟩:=h;obtain⟨o,j,O⟩:=ae.mp (show((fbF J e1 e2 I B rest _).bind _)=_ from O);obtain⟨q5,h5,j⟩:=set_inv j;obtain⟨q6,h6,j⟩:=set_inv j;obtain⟨q7,M,j⟩:=set_inv j;cases o<;>first|(cases O;done)|skip
 cases O;obtain⟨l,hl,M⟩:=ae.mp (show((DZ 0 (ak I (ak B aK)) _).bind _)=_ from M);obtain⟨m,hm,Rl⟩:=ae.mp (show((bV 0 _).bind _)=_ from hl);cases hm;obtain⟨l1,NG,z1⟩:=ae.mp Rl;obtain⟨pa,ha,hl3⟩:=ae.mp (show((I _).bind _)=_ from NG);obtain⟨l2,Z,z2⟩:=ae.mp hl3;obtain⟨pb,hb,z3⟩:=ae.mp (show((B _).bind _)=_ from Z);cases z3;cases z2;cases z1;show tFi C J e1 e2 I B rest _ [some vm,some (.ref da),some v1,some v2,some v3,none,none,none,none] H;unfold tFi;dsimp only[bO,dB,bu,gB,aU,bF,EC];have E0:EV C F H [some vm,some (.ref da),some v1,some v2,some v3,none,none,none,none] [some pm,none,some p1,some p2,some p3,none,none,none,none]:=.co rm (.no (.co r1 (.co r2 (.co r3 (.no (.no (.no (.no .nil))))))));refine E0.x K0.nw h5 λw5 H1 Y r5=>?_;have K1:=K0.up Y;have E1:=(E0.ex (.of_same Y)).set r5 5;refine E1.x K1.nw h6 λw6 H2 s2 r6=>?_;have K2:=K1.up s2;have E2:=(E1.ex (.of_same s2)).set r6 6;refine⟨_,rfl,_,rfl,E2.x K2.nw ha λwa H3 s3 ra=>?_⟩;have K3:=K2.up s3;have E3:=E2.ex (.of_same s3);refine E3.x K3.nw hb λwb H4 U rb=>?_;have K4:=K3.up U;have E4:=E3.ex (.of_same U);cases pa<;>first|(cases M;done)|skip
 cases pb<;>first|(cases M;done)|skip
 obtain rfl:=EB.str (.inl (ra.ex (.of_same U)));obtain rfl:=EB.str (.inl rb);obtain⟨_,e,rm4⟩:=E4.val 0 pm rfl;cases e;refine⟨F,n,pm,_,da,_,_,q7,rfl,rm4,K4,hn,M,λw7 H5 K5 B5 r7=>?_⟩;have E5:=(E4.ex (B5.ex K4)).set r7 7;refine E5.s K5.nw j λv H6 s6 r6=>?_;exact q v H6 (K5.up s6) ((((Bt.of Y).trans (.of s2)).trans ((Bt.of s3).trans (.of U))).trans (B5.trans (.of s6))) r6
noncomputable def fwN(fi:sj)(m pl bs:PV):List Nat->Option PV
 |[]=>some .Ee
 |j::r=>(fi [m,pl,bs,.int j]).bind λx=>if cj x=true then fwN fi m pl bs r else some x
noncomputable def fwT(pr po fi:sj)(m one other:PV):List PV->Option PV
 |[]=>some .Ee
 |t::r=>(pr [one,t]).bind λpl=>match pl with
  |.lst xs=>if xs.length<=1000 then(po [other,.int (xs.length:Nat)]).bind λbs=>if cj bs=true then some (.tup [.str "rows",.int (xs.length:Nat)])else
   (fwN fi m (.lst xs) bs (List.range xs.length)).bind λx=>if cj x=true then fwT pr po fi m one other r else some x
   else none
  |_=>none
noncomputable def Jq(rf tm pr po fi:sj):List PV->Option PV
 |[one,other,m]=>(rf [m,one]).bind λ_=>(rf [m,other]).bind λ_=>(tm [one]).bind λts=>match ts with
  |.lst ts=>if ts.length<=1000 then fwT pr po fi m one other ts else none
  |_=>none
 |_=>none
abbrev eC2(mi:sj)(i j:Nat):Env->Option PV:=aW mi (ak (bV i) (ak (bV j) aK))
abbrev eLn:Env->Option PV:=b1 FK (bV 5)
def OJ(C:MC)(mi fi:sj):TS:=
 bO (dB (gB (Ec C mi fi) [] E0 (aU (EC 2) (aU (EC 3) (aU (EC 5) (aU (EC 6) (aU (EC 7) bF)))))) (bu 8)) (jG (tXT C (tV (b2 dg (bV 8) (bC .Ee)))) (fQ (EC 8)) iW)
def Vg(C:MC)(mi fi pr po:sj):TS:=
 bO (dB (tX C (eC2 pr 0 4)) (bu 5)) (bO (dB (tX C (aW po (DZ 1 (ak eLn aK)))) (bu 6))
  (bO (jG (tXT C (tV (b2 OH (bV 6) (bC .Ee)))) (fQ (tX C (bR (ak (bC (.str "rows")) (ak eLn aK))))) iW)
   (wB (xN (aU (tX C eLn) bF)) (bu 7) (OJ C mi fi))))
def tFw(C:MC)(mi rf tm pr po fi:sj):TS:=
 bO (nM (tX C (eC2 rf 2 0))) (bO (nM (tX C (eC2 rf 2 1))) (bO (dB CG (bu 3)) (bO (wB (xM C.K (tX C (aW tm (DZ 0 aK)))) (bu 4) (Vg C mi fi pr po)) (fQ (tC .Ee)))))
section
variable {C:MC}{mi fi pr po:sj}{F:se}{H:Hp}{D:Ends}{da:Addr}{n:Nat}{pm p1 p2 out:PV}{v1 v2 vm vt vl vb:V}{x7 x8:Option V}
def RC{env:Env}{i:Nat}{p:PV}(h:bV i env=some p):(tV (b2 OH (bV i) (bC .Ee))) env=some (cj p):=by
 simp only[Qg,Bu,Ib,h,ba];cases p<;>rfl
def O3{env:Env}{i:Nat}{p:PV}(h:bV i env=some p):(tV (b2 dg (bV i) (bC .Ee))) env=some (!cj p):=by
 simp only[Qg,Bu,Ib,h,ba];cases p<;>rfl
def RD{xs:sA}{bs:PV}(hx:xs.length<=1000)(r1:Rep C F H v1 p1)(r2:Rep C F H v2 p2)(Z:Rep C F H vm pm)(rl:Rep C F H vl (.lst xs))(rb:Rep C F H vb bs)(K:KI C (λa b=>RO mi [pm,.str a,.str b]) n F H da)(hn:n+1000<=1000000)(h:fwN fi pm (.lst xs) bs (List.range xs.length)=some out)
  (q1:∀H' y7 y8,cj out=true->KI C (λa b=>RO mi [pm,.str a,.str b]) (n+1000) F H' da->Bt da H H'->D.nx [some v1,some v2,some vm,some (.ref da),some vt,some vl,some vb,y7,y8] H')
  (q2:∀v H',cj out=false->KI C (λa b=>RO mi [pm,.str a,.str b]) (n+1000) F H' da->Bt da H H'->Rep C F H' v out->D.rt v H'):
  wB (xN (aU (tX C eLn) bF)) (bu 7) (OJ C mi fi) D [some v1,some v2,some vm,some (.ref da),some vt,some vl,some vb,x7,x8] H:=by
 have Ev:∀{H1:Hp}{y7 y8:Option V},Ex F H F H1->EV C F H1 [some v1,some v2,some vm,some (.ref da),some vt,some vl,some vb,y7,y8] [some p1,some p2,some pm,none,none,some (.lst xs),some bs,none,none]:=λx=>.co (r1.ex x) (.co (r2.ex x) (.co (Z.ex x) (.no (.no (.co (rl.ex x) (.co (rb.ex x) (.no (.no .nil))))))));refine(Ev (Ex.refl _ _)).x K.nw (p:=.int (xs.length:Nat)) (by simp) λv H1 Y r=>?_;rw[EB.int (.inl r)];refine⟨(xs.length:Nat),rfl,by omega,by omega,?_⟩;refine JV (lo:=0) (n:=((xs.length:Nat):Int).toNat) (λj FV H'=>∃y7 y8,FV=[some v1,some v2,some vm,some (.ref da),some vt,some vl,some vb,y7,y8]/\KI C (λa b=>RO mi [pm,.str a,.str b]) (n+j) F H' da/\Bt da H H'/\fwN fi pm (.lst xs) bs ((List.range xs.length).drop j)=some out)
  ⟨x7,x8,rfl,K.up Y,.of Y,h⟩ (λj FV H2 hj ⟨y7,y8,e,M,I,h2⟩=>?_) fun FV H2 ⟨y7,y8,e,M,I,h2⟩=>?_
 ·subst e
  have U:j<xs.length:=by simpa using hj
  rw[db (by simpa using U),List.getElem_range]at h2;obtain⟨x,OW,h2⟩:=ae.mp (show((fi [pm,.lst xs,bs,.int j]).bind _)=_ from h2);have J:=I.ex K;unfold OJ;dsimp only[bu,bO,dB,gB,aU,bF,EC,jG,fQ,iW];refine⟨_,rfl,_,rfl,_,rfl,_,rfl,_,rfl,?_⟩;have e0:(0+(j:Int))=(j:Int):=by omega
  refine⟨F,n+j,pm,_,_,_,vm,vl,vb,_,da,x,rfl,Z.ex J,rl.ex J,rb.ex J,(by rw[e0];exact .int _),M,by omega,OW,λv H3 K3 B3 r3=>?_⟩;have B:=I.trans B3;have E3:=(Ev (y7:=some (.int (0+(j:Int)))) (y8:=y8) (B.ex K)).set r3 8;refine E3.t (O3 (i:=8) rfl) λH4 O=>?_;have K4:=K3.up O;have B4:=B.trans (.of O);cases hz:cj x with
  |true=>
   rw[hz,bS rfl]at h2;exact mJ ⟨_,_,rfl,K4,B4,h2⟩
  |false=>
   rw[hz,br (by decide)]at h2;cases h2;exact jH ⟨_,rfl,q2 v H4 hz (K4.mono (by omega)) B4 (r3.ex (.of_same O))⟩
 ·subst e
  rw[kT (by simp)]at h2;cases h2;exact q1 H2 y7 y8 rfl (M.mono (by simp;omega)) I
end
set_option tactic.hygienic true in def Vh{mi rf tm pr po fi:sj}{Q:VK}{E:XK}(h:IL C (Jq rf tm pr po fi) false vs H Q E):
  tFw C mi rf tm pr po fi {nx:=λ_ H'=>Q .Ee H',rt:=Q} (L2.start ["one","other","metres","known","times","plain","beside","number","fault"] vs) H:=by
 obtain⟨A,ps,p,r,J,q⟩:=h;unfold Jq at J;split at J
 ·rename_i p1 p2 pm
  obtain⟨_,h1,J⟩:=ae.mp J;obtain⟨_,h2,J⟩:=ae.mp J;obtain⟨ts,h3,J⟩:=ae.mp J;split at J
  ·rename_i ts
   split at J
   ·rename_i hts
    cases r with
    |cons r1 r=>cases r with
     |cons r2 r=>cases r with
      |cons rm r=>
       cases r;rename_i v1 v2 vm;have nA:∀{H':Hp},D8 H H'->∀a,H' a=none->(A a\/H a=none):=λs a e=>.inr (s.free e);have wk:Ex A H (λc=>A c\/H c=none) H:=bB λ_ _ _ z=>.inl z;have Ev:∀{H1:Hp}{F1:se}{x3 x4 x5 x6 x7 x8:Option V},Ex A H F1 H1->EV C F1 H1 [some v1,some v2,some vm,x3,x4,x5,x6,x7,x8] [some p1,some p2,some pm,none,none,none,none,none,none]:=λx=>.co (r1.ex x) (.co (r2.ex x) (.co (rm.ex x) (.no (.no (.no (.no (.no (.no .nil))))))));show tFw C mi rf tm pr po fi _ [some v1,some v2,some vm,none,none,none,none,none,none] H;unfold tFw;dsimp only[bO,nM,dB,bu,fQ,tC,CG];refine(Ev wk).x (λa e=>.inr e) (show eC2 rf 2 0 _=_ from h1) λ_ H1 s1 _=>?_;refine(Ev (wk.trans (.of_same s1))).x (nA s1) (show eC2 rf 2 1 _=_ from h2) λ_ H2 s2 _=>?_;have s12:=s1.trans s2;intro da Iy;have s3:=s12.trans (aM Iy (.dT []));have hd3:upd H2 da (.dT []) da=some (.dT []):=aB;have hd0:H da=none:=s12.free Iy;generalize upd H2 da (.dT [])=H3 at s3 hd3 ⊢;obtain⟨F,hF⟩:∃F:Addr->Prop,F=λc=>c≠da/\((A c/\∃o,H c=some o)\/H c=none):=⟨_,rfl⟩;have nF:¬ F da:=by rw[hF];exactλz=>z.1 rfl
       have nw3:∀a,H3 a=none->F a:=λa e=>by rw[hF];exact⟨(λz=>by rw[z,hd3]at e;cases e),.inr (s3.free e)⟩
       have x3:Ex A H F H3:=λa o e=>⟨λz=>⟨s3 a o e,by rw[hF];exact⟨aF e hd0,.inl ⟨z,o,e⟩⟩⟩,λ_=>s3 a o e⟩;have K3:KI C (λa b=>RO mi [pm,.str a,.str b]) 0 F H3 da:=⟨⟨[],[],hd3,.nil,aI _,λ_ _ _ e=>nomatch e⟩,nF,nw3⟩;have Y:∀{H':Hp},Bt da H3 H'->D8 H H':=λB a o e=>B a o (s3 a o e) (aF e hd0);have ret:∀{H':Hp}{v:V}{y:PV},Bt da H3 H'->Rep C F H' v y->Rep C (λc=>A c\/H c=none) H' v y:=λB r=>r.ex (bB λa o _ z=>by rw[hF]at z;exact z.2.imp And.left id);refine(Ev x3).x nw3 (p:=.lst ts) (by simpa using h3) λvl H4 s4 rl=>?_;obtain⟨a,us,rfl,ha,ra⟩:=EB.lst (.inl rl);have na:a≠da:=by cases rl with|lst _ z _=>rw[hF]at z;exact z.1
       refine⟨a,rfl,⟨us,Fc.of ha⟩,?_⟩;have lu:us.length=ts.length:=ra.length;refine Cq (K:=C.K) (a:=a) (xs:=us) (λj FV H'=>∃x4 x5 x6 x7 x8,FV=[some v1,some v2,some vm,some (.ref da),x4,x5,x6,x7,x8]/\KI C (λa b=>RO mi [pm,.str a,.str b]) (j*1000) F H' da/\Bt da H4 H'/\fwT pr po fi pm p1 p2 (ts.drop j)=some p)
        ⟨_,_,_,_,_,rfl,by simpa using K3.up s4,λ_ _ e _=>e,J⟩ (λj FV H5 _ ⟨_,_,_,_,_,_,_,Z,_⟩=>Fc.of (Z _ _ ha na)) (λj x FV H5 hx ⟨x4,x5,x6,x7,x8,e,K5,Z,I⟩=>?_) fun FV H5 ⟨x4,x5,x6,x7,x8,e,K5,Z,I⟩=>?_
       ·subst e
        have U:Bt da H3 H5:=(Bt.of s4).trans Z;have hj:j<ts.length:=by rw[←lu];exact(al.mp hx).1
        obtain⟨t,ht,rt⟩:=ra.get' hx;rw[db hj,show ts[j]=t by rw[ax hj]at ht;exact bp ht]at I;obtain⟨pl,FO,I⟩:=ae.mp (show((pr [p1,t]).bind _)=_ from I);split at I
        ·rename_i xs
         split at I
         ·rename_i hxs
          obtain⟨bs,hbs,I⟩:=ae.mp I;have xA:Ex A H F H5:=x3.trans (U.ex K3);have rt5:=rt.ex (Z.ex (K3.up s4));unfold Vg;dsimp only[bu,bO,dB,jG,fQ,iW];have E5:=(Ev (x3:=some (.ref da)) (x4:=x4) (x5:=x5) (x6:=x6) (x7:=x7) (x8:=x8) xA).set rt5 4;refine E5.x K5.nw (show eC2 pr 0 4 _=_ from FO) λvp H6 s6 r6=>?_;have K6:=K5.up s6;have E6:=(E5.ex (.of_same s6)).set r6 5;refine E6.x K6.nw (p:=bs) (by simpa using hbs) λvb H7 s7 r7=>?_;have K7:=K6.up s7;have E7:=(E6.ex (.of_same s7)).set r7 6;refine E7.t (RC (i:=6) rfl) λH8 s8=>?_;have K8:=K7.up s8;have E8:=E7.ex (.of_same s8);have M:=(s6.trans s7).trans s8;cases hz:cj bs with
          |true=>
           rw[hz,bS rfl]at I;cases I;refine jH (E8.x K8.nw (p:=.tup [.str "rows",.int (xs.length:Nat)]) (by simp) λv H9 s9 r9=>?_);have B9:=U.trans (.of (M.trans s9));exact q v H9 (Y B9) (ret B9 r9)
          |false=>
           refine mJ ?_;rw[hz,br (by decide)]at I;obtain⟨x,OW,I⟩:=ae.mp I;have O:Ex A H F H8:=xA.trans (.of_same M);refine RD (n:=j*1000) (pm:=pm) (p1:=p1) (p2:=p2) hxs (r1.ex O) (r2.ex O) (rm.ex O) (r6.ex (.of_same (s7.trans s8))) (r7.ex (.of_same s8)) K8 (by omega) OW (λH9 y7 y8 ez K9 B9=>?_) λv H9 ez K9 B9 r9=>?_
           ·rw[ez,bS rfl]at I
            exact⟨_,_,_,_,_,rfl,by rw[pf];exact K9,Z.trans ((Bt.of M).trans B9),I⟩
           ·rw[ez,br (by decide)]at I
            cases I;have B:=U.trans ((Bt.of M).trans B9);exact q v H9 (Y B) (ret B r9)
         ·cases I
        ·cases I
       ·subst e
        rw[kT (by rw[lu];exact aI _)]at I;cases I;have B:=(Bt.of s4).trans Z;exact q .Ee H5 (Y B) .Ee
   ·cases J
  ·cases J
 ·cases J
noncomputable def P5(x y:PV):Option PV:=(j0 x y).map λk=>.bl k
@[simp] def Yg(x y:PV):P5 x y=((j0 x y).map λk=>.bl k):=id rfl
def Vi{b:BX}:Mc b .val (rIn b.C.K false) P5:=by
 intro Ow H v1 v2 p1 p2 p Q B J I e k;obtain⟨c,q,rfl⟩:=bv.mp e;have h:=Ao Ow H v1 v2 p1 p2 (.bl (!c)) (λv H'=>∀j,v=.bl j->Q (.bl (!j)) H') B J I (by rw[KZ,q];rfl) λv H' s r=>by
  rw[EB.bl (.inl r)];rintro j e;cases e;rw[Bool.not_not];exact k _ H' s (.bl _)
 obtain⟨a,vs,e1,e2,e3,e4,h⟩:=h;refine⟨a,vs,e1,e2,e3,e4,?_⟩;have:=h _ rfl;simpa using this
def yD{X:Cx}{b:BX}{G:qV}{m1 m2:Md}{e1 e2:Expr}{f1 f2:si}(h1:SE X b G m1 e1 f1)(h2:SE X b G m2 e2 f2)(j:autoParam (behindInMarks .In e2=false) r0_)(B:autoParam (X.K=b.C.K) r0_):SC X b G .In e1 e2 (b2 P5 f1 f2):=
 nO (r:=rIn b.C.K false) (by rw[←B];exact Kd) Vi h1 h2 j
@[simp] noncomputable def inS:PV->PV->Option PV
 |.str x,.str y=>some (.bl (!(Builtin.Str.occurrences y x 0 y.length 1).isEmpty))
 |_,_=>none
def Vj{X:Cx}{b:BX}{G:qV}{m1 m2:Md}{e1 e2:Expr}{f1 f2:si}(h1:SE X b G m1 e1 f1)(h2:SE X b G m2 e2 f2)(I:autoParam (behindInMarks .In e2=false) r0_):SC X b G .In e1 e2 (b2 inS f1 f2):=by
 refine nO JX (λOw H v1 v2 p1 p2 p Q J B j e k=>?_) h1 h2 I;unfold inS at e;split at e
 ·cases e
  exact⟨_,_,B.str,j.str,k _ H (D8.refl _) (.bl _)⟩
 ·cases e
noncomputable def yE:PV->PV->Option PV
 |x,.dK kvs=>(keyOf x).map λk=>.bl (!(aZ kvs k).isSome)
 |_,_=>none
def Ln{X:Cx}{b:BX}{G:qV}{m1 m2:Md}{e1 e2:Expr}{f1 f2:si}{j:Nat}(M:EU j X.A)(h1:SE X b G m1 e1 f1)(h2:SE X b G m2 e2 f2)(I:autoParam (behindInMarks .NotIn e2=false) r0_)(J:autoParam (X.K=b.C.K) r0_):SC X b G .NotIn e1 e2 (b2 yE f1 f2):=by
 refine nO (r:=λx y H Q=>∃a o,y=.ref a/\FE b.C.K H a x o/\Q (.bl (!o.isSome)) H) (by rw[←J];exact Ks (fP M)) (λOw H v1 v2 p1 p2 p Q hn B Y e k=>?_) h1 h2 I;unfold yE at e;split at e
 ·obtain⟨c,q,rfl⟩:=bv.mp e
  obtain⟨a,Z,rfl,U,O⟩:=Y.dK;rw[B.key q];refine⟨a,_,rfl,FE.k U,?_⟩;rcases O.val (k:=c)with⟨v,p,g1,g2,_⟩|⟨g1,g2⟩
  ·rw[g1]
   have e:aZ _ c=some p:=g2;rw[e]at k;exact k _ H (D8.refl _) (.bl _)
  ·rw[g1]
   have e:aZ _ c=none:=g2;rw[e]at k;exact k _ H (D8.refl _) (.bl _)
 ·cases e
theorem Ha{C:MC}{A:se}{H:Hp}:∀{vs:sC}{ps:sA},vs.length=ps.length->(∀(i:Nat) (v:V) (p:PV),vs[i]?=some v->ps[i]?=some p->Rep C A H v p)->D7 C A H vs ps
 |[],[],_,_=>.nil
 |v::vs,p::ps,h,r=>.cons (r 0 v p rfl rfl) (Ha (by simpa using h) λi v p a b=>r (i+1) v p a b)
abbrev ctE(w n:Nat)(p:PV):Env:=[none,none,some (.int w),some (.int n),some p]
noncomputable def mU(f:sv):Nat->Nat->List (List PV)->List PV->Option (List (List PV))
 |_,_,L,[]=>some L
 |w,n,L,p::r=>(f (ctE w n p)).bind λb=>if b=true then mU f (w+1) n L r else
  if w<L.length/\(L.getD w []).length<1000000 then mU f w (n+1) (L.set w (L.getD w []++[.tup [.int ((n+1:Nat):Int),p]])) r else none
noncomputable def zM(f:sv):List PV->Option PV
 |[.tup ps]=>(mU f 0 0 [[],[],[]] ps).map λL=>.lst (L.map .lst)
 |_=>none
abbrev inc(i:Nat):Env->Option PV:=b2 iR (bV i) (DU 1)
def Vk(C:MC)(f:sv):TS:=jG (tXT C f) (dB (tX C (inc 2)) (bu 2)) (bO (dB (tX C (inc 3)) (bu 3)) (nM (Zk C.K "list" vC (QE (wG C.K) (EC 1) (EC 2)) (aU (sJ (aU (EC 3) (aU (EC 4) bF))) bF))))
def tCt(C:MC)(f:sv):TS:=
 bO (dB (pY (aU (pY bF) (aU (pY bF) (aU (pY bF) bF)))) (bu 1)) (bO (dB (tC (.int 0)) (bu 2)) (bO (dB (tC (.int 0)) (bu 3)) (bO (wB (HF C.K (EC 0)) (bu 4) (Vk C f)) (fQ (EC 1)))))
def Vl{f:sv}{Q:VK}{E:XK}(h:IL C (zM f) false vs H Q E):vs.length=1:=by
 obtain⟨A,ps,p,r,j,_⟩:=h;rw[r.length];unfold zM at j;split at j
 ·rfl
 ·cases j
set_option tactic.hygienic true in def Vm{f:sv}{Q:VK}{E:XK}(h:IL C (zM f) false vs H Q E):
  tCt C f {nx:=λ_ H'=>Q .Ee H',rt:=Q} (L2.start ["form","lists","where","number","part"] vs) H:=by
 obtain⟨A,ps,p,r,hm,q⟩:=h;unfold zM at hm;split at hm
 ·rename_i ps
  obtain⟨L,hL,rfl⟩:=bv.mp hm;cases r with
  |cons r0 r=>
   cases r;rename_i v0;show tCt C f _ [some v0,none,none,none,none] H;unfold tCt;dsimp only[bO,dB,bu,fQ,EC,tC,pY,aU,bF];refine⟨cq _,λB n0=>⟨cq _,λI n1=>⟨cq _,λJ n2=>⟨by show(3:Nat)<=sizeLine;decide,λU n3=>?_⟩⟩⟩⟩;have s0:=aM n0 (.lst []);have s1:=aM n1 (.lst []);have s2:=aM n2 (.lst []);have s3:=aM n3 (.lst [.ref B,.ref I,.ref J]);have h0:=s3 _ _ (s2 _ _ (s1 _ _ (aB (H:=H) (a:=B) (o:=.lst []))));have h1:=s3 _ _ (s2 _ _ (aB (H:=upd H B (.lst [])) (a:=I) (o:=.lst [])));have h2:=s3 _ _ (aB (H:=upd (upd H B (.lst [])) I (.lst [])) (a:=J) (o:=.lst []));have h3:upd (upd (upd (upd H B (.lst [])) I (.lst [])) J (.lst [])) U (.lst [.ref B,.ref I,.ref J]) U=some (.lst ([B,I,J].map V.ref)):=aB;have d01:B≠I:=aF aB n1;have d02:B≠J:=aF (s1 _ _ aB) n2;have d12:I≠J:=aF aB n2;have dl:U∉[B,I,J]:=λz=>by
    simp only[bi,bt,eI]at z;rcases z with z|z|z
    ·rw[z,s2 _ _ (s1 _ _ aB)]at n3;cases n3
    ·rw[z,s2 _ _ aB]at n3;cases n3
    ·rw[z,aB]at n3;cases n3
   have nd:[B,I,J].Nodup:=by simp[d01,d02,d12]
   have sm:=((s0.trans s1).trans s2).trans s3;have new:∀a∈[B,I,J],H a=none:=λa z=>by
    simp only[bi,bt,eI]at z;rcases z with z|z|z<;>rw[z]
    ·exact n0
    ·exact s0.free n1
    ·exact(s0.trans s1).free n2
   have nl:H U=none:=((s0.trans s1).trans s2).free n3;have bg:∀(i:Nat) (a:Addr),[B,I,J][i]?=some a->∃us,upd (upd (upd (upd H B (.lst [])) I (.lst [])) J (.lst [])) U (.lst [.ref B,.ref I,.ref J]) a=some (.lst us)/\D7 C (λc=>c≠U/\c∉[B,I,J]/\(A c\/H c=none)) (upd (upd (upd (upd H B (.lst [])) I (.lst [])) J (.lst [])) U (.lst [.ref B,.ref I,.ref J])) us (([[],[],[]]:List (List PV)).getD i []):=λi a e=>by
    match i,e with
    |0,e=>cases e;exact⟨[],h0,.nil⟩
    |1,e=>cases e;exact⟨[],h1,.nil⟩
    |2,e=>cases e;exact⟨[],h2,.nil⟩
   generalize upd (upd (upd (upd H B (.lst [])) I (.lst [])) J (.lst [])) U (.lst [.ref B,.ref I,.ref J])=H1 at h3 sm bg ⊢;have l3:([[],[],[]]:List (List PV)).length=[B,I,J].length:=rfl;generalize ([[],[],[]]:List (List PV))=L0 at hL bg l3;generalize [B,I,J]=ls at dl nd new h3 bg l3;clear h0 h1 h2 d01 d02 d12 s0 s1 s2 s3 n0 n1 n2 n3;obtain⟨F,hF⟩:∃F:Addr->Prop,F=λc=>c≠U/\c∉ls/\(A c\/H c=none):=⟨_,rfl⟩;rw[←hF]at bg;obtain⟨af,us,rfl,haf,raf⟩:=EB.tup (.inl r0);have lu:us.length=ps.length:=raf.length;refine⟨_,rfl,af,rfl,⟨us,(haf.up sm).sq⟩,?_⟩;refine Qz (K:=C.K) (a:=af) (xs:=us) (λj FV H'=>∃(w n:Nat) (x4:Option V) (M:List (List PV)),FV=[some (.ref af),some (.ref U),some (.int w),some (.int n),x4]/\mU f w n M (ps.drop j)=some L/\D8 H H'/\H' U=some (.lst (ls.map V.ref))/\M.length=ls.length/\∀i a,ls[i]?=some a->∃us,H' a=some (.lst us)/\D7 C F H' us (M.getD i []))
    ⟨0,0,none,L0,rfl,hL,sm,h3,l3,bg⟩ (λj FV H' _ ⟨w,n,x4,M,_,_,sm',_⟩=>(haf.up sm').sq) (λj x FV H2 hx ⟨w,n,x4,M,e,Y,O,NG,lm,g2⟩=>?_) fun FV H2 ⟨w,n,x4,M,e,Y,O,NG,lm,g2⟩=>?_
   ·subst e
    have hj:j<ps.length:=by rw[←lu];exact(al.mp hx).1
    obtain⟨pp,hpp,rp⟩:=raf.get' hx;rw[db hj,show ps[j]=pp by rw[ax hj]at hpp;exact bp hpp]at Y;obtain⟨b,hb,Y⟩:=ae.mp (show((f (ctE w n pp)).bind _)=_ from Y);have nw2:∀{H3:Hp},D8 H2 H3->∀a,H3 a=none->F a:=λs a e=>by
     rw[hF];have e2:=s.free e;refine⟨(λz=>by rw[z,NG]at e2;cases e2),(λz=>?_),.inr (O.free e2)⟩;obtain⟨i,hi⟩:=dQ.mp z;obtain⟨_,z2,_⟩:=g2 i a hi;rw[z2]at e2;cases e2
    have xA:Ex A H F H2:=λa o e=>⟨λz=>⟨O a o e,by rw[hF];exact⟨aF e nl,λy=>(by rw[new a y]at e;cases e),.inl z⟩⟩,λ_=>O a o e⟩;have E2:EV C F H2 [some (.ref af),some (.ref U),some (.int w),some (.int n),some x] (ctE w n pp):=.no (.no (.co (.int _) (.co (.int _) (.co (rp.ex xA) .nil))));unfold Vk;dsimp only[bu,jG,bO,dB,nM,Zk,QE,EC,aU,bF,sJ];refine E2.t hb λH3 s3=>?_;have E3:=E2.ex (.of_same s3);have g3:∀{H':Hp},D8 H2 H'->∀i a,ls[i]?=some a->∃us,H' a=some (.lst us)/\D7 C F H' us (M.getD i []):=λs i a hi=>let ⟨us,z1,z2⟩:=g2 i a hi;⟨us,s _ _ z1,z2.ex (.of_same s)⟩;cases b with
    |true=>
     refine jH (E3.x (nw2 s3) (p:=.int ((w+1:Nat):Int)) (by simp) λv H4 s4 r4=>?_);rw[EB.int (.inl r4)];have QY:=s3.trans s4;exact⟨w+1,n,some x,M,rfl,Y,O.trans QY,QY _ _ NG,lm,g3 QY⟩
    |false=>
     have Y:(if w<M.length/\(M.getD w []).length<1000000 then mU f w (n+1) (M.set w (M.getD w []++[.tup [.int ((n+1:Nat):Int),pp]])) (ps.drop (j+1))else none)=some L:=Y;split at Y
     ·rename_i hw
      refine mJ (E3.x (nw2 s3) (p:=.int ((n+1:Nat):Int)) (by simp) λv H4 s4 r4=>?_);rw[EB.int (.inl r4)];have QY:=s3.trans s4;obtain⟨a,ha⟩:∃a,ls[w]?=some a:=⟨ls[w]'(by omega),ax (by omega)⟩;obtain⟨us4,z1,z2⟩:=g3 QY w a ha;have am:a∈ls:=b9 ha;have hl4:=QY _ _ NG;refine⟨_,rfl,_,rfl,U,_,_,.ref a,rfl,rfl,Fc.of hl4,pX (by rw[cm,ha];rfl),.inl ⟨rfl,us4,Fc.of z1⟩,_,rfl,_,rfl,by show(2:Nat)<=sizeLine;decide,λt ht=>?_⟩;have s5:=aM ht (.tup [.int ((n+1:Nat):Int),x]);have rt:Rep C F (upd H4 t (.tup [.int ((n+1:Nat):Int),x])) (.ref t) (.tup [.int ((n+1:Nat):Int),pp]):=.tup aB (.cons (.int _) (.cons ((rp.ex xA).ex (.of_same (QY.trans s5))) .nil));have z5:=s5 _ _ z1;have Z:=QY.trans s5;generalize upd H4 t (.tup [.int ((n+1:Nat):Int),x])=H5 at Z rt z5 ⊢;have lz:us4.length=(M.getD w []).length:=z2.length;refine⟨a,us4,.ref t,rfl,rfl,z5,cT (by omega),?_⟩;have kp:∀c o,H5 c=some o->c≠a->upd H5 a (.lst (us4++[.ref t])) c=some o:=λc o e d=>by rw[aG d];exact e
      have x5:Ex F H5 F (upd H5 a (.lst (us4++[.ref t]))):=λc o e=>⟨λz=>⟨kp c o e λy=>by rw[hF]at z;exact z.2.1 (y▸am),z⟩,λm=>kp c o e λy=>by rw[y,z5]at e;cases e;cases m⟩;refine⟨w,n+1,some x,_,rfl,Y,λc o e=>kp c o (Z _ _ (O _ _ e)) (λy=>by rw[y,new a am]at e;cases e),kp _ _ (Z _ _ NG) (λy=>dl (y▸am)),by rw[eM];exact lm,λi c hi=>?_⟩;by_cases ei:i=w
      ·subst ei
       rw[ha]at hi;cases hi;refine⟨_,aB,?_⟩;rw[dn,eR hw.1];obtain⟨us',y1,y2⟩:=g3 Z i a ha;rw[z5]at y1;cases y1;exact(y2.ex x5).append (.cons (rt.ex x5) .nil)
      ·obtain⟨us',y1,y2⟩:=g3 Z i c hi
       refine⟨us',kp _ _ y1 λy=>ei ?_,?_⟩
       ·subst y
        exact(List.getElem?_inj (al.mp hi).1 nd).mp (hi.trans ha.symm)
       ·rw[dn,bP (gc ei),←dn]
        exact y2.ex x5
     ·cases Y
   ·subst e
    rw[kT (by rw[lu];exact aI _)]at Y;cases Y;refine⟨_,rfl,q _ H2 O ?_⟩;refine .lst NG (.inr nl) (Ha (by simp[lm]) λi v p hv hp=>?_);rw[cm]at hv hp;obtain⟨a,ha,rfl⟩:=bv.mp hv;obtain⟨l,hl,rfl⟩:=bv.mp hp;obtain⟨us',y1,y2⟩:=g2 i a ha;rw[dn,hl]at y2;exact .lst y1 (.inr (new a (b9 ha))) (y2.ex (bB λc o _ z=>by rw[hF]at z;exact z.2.2))
 ·cases hm
end Lake.MR
namespace Lake.My
open PySem L2 MR
noncomputable def yF:PV:=.ktp [.tup [.str "u",.bl false],.tup [.str "u",.bl true],.tup [.str "-",.bl false],.tup [.str "-",.bl true]]
noncomputable def GA:List PV:=[.tup [.str "u",.bl false],.tup [.str "u",.bl true],.tup [.str "-",.bl false],.tup [.str "-",.bl true]]
noncomputable def jA:PV:=.ktp [.int 0,.int 0,.int 0]
noncomputable def Kj:List (String×Bool):=[("bool",true),("int",false),("NoneType",false),("list",false)]
noncomputable def Ll:List (String×Bool):=[("str",true)]
noncomputable def HG:List (String×Bool):=[("tuple",true)]
def bU:=(GO (tV (b2 P5 (b2 EF (bV 4) (DU 0)) (bR (ak (bC (.str "(")) (ak (bC (.str ")")) aK))))) (aY 3 (b2 eqQ (b2 EF (bV 4) (DU 0)) (bC (.str "(")))) (aN (aY 2 (b2 iR (bV 2) (DU 1))) (GO (tV (b2 eqQ (b2 EF (bV 4) (DU 0)) (bC (.str "row")))) (gC mO 1 (bR (DZ 2 (DZ 3 aK)))) HA)))
def pA:=(aN (aY 1 (e_ aK)) (aN (aY 2 (DU 0)) (aN (aY 3 (bC (.bl false))) (aN (fW (gN 4) (iV (bV 0)) [4] bU) (bj (bV 1))))))
def gf:=bQ 5 1 false pA
def j4:=(bV 0)
def dH:=(tA (tV (b2 eqQ (b2 EF (bV 0) (DU 0)) (bC (.str ")")))) (tV (b2 eqQ (b2 EF (bV 0) (DU 1)) (DU 0))))
def mV:=(bj (b2 Yr (dM [none] (iV (bV 0)) (gN 0) dH j4) (e_ aK)))
def fG:=bQ 1 1 false mV
def qm:=(aN (aY 1 (e_ (ak (bC (.str "a")) (ak (bC (.str "as")) (ak (bC (.str "x")) (ak (bC (.str "iamb")) (ak (bC (.str "long")) (ak (bC (.str "b")) (ak (bC (.str "measured")) (ak (bC (.str "u")) aK)))))))))) (bj (b2 EF (bV 1) (b2 dI (bV 0) (DU 8)))))
def dq:=bQ 2 1 false qm
def uX:=(aN (aY 1 (e_ (ak (bC .Ee) (ak (bC (.str "a")) (ak (bC (.str "b")) (ak (bC (.str "c")) (ak (bC (.str "A")) (ak (bC (.str "B")) (ak (bC (.str "a")) (ak (bC (.str "z")) aK)))))))))) (bj (b2 EF (bV 1) (b2 dI (bV 0) (DU 8)))))
def fM:=bQ 2 1 false uX
def mW:=(b2 EF (bV 0) (DU 0))
def jB:=(bV 0)
def jC:=(tN (tV (b2 EF (bV 0) (DU 1))))
def lJ:=(aN (aY 2 (dM [none] (iV (bV 0)) (gN 0) dX mW)) (aN (aY 3 (b2 jd (bV 1) (DU 9))) (aN (aY 4 (uO (b2 P5 (bC (.str "(")) (bV 2)) (b2 lD (bC (.str ")")) (bV 2)))) (aN (aY 5 (b2 dI (bV 3) (DU 4))) (aN (GO (tA (tV (b2 eqQ (b2 dI (bV 1) (DU 9)) (DU 7))) (tV (b2 lD (bC (.str "(")) (bV 2)))) (bj (bR (ak (bC (.str "(")) aK))) HA) (aN (GO (tA (tV (b2 eqQ (b2 dI (bV 1) (DU 9)) (DU 8))) (tA (tV (bV 4)) (tV (b2 Yr (b2 EF (bV 2) (b1 zm (DU 1))) (bC (.str "(")))))) (bj (bR (ak (bC (.str ")")) (DZ 5 (ak (b2 iR (b2 OX (DU 1) (bV 5)) (b2 dI (b2 jd (bV 3) (DU 4)) (b2 YL (DU 5) (b2 OX (DU 1) (bV 5))))) aK))))) HA) (aN (aY 6 (aW gf (DZ 0 aK))) (aN (GO (tA (tN (tV (bV 4))) (tV (aW fG (DZ 0 aK)))) (aY 6 (dM [none] (iV (bV 6)) (gN 0) jC jB)) HA) (aN (GO (tA (tV (b2 P5 (b2 dI (bV 1) (DU 9)) (bR (ak (DU 5) (ak (DU 6) aK))))) (tV (b2 Yr (bV 6) (e_ aK)))) (bj (bR (ak (bC (.str "as")) (ak (b2 EF (b2 EF (bV 6) (b2 dI (bV 3) (b1 FK (bV 6)))) (DU 0)) aK)))) HA) (bj (bR (ak (bC (.str "row")) (ak (aW dq (DZ 3 aK)) (ak (aW fM (ak (b2 jd (bV 3) (DU 8)) aK)) aK))))))))))))))
def gK:=bQ 7 2 false lJ
def gM:=(gC mO 1 (yh gK (ak (bL (bV 1)) (DZ 2 aK))))
def mX:=(b2 EF (bV 0) (DU 0))
def lK:=(aN (aY 1 (e_ aK)) (aN (fW (gN 2) (iV (bV 0)) [2] gM) (aN (aY 3 (dM [none] (iV (bV 1)) (gN 0) dX mX)) (aN (GO (tO (tV (b2 eqQ (bV 3) (e_ aK))) (tV (b2 eqQ (b2 EF (bV 3) (b1 zm (DU 1))) (bC (.str "("))))) (gC mO 1 (bR (ak (bC (.str "row")) (ak (bC (.str "x")) (ak (bC (.str "a")) aK))))) HA) (aN (GO (tA (tV (b2 P5 (bC (.str "(")) (bV 3))) (tV (b2 lD (bC (.str ")")) (bV 3)))) (gC mO 1 (bR (ak (bC (.str ")")) (ak (DU 1) (ak (DU 2) aK))))) HA) (bj (b1 qg (bV 1))))))))
def jg:=bQ 4 1 false lK
def cB:=(aN (aY 4 (b2 dI (bV 3) (b1 FK (bV 2)))) (aN (aY 5 (b2 EF (bV 2) (bV 4))) (aN (aY 6 (b2 jd (bV 3) (b1 FK (bV 2)))) (aN (GO (tA (tV (b2 eqQ (b2 EF (bV 5) (DU 0)) (bC (.str "row")))) (tV (b2 eqQ (b2 dI (bV 6) (DU 4)) (DU 0)))) (lB qe 2 (bV 4) (bR (ak (bC (.str "row")) (ak (b2 EF (bV 5) (DU 1)) (ak (bC .Ee) aK))))) HA) (aN (GO (tA (tV (b2 eqQ (b2 EF (bV 5) (DU 0)) (bC (.str "row")))) (tV (b2 eqQ (b2 dI (bV 6) (DU 4)) (DU 1)))) (lB qe 2 (bV 4) (bR (ak (bC (.str "row")) (ak (aW dq (ak (b2 jd (bV 6) (DU 4)) aK)) (ak (b2 EF (bV 5) (DU 2)) aK))))) HA) (aN (GO (tA (tV (b2 eqQ (b2 EF (bV 5) (DU 0)) (bC (.str "row")))) (tV (b2 eqQ (b2 dI (bV 6) (DU 4)) (DU 2)))) (lB qe 2 (bV 4) (bR (ak (bC (.str "row")) (ak (b2 EF (bV 5) (DU 1)) (ak (aW fM (ak (b2 jd (bV 6) (DU 4)) aK)) aK))))) HA) (aN (GO (tA (tV (b2 eqQ (b2 EF (bV 5) (DU 0)) (bC (.str "as")))) (tV (b2 eqQ (b2 dI (bV 6) (DU 2)) (DU 0)))) (lB qe 2 (bV 4) (bR (ak (bC (.str "row")) (ak (aW dq (ak (b2 jd (bV 6) (DU 2)) aK)) (ak (aW fM (ak (b2 jd (bV 6) (DU 16)) aK)) aK))))) HA) (GO (tA (tV (b2 eqQ (b2 EF (bV 5) (DU 0)) (bC (.str ")")))) (tV (b2 (qd λi j=>decide (j<i)) (b2 dI (bV 6) (DU 4)) (DU 0)))) (lB qe 2 (bV 4) (bR (ak (bC (.str ")")) (ak (b2 EF (bV 5) (DU 1)) (ak (b2 OX (b2 EF (bV 5) (DU 2)) (b2 iR (DU 1) (b2 dI (b2 jd (bV 6) (DU 4)) (DU 4)))) aK))))) HA))))))))
def h_:=(bV 0)
def cD:=(aN (GO (tA (tV (b2 eqQ (b2 EF (bV 5) (DU 0)) (bC (.str "as")))) (tV (b2 lD (b2 EF (bV 5) (DU 1)) (bV 7)))) (aY 5 (bR (ak (bC (.str "row")) (ak (bC (.str "x")) (ak (bC .Ee) aK))))) HA) (gC mO 8 (bV 5)))
def oU:=(aN (aY 2 (b1 Ip (bV 0))) (aN (fW (gN 3) (iV (bV 1)) [3,4,5,6] cB) (aN (aY 7 (dM [none,none] (iV (aW gf (DZ 2 aK))) (gT [0,1]) dX h_)) (aN (aY 8 (e_ aK)) (aN (fW (gN 5) (iV (bV 2)) [5] cD) (bj (b1 qg (bV 8))))))))
def gn:=bQ 9 2 false oU
def v9:=(bj (b2 dI (b2 iR (b2 wI (b2 dI (bV 0) (DU 1000003)) (b2 iR (DU 48271) (b2 wI (b2 wI (DU 15838) (bV 1)) (bV 1)))) (b2 wI (DU 69621) (bV 1))) (DU 2147483647)))
def iJ:=bQ 2 2 false v9
def b_:=(b2 EF (bC (.str "u-x")) (b2 dI (b2 jd (bV 1) (b2 EF (e_ (ak (DU 4) (ak (DU 12) (ak (DU 36) (ak (DU 108) aK))))) (bV 0))) (DU 3)))
def qT:=(bj (b2 yg (bC (.str "")) (dM [none,some 0] (YQ (b2 iR (DU 1) (b2 dI (b2 dI (bV 0) (DU 4)) (DU 3)))) (gN 0) dX b_)))
def gq:=bQ 1 1 false qT
def gO:=(aN (aY 3 (aW gq (ak (aW iJ (ak (b2 jd (bV 0) (DU 3)) (DZ 2 aK))) aK))) (GO (tV (b2 lD (bV 3) (bV 1))) (gC mO 1 (bV 3)) HA))
def uY:=(aN (aY 1 (e_ aK)) (aN (fW (gN 2) (YQ (b2 iR (DU 1) (b2 dI (bV 0) (DU 3)))) [2,3] gO) (bj (bR (ak (b1 qg (bV 1)) (ak (b2 eqQ (b2 dI (b2 jd (bV 0) (DU 3)) (DU 5)) (DU 4)) aK))))))
def lL:=bQ 4 1 false uY
def lM:=(aW lL (ak (aW iJ (ak (b2 jd (bV 1) (bV 2)) (DZ 0 aK))) aK))
def uy:=(bj (b1 qg (dM [none,some 0,some 1] (YQ (b2 iR (DU 1) (b2 dI (bV 0) (bV 1)))) (gN 0) dX lM)))
def jQ:=bQ 2 2 false uy
def ie:=(aN (aY 3 (aW iJ (DZ 0 (DZ 2 aK)))) (lB qe 1 (aW dq (DZ 2 aK)) (aW jQ (ak (b2 EF (e_ (ak (DU 5) (ak (DU 8) (ak (DU 5) (DZ 3 aK))))) (b2 dI (b2 jd (bV 3) (DU 8)) (DU 4))) (ak (DU 2) aK)))))
def sE:=(aN (aY 1 (bC (.dK []))) (aN (fW (gN 2) (YQ (DU 8)) [2,3] ie) (bj (bV 1))))
def jD:=bQ 4 1 false sE
def jE:=(bV 0)
def gP:=(tV (b2 eqQ (b2 EF (bV 0) (DU 0)) (bC (.str ")"))))
def uZ:=(aN (aY 1 (dM [none] (iV (bV 0)) (gN 0) gP jE)) (bj (Yf (tV (b2 (qd λi j=>decide (j<i)) (b1 FK (bV 1)) (DU 0))) (b2 EF (bV 1) (DU 0)) (bC .Ee))))
def gQ:=bQ 2 1 false uZ
def v_:=(aN (aY 1 (aW gQ (DZ 0 aK))) (bj (Yf (tV (b2 OH (bV 1) (bC .Ee))) (e_ (ak (DU 1) aK)) (b2 Dp (b2 EF (bV 1) (DU 1)) (b2 iR (b2 EF (bV 1) (DU 2)) (DU 1))))))
def eN:=bQ 2 1 false v_
noncomputable def lN:MR.Env->Option Bool:=(tO (tV (b2 eqQ (b2 EF (bV 4) (DU 0)) (bC (.str "(")))) (tV (b2 eqQ (b2 EF (bV 4) (DU 0)) (bC (.str ")")))))
def jN:=zM lN
def nR:=(bR (DZ 0 (DZ 1 (ak (DU 0) aK))))
def nT:=(bR (DZ 0 (DZ 1 (DZ 2 aK))))
def nU:=(gC Dm 3 (dM [none,none,some 4] (iV (b2 EF (bV 2) (DU 1))) (gT [0,1]) dX nT))
def nW:=(bR (DZ 0 (DZ 1 (ak (DU 0) aK))))
def qU:=(aN (aY 2 (aW jN (DZ 0 aK))) (aN (aY 3 (dM [none,none] (iV (b2 EF (bV 2) (DU 0))) (gT [0,1]) dX nR)) (aN (fW (gN 4) (iR2 (DU 1) (b2 iR (bV 1) (DU 1))) [4] nU) (bj (b2 Ii (bV 3) (dM [none,none] (iV (b2 EF (bV 2) (DU 2))) (gT [0,1]) dX nW))))))
def oV:=bQ 5 2 false qU
def u5:=(bj (uO (b2 eqQ (b1 FK (bV 0)) (DU 1)) (b2 inS (bV 0) (bC (.str "abcdefghijklmnopqrstuvwxyz")))))
def jh:=bQ 1 1 false u5
def yG:=(aN (GO (tV (b2 OH (bV 0) (bC .Ee))) (bj (bC .Ee)) HA) (bj (bR (DZ 0 (ak (Yf (tV (aW jh (DZ 0 aK))) (bV 1) (DU 0)) aK)))))
def lO:=bQ 2 2 false yG
def bW:=(GO (tV (b2 eqQ (b2 EF (bV 5) (DU 0)) (bC (.str "row")))) (aN (lB qe 3 (bV 4) (b1 FK (bV 2))) (gC mO 2 (bR (ak (b2 EF (bV 5) (DU 1)) (ak (aW lO (ak (b2 EF (bV 5) (DU 2)) (DZ 6 aK))) (ak (bC .Ee) aK)))))) (aN (aY 7 (b2 EF (bV 3) (b2 EF (bV 5) (DU 1)))) (gC mO 2 (bR (ak (b2 EF (b2 EF (bV 2) (bV 7)) (DU 0)) (ak (bC .Ee) (DZ 7 aK)))))))
def jR:=(aN (aY 2 (e_ aK)) (aN (aY 3 (bC (.dK []))) (aN (fW (gT [4,5,6]) (iV (aW oV (DZ 0 (DZ 1 aK)))) [4,5,6,7] bW) (bj (bV 2)))))
def bI:=bQ 8 2 false jR
def dY:=(lB qe 3 (bV 6) (b2 Nq (mL 12 "most" (bV 0)) (b2 iR (b3 ym (bV 3) (bV 6) (DU 0)) (bV 5))))
def dZ:=(fW (gN 6) (iV (b3 ym (mL 12 "ahead" (bV 0)) (bR (DZ 4 (DZ 2 aK))) (e_ aK))) [6] dY)
def kW:=(aN (aY 3 (bC (.dT []))) (aN (fW (gT [4,5]) (iV (b2 EF (mL 12 "places" (bV 0)) (bV 1))) [4,5,6] dZ) (bj (b1 qg (b1 Dv (bV 3))))))
def aO:=bQ 7 3 false kW
def lQ:=(bj (b3 ym (b1 dctP (b2 EF (mL 12 "places" (bV 0)) (bV 1))) (mL 12 "end" (bV 0)) (DU 0)))
def bY:=bQ 2 2 false lQ
def ig:=(bj (uO (b2 (qd λi j=>decide (j<i)) (vJ 12 "ways_to_end" bY (b2 EF (bV 0) (DU 0)) (ak (b2 EF (bV 1) (DU 0)) aK)) (DU 0)) (b2 eqQ (vJ 12 "ways_to_end" bY (b2 EF (bV 0) (DU 1)) (ak (b2 EF (bV 1) (DU 1)) aK)) (DU 0))))
def a_:=bQ 2 2 false ig
def qp:=(bj (b2 eqQ (b1 FK (b2 EF (mL 12 "places" (bV 0)) (bV 1))) (DU 0)))
def bG:=bQ 2 2 false qp
def nY:=(aN (gC mO 2 (b2 EF (b2 EF (bV 0) (bV 3)) (DU 1))) (aY 3 (b2 EF (b2 EF (bV 0) (bV 3)) (DU 0))))
def iK:=(tV (b2 dg (b2 EF (bV 0) (bV 3)) (bC .Ee)))
def A_:=(aN (aY 2 (e_ aK)) (aN (aY 3 (bV 1)) (aN (Di 1000000 iK [] nY) (bj (b1 By (bV 2))))))
def dR:=bQ 4 2 false A_
def qt:=(bj (b2 tY (yw (bV 0) oN (oS (b1 zm (DU 1)))) (bR (ak (bR (ak (b2 EF (b2 EF (bV 0) (b1 zm (DU 1))) (DU 0)) (ak (bC (.bl true)) aK))) aK))))
def cF:=bQ 1 1 false qt
def mY:=(bR (DZ 1 (DZ 2 (DZ 0 aK))))
def gR:=(gC Dm 1 (dM [none,some 2,some 4] (iR2 (DU 1) (b1 FK (bV 5))) (gN 0) dX mY))
def mZ:=(aN (gC mO 1 (bR (DZ 2 (ak (DU 0) (ak (DU 0) aK))))) (fW (gT [4,5]) (iE2 (b2 EF (bV 3) (DU 0))) [4,5] gR))
def u9:=(aN (aY 1 (e_ aK)) (aN (fW (gT [2,3]) (iE2 (bV 0)) [2,3,4,5] mZ) (bj (bV 1))))
def lR:=bQ 6 1 false u9
def qu:=(bj (bR (ak (b1 FK (bV 0)) (ak (DU 0) (ak (DU 0) aK)))))
def cJ:=bQ 1 1 false qu
def iZ:=(aN (aY 3 (b2 EF (bV 1) (DU 0))) (aN (aY 4 (b2 iR (b2 EF (bV 1) (DU 2)) (DU 1))) (aN (GO (tV (b2 (qd λi j=>decide (i<j)) (bV 4) (b1 FK (b2 EF (b2 EF (b2 EF (bV 0) (bV 3)) (DU 0)) (b2 EF (bV 1) (DU 1)))))) (bj (bR (DZ 3 (ak (b2 EF (bV 1) (DU 1)) (DZ 4 aK))))) HA) (aN (GO (tA (tV (b2 EF (b2 EF (bV 0) (bV 3)) (DU 1))) (tN (tV (bV 2)))) (bj (bC .Ee)) HA) (bj (bR (ak (b2 iR (bV 3) (DU 1)) (ak (DU 0) (ak (DU 0) aK)))))))))
def dN:=bQ 5 3 false iZ
def uz:=(bj (bOr (b2 eqQ (bV 0) (bV 1)) (b2 eqQ (bV 0) (bC (.str "x")))))
def jT:=bQ 2 2 false uz
def fj:=(aN (aY 10 (aW dN (DZ 0 (ak (bR (DZ 4 (DZ 9 (DZ 5 aK)))) (DZ 3 aK))))) (GO (tA (tV (b2 dg (bV 10) (bC .Ee))) (tV (aW jT (ak (b2 EF (b2 EF (bV 6) (bV 9)) (bV 5)) (DZ 2 aK))))) (gC mO 8 (bR (DZ 9 (DZ 10 aK)))) HA))
def nZ:=(aN (GO (tV (b2 eqQ (bV 1) (aW cJ (DZ 0 aK)))) (bj (e_ aK)) HA) (aN (aY 4 (b2 EF (bV 1) (DU 0))) (aN (aY 5 (b2 EF (bV 1) (DU 2))) (aN (aY 6 (b2 EF (b2 EF (bV 0) (bV 4)) (DU 0))) (aN (aY 7 (Yf (tV (b2 eqQ (bV 5) (DU 0))) (b1 Bx (b1 FK (bV 6))) (e_ (ak (b2 EF (bV 1) (DU 1)) aK)))) (aN (aY 8 (e_ aK)) (aN (fW (gN 9) (iV (bV 7)) [9,10] fj) (bj (bV 8)))))))))
def iM:=bQ 11 4 false nZ
def lU:=(bj (bR (ak (b2 EF (bV 1) (DU 0)) (ak (Yf (tV (b2 (qd λi j=>decide (j<i)) (b2 EF (bV 1) (DU 2)) (DU 0))) (Z6 (b2 EF (b2 EF (b2 EF (bV 0) (b2 EF (bV 1) (DU 0))) (DU 0)) (b2 EF (bV 1) (DU 1))) (oS (b2 EF (bV 1) (DU 2))) oN) (bC (.str ""))) aK))))
def cG:=bQ 2 2 false lU
def j5:=(aW cG (DZ 2 (DZ 1 aK)))
def ik:=(aN (aY 4 (aW iM (DZ 0 (DZ 2 (ak (b2 EF (bV 3) (DU 0)) (ak (b2 EF (bV 3) (DU 1)) aK)))))) (lB qe 1 (bR (ak (aW cG (DZ 0 (DZ 2 aK))) (DZ 3 aK))) (dM [none,none,some 0] (iV (bV 4)) (gT [0,1]) dX j5)))
def j6:=(fW (gN 3) (iV (bC yF)) [3,4] ik)
def sG:=(aN (aY 1 (bC (.dT []))) (aN (fW (gN 2) (iV (aW lR (DZ 0 aK))) [2,3,4] j6) (bj (bV 1))))
def bM:=bQ 5 1 true sG
def bc:=Ot 12 cF bM cG cJ aO bG a_ dR GA jA
def u_:=(aN (GO (tV (b2 OH (b2 EF (b2 EF (bV 0) (bV 1)) (DU 2)) (bC .Ee))) (bj (bV 1)) HA) (bj (b2 EF (b2 EF (bV 0) (bV 1)) (DU 2))))
def eV:=bQ 2 2 false u_
def qw:=(aN (aY 3 (aW eV (DZ 0 (DZ 1 aK)))) (aN (aY 4 (aW eV (DZ 0 (DZ 2 aK)))) (bj (bOr (b2 eqQ (bV 3) (bV 4)) (uO (b2 dg (b2 EF (b2 EF (bV 0) (bV 3)) (DU 1)) (bC .Ee)) (b2 eqQ (b2 EF (b2 EF (bV 0) (bV 3)) (DU 1)) (b2 EF (b2 EF (bV 0) (bV 4)) (DU 1))))))))
def iu:=bQ 5 3 false qw
def dO:=(GO (tA (tV (b2 dg (b2 EF (b2 EF (bV 1) (bV 3)) (DU 1)) (bC .Ee))) (tA (tV (b2 eqQ (b2 EF (b2 EF (bV 1) (bV 5)) (DU 1)) (b2 EF (b2 EF (bV 1) (bV 3)) (DU 1)))) (tN (tV (aW iu (DZ 0 (DZ 3 (DZ 5 aK)))))))) (bj (bR (ak (bC (.str "rhyme")) (ak (b1 FK (bV 0)) (DZ 3 (DZ 5 aK)))))) HA)
def lV:=(aN (aY 4 (aW bc (ak (b2 EF (bV 2) (b2 EF (b2 EF (bV 0) (bV 3)) (DU 0))) (ak (b2 EF (bV 2) (b2 EF (b2 EF (bV 1) (bV 3)) (DU 0))) aK)))) (aN (GO (tV (b2 dg (bV 4) (bC .Ee))) (bj (bR (ak (bC (.str "metre")) (ak (b1 FK (bV 0)) (DZ 3 (DZ 4 aK)))))) HA) (aN (fW (gN 5) (YQ (bV 3)) [5] dO) (aN (aY 6 (b2 EF (b2 EF (bV 1) (bV 3)) (DU 2))) (aN (GO (tA (tV (b2 dg (bV 6) (bC .Ee))) (tV (b2 Yr (aW eV (DZ 0 (DZ 3 aK))) (aW eV (DZ 0 (DZ 6 aK)))))) (bj (bR (ak (bC (.str "again")) (ak (b1 FK (bV 0)) (DZ 3 (DZ 6 aK)))))) HA) (bj (bC .Ee)))))))
def i_:=bQ 7 4 false lV
def pB:=(aW bI (DZ 1 (DZ 0 aK)))
def pC:=(bV 0)
def pD:=(tV (b2 eqQ (b1 FK (bV 0)) (b1 FK (bV 1))))
def iC:=(aN (aY 7 (aW i_ (DZ 4 (ak (b2 EF (bV 5) (DU 0)) (DZ 2 (DZ 6 aK)))))) (GO (tV (b2 dg (bV 7) (bC .Ee))) (bj (bV 7)) HA))
def gh:=(aN (aY 4 (aW bI (DZ 0 (DZ 3 aK)))) (aN (aY 5 (dM [none,some 1] (iV (aW eN (DZ 1 aK))) (gN 0) dX pB)) (aN (aY 5 (dM [none,some 4] (iV (bV 5)) (gN 0) pD pC)) (aN (GO (tV (b2 eqQ (bV 5) (e_ aK))) (bj (bR (ak (bC (.str "rows")) (ak (b1 FK (bV 4)) aK)))) HA) (fW (gN 6) (YQ (b1 FK (bV 4))) [6,7] iC)))))
def wg:=(aN (fW (gN 3) (iV (aW eN (DZ 0 aK))) [3,4,5,6,7] gh) (bj (bC .Ee)))
def n6:=bQ 8 3 false wg
def cN:=(GO (tA (tV (b2 eqQ (b2 EF (bV 2) (DU 0)) (bC (.str "row")))) (tV (b2 yE (b2 EF (bV 2) (DU 1)) (bV 0)))) sNo HA)
def pJ:=(fW (gN 2) (iV (bV 1)) [2] cN)
def fB:=bQ 3 2 false pJ
def eX:=(aN (aY 3 (aW bI (DZ 0 (DZ 2 aK)))) (GO (tV (b2 eqQ (b1 FK (bV 3)) (bV 1))) (bj (bV 3)) HA))
def qx:=(aN (fW (gN 2) (iV (aW eN (DZ 0 aK))) [2,3] eX) (bj (bC .Ee)))
def eE:=bQ 4 2 false qx
def ji:=(bV 0)
def jk:=(tV (b2 eqQ (b2 EF (b2 EF (bV 2) (bV 0)) (DU 1)) (bV 1)))
def j7:=(aN (aY 2 (b2 EF (b2 EF (bV 0) (bV 1)) (DU 1))) (bj (Yf (tV (b2 OH (bV 2) (bC .Ee))) (e_ aK) (dM [none,some 2,some 0] (YQ (bV 1)) (gN 0) jk ji))))
def fO:=bQ 3 2 false j7
def wj:=(aN (aY 2 (b2 EF (b2 EF (bV 0) (bV 1)) (DU 2))) (bj (Yf (tV (b2 OH (bV 2) (bC .Ee))) (bV 1) (bV 2))))
def gw:=bQ 3 2 false wj
def wu:=(bj (b2 eqQ (aW gw (DZ 0 (DZ 1 aK))) (aW gw (DZ 0 (DZ 2 aK)))))
def iQ:=bQ 3 3 false wu
def vf:=(aN (aY 3 (b2 EF (b2 EF (bV 0) (aW gw (DZ 0 (DZ 1 aK)))) (DU 1))) (bj (bOr (aW iQ (DZ 0 (DZ 1 (DZ 2 aK)))) (uO (b2 dg (bV 3) (bC .Ee)) (b2 eqQ (bV 3) (b2 EF (b2 EF (bV 0) (aW gw (DZ 0 (DZ 2 aK)))) (DU 1)))))))
def jm:=bQ 4 3 false vf
noncomputable def n_:MR.Env->Option Out:=(aN (GO (tV (b2 dg (bV 7) (bC .Ee))) (bj (bR (ak (bC (.str "metre")) (DZ 5 (DZ 4 (DZ 7 aK)))))) HA) (aN (aY 8 (dM [none,some 2,some 4] (iV (aW fO (DZ 3 (DZ 4 aK)))) (gN 0) (tN (tV (aW jm (DZ 1 (DZ 2 (DZ 0 aK)))))) (bV 0))) (aN (GO (tV (b2 (qd λi j=>decide (j<i)) (b1 FK (bV 8)) (DU 0))) (bj (bR (ak (bC (.str "rhyme")) (DZ 5 (DZ 4 (ak (b2 EF (bV 8) (DU 0)) aK)))))) HA) (aN (GO (tA (tV (b2 dg (bV 6) (bC .Ee))) (tN (tV (aW iQ (DZ 2 (DZ 4 (DZ 6 aK))))))) (bj (bR (ak (bC (.str "again")) (DZ 5 (DZ 4 (DZ 6 aK)))))) HA) (bj (bC .Ee))))))
def eQ:=miF (fbF bc (b1 FK (bV 2)) (b2 EF (b2 EF (bV 3) (bV 4)) (DU 2)) (b2 EF (b2 EF (bV 2) (bV 4)) (DU 0)) (b2 EF (b2 EF (bV 3) (bV 4)) (DU 0)) n_)
def eG:=Jq fB eN bI eE eQ
def lW:=(aN (GO (tV (b2 (qd λi j=>decide (i<j)) (bV 1) (b1 FK (bV 0)))) (bj (b2 EF (bV 0) (bV 1))) HA) (bj (DU 0)))
def cY:=bQ 2 2 false lW
def wU:=(bV 0)
def wV:=(tV (b1 (yr Kj) (bV 0)))
def Ed:=(aN (aY 1 (aW jg (ak (Z6 (bV 0) (oS (DU 4)) (oS (DU 10))) aK))) (aN (aY 2 (aW gn (DZ 1 (ak (Z6 (bV 0) (oS (DU 10)) (oS (DU 13))) aK)))) (aN (GO (tV (b2 eqQ (b2 dI (aW cY (DZ 0 (ak (DU 1) aK))) (DU 4)) (DU 0))) (aY 2 (aW jg (ak (Z6 (bV 0) (oS (DU 13)) (oS (DU 19))) aK))) HA) (aN (aY 3 (aW jD (ak (aW cY (DZ 0 (ak (DU 0) aK))) aK))) (aN (aY 4 (aW n6 (DZ 1 (DZ 2 (DZ 3 aK))))) (aN (aY 5 (aW eG (DZ 1 (DZ 2 (DZ 3 aK))))) (aN (GO (tV (b2 OH (bV 4) (bC .Ee))) (GO (tV (b2 dg (bV 5) (bC .Ee))) (bj (bC (.bl false))) HA) (GO (tO (tN (tV (b1 (yr HG) (bV 5)))) (tO (tN (tV (b1 (yr Ll) (b2 EF (bV 5) (DU 0))))) (tV (b2 Yr (bV 5) (bV 4))))) (bj (bC (.bl false))) HA)) (aN (GO (tA (tV (b2 dg (bV 5) (bC .Ee))) (tV (b2 Yr (dM [none] (iV (yw (bV 5) (oS (DU 1)) oN)) (gN 0) wV wU) (e_ aK)))) (bj (bC (.bl false))) HA) (aN (GO (tO (tV (b2 dg (aW eG (DZ 1 (DZ 1 (DZ 3 aK)))) (bC .Ee))) (tV (b2 dg (aW eG (DZ 2 (DZ 2 (DZ 3 aK)))) (bC .Ee)))) (bj (bC (.bl false))) HA) (bj (b2 eqQ (aW eG (DZ 1 (DZ 2 (DZ 3 aK)))) (bV 4))))))))))))
def yH:=bQ 6 1 false Ed
theorem gA{F3 S:Type}{g:PV->MR.Env->Option MR.Env}{ds:qV}{body:MR.Env->Option Out}(c:F3->PV)(E:S->MR.Env)(I:List F3->S->Prop)(j:∀y ys s,I (y::ys) s->∃s',I ys s'/\turn g ds body (c y) (E s)=some (E s')):∀(ys:List F3) (s:S),I ys s->
  ∃s',I [] s'/\cP g ds body (ys.map c) (E s)=some (.nx (E s'))
 |[],s,i=>⟨s,i,rfl⟩
 |y::ys,s,i=>by
  obtain⟨J,i1,h1⟩:=j y ys s i;obtain⟨B,i2,h2⟩:=gA c E I j ys J i1;exact⟨B,i2,by rw[be,dw h1,h2]⟩
def zN{k:Nat}(h:k<1000):YM (k:Int)=true:=xY (by omega) (by omega)
def Ef{F3:Type}[DecidableEq F3]{c:F3->PV}(B:∀a,jw (c a)=true)(j:∀a b,YN (c a) (c b)=decide (a=b))(x:F3)(cs:List F3):j0 (c x) (.lst (cs.map c))=some (decide (x∈cs))/\j0 (c x) (.tup (cs.map c))=some (decide (x∈cs)):=by
 have h1:(cs.map c).all jw=true:=by rw[List.all_map,jS];exactλa _=>B a
 have h2:((cs.map c).any λy=>YN y (c x))=decide (x∈cs):=by
  rw[qA,kq,h9,decide_eq_true_iff];exact⟨by rintro⟨y,h,e⟩;rw[←g9 ((j y x).symm.trans e)];exact h,λh=>⟨x,h,(j x x).trans (eP rfl)⟩⟩
 constructor<;>simp only[j0,B x,h1,h2,and_self,fE]
def inS(x:Str)(cs:rj):j0 (.str x) (.lst (cs.map .str))=some (decide (x∈cs))/\j0 (.str x) (.tup (cs.map .str))=some (decide (x∈cs)):=Ef (λ_=>rfl) (λa b=>by by_cases h:a=b<;>simp[YN,h]) x cs
def oX(x:Str)(cs:rj):j0 (.str x) (.lst (cs.map .str))=some (decide (x∈cs)):=(inS x cs).1
structure IU(p:Str):Prop where
 ge:1<=p.length
 le:p.length<=3
structure Nc(ps:rj):Prop where
 ne:ps≠[]
 le:ps.length<=4
 ok:∀p∈ps,IU p
def Jr{i:Int}(j:0<=i)(h1:i<3):∃c,Fn (("u-x" : Str).cps.toList) i=some c:=by
 obtain⟨k,rfl⟩:∃k:Nat,i=k:=⟨i.toNat,by omega⟩;rw[show("u-x" : Str).cps.toList=[117,45,120] by decide +kernel];rcases(show k=0\/k=1\/k=2 by omega)with rfl|rfl|rfl<;>exact⟨_,rfl⟩
def Vn:("u-x" : Str).length<=1000000:=by decide +kernel
noncomputable def q9(c k:Int):Int:=(c%1000003*(48271+15838*k*k)+69621*k)%2147483647
def Eg(c k:Int)(h:YM k=true):iJ [.int c,.int k]=some (.int (q9 c k)):=by
 have h1:YM (c%1000003)=true:=xY (by omega) (by omega);have h2:YM 69621=true:=xY (by decide) (by decide);have j:YM 15838=true:=xY (by decide) (by decide);simp[iJ,v9,h,h1,h2,j,q9]
def wW(n:Int){k:Nat}(B:k<3):∃c,b_ [some (.int k),some (.int n)]=some (.str ⟨#[c]⟩):=by
 have j:=Vn;rcases(show k=0\/k=1\/k=2 by omega)with rfl|rfl|rfl
 ·exact(Jr (i:=n / 4%3) (by omega) (by omega)).imp λc h=>by simp[b_,h,j]
 ·exact(Jr (i:=n / 12%3) (by omega) (by omega)).imp λc h=>by simp[b_,h,j]
 ·exact(Jr (i:=n / 36%3) (by omega) (by omega)).imp λc h=>by simp[b_,h,j]
def Js(n:Int):∃x,IU x/\gq [.int n]=some (.str x):=by
 obtain⟨t,M,Z⟩:∃t:Nat,(t=1\/t=2\/t=3)/\1+n%4%3=t:=⟨(1+n%4%3).toNat,by omega,by omega⟩;have O:ML (t:Int)=true:=F9 (by omega) (by omega);obtain⟨a,j⟩:=wW n (k:=0) (by decide);obtain⟨b,B⟩:=wW n (k:=1) (by decide);obtain⟨c,I⟩:=wW n (k:=2) (by decide);have j:b_ [some (.int 0),some (.int n)]=some (.str ⟨#[a]⟩):=j;have B:b_ [some (.int 1),some (.int n)]=some (.str ⟨#[b]⟩):=B;have I:b_ [some (.int 2),some (.int n)]=some (.str ⟨#[c]⟩):=I;have q:∀(x:Str) (xs:rj),IU x->cV [none,some (.int n)] (gN 0) dX b_ (cX 0 (t:Int))=some (xs.map .str)->IT (xs.map .str)=some xs->JoinOk ("" : Str) xs=true->Str.join ("" : Str) xs=x->∃x,IU x/\gq [.int n]=some (.str x):=λx xs o U Y J q4=>by
  have q5:(cX 0 (t:Int)).length<=1000000:=by rw[fc];simp;omega
  exact⟨x,o,by simp[gq,qT,Z,O,U,Y,J,q4,q5]⟩
 rcases M with rfl|rfl|rfl
 ·exact q ⟨#[a]⟩ [⟨#[a]⟩] ⟨by show 1<=1;decide,by show 1<=3;decide⟩ (by rw[show cX 0 ((1:Nat):Int)=[.int 0]from rfl];simp[cV,j]) rfl rfl rfl
 ·exact q ⟨#[a,b]⟩ [⟨#[a]⟩,⟨#[b]⟩] ⟨by show 1<=2;decide,by show 2<=3;decide⟩ (by rw[show cX 0 ((2:Nat):Int)=[.int 0,.int 1]from rfl];simp[cV,j,B]) rfl rfl rfl
 ·exact q ⟨#[a,b,c]⟩ [⟨#[a]⟩,⟨#[b]⟩,⟨#[c]⟩] ⟨by show 1<=3;decide,by show 3<=3;decide⟩ (by rw[show cX 0 ((3:Nat):Int)=[.int 0,.int 1,.int 2]from rfl];simp[cV,j,B,I]) rfl rfl rfl
abbrev Slot:=List Str×Bool
abbrev sg:=List Slot
noncomputable def JJ(s:Slot):PV:=.tup [.tup (s.1.map .str),.bl s.2]
noncomputable def mP(m:sg):PV:=.tup (m.map JJ)
def cL(m:sg):Prop:=∀s∈m,Nc s.1
def Lp{n:Int}{L:rj}(M:L.length<1000){k:Nat}(J:k<4):
  ∃x,IU x/\turn (gN 2) [2,3] gO (.int k) [some (.int n),some (.lst (L.map .str)),none,none]=some [some (.int n),some (.lst ((if x∈L then L else L++[x]).map .str)),none,none]:=by
 have h1:=Eg (n / 3) k (zN (by omega));obtain⟨x,I,h2⟩:=Js (q9 (n / 3) k);have B:=oX x L;have j:L.length<1000000:=by omega
 refine⟨x,I,?_⟩;by_cases hm:x∈L
 ·simp[bA,gO,h1,h2,B,hm,j]
 ·simp[bA,gO,h1,h2,B,hm,j]
set_option tactic.hygienic true in def RG(n:Int):∃s:Slot,Nc s.1/\lL [.int n]=some (JJ s):=by
 obtain⟨t,ht,Y⟩:∃t:Nat,(1<=t/\t<=3)/\1+n%3=t:=⟨(1+n%3).toNat,by omega,by omega⟩;obtain⟨L,⟨i1,I,B,_⟩,h⟩:=gA (g:=gN 2) (ds:=[2,3]) (body:=gO) (λk:Nat=>PV.int (k:Nat)) (λL:List Str=>[some (.int n),some (.lst (L.map .str)),none,none])
  (λr L=>(∀p∈L,IU p)/\L.length+r.length<=t/\(r.length=t\/L≠[])/\∀k∈r,k<4)
  (by
   rintro k r L ⟨i1,I,B,J⟩;simp only[bm]at I B;obtain⟨x,O,h⟩:=Lp (n:=n) (L:=L) (by omega) (J k av);refine⟨_,⟨?_,?_,.inr ?_,λz hz=>J z (ap _ hz)⟩,h⟩
   ·intro p j
    split at j
    ·exact i1 p j
    ·rcases dS.mp j with z|z
     ·exact i1 p z
     ·rw[cv]at z;rw[z];exact O
   ·split
    ·omega
    ·rw[cb,gp];omega
   ·split
    ·rename_i M
     intro e;rw[e]at M;cases M
    ·simp)
  (List.range t) [] ⟨(λp j=>by cases j),by simp,.inl (by simp),(λk U=>by have:=cf.mp U;omega)⟩
 have Z:ML (t:Int)=true:=F9 (by omega) (by omega);rw[←fc]at h;simp only[fe]at h;refine⟨(L,decide (n / 3%5=4)),⟨?_,?_,i1⟩,?_⟩
 ·rcases B with z|z
  ·simp at z;omega
  ·exact z
 ·simp at I;show L.length<=4;omega
 ·simp[lL,uY,Y,Z,h,JJ]
def O4(c:Int):∃m,cL m/\m≠[]/\m.length<=2/\jQ [.int c,.int 2]=some (mP m):=by
 obtain⟨t,ht,Z⟩:∃t:Nat,(1<=t/\t<=2)/\1+c%2=t:=⟨(1+c%2).toNat,by omega,by omega⟩;have hr:ML (t:Int)=true:=F9 (by omega) (by omega);have key:∀ks:List Nat,(∀k∈ks,k<1000)->∃m,cL m/\m.length=ks.length/\cV [none,some (.int c),some (.int 2)] (gN 0) dX lM (ks.map λk=>PV.int (k:Nat))=some (m.map JJ):=by
  intro ks;induction ks with
  |nil=>intro _;exact⟨[],(λs J=>by cases J),rfl,rfl⟩
  |cons k ks ih=>
   intro h;obtain⟨m,h1,h2,B⟩:=ih λj M=>h j (ap _ M);obtain⟨s,g1,g2⟩:=RG (q9 (c / 2) k);have Y:=Eg (c / 2) k (zN (h k av));refine⟨s::m,λx I=>?_,by simp[h2],?_⟩
   ·rcases bi.mp I with rfl|I
    ·exact g1
    ·exact h1 x I
   ·rw[be,cV,B]
    simp[lM,g2,Y]
 obtain⟨m,h1,h2,B⟩:=key (List.range t) (λk U=>by have:=cf.mp U;omega);rw[fq]at h2;rw[←fc]at B;refine⟨m,h1,λe=>by subst e;simp at h2;omega,by omega,?_⟩;have O:(cX 0 (t:Int)).length<=1000000:=by rw[fc];simp;omega
 simp[jQ,uy,Z,hr,B,O,mP]
abbrev RU:=Nat×Nat×Nat
abbrev Rest:=Nat×List Nat
noncomputable def bZ(t:RU):PV:=.tup [.int t.1,.int t.2.1,.int t.2.2]
noncomputable def SD(l:qV):Str:=⟨l.toArray⟩
noncomputable def KA(x:Rest):Int×Str:=((x.1:Int),SD x.2)
noncomputable def JO(x:Rest):PV:=.tup [.int (x.1:Nat),.str (SD x.2)]
def RJ{a b:qV}(h:SD a=SD b):a=b:=by
 have:=gg (λs:Str=>s.cps.toList) h;simpa[SD]using this
def O5(p:Str):p.cps.toList.length=p.length:=f7
inductive P7(m:sg):RU->Rest->Prop
 |fin:P7 m (m.length,0,0) (m.length,[])
 |beg {j:Nat}{s:Slot}:m[j]?=some s->P7 m (j,0,0) (j,[])
 |mid {j k i:Nat}{s:Slot}{p:Str}:m[j]?=some s->s.1[k]?=some p->i+1<p.length->P7 m (j,k,i+1) (j,p.cps.toList.drop (i+1))
noncomputable def rem(L:Nat)(x:Rest):Nat:=if x.2=[]then 3*(L - x.1)else x.2.length+3*(L - x.1 - 1)
def Hb(L j i:Nat){p:Str}(h:i<p.length):rem L (j,p.cps.toList.drop i)=p.length - i+3*(L - j - 1):=by
 have e:(p.cps.toList.drop i).length=p.length - i:=by rw[jv,O5]
 unfold rem;rw[br λz=>by rw[show p.cps.toList.drop i=[]from z]at e;simp at e;omega,e]
def Lq(x mark:Str):∃b,jT [.str x,.str mark]=some (.bl b):=by
 by_cases h:x=mark<;>exact⟨_,by simp[jT,uz,h];rfl⟩
def Eh(a b c d e f:Int):IZ (.tup [.int a,.int b,.int c]) (.tup [.int d,.int e,.int f])=some (decide (a=d/\b=e/\c=f)):=by
 have h1:∀x y z:Int,SeqAt.shaped (.tuple [.int x,.int y,.int z])=true:=λx y z=>by
  simp[SeqAt.shaped,PyData.canLay0,PyData.canLayAll0,PyData.depth,PyData.depthAll]
 simp[IZ,Sl,TR,toD,fU,h1,PyData.eqv,PyData.eqvAll,Bool.decide_and];rfl
variable {m:sg}
def vR{j:Nat}{s:Slot}(h:m[j]?=some s):Fn (m.map JJ) (j:Int)=some (JJ s):=fK (by simp[h])
def Ei{s:Slot}{k:Nat}{p:Str}(h:s.1[k]?=some p):Fn (s.1.map PV.str) (k:Int)=some (.str p):=fK (by simp[h])
def Lr(p:Str)(i:Nat)(h:i<=p.length):qY p (some (i:Int)) none=SD (p.cps.toList.drop i):=by
 unfold qY SD HT.ES;congr 2;simp;rw[br (by omega),Nat.min_eq_left h,List.take_of_length_le];rw[jv,O5];exact aI _
def zO(O:cL m){t:RU}{x:Rest}(st:P7 m t x):cG [mP m,bZ t]=some (JO x):=by
 have e:SD []=("" : Str):=by decide +kernel
 cases st with
 |fin=>simp[cG,lU,mP,bZ,JO,e]
 |beg _=>simp[cG,lU,mP,bZ,JO,e]
 |@mid j k i s p I B hi=>
  have h1:=vR I;have h2:=Ei B;have M:p.length<=1000000:=by have:=((O s (b9 I)).ok p (b9 B)).le;omega
  have J:=Lr p (i+1) (by omega);have U:(0:Int)<(i:Int)+1:=by omega
  simp at J;simp[cG,lU,mP,bZ,h1,JJ,h2,M,J,U,JO]
def Ls{j k i:Nat}{s:Slot}{p:Str}{ends:Bool}(M:m[j]?=some s)(U:s.1[k]?=some p)(ok:IU p)(hi:i<p.length):
  dN [mP m,bZ (j,k,i),.bl ends]=some .Ee\/∃t z,P7 m t z/\rem m.length z+1<=p.length - i+3*(m.length - j - 1)/\dN [mP m,bZ (j,k,i),.bl ends]=some (bZ t):=by
 have h1:=vR M;have h2:=Ei U;have J:p.length<=1000000:=by have:=ok.le;omega
 have O:((i:Int)+1<(p.length:Int))↔i+1<p.length:=by omega
 have Y:=(al.mp M).1;by_cases B:i+1<p.length
 ·exact .inr ⟨_,_,.mid M U B,by rw[Hb _ _ _ B];omega,by simp[dN,iZ,mP,bZ,h1,JJ,h2,J,O,B]⟩
 ·by_cases I:s.2=true/\ends=false
  ·exact .inl (by simp[dN,iZ,mP,bZ,h1,JJ,h2,J,O,B,I.1,I.2])
  ·have hz:P7 m (j+1,0,0) (j+1,[]):=by
    rcases l8 (j+1) m.length with h|h
    ·exact .beg (ax h)
    ·rw[show j+1=m.length by omega];exact .fin
   refine .inr ⟨_,_,hz,by unfold rem;simp;omega,?_⟩;cases q:s.2<;>cases ends<;>first|exact absurd (And.intro q rfl) I|simp[dN,iZ,mP,bZ,h1,JJ,h2,J,O,B,q]
abbrev MvZ:=(Nat×RU)×Rest
noncomputable def mvP(y:MvZ):PV:=.tup [.int (y.1.1:Nat),bZ y.1.2]
def GZ(m:sg)(B:Nat)(y:MvZ):Prop:=P7 m y.1.2 y.2/\rem m.length y.2+1<=B
abbrev mvE(m:sg)(S:PV)(mark:Str)(ends:Bool)(slot i:Nat)(s:Slot)(N:PV)(L:List MvZ):MR.Env:=[some (mP m),some S,some (.str mark),some (.bl ends),some (.int slot),some (.int i),some (.tup (s.1.map .str)),some N,some (.lst (L.map mvP)),none,none]
def RK{j k i B:Nat}{s:Slot}{p mark:Str}{ends:Bool}{S N:PV}{L:List MvZ}(Z:m[j]?=some s)(Y:s.1[k]?=some p)(ok:IU p)(hi:i<p.length)(hB:p.length - i+3*(m.length - j - 1)<=B)(hL:L.length<1000):
  ∃ys:List MvZ,ys.length<=1/\(∀y∈ys,GZ m B y)/\turn (gN 9) [9,10] fj (.int k) (mvE m S mark ends j i s N L)=some (mvE m S mark ends j i s N (L++ys)):=by
 have h2:=Ei Y;have M:p.length<=1000000:=by have:=ok.le;omega
 have U:Fn p.cps.toList (i:Int)=some p.cps.toList[i]:=fK (ax (by rw[O5];exact hi));obtain⟨b,J⟩:=Lq ⟨#[p.cps.toList[i]]⟩ mark;have O:L.length<1000000:=by omega
 rcases Ls (ends:=ends) Z Y ok hi with h1|⟨t,z,h0,hz,h1⟩
 ·refine⟨[],by simp,(λy I=>by cases I),?_⟩
  simp only[bZ]at h1;simp[bA,fj,h1]
 ·cases b with
  |true=>
   refine⟨[((k,t),z)],by simp,(λy I=>by rw[cv.mp I];exact⟨h0,dE hz hB⟩),?_⟩;simp only[bZ]at h1;simp[bA,fj,h1,h2,M,U,J,O,mvP,bZ]
  |false=>
   refine⟨[],by simp,(λy I=>by cases I),?_⟩;simp only[bZ]at h1;simp[bA,fj,h1,h2,M,U,J,O]
def Hc{j i B:Nat}{s:Slot}{mark:Str}{ends:Bool}{S N:PV}(O:m[j]?=some s)(ok:Nc s.1)(ks:qV)(U:ks.length<=4)(J:∀k∈ks,∃p,s.1[k]?=some p/\i<p.length/\p.length - i+3*(m.length - j - 1)<=B):
  ∃ys:List MvZ,ys.length<=4/\(∀y∈ys,GZ m B y)/\cP (gN 9) [9,10] fj (ks.map λk=>PV.int (k:Nat)) (mvE m S mark ends j i s N [])=some (.nx (mvE m S mark ends j i s N ys)):=by
 obtain⟨L,⟨e1,e2,_⟩,h⟩:=gA (g:=gN 9) (ds:=[9,10]) (body:=fj) (λk:Nat=>PV.int (k:Nat)) (mvE m S mark ends j i s N)
  (λr L=>L.length+r.length<=4/\(∀y∈L,GZ m B y)/\∀k∈r,∃p,s.1[k]?=some p/\i<p.length/\p.length - i+3*(m.length - j - 1)<=B)
  (by
   rintro k r L ⟨e1,e2,e3⟩;simp only[bm]at e1;obtain⟨p,M,hi,Y⟩:=e3 k av;obtain⟨ys,y1,Z,y3⟩:=RK (S:=S) (N:=N) (mark:=mark) (ends:=ends) (L:=L) O M (ok.ok p (b9 M)) hi Y (by omega);exact⟨L++ys,⟨by simp;omega,λy I=>(dS.mp I).elim (e2 y) (Z y),λk J=>e3 k (ap _ J)⟩,y3⟩)
  ks [] ⟨by simpa using U,(λy I=>by cases I),J⟩
 exact⟨L,by simpa using e1,e2,h⟩
def O6(hm:cL m){t:RU}{x:Rest}(st:P7 m t x)(mark:Str)(ends:Bool):
  ∃ys:List MvZ,ys.length<=4/\(∀y∈ys,GZ m (rem m.length x) y)/\iM [mP m,bZ t,.str mark,.bl ends]=some (.lst (ys.map mvP)):=by
 have O:cJ [mP m]=some (.tup [.int m.length,.int 0,.int 0]):=by simp[cJ,qu,mP]
 cases st with
 |fin=>
  have I:=Eh m.length 0 0 m.length 0 0;simp at I;exact⟨[],by simp,(λy hy=>by cases hy),by simp[iM,nZ,O,bZ,I]⟩
 |@beg j s J=>
  have ok:=hm s (b9 J);have F4:=(al.mp J).1;have h1:=vR J;obtain⟨ys,Y,Z,M⟩:=Hc (B:=rem m.length (j,[])) (S:=bZ (j,0,0)) (N:=.lst ((List.range s.1.length).map λk=>PV.int (k:Nat))) (mark:=mark) (ends:=ends) (i:=0) J ok (List.range s.1.length) (by have:=ok.le;simpa using this) (λk U=>by
   have YU:=cf.mp U;have o:=ok.ok _ (ia YU);have:=o.ge;have:=o.le;exact⟨s.1[k],ax YU,by omega,by unfold rem;simp;omega⟩)
  refine⟨ys,Y,Z,?_⟩;have I:=Eh j 0 0 m.length 0 0;rw[cK (by omega)]at I;have hr:=fc s.1.length;have hb:0<=(s.1.length:Int)/\(s.1.length:Int)<=1000000:=by have:=ok.le;omega
  simp only[mvE,bZ,mP]at M O ⊢;simp at I M;simp[iM,nZ,O,I,h1,JJ,hr,hb,MR.I0,M]
 |@mid j k i s p J hp hi=>
  have ok:=hm s (b9 J);have F4:=(al.mp J).1;have h1:=vR J;obtain⟨ys,Y,Z,M⟩:=Hc (B:=rem m.length (j,p.cps.toList.drop (i+1))) (S:=bZ (j,k,i+1)) (N:=.lst [.int k]) (mark:=mark) (ends:=ends) (i:=i+1) J ok [k] (by simp) (λk' U=>by
   rw[cv]at U;subst U;exact⟨p,hp,hi,by rw[Hb _ _ _ hi];omega⟩)
  refine⟨ys,Y,Z,?_⟩;have I:=Eh j k (i+1:Nat) m.length 0 0;rw[cK (by omega)]at I;have LN:¬ (i:Int)+1=0:=by omega
  simp only[mvE,bZ,mP]at M O ⊢;simp at M I;simp[iM,nZ,O,I,h1,JJ,MR.I0,M,LN]
def UM(m:sg)(L:List RU):Prop:=∀t∈L,∃x,P7 m t x
def UM.app{L M:List RU}(h:UM m L)(g:UM m M):UM m (L++M):=λt j=>(dS.mp j).elim (h t) (g t)
def O7{M:PV}{j:Nat}{s:Slot}(J:m[j]?=some s){y:Str×Nat}(U:s.1[y.2]?=some y.1)(ok:IU y.1){L:List RU}(hL:L.length<9000):
  ∃N,N.length<=4/\UM m N/\turn (gT [4,5]) [4,5] gR (.tup [.int (y.2:Nat),.str y.1]) [some M,some (.lst (L.map bZ)),some (.int j),some (JJ s),none,none]=some [some M,some (.lst ((L++N).map bZ)),some (.int j),some (JJ s),none,none]:=by
 obtain⟨p,k⟩:=y;have ok:IU p:=ok;have hp:s.1[k]?=some p:=U;have O:=ok.le;have h1:ML ((p.length:Nat):Int)=true:=F9 (by omega) (by omega);have Y:ML 1=true:=F9 (by omega) (by omega);have e:cX 1 (p.length:Int)=(List.range (p.length - 1)).map λi=>PV.int (1+(i:Nat)):=by
  unfold cX;rw[show((p.length:Int) - 1).toNat=p.length - 1 by omega]
 have h2:cV [none,some (.int j),some (.int k)] (gN 0) dX mY (cX 1 (p.length:Int))=some (((List.range (p.length - 1)).map λi=>(j,k,i+1)).map bZ):=by
  rw[e,im];exact jf _ _ _ λi _=>⟨[some (.int (1+(i:Nat))),some (.int j),some (.int k)],rfl,by simp[mY,bZ,Int.add_comm]⟩
 have I:p.length<=1000000:=by omega
 have h4:(cX 1 (p.length:Int)).length<=1000000:=by rw[e,ar,fq];omega
 have B:L.length+(p.length - 1)<=1000000:=by omega
 refine⟨(List.range (p.length - 1)).map λi=>(j,k,i+1),by rw[ar,fq];omega,λt Z=>?_,by simp[bA,gR,Y,h1,h2,I,h4,B,JJ,mQ]⟩;obtain⟨i,hi,rfl⟩:=dv.mp Z;have:=cf.mp hi;exact⟨_,.mid J hp (by omega)⟩
def RL{M:PV}{j:Nat}{s:Slot}(J:m[j]?=some s)(ok:Nc s.1){L:List RU}(Y:L.length<8000):
  ∃N,N.length<=L.length+16/\(UM m L->UM m N)/\cP (gT [4,5]) [4,5] gR (iY 0 (s.1.map .str)) [some M,some (.lst (L.map bZ)),some (.int j),some (JJ s),none,none]=some (.nx [some M,some (.lst (N.map bZ)),some (.int j),some (JJ s),none,none]):=by
 have U:iY 0 (s.1.map .str)=s.1.zipIdx.map λy:Str×Nat=>PV.tup [.int (y.2:Nat),.str y.1]:=uV _ _ _;rw[U];obtain⟨N,⟨e1,e2,_⟩,h⟩:=gA (g:=gT [4,5]) (ds:=[4,5]) (body:=gR) (λy:Str×Nat=>PV.tup [.int (y.2:Nat),.str y.1]) (λL:List RU=>[some M,some (.lst (L.map bZ)),some (.int j),some (JJ s),none,none])
  (λr B=>B.length+4*r.length<=L.length+16/\(UM m L->UM m B)/\∀y∈r,y∈s.1.zipIdx)
  (by
   rintro y r B ⟨e1,e2,e3⟩;have I:=e3 y av;rw[bm]at e1;obtain⟨N,n1,n2,O⟩:=O7 (M:=M) (L:=B) J (by simpa using gy.mp I) (ok.ok _ (i8 I)) (by omega);exact⟨B++N,⟨by simp;omega,λz=>(e2 z).app n2,λz hz=>e3 z (ap _ hz)⟩,O⟩)
  s.1.zipIdx L ⟨by have:=ok.le;simp;omega,id,λ_ h=>h⟩
 exact⟨N,by simpa using e1,e2,h⟩
def Lw(Y:cL m)(hl:m.length<=2):∃L,lR [mP m]=some (.lst (L.map bZ))/\L.length<=51/\UM m L:=by
 have en:iY 0 (m.map JJ)=m.zipIdx.map λy:Slot×Nat=>PV.tup [.int (y.2:Nat),JJ y.1]:=uV _ _ _;obtain⟨L,⟨e1,e2,_⟩,h⟩:=gA (g:=gT [2,3]) (ds:=[2,3,4,5]) (body:=mZ) (λy:Slot×Nat=>PV.tup [.int (y.2:Nat),JJ y.1]) (λL:List RU=>[some (mP m),some (.lst (L.map bZ)),none,none,none,none])
  (λr I=>I.length+17*r.length<=51/\UM m I/\∀y∈r,y∈m.zipIdx)
  (by
   rintro y r I ⟨e1,e2,e3⟩;have B:=e3 y av;have U:m[y.2]?=some y.1:=by simpa using gy.mp B
   rw[bm]at e1;obtain⟨N,n1,n2,J⟩:=RL (M:=mP m) U (Y _ (i8 B)) (L:=I++[(y.2,0,0)]) (by simp;omega);have Z:I.length<1000000:=by omega
   rw[cb,gp]at n1;refine⟨N,⟨by omega,n2 (e2.app λt O=>by rw[cv.mp O];exact⟨_,.beg U⟩),λz hz=>e3 z (ap _ hz)⟩,?_⟩;obtain⟨⟨ps,c⟩,j⟩:=y;rw[de,show[(j,0,0)].map bZ=[.tup [.int j,.int 0,.int 0]]from rfl]at J;simp only[JJ]at J;generalize N.map bZ=R at *;simp[bA,mZ,JJ,Z,J])
  m.zipIdx [] ⟨by simp;omega,(λt O=>by cases O),λ_ h=>h⟩
 refine⟨L,?_,by simpa using e1,e2⟩;simp only[fe]at h;simp[lR,u9,mP]at h ⊢;simp[en,h]
noncomputable def Yt(m:sg):List Rest:=(m.length,[])::m.zipIdx.flatMap λy=>(y.2,[])::y.1.1.flatMap λp=>(List.range 3).map λi=>(y.2,p.cps.toList.drop i)
def P7.Yt{m:sg}(J:cL m){t:RU}{x:Rest}(h:P7 m t x):x∈Yt m:=by
 cases h with
 |fin=>exact av
 |@beg j s B=>exact ap _ (oP.mpr ⟨(s,j),gy.mpr B,av⟩)
 |@mid j k i s p B I hi=>
  have:=((J s (b9 B)).ok p (b9 I)).le;exact ap _ (oP.mpr ⟨(s,j),gy.mpr B,ap _ (oP.mpr ⟨p,b9 I,dv.mpr ⟨i+1,cf.mpr (by omega),rfl⟩⟩)⟩)
theorem wX{F3 HU:Type}{f:F3->List HU}{B:Nat}:∀{l:List F3},(∀x∈l,(f x).length<=B)->(l.flatMap f).length<=B*l.length
 |[],_=>by simp
 |x::l,h=>by
  have h1:=wX λy j=>h y (ap x j);have h2:=h x av;rw[List.flatMap_cons,cb,bm,Nat.mul_succ];omega
def RM(I:cL m)(J:m.length<=2):(Yt m).length<=52:=by
 have:=wX (B:=13) (l:=m.zipIdx) (f:=λy=>(y.2,[])::y.1.1.flatMap λp=>(List.range 3).map λi=>(y.2,p.cps.toList.drop i)) λy j=>by
  have h1:=(I _ (i8 j)).le;have h2:=wX (B:=3) (l:=y.1.1) (f:=λp=>(List.range 3).map λi=>(y.2,p.cps.toList.drop i)) λp _=>by simp
  rw[bm];omega
 rw[List.length_zipIdx]at this;rw[Yt,bm];omega
def Lx(xs ys:sA)(h:xs.length+ys.length<=1000000):tY (.tup xs) (.tup ys)=some (.tup (xs++ys)):=by
 cases xs with
 |nil=>rfl
 |cons x xs=>rw[Jl,bS h]
noncomputable def sdM(k:Nat):Str:=if k<2 then("u" : Str)else("-" : Str)
noncomputable def sdE(k:Nat):Bool:=k%2 == 1
noncomputable def HZ(k:Nat):PV:=.tup [.str (sdM k),.bl (sdE k)]
def sdS:GA=(List.range 4).map HZ:=rfl
def itS:MR.I0 yF=some ((List.range 4).map HZ):=rfl
noncomputable def kk(x:Rest)(k:Nat):List D5:=[D5.tp [.k (.inl (x.1:Int)),.k (.inr (SD x.2))],D5.tp [.k (.inr (sdM k)),.k (.inl (if sdE k=true then 1 else 0))]]
def Hd(x:Rest)(k:Nat):EI [JO x,HZ k]=some (kk x k):=rfl
def Vo{x y:Rest}{k j:Nat}(h:kk x k=kk y j):x=y:=by
 injection h with h1 _;injection D5.LU h1 with a b;injection b with b _;injection a with a;injection a with a;injection b with b;injection b with b;have a:x.1=y.1:=by omega
 exact qE a (RJ b)
section
variable {κ:Type}[DecidableEq κ]
def jn(kvs:List (κ×PV))(k j:κ)(v:PV):aZ (cu kvs k v) j=if j=k then some v else aZ kvs j:=by
 unfold aZ cu;by_cases h:(kvs.any λI=>decide (I.1=k))=true
 ·rw[bS h,List.find?_map]
  have e:((λx:κ×PV=>decide (x.1=j))∘λI=>if I.1=k then(I.1,v)else I)=λx=>decide (x.1=j):=by
   funext x
   have M:(if x.1=k then(x.1,v)else x).1=x.1:=by split<;>rfl
   show decide ((if x.1=k then(x.1,v)else x).1=j)=decide (x.1=j);simp[M]
  rw[e];cases q:kvs.find? λx=>decide (x.1=j)with
  |none=>
   by_cases hk:j=k
   ·subst hk
    obtain⟨x,h1,h2⟩:=h9.mp h;exact absurd h2 (kC.mp q x h1)
   ·rw[br hk];rfl
  |some x=>
   have B:x.1=j:=by simpa using List.find?_some q
   by_cases hk:j=k
   ·rw[bS hk]
    show some (if x.1=k then(x.1,v)else x).2=_;rw[bS (B.trans hk)]
   ·rw[br hk]
    show some (if x.1=k then(x.1,v)else x).2=some x.2;rw[br (λz=>hk (B.symm.trans z))]
 ·rw[br h,List.find?_append]
  have J:∀x∈kvs,¬ x.1=k:=λx B e=>h (h9.mpr ⟨x,B,by simp[e]⟩);by_cases hk:j=k
  ·subst hk
   have:(kvs.find? λx=>decide (x.1=j))=none:=kC.mpr λx B=>by simp[J x B]
   rw[this,bS rfl];simp
  ·rw[br hk]
   have:([(k,v)].find? λx=>decide (x.1=j))=none:=by simp[gc hk]
   rw[this];simp
def m6(kvs:List (κ×PV))(k:κ)(v:PV):(cu kvs k v).length<=kvs.length+1:=by
 unfold cu;split
 ·rw[ar];omega
 ·simp
end
def Ons(m:sg)(x:Rest)(zs:List Rest):Prop:=∀z∈zs,z∈Yt m/\rem m.length z+1<=rem m.length x
def DV(m:sg)(D:sB):Prop:=∀x k v,aZ D (kk x k)=some v->∃zs,v=.lst (zs.map JO)/\Ons m x zs
set_option tactic.hygienic true in def DV.put{D:sB}(I:DV m D){x:Rest}{k:Nat}{zs:List Rest}(h:Ons m x zs):DV m (cu D (kk x k) (.lst (zs.map JO))):=λy j v e=>by
 rw[jn]at e;split at e
 ·rename_i z
  cases e;exact⟨zs,rfl,Vo z▸h⟩
 ·exact I y j v e
def O8(j:cL m){t:RU}{x:Rest}(st:P7 m t x)(k:Nat){D:sB}(O:D.length<1000000):
  ∃zs,Ons m x zs/\turn (gN 3) [3,4] ik (HZ k) [some (mP m),some (.dT D),some (bZ t),none,none]=some [some (mP m),some (.dT (cu D (kk x k) (.lst (zs.map JO)))),some (bZ t),none,none]:=by
 obtain⟨ys,h4,B,U⟩:=O6 j st (sdM k) (sdE k);have h1:=zO j st;have J:cV [none,none,some (mP m)] (gT [0,1]) dX j5 (ys.map mvP)=some ((ys.map (·.2)).map JO):=by
  rw[im];exact jf _ _ _ λy h=>⟨[some (.int (y.1.1:Nat)),some (bZ y.1.2),some (mP m)],rfl,by
   have:=zO j (B y h).1;simp[j5,this]⟩
 refine⟨ys.map (·.2),λz hz=>?_,?_⟩
 ·obtain⟨y,h,rfl⟩:=dv.mp hz
  exact⟨(B y h).1.Yt j,(B y h).2⟩
 have Y:(ys.map mvP).length<=1000000:=by rw[ar];omega
 have I:=Hd x k;unfold HZ at I ⊢;generalize ys.map mvP=V,(ys.map (·.2)).map JO=R,bZ t=S,mP m=M,JO x=Z,kk x k=kx at *;simp[-EI,bA,ik,h1,U,J,Y,I,O,mQ]
def Ej(O:cL m)(hl:m.length<=2):∃D,bM [mP m]=some (.dT D)/\DV m D:=by
 obtain⟨L,h1,h2,Y⟩:=Lw O hl;obtain⟨D,⟨_,I,_⟩,h⟩:=gA (g:=gN 2) (ds:=[2,3,4]) (body:=j6) bZ (λD:List (List D5×PV)=>[some (mP m),some (.dT D),none,none,none])
  (λr D=>D.length+4*r.length<=1000/\DV m D/\∀t∈r,t∈L)
  (by
   rintro t r D ⟨i1,i2,J⟩;obtain⟨x,st⟩:=Y t (J t av);rw[bm]at i1;obtain⟨U,⟨j,B⟩,h⟩:=gA (g:=gN 3) (ds:=[3,4]) (body:=ik) HZ (λD:List (List D5×PV)=>[some (mP m),some (.dT D),some (bZ t),none,none])
    (λs D=>D.length+s.length+4*r.length<=1000/\DV m D)
    (by
     rintro k s D ⟨j,B⟩;rw[bm]at j;obtain⟨zs,z1,z2⟩:=O8 O st k (D:=D) (by omega);have:=m6 D (kk x k) (.lst (zs.map JO));exact⟨_,⟨by omega,B.put z1⟩,z2⟩)
    (List.range 4) D ⟨by simp;omega,i2⟩
   refine⟨U,⟨by simpa using j,B,λt ht=>J t (ap _ ht)⟩,?_⟩;have Z:=itS;generalize bZ t=S,mP m=M at *;simp[-MR.I0,bA,j6,Z,h])
  L [] ⟨by simp;omega,(λx k v e=>by simp[aZ]at e),λ_ h=>h⟩
 refine⟨D,?_,I⟩;generalize L.map bZ=L,mP m=M at *;simp[bM,sG,h1,h]
def O9(m:sg)(x:Rest)(k:Nat)(zs:List Rest):Prop:=Ons m x zs/\∀D,bM [mP m]=some (.dT D)->(aZ D (kk x k)).getD (.lst [])=.lst (zs.map JO)
noncomputable def qy(m:sg)(x:Rest)(k:Nat):List Rest:=Classical.epsilon (O9 m x k)
def Ek(B:cL m)(J:m.length<=2)(x:Rest)(k:Nat):O9 m x k (qy m x k):=by
 obtain⟨D,h,I⟩:=Ej B J;refine pi (p:=O9 m x k) ?_;cases q:aZ D (kk x k)with
 |none=>exact⟨[],(λz hz=>by cases hz),λj h'=>by rw[h]at h';cases h';rw[q];rfl⟩
 |some v=>
  obtain⟨zs,rfl,o⟩:=I x k v q;exact⟨zs,o,λj h'=>by rw[h]at h';cases h';rw[q];rfl⟩
noncomputable def LY(m:sg):List Slot:=m.dropLast++[((m.getLast?.getD ([],false)).1,true)]
def El(I:cL m)(B:m≠[]):cL (LY m)/\LY m≠[]/\(LY m).length=m.length:=by
 refine⟨?_,by simp[LY],by have:=f8.mpr B;simp[LY];omega⟩;intro s j;unfold LY at j;rcases dS.mp j with j|j
 ·exact I s ((List.dropLast_sublist m).subset j)
 ·rw[cv]at j
  subst j;rw[ft B];exact I (m.getLast B) (List.getLast_mem B)
def Ly{F3:Type}{xs:List F3}(h:xs≠[]):Fn xs (-1)=xs.getLast?:=by
 unfold Fn L9;have j:0<xs.length:=f8.mpr h;rw[br (by decide),bS (by omega),ng];show xs[(-1+(xs.length:Int)).toNat]?=_;congr 1;omega
def Lz(xs:sA)(h:xs≠[]):je xs none (some (-1))=xs.dropLast:=by
 have j:0<xs.length:=f8.mpr h;unfold je HT.ES;simp;rw[List.dropLast_eq_take];congr 1;omega
def Vp(j:m≠[])(J:m.length<=2):cF [mP m]=some (mP (LY m)):=by
 have B:m.map JJ≠[]:=by simpa using j
 have h1:=Ly B;have h2:=Lz _ B;have e:(m.map JJ).getLast?=some (JJ (m.getLast j)):=by rw[nN,ft j];rfl
 rw[e]at h1;have I:=Lx (m.map JJ).dropLast [.tup [.tup ((m.getLast j).1.map .str),.bl true]] (by simp;omega);have e2:LY m=m.dropLast++[((m.getLast j).1,true)]:=by unfold LY;rw[ft j];rfl
 rw[e2];have e3:mP (m.dropLast++[((m.getLast j).1,true)])=.tup ((m.map JJ).dropLast++[.tup [.tup ((m.getLast j).1.map .str),.bl true]]):=by simp[mP,JJ,List.map_dropLast]
 rw[e3];simp only[JJ]at h1;simp only[mP];simp[cF,qt,h2,h1,I]
def O_(w:WS)(e:MR.Env)(f:MR.Env->Option PV)(h:f e=some (w.pv 12)):mL 12 "ahead" f e=some (.dT w.Sb):=by
 rw[jy,h];kernel_rfl
def RN(w:WS)(e:MR.Env)(f:MR.Env->Option PV)(h:f e=some (w.pv 12)):mL 12 "most" f e=some (.int w.most):=by
 rw[jy,h];kernel_rfl
def Vq(w:WS)(e:MR.Env)(f:MR.Env->Option PV)(h:f e=some (w.pv 12)):mL 12 "end" f e=some w.fin:=by
 rw[jy,h];kernel_rfl
def vg(w:WS)(e:MR.Env)(f:MR.Env->Option PV)(h:f e=some (w.pv 12)):mL 12 "places" f e=some (.lst w.FL):=by
 rw[jy,h];kernel_rfl
noncomputable def kQ(q:Int×Str):List D5:=[.k (.inl q.1),.k (.inr q.2)]
noncomputable def kE(y:(Int×Str)×Int):List D5×PV:=(kQ y.1,.int y.2)
def yI{a b:Int×Str}(h:kQ a=kQ b):a=b:=by
 unfold kQ at h;injection h with h1 h2;injection h2 with h2 _;injection h1 with h1;injection h1 with h1;injection h2 with h2;injection h2 with h2;exact qE h1 h2
def Pa(D:Pl):Du (D.map kE)=some D:=by
 have h:∃L:Pl,D.map kE=L.map kJ:=⟨D,rfl⟩;unfold Du;rw[dif_pos h];have q:D.map kE=h.choose.map kE:=h.choose_spec;exact gg some ((List.map_inj_right λx y e=>qE (yI (gg Prod.fst e)) (by injection gg Prod.snd e)).mp q).symm
noncomputable def look(D:Pl)(q:Int×Str):Option Int:=(D.find? λy=>decide (y.1=q)).map (·.2)
def wY(D:Pl)(q:Int×Str):aZ (D.map kE) (kQ q)=(look D q).map .int:=by
 unfold aZ look;rw[List.find?_map,Option.map_map,Option.map_map];have:((λx:List D5×PV=>decide (x.1=kQ q))∘kE)=λy=>decide (y.1=q):=by
  funext y
  show decide (kQ y.1=kQ q)=decide (y.1=q);by_cases h:y.1=q
  ·simp[h]
  ·have:¬ kQ y.1=kQ q:=λz=>h (yI z)
   simp[h,this]
 rw[this];rfl
def wZ(D:Pl)(q:Int×Str)(v:Int):Pl:=if(D.any λy=>decide (y.1=q))=true then D.map (λy=>if y.1=q then(y.1,v)else y)else D++[(q,v)]
def RQ(D:Pl)(q:Int×Str)(v:Int):cu (D.map kE) (kQ q) (.int v)=(wZ D q v).map kE:=by
 unfold cu wZ;have:((D.map kE).any λj=>decide (j.1=kQ q))=(D.any λy=>decide (y.1=q)):=by
  rw[qA];congr 1;funext y;show decide (kQ y.1=kQ q)=decide (y.1=q);by_cases h:y.1=q
  ·simp[h]
  ·have:¬ kQ y.1=kQ q:=λz=>h (yI z)
   simp[h,this]
 rw[this];by_cases h:(D.any λy=>decide (y.1=q))=true
 ·rw[bS h,bS h,im,im]
  refine hW λy _=>?_;show(if kQ y.1=kQ q then(kQ y.1,PV.int v)else kE y)=kE (if y.1=q then(y.1,v)else y);by_cases h:y.1=q
  ·simp[h,kE]
  ·have:¬ kQ y.1=kQ q:=λz=>h (yI z)
   simp[h,this]
 ·rw[br h,br h,de];rfl
set_option tactic.hygienic true in def Vr{D:Pl}(q:Int×Str)(v:Int)(h:(D.map (·.1)).Nodup):((wZ D q v).map (·.1)).Nodup:=by
 unfold wZ;split
 ·have e:(D.map (λy=>if y.1=q then(y.1,v)else y)).map (·.1)=D.map (·.1):=by
   rw[im];refine hW λy _=>?_;show(if y.1=q then(y.1,v)else y).1=y.1;split<;>rfl
  rw[e];exact h
 ·rename_i B
  rw[de,nh];refine⟨h,by simp,λa I b j e=>?_⟩;simp at j;subst j e;obtain⟨y,J,e⟩:=dv.mp I;exact B (h9.mpr ⟨y,J,by simpa using e⟩)
noncomputable def mn(a b:Int):Int:=if b<a then b else a
def bmp(most:Int)(D:Pl)(n:Int)(q:Int×Str):Pl:=wZ D q (mn most ((look D q).getD 0+n))
def Un(m:sg)(d:Nat)(z:Rest):Prop:=z∈Yt m/\rem m.length z+d<=6
structure GS(m:sg)(d:Nat)(p:Pl):Prop where
 un:∀y∈p,∃x,Un m d x/\y.1=KA x
 nd:(p.map (·.1)).Nodup
def GS.nil{m:sg}{d:Nat}:GS m d []:=⟨(λy j=>by cases j),by simp⟩
variable {d:Nat}
def Un.stp(B:cL m)(j:m.length<=2){x z:Rest}{k:Nat}(h:Un m d x)(hz:z∈qy m x k):Un m (d+1) z:=by
 have q:=(Ek B j x k).1 z hz;exact⟨q.1,by have:=h.2;omega⟩
def GS.len{p:Pl}(J:cL m)(M:m.length<=2)(I:GS m d p):p.length<=52:=by
 have h:p.map (·.1) ⊆ (Yt m).map KA:=by
  intro q O;obtain⟨y,j,rfl⟩:=dv.mp O;obtain⟨x,B,e⟩:=I.un y j;exact dv.mpr ⟨x,B.1,e.symm⟩
 have h1:=I.nd.length_le_of_subset h;have h2:=RM J M;simp at h1;omega
set_option tactic.hygienic true in def RT{D:Pl}{q:Int×Str}{v:Int}{y:(Int×Str)×Int}(h:y∈wZ D q v):y∈D\/y=(q,v):=by
 unfold wZ at h;split at h
 ·obtain⟨z,hz,e⟩:=dv.mp h
  split at e
  ·rename_i j;subst j;exact .inr e.symm
  ·subst e;exact .inl hz
 ·rcases dS.mp h with h|h
  ·exact .inl h
  ·exact .inr (by simpa using h)
def LC{most:Int}{D:Pl}(I:GS m d D){n:Int}{z:Rest}(hz:Un m d z):GS m d (bmp most D n (KA z)):=
 ⟨λy j=>by
  rcases RT j with h|h
  ·exact I.un y h
  ·rw[h];exact⟨z,hz,rfl⟩,Vr _ _ I.nd⟩
def YC(q:Int×Str):Rest:=(q.1.toNat,q.2.cps.toList)
def Em(x:Rest):YC (KA x)=x:=by
 obtain⟨a,b⟩:=x;simp[YC,KA,SD]
def P5(most:Int)(n:Int)(zs:List Rest)(D:Pl):Pl:=zs.foldl (λD z=>bmp most D n (KA z)) D
noncomputable def dlF(m:sg)(most:Int)(k:Nat)(D:Pl)(p:Pl):Pl:=p.foldl (λD y=>P5 most y.2 (qy m (YC y.1) k) D) D
noncomputable def dl(m:sg)(most:Int)(p:Pl)(k:Nat):Pl:=wM (dlF m most k [] p)
theorem En{m:sg}{most:Int}{d:Nat}{n:Int}:∀(zs:List Rest) (D:Pl),(∀z∈zs,Un m d z)->GS m d D->GS m d (P5 most n zs D)
 |[],D,_,I=>I
 |z::zs,D,hz,I=>En zs _ (λy j=>hz y (ap _ j)) (LC I (hz z av))
theorem Eo{m:sg}(j:cL m)(B:m.length<=2){most:Int}(k d:Nat):∀(p D:Pl),(∀y∈p,∃x,Un m d x/\y.1=KA x)->GS m (d+1) D->GS m (d+1) (dlF m most k D p)
 |[],D,_,I=>I
 |y::p,D,hp,I=>by
  obtain⟨x,J,ex⟩:=hp y av;refine Eo j B k d p _ (λz hz=>hp z (ap _ hz)) (En _ D (λz hz=>?_) I);rw[ex,Em]at hz;exact J.stp j B hz
def WQ(M:cL m)(B:m.length<=2){most:Int}{p:Pl}(I:GS m d p)(k:Nat):GS m (d+1) (dl m most p k):=by
 have h1:=Eo M B (most:=most) k d p [] I.un .nil;have j:=Lb (dlF m most k [] p);exact⟨λy J=>h1.un y (j.mem_iff.mp J),((j.map (·.1)).nodup_iff).mpr h1.nd⟩
def Hf(z:Rest):EI [.int (z.1:Nat),.str (SD z.2)]=some (kQ (KA z)):=rfl
def Pb{w:WS}{N j R:PV}{D:Pl}{n:Int}{z:Rest}(I:D.length<1000000):
  turn (gN 6) [6] dY (JO z) [some (w.pv 12),some N,some j,some (.dT (D.map kE)),some R,some (.int n),none]=some [some (w.pv 12),some N,some j,some (.dT ((bmp w.most D n (KA z)).map kE)),some R,some (.int n),none]:=by
 have h1:=RN w [some (w.pv 12),some N,some j,some (.dT (D.map kE)),some R,some (.int n),some (JO z)] (bV 0) rfl;have h2:=Hf z;have J:=wY D (KA z);have M:=RQ D (KA z) (mn w.most ((look D (KA z)).getD 0+n));have B:((look D (KA z)).map PV.int).getD (.int 0)=.int ((look D (KA z)).getD 0):=by cases look D (KA z)<;>rfl
 unfold bmp;rw[←M];unfold JO at h1 ⊢;unfold mn;generalize w.pv 12=O at *;simp[-EI,-jy,bA,dY,h1,h2,J,B,I]
def Pg(B:cL m)(j:m.length<=2){w:WS}(M:bM [mP m]=some (.dT w.Sb)){N:PV}{D:Pl}(I:GS m (d+1) D){k:Nat}(hk:k<4){y:(Int×Str)×Int}(U:∃x,Un m d x/\y.1=KA x):
  turn (gT [4,5]) [4,5,6] dZ (O0 y) [some (w.pv 12),some N,some (HZ k),some (.dT (D.map kE)),none,none,none]=some [some (w.pv 12),some N,some (HZ k),some (.dT ((P5 w.most y.2 (qy m (YC y.1) k) D).map kE)),none,none,none]:=by
 obtain⟨x,J,ex⟩:=U;have Y:YC y.1=x:=by rw[ex,Em]
 have Z:=uW (g:=gN 6) (ds:=[6]) (body:=dY) JO (λD:Pl=>[some (w.pv 12),some N,some (HZ k),some (.dT (D.map kE)),some (JO x),some (.int y.2),none]) (λD z=>bmp w.most D y.2 (KA z))
  (λr D=>GS m (d+1) D/\∀z∈r,Un m (d+1) z) (qy m x k) D ⟨I,λz hz=>J.stp B j hz⟩ (λz r D ⟨i1,i2⟩=>⟨⟨LC i1 (i2 z av),λz hz=>i2 z (ap _ hz)⟩,Pb (by have:=i1.len B j;omega)⟩)
 have h1:=O_ w [some (w.pv 12),some N,some (HZ k),some (.dT (D.map kE)),some (JO x),some (.int y.2),none] (bV 0) rfl;have h2:=Hd x k;have O:=(Ek B j x k).2 _ M;have e:O0 y=.tup [JO x,.int y.2]:=by unfold O0 JO;rw[ex];rfl
 rw[e,Y];have e2:P5 w.most y.2 (qy m x k) D=(qy m x k).foldl (λD z=>bmp w.most D y.2 (KA z)) D:=rfl;rw[e2];generalize (qy m x k).foldl (λD z=>bmp w.most D y.2 (KA z)) D=D2,(qy m x k).map JO=L,w.pv 12=WP,HZ k=Sd,JO x=X,kk x k=kx at *;simp[-EI,-jy,bA,dZ,h1,h2,O,Z]
def WW(J:cL m)(B:m.length<=2){w:WS}(Z:bM [mP m]=some (.dT w.Sb)){p:Pl}(I:GS m d p){n:Nat}(hp:w.FL[n]?=some (IB p)){k:Nat}(hk:k<4):
  aO [w.pv 12,.int n,HZ k]=some (IB (dl m w.most p k)):=by
 have M:=uW (g:=gT [4,5]) (ds:=[4,5,6]) (body:=dZ) O0 (λD:Pl=>[some (w.pv 12),some (.int n),some (HZ k),some (.dT (D.map kE)),none,none,none]) (λD y=>P5 w.most y.2 (qy m (YC y.1) k) D)
  (λr D=>GS m (d+1) D/\∀y∈r,∃x,Un m d x/\y.1=KA x) p [] ⟨.nil,I.un⟩
  (by
   rintro y r D ⟨i1,i2⟩;have O:=i2 y av;refine⟨⟨En _ D (λz hz=>?_) i1,λz hz=>i2 z (ap _ hz)⟩,Pg J B Z i1 hk O⟩;obtain⟨x,Y,ex⟩:=O;rw[ex,Em]at hz;exact Y.stp J B hz)
 have e:p.foldl (λD y=>P5 w.most y.2 (qy m (YC y.1) k) D) []=dlF m w.most k [] p:=rfl;rw[e]at M;have U:=(Eo J B (most:=w.most) k d p [] I.un .nil).len J B;have hd:=Pa (dlF m w.most k [] p);have h1:=vg w [some (w.pv 12),some (.int n),some (HZ k),some (.dT []),none,none,none] (bV 0) rfl;have h2:Fn w.FL (n:Int)=some (IB p):=fK hp;have j:(dlF m w.most k [] p).length<64:=by omega
 unfold dl;simp only[fe]at M;unfold IB at h2 ⊢;generalize dlF m w.most k [] p=D2,w.pv 12=WP,HZ k=Sd,p.map O0=L at *;simp[-jy,aO,kW,h1,h2,M,hd,j]
noncomputable def pl(m:sg)(most:Int)(r:Row):Pl:=r.foldl (dl m most) [(KA (0,[]),1)]
def Hg(m:sg)(most:Int)(r:Row)(k:Nat):pl m most (r++[k])=dl m most (pl m most r) k:=by unfold pl;rw[List.foldl_append];rfl
theorem Hh{m:sg}(B:cL m)(j:m.length<=2){most:Int}:∀(r:Row) (d:Nat) (p:Pl),GS m d p->GS m (d+r.length) (r.foldl (dl m most) p)
 |[],_,_,I=>I
 |k::r,d,p,I=>by
  have:=Hh (most:=most) B j r (d+1) _ (WQ (most:=most) B j I k);rw[show d+(k::r).length=d+1+r.length by simp;omega];exact this
def LK(B:cL m)(j:m≠[]):(0,[])∈Yt m:=P7.Yt B (.beg (ax (f8.mpr j)))
def yJ(B:cL m)(J:m≠[])(I:m.length<=2)(most:Int)(r:Row):GS m r.length (pl m most r):=by
 have:=Hh (most:=most) B I r 0 [(KA (0,[]),1)] ⟨λy j=>by
  rw[cv]at j;subst j;exact⟨_,⟨LK B J,by simp[rem];omega⟩,rfl⟩,by simp⟩
 rwa [qv]at this
inductive Chain(W:sB):List Int->List PV->Prop
 |nil {n:rL}:aZ W (dG n)=some .Ee->Chain W n []
 |snoc {n n':rL}{s:PV}{ss:sA}:aZ W (dG n')=some (.tup [HI n,s])->Chain W n ss->Chain W n' (ss++[s])
def RV{w:WS}{p:Pl}{n:Nat}(j:w.FL[n]?=some (IB p)):bG [w.pv 12,.int n]=some (.bl (decide (p=[]))):=by
 have h1:=vg w [some (w.pv 12),some (.int n)] (bV 0) rfl;have h2:Fn w.FL (n:Int)=some (IB p):=fK j;unfold IB at h2;have e:decide ((p.length:Int)=0)=decide (p=[]):=by
  cases p with
  |nil=>rfl
  |cons y p=>simp;omega
 generalize w.pv 12=B at *;simp[-jy,bG,qp,h1,h2]
 try exact e
theorem Ep:∀p:Pl,t7 (p.map O0)=some (p.map kE)
 |[]=>rfl
 |y::p=>by
  rw[be];show(EI [.int y.1.1,.str y.1.2]).bind _=_;rw[show EI [.int y.1.1,.str y.1.2]=some (kQ y.1)from rfl,ba,Ep p];rfl
theorem Er:∀(p q:Pl),((q++p).map (·.1)).Nodup->lF (p.map kE) (q.map kE)=(q++p).map kE
 |[],q,_=>by simp[lF]
 |y::p,q,h=>by
  have j:aZ (q.map kE) (kQ y.1)=none:=by
   rw[wY];unfold look;rw[kR,kR,kC];intro z hz e;rw[de,nh]at h;exact h.2.2 z.1 (dv.mpr ⟨z,hz,rfl⟩) y.1 (by simp) (by simpa using e)
  have e:lF ((y::p).map kE) (q.map kE)=lF (p.map kE) ((q++[y]).map kE):=by
   show lF (p.map kE) (cu (q.map kE) (kQ y.1) (.int y.2))=_;rw[wR j,de];rfl
  rw[e,Er p (q++[y]) (by simpa using h)];simp
def Hk{w:WS}{p:Pl}{n:Nat}{e:Rest}(hm:cL m)(Y:m.length<=2)(I:GS m d p)(hp:w.FL[n]?=some (IB p))(hf:w.fin=JO e):bY [w.pv 12,.int n]=some (.int ((look p (KA e)).getD 0)):=by
 have h1:=vg w [some (w.pv 12),some (.int n)] (bV 0) rfl;have j:=Vq w [some (w.pv 12),some (.int n)] (bV 0) rfl;have h2:Fn w.FL (n:Int)=some (IB p):=fK hp;unfold IB at h2;have O:=Ep p;have B:=Er p [] (by simpa using I.nd);rw[fe,l0]at B;have J:=wY p (KA e);have U:=Hf e;have Z:(p.map kE).length<=1000000:=by have:=I.len hm Y;simp;omega
 have M:((look p (KA e)).map PV.int).getD (.int 0)=.int ((look p (KA e)).getD 0):=by cases look p (KA e)<;>rfl
 rw[hf]at j;unfold JO at j;generalize w.pv 12=WP,p.map O0=L,p.map kE=K at *;simp[-jy,-EI,bY,lQ,j,h1,h2,O,B,J,U,Z,M]
def Ph(m:sg):Rest:=(m.length,[])
noncomputable def wy(m:sg)(r:Row):Int:=(look (pl m 1 r) (KA (Ph m))).getD 0
def Hl(w:WS):(List.lookup ("ways_to_end" : Str) [(("ahead" : Str),PV.dT w.Sb),("most",.int w.most),("end",w.fin),("places",.lst w.FL),("numbers",.dT w.nums),("onward",.dK w.L3)])=none:=by
 kernel_rfl
def Pj{I B:WS}{i j a b:Int}(h1:bY [I.pv 12,.int i]=some (.int a))(h2:bY [B.pv 12,.int j]=some (.int b)):
  a_ [.lst [I.pv 12,B.pv 12],.tup [.int i,.int j]]=some (.bl (decide (0<a)&&decide (b=0))):=by
 have M:=Hl I;have J:=Hl B;unfold WS.pv at *;by_cases ha:0<a
 ·simp[-List.lookup,a_,ig,h1,h2,M,J,ha]
 ·simp[-List.lookup,a_,ig,h1,h2,M,J,ha]
def RW{D:sB}{N:PV}{n:rL}{I:sA}(h:Chain D n I):∀(f:Nat) (j:sA),I.length<f->j.length+I.length<1000->
  ∃U,pQ iK [] nY f [some (.dT D),some N,some (.lst j),some (HI n)]=some (.nx [some (.dT D),some N,some (.lst (j++I.reverse)),some (HI U)]):=by
 induction h with
 |@nil n B=>
  intro f j M _;cases f with
  |zero=>simp at M
  |succ f=>
   have J:=lG n;refine⟨n,?_⟩;unfold HI pQ;have e:iK [some (.dT D),some N,some (.lst j),some (.tup (n.map .int))]=some false:=by simp[-EI,iK,J,B]
   rw[e];simp
 |@snoc n Y s I B h1 O=>
  intro f j M Z;cases f with
  |zero=>simp at M
  |succ f=>
   have J:=lG Y;simp only[cb,gp]at M Z;obtain⟨U,O⟩:=O f (j++[s]) (by omega) (by simp;omega);have hl:j.length<1000000:=by omega
   refine⟨U,?_⟩;rw[List.reverse_append,List.reverse_singleton,p0];rw[gv,p0]at O;rw[←O];conv=>lhs;unfold pQ
   unfold HI at B ⊢;have e1:iK [some (.dT D),some N,some (.lst j),some (.tup (Y.map .int))]=some true:=by simp[-EI,iK,J,B]
   have e2:nY [some (.dT D),some N,some (.lst j),some (.tup (Y.map .int))]=some (.nx [some (.dT D),some N,some (.lst (j++[s])),some (.tup (n.map .int))]):=by simp[-EI,nY,J,B,hl]
   rw[e1];simp[e2]
def WX{D:sB}{n:rL}{j:sA}(h:Chain D n j)(I:j.length<=99):dR [.dT D,HI n]=some (.lst j):=by
 obtain⟨B,key⟩:=RW (N:=HI n) h 1000000 [] (by omega) (by simp;omega);rw[l0]at key;unfold HI at key ⊢;generalize n.map PV.int=L,B.map PV.int=J at *;simp[dR,A_,key]
def Ge(w w':WS):Prop:=∀(n:Nat) p,w.FL[n]?=some p->w'.FL[n]?=some p
abbrev SF(ns:qV):List PV:=ns.map λi=>.int (i:Nat)
structure WJ(m:sg)(w:WS)(B O:Nat):Prop where
 ah:bM [mP m]=some (.dT w.Sb)
 mo:w.most=1
 fi:w.fin=JO (Ph m)
 nu:∀q v,aZ w.nums (OL q)=some v->∃n:Nat,v=.int (n:Nat)/\w.FL[n]?=some (IB q)
 on:∀(n:Nat) v,aZ w.L3 (.inl (n:Int))=some v->∃p ns,w.FL[n]?=some (IB p)/\v=.lst (SF ns)/\ns.length=4/\∀k,k<4->∃i,ns[k]?=some i/\w.FL[i]?=some (IB (dl m 1 p k))
 l1:w.FL.length<=B
 l2:w.nums.length<=B
 l3:w.L3.length<=O
section
variable {m:sg}{w:WS}{B O d:Nat}{p:Pl}{n:Nat}
set_option tactic.hygienic true in def WJ.nop(J:WJ m w B O)(Y:B<900000)(q:Pl):∃(n:Nat) (w':WS),wN w (IB q)=some ((n:Int),w')/\WJ m w' (B+1) O/\w'.FL[n]?=some (IB q)/\Ge w w'/\w'.L3=w.L3:=by
 have j:=wQ q;have:=J.l1;have:=J.l2;cases h:aZ w.nums (OL q)with
 |some v=>
  obtain⟨n,rfl,M⟩:=J.nu q v h;exact⟨n,w,by unfold wN IB;simp only[j,ba,h],⟨J.ah,J.mo,J.fi,J.nu,J.on,by omega,by omega,J.l3⟩,M,λ_ _ e=>e,rfl⟩
 |none=>
  have up:∀{n:Nat}{p:PV},w.FL[n]?=some p->(w.FL++[IB q])[n]?=some p:=λe=>by rw[cw (al.mp e).1];exact e
  refine⟨w.FL.length,{w with nums:=cu w.nums (OL q) (.int (w.FL.length:Nat)),FL:=w.FL++[IB q]},?_,⟨J.ah,J.mo,J.fi,λI v e=>?_,λn v e=>?_,by simp;omega,?_,J.l3⟩,by simp,λn p e=>up e,rfl⟩
  ·unfold wN IB
   simp only[j,ba,h];rw[bS ⟨by omega,by omega⟩]
  ·have e:aZ (cu w.nums (OL q) (.int (w.FL.length:Nat))) (OL I)=some v:=e
   rw[jn]at e;split at e
   ·rename_i z
    cases e;exact⟨_,rfl,by rw[zL z];simp⟩
   ·obtain⟨n,e1,e2⟩:=J.nu I v e
    exact⟨n,e1,up e2⟩
  ·obtain⟨p,U,e1,e2,e3,e4⟩:=J.on n v e
   exact⟨p,U,up e1,e2,e3,λk j=>(e4 k j).imp λi z=>⟨z.1,up z.2⟩⟩
  ·have:=m6 w.nums (OL q) (.int (w.FL.length:Nat))
   show(cu w.nums (OL q) _).length<=_;omega
theorem WJ.N1(Y:cL m)(U:m.length<=2)(I:GS m d p):∀(ks:qV){w:WS}{B:Nat},(∀k∈ks,k<4)->WJ m w B O->B+ks.length<900000->w.FL[n]?=some (IB p)->
  ∃(M:qV) (w':WS),MR.N1 aO 12 (n:Int) (ks.map HZ) w=some (SF M,w')/\M.length=ks.length/\(∀(j k:Nat),ks[j]?=some k->∃i,M[j]?=some i/\w'.FL[i]?=some (IB (dl m 1 p k)))/\WJ m w' (B+ks.length) O/\Ge w w'/\w'.L3=w.L3
 |[],w,B,_,J,_,_=>⟨[],w,rfl,rfl,(λj k h=>by simp at h),J,λ_ _ e=>e,rfl⟩
 |k::ks,w,B,hk,J,hB,hn=>by
  simp only[bm]at hB;have e1:=WW Y U J.ah I hn (hk k av);rw[J.mo]at e1;obtain⟨i,w1,e2,J1,i1,g1,o1⟩:=J.nop (by omega) (dl m 1 p k);obtain⟨M,Z,e3,n2,k2,J2,g2,o2⟩:=WJ.N1 Y U I ks (λj hj=>hk j (ap _ hj)) J1 (by omega) (g1 _ _ hn);refine⟨i::M,Z,?_,by simp[n2],λj k' h=>?_,by rw[bm,show B+(ks.length+1)=B+1+ks.length by omega];exact J2,λn p e=>g2 _ _ (g1 _ _ e),o2.trans o1⟩
  ·rw[be,MR.N1,e1,ba,e2,ba,e3]
   rfl
  ·cases j with
   |zero=>cases h;exact⟨i,rfl,g2 _ _ i1⟩
   |succ j=>exact k2 j k' h
set_option tactic.hygienic true in def WJ.lat(hm:cL m)(hl:m.length<=2)(I:GS m d p)(J:WJ m w B O)(hB:B<800000)(hO:O<800000)(Y:w.FL[n]?=some (IB p)):
  ∃(j:qV) (M:WS),wO aO 12 GA w (n:Nat)=some (.lst (SF j),M)/\j.length=4/\(∀k,k<4->∃i,j[k]?=some i/\M.FL[i]?=some (IB (dl m 1 p k)))/\WJ m M (B+4) (O+1)/\Ge w M:=by
 unfold wO;cases ho:aZ w.L3 (.inl (n:Int))with
 |some v=>
  obtain⟨p',j,e1,rfl,e3,e4⟩:=J.on n v ho;rw[Y]at e1;rw[←RB (bp e1)]at e4;have:=J.l1;have:=J.l2;have:=J.l3;exact⟨j,w,rfl,e3,e4,⟨J.ah,J.mo,J.fi,J.nu,J.on,by omega,by omega,by omega⟩,λ_ _ e=>e⟩
 |none=>
  obtain⟨j,M,e1,n1,k1,U,g1,o1⟩:=WJ.N1 hm hl I (O:=O) (n:=n) (List.range 4) (λk hk=>cf.mp hk) J (by simp;omega) Y;have k1:∀k,k<4->∃i,j[k]?=some i/\M.FL[i]?=some (IB (dl m 1 p k)):=λk hk=>k1 k k (by simp[hk]);rw[fq]at n1 U;have l3:=U.l3;refine⟨j,{M with L3:=cu M.L3 (.inl (n:Int)) (.lst (SF j))},?_,n1,k1,⟨U.ah,U.mo,U.fi,U.nu,λZ v e=>?_,U.l1,U.l2,?_⟩,g1⟩
  ·rw[sdS]
   simp only[e1,ba];rw[bS ⟨by omega,by simp[n1]⟩]
  ·have e:aZ (cu M.L3 (.inl (n:Int)) (.lst (SF j))) (.inl (Z:Int))=some v:=e
   rw[jn]at e;split at e
   ·rename_i z
    cases e;have z:Z=n:=by have:=qB z;omega
    subst z;exact⟨p,j,g1 _ _ Y,rfl,n1,k1⟩
   ·exact U.on Z v e
  ·have:=m6 M.L3 (.inl (n:Int)) (.lst (SF j))
   show(cu M.L3 (.inl (n:Int)) _).length<=_;omega
end
theorem Es:∀j:List Nat,tW (SF j)=some (j.map λi:Nat=>(i:Int))
 |[]=>rfl
 |n::j=>by rw[SF,be,tW,Es j];rfl
def Chain.put{W:sB}{n:rL}{I:sA}{k:List D5}{v:PV}(h:Chain W n I)(J:aZ W k=none):Chain (cu W k v) n I:=by
 have up:∀{j x},aZ W j=some x->aZ (cu W k v) j=some x:=λ{j x} e=>by
  rw[jn,br λz=>by rw[z,J]at e;cases e];exact e
 induction h with
 |nil e=>exact .nil (up e)
 |snoc e _ M=>exact .snoc (up e) M
noncomputable def sgt(m1 m2:sg)(x:Row):Bool:=decide (0<wy m1 x)&&decide (wy m2 x=0)
structure NI(m1 m2:sg)(w1 w2:WS)(W:sB)(L:Nat)(n:rL)(x:Row):Prop where
 l:x.length=L
 p:∃a b:Nat,n=[(a:Int),(b:Int)]/\w1.FL[a]?=some (IB (pl m1 1 x))/\w2.FL[b]?=some (IB (pl m2 1 x))
 c:Chain W n (x.map HZ)
 o:pl m1 1 x≠[]
def Nd(m1 m2:sg)(w1 w2:WS)(W:sB)(L:Nat)(n:rL):Prop:=∃x,NI m1 m2 w1 w2 W L n x
abbrev zP:=zG 12 bG a_ dR
abbrev Et:=DR 12 bG a_ dR
abbrev Eu:=zH aO 12 GA bG a_ dR
abbrev Pk:=zJ aO 12 GA bG a_ dR
def CM(W W':sB):Prop:=∀n ss,Chain W n ss->Chain W' n ss
structure Two(m1 m2:sg):Prop where
 h1:cL m1
 n1:m1≠[]
 l1:m1.length<=2
 h2:cL m2
 n2:m2≠[]
 l2:m2.length<=2
section
variable {m1 m2:sg}{w1 w2 w1' w2':WS}{L k:Nat}{n:rL}{x:Row}{st:FS}{P B O:Nat}{W W':sB}
def Nd.up(h:Nd m1 m2 w1 w2 W L n)(g1:Ge w1 w1')(g2:Ge w2 w2')(c:CM W W'):Nd m1 m2 w1' w2' W' L n:=by
 obtain⟨x,a,⟨i,j,e1,e2,e3⟩,b,d⟩:=h;exact⟨x,a,⟨i,j,e1,g1 _ _ e2,g2 _ _ e3⟩,c _ _ b,d⟩
def NI.le(T:Two m1 m2)(h:NI m1 m2 w1 w2 W L n x):L<=6:=by
 obtain⟨y,p,e⟩:=i9 h.o;obtain⟨z,hz,_⟩:=(yJ T.h1 T.n1 T.l1 1 x).un y (by rw[e];simp);have:=hz.2;have:=h.l;omega
def RX(T:Two m1 m2)(hw:st.ws=[w1,w2])(J1:WJ m1 w1 B O)(J2:WJ m2 w2 B O)(Y:NI m1 m2 w1 w2 st.EW L n x){i j:Nat}(hi:w1.FL[i]?=some (IB (pl m1 1 (x++[k]))))(hj:w2.FL[j]?=some (IB (pl m2 1 (x++[k]))))(hv:st.EW.length<900000)(hl:st.later.length<900000):
  (∃I,zP n (HZ k,[(i:Int),(j:Int)]) st=some (.inl I)/\I.ws=st.ws/\I.EW.length<=st.EW.length+1/\I.later.length<=st.later.length+1/\CM st.EW I.EW/\∀J∈I.later,J∈st.later\/Nd m1 m2 w1 w2 I.EW (L+1) J)\/∃y,zP n (HZ k,[(i:Int),(j:Int)]) st=some (.inr (.lst (y.map HZ)))/\sgt m1 m2 y=true:=by
 have same:∀{r},r=some (.inl st)->(∃I,r=some (Sum.inl I)/\I.ws=st.ws/\I.EW.length<=st.EW.length+1/\I.later.length<=st.later.length+1/\CM st.EW I.EW/\∀J∈I.later,J∈st.later\/Nd m1 m2 w1 w2 I.EW (L+1) J)\/∃y,r=some (.inr (PV.lst (y.map HZ)))/\sgt m1 m2 y=true:=λe=>.inl ⟨st,e,rfl,by omega,by omega,λ_ _ h=>h,λ_ h=>.inl h⟩;have h6:=Y.le T;have U:=Y.l;unfold zP zG;cases h:aZ st.EW (dG [(i:Int),(j:Int)])with
 |some v=>exact same rfl
 |none=>
  have M:=RV hi;have Z:=Pj (Hk T.h1 T.l1 (yJ T.h1 T.n1 T.l1 1 (x++[k])) hi J1.fi) (Hk T.h2 T.l2 (yJ T.h2 T.n2 T.l2 1 (x++[k])) hj J2.fi);have Z:a_ [.lst [w1.pv 12,w2.pv 12],HI [(i:Int),(j:Int)]]=some (.bl (sgt m1 m2 (x++[k]))):=Z;have hc:Chain (cu st.EW (dG [(i:Int),(j:Int)]) (.tup [HI n,HZ k])) [(i:Int),(j:Int)] ((x++[k]).map HZ):=by
   rw[de];exact .snoc (by rw[jn,bS rfl]) (Y.c.put h)
  have hr:=WX hc (by simp;omega);by_cases o:pl m1 1 (x++[k])=[]
  ·rw[eP o]at M
   exact same (by simp only[hw,M,ba])
  ·rw[cK o]at M
   simp only[hw,M,ba];rw[bS ⟨by omega,by omega⟩];simp only[be,fe,Z,ba];cases g:sgt m1 m2 (x++[k])with
   |true=>
    refine .inr ⟨x++[k],?_,g⟩;simp only[hr,ba]
   |false=>
    refine .inl ⟨_,rfl,rfl,m6 ..,by simp,λ_ _ c=>c.put h,λJ hn=>?_⟩;rcases dS.mp hn with z|z
    ·exact .inl z
    ·rw[cv.mp z]
     exact .inr ⟨x++[k],by simp[U],⟨i,j,rfl,hi,hj⟩,hc,o⟩
theorem Hm(T:Two m1 m2)(U:WJ m1 w1 B O)(Y:WJ m2 w2 B O){a b:Nat->Nat}:∀(ks:qV){st:FS},st.ws=[w1,w2]->NI m1 m2 w1 w2 st.EW L n x->(∀k∈ks,w1.FL[a k]?=some (IB (pl m1 1 (x++[k])))/\w2.FL[b k]?=some (IB (pl m2 1 (x++[k]))))->st.EW.length+ks.length<900000->st.later.length+ks.length<900000->
  (∃j,Et n (ks.map λk=>(HZ k,[(a k:Int),(b k:Int)])) st=some (.inl j)/\j.ws=st.ws/\j.EW.length<=st.EW.length+ks.length/\j.later.length<=st.later.length+ks.length/\CM st.EW j.EW/\∀I∈j.later,I∈st.later\/Nd m1 m2 w1 w2 j.EW (L+1) I)\/∃y,Et n (ks.map λk=>(HZ k,[(a k:Int),(b k:Int)])) st=some (.inr (.lst (y.map HZ)))/\sgt m1 m2 y=true
 |[],st,_,_,_,_,_=>.inl ⟨st,rfl,rfl,aI _,aI _,λ_ _ h=>h,λ_ h=>.inl h⟩
 |k::ks,st,hw,hx,hk,hv,hl=>by
  simp only[bm]at hv hl;obtain⟨q1,q2⟩:=hk k av;rcases RX T hw U Y hx q1 q2 (by omega) (by omega)with⟨J,e1,a1,a2,a3,M,a5⟩|⟨y,e,g⟩
  ·have Zv:NI m1 m2 w1 w2 J.EW L n x:=⟨hx.l,hx.p,M _ _ hx.c,hx.o⟩
   rcases Hm T U Y ks (st:=J) (a1.trans hw) Zv (λk h=>hk k (ap _ h)) (by omega) (by omega)with⟨s2,e2,b1,b2,b3,Z,b5⟩|⟨y,e,g⟩
   ·refine .inl ⟨s2,by show(zP n _ st).bind _=_;rw[e1];exact e2,b1.trans a1,by simp;omega,by simp;omega,λ_ _ c=>Z _ _ (M _ _ c),λI h=>?_⟩
    rcases b5 I h with z|z
    ·rcases a5 I z with z|z
     ·exact .inl z
     ·exact .inr (z.up (λ_ _ e=>e) (λ_ _ e=>e) Z)
    ·exact .inr z
   ·exact .inr ⟨y,by show(zP n _ st).bind _=_;rw[e1];exact e,g⟩
  ·exact .inr ⟨y,by show(zP n _ st).bind _=_;rw[e];rfl,g⟩
structure SI(m1 m2:sg)(P L:Nat)(N:List (List Int))(st:FS):Prop where
 w:∃w1 w2,st.ws=[w1,w2]/\WJ m1 w1 (4*P+1) P/\WJ m2 w2 (4*P+1) P/\(∀n∈N,Nd m1 m2 w1 w2 st.EW L n)/\∀n∈st.later,Nd m1 m2 w1 w2 st.EW (L+1) n
 v:st.EW.length<=4*P+1
theorem vP(T:Two m1 m2):∀(N:List (List Int)){st:FS}{P:Nat},SI m1 m2 P L N st->P+N.length<100000->st.later.length+4*N.length<800000->
  (∃Fu,Eu N st=some (.inl Fu)/\SI m1 m2 (P+N.length) L [] Fu/\Fu.later.length<=st.later.length+4*N.length)\/∃y,Eu N st=some (.inr (.lst (y.map HZ)))/\sgt m1 m2 y=true
 |[],st,P,I,_,_=>.inl ⟨st,rfl,I,aI _⟩
 |n::N,st,P,I,hP,hl=>by
  simp only[bm]at hP hl;obtain⟨⟨w1,w2,hw,J1,J2,hN,NG⟩,hv⟩:=I;obtain⟨x,Z⟩:=hN n av;obtain⟨i,j,rfl,hi,hj⟩:=Z.p;obtain⟨J,v1,e1,n1,k1,K1,g1⟩:=J1.lat T.h1 T.l1 (yJ T.h1 T.n1 T.l1 1 x) (by omega) (by omega) hi;obtain⟨M,v2,e2,n2,k2,K2,g2⟩:=J2.lat T.h2 T.l2 (yJ T.h2 T.n2 T.l2 1 x) (by omega) (by omega) hj;have nb:YY aO 12 GA st.ws [(i:Int),(j:Int)]=some ((List.range 4).map λk=>[((J.getD k 0:Nat):Int),((M.getD k 0:Nat):Int)],[v1,v2]):=by
   have f:Zy aO 12 GA [w1,w2] [(i:Int),(j:Int)]=some ([.lst (SF J),.lst (SF M)],[v1,v2]):=by
    rw[Zy,e1,ba,Zy,e2];rfl
   have r:vN 4 [.lst (SF J),.lst (SF M)]=some [J.map λi:Nat=>(i:Int),M.map λi:Nat=>(i:Int)]:=by
    simp[vN,Es,n1,n2]
   unfold YY;rw[hw,f,ba,show GA.length=4 from rfl,r,ba];congr 2;refine hW λk U=>?_;have U:=cf.mp U;simp[n1,n2,U]
  have Zv:NI m1 m2 v1 v2 st.EW L [(i:Int),(j:Int)] x:=⟨Z.l,⟨i,j,rfl,g1 _ _ hi,g2 _ _ hj⟩,Z.c,Z.o⟩;have zi:GA.zip ((List.range 4).map λk=>[((J.getD k 0:Nat):Int),((M.getD k 0:Nat):Int)])=(List.range 4).map λk=>(HZ k,[((J.getD k 0:Nat):Int),((M.getD k 0:Nat):Int)]):=by rw[sdS,List.zip_map']
  have ek:∀k∈List.range 4,v1.FL[J.getD k 0]?=some (IB (pl m1 1 (x++[k])))/\v2.FL[M.getD k 0]?=some (IB (pl m2 1 (x++[k]))):=λk U=>by
   have U:=cf.mp U;obtain⟨a,a1,a2⟩:=k1 k U;obtain⟨b,b1,b2⟩:=k2 k U;rw[dn,a1,dn,b1,Hg,Hg];exact⟨a2,b2⟩
  rcases Hm T K1 K2 (a:=λk=>J.getD k 0) (b:=λk=>M.getD k 0) (List.range 4) (st:={st with ws:=[v1,v2]}) rfl Zv ek (by simp;omega) (by simp;omega)with⟨s,e,a1,a2,a3,Y,a5⟩|⟨y,e,g⟩
  ·simp only[fq]at a2 a3
   have Y:CM st.EW s.EW:=Y;have I':SI m1 m2 (P+1) L N s:=⟨⟨v1,v2,a1,by rw[show 4*(P+1)+1=4*P+1+4 by omega];exact K1,by rw[show 4*(P+1)+1=4*P+1+4 by omega];exact K2,λn hn=>(hN n (ap _ hn)).up g1 g2 Y,λn hn=>(a5 n hn).elim (λz=>(NG n z).up g1 g2 Y) id⟩,by omega⟩;rcases vP T N I' (by omega) (by omega)with⟨s',e',b1,b2⟩|⟨y,e',g⟩
   ·refine .inl ⟨s',?_,by rw[bm,show P+(N.length+1)=P+1+N.length by omega];exact b1,by rw[bm];omega⟩
    show(YY _ _ _ _ _).bind _=_;rw[nb];show(Et _ (GA.zip _) _).bind _=_;rw[zi,e];exact e'
   ·refine .inr ⟨y,?_,g⟩
    show(YY _ _ _ _ _).bind _=_;rw[nb];show(Et _ (GA.zip _) _).bind _=_;rw[zi,e];exact e'
  ·refine .inr ⟨y,?_,g⟩
   show(YY _ _ _ _ _).bind _=_;rw[nb];show(Et _ (GA.zip _) _).bind _=_;rw[zi,e];rfl
theorem Hn(T:Two m1 m2):∀(j:Nat){L f P:Nat}{N:List (List Int)}{st:FS},L+j=8->j<f->N.length<=4 ^ L->P<=4 ^ L->SI m1 m2 P L N {st with later:=[]}->
  Pk f N st=some .Ee\/∃y,Pk f N st=some (.lst (y.map HZ))/\sgt m1 m2 y=true
 |_,_,0,_,_,_,_,hf,_,_,_=>absurd hf (Nat.not_lt_zero _)
 |_,_,f+1,_,[],_,_,_,_,_,_=>.inl rfl
 |j,L,f+1,P,n::N,st,hL,hf,hN,hP,I=>by
  obtain⟨w1,w2,_,_,_,J,_⟩:=I.w;obtain⟨x,U⟩:=J n av;have Y:=U.le T;have hp:4 ^ L<=4 ^ 6:=Nat.pow_le_pow_right (by decide) Y;have hs:4 ^ (L+1)=4 ^ L*4:=Nat.pow_succ ..;have:(4:Nat) ^ 6=4096:=by decide
  have M:({st with later:=[]}:FS).later.length=0:=rfl;rcases vP T (n::N) I (by omega) (by omega)with⟨s,e,Z,hl⟩|⟨y,e,g⟩
  ·obtain⟨⟨v1,v2,a1,a2,a3,_,a5⟩,v⟩:=Z
   obtain⟨j,rfl⟩:∃i,j=i+1:=⟨j - 1,by omega⟩;rcases Hn T j (L:=L+1) (f:=f) (N:=s.later) (st:=s) (by omega) (by omega) (by omega) (by omega) ⟨⟨v1,v2,a1,a2,a3,a5,(λn J=>by cases J)⟩,v⟩with e'|⟨y,e',g⟩
   ·exact .inl (by show(Eu (n::N) _).bind _=_;rw[e];exact e')
   ·exact .inr ⟨y,by show(Eu (n::N) _).bind _=_;rw[e];exact e',g⟩
  ·exact .inr ⟨y,by show(Eu (n::N) _).bind _=_;rw[e];rfl,g⟩
end
def Pn(m:sg):cJ [mP m]=some (bZ (m.length,0,0)):=by simp[cJ,qu,mP,bZ]
def Pq(m:sg):cG [mP m,jA]=some (JO (0,[])):=by
 have e:SD []=("" : Str):=by decide +kernel
 simp[cG,lU,mP,jA,JO,e]
def Ho(Y:cL m)(I:m≠[])(M:m.length<=2):∃w,wkW cF bM cG cJ jA (mP m) 1=some w/\WJ (LY m) w 1 0/\w.FL[0]?=some (IB (pl (LY m) 1 [])):=by
 obtain⟨j,c2,c3⟩:=El Y I;obtain⟨D,h1,_⟩:=Ej j (by omega);have h3:=Vp I M;have h4:=Pn (LY m);have Z:=zO j (P7.fin (m:=LY m));have J:=Pq (LY m);have U:EI [.tup [JO (0,[]),.int 1]]=some (OL (pl (LY m) 1 [])):=rfl;refine⟨{Sb:=D,most:=1,fin:=JO (Ph (LY m)),FL:=[IB (pl (LY m) 1 [])],nums:=[(OL (pl (LY m) 1 []),.int 0)],L3:=[]},?_,⟨h1,rfl,rfl,λq v e=>?_,(λn v e=>by cases e),by simp,by simp,by simp⟩,rfl⟩
 ·unfold wkW
  simp only[h3,ba,h1,h4,Z,J,U];rfl
 ·unfold aZ at e
  by_cases z:OL (pl (LY m) 1 [])=OL q
  ·simp[z]at e
   exact⟨0,e.symm,by rw[←zL z];rfl⟩
  ·simp[z]at e
def mw{one j:sg}(h1:cL one)(n1:one≠[])(l1:one.length<=2)(h2:cL j)(n2:j≠[])(Y:j.length<=2):
  bc [mP one,mP j]=some .Ee\/∃x,bc [mP one,mP j]=some (.lst (x.map HZ))/\(decide (0<wy (LY one) x)&&decide (wy (LY j) x=0))=true:=by
 obtain⟨c1,c2,c3⟩:=El h1 n1;obtain⟨Z,U,d3⟩:=El h2 n2;obtain⟨w1,e1,J,p1⟩:=Ho h1 n1 l1;obtain⟨w2,e2,M,p2⟩:=Ho h2 n2 Y;have T:Two (LY one) (LY j):=⟨c1,c2,by omega,Z,U,by omega⟩;have ew:bc [mP one,mP j]=Pk 1000 [[((0:Nat):Int),((0:Nat):Int)]] {ws:=[w1,w2],EW:=[(dG [((0:Nat):Int),((0:Nat):Int)],.Ee)],later:=[[((0:Nat):Int),((0:Nat):Int)]]}:=by
  unfold bc Ot;simp only[e1,e2,ba];rfl
 rw[ew];refine Hn T 8 (L:=0) (P:=0) rfl (by decide) (by decide) (by decide) ⟨⟨w1,w2,rfl,J,M,λn I=>?_,(λn I=>by cases I)⟩,aI 1⟩;rw[cv.mp I];exact⟨[],rfl,⟨0,0,rfl,p1,p2⟩,.nil rfl,by simp[pl]⟩
inductive Pt where
 |op|cl (lo hi:Nat)|as (r:Nat)|rw(nm:Str) (bd:Option Str)
abbrev sK:=List (Nat×Pt)
abbrev sD:=List Pt
noncomputable def JA:Pt->Str
 |.op => "("
 |.cl _ _ => ")"
 |.as _ => "as"
 |.rw _ _ => "row"
noncomputable def P8:Option Str->PV
 |none=>.Ee
 |some b=>.str b
noncomputable def EE:Pt->PV
 |.op=>.tup [.str "("]
 |.cl lo hi=>.tup [.str ")",.int (lo:Nat),.int (hi:Nat)]
 |.as r=>.tup [.str "as",.int (r:Nat)]
 |.rw nm bd=>.tup [.str "row",.str nm,P8 bd]
noncomputable def isIt:Pt->Bool
 |.as _=>true
 |.rw _ _=>true
 |_=>false
noncomputable def six:List Str:=["a","b","c","A","B","z"]
noncomputable def EH:List Str:=["a","as","x","iamb","long","b","measured","u"]
def Ba:∀x∈EH,PyData.strOk x=true:=by
 intro x j;simp only[EH,bi,bt,eI]at j;rcases j with e|e|e|e|e|e|e|e<;>subst e<;>decide +kernel
structure LJ(p:Pt):Prop where
 nm:∀n b,p=.rw n b->n∈EH/\∀x,b=some x->x∈six
def LQ:∀x∈six,PyData.strOk x=true:=by
 intro x j;simp only[six,bi,bt,eI]at j;rcases j with e|e|e|e|e|e<;>subst e<;>decide +kernel
def Jt(p:Pt):∃r,EE p=.tup (.str (JA p)::r):=by
 cases p with
 |op=>exact⟨_,rfl⟩
 |cl lo hi=>exact⟨_,rfl⟩
 |as r=>exact⟨_,rfl⟩
 |rw n b=>exact⟨_,rfl⟩
def e1:¬ (("(" : Str) = ")"):=by decide
theorem e2:¬ (("as" : Str) = "("):=by decide
theorem e3:¬ (("as" : Str) = ")"):=by decide
theorem e4:¬ (("row" : Str) = "("):=by decide
theorem e5:¬ (("row" : Str) = ")"):=by decide
def e6:¬ (("as" : Str) = "row"):=by decide
theorem e7:¬ ((")" : Str) = "("):=by decide
def e8:¬ (("row" : Str) = "as"):=by decide
def LR{p:Pt}(h:LJ p):F5 1 (EE p):=by
 have k1:PyData.strOk ("(" : Str)=true:=by decide +kernel
 have k2:PyData.strOk (")" : Str)=true:=by decide +kernel
 have I:PyData.strOk ("as" : Str)=true:=by decide +kernel
 have j:PyData.strOk ("row" : Str)=true:=by decide +kernel
 cases p with
 |op=>simp[EE,F5,k1]
 |cl lo hi=>simp[EE,F5,k2]
 |as r=>simp[EE,F5,I]
 |rw n b=>
  obtain⟨h1,h2⟩:=h.nm n b rfl;have h1:=Ba n h1;cases b with
  |none=>simp[EE,F5,j,h1,P8]
  |some x=>simp[EE,F5,j,h1,P8,LQ x (h2 x rfl)]
def zQ(n:Int):∃x,x∈EH/\dq [.int n]=some (.str x):=by
 obtain⟨k,I,e⟩:∃k:Nat,k<8/\n%8=k:=⟨(n%8).toNat,by omega,by omega⟩;have J:k<EH.length:=I;have j:Fn [PV.str "a",.str "as",.str "x",.str "iamb",.str "long",.str "b",.str "measured",.str "u"] (n%8)=some (.str EH[k]):=by
  have:Fn (EH.map PV.str) (k:Int)=some (.str EH[k]):=fK (by simp[J]);rw[e];exact this
 refine⟨EH[k],ia _,?_⟩;generalize EH[k]=x at *;simp[dq,qm,j]
noncomputable def IE:List (Option Str):=[none,some "a",some "b",some "c",some "A",some "B",some "a",some "z"]
def zR(n:Int):∃b:Option Str,(∀x,b=some x->x∈six)/\fM [.int n]=some (P8 b):=by
 obtain⟨k,U,e⟩:∃k:Nat,k<8/\n%8=k:=⟨(n%8).toNat,by omega,by omega⟩;have M:k<IE.length:=U;have I:Fn [PV.Ee,.str "a",.str "b",.str "c",.str "A",.str "B",.str "a",.str "z"] (n%8)=some (P8 IE[k]):=by
  have:Fn (IE.map P8) (k:Int)=some (P8 IE[k]):=fK (by simp[M]);rw[e];exact this
 refine⟨IE[k],?_,?_⟩
 ·intro x J
  have j:some x∈IE:=by rw[←J];exact ia _
  simp only[IE,bi,bt,eI,Option.some.injEq,reduceCtorEq,false_or]at j;simp only[six,bi,bt,eI];rcases j with h|h|h|h|h|h|h<;>simp[h]
 ·generalize P8 IE[k]=x at *
  simp[fM,uX,I]
noncomputable def bz:List Pt->Nat->Bool->List (Nat×Bool)
 |[],_,_=>[]
 |.op::l,n,_=>bz l n true
 |.cl _ _::l,n,_=>bz l n false
 |.as _::l,n,b=>bz l (n+1) b
 |.rw _ _::l,n,b=>(n+1,b)::bz l (n+1) b
noncomputable def JE(z:Nat×Bool):PV:=.tup [.int (z.1:Nat),.bl z.2]
def Ju(x:Str):j0 (.str x) (.tup [.str "(",.str ")"])=some (decide (x∈(["(",")"]:rj))):=(inS x ["(",")"]).2
theorem qz{GP:PV}:∀(l:sD) (R:List (Nat×Bool)) (n:Nat) (b:Bool),R.length+l.length<1000->
  ∃j x3,cP (gN 4) [4] bU (l.map EE) [some GP,some (.lst (R.map JE)),some (.int (n:Nat)),some (.bl b),none]=some (.nx [some GP,some (.lst ((R++bz l n b).map JE)),j,x3,none])
 |[],R,n,b,_=>⟨_,_,by simp[bz,cP];exact⟨rfl,rfl⟩⟩
 |p::l,R,n,b,h=>by
  have q1:=e1;have q2:=e2;have M:=e3;have q4:=e4;have q5:=e5;have Z:=e6;have q7:=e7;have Y:R.length<1000000:=by omega
  simp only[bm]at h;cases p with
  |op=>
   obtain⟨j,x3,J⟩:=qz (GP:=GP) l R n true (by omega);have I:turn (gN 4) [4] bU (EE .op) [some GP,some (.lst (R.map JE)),some (.int (n:Nat)),some (.bl b),none]=some [some GP,some (.lst (R.map JE)),some (.int (n:Nat)),some (.bl true),none]:=by
    simp[bA,bU,EE,Ju]
   exact⟨j,x3,by rw[be,dw I];exact J⟩
  |cl lo hi=>
   obtain⟨j,x3,J⟩:=qz (GP:=GP) l R n false (by omega);have I:turn (gN 4) [4] bU (EE (.cl lo hi)) [some GP,some (.lst (R.map JE)),some (.int (n:Nat)),some (.bl b),none]=some [some GP,some (.lst (R.map JE)),some (.int (n:Nat)),some (.bl false),none]:=by
    simp[bA,bU,EE,Ju,q7]
   exact⟨j,x3,by rw[be,dw I];exact J⟩
  |as r=>
   obtain⟨j,x3,J⟩:=qz (GP:=GP) l R (n+1) b (by omega);have I:turn (gN 4) [4] bU (EE (.as r)) [some GP,some (.lst (R.map JE)),some (.int (n:Nat)),some (.bl b),none]=some [some GP,some (.lst (R.map JE)),some (.int ((n+1:Nat):Int)),some (.bl b),none]:=by
    simp[bA,bU,EE,Ju,q2,M,Z]
   exact⟨j,x3,by rw[be,dw I];exact J⟩
  |rw nm U=>
   obtain⟨j,x3,J⟩:=qz (GP:=GP) l (R++[(n+1,b)]) (n+1) b (by simp;omega);have I:turn (gN 4) [4] bU (EE (.rw nm U)) [some GP,some (.lst (R.map JE)),some (.int (n:Nat)),some (.bl b),none]=some [some GP,some (.lst ((R++[(n+1,b)]).map JE)),some (.int ((n+1:Nat):Int)),some (.bl b),none]:=by
    simp[bA,bU,EE,Ju,q4,q5,Y,JE]
   refine⟨j,x3,by rw[be,dw I,J];simp[bz]⟩
noncomputable def pP(l:sD):PV:=.lst (l.map EE)
variable {l:sD}
def Ew(h:l.length<900):gf [pP l]=some (.lst ((bz l 0 false).map JE)):=by
 obtain⟨U,x3,I⟩:=qz (GP:=pP l) l [] 0 false (by simpa using by omega);have M:pP l=.lst (l.map EE):=rfl;simp only[fe,l0]at I;have J:pA [some (pP l),none,none,none,none]=some (.rt (.lst ((bz l 0 false).map JE))):=by
  unfold pA;generalize bU=B at *;rw[M]at I ⊢;have j:cP (gN 4) [4] B (l.map EE) [some (.lst (l.map EE)),some (.lst []),some (.int 0),some (.bl false),none]=_:=I;simp[MR.I0,j]
 simp[gf,J]
noncomputable def heads(l:sD):List Str:=l.map JA
def Pr(p:Pt):PyData.strOk (JA p)=true:=by
 have k1:PyData.strOk ("(" : Str)=true:=by decide +kernel
 have k2:PyData.strOk (")" : Str)=true:=by decide +kernel
 have j:PyData.strOk ("as" : Str)=true:=by decide +kernel
 have I:PyData.strOk ("row" : Str)=true:=by decide +kernel
 cases p with
 |op=>exact k1
 |cl lo hi=>exact k2
 |as r=>exact j
 |rw n b=>exact I
def RZ(l:sD):F5 1 (.lst ((heads l).map .str)):=by
 simp only[F5,dv,heads];rintro x ⟨y,⟨p,_,rfl⟩,rfl⟩;simp[F5,Pr p]
def yK{ce:MR.Env->Option PV}(j:ce=b2 EF (bV 0) (DU 0))(l:sD):cV [none] (gN 0) dX ce (l.map EE)=some ((heads l).map .str):=by
 subst j;rw[heads,im];exact jf _ _ l λp _=>⟨_,rfl,by obtain⟨r,h⟩:=Jt p;simp[h]⟩
noncomputable def jL:Pt->Bool
 |.cl 0 _=>true
 |_=>false
noncomputable def gU(l:sD):Bool:=l.any jL
def Vs(hl:l.length<900)(ok:∀p∈l,LJ p):fG [pP l]=some (.bl (gU l)):=by
 have q2:=e3;have q5:=e5;have Z:=e1;have I:=fL (env:=[none]) (g:=gN 0) (t:=dH) (f:=j4) EE EE jL l λp _=>⟨[some (EE p)],rfl,by
  cases p with
  |op=>simp[dH,EE,jL,Z]
  |cl lo hi=>
   cases lo with
   |zero=>simp[dH,EE,jL]
   |succ k=>
    have:¬ ((k+1:Nat):Int)=0:=by omega
    have h2:¬ ((k:Int)+1=0):=by omega
    simp[dH,EE,jL,h2]
  |as r=>simp[dH,EE,jL,q2]
  |rw n b=>simp[dH,EE,jL,q5],λ_=>by simp[j4]⟩
 have j:l.length<=1000000:=by omega
 have Y:pP l=.lst (l.map EE):=rfl;cases hf:l.filter jL with
 |nil=>
  have J:gU l=false:=by
   unfold gU;cases h:l.any jL with
   |false=>rfl
   |true=>
    obtain⟨p,h1,h2⟩:=h9.mp h;have:p∈l.filter jL:=df.mpr ⟨h1,h2⟩;rw[hf]at this;cases this
  rw[hf]at I;rw[J,Y];simp[fG,mV,MR.I0,j,I]
 |cons p ps=>
  have J:gU l=true:=by
   have:p∈l.filter jL:=by rw[hf];exact av
   have h2:=df.mp this;exact h9.mpr ⟨p,h2.1,h2.2⟩
  rw[hf]at I;rw[J,Y];have he:IZ (.lst (EE p::ps.map EE)) (.lst [])=some false:=nQ (n:=1) (by
   simp only[F5,bi,dv];have U:∀q∈p::ps,LJ q:=λq M=>ok q (by
    have:q∈l.filter jL:=by rw[hf];exact M
    exact(df.mp this).1)
   rintro x (rfl|⟨q,M,rfl⟩)
   ·exact LR (U p av)
   ·exact LR (U q (ap _ M))) (by decide)
  rw[be]at I;simp[fG,mV,MR.I0,j,I,he]
noncomputable def SH(l:sD)(inner:Bool):List (Nat×Bool):=if(!inner&&gU l)=true then(bz l 0 false).filter λz=>!z.2 else bz l 0 false
noncomputable def du(l:sD):Bool:=decide (("(" : Str)∈heads l)&&!decide ((")" : Str)∈heads l)
theorem kY:∀(l:sD) (n:Nat) (b:Bool),(bz l n b).length<=l.length
 |[],_,_=>aI _
 |.op::l,n,_=>by have:=kY l n true;simp[bz];omega
 |.cl _ _::l,n,_=>by have:=kY l n false;simp[bz];omega
 |.as _::l,n,b=>by have:=kY l (n+1) b;simp[bz];omega
 |.rw _ _::l,n,b=>by have:=kY l (n+1) b;simp[bz];omega
def Vt(R:List (Nat×Bool)):F5 2 (.lst (R.map JE)):=by
 simp only[F5,dv];rintro x ⟨z,_,rfl⟩;simp[JE,F5]
def Xw(i:Int):j0 (.int i) (.tup [.int 5,.int 6])=some (decide (i=5\/i=6)):=((Ef (c:=PV.int) (λ_=>rfl) (λa b=>by by_cases h:a=b<;>simp[YN,h]) i [5,6]).2).trans (by simp)
def MO(l:sD)(c:Int)(x4 x5 x6:Option PV):MR.Env:=[some (pP l),some (.int c),some (.lst ((heads l).map .str)),some (.int (c / 9)),x4,x5,x6]
inductive Nx(l:sD):Pt->Prop
 |op:¬ ("(" : Str)∈heads l->Nx l .op
 |cl {lo hi:Nat}:du l=true->(heads l).getLast?≠some "(" -> lo<=hi->1<=hi->hi<=4->Nx l (.cl lo hi)
 |as {r:Nat}{b:Bool}:(r,b)∈SH l (du l)->Nx l (.as r)
 |ro {n:Str}{b:Option Str}:n∈EH->(∀x,b=some x->x∈six)->Nx l (.rw n b)
def zT{h:Str}(j:(heads l).getLast?=some h):Fn ((heads l).map PV.str) (-1)=some (.str h):=by
 have I:0<(heads l).length:=f8.mpr λz=>by rw[z]at j;cases j
 rw[Rr];unfold Fn L9;rw[br (by decide),bS (by omega),ba,show(-1+((heads l).length:Int)).toNat=(heads l).length - 1 by omega,←ng,j];rfl
def R0(c:Int)(hl:l.length<900)(ok:∀p∈l,LJ p):∃q,Nx l q/\gK [pP l,.int c]=some (EE q):=by
 suffices g:∃q,Nx l q/\lJ [some (pP l),some (.int c),none,none,none,none,none]=some (.rt (EE q)) by
  obtain⟨q,hq,hb⟩:=g;refine⟨q,hq,?_⟩;unfold gK;generalize lJ=B at *;simp[hb]
 have hle:l.length<=1000000:=by omega
 have ZJ:=yK (ce:=mW) rfl l;have hO:=oX "(" (heads l);have hC:=oX ")" (heads l);have M:=Vs hl ok;have hrt:=Ew hl;have hrl:=kY l 0 false;unfold lJ;rw[aH (e:=[some (pP l),some (.int c),some (.lst ((heads l).map .str)),none,none,none,none])];rotate_left
 ·generalize mW=ce at *
  simp[pP,MR.I0,hle,ZJ]
 rw[aH (e:=MO l c none none none)];rotate_left
 ·simp[MO]
 rw[aH (e:=MO l c (some (.bl (du l))) none none)];rotate_left
 ·unfold MO du
  generalize pP l=I,(heads l).map PV.str=J at *;by_cases h1:("(" : Str)∈heads l<;>simp[hO,hC,h1]
 rw[aH (e:=MO l c (some (.bl (du l))) (some (.int (c / 9%4))) none)];rotate_left
 ·simp[MO]
 by_cases h7:c%9=7/\¬ ("(" : Str)∈heads l
 ·refine⟨.op,.op h7.2,?_⟩
  rw[kO (p:=EE .op)];unfold MO;generalize pP l=I,(heads l).map PV.str=J at *;simp[h7.1,h7.2,hO,EE]
 rw[aH (e:=MO l c (some (.bl (du l))) (some (.int (c / 9%4))) none)];rotate_left
 ·unfold MO
  generalize pP l=I,(heads l).map PV.str=J at *;by_cases h1:c%9=7
  ·have h2:("(" : Str)∈heads l:=gX λz=>h7 ⟨h1,z⟩
   simp[h1,h2,hO]
  ·simp[h1]
 have OK:du l=true->∃h,(heads l).getLast?=some h:=λk=>⟨_,ft λz=>by unfold du at k;rw[z]at k;simp at k⟩;by_cases h8:c%9=8/\du l=true/\(heads l).getLast?≠some ("(" : Str)
 ·obtain⟨k1,k2,k3⟩:=h8
  obtain⟨h,hh⟩:=OK k2;have hx:¬ h=("(" : Str):=λz=>k3 (by rw[hh,z]);have Oy:=zT hh;obtain⟨lo,Zl,elo⟩:∃lo:Nat,lo<4/\c / 9%4=lo:=⟨(c / 9%4).toNat,by omega,by omega⟩;obtain⟨j,hmx3,hmx⟩:∃j:Nat,(1<=j/\j<=3/\lo<=j)/\OX (.int 1) (.int (lo:Int))=some (.int (j:Nat)):=by
   rcases(show lo=0\/lo=1\/lo=2\/lo=3 by omega)with rfl|rfl|rfl|rfl
   ·exact⟨1,by decide,rfl⟩
   ·exact⟨1,by decide,rfl⟩
   ·exact⟨2,by decide,rfl⟩
   ·exact⟨3,by decide,rfl⟩
  have q1:=pz (c / 9 / 4) (b:=5 - (j:Int)) (by omega);have q2:=mN (c / 9 / 4) (b:=5 - (j:Int)) (by omega);obtain⟨hi,hhi1,Z⟩:∃hi:Nat,(j<=hi/\hi<=4)/\(j:Int)+c / 9 / 4%(5 - (j:Int))=hi:=⟨((j:Int)+c / 9 / 4%(5 - (j:Int))).toNat,by omega,by omega⟩;refine⟨.cl lo hi,.cl k2 k3 (by omega) (by omega) hhi1.2,?_⟩;have MA:0<5 - (j:Int):=by omega
  have hm5:(j:Int)<5:=by omega
  rw[kO (p:=EE (.cl lo hi))];unfold MO;rw[k2,elo];generalize pP l=I,(heads l).map PV.str=J at *;simp[EE,k1,Oy,hx,hmx,hm5,MA,Z,-OX]
 rw[aH (e:=MO l c (some (.bl (du l))) (some (.int (c / 9%4))) none)];rotate_left
 ·unfold MO
  by_cases k1:c%9=8
  ·cases k2:du l with
   |false=>
    generalize pP l=I,(heads l).map PV.str=J at *;simp[k1]
   |true=>
    obtain⟨h,hh⟩:=OK k2;have hx:h=("(" : Str):=gX λz=>h8 ⟨k1,k2,λy=>z (by rw[hh]at y;exact bp y)⟩;have Oy:=zT hh;generalize pP l=I,(heads l).map PV.str=J at *;simp[k1,Oy,hx]
  ·generalize pP l=I,(heads l).map PV.str=J at *
   simp[k1]
 rw[aH (e:=MO l c (some (.bl (du l))) (some (.int (c / 9%4))) (some (.lst ((bz l 0 false).map JE))))];rotate_left
 ·unfold MO
  generalize gf=mr at *;simp[hrt]
 rw[aH (e:=MO l c (some (.bl (du l))) (some (.int (c / 9%4))) (some (.lst ((SH l (du l)).map JE))))];rotate_left
 ·have hc3:=fL (env:=[none]) (g:=gN 0) (t:=jC) (f:=jB) JE JE (λz=>!z.2) (bz l 0 false) λz _=>⟨[some (JE z)],rfl,by simp[jC,JE],λ_=>by simp[jB]⟩
  have hle2:(bz l 0 false).length<=1000000:=by omega
  unfold MO SH;generalize pP l=I,(heads l).map PV.str=J,fG=mw,jC=cc,jB=ce at *;cases hi:du l<;>cases hw:gU l<;>rw[hw]at M<;>simp[M,MR.I0,hle2,hc3]
 have Y:=Xw (c%9);have EJ:=Vt (SH l (du l));have hrm:∀z∈SH l (du l),Nx l (.as z.1):=λz hz=>.as (b:=z.2) hz;have hr6:(SH l (du l)).length<900:=ii (by unfold SH;split;exact dE (k6 _ _) hrl;exact hrl) hl;generalize SH l (du l)=R at *;by_cases h5:(c%9=5\/c%9=6)/\R≠[]
 ·have MA:0<R.length:=f8.mpr h5.2
  have q1:=pz (c / 9) (b:=(R.length:Int)) (by omega);have q2:=mN (c / 9) (b:=(R.length:Int)) (by omega);obtain⟨k,hk,ek⟩:∃k:Nat,k<R.length/\c / 9%(R.length:Int)=k:=⟨(c / 9%(R.length:Int)).toNat,by omega,by omega⟩;have Oy:Fn (R.map JE) (k:Int)=some (.tup [.int (R[k].1:Nat),.bl R[k].2]):=fK (by simp[hk,JE]);have hneq:IZ (.lst (R.map JE)) (.lst [])=some false:=by
   obtain⟨z,zs,hz⟩:=i9 h5.2;rw[hz,be]at EJ ⊢;exact nQ (n:=1) EJ (by decide)
  refine⟨.as R[k].1,hrm _ (ia hk),?_⟩;have hlm:(R.map JE).length=R.length:=ar ..;have U:(0:Int)<(R.length:Int):=by omega
  rw[eP h5.1]at Y;rw[kO (p:=EE (.as R[k].1))];unfold MO;generalize pP l=I,(heads l).map PV.str=J,R.map JE=RP at *;simp[EE,Y,hneq,hlm,MA,U,ek,Oy]
 obtain⟨nm,n1,n2⟩:=zQ (c / 9);obtain⟨bd,b1',b2'⟩:=zR (c / 9 / 8);refine⟨.rw nm bd,.ro n1 b1',?_⟩;rw[aH (e:=MO l c (some (.bl (du l))) (some (.int (c / 9%4))) (some (.lst (R.map JE))))]
 ·unfold MO
  generalize dq=m1,fM=m2 at *;simp[EE,n2,b2']
 ·unfold MO
  generalize pP l=I,(heads l).map PV.str=J at *;by_cases k5:c%9=5\/c%9=6
  ·have hr0:R=[]:=gX λz=>h5 ⟨k5,z⟩
   rw[eP k5]at Y;rw[hr0];simp[Y]
  ·rw[cK k5]at Y
   generalize R.map JE=RP at *;simp[Y]
inductive Gd:List Pt->Prop
 |nil:Gd []
 |snoc {l:sD}{q:Pt}:Gd l->Nx l q->Gd (l++[q])
def Nx.ok{q:Pt}(h:Nx l q):LJ q:=⟨λn b e=>by subst e;cases h with|ro h1 h2=>exact⟨h1,h2⟩⟩
noncomputable def isR:Nat×Pt->Option Nat
 |(n,.rw _ _)=>some n
 |_=>none
abbrev rN(l:sK):List Nat:=l.filterMap isR
def RY:List Nat->List (Nat×Pt)->Prop
 |_,[]=>True
 |S,(n,.rw nm bd)::l=>LJ (.rw nm bd)/\RY (n::S) l
 |S,(_,.as r)::l=>r∈S/\RY S l
 |_,_::_=>False
theorem qC{n:Nat}{q:Pt}(hi:isIt q=true)(j:LJ q):∀{l:sK}{S:qV},RY S l->(∀r,q=.as r->r∈S\/r∈rN l)->RY S (l++[(n,q)])
 |[],S,_,h=>by
  cases q with
  |op=>cases hi
  |cl _ _=>cases hi
  |as r=>exact⟨by simpa using h r rfl,trivial⟩
  |rw _ _=>exact⟨j,trivial⟩
 |(m,.rw _ _)::l,S,o,h=>⟨o.1,qC hi j o.2 λr e=>by
  rcases h r e with z|z
  ·exact .inl (ap _ z)
  ·rcases bi.mp (show r∈m::rN l from z)with z|z
   ·exact .inl (z▸av)
   ·exact .inr z⟩
 |(m,.as _)::l,S,o,h=>⟨o.1,qC hi j o.2 h⟩
 |(_,.op)::_,_,o,_=>o.elim
 |(_,.cl _ _)::_,_,o,_=>o.elim
noncomputable def Pd(z:Nat×Pt):PV:=.tup [.int (z.1:Nat),EE z.2]
def Qs(w n:Nat)(p:Pt):lN (ctE w n (EE p))=some (!isIt p):=by cases p<;>rfl
abbrev rB(b:Bool)(l:sK):List (Nat×Bool):=(rN l).map (·,b)
structure Ct(l:sD)(w:Nat)(a b c:sK):Prop where
 run:∀r,mU lN 0 0 [[],[],[]] (l.map EE++r)=mU lN w (a.length+b.length+c.length) [a.map Pd,b.map Pd,c.map Pd] r
 rt:∀r,bz (l++r) 0 false=(rB false a++(rB true b++rB false c))++bz r (a.length+b.length+c.length) (w == 1)
 oa:RY [] a
 ob:RY (rN a) b
 oc:RY (rN a++if gU l=true then[]else rN b) c
 n:a.length+b.length+c.length<=l.length
 hO:("(" : Str)∈heads l↔w≠0
 hC:(")" : Str)∈heads l↔w=2
 hL:gU l=true->w=2
 w2:w<=2
 b0:w=0->b=[]
 c0:w≠2->c=[]
 bl:w=1->b=[]->(heads l).getLast?=some "("
 bn:w=2->b≠[]
 cl:∀lo hi,.cl lo hi∈l->lo<=hi/\1<=hi/\hi<=4
def Ct.inn{w:Nat}{a b c:sK}(C:Ct l w a b c):du l=decide (w=1):=by
 have h1:=C.hO;have h2:=C.hC;have j:=C.w2;unfold du;rcases(show w=0\/w=1\/w=2 by omega)with e|e|e<;>simp[h1,h2,e]
def WY{p:Pt}(h:isIt p=true):¬ ("(" : Str)=JA p/\¬ (")" : Str)=JA p/\jL p=false:=by cases p<;>first|exact⟨λz=>e2 z.symm,λz=>e3 z.symm,rfl⟩|exact⟨λz=>e4 z.symm,λz=>e5 z.symm,rfl⟩|cases h
def fC(l:sD)(q:Pt):heads (l++[q])=heads l++[JA q]:=by simp[heads]
def Ey(l:sD)(q:Pt):gU (l++[q])=(gU l||jL q):=by simp[gU]
def xf{q:Pt}(h:isIt q=true)(r:sD)(n:Nat)(b:Bool):bz (q::r) n b=rB b [(n+1,q)]++bz r (n+1) b:=by cases q<;>first|rfl|cases h
def Ez(x:Bool)(l m:sK):rB x (l++m)=rB x l++rB x m:=by simp[rB,rN]
set_option tactic.hygienic true in def Ct.it{w:Nat}{a b c:sK}(C:Ct l w a b c){q:Pt}(hi:isIt q=true)(hk:LJ q)(h8:l.length<900)(hr:∀r,q=.as r->∃b,(r,b)∈SH l (du l)):∃a b c,Ct (l++[q]) w a b c:=by
 obtain⟨k1,k2,k3⟩:=WY hi;have hn:=C.n;have I:gU (l++[q])=gU l:=by rw[Ey,k3,qq]
 have eO:("(" : Str)∈heads (l++[q])↔w≠0:=by rw[fC,←C.hO];simp[k1]
 have eC:(")" : Str)∈heads (l++[q])↔w=2:=by rw[fC,←C.hC];simp[k2]
 have U:∀lo hi,.cl lo hi∈l++[q]->lo<=hi/\1<=hi/\hi<=4:=λlo j h=>by
  rcases dS.mp h with z|z
  ·exact C.cl lo j z
  ·rw[←cv.mp z]at hi;cases hi
 have Y:∀r,q=.as r->r∈rN a\/(r∈rN b/\¬ (w=2/\gU l=true))\/r∈rN c:=λr e=>by
  obtain⟨x,Z⟩:=hr r e;have:=C.rt [];rw[cS,show bz [] (a.length+b.length+c.length) (w == 1)=[]from rfl,cS]at this;unfold SH at Z;rw[C.inn,this]at Z;split at Z
  ·simp only[df,dS,dv,lf]at Z
   obtain⟨(⟨y,J,rfl,_⟩|⟨y,J,rfl,rfl⟩|⟨y,J,rfl,_⟩),hb⟩:=Z
   ·exact .inl J
   ·cases hb
   ·exact .inr (.inr J)
  ·rename_i z
   simp only[dS,dv,lf]at Z;rcases Z with⟨y,J,rfl,_⟩|⟨y,J,rfl,_⟩|⟨y,J,rfl,_⟩
   ·exact .inl J
   ·exact .inr (.inl ⟨J,λ⟨w2,lw⟩=>z (by rw[lw,w2];rfl)⟩)
   ·exact .inr (.inr J)
 have step:∀(r:sA) (L:List (List PV)),w<L.length->(L.getD w []).length<900->mU lN w (a.length+b.length+c.length) L (EE q::r)=mU lN w (a.length+b.length+c.length+1) (L.set w (L.getD w []++[Pd (a.length+b.length+c.length+1,q)])) r:=λr L h1 h2=>by
  rw[mU,Qs,hi,ba,br (by decide),bS ⟨h1,by omega⟩];rfl
 have KU:∀r,(l++[q]).map EE++r=l.map EE++(EE q::r):=λr=>by simp
 have Me:∀r,l++[q]++r=l++q::r:=λr=>by simp
 have hw:=C.w2;generalize M:a.length+b.length+c.length+1=N at step;rcases(show w=0\/w=1\/w=2 by omega)with e|e|e
 ·obtain rfl:=C.b0 e
  obtain rfl:=C.c0 (by omega);subst e;simp only[gx,ma]at M hn step;refine⟨a++[(N,q)],[],[],λr=>?_,λr=>?_,qC hi hk C.oa λr e=>?_,trivial,trivial,by simp;omega,eO,eC,λz=>C.hL (I▸z),C.w2,λ_=>rfl,λ_=>rfl,λz=>(by cases z),λz=>(by cases z),U⟩
  ·rw[KU,C.run]
   simp only[gx,ma];rw[step _ _ (by simp) (by simp;omega)];simp[M]
  ·rw[Me,C.rt,xf hi]
   simp[←M,Ez];rfl
  ·rcases Y r e with z|⟨z,_⟩|z
   ·exact .inr z
   ·cases z
   ·cases z
 ·obtain rfl:=C.c0 (by omega)
  subst e;simp only[gx,ma]at M hn step;refine⟨a,b++[(N,q)],[],λr=>?_,λr=>?_,C.oa,qC hi hk C.ob λr e=>?_,trivial,by simp;omega,eO,eC,λz=>C.hL (I▸z),C.w2,λz=>(by cases z),λ_=>rfl,λ_ z=>(by simp at z),λz=>(by cases z),U⟩
  ·rw[KU,C.run]
   simp only[gx,ma];rw[step _ _ (by simp) (by simp;omega)];simp[←M];rfl
  ·rw[Me,C.rt,xf hi]
   simp[←M,Ez];rfl
  ·rcases Y r e with z|⟨z,_⟩|z
   ·exact .inl z
   ·exact .inr z
   ·cases z
 ·subst e
  refine⟨a,b,c++[(N,q)],λr=>?_,λr=>?_,C.oa,C.ob,qC hi hk (by rw[I];exact C.oc) λr e=>?_,by simp;omega,eO,eC,λz=>C.hL (I▸z),C.w2,λz=>(by cases z),λz=>absurd rfl z,λz=>(by cases z),C.bn,U⟩
  ·rw[KU,C.run,step _ _ (by simp) (by simp;omega)]
   simp[←M];rfl
  ·rw[Me,C.rt,xf hi]
   simp[←M,Ez];rfl
  ·rw[I]
   rcases Y r e with z|⟨z,y⟩|z
   ·exact .inl (iP _ z)
   ·exact .inl (dP _ (by rw[br λx=>y ⟨rfl,x⟩];exact z))
   ·exact .inr z
def Gd.ct(h:Gd l)(h8:l.length<900):∃w a b c,Ct l w a b c:=by
 induction h with
 |nil=>exact⟨0,[],[],[],λ_=>rfl,λ_=>rfl,trivial,trivial,trivial,aI _,by simp[heads],by simp[heads],λz=>(by cases z),by omega,λ_=>rfl,λ_=>rfl,λz=>(by cases z),λz=>(by cases z),λ_ _ z=>(by cases z)⟩
 |@snoc l q g hq ih=>
  rw[cb,gp]at h8;obtain⟨w,a,b,c,C⟩:=ih (by omega);have hi:=C.inn;have Z:∀r,(l++[q]).map EE++r=l.map EE++(EE q::r):=λr=>by simp
  have U:∀r,l++[q]++r=l++q::r:=λr=>by simp
  have M:=C.n;have j:∀{w n:Nat} {L r},isIt q=false->mU lN w n L (EE q::r)=mU lN (w+1) n L r:=λe=>by rw[mU,Qs,e];rfl
  cases hq with
  |op I=>
   have e:w=0:=gX λz=>I (C.hO.mpr z);obtain rfl:=C.b0 e;obtain rfl:=C.c0 (by omega);subst e;refine⟨1,a,[],[],λr=>?_,λr=>?_,C.oa,trivial,trivial,by simp at M ⊢;omega,by simp[fC,JA],?_,λz=>?_,by omega,λz=>(by cases z),λ_=>rfl,λ_ _=>by simp[fC,JA],λz=>(by cases z),λlo hi z=>C.cl lo hi (by simpa using z)⟩
   ·rw[Z,C.run,j rfl]
   ·rw[U,C.rt];rfl
   ·have:=C.hC
    simp[fC,JA,this,e7]
   ·have:=C.hL (by simpa[Ey,jL]using z);cases this
  |@cl lo hi Y OK h1 h2 h3=>
   have e:w=1:=by rw[C.inn]at Y;exact g9 Y
   obtain rfl:=C.c0 (by omega);subst e;refine⟨2,a,b,[],λr=>?_,λr=>?_,C.oa,C.ob,trivial,by simp at M ⊢;omega,?_,by simp[fC,JA],λ_=>rfl,by omega,λz=>(by cases z),λ_=>rfl,λz=>(by cases z),λ_ z=>OK (C.bl rfl z),λJ LN z=>?_⟩
   ·rw[Z,C.run,j rfl]
   ·rw[U,C.rt];rfl
   ·have:=C.hO
    simp[fC,this]
   ·rcases dS.mp z with z|z
    ·exact C.cl J LN z
    ·cases cv.mp z;exact⟨h1,h2,h3⟩
  |@as r x hr=>
   obtain⟨a,b,c,C⟩:=C.it (q:=.as r) rfl ⟨λ_ _ z=>(by cases z)⟩ (by omega) λr e=>by cases e;exact⟨x,hr⟩
   exact⟨w,a,b,c,C⟩
  |ro h1 h2=>
   obtain⟨a,b,c,C⟩:=C.it (q:=.rw _ _) rfl (Nx.ok (.ro h1 h2:Nx l _)) (by omega) λr e=>by cases e
   exact⟨w,a,b,c,C⟩
def Vu(q:Pt):NH (EE q)=true:=by
 cases q with
 |op=>rfl
 |cl lo hi=>rfl
 |as r=>rfl
 |rw n b=>cases b<;>rfl
def R3{I:PV}{q:Pt}{c:Int}(h:gK [pP l,.int c]=some (EE q))(Z:l.length<900):
  turn (gN 2) [2] gM (.int c) [some I,some (pP l),none,none]=some [some I,some (pP (l++[q])),none,none]:=by
 have e:pP (l++[q])=.lst (l.map EE++[EE q]):=by simp[pP]
 have j:(l.map EE).length<1000000:=by rw[ar];omega
 have M:pP l=.lst (l.map EE):=rfl;rw[e];rw[M]at h ⊢;unfold gM;have J:=Vu q;generalize gK=mn,l.map EE=U,EE q=Y at *;simp[bA,h,j,J]
noncomputable def tP(l:sD):PV:=.tup (l.map EE)
def Jv(h:Gd l):∀p∈l,LJ p:=by
 induction h with
 |nil=>intro p j;cases j
 |snoc _ J I=>
  intro p j;rcases dS.mp j with z|z
  ·exact I p z
  ·rw[cv.mp z];exact J.ok
def Hq{cs:rL}(hc:cs.length<=6):∃l,(Gd l/\l.length<=8/\l≠[])/\jg [.lst (cs.map .int)]=some (tP l):=by
 obtain⟨l,⟨g,hn⟩,lp⟩:=gA (g:=gN 2) (ds:=[2]) (body:=gM) PV.int (λl:List Pt=>[some (.lst (cs.map .int)),some (pP l),none,none])
  (λr l=>Gd l/\l.length+r.length<=6)
  (by
   rintro c r l ⟨i1,i3⟩;simp only[bm]at i3;obtain⟨q,hq,hm⟩:=R0 c (l:=l) (by omega) (Jv i1);exact⟨l++[q],⟨.snoc i1 hq,by simp;omega⟩,R3 hm (by omega)⟩)
  cs [] ⟨.nil,by simpa using hc⟩
 simp only[gx,ma]at hn;obtain⟨j,g1,n1,k1,i1,a1,o1⟩:∃j,Gd j/\j≠[]/\j.length<=7/\du j=du l/\(heads j).getLast?≠some ("(" : Str)/\(((l=[]\/(heads l).getLast?=some ("(" : Str))/\j=l++[.rw "x" (some "a")])\/(l≠[]/\(heads l).getLast?≠some ("(" : Str))/\j=l):=by
  by_cases z:l=[]\/(heads l).getLast?=some ("(" : Str)
  ·refine⟨_,.snoc g (.ro (n := "x") (b:=some "a") (by simp[EH]) λx U=>by cases U;simp[six]),by simp,by simp;omega,?_,by rw[fC];simp[JA,e4],.inl ⟨z,rfl⟩⟩
   have h4:¬ (("(" : Str) = "row"):=λz=>e4 z.symm;have h5:¬ ((")" : Str) = "row"):=λz=>e5 z.symm;unfold du;rw[fC];simp[JA,h4,h5]
  ·have y:=not_or.mp z
   exact⟨l,g,y.1,by omega,rfl,y.2,.inr ⟨y,rfl⟩⟩
 have hO:=oX "(" (heads l);have hC:=oX ")" (heads l);have Z:=yK (ce:=mX) rfl l;have hle:l.length<=1000000:=by omega
 suffices q:∃I,(Gd I/\I.length<=8/\I≠[])/\lK [some (.lst (cs.map .int)),none,none,none]=some (.rt (tP I)) by
  obtain⟨I,h,e⟩:=q;refine⟨I,h,?_⟩;unfold jg;generalize lK=B at *;simp[e]
 unfold lK;rw[aH (e:=[some (.lst (cs.map .int)),some (pP []),none,none])];rotate_left
 ·simp[pP]
 rw[aH (e:=[some (.lst (cs.map .int)),some (pP l),none,none])];rotate_left
 ·generalize gM=B,pP l=P1,pP []=P0 at *
  simp[MR.I0,lp]
 rw[aH (e:=[some (.lst (cs.map .int)),some (pP l),none,some (.lst ((heads l).map .str))])];rotate_left
 ·unfold pP
  generalize mX=ce at *;simp[MR.I0,hle,Z]
 rw[aH (e:=[some (.lst (cs.map .int)),some (pP j),none,some (.lst ((heads l).map .str))])];rotate_left
 ·have hl:(l.map EE).length<1000000:=by rw[ar];omega
  by_cases hz:l=[]
  ·subst hz
   rcases o1 with⟨_,rfl⟩|⟨z,_⟩
   ·simp[pP,heads,EE,P8]
   ·exact absurd rfl z.1
  ·have EJ:=RZ l
   have He:heads l≠[]:=by simpa[heads]using hz
   obtain⟨h,Y⟩:∃h,(heads l).getLast?=some h:=⟨_,ft He⟩;have Oy:=zT Y;have J:IZ (.lst ((heads l).map .str)) (.lst [])=some false:=by
    obtain⟨y,ys,hy⟩:=i9 He;rw[hy,be]at EJ ⊢;exact nQ (n:=0) EJ (by decide)
   unfold pP;generalize (heads l).map PV.str=HP at *;rcases o1 with⟨z,rfl⟩|⟨z,rfl⟩
   ·have U:h=("(" : Str):=by rw[Y]at z;simpa[hz]using z
    rw[de,show[Pt.rw "x" (some "a")].map EE=[.tup [.str "row",.str "x",.str "a"]]from rfl];generalize l.map EE=M at *;simp[J,Oy,U,hl]
   ·have U:¬ h=("(" : Str):=λy=>z.2 (by rw[Y,y])
    generalize j.map EE=M at *;simp[J,Oy,U]
 have hll:(j.map EE).length<1000000:=by rw[ar];omega
 cases q:du l with
 |true=>
  refine⟨j++[.cl 1 2],⟨.snoc g1 (.cl (by rw[i1,q]) a1 (by decide) (by decide) (by decide)),by simp;omega,by simp⟩,?_⟩;unfold du at q;rw[cE]at q;have k1:("(" : Str)∈heads l:=g9 q.1;have k2:¬ (")" : Str)∈heads l:=by simpa using q.2
  rw[aH (e:=[some (.lst (cs.map .int)),some (.lst (j.map EE++[.tup [.str ")",.int 1,.int 2]])),none,some (.lst ((heads l).map .str))])]
  ·have:(j.map EE).length+1<=1000000:=by omega
   rw[tP,de,show[Pt.cl 1 2].map EE=[.tup [.str ")",.int 1,.int 2]]from rfl];generalize j.map EE=M at *;simp[this]
  ·unfold pP
   generalize (heads l).map PV.str=HP,j.map EE=M at *;simp[hO,hC,k1,k2,hll]
 |false=>
  refine⟨j,⟨g1,by omega,n1⟩,?_⟩;rw[aH (e:=[some (.lst (cs.map .int)),some (pP j),none,some (.lst ((heads l).map .str))])]
  ·have:(j.map EE).length<=1000000:=by omega
   unfold pP tP;generalize j.map EE=M at *;simp[this]
  ·generalize pP j=M,(heads l).map PV.str=HP at *
   unfold du at q;by_cases k1:("(" : Str)∈heads l
   ·have k2:(")" : Str)∈heads l:=by
     rw[eP k1]at q;simpa using q
    simp[hO,hC,k1,k2]
   ·simp[hO,k1]
noncomputable def NJ(t:Nat)(z:Nat×Pt):PV:=.tup [.int (z.1:Nat),EE z.2,.int (t:Nat)]
noncomputable def mid(b:sK):Nat->List PV
 |0=>[]
 |T+1=>mid b T++b.map (NJ (T+1))
def Hr(b:sK)(T:Nat):(mid b T).length=T*b.length:=by
 induction T with
 |zero=>simp[mid]
 |succ T j=>rw[mid,cb,j,ar,pf]
def xg{env:MR.Env}{ce:MR.Env->Option PV}{t:Nat}(l:sK)(h:∀x y:PV,∃e,gT [0,1] (.tup [x,y]) env=some e/\ce e=some (.tup [x,y,.int (t:Nat)])):
  cV env (gT [0,1]) dX ce (l.map Pd)=some (l.map (NJ t)):=jf Pd _ l λz _=>h _ _
abbrev Yu(FP TP:PV)(a b c:sK)(k:Nat):MR.Env:=[some FP,some TP,some (.lst [.lst (a.map Pd),.lst (b.map Pd),.lst (c.map Pd)]),some (.lst (a.map (NJ 0)++mid b k)),none]
theorem EY{FP TP:PV}{a b c:sK}(U:a.length<=8)(J:b.length<=8):∀n k,k+n<=4->cP (gN 4) [4] nU ((List.range' k n).map λk=>PV.int (((1:Nat)+k:Nat):Nat)) (Yu FP TP a b c k)=some (.nx (Yu FP TP a b c (k+n)))
 |0,k,_=>rfl
 |n+1,k,h=>by
  have Z:=EY (FP:=FP) (TP:=TP) (c:=c) U J n (k+1) (by omega);rw[List.range'_succ,be,dw (env':=Yu FP TP a b c (k+1)),Z,show k+1+n=k+(n+1) by omega];have M:=xg (env:=[none,none,some (.int ((1+k:Nat):Nat))]) (ce:=nT) (t:=1+k) b λx y=>⟨_,rfl,by simp[nT]⟩;have I:b.length<=1000000:=by omega
  have hm:=Hr b k;have:k*b.length<=4*8:=Nat.mul_le_mul (by omega) J;have j:a.length+(mid b k).length+b.length<=1000000:=by omega
  have Y:mid b (k+1)=mid b k++b.map (NJ (1+k)):=by rw[Nat.add_comm 1 k];rfl
  rw[Yu,Yu,Y,←gv];unfold nU;generalize nT=ce,1+k=z at *;simp[bA,MR.I0,I,M,j]
def Vv{w:Nat}{a b c:sK}(C:Ct l w a b c)(hl:l.length<=8){T:Nat}(hT:T<=4):oV [tP l,.int (T:Nat)]=some (.lst (a.map (NJ 0)++mid b T++c.map (NJ 0))):=by
 have hn:=C.n;have hc:jN [tP l]=some (.lst [.lst (a.map Pd),.lst (b.map Pd),.lst (c.map Pd)]):=by
  have:=C.run [];rw[cS]at this;unfold jN tP zM;dsimp only;rw[this];rfl
 have j:=EY (FP:=tP l) (TP:=.int (T:Nat)) (a:=a) (b:=b) (c:=c) (by omega) (by omega) T 0 (by omega);generalize tP l=FP at *;have J:=xg (env:=[none,none]) (ce:=nR) (t:=0) a λx y=>⟨_,rfl,by simp[nR]⟩;have I:=xg (env:=[none,none]) (ce:=nW) (t:=0) c λx y=>⟨_,rfl,by simp[nW]⟩;have Z:a.length<=1000000:=by omega
 have M:c.length<=1000000:=by omega
 have hm:=Hr b T;have:T*b.length<=4*8:=Nat.mul_le_mul hT (by omega);have U:a.length+(mid b T).length+c.length<=1000000:=by omega
 have Y:ML 1=true:=F9 (by omega) (by omega);have r2:ML ((T:Int)+1)=true:=F9 (by omega) (by omega);have hr:cX 1 ((T:Int)+1)=(List.range' 0 T).map λk=>PV.int (((1:Nat)+k:Nat):Nat):=by
  unfold cX;rw[show((T:Int)+1 - 1).toNat=T by omega,p4];exact hW λk _=>by simp
 rw[qv]at j;suffices q:qU [some FP,some (.int (T:Nat)),none,none,none]=some (.rt (.lst (a.map (NJ 0)++mid b T++c.map (NJ 0)))) by
  unfold oV;generalize qU=B at *;simp[q]
 unfold qU;rw[aH (e:=[some FP,some (.int (T:Nat)),some (.lst [.lst (a.map Pd),.lst (b.map Pd),.lst (c.map Pd)]),none,none])];rotate_left
 ·generalize jN=m at *
  simp[hc]
 rw[aH (e:=Yu FP (.int (T:Nat)) a b c 0)];rotate_left
 ·rw[Yu,mid,cS]
  generalize nR=ce at *;simp[MR.I0,Z,J]
 rw[aH (e:=Yu FP (.int (T:Nat)) a b c T)]
 ·unfold Yu
  generalize nW=ce at *;simp[MR.I0,M,I,U]
 ·unfold Yu at j ⊢
  generalize nU=B' at *;simp only[Rc,Uk,Ib,Bu,Qf,ba,iR,kF,oC,Y,r2,Bool.and_self,fE,hr];exact j
abbrev Bd:=Option (Str×Nat)
structure Rw where
 nm:Str
 bd:Bd
 bk:Option Nat
abbrev sF:=List Rw
noncomputable def JI:Bd->PV
 |none=>.Ee
 |some x=>.tup [.str x.1,.int (x.2:Nat)]
noncomputable def MB:Option Nat->PV
 |none=>.Ee
 |some k=>.int (k:Nat)
noncomputable def EL(r:Rw):PV:=.tup [.str r.nm,JI r.bd,MB r.bk]
structure F0(rs:sF):Prop where
 n:rs.length<=47
 nm:∀r∈rs,r.nm∈EH
 bd:∀r∈rs,∀x,r.bd=some x->PyData.strOk x.1=true
 bk:∀(k:Nat) (r:Rw) (p:Nat),rs[k]?=some r->r.bk=some p->p<k/\r.bd=none/\∃q:Rw,rs[p]?=some q/\q.bk=none
noncomputable def ltr(x:Str):Bool:=decide (x∈(["a","b","c","z"]:rj))
def Vw{x:Str}(h:x∈six):jh [.str x]=some (.bl (ltr x)):=by
 have j:x.length=1:=by
  simp only[six,bi,bt,eI]at h;rcases h with e|e|e|e|e|e<;>subst e<;>decide +kernel
 have hi:(!(Builtin.Str.occurrences ("abcdefghijklmnopqrstuvwxyz" : Str) x 0 ("abcdefghijklmnopqrstuvwxyz" : Str).length 1).isEmpty)=ltr x:=by
  simp only[six,bi,bt,eI]at h;rcases h with e|e|e|e|e|e<;>subst e<;>decide +kernel
 have h1:IZ (.int 1) (.int 1)=some true:=by simp[IZ]
 unfold jh u5;rw[←hi];simp[j,h1]
def bdB(bd:Option Str)(t:Nat):Bd:=bd.map λx=>(x,if ltr x=true then t else 0)
def Vx{j:Option Str}{t:Nat}(h:∀x,j=some x->x∈six):lO [P8 j,.int (t:Nat)]=some (JI (bdB j t)):=by
 unfold lO yG;cases j with
 |none=>simp[P8,JI,bdB]
 |some x=>
  have I:=Vw (h x rfl);generalize jh=m at *;cases q:ltr x<;>rw[q]at I<;>simp[P8,JI,bdB,I,q]
abbrev Sa(FP TP:PV)(R:sF)(kvs:List (Key×PV)):MR.Env:=[some FP,some TP,some (.lst (R.map EL)),some (.dK kvs),none,none,none,none]
def Vy{FP TP:PV}{R:sF}{kvs:List (Key×PV)}{n t:Nat}{M:Str}{j:Option Str}(U:∀x,j=some x->x∈six)(hR:R.length<900)(hk:kvs.length<900):
  turn (gT [4,5,6]) [4,5,6,7] bW (NJ t (n,.rw M j)) (Sa FP TP R kvs)=some (Sa FP TP (R++[⟨M,bdB j t,none⟩]) (cu kvs (.inl (n:Int)) (.int (R.length:Nat)))):=by
 have h:=Vx (t:=t) U;have I:R.length<1000000:=by omega
 have J:R.length<=1000000:=by omega
 have Y:kvs.length<1000000:=by omega
 unfold bW NJ;generalize lO=m at *;simp only[EE,Sa,de,be,fe,EL,MB];generalize JI (bdB j t)=Z,P8 j=BP at *;simp[bA,h,I,J,Y]
def Vz{FP TP:PV}{R:sF}{kvs:List (Key×PV)}{n t r p:Nat}{q:Rw}(J:aZ kvs (.inl (r:Int))=some (.int (p:Nat)))(M:R[p]?=some q)(U:R.length<900):
  turn (gT [4,5,6]) [4,5,6,7] bW (NJ t (n,.as r)) (Sa FP TP R kvs)=some (Sa FP TP (R++[⟨q.nm,none,some p⟩]) kvs):=by
 have j:R.length<1000000:=by omega
 have I:Fn (R.map EL) (p:Int)=some (EL q):=pX (by rw[cm,M];rfl);have q:=e6;unfold bW NJ;simp only[EE,Sa,de,be,fe,EL,MB,JI]at I ⊢;simp[bA,J,I,j,q]
structure RI(P:Nat->Prop)(R:sF)(kvs:List (Key×PV)):Prop where
 o:F0 R
 k:kvs.length<=R.length
 d:∀i,P i->∃(p:Nat) (q:Rw),aZ kvs (.inl (i:Int))=some (.int (p:Nat))/\R[p]?=some q/\q.bk=none
def Hs{R:sF}{x:Rw}(O:F0 R)(hn:R.length<47)(h1:x.nm∈EH)(h2:∀y,x.bd=some y->PyData.strOk y.1=true)(Z:∀p,x.bk=some p->x.bd=none/\∃q:Rw,R[p]?=some q/\q.bk=none):F0 (R++[x]):=by
 have M:∀{p:Nat}{q:Rw},R[p]?=some q->p<R.length:=λh=>(al.mp h).1;have U:∀r∈R++[x],r∈R\/r=x:=λr j=>by simpa using j
 refine⟨by simp;omega,λr j=>?_,λr j=>?_,λk r p j Y=>?_⟩
 ·rcases U r j with z|z
  ·exact O.nm r z
  ·rw[z];exact h1
 ·rcases U r j with z|z
  ·exact O.bd r z
  ·rw[z];exact h2
 ·rcases Nat.lt_trichotomy k R.length with z|z|z
  ·rw[cw z]at j
   obtain⟨k1,k2,q,I,J⟩:=O.bk k r p j Y;exact⟨k1,k2,q,by rw[cw (M I)];exact I,J⟩
  ·subst z
   have e:x=r:=by simpa using j
   subst e;obtain⟨k2,q,I,J⟩:=Z p Y;exact⟨M I,k2,q,by rw[cw (M I)];exact I,J⟩
  ·rw[eJ (by simp;omega)]at j;cases j
theorem sec{FP TP:PV}{t:Nat}:∀(l:sK){S:qV}{P:Nat->Prop}{R:sF}{kvs:List (Key×PV)},RY S l->(∀i∈S,P i)->RI P R kvs->R.length+l.length<=47->
  ∃j M,RI (λi=>P i\/i∈rN l) j M/\j.length=R.length+l.length/\∀rest,cP (gT [4,5,6]) [4,5,6,7] bW (l.map (NJ t)++rest) (Sa FP TP R kvs)=cP (gT [4,5,6]) [4,5,6,7] bW rest (Sa FP TP j M)
 |[],S,P,R,kvs,_,_,I,_=>⟨R,kvs,⟨I.o,I.k,λi h=>h.elim (I.d i) λz=>(by cases z)⟩,rfl,λ_=>rfl⟩
 |(n,.rw nm bd)::l,S,P,R,kvs,o,hS,I,hl=>by
  simp only[bm]at hl;have hk:=I.k;obtain⟨b1',U⟩:=o.1.nm nm bd rfl;have I':RI (λi=>P i\/i=n) (R++[⟨nm,bdB bd t,none⟩]) (cu kvs (.inl (n:Int)) (.int (R.length:Nat))):=by
   refine⟨Hs I.o (by omega) b1' (λy Y=>?_) (λp hp=>by cases hp),?_,λi hi=>?_⟩
   ·cases bd with
    |none=>cases Y
    |some x=>cases Y;exact LQ x (U x rfl)
   ·have:=m6 kvs (.inl (n:Int)) (.int (R.length:Nat))
    simp;omega
   ·rw[jn]
    by_cases e:i=n
    ·subst e
     exact⟨_,⟨nm,bdB bd t,none⟩,bS rfl,by simp,rfl⟩
    ·obtain⟨p,q,k1,k2,k3⟩:=I.d i (hi.resolve_right e)
     exact⟨p,q,by rw[br λz=>e (by have:=qB z;omega)];exact k1,by rw[cw (al.mp k2).1];exact k2,k3⟩
  obtain⟨j,M,J,Z,jr⟩:=sec (FP:=FP) (TP:=TP) l o.2 (P:=λi=>P i\/i=n) (λi hi=>(bi.mp hi).elim .inr λz=>.inl (hS i z)) I' (by simp;omega);refine⟨j,M,⟨J.o,J.k,λi hi=>J.d i ?_⟩,by rw[Z];simp;omega,λrest=>?_⟩
  ·rcases hi with z|z
   ·exact .inl (.inl z)
   ·rcases bi.mp (show i∈n::rN l from z)with z|z
    ·exact .inl (.inr z)
    ·exact .inr z
  ·rw[be,oo,dw (Vy U (by omega) (by omega)),jr]
 |(n,.as r)::l,S,P,R,kvs,o,hS,I,hl=>by
  simp only[bm]at hl;obtain⟨p,q,k1,k2,k3⟩:=I.d r (hS r o.1);have I':RI P (R++[⟨q.nm,none,some p⟩]) kvs:=⟨Hs I.o (by omega) (I.o.nm q (b9 k2)) (λy Y=>by cases Y) (λp' hp=>by cases hp;exact⟨rfl,q,k2,k3⟩),by have:=I.k;simp;omega,λi hi=>by
   obtain⟨p,q,j1,j2,j3⟩:=I.d i hi;exact⟨p,q,j1,by rw[cw (al.mp j2).1];exact j2,j3⟩⟩
  obtain⟨j,M,J,Z,jr⟩:=sec (FP:=FP) (TP:=TP) l o.2 hS I' (by simp;omega);exact⟨j,M,J,by rw[Z];simp;omega,λrest=>by rw[be,oo,dw (Vz k1 k2 (by omega)),jr]⟩
 |(_,.op)::_,_,_,_,_,o,_,_,_=>o.elim
 |(_,.cl _ _)::_,_,_,_,_,o,_,_,_=>o.elim
theorem mdS{FP TP:PV}{a b:sK}(Y:RY [] a)(Z:RY (rN a) b):∀T,a.length+T*b.length<=47->
  ∃R kvs,RI (λi=>i∈rN a\/(0<T/\i∈rN b)) R kvs/\R.length=a.length+T*b.length/\∀rest,cP (gT [4,5,6]) [4,5,6,7] bW (a.map (NJ 0)++mid b T++rest) (Sa FP TP [] [])=cP (gT [4,5,6]) [4,5,6,7] bW rest (Sa FP TP R kvs)
 |0,hl=>by
  obtain⟨R,kvs,J,M,U⟩:=sec (FP:=FP) (TP:=TP) (t:=0) a (P:=λ_=>False) (R:=[]) (kvs:=[]) Y (λi hi=>by cases hi) ⟨⟨by simp,λr j=>(by cases j),λr j=>(by cases j),λk r p j=>(by simp at j)⟩,aI _,λi hi=>hi.elim⟩ (by simpa using hl);exact⟨R,kvs,⟨J.o,J.k,λi hi=>J.d i (.inr (hi.resolve_right λz=>absurd z.1 (gE _)))⟩,by simpa using M,λrest=>by rw[mid,cS,U]⟩
 |T+1,hl=>by
  rw[pf]at hl;obtain⟨R,kvs,I,il,ir⟩:=mdS (FP:=FP) (TP:=TP) Y Z T (by omega);obtain⟨R',ME,J,M,U⟩:=sec (FP:=FP) (TP:=TP) (t:=T+1) b Z (λi hi=>.inl hi) I (by omega);exact⟨R',ME,⟨J.o,J.k,λi hi=>J.d i (hi.elim (λz=>.inl (.inl z)) λz=>.inr z.2)⟩,by rw[M,il,pf];omega,λrest=>by rw[mid,←gv,gv,ir,U]⟩
noncomputable def pF(p:Pt):Bool:=decide (JA p=(")" : Str))
noncomputable def bh(l:sD):List Nat:=match l.filter pF with
 |.cl lo hi::_=>List.range' lo (hi+1 - lo)
 |_=>[1]
def VB(hl:l.length<20):gQ [tP l]=some (match l.filter pF with|[]=>.Ee|p::_=>EE p):=by
 have j:=fL (env:=[none]) (g:=gN 0) (t:=gP) (f:=jE) EE EE pF l λp _=>⟨[some (EE p)],rfl,by
  obtain⟨r,e⟩:=Jt p;rw[e];unfold pF;by_cases q:JA p=(")" : Str)
  ·simp[gP,q]
  ·simp[gP,q],λ_=>by simp[jE]⟩
 have Z:tP l=.tup (l.map EE):=rfl;have I:l.length<=1000000:=by omega
 have J:(l.filter pF).length<=1000000:=dE (k6 _ _) I;rw[Z];unfold gQ uZ;generalize gP=cc,jE=ce at *;have U:(l.map EE).length<=1000000:=by rw[ar];exact I
 generalize l.map EE=PP at *;cases q:l.filter pF with
 |nil=>
  rw[q]at j;simp only[fe]at j;simp[MR.I0,U,j]
 |cons p ps=>
  rw[q]at j J;have MA:(0:Int)<((ps.length:Int)+1):=by omega
  simp only[be]at j;have M:ps.length+1<=1000000:=by simpa using J
  have Y:Fn (EE p::ps.map EE) 0=some (EE p):=fK (k:=0) rfl;simp[MR.I0,U,j,MA,M,Y]
def W5{p:Pt}(h:pF p=true):∃lo hi,p=.cl lo hi:=by
 have h:=g9 h;cases p with
 |cl lo hi=>exact⟨_,_,rfl⟩
 |op=>exact(e1 h).elim
 |as r=>exact(e3 h).elim
 |rw n b=>exact(e5 h).elim
structure FD(f:sD):Prop where
 g:Gd f
 l:f.length<=8
 n:f≠[]
def xj(h:FD l):(bh l=[1]/\l.filter pF=[])\/∃lo hi r,l.filter pF=.cl lo hi::r/\bh l=List.range' lo (hi+1 - lo)/\lo<=hi/\1<=hi/\hi<=4/\(gU l=false->1<=lo):=by
 obtain⟨w,a,b,c,C⟩:=h.g.ct (by have:=h.l;omega);cases q:l.filter pF with
 |nil=>exact .inl ⟨by unfold bh;rw[q],rfl⟩
 |cons p r=>
  have j:=df.mp (show p∈l.filter pF by rw[q];exact av);obtain⟨lo,hi,rfl⟩:=W5 j.2;obtain⟨h1,h2,I⟩:=C.cl lo hi j.1;refine .inr ⟨lo,hi,r,rfl,by unfold bh;rw[q],h1,h2,I,λz=>?_⟩;cases lo with
  |zero=>
   have:=ny.mp z _ j.1;exact absurd rfl this
  |succ k=>omega
def t8(h:FD l):eN [tP l]=some (.lst ((bh l).map λk=>.int (k:Nat))):=by
 have J:=h.l;have j:=VB (l:=l) (by omega);unfold eN v_;rcases xj h with⟨e1,e2⟩|⟨lo,hi,r,e1,e2,h1,h2,h3,_⟩
 ·rw[e2]at j
  rw[e1];generalize tP l=FP,gQ=m at *;simp[j]
 ·rw[e1]at j
  rw[e2];generalize tP l=FP,gQ=m at *;have k1:(lo:Int)<=(hi:Int)+1:=by omega
  have k2:(hi:Int)+1<=1000000:=by omega
  have I:((hi:Int)+1 - (lo:Int)).toNat=hi+1 - lo:=by omega
  simp[j,EE,k1,k2,I]
def Ht(h:FD l):∃a b:Nat,(bh l=[1]\/b≠0)/\∀T∈bh l,∃M,F0 M/\M.length=a+T*b/\bI [tP l,.int (T:Nat)]=some (.lst (M.map EL)):=by
 have hl:=h.l;obtain⟨w,a,b,c,C⟩:=h.g.ct (by omega);have hn:=C.n;have Z:=xj h;refine⟨a.length+c.length,b.length,?_,λT Y=>?_⟩
 ·rcases Z with z|⟨lo,hi,r,e,_⟩
  ·exact .inl z.1
  ·refine .inr λz=>C.bn (C.hC.mp ?_) (ic z)
   have hp:=df.mp (show Pt.cl lo hi∈l.filter pF by rw[e];exact av);exact dv.mpr ⟨_,hp.1,rfl⟩
 ·have j:T<=4/\(gU l=false->0<T):=by
   rcases Z with z|⟨lo,hi,r,_,e,_,_,h3,h4⟩
   ·rw[z.1,cv]at Y
    omega
   ·rw[e,List.mem_range'_1]at Y
    exact⟨by omega,λz=>by have:=h4 z;omega⟩
  have hc:=Vv C hl j.1;have:T*b.length<=4*b.length:=Nat.mul_le_mul_right _ j.1;obtain⟨R,kvs,I,il,ir⟩:=mdS (FP:=tP l) (TP:=.int (T:Nat)) C.oa C.ob T (by omega);obtain⟨U,ME,J,jl,jr⟩:=sec (FP:=tP l) (TP:=.int (T:Nat)) (t:=0) c C.oc (λi hi=>by
   rcases dS.mp hi with z|z
   ·exact .inl z
   ·split at z
    ·cases z
    ·exact .inr ⟨j.2 (by simp_all),z⟩) I (by omega)
  refine⟨U,J.o,by omega,?_⟩;have lp:cP (gT [4,5,6]) [4,5,6,7] bW (a.map (NJ 0)++mid b T++c.map (NJ 0)) (Sa (tP l) (.int (T:Nat)) [] [])=some (.nx (Sa (tP l) (.int (T:Nat)) U ME)):=by
   have:=jr [];rw[cS]at this;rw[ir,this];rfl
  have hb:jR [some (tP l),some (.int (T:Nat)),none,none,none,none,none,none]=some (.rt (.lst (U.map EL))):=by
   unfold jR;generalize oV=m,bW=B,a.map (NJ 0)++mid b T++c.map (NJ 0)=CP at *;simp only[Sa,fe]at lp;simp[hc,MR.I0,lp]
  unfold bI;generalize jR=B at *;simp[hb]
noncomputable def aP(l:sD)(T:Nat):List Rw:=Classical.epsilon λrs=>F0 rs/\bI [tP l,.int (T:Nat)]=some (.lst (rs.map EL))
def Hu(h:FD l){T:Nat}(I:T∈bh l):F0 (aP l T)/\bI [tP l,.int (T:Nat)]=some (.lst ((aP l T).map EL)):=by
 obtain⟨_,_,_,e⟩:=Ht h;obtain⟨j,o,_,e⟩:=e T I;exact pi (p:=λj=>F0 j/\bI [tP l,.int (T:Nat)]=some (.lst (j.map EL))) ⟨j,o,e⟩
def pU(h:FD l){T:Nat}(j:T∈bh l):F0 (aP l T):=(Hu h j).1
def yL(h:FD l){T:Nat}(j:T∈bh l):bI [tP l,.int (T:Nat)]=some (.lst ((aP l T).map EL)):=(Hu h j).2
def R4(h:FD l){T J:Nat}(I:T∈bh l)(j:J∈bh l)(e:(aP l T).length=(aP l J).length):aP l T=aP l J:=by
 obtain⟨a,b,M,x⟩:=Ht h;have len:∀T∈bh l,(aP l T).length=a+T*b:=λT I=>by
  obtain⟨U,_,o,e⟩:=x T I;rw[yL h I]at e;injection e with e;injection e with e;rw[←o,←ar (f:=EL),e,ar]
 rw[len T I,len J j]at e;rcases M with z|z
 ·rw[z,cv]at I j
  rw[I,j]
 ·rw[Nat.eq_of_mul_eq_mul_right (Nat.pos_of_ne_zero z) (Nat.add_left_cancel e)]
def BL{x y:Bd}(M:∀z,x=some z->PyData.strOk z.1=true)(U:∀z,y=some z->PyData.strOk z.1=true):IZ (JI x) (JI y)=some (decide (x=y)):=by
 have I:∀{a:Str}{i:Nat},PyData.strOk a=true->SeqAt.shaped (.tuple [.str a,.int (i:Nat)])=true:=λ{a i} h=>by simp[SeqAt.shaped,PyData.canLay0,PyData.canLayAll0,PyData.depth,PyData.depthAll,h]
 have J:SeqAt.shaped .none=true:=rfl;rcases x with _|⟨a,i⟩<;>rcases y with _|⟨c,j⟩
 ·rfl
 ·simp[JI,IZ,Sl,TR,toD,fU,J,I (i:=j) (U _ rfl),PyData.eqv]
 ·simp[JI,IZ,Sl,TR,toD,fU,J,I (i:=i) (M _ rfl),PyData.eqv]
 ·have e:((i:Int) == (j:Int))=decide (i=j):=by by_cases h:i=j<;>simp[h]<;>omega
  simp[JI,IZ,Sl,TR,toD,fU,I (i:=i) (M _ rfl),I (i:=j) (U _ rfl),PyData.eqv,PyData.eqvAll,e,Bool.decide_and]
  try rfl
noncomputable def OA(rs:sF)(k:Nat)(bd:Bd):List Nat:=if bd=none then[]else(List.range k).filter λj=>decide ((rs.getD j ⟨⟨#[]⟩,none,none⟩).bd=bd)
variable {rs:sF}
def Jw{k:Nat}{r:Rw}(h:rs[k]?=some r):Fn (rs.map EL) (k:Int)=some (EL r):=pX (by rw[cm,h];rfl)
def VD(O:F0 rs){k:Nat}{r:Rw}(h:rs[k]?=some r):fO [.lst (rs.map EL),.int (k:Nat)]=some (.lst ((OA rs k r.bd).map λj=>.int (j:Nat))):=by
 have hk:=(al.mp h).1;have hn:=O.n;have Z:=Jw h;have hm:r∈rs:=b9 h;have i1:Fn [PV.str r.nm,JI r.bd,MB r.bk] 1=some (JI r.bd):=rfl;cases hb:r.bd with
 |none=>
  rw[hb]at i1;generalize rs.map EL=Y at *;simp[fO,j7,Z,EL,hb,i1,JI,OA]
 |some x=>
  rw[hb]at i1;have hr:MR.ML (k:Int)=true:=MR.F9 (by omega) (by omega);have hq:(cX 0 (k:Int)).length<=1000000:=by rw[fc];simp;omega
  have hc:cV [none,some (JI (some x)),some (.lst (rs.map EL))] (gN 0) jk ji (cX 0 (k:Int))=some ((OA rs k (some x)).map λj=>.int (j:Nat)):=by
   rw[fc];unfold OA;rw[br (by simp)];refine fL (λj:Nat=>PV.int (j:Nat)) (λj:Nat=>PV.int (j:Nat)) _ _ λj hj=>⟨_,rfl,?_,λ_=>by simp[ji]⟩;have hj:=cf.mp hj;have I:j<rs.length:=by omega
   have hg:rs[j]?=some rs[j]:=ax I;have J:=Jw hg;have M:rs[j]∈rs:=ia I;have he:=BL (x:=rs[j].bd) (y:=some x) (O.bd _ M) (λz hz=>O.bd r hm z (by rw[hb];exact hz));have U:rs.getD j ⟨⟨#[]⟩,none,none⟩=rs[j]:=by simp[I]
   have i2:Fn [PV.str rs[j].nm,JI rs[j].bd,MB rs[j].bk] 1=some (JI rs[j].bd):=rfl;rw[U];generalize rs.map EL=Y,JI (some x)=BX at *;simp[jk,J,EL,i2,he]
  generalize rs.map EL=Y,(OA rs k (some x)).map (λj=>PV.int (j:Nat))=BB at *;have hnn:¬ JI (some x)=.Ee:=by simp[JI]
  simp[fO,j7,Z,EL,hb,i1,hr,hq,hc]
theorem o9{F3:Type}{g:PV->MR.Env->Option MR.Env}{ds:qV}{body:MR.Env->Option Out}{env:MR.Env}(c:F3->PV)(v:F3->Option PV):∀(ys:List F3),
  (∀y∈ys,(v y=none/\turn g ds body (c y) env=some env)\/∃w,v y=some w/\∃e1,g (c y) env=some e1/\body e1=some (.rt w))->
  cP g ds body (ys.map c) env=some ((ys.findSome? v).elim (.nx env) .rt)
 |[],_=>rfl
 |y::ys,h=>by
  rcases h y av with⟨k,t⟩|⟨w,hv,e1,h1,h2⟩
  ·have j:=o9 c v ys λz hz=>h z (ap _ hz)
   rw[be,dw t,j,hX,k]
  ·rw[hX,hv]
   simp[cP,h1,h2]
noncomputable def pG(f:sD)(n:Nat):Option (List Rw):=(bh f).findSome? λT=>if(aP f T).length=n then some (aP f T)else none
noncomputable def Pu:Option (List Rw)->PV
 |none=>.Ee
 |some rs=>.lst (rs.map EL)
variable {f:sD}
def t_(h:FD f):(bh f).length<=5:=by
 rcases xj h with z|⟨lo,hi,r,_,e,z⟩
 ·rw[z.1];decide
 ·rw[e,List.length_range'];omega
def VF(h:FD f)(n:Nat):eE [tP f,.int (n:Nat)]=some (Pu (pG f n)):=by
 have hl8:=h.l;have ht:=t8 h;have I:((bh f).map λk=>PV.int (k:Nat)).length<=1000000:=by
  have:=t_ h;rw[ar];omega
 have hz:∀j∈bh f,bI [tP f,.int (j:Nat)]=some (.lst ((aP f j).map EL)):=λj h'=>yL h h';have U:∀j∈bh f,(aP f j).length<=1000000:=λj h'=>by have:=(pU h h').n;omega
 generalize tP f=FP at *;have M:=o9 (g:=gN 2) (ds:=[2,3]) (body:=eX) (env:=[some FP,some (.int (n:Nat)),none,none]) (λk:Nat=>PV.int (k:Nat))
  (λj=>if(aP f j).length=n then some (.lst ((aP f j).map EL))else none) (bh f) (λj h'=>by
   have J:=hz j h';have Sf:((aP f j).map EL).length<=1000000:=by rw[ar];exact U j h'
   have Y:((aP f j).map EL).length=(aP f j).length:=ar ..;by_cases e:(aP f j).length=n
   ·refine .inr ⟨_,bS e,_,rfl,?_⟩
    unfold eX;rw[e]at Y;generalize hR:(aP f j).map EL=R,bI=m at *;rw[←Y];simp[J,Sf]
   ·refine .inl ⟨br e,?_⟩
    have e':¬ (((aP f j).length:Int)=(n:Int)):=by omega
    unfold eX;generalize hR:(aP f j).map EL=R,bI=m at *;simp[bA,J,Sf,Y,e,e',IZ])
 have Z:((bh f).findSome? λj=>if(aP f j).length=n then some (PV.lst ((aP f j).map EL))else none)=(pG f n).map λrs=>.lst (rs.map EL):=by
  unfold pG;rw[List.map_findSome?];congr 1;funext j;simp only[Function.comp];split<;>rfl
 rw[Z]at M;unfold eE qx;generalize eX=B,(bh f).map (λk=>PV.int (k:Nat))=TT,eN=m at *;cases q:pG f n with
 |none=>rw[q]at M;simp[ht,MR.I0,I,M,Pu]
 |some rs=>rw[q]at M;simp[ht,MR.I0,I,M,Pu]
set_option tactic.hygienic true in def Px(h:FD f){T:Nat}(j:T∈bh f):pG f (aP f T).length=some (aP f T):=by
 cases q:pG f (aP f T).length with
 |none=>
  have:=ja.mp q T j;simp at this
 |some v=>
  obtain⟨I,h',e⟩:=eW q;split at e
  ·rename_i z
   cases e;rw[R4 h h' j z]
  ·cases e
set_option tactic.hygienic true in def L_(h:FD f){n:Nat}(q:pG f n=some rs):F0 rs/\rs.length=n:=by
 obtain⟨j,h',e⟩:=eW q;split at e
 ·rename_i z
  cases e;exact⟨pU h h',z⟩
 ·cases e
def FG:Rw:=⟨⟨#[]⟩,none,none⟩
noncomputable def FC(rs:sF)(k:Nat):Nat:=(rs.getD k FG).bk.getD k
def IP(rs:sF)(k:Nat):Bd:=(rs.getD k FG).bd
noncomputable def UN(rs:sF)(k j:Nat):Bool:=decide (FC rs k=FC rs j)||(!decide (IP rs (FC rs k)=none)&&decide (IP rs (FC rs k)=IP rs (FC rs j)))
def lX{k:Nat}(h:k<rs.length):rs[k]?=some (rs.getD k FG):=by simp[h]
def qF{k:Nat}(h:k<rs.length):Fn (rs.map EL) (k:Int)=some (.tup [.str (rs.getD k FG).nm,JI (rs.getD k FG).bd,MB (rs.getD k FG).bk]):=Jw (lX h)
def o_(O:F0 rs){k:Nat}(h:k<rs.length):FC rs k<rs.length:=by
 unfold FC;cases e:(rs.getD k FG).bk with
 |none=>exact h
 |some p=>have:=(O.bk k _ p (lX h) e).1;show p<_;omega
def vU(O:F0 rs){k:Nat}(h:k<rs.length):∀z,IP rs k=some z->PyData.strOk z.1=true:=O.bd _ (b9 (lX h))
def E_(x:Bd):cj (JI x)=decide (x=none):=by cases x<;>rfl
section
variable {rs:sF}{k j:Nat}
def atZ(x y z:PV):Fn [x,y,z] 2=some z:=rfl
def vV(h:k<rs.length):eV [.lst (rs.map EL),.int (k:Nat)]=some (.int (FC rs k:Nat)):=by
 have a:=qF h;unfold FC;cases e:(rs.getD k FG).bk<;>rw[e]at a<;>generalize rs.map EL=I at*<;> simp[eV,u_,a,atZ,MB]
def uc(h:k<rs.length):gw [.lst (rs.map EL),.int (k:Nat)]=some (.int (FC rs k:Nat)):=by
 have a:=qF h;unfold FC;cases e:(rs.getD k FG).bk<;>rw[e]at a<;>generalize rs.map EL=I at*<;> simp[gw,wj,a,atZ,MB]
def yM(a b:Nat):IZ (.int (a:Nat)) (.int (b:Nat))=some (decide (a=b)):=by
 have e:((a:Int)=b)↔a=b:=by omega
 by_cases h:a=b
 ·subst h;simp[IZ]
 ·have h':¬ (a:Int)=b:=λz=>h (e.mp z)
  simp[IZ,h,h']
def Hv(h:k<rs.length)(I:j<rs.length):iQ [.lst (rs.map EL),.int (k:Nat),.int (j:Nat)]=some (.bl (decide (FC rs k=FC rs j))):=by
 have a:=uc h;have b:=uc I;have e:=yM (FC rs k) (FC rs j);generalize rs.map EL=J at *;simp[iQ,wu,a,b,e]
def Py(O:F0 rs)(h:k<rs.length)(I:j<rs.length):jm [.lst (rs.map EL),.int (k:Nat),.int (j:Nat)]=some (.bl (UN rs k j)):=by
 have a:=uc h;have b:=uc I;have s:=Hv h I;have M:=qF (o_ O h);have b1:=qF (o_ O I);have i1:∀x y z:PV,Fn [x,y,z] 1=some y:=λ_ _ _=>rfl;have e:=BL (vU O (o_ O h)) (vU O (o_ O I));have J:=E_ (IP rs (FC rs k));unfold IP at e J;unfold UN IP;generalize rs.map EL=RS,JI (rs.getD (FC rs k) FG).bd=B1,JI (rs.getD (FC rs j) FG).bd=Z,decide ((rs.getD (FC rs k) FG).bd=none)=U,decide ((rs.getD (FC rs k) FG).bd=(rs.getD (FC rs j) FG).bd)=c2,decide (FC rs k=FC rs j)=Y at *;cases Y<;>cases U<;>simp[jm,vf,a,b,s,M,b1,i1,e,J,-cj]
def VG(O:F0 rs)(h:k<rs.length)(I:j<rs.length):iu [.lst (rs.map EL),.int (k:Nat),.int (j:Nat)]=some (.bl (UN rs k j)):=by
 have a:=vV h;have b:=vV I;have s:=yM (FC rs k) (FC rs j);have M:=qF (o_ O h);have b1:=qF (o_ O I);have i1:∀x y z:PV,Fn [x,y,z] 1=some y:=λ_ _ _=>rfl;have e:=BL (vU O (o_ O h)) (vU O (o_ O I));have J:=E_ (IP rs (FC rs k));unfold IP at e J;unfold UN IP;generalize rs.map EL=RS,JI (rs.getD (FC rs k) FG).bd=B1,JI (rs.getD (FC rs j) FG).bd=Z,decide ((rs.getD (FC rs k) FG).bd=none)=U,decide ((rs.getD (FC rs k) FG).bd=(rs.getD (FC rs j) FG).bd)=c2,decide (FC rs k=FC rs j)=Y at *;cases Y<;>cases U<;>simp[iu,qw,a,b,s,M,b1,i1,e,J,-cj]
end
abbrev Y8:=List (Key×PV)
noncomputable def SU(MD:Y8)(a b:Str):Option PV:=(aZ MD (.inr a)).bind λx=>(aZ MD (.inr b)).bind λy=>bc [x,y]
noncomputable def ZK(D9 D4:sF)(k:Nat):Option Nat:=((OA D4 k (IP D4 k)).filter λj=>!UN D9 k j).head?
noncomputable def agn(D9 D4:sF)(k:Nat):Option Nat:=(D4.getD k FG).bk.bind λb=>if FC D9 k=FC D9 b then none else some b
noncomputable def jo(w:Str)(n k:Nat)(x:PV):PV:=.tup [.str w,.int (n:Nat),.int (k:Nat),x]
noncomputable def P9(D9 D4:sF)(k:Nat)(s:PV):PV:=if cj s=false then jo "metre" D9.length k s else match ZK D9 D4 k with
 |some j=>jo "rhyme" D9.length k (.int (j:Nat))
 |none=>match agn D9 D4 k with
  |some b=>jo "again" D9.length k (.int (b:Nat))
  |none=>.Ee
section
variable {MD:Y8}{D9 D4:sF}{k:Nat}{s:PV}
def Ma{j:Nat}(h:j∈OA D4 k (IP D4 k)):j<k:=by
 unfold OA at h;split at h
 ·cases h
 ·exact cf.mp (df.mp h).1
def R5(rs:sF)(k:Nat)(x:Bd):(OA rs k x).length<=k:=by
 unfold OA;split
 ·exact cq _
 ·exact dE (k6 _ _) (by simp)
def VH(h:k<rs.length):(rs.getD k FG).bd=IP rs k:=rfl
def Pz(O1:F0 D9)(Z:F0 D4)(hl:D4.length=D9.length)(hk:k<D9.length)(M:SU MD (D9.getD k FG).nm (D4.getD k FG).nm=some s):
  eQ [.dK MD,.lst (D9.map EL),.lst (D4.map EL),.int (k:Nat)]=some (P9 D9 D4 k s):=by
 have U:k<D4.length:=by omega
 have a1:=qF hk;have a2:=qF U;have n1:(D9.map EL).length=D9.length:=ar ..;have l1:D9.length<=1000000:=by have:=O1.n;omega
 have i0:∀x y z:PV,Fn [x,y,z] 0=some x:=λ_ _ _=>rfl;have i2:∀x y z:PV,Fn [x,y,z] 2=some z:=λ_ _ _=>rfl;have eb:=VD Z (lX U);rw[VH U]at eb;have lb:((OA D4 k (IP D4 k)).map λj=>PV.int (j:Nat)).length<=1000000:=by
  have:=R5 D4 k (IP D4 k);have:=Z.n;rw[ar];omega
 have hc:cV [none,some (.lst (D9.map EL)),some (.int (k:Nat))] (gN 0) (tN (tV (aW jm (DZ 1 (DZ 2 (DZ 0 aK)))))) (bV 0) ((OA D4 k (IP D4 k)).map λj=>PV.int (j:Nat))=some (((OA D4 k (IP D4 k)).filter λj=>!UN D9 k j).map λj=>.int (j:Nat)):=by
  refine fL (λj:Nat=>PV.int (j:Nat)) (λj:Nat=>PV.int (j:Nat)) _ _ λj hj=>⟨[some (.int (j:Nat)),some (.lst (D9.map EL)),some (.int (k:Nat))],rfl,?_,λ_=>rfl⟩;have J:=Py O1 hk (show j<D9.length by have:=Ma hj;omega);generalize D9.map EL=RS at *;simp[J]
 have Y:RO bc [.dK MD,.str (D9.getD k FG).nm,.str (D4.getD k FG).nm]=some s:=M;have ag:∀b,(D4.getD k FG).bk=some b->iQ [.lst (D9.map EL),.int (k:Nat),.int (b:Nat)]=some (.bl (decide (FC D9 k=FC D9 b))):=λb J=>Hv hk (by have:=(Z.bk k _ b (lX U) J).1;omega);unfold P9 ZK agn;generalize ((OA D4 k (IP D4 k)).filter λj=>!UN D9 k j)=FR,(OA D4 k (IP D4 k)).map (λj=>PV.int (j:Nat))=BF at *;rw[←n1]at l1 ⊢;generalize D9.map EL=I,D4.map EL=R2,JI (D9.getD k FG).bd=q1,JI (D4.getD k FG).bd=q2,(D9.getD k FG).nm=nm1,(D4.getD k FG).nm=nm2,MB (D9.getD k FG).bk=k1 at *;suffices h:fbF bc (b1 FK (bV 2)) (b2 EF (b2 EF (bV 3) (bV 4)) (DU 2)) (b2 EF (b2 EF (bV 2) (bV 4)) (DU 0)) (b2 EF (b2 EF (bV 3) (bV 4)) (DU 0)) n_ [some (.dK MD),none,some (.lst I),some (.lst R2),some (.int (k:Nat)),none,none,none,none]=some (.rt (if cj s=false then jo "metre" I.length k s else match FR.head? with
 |some j=>jo "rhyme" I.length k (.int (j:Nat))
 |none=>match (D4.getD k FG).bk.bind λb=>if FC D9 k=FC D9 b then none else some b with
  |some b=>jo "again" I.length k (.int (b:Nat))
  |none=>.Ee)) by
  unfold eQ miF;dsimp only;rw[h];rfl
 unfold fbF;refine(aH (e:=[some (.dK MD),none,some (.lst I),some (.lst R2),some (.int (k:Nat)),some (.int (I.length:Nat)),none,none,none]) (by simp[l1])).trans ?_;refine(aH (e:=[some (.dK MD),none,some (.lst I),some (.lst R2),some (.int (k:Nat)),some (.int (I.length:Nat)),some (MB (D4.getD k FG).bk),none,none]) (by simp[a2,i2])).trans ?_;refine(aH (e:=[some (.dK MD),none,some (.lst I),some (.lst R2),some (.int (k:Nat)),some (.int (I.length:Nat)),some (MB (D4.getD k FG).bk),some s,none]) (by simp[a1,a2,i0,Y])).trans ?_;unfold n_;cases hn:cj s with
 |false=>
  rw[bS rfl];exact kO (by simp[hn,-cj,jo])
 |true=>
  rw[br (by decide)];refine(aH (e:=[some (.dK MD),none,some (.lst I),some (.lst R2),some (.int (k:Nat)),some (.int (I.length:Nat)),some (MB (D4.getD k FG).bk),some s,none]) (by simp[hn,-cj])).trans ?_;refine(aH (e:=[some (.dK MD),none,some (.lst I),some (.lst R2),some (.int (k:Nat)),some (.int (I.length:Nat)),some (MB (D4.getD k FG).bk),some s,some (.lst (FR.map λj=>.int (j:Nat)))]) (by simp[eb,lb,hc])).trans ?_;cases FR with
  |cons j r=>
   refine kO ?_;have i:Fn (PV.int (j:Nat)::r.map λj=>PV.int (j:Nat)) 0=some (.int (j:Nat)):=pX (j:=0) rfl;simp[i,jo]
  |nil=>
   refine(aH (e:=[some (.dK MD),none,some (.lst I),some (.lst R2),some (.int (k:Nat)),some (.int (I.length:Nat)),some (MB (D4.getD k FG).bk),some s,some (.lst [])]) (by simp)).trans ?_;cases J:(D4.getD k FG).bk with
   |none=>simp[MB]
   |some b=>
    have M:=ag b J;by_cases e:FC D9 k=FC D9 b
    ·simp[MB,M,e]
    ·simp[MB,M,e,jo]
end
theorem Jx{F3 HU:Type}(p:F3->Bool)(g:F3->HU):∀l:List F3,(l.findSome? λx=>if p x=true then some (g x)else none)=(l.filter p).head?.map g
 |[]=>rfl
 |x::l=>by
  rw[hX,List.filter_cons];cases h:p x with
  |true=>simp
  |false=>simpa[h]using Jx p g l
section
variable {MD:Y8}{D9 D4:sF}{k:Nat}{s:PV}
noncomputable def rhC(D9 D4:sF)(k j:Nat):Bool:=!decide (IP D4 k=none)&&(decide (IP D4 j=IP D4 k)&&!UN D9 k j)
def VJ:ZK D9 D4 k=((List.range k).filter (rhC D9 D4 k)).head?:=by
 unfold ZK OA rhC;by_cases h:IP D4 k=none
 ·have e:(List.range k).filter (λj=>!decide (IP D4 k=none)&&(decide (IP D4 j=IP D4 k)&&!UN D9 k j))=[]:=pj.mpr λ_ _=>by simp[h]
  rw[bS h,e];rfl
 ·rw[br h,List.filter_filter]
  congr 1
  apply List.filter_congr;intro j _;have e:(D4.getD j ⟨⟨#[]⟩,none,none⟩).bd=IP D4 j:=rfl;rw[e];simp[h,Bool.and_comm]
def R6(O1:F0 D9)(O2:F0 D4)(hl:D4.length=D9.length)(hk:k<D9.length)(U:SU MD (D9.getD k FG).nm (D4.getD k FG).nm=some s):
  i_ [.lst (D9.map EL),.lst (D4.map EL),.dK MD,.int (k:Nat)]=some (P9 D9 D4 k s):=by
 have ZL:k<D4.length:=by omega
 have a1:=qF hk;have Z:=qF ZL;have n1:(D9.map EL).length=D9.length:=ar ..;have J:D9.length<=1000000:=by have:=O1.n;omega
 have i0:∀x y z:PV,Fn [x,y,z] 0=some x:=λ_ _ _=>rfl;have i1:∀x y z:PV,Fn [x,y,z] 1=some y:=λ_ _ _=>rfl;have i2:∀x y z:PV,Fn [x,y,z] 2=some z:=λ_ _ _=>rfl;have hr:MR.ML (k:Int)=true:=MR.F9 (by omega) (by omega);obtain⟨x1,Z5,hs1⟩:=ae.mp U;obtain⟨x2,OW,IQ⟩:=ae.mp hs1;have Y:=o9 (g:=gN 5) (ds:=[5]) (body:=dO) (env:=[some (.lst (D9.map EL)),some (.lst (D4.map EL)),some (.dK MD),some (.int (k:Nat)),some s,none,none]) (λj:Nat=>PV.int (j:Nat))
  (λj=>if rhC D9 D4 k j=true then some (jo "rhyme" D9.length k (.int (j:Nat)))else none) (List.range k) (λj hj=>by
   have hj:=cf.mp hj;have M:=VG O1 hk (show j<D9.length by omega);have a3:=qF (show j<D4.length by omega);have e:=BL (vU O2 (show j<D4.length by omega)) (vU O2 ZL);have e0:=E_ (IP D4 k);unfold IP at e e0;unfold rhC IP;rw[←n1]at J ⊢;generalize D9.map EL=I,D4.map EL=R2,JI (D4.getD k FG).bd=q1,JI (D4.getD j FG).bd=q2,decide ((D4.getD k FG).bd=none)=c1,decide ((D4.getD j FG).bd=(D4.getD k FG).bd)=c2,UN D9 k j=c3 at *;cases c1<;>cases c2<;>cases c3<;>first
    |(refine .inl ⟨rfl,?_⟩;simp[bA,dO,Z,a3,i1,e,e0,M,-cj];done)
    |(refine .inr ⟨_,rfl,_,rfl,?_⟩;simp[dO,Z,a3,i1,e,e0,M,J,jo,-cj]))
 rw[Jx,←VJ,←fc]at Y;have ag:∀b,(D4.getD k FG).bk=some b->eV [.lst (D9.map EL),.int (b:Nat)]=some (.int (FC D9 b:Nat)):=λb M=>vV (by have:=(O2.bk k _ b (lX ZL) M).1;omega);have r1:=vV hk;have hq:(cX 0 (k:Int)).length<=1000000:=by rw[fc];simp;omega
 suffices h:lV [some (.lst (D9.map EL)),some (.lst (D4.map EL)),some (.dK MD),some (.int (k:Nat)),none,none,none]=some (.rt (P9 D9 D4 k s)) by
  unfold i_;simp[h]
 unfold lV;refine(aH (e:=[some (.lst (D9.map EL)),some (.lst (D4.map EL)),some (.dK MD),some (.int (k:Nat)),some s,none,none]) (by
  generalize D9.map EL=I,D4.map EL=R2,(D9.getD k FG).nm=nm1,(D4.getD k FG).nm=nm2 at *;simp[a1,Z,i0,Z5,OW,IQ])).trans ?_
 unfold P9;cases hn:cj s with
 |false=>
  rw[bS rfl];refine kO ?_;rw[←n1]at J ⊢;generalize D9.map EL=I at *;simp[hn,-cj,jo,J]
 |true=>
  rw[br (by decide)];refine(aH (e:=[some (.lst (D9.map EL)),some (.lst (D4.map EL)),some (.dK MD),some (.int (k:Nat)),some s,none,none]) (by simp[hn,-cj])).trans ?_;cases hy:ZK D9 D4 k with
  |some j=>
   rw[hy]at Y;refine kO ?_;generalize D9.map EL=I,D4.map EL=R2,dO=B at *;simp[hr,hq,Y]
  |none=>
   rw[hy]at Y;refine(aH (e:=[some (.lst (D9.map EL)),some (.lst (D4.map EL)),some (.dK MD),some (.int (k:Nat)),some s,none,none]) (by
    generalize D9.map EL=I,D4.map EL=R2,dO=B at *;simp[hr,hq,Y])).trans ?_
   refine(aH (e:=[some (.lst (D9.map EL)),some (.lst (D4.map EL)),some (.dK MD),some (.int (k:Nat)),some s,none,some (MB (D4.getD k FG).bk)]) (by
    generalize D9.map EL=I,D4.map EL=R2 at *;simp[Z,i2])).trans ?_
   unfold agn;rw[←n1]at J ⊢;cases M:(D4.getD k FG).bk with
   |none=>simp[MB]
   |some b=>
    have U:=ag b M;have en:=yM (FC D9 k) (FC D9 b);generalize D9.map EL=I at *;by_cases e:FC D9 k=FC D9 b
    ·rw[←e]at U en
     simp[MB,U,r1,e,en]
    ·simp[MB,U,r1,e,en,jo,J]
end
noncomputable def Yv(sf:Str->Str->PV)(D9 D4:sF)(k:Nat):Option PV:=if cj (P9 D9 D4 k (sf (D9.getD k FG).nm (D4.getD k FG).nm))=true then none else some (P9 D9 D4 k (sf (D9.getD k FG).nm (D4.getD k FG).nm))
noncomputable def ftN(sf:Str->Str->PV)(D9 D4:sF):Option PV:=(List.range D9.length).findSome? (Yv sf D9 D4)
noncomputable def noR(n:Nat):PV:=.tup [.str "rows",.int (n:Nat)]
noncomputable def OM(sf:Str->Str->PV)(one other:sD)(T:Nat):Option PV:=match pG other (aP one T).length with
 |none=>some (noR (aP one T).length)
 |some D4=>ftN sf (aP one T) D4
noncomputable def UO(sf:Str->Str->PV)(one other:sD):Option PV:=(bh one).findSome? (OM sf one other)
structure OB(MD:Y8)(sf:Str->Str->PV):Prop where
 look:∀a∈EH,∃m,aZ MD (.inr a)=some m
 mw:∀a∈EH,∀b∈EH,SU MD a b=some (sf a b)
section
variable {MD:Y8}{sf:Str->Str->PV}{D9 D4:sF}{k:Nat}{one other:sD}
def ud(O:F0 rs)(h:k<rs.length):(rs.getD k FG).nm∈EH:=O.nm _ (b9 (lX h))
theorem Mf(M:OB MD sf)(J:F0 D9)(I:F0 D4)(U:D4.length=D9.length):∀l:List Nat,(∀k∈l,k<D9.length)->fwN eQ (.dK MD) (.lst (D9.map EL)) (.lst (D4.map EL)) l=some ((l.findSome? (Yv sf D9 D4)).getD .Ee)
 |[],_=>rfl
 |k::r,h=>by
  have Y:=h k av;have ih:=Mf M J I U r λj Z=>h j (ap _ Z);have hf:=Pz (MD:=MD) J I U Y (M.mw _ (ud J Y) _ (ud I (by omega)));unfold fwN;rw[hf,ih,hX];rw[ba];unfold Yv;generalize P9 D9 D4 k (sf (D9.getD k FG).nm (D4.getD k FG).nm)=F at *;cases hn:cj F with
  |true=>rfl
  |false=>rfl
def Bb(M:OB MD sf)(h:FD f):fB [.dK MD,tP f]=some .Ee:=by
 have hl:=h.l;have I:=v8 (g:=gN 2) (ds:=[2]) (body:=cN) (env:=[some (.dK MD),some (tP f),none]) EE f (λp Z=>by
  have ok:=Jv h.g p Z;generalize tP f=FP at *;cases p with
  |op=>simp[bA,cN,EE,gc e4]
  |cl lo hi=>simp[bA,cN,EE,gc e5]
  |as r=>simp[bA,cN,EE,e6]
  |rw nm J=>
   obtain⟨m,Y⟩:=M.look nm (ok.nm nm J rfl).1;simp[bA,cN,EE,yE,Y])
 have U:f.length<=1000000:=by omega
 unfold fB pJ;unfold tP at I ⊢;generalize f.map EE=PP,cN=B at *;simp[MR.I0,I]
set_option tactic.hygienic true in theorem Mg(M:OB MD sf)(h1:FD one)(h2:FD other):∀l:List Nat,(∀T∈l,T∈bh one)->fwT bI eE eQ (.dK MD) (tP one) (tP other) (l.map λk=>.int (k:Nat))=some ((l.findSome? (OM sf one other)).getD .Ee)
 |[],_=>rfl
 |T::r,h=>by
  have U:=h T av;have ih:=Mg M h1 h2 r λj hj=>h j (ap _ hj);have hr:=yL h1 U;have J:=VF h2 (aP one T).length;have Y:=pU h1 U;have hn:=Y.n;have n1:((aP one T).map EL).length=(aP one T).length:=ar ..;rw[be];unfold fwT;rw[hr,hX];cases q:pG other (aP one T).length with
  |none=>
   have e:OM sf one other T=some (noR (aP one T).length):=by unfold OM;rw[q]
   rw[q]at J;rw[e];show(if((aP one T).map EL).length<=1000 then _ else none)=_;rw[n1,bS (by omega),J];rfl
  |some D4=>
   obtain⟨O2,Z⟩:=L_ h2 q;rw[q]at J;have hw:=Mf M Y O2 Z (List.range (aP one T).length) λk I=>cf.mp I;show(if((aP one T).map EL).length<=1000 then _ else none)=_;rw[n1,bS (by omega),J];show((fwN eQ (.dK MD) _ (.lst (D4.map EL)) (List.range (aP one T).length)).bind _)=_;have e:OM sf one other T=(List.range (aP one T).length).findSome? (Yv sf (aP one T) D4):=by unfold OM;rw[q];rfl
   rw[hw,e];cases z:(List.range (aP one T).length).findSome? (Yv sf (aP one T) D4)with
   |none=>exact ih
   |some x=>
    obtain⟨k,_,I⟩:=eW z;have hx:cj x=false:=by
     unfold Yv at I;split at I
     ·cases I
     ·cases I;rename_i y;simpa[-cj]using y
    show(if cj x=true then _ else some x)=_;rw[hx];rfl
def Jy(M:OB MD sf)(h1:FD one)(h2:FD other):eG [tP one,tP other,.dK MD]=some ((UO sf one other).getD .Ee):=by
 have U:=h1.l;have J:=t8 h1;have:=t_ h1;have I:=Mg M h1 h2 (bh one) λ_ h=>h;unfold eG Jq;dsimp only;rw[Bb M h1,Bb M h2,J];show(if((bh one).map λk=>PV.int (k:Nat)).length<=1000 then _ else none)=_;rw[bS (by rw[ar];omega)];exact I
end
def VL(O:F0 rs):F5 3 (.lst (rs.map EL)):=by
 simp only[F5];intro x M;obtain⟨r,J,rfl⟩:=dv.mp M;unfold EL;simp only[F5];intro y I;simp only[bi,bt,eI]at I;rcases I with rfl|rfl|rfl
 ·exact Ba _ (O.nm r J)
 ·cases hb:r.bd with
  |none=>exact trivial
  |some z=>
   simp only[JI,F5];intro y I;simp only[bi,bt,eI]at I;rcases I with rfl|rfl
   ·exact O.bd r J z hb
   ·exact trivial
 ·cases r.bk<;>exact trivial
def VM(f:sD)(n:Nat):pG f n=((bh f).filter λT=>decide ((aP f T).length=n)).head?.map (aP f):=by
 rw[←Jx];unfold pG;congr 1;funext T;by_cases h:(aP f T).length=n<;>simp[h]
section
variable {MD:Y8}{sf:Str->Str->PV}{D9 D4:sF}{one other:sD}{T:Nat}
noncomputable def L6(rs:sF):PV:=.lst (rs.map EL)
def VN(M:OB MD sf)(J:F0 D9)(Y:F0 D4)(hl:D4.length=D9.length){X0 X1 X3:PV}{L:sA}(Z:Fn L 0=some (.lst (D4.map EL))):
  cP (gN 6) [6,7] iC ((List.range D9.length).map λk=>PV.int (k:Nat)) [some X0,some X1,some (.dK MD),some X3,some (.lst (D9.map EL)),some (.lst L),none,none]=
   some ((ftN sf D9 D4).elim (.nx [some X0,some X1,some (.dK MD),some X3,some (.lst (D9.map EL)),some (.lst L),none,none]) .rt):=by
 refine o9 (λk:Nat=>PV.int (k:Nat)) (Yv sf D9 D4) (List.range D9.length) λk I=>?_;have I:=cf.mp I;have U:=R6 (MD:=MD) J Y hl I (M.mw _ (ud J I) _ (ud Y (by omega)));unfold Yv;generalize P9 D9 D4 k (sf (D9.getD k FG).nm (D4.getD k FG).nm)=F,D9.map EL=R1,D4.map EL=R2 at *;cases hn:cj F with
 |true=>
  refine .inl ⟨rfl,?_⟩;simp[bA,iC,Z,U,hn,-cj]
 |false=>
  refine .inr ⟨F,rfl,_,rfl,?_⟩;simp[iC,Z,U,hn,-cj]
def PB(M:OB MD sf)(h1:FD one)(h2:FD other)(hT:T∈bh one):
  ∃x4 x5,gh [some (tP one),some (tP other),some (.dK MD),some (.int (T:Nat)),none,none,none,none]=some ((OM sf one other T).elim (.nx [some (tP one),some (tP other),some (.dK MD),some (.int (T:Nat)),x4,x5,none,none]) .rt):=by
 have NG:=h2.l;have hr:=yL h1 hT;have ht:=t8 h2;have htl:=t_ h2;have O1:=pU h1 hT;have hn:=O1.n;have n1:((aP one T).map EL).length=(aP one T).length:=ar ..;have q1:((bh other).map λk=>PV.int (k:Nat)).length<=1000000:=by rw[ar];omega
 have c1:cV [none,some (tP other)] (gN 0) dX pB ((bh other).map λk=>PV.int (k:Nat))=some ((bh other).map λI=>L6 (aP other I)):=
  jf _ _ _ λI h'=>⟨[some (.int (I:Nat)),some (tP other)],rfl,by
   have:=yL h2 h';unfold L6;generalize tP other=FP,(aP other I).map EL=R at *;simp[pB,this]⟩
 have q2:((bh other).map λI=>L6 (aP other I)).length<=1000000:=by rw[ar];omega
 have c2:cV [none,some (.lst ((aP one T).map EL))] (gN 0) pD pC ((bh other).map λI=>L6 (aP other I))=some (((bh other).filter λI=>decide ((aP other I).length=(aP one T).length)).map λI=>L6 (aP other I)):=
  fL _ _ _ _ λI h'=>⟨[some (L6 (aP other I)),some (.lst ((aP one T).map EL))],rfl,by
   have e:=yM (aP other I).length (aP one T).length;have l1:(aP other I).length<=1000000:=by have:=(pU h2 h').n;omega
   have l2:(aP one T).length<=1000000:=by omega
   have n2:((aP other I).map EL).length=(aP other I).length:=ar ..;unfold L6;rw[←n1]at l2 e ⊢;rw[←n2]at l1 e ⊢;generalize (aP other I).map EL=R,(aP one T).map EL=R' at *;simp[pD,e],λ_=>by simp[pC]⟩
 have hd:=VM other (aP one T).length;have RY:F5 4 (.lst (((bh other).filter λI=>decide ((aP other I).length=(aP one T).length)).map λI=>L6 (aP other I))):=by
  rw[F5];intro x hx;obtain⟨I,h',rfl⟩:=dv.mp hx;exact VL (pU h2 (df.mp h').1)
 have Y:MR.ML ((aP one T).length:Int)=true:=MR.F9 (by omega) (by omega);have U:(cX 0 ((aP one T).length:Int)).length<=1000000:=by rw[fc];simp;omega
 have l2:(aP one T).length<=1000000:=by omega
 refine⟨some (.lst ((aP one T).map EL)),some (.lst (((bh other).filter λI=>decide ((aP other I).length=(aP one T).length)).map λI=>L6 (aP other I))),?_⟩;unfold gh;refine(aH (e:=[some (tP one),some (tP other),some (.dK MD),some (.int (T:Nat)),some (.lst ((aP one T).map EL)),none,none,none]) (by
  generalize tP one=FP,(aP one T).map EL=R at *;simp[hr])).trans ?_
 refine(aH (e:=[some (tP one),some (tP other),some (.dK MD),some (.int (T:Nat)),some (.lst ((aP one T).map EL)),some (.lst ((bh other).map λI=>L6 (aP other I))),none,none]) (by
  generalize tP other=FP,(aP one T).map EL=R,((bh other).map λI=>L6 (aP other I))=LL,((bh other).map λk=>PV.int (k:Nat))=TT at *;simp[ht,MR.I0,q1,c1])).trans ?_
 generalize hL:(bh other).filter (λI=>decide ((aP other I).length=(aP one T).length))=L at *;refine(aH (e:=[some (tP one),some (tP other),some (.dK MD),some (.int (T:Nat)),some (.lst ((aP one T).map EL)),some (.lst (L.map λI=>L6 (aP other I))),none,none]) (by
  generalize (aP one T).map EL=R,((bh other).map λI=>L6 (aP other I))=LL,(L.map λI=>L6 (aP other I))=LM at *;simp[MR.I0,q2,c2])).trans ?_
 cases L with
 |nil=>
  have e:OM sf one other T=some (noR (aP one T).length):=by unfold OM;rw[hd];rfl
  rw[e];refine kO ?_;rw[←n1]at l2 ⊢;generalize (aP one T).map EL=R at *;simp[noR,IZ,TR,toD,fU,show SeqAt.shaped (.list [])=true by decide,PyData.eqv,PyData.eqvAll]
 |cons J r=>
  have e:OM sf one other T=ftN sf (aP one T) (aP other J):=by unfold OM;rw[hd];rfl
  have Z:J∈bh other/\decide ((aP other J).length=(aP one T).length)=true:=df.mp (by rw[hL];exact av);have hi:=VN (X0:=tP one) (X1:=tP other) (X3:=.int (T:Nat)) (L:=(J::r).map λI=>L6 (aP other I)) M O1 (pU h2 Z.1) (by simpa using Z.2) (by simp[L6]);rw[e];rw[be]at RY hi ⊢;have He:=nQ RY (by decide);refine(aH (e:=[some (tP one),some (tP other),some (.dK MD),some (.int (T:Nat)),some (.lst ((aP one T).map EL)),some (.lst (L6 (aP other J)::r.map λI=>L6 (aP other I))),none,none]) (by
   generalize (aP one T).map EL=R,(L6 (aP other J)::r.map λI=>L6 (aP other I))=LM at *;simp[He])).trans ?_
  rw[←fc]at hi;rw[←n1]at l2 hi Y U;generalize (aP one T).map EL=R,(L6 (aP other J)::r.map λI=>L6 (aP other I))=LM,iC=B at *;simp[Y,U,hi]
def VP(M:OB MD sf)(h1:FD one)(h2:FD other):n6 [tP one,tP other,.dK MD]=some ((UO sf one other).getD .Ee):=by
 have Rl:=h1.l;have U:=t8 h1;have htl:=t_ h1;have J:=o9 (g:=gN 3) (ds:=[3,4,5,6,7]) (body:=gh) (env:=[some (tP one),some (tP other),some (.dK MD),none,none,none,none,none]) (λk:Nat=>PV.int (k:Nat)) (OM sf one other) (bh one) (λT Z=>by
  obtain⟨x4,x5,I⟩:=PB M h1 h2 Z;cases hf:OM sf one other T with
  |none=>
   rw[hf]at I;refine .inl ⟨rfl,?_⟩;generalize tP one=FP,tP other=FQ,gh=B at *;simp[bA,I]
  |some w=>
   rw[hf]at I;refine .inr ⟨w,rfl,_,rfl,?_⟩;exact I)
 have Y:((bh one).map λk=>PV.int (k:Nat)).length<=1000000:=by rw[ar];omega
 unfold n6 wg UO;generalize tP one=FP,tP other=FQ,gh=B,(bh one).map (λk=>PV.int (k:Nat))=TT at *;cases q:(bh one).findSome? (OM sf one other)with
 |none=>rw[q]at J;simp[U,MR.I0,Y,J]
 |some w=>rw[q]at J;simp[U,MR.I0,Y,J]
end
section
variable {rs:sF}{k:Nat}
def Fb(O:F0 rs)(h:k<rs.length)(I:IP rs k≠none):FC rs k=k:=by
 unfold FC;cases e:(rs.getD k FG).bk with
 |none=>rfl
 |some p=>exact absurd (O.bk k _ p (lX h) e).2.1 I
set_option tactic.hygienic true in def PJ(O:F0 rs)(h:k<rs.length):P9 rs rs k .Ee=.Ee:=by
 have e1:ZK rs rs k=none:=by
  unfold ZK;rw[List.head?_eq_none_iff,pj];intro j I;have M:=Ma I;unfold OA at I;split at I
  ·cases I
  ·rename_i J
   have e:IP rs j=IP rs k:=g9 (df.mp I).2;have f1:=Fb O h J;have f2:=Fb O (show j<rs.length by omega) (by rw[e];exact J);simp[UN,f1,f2,e,J]
 have e2:agn rs rs k=none:=by
  unfold agn;cases e:(rs.getD k FG).bk with
  |none=>rfl
  |some b=>
   obtain⟨h1,_,q,Y,U⟩:=O.bk k _ b (lX h) e;have f1:FC rs k=b:=by unfold FC;rw[e];rfl
   have f2:FC rs b=b:=by unfold FC;rw[dn,Y];simp[U]
   show(if FC rs k=FC rs b then none else some b)=none;rw[f1,f2,bS rfl]
 unfold P9;rw[e1,e2];rfl
end
def Hw{sf:Str->Str->PV}(M:∀a∈EH,sf a a=.Ee)(h:FD f):UO sf f f=none:=by
 unfold UO;rw[ja];intro T J;have O:=pU h J;unfold OM;rw[Px h J];show ftN sf (aP f T) (aP f T)=none;unfold ftN;rw[ja];intro k I;have I:=cf.mp I;unfold Yv;rw[M _ (ud O I),PJ O I];rfl
def GM(m:sg):Prop:=cL m/\m≠[]/\m.length<=2
def R7(h:GM m):bc [mP m,mP m]=some .Ee:=by
 rcases mw h.1 h.2.1 h.2.2 h.1 h.2.1 h.2.2 with e|⟨x,_,h⟩
 ·exact e
 ·simp at h;omega
noncomputable def UP(k:Nat):Str:=EH.getD k ⟨#[]⟩
def PK{k:Nat}(h:k<8):dq [.int (k:Nat)]=some (.str (UP k)):=by
 have I:k=0\/k=1\/k=2\/k=3\/k=4\/k=5\/k=6\/k=7:=by omega
 rcases I with rfl|rfl|rfl|rfl|rfl|rfl|rfl|rfl<;>(unfold dq qm;simp;rfl)
def MDm(MD:Y8)(ks:qV):Prop:=∀k,k<8->k∉ks->∃m,GM m/\aZ MD (.inr (UP k))=some (mP m)
def VR{a:Str}(h:a∈EH):∃k,k<8/\a=UP k:=by
 obtain⟨k,I⟩:=dQ.mp h;refine⟨k,(al.mp I).1,?_⟩;unfold UP;rw[dn,I];rfl
def R8{j k:Nat}(J:j<8)(I:k<8)(h:UP j=UP k):j=k:=by
 have:∀j,j<8->∀k,k<8->UP j=UP k->j=k:=by decide +kernel
 exact this j J k I h
def Mh(c:Int):∃MD,MDm MD []/\jD [.int c]=some (.dK MD):=by
 obtain⟨MD,⟨i1,i2,_⟩,h⟩:=gA (g:=gN 2) (ds:=[2,3]) (body:=ie) (λk:Nat=>PV.int (k:Nat)) (λMD:Y8=>[some (.int c),some (.dK MD),none,none])
  (λr MD=>MDm MD r/\MD.length+r.length<=8/\∀k∈r,k<8)
  (by
   rintro k r MD ⟨i1,i2,Y⟩;have I:=Y k av;have h1:=PK I;have h2:=Eg c k (zN (by omega));obtain⟨x,Z⟩:∃x:Int,Fn [PV.int 5,.int 8,.int 5,.int (q9 c k)] (q9 c k / 8%4)=some (.int x):=by
    have h4:q9 c k / 8%4=0\/q9 c k / 8%4=1\/q9 c k / 8%4=2\/q9 c k / 8%4=3:=by omega
    rcases h4 with e|e|e|e<;>rw[e]
    ·exact⟨5,rfl⟩
    ·exact⟨8,rfl⟩
    ·exact⟨5,rfl⟩
    ·exact⟨_,rfl⟩
   obtain⟨m,m1,m2,m3,h3⟩:=O4 x;simp only[bm]at i2;refine⟨cu MD (.inr (UP k)) (mP m),⟨λj J U=>?_,?_,λj J=>Y j (ap _ J)⟩,?_⟩
   ·rw[jn]
    by_cases e:j=k
    ·subst e
     rw[bS rfl];exact⟨m,⟨m1,m2,by omega⟩,rfl⟩
    ·rw[br (λz=>e (R8 J I (Sum.inr.inj z)))]
     exact i1 j J (λz=>(bi.mp z).elim e U)
   ·have:=m6 MD (.inr (UP k)) (mP m)
    omega
   ·have hl:MD.length<1000000:=by omega
    generalize UP k=nm,mP m=M at *;simp[bA,ie,h1,h2,Z,h3,hl])
  (List.range 8) [] ⟨(λk I U=>absurd (cf.mpr I) U),by simp,(λk I=>cf.mp I)⟩
 have hr:MR.ML 8=true:=MR.F9 (by decide) (by decide);have e:cX 0 8=(List.range 8).map λk=>PV.int (k:Nat):=fc 8;refine⟨MD,i1,?_⟩;rw[←e]at h;unfold jD sE;generalize ie=B at *;simp[hr,h]
def VV{MD:Y8}(h:MDm MD []):∃sf,OB MD sf/\(∀a∈EH,sf a a=.Ee)/\∀a∈EH,∀b∈EH,sf a b=.Ee\/∃x:Row,sf a b=.lst (x.map HZ):=by
 have g:∀a∈EH,∃m,GM m/\aZ MD (.inr a)=some (mP m):=λa I=>by
  obtain⟨k,M,rfl⟩:=VR I;exact h k M (by simp)
 have v:∀a∈EH,∀b∈EH,∃s,SU MD a b=some s/\(s=.Ee\/∃x:Row,s=.lst (x.map HZ)):=λa I b J=>by
  obtain⟨m,g1,e1⟩:=g a I;obtain⟨n,g2,e2⟩:=g b J;unfold SU;rw[e1,e2];rcases mw g1.1 g1.2.1 g1.2.2 g2.1 g2.2.1 g2.2.2 with e|⟨x,e,_⟩
  ·exact⟨_,e,.inl rfl⟩
  ·exact⟨_,e,.inr ⟨x,rfl⟩⟩
 refine⟨λa b=>(SU MD a b).getD .Ee,⟨λa I=>(let ⟨m,_,e⟩:=g a I;⟨_,e⟩),λa I b J=>?_⟩,λa I=>?_,λa I b J=>?_⟩
 ·obtain⟨s,e,_⟩:=v a I b J
  show SU MD a b=some ((SU MD a b).getD .Ee);rw[e];rfl
 ·obtain⟨m,g1,e1⟩:=g a I
  show((SU MD a a).getD .Ee)=.Ee;unfold SU;rw[e1];show((bc [mP m,mP m]).getD .Ee)=.Ee;rw[R7 g1];rfl
 ·obtain⟨s,e,q⟩:=v a I b J
  show(SU MD a b).getD .Ee=.Ee\/∃x:Row,(SU MD a b).getD .Ee=.lst (x.map HZ);rw[e];exact q
inductive Ch:Pt->Pt->Prop
 |ww {a b c d}:Ch (.rw a b) (.rw c d)
 |aw {r a b}:Ch (.as r) (.rw a b)
 |cc {lo hi LN}:hi<=LN->LN<=4->Ch (.cl lo hi) (.cl lo LN)
noncomputable def kd:Pt->Nat
 |.op=>1
 |.cl lo _=>2+lo
 |_=>0
theorem Mi:∀{l:sD}{i:Nat}{p q:Pt},l[i]?=some p->Ch p q->(l.set i q).map kd=l.map kd
 |[],_,_,_,h,_=>by simp at h
 |x::l,0,p,q,h,c=>by cases h;cases c<;>rfl
 |x::l,i+1,p,q,h,c=>by rw[List.set_cons_succ,be,Mi (l:=l) h c];rfl
theorem Jz(l:sD):("(" : Str)∈heads l↔1∈l.map kd:=by
 simp only[heads,dv];refine⟨λ⟨p,h,e⟩=>⟨p,h,?_⟩,λ⟨p,h,e⟩=>⟨p,h,?_⟩⟩
 ·cases p<;>first|rfl|exact(e7 e).elim|exact(e2 e).elim|exact(e4 e).elim
 ·cases p<;>first|rfl|(simp only[kd]at e;omega)
theorem W6(l:sD):(")" : Str)∈heads l↔∃k∈l.map kd,2<=k:=by
 simp only[heads,dv];refine⟨λ⟨p,h,e⟩=>⟨kd p,⟨p,h,rfl⟩,?_⟩,λ⟨k,⟨p,h,e⟩,z⟩=>⟨p,h,?_⟩⟩
 ·cases p<;>first|(simp only[kd];omega)|exact(e1 e).elim|exact(e3 e).elim|exact(e5 e).elim
 ·cases p<;>first|rfl|(simp only[kd]at e;omega)
def Mj(l:sD):gU l=(l.map kd).any (· == 2):=by
 unfold gU;rw[qA];congr 1;funext p;cases p with
 |cl lo hi=>cases lo<;>simp[jL,kd]
 |_=>rfl
theorem Hx(l:sD):(heads l).getLast?=some ("(" : Str)↔(l.map kd).getLast?=some 1:=by
 unfold heads;rw[nN,nN];cases l.getLast? with
 |none=>simp
 |some p=>
  simp only[kr,Option.some.injEq];cases p<;>first|exact⟨λ_=>rfl,λ_=>rfl⟩|exact⟨λe=>(e7 e).elim,λe=>by simp only[kd]at e;omega⟩|exact⟨λe=>(e2 e).elim,λe=>by cases e⟩|exact⟨λe=>(e4 e).elim,λe=>by cases e⟩
theorem kZ{z:Nat×Bool}:∀{l:sD}{n:Nat}{b:Bool}{i:Nat}{p q:Pt},l[i]?=some p->Ch p q->z∈bz l n b->z∈bz (l.set i q) n b
 |[],_,_,_,_,_,h,_,_=>by simp at h
 |x::l,n,b,0,p,q,h,c,m=>by
  cases h;cases c with
  |ww=>exact m
  |aw=>exact ap _ m
  |cc _ _=>exact m
 |x::l,n,b,i+1,p,q,h,c,m=>by
  have h:l[i]?=some p:=h;rw[List.set_cons_succ];cases x with
  |op=>exact kZ (l:=l) h c m
  |cl _ _=>exact kZ (l:=l) h c m
  |as _=>exact kZ (l:=l) h c m
  |rw _ _=>exact(bi.mp m).elim (λe=>e▸av) λm=>ap _ (kZ (l:=l) h c m)
set_option tactic.hygienic true in def V0{i:Nat}{p q x:Pt}(h:l[i]?=some p)(c:Ch p q)(n:Nx l x):Nx (l.set i q) x:=by
 have k:=Mi h c;have hi:du (l.set i q)=du l:=by unfold du;simp only[Jz,W6,k]
 cases n with
 |op a=>exact .op (by rw[Jz,k,←Jz];exact a)
 |cl a b d e f=>exact .cl (by rw[hi];exact a) (λz=>b ((Hx l).mpr (by rw[←k];exact(Hx _).mp z))) d e f
 |@as r b m=>
  refine .as (b:=b) ?_;have I:gU (l.set i q)=gU l:=by rw[Mj,k,←Mj]
  rw[hi];unfold SH at m ⊢;rw[I];split at m
  ·rename_i z
   rw[bS z];exact df.mpr ⟨kZ h c (df.mp m).1,(df.mp m).2⟩
  ·rename_i z
   rw[br z];exact kZ h c m
 |ro a b=>exact .ro a b
def V3(g:Gd l):∀{i:Nat}{p q:Pt},l[i]?=some p->Ch p q->LJ q->Gd (l.set i q):=by
 induction g with
 |nil=>intro i p q h;simp at h
 |@snoc l x g n I=>
  intro i p q h c o;by_cases z:i<l.length
  ·rw[cw z]at h
   rw[List.set_append_left _ _ z];exact .snoc (I h c o) (V0 h c n)
  ·have e:i=l.length:=by have:=(al.mp h).1;simp at this;omega
   subst e;have e:x=p:=by simpa using h
   subst e;rw[pV _ _ (aI _),Nat.sub_self];refine .snoc g ?_;cases c with
   |ww=>exact .ro (o.nm _ _ rfl).1 (o.nm _ _ rfl).2
   |aw=>exact .ro (o.nm _ _ rfl).1 (o.nm _ _ rfl).2
   |cc h1 h2=>cases n with|cl a b d e f=>exact .cl a b (by omega) (by omega) h2
theorem ph:∀(l m:sD) (n:Nat) (b:Bool),∃r,bz (l++m) n b=bz l n b++r
 |[],_,_,_=>⟨_,rfl⟩
 |.op::l,m,n,_=>ph l m n true
 |.cl _ _::l,m,n,_=>ph l m n false
 |.as _::l,m,n,b=>ph l m (n+1) b
 |.rw _ _::l,m,n,b=>(ph l m (n+1) b).imp λr e=>gg ((n+1,b)::·) e
def R9(g:Gd l){r:Nat}(h:.as r∈l):r∈(bz l 0 false).map (·.1):=by
 induction g with
 |nil=>cases h
 |@snoc l x g n I=>
  obtain⟨y,e⟩:=ph l [x] 0 false;rw[e,de];refine iP _ ?_;rcases dS.mp h with z|z
  ·exact I z
  ·cases cv.mp z
   cases n with
   |@as _ b m=>
    refine dv.mpr ⟨(r,b),?_,rfl⟩;unfold SH at m;split at m
    ·exact(df.mp m).1
    ·exact m
def KY{n k:Nat}(h:k<n):L9 n (k:Int)=some k:=by unfold L9;rw[bS (by omega)];simp[h]
abbrev NM(X0 X1:PV)(L:sA)(c:Int)(k:Nat)(P:PV)(n:Int)(x7 x8:Option PV):MR.Env:=[some X0,some X1,some (.lst L),some (.int c),some (.int (k:Nat)),some P,some (.int n),x7,x8]
abbrev tH(w:Str):=tV (b2 eqQ (b2 EF (bV 5) (DU 0)) (bC (.str w)))
abbrev tM(d j:Int):=tV (b2 eqQ (b2 dI (bV 6) (DU d)) (DU j))
section
variable {X0 X1:PV}{L:sA}{c n d j:Int}{k:Nat}{p:Pt}{w:Str}{x7 x8:Option PV}{t:MR.Env->Option Bool}{b:MR.Env->Option Out}
def oH(w:Str):tH w (NM X0 X1 L c k (EE p) n x7 x8)=some (decide (JA p=w)):=by
 obtain⟨r,e⟩:=Jt p;rw[e];by_cases h:JA p=w<;>simp[h]
def oI(I:0<d/\d<1073741824):tM d j (NM X0 X1 L c k (EE p) n x7 x8)=some (decide (n%d=j)):=by
 by_cases h:n%d=j<;>simp[h,I.1,I.2]
def oN(z:¬ JA p=w):GO (tA (tH w) t) b HA (NM X0 X1 L c k (EE p) n x7 x8)=some (.nx (NM X0 X1 L c k (EE p) n x7 x8)):=by simp only[Dh,Ie,oH,z,decide_false,ba,fw,Kv,d6]
def oW(g:t (NM X0 X1 L c k (EE p) n x7 x8)=some false):GO (tA (tH w) t) b HA (NM X0 X1 L c k (EE p) n x7 x8)=some (.nx (NM X0 X1 L c k (EE p) n x7 x8)):=by
 by_cases y:JA p=w
 ·simp only[Dh,Ie,oH,y,decide_true,g,ba,fE,fw,Kv,d6]
 ·exact oN y
def oM(z:¬ n%d=j)(I:autoParam (0<d/\d<1073741824) r1_):GO (tA (tH w) (tM d j)) b HA (NM X0 X1 L c k (EE p) n x7 x8)=some (.nx (NM X0 X1 L c k (EE p) n x7 x8)):=oW (by rw[oI I,cK z])
def oY{M:sA}(y:JA p=w)(g:t (NM X0 X1 L c k (EE p) n x7 x8)=some true)(e:b (NM X0 X1 L c k (EE p) n x7 x8)=some (.nx (NM X0 X1 M c k (EE p) n x7 x8))):GO (tA (tH w) t) b HA (NM X0 X1 L c k (EE p) n x7 x8)=some (.nx (NM X0 X1 M c k (EE p) n x7 x8)):=by simp only[Dh,Ie,oH,y,decide_true,g,e,ba,fE]
def oZ(z:n%d=j)(I:autoParam (0<d/\d<1073741824) r1_):tM d j (NM X0 X1 L c k (EE p) n x7 x8)=some true:=by rw[oI I,eP z]
end
def PL(h:FD f)(c:Int){X0 X1:PV}{x7 x8:Option PV}:
  ∃J,FD J/\turn (gN 3) [3,4,5,6] cB (.int c) [some X0,some X1,some (pP f),none,none,none,none,x7,x8]=some [some X0,some X1,some (pP J),none,none,none,none,x7,x8]:=by
 have hl8:=h.l;have MA:0<f.length:=f8.mpr h.n;have q1:=pz c (b:=(f.length:Int)) (by omega);have q2:=mN c (b:=(f.length:Int)) (by omega);obtain⟨k,hk,ek⟩:∃k:Nat,k<f.length/\c%(f.length:Int)=k:=⟨(c%(f.length:Int)).toNat,by omega,by omega⟩;have hp:f[k]?=some f[k]:=ax hk;have Z:=Jv h.g _ (ia hk);generalize f[k]=p at hp Z;have ha:Fn (f.map EE) (k:Int)=some (EE p):=pX (by rw[cm,hp];rfl);have I:L9 (f.map EE).length (k:Int)=some k:=KY (by rw[ar];exact hk);have n1:(f.map EE).length=f.length:=ar ..;have Sn:(0:Int)<(f.length:Int):=by omega
 have OF:(f.length:Int)<1073741824:=by omega
 have FO:f.length<=1000000:=by omega
 generalize hn:c / (f.length:Int)=n;suffices g:∃J,FD J/\cB [some X0,some X1,some (pP f),some (.int c),none,none,none,x7,x8]=some (.nx (NM X0 X1 (J.map EE) c k (EE p) n x7 x8)) by
  obtain⟨J,g1,g2⟩:=g;refine⟨J,g1,?_⟩;unfold pP at g2 ⊢;unfold NM at g2;generalize f.map EE=P1,J.map EE=P2,EE p=P3,cB=B at *;simp[bA,g2]
 have put:∀q,Ch p q->LJ q->FD (f.set k q)/\(f.set k q).map EE=(f.map EE).set k (EE q):=λq hc hq=>⟨⟨V3 h.g hp hc hq,by rw[eM];exact hl8,λz=>h.n (by simpa using z)⟩,List.map_set⟩;have bo:∀{b:Option Str}{nm:Str},nm∈EH->(∀x,b=some x->x∈six)->LJ (.rw nm b):=λh1 h2=>⟨λn b e=>by cases e;exact⟨h1,h2⟩⟩;unfold cB pP;rw[aH (e:=[some X0,some X1,some (.lst (f.map EE)),some (.int c),some (.int (k:Nat)),none,none,x7,x8])];rotate_left
 ·rw[←n1]at ek Sn OF FO MA
  generalize f.map EE=L at *;simp[ek,Sn,OF,MA]
 rw[aH (e:=[some X0,some X1,some (.lst (f.map EE)),some (.int c),some (.int (k:Nat)),some (EE p),none,x7,x8])];rotate_left
 ·generalize f.map EE=L at *
  simp[ha]
 rw[aH (e:=NM X0 X1 (f.map EE) c k (EE p) n x7 x8)];rotate_left
 ·rw[←n1]at hn Sn OF FO MA
  generalize f.map EE=L at *;simp[hn,Sn,OF,MA]
 cases p with
 |op=>
  have A:¬ JA .op = "row" := λz=>e4 z.symm;have B:¬ JA .op = "as" := λz=>e2 z.symm;have D:¬ JA .op = ")" := e1;exact⟨f,h,by rw[aH (oN A),aH (oN A),aH (oN A),aH (oN B),oN D]⟩
 |rw nm U=>
  obtain⟨o1,o2⟩:=Z.nm nm U rfl;have A:JA (.rw nm U) = "row" := rfl;have B:¬ JA (.rw nm U) = "as" := e8;have D:¬ JA (.rw nm U) = ")" := e5;have h4:n%4=0\/n%4=1\/n%4=2\/n%4=3:=by omega
  rcases h4 with e|e|e|e
  ·obtain⟨g1,g2⟩:=put (.rw nm none) .ww (bo o1 (λx Y=>by cases Y))
   refine⟨_,g1,?_⟩;rw[g2,aH (oY (M:=((f.map EE).set k (EE (.rw nm none)))) A (oZ e) (by
    generalize f.map EE=L at *;simp[EE,I,P8])),aH (oM (by omega)),aH (oM (by omega)),aH (oN B),oN D]
  ·obtain⟨x,Y,ex⟩:=zQ (n / 4)
   obtain⟨g1,g2⟩:=put (.rw x U) .ww (bo Y o2);refine⟨_,g1,?_⟩;rw[g2,aH (oM (by omega)),aH (oY (M:=((f.map EE).set k (EE (.rw x U)))) A (oZ e) (by
    generalize f.map EE=L at *;simp[EE,I,ex])),aH (oM (by omega)),aH (oN B),oN D]
  ·obtain⟨y,hb,eb⟩:=zR (n / 4)
   obtain⟨g1,g2⟩:=put (.rw nm y) .ww (bo o1 hb);refine⟨_,g1,?_⟩;rw[g2,aH (oM (by omega)),aH (oM (by omega)),aH (oY (M:=((f.map EE).set k (EE (.rw nm y)))) A (oZ e) (by
    generalize f.map EE=L at *;simp[EE,I,eb])),aH (oN B),oN D]
  ·exact⟨f,h,by rw[aH (oM (by omega)),aH (oM (by omega)),aH (oM (by omega)),aH (oN B),oN D]⟩
 |as r=>
  have A:JA (.as r) = "as" := rfl;have B:¬ JA (.as r) = "row" := e6;have D:¬ JA (.as r) = ")" := e3;by_cases e:n%2=0
  ·obtain⟨x,Y,ex⟩:=zQ (n / 2)
   obtain⟨y,hb,eb⟩:=zR (n / 16);obtain⟨g1,g2⟩:=put (.rw x y) .aw (bo Y hb);refine⟨_,g1,?_⟩;rw[g2,aH (oN B),aH (oN B),aH (oN B),aH (oY (M:=((f.map EE).set k (EE (.rw x y)))) A (oZ e) (by
    generalize f.map EE=L at *;simp[EE,I,ex,eb])),oN D]
  ·exact⟨f,h,by rw[aH (oN B),aH (oN B),aH (oN B),aH (oM e),oN D]⟩
 |cl lo hi=>
  have A:¬ JA (.cl lo hi) = "row" := λz=>e5 z.symm;have B:¬ JA (.cl lo hi) = "as" := λz=>e3 z.symm;by_cases e:0<n%4
  ·obtain⟨j,hj,ej⟩:∃j:Nat,j<=4/\1+n / 4%4=j:=⟨(1+n / 4%4).toNat,by omega,by omega⟩
   have hh:hi<=4:=by
    obtain⟨_,_,_,_,C⟩:=h.g.ct (by omega);exact(C.cl lo hi (b9 hp)).2.2
   obtain⟨g1,g2⟩:=put (.cl lo (max hi j)) (.cc (by omega) (by omega)) ⟨λ_ _ z=>by cases z⟩;refine⟨_,g1,?_⟩;rw[g2,aH (oN A),aH (oN A),aH (oN A),aH (oN B)];refine oY (show JA (.cl lo hi) = ")" from rfl) (by simp[e]) ?_;have em:(if(hi:Int)<1+n / 4%4 then 1+n / 4%4 else(hi:Int))=((max hi j:Nat):Int):=by split<;>omega
   generalize f.map EE=L at *;simp[EE,I];rw[em]
  ·exact⟨f,h,by rw[aH (oN A),aH (oN A),aH (oN A),aH (oN B),oW (by simp[e])]⟩
def PN(r:Nat)(cs:qV):j0 (.int (r:Nat)) (.lst (cs.map λk=>.int (k:Nat)))=some (decide (r∈cs)):=(Ef (c:=λk:Nat=>PV.int (k:Nat)) (λ_=>rfl) (λa b=>by by_cases h:a=b<;>simp[YN,h]<;>omega) r cs).1
def PQ(h:FD f)(cs:rL)(hc:cs.length<=1000000):∃I,FD I/\gn [tP f,.lst (cs.map .int)]=some (tP I):=by
 obtain⟨I,h',lp⟩:=gA (g:=gN 3) (ds:=[3,4,5,6]) (body:=cB) PV.int (λI:List Pt=>[some (tP f),some (.lst (cs.map .int)),some (pP I),none,none,none,none,none,none])
  (λ_ I=>FD I) (λc r I hf=>PL hf c) cs f h
 have hl8:=h'.l;refine⟨I,h',?_⟩;have Z:=Ew (l:=I) (by omega);have hrl:=kY I 0 false;have q1:((bz I 0 false).map JE).length<=1000000:=by rw[ar];omega
 have c1:cV [none,none] (gT [0,1]) dX h_ ((bz I 0 false).map JE)=some (((bz I 0 false).map (·.1)).map λk=>.int (k:Nat)):=by
  rw[im];exact jf _ _ _ λz _=>⟨[some (.int (z.1:Nat)),some (.bl z.2)],rfl,rfl⟩
 have M:∀(l r:sD),r++l=I->cP (gN 5) [5] cD (l.map EE) [some (tP f),some (.lst (cs.map .int)),some (pP I),none,none,none,none,some (.lst (((bz I 0 false).map (·.1)).map λk=>.int (k:Nat))),some (.lst (r.map EE))]=some (.nx [some (tP f),some (.lst (cs.map .int)),some (pP I),none,none,none,none,some (.lst (((bz I 0 false).map (·.1)).map λk=>.int (k:Nat))),some (.lst ((r++l).map EE))]):=by
  intro l;induction l with
  |nil=>intro r _;rw[cS];rfl
  |cons p l Y=>
   intro r e;have Y:=Y (r++[p]) (by rw[gv];exact e);rw[gv]at Y;rw[be,dw (env':=[some (tP f),some (.lst (cs.map .int)),some (pP I),none,none,none,none,some (.lst (((bz I 0 false).map (·.1)).map λk=>.int (k:Nat))),some (.lst ((r++[p]).map EE))])]
   ·exact Y
   ·have U:(r.map EE).length<1000000:=by
     have:=gg List.length e;simp at this;rw[ar];omega
    have J:p∈I:=by rw[←e];simp
    rw[de,be,fe];have P6:∀q,p=.as q->j0 (.int (q:Nat)) (.lst (((bz I 0 false).map (·.1)).map λk=>.int (k:Nat)))=some true:=λq eq=>by
     subst eq;rw[PN,eP (R9 h'.g J)]
    generalize tP f=X0,pP I=X2,((bz I 0 false).map (·.1)).map (λk=>PV.int (k:Nat))=X7,r.map EE=R at *;have z3:¬ (("(" : Str) = "as"):=by decide
    have z4:¬ ((")" : Str) = "as"):=by decide
    cases p with
    |op=>simp[bA,cD,EE,z3,U]
    |cl lo hi=>simp[bA,cD,EE,z4,U]
    |rw nm bd=>simp[bA,cD,EE,e8,U]
    |as q=>have:=P6 q rfl;simp[bA,cD,EE,this,U]
 have M:=M I [] rfl;have hf8:=h.l;unfold gn oU;unfold pP tP at *;have q0:(f.map EE).length<=1000000:=by rw[ar];omega
 have q2:(I.map EE).length<=1000000:=by rw[ar];omega
 have q3:(cs.map PV.int).length<=1000000:=by rw[ar];exact hc
 rw[l0,fe]at M;generalize f.map EE=X0,I.map EE=X2,((bz I 0 false).map (·.1)).map (λk=>PV.int (k:Nat))=X7,(bz I 0 false).map JE=XR,cs.map PV.int=CS,cB=B1,cD=B3,h_=CE at *;simp[MR.I0,q0,q2,q3,lp,Z,q1,c1,M]
def W7(k:Nat):F5 2 (HZ k):=by
 have h1:PyData.strOk ("u" : Str)=true:=by decide +kernel
 have h2:PyData.strOk ("-" : Str)=true:=by decide +kernel
 unfold HZ sdM;split<;>simp[F5,h1,h2]
inductive Sh:PV->Prop
 |r {n:Nat}:Sh (noR n)
 |m {w:Str}{n k:Nat}{x:Row}:PyData.strOk w=true->Sh (jo w n k (.lst (x.map HZ)))
 |i {w:Str}{n k j:Nat}:PyData.strOk w=true->Sh (jo w n k (.int (j:Nat)))
def W8{D9 D4:sF}{k:Nat}{s:PV}(I:s=.Ee\/∃x:Row,s=.lst (x.map HZ))(h:cj (P9 D9 D4 k s)=false):Sh (P9 D9 D4 k s):=by
 unfold P9 at h ⊢;rcases I with rfl|⟨x,rfl⟩
 ·rw[br (by decide)]at h ⊢
  cases hr:ZK D9 D4 k with
  |some j=>exact .i (by decide +kernel)
  |none=>
   cases hb:agn D9 D4 k with
   |some b=>exact .i (by decide +kernel)
   |none=>rw[hr,hb]at h;cases h
 ·exact .m (by decide +kernel)
set_option tactic.hygienic true in def W9{sf:Str->Str->PV}(U:∀a∈EH,∀b∈EH,sf a b=.Ee\/∃x:Row,sf a b=.lst (x.map HZ)){one other:sD}(h1:FD one)(h2:FD other){F:PV}(h:UO sf one other=some F):Sh F:=by
 obtain⟨T,J,h⟩:=eW h;unfold OM at h;cases q:pG other (aP one T).length with
 |none=>rw[q]at h;cases h;exact .r
 |some D4=>
  rw[q]at h;obtain⟨M,Z⟩:=L_ h2 q;have Y:=pU h1 J;obtain⟨k,I,h⟩:=eW (show ftN sf (aP one T) D4=some F from h);have I:=cf.mp I;unfold Yv at h;split at h
  ·cases h
  ·rename_i z
   cases h;exact W8 (U _ (ud Y I) _ (ud M (by omega))) (by simpa[-cj]using z)
def Sh.ok{F:PV}(h:Sh F):F5 4 F:=by
 cases h with
 |r=>
  unfold noR;simp only[F5,bi,bt,eI];rintro x (rfl|rfl)
  ·simp only[F5];decide +kernel
  ·exact trivial
 |m I=>
  unfold jo;simp only[F5,bi,bt,eI];rintro x (rfl|rfl|rfl|rfl)
  ·exact I
  ·exact trivial
  ·exact trivial
  ·simp only[F5]
   intro y J;obtain⟨k,_,rfl⟩:=dv.mp J;exact W7 k
 |i I=>
  unfold jo;simp only[F5,bi,bt,eI];rintro x (rfl|rfl|rfl|rfl)
  ·exact I
  ·exact trivial
  ·exact trivial
  ·exact trivial
def Sh.look{F:PV}(h:Sh F):∃w r,F=.tup (.str w::r)/\DY F (some 1) none=some (.tup r)/\r.length<=1000000/\cV [none] (gN 0) wV wU r=some []:=by
 cases h with
 |r=>exact⟨_,_,rfl,rfl,by simp,rfl⟩
 |m I=>exact⟨_,_,rfl,rfl,by simp,rfl⟩
 |i I=>exact⟨_,_,rfl,rfl,by simp,rfl⟩
def zU(I:rL)(a b:Nat):∃cs:List Int,je (I.map PV.int) (some (a:Int)) (some (b:Int))=cs.map PV.int/\cs.length<=b - a:=by
 refine⟨(I.drop (HT.ES I.length 0 (some (a:Int)))).take (HT.ES I.length I.length (some (b:Int)) - HT.ES I.length 0 (some (a:Int))),?_,?_⟩
 ·unfold je;simp[List.map_drop,List.map_take]
 ·rw[HT.Po,HT.Po];simp;omega
def Hy(I:rL)(k:Nat):∃c,cY [.frz (I.map PV.int),.int k]=some (.int c):=by
 by_cases h:k<I.length
 ·have h1:Fn (I.map PV.int) (k:Int)=some (.int I[k]):=fK (by simp[h])
  have h2:(k:Int)<I.length:=by omega
  exact⟨I[k],by simp[cY,lW,h1,h]⟩
 ·have h2:¬ (k:Int)<I.length:=by omega
  exact⟨0,by simp[cY,lW,h]⟩
def UQ(I:rL)(h:I.length<=63):yH [.frz (I.map PV.int)]=some (.bl true):=by
 obtain⟨c0,ZF⟩:=Hy I 0;obtain⟨Z,Y⟩:=Hy I 1;have ZF:cY [.frz (I.map PV.int),.int 0]=some (.int c0):=ZF;have Y:cY [.frz (I.map PV.int),.int 1]=some (.int Z):=Y;obtain⟨a1,e1,l1⟩:=zU I 4 10;obtain⟨a2,e2,l2⟩:=zU I 10 13;obtain⟨a3,e3,l3⟩:=zU I 13 19;have e1:je (I.map PV.int) (some 4) (some 10)=a1.map PV.int:=e1;have e2:je (I.map PV.int) (some 10) (some 13)=a2.map PV.int:=e2;have e3:je (I.map PV.int) (some 13) (some 19)=a3.map PV.int:=e3;obtain⟨one,⟨o1,o2,o3⟩,ho⟩:=Hq (cs:=a1) (by omega);have h1:FD one:=⟨o1,o2,o3⟩;obtain⟨f2,k2,hf2⟩:=PQ h1 a2 (by omega);obtain⟨f3,⟨p1,p2,p3⟩,hf3⟩:=Hq (cs:=a3) (by omega);obtain⟨other,h2,q1,q2⟩:∃other,FD other/\(Z%4=0->other=f3)/\(¬ Z%4=0->other=f2):=by
  by_cases z:Z%4=0
  ·exact⟨f3,⟨p1,p2,p3⟩,λ_=>rfl,λy=>absurd z y⟩
  ·exact⟨f2,k2,λy=>absurd y z,λ_=>rfl⟩
 obtain⟨MD,hMD,hmd⟩:=Mh c0;obtain⟨sf,M,s1,s2⟩:=VV hMD;have d:=VP M h1 h2;have w:=Jy M h1 h2;have w1:=Jy M h1 h1;have w2:=Jy M h2 h2;rw[Hw s1 h1]at w1;rw[Hw s1 h2]at w2;have hsh:∀F,UO sf one other=some F->Sh F:=λF hF=>W9 s2 h1 h2 hF;generalize hS:PV.frz (I.map PV.int)=J at ZF Y;have done:Ed [some J,none,none,none,none,none]=some (.rt (.bl true)):=by
  unfold Ed;refine(aH (e:=[some J,some (tP one),none,none,none,none]) (by rw[←hS];simp[e1,ho])).trans ?_;refine(aH (e:=[some J,some (tP one),some (tP f2),none,none,none]) (by
   rw[←hS];generalize tP one=X1,tP f2=U at *;simp[e2,hf2])).trans ?_
  refine(aH (e:=[some J,some (tP one),some (tP other),none,none,none]) (by
   by_cases z:Z%4=0
   ·rw[q1 z]
    generalize tP f3=X3 at *;rw[←hS]at Y ⊢;simp[Y,z,e3,hf3]
   ·rw[q2 z]
    simp[Y,z])).trans ?_
  generalize tP one=X1,tP other=U at *;refine(aH (e:=[some J,some X1,some U,some (.dK MD),none,none]) (by simp[ZF,hmd])).trans ?_;refine(aH (e:=[some J,some X1,some U,some (.dK MD),some ((UO sf one other).getD .Ee),none]) (by simp[d])).trans ?_;refine(aH (e:=[some J,some X1,some U,some (.dK MD),some ((UO sf one other).getD .Ee),some ((UO sf one other).getD .Ee)]) (by simp[w])).trans ?_;cases q:UO sf one other with
  |none=>
   rw[q]at w;have en:IZ .Ee .Ee=some true:=rfl;simp[w,w1,w2,en]
  |some F=>
   rw[q]at w;have hF:=hsh F q;obtain⟨wd,r,eF,g1,g2,g3⟩:=hF.look;have eq:=D_ hF.ok (by decide);rw[Option.getD_some]at w;rw[Option.getD_some];refine(aH (e:=[some J,some X1,some U,some (.dK MD),some F,some F]) (by
    subst eF;simp[HG,Ll,Jk,eq])).trans ?_
   refine(aH (e:=[some J,some X1,some U,some (.dK MD),some F,some F]) (by
    have nn:cj F=false:=by rw[eF];rfl
    generalize wV=cc,wU=ce at *;simp[nn,-cj,g1,MR.I0,g2,g3])).trans ?_
   simp[w,w1,w2,eq]
 simp[yH,done]
noncomputable def top(i:Nat):Stmt:=PySem.Challenge.pw_lilt_k83_faults_of_forms.main.body.getD i (.Pass ⟨0,0,0,0⟩)
abbrev qG:=top 46
abbrev jU:=top 47
abbrev q_:=top 44
abbrev rA:=top 45
abbrev jO:=top 48
abbrev oh:=top 49
abbrev gF:=top 55
abbrev ue:=top 51
abbrev jF:=top 52
abbrev rC:=top 53
abbrev lY:=top 54
abbrev pH:=top 56
abbrev ou:=top 8
abbrev uf:=top 9
abbrev ug:=top 7
abbrev m7:=top 10
abbrev rE:=top 5
abbrev vh:=top 11
abbrev qH:=top 12
abbrev fY:=inClass (top 29) 2
abbrev iy:=inClass (top 29) 1
abbrev jV:=inClass (top 29) 3
abbrev gW:=top 31
abbrev iT:=inClass (top 29) 5
abbrev iU:=top 33
abbrev lZ:=inClass (top 29) 4
abbrev xm:=top 30
abbrev rF:=top 32
abbrev l_:=top 26
abbrev oA:=top 16
abbrev rG:=top 15
abbrev m8:=top 18
abbrev qI:=top 17
abbrev uh:=top 19
abbrev vo:=top 27
abbrev jW:=top 28
abbrev j8:=inClass (top 29) 0
abbrev m9:=top 34
abbrev rH:=top 57
abbrev mq:=top 58
abbrev m_:=top 59
abbrev my:=top 60
abbrev j9:=top 21
abbrev mz:=top 22
abbrev nj:=top 39
abbrev jb:=top 23
abbrev ul:=top 36
abbrev um:=top 37
abbrev rJ:=top 38
abbrev pW:=top 40
abbrev pI:=top 41
abbrev nq:=top 43
abbrev uo:=top 61
abbrev Qt:List Str:=["_law_parts","_law_cell","_law_heads","_law_number","_law_inner","_law_low","_law_roots_here"]
abbrev JB:List Str:=["form","times","cut","come","turn"]
abbrev Qu:List Str:=["_law_one","_law_other","_law_metres_here","_law_times","_law_mine","_law_some","_law_k","_law_due_here"]
noncomputable section
structure FR where
 k:Nat
 x:Str
 ps:List Str
 m:List PV->Option PV
 st:Stmt
abbrev we:FR:=⟨1, "_law_roots",["_law_parts"],gf,qG⟩
abbrev xy:FR:=⟨1, "_law_is_low",["_law_parts"],fG,jU⟩
abbrev ub:FR:=⟨1, "_law_name",["_law_number"],dq,q_⟩
abbrev vT:FR:=⟨1, "_law_bond",["_law_number"],fM,rA⟩
abbrev xC:FR:=⟨2, "_law_next",["_law_parts","_law_cell"],gK,jO⟩
abbrev xt:FR:=⟨3, "_law_form",["_law_cells"],jg,oh⟩
abbrev xD:FR:=⟨2, "_law_other_form",["_law_form_here","_law_cells"],gn,gF⟩
abbrev ua:FR:=⟨1, "_law_mix",["_law_cell","_law_k"],iJ,ue⟩
abbrev xE:FR:=⟨1, "_law_pattern",["_law_number"],gq,jF⟩
abbrev xL:FR:=⟨2, "_law_slot",["_law_number"],lL,rC⟩
abbrev xz:FR:=⟨3, "_law_metre",["_law_cell","_law_most"],jQ,lY⟩
abbrev xB:FR:=⟨4, "_law_metres",["_law_cell"],jD,pH⟩
abbrev yi:FR:=⟨1, "ending_of",["form"],gQ,ou⟩
abbrev uj:FR:=⟨2, "times_of",["form"],eN,uf⟩
abbrev ya:FR:=⟨1, "cut_form",["form"],jN,ug⟩
abbrev x9:FR:=⟨2, "coming",["form","times"],oV,m7⟩
abbrev yn:FR:=⟨1, "is_letter",["text"],jh,rE⟩
abbrev x0:FR:=⟨2, "bond_in",["letter","turn"],lO,vh⟩
abbrev ui:FR:=⟨3, "plain_rows",["form","times"],bI,qH⟩
abbrev wo:FR:=⟨2, "is_of_first_alone",["walks","node"],a_,iU⟩
abbrev yB:FR:=⟨1, "row_to",["ways","node"],dR,xm⟩
abbrev y4:FR:=⟨1, "with_last_cut",["metre"],cF,l_⟩
abbrev y0:FR:=⟨1, "states_of",["metre"],lR,oA⟩
abbrev wm:FR:=⟨1, "end_state",["metre"],cJ,rG⟩
abbrev yY:FR:=⟨1, "state_behind",["metre","state","ends"],dN,m8⟩
abbrev yT:FR:=⟨1, "stands_for",["sign","mark"],jT,qI⟩
abbrev yv:FR:=⟨2, "moves_of",["metre","state","mark","ends"],iM,uh⟩
abbrev wt:FR:=⟨1, "rest_of",["metre","state"],cG,vo⟩
abbrev wq:FR:=⟨6, "metre_within",["one","other"],bc,m9⟩
abbrev wc:FR:=⟨1, "_law_root",["_law_rows","_law_k"],eV,rH⟩
abbrev xw:FR:=⟨2, "_law_is_bound",["_law_rows","_law_k","_law_j"],iu,mq⟩
abbrev xI:FR:=⟨7, "_law_row_due",["_law_mine","_law_theirs","_law_metres_here","_law_k"],i_,m_⟩
abbrev xp:FR:=⟨8, "_law_due",["_law_one","_law_other","_law_metres_here"],n6,my⟩
abbrev yA:FR:=⟨1, "refuse_no_name",["metres","form"],fB,j9⟩
abbrev yy:FR:=⟨4, "plain_rows_of",["form","many"],eE,mz⟩
abbrev yb:FR:=⟨1, "earlier_bound",["plain","number"],fO,jb⟩
abbrev wn:FR:=⟨1, "first_of",["plain","number"],gw,ul⟩
abbrev wf:FR:=⟨2, "are_same",["plain","one","other"],iQ,um⟩
abbrev xS:FR:=⟨3, "are_bound",["plain","one","other"],jm,rJ⟩
abbrev yk:FR:=⟨9, "form_within",["one","other","metres"],eG,pI⟩
abbrev xo:FR:=⟨1, "_law_cell_at",["_law_script","_law_k"],cY,nq⟩
abbrev AA:FR:=⟨10, "law",["_law_script"],yH,uo⟩
def tq:D6 ["_law_parts","_law_found","_law_number","_law_inner","_law_part"] we.ps (az qG):=FY
def zV:D6 ["_law_parts"] xy.ps (az jU):=FY
def AT:D6 ["_law_number","_law_some"] ub.ps (az q_):=FY
def AS:D6 ["_law_number","_law_some"] vT.ps (az rA):=FY
def tj:D6 ["_law_parts","_law_cell","_law_heads","_law_number","_law_inner","_law_low","_law_roots_here"] xC.ps (az jO):=FY
def y9:D6 ["_law_cells","_law_parts","_law_cell","_law_heads"] xt.ps (az oh):=FY
def sN:D6 ["_law_form_here","_law_cells","_law_parts","_law_cell","_law_at","_law_part","_law_number","_law_roots_here","_law_found"] xD.ps (az gF):=FY
def Gi:D6 ["_law_cell","_law_k"] ua.ps (az ue):=FY
def yN:D6 ["_law_number"] xE.ps (az jF):=FY
def zh:D6 ["_law_number","_law_patterns","_law_k","_law_one"] xL.ps (az rC):=FY
def Bh:D6 ["_law_cell","_law_most"] xz.ps (az lY):=FY
def zd:D6 ["_law_cell","_law_found","_law_k","_law_number"] xB.ps (az pH):=FY
def AW:D6 ["form","endings"] yi.ps (az ou):=FY
def A0:D6 ["form","ending"] uj.ps (az uf):=FY
def tw:D6 ["form","lists","where","number","part"] ya.ps (az ug):=FY
def zk:D6 ["form","times","cut","come","turn"] x9.ps (az m7):=FY
def Fd:D6 ["text"] yn.ps (az rE):=FY
def JC:D6 ["letter","turn"] x0.ps (az vh):=FY
def tJ:D6 ["form","times","plain","became","number","part","turn","back"] ui.ps (az qH):=FY
def qJ:D6 ["self","place"] ["self","place"] (az fY):=FY
def EK:D6 ["self","number","said","ways","rest","many","reached"] ["self","number","said"] (az iy):=FY
def zW:D6 ["self","number"] ["self","number"] (az jV):=FY
def AY:D6 ["walks","node","later"] ["walks","node"] (az gW):=FY
def uq:D6 ["self","number"] ["self","number"] (az iT):=FY
def ur:D6 ["walks","node"] wo.ps (az iU):=FY
def xn:D6 ["self","number"] ["self","number"] (az lZ):=FY
def zl:D6 ["ways","node","backwards","at"] yB.ps (az xm):=FY
def sP:D6 ["walks","is_sought","start","ways","nodes","later","node","said","reached"] ["walks","is_sought"] (az rF):=FY
def xq:D6 ["metre"] y4.ps (az l_):=FY
def uk:D6 ["metre","states","slot","told","number","pattern"] y0.ps (az oA):=FY
def Fe:D6 ["metre"] wm.ps (az rG):=FY
def AD:D6 ["metre","state","ends","slot","behind"] yY.ps (az m8):=FY
def Bj:D6 ["sign","mark"] yT.ps (az qI):=FY
def sR:D6 ["metre","state","mark","ends","slot","at","patterns","numbers","moves","number","reached"] yv.ps (az uh):=FY
def JD:D6 ["metre","state"] wt.ps (az vo):=FY
def wx:D6 ["metre","ahead","state","said","moves"] ["metre"] (az jW):=FY
def GU:D6 ["self","metre","most","closed"] ["self","metre","most"] (az j8):=FY
def yO:D6 ["one","other"] wq.ps (az m9):=FY
def Ff:D6 ["_law_rows","_law_k"] wc.ps (az rH):=FY
def AB:D6 ["_law_rows","_law_k","_law_j","_law_first","_law_second"] xw.ps (az mq):=FY
def ze:D6 ["_law_mine","_law_theirs","_law_metres_here","_law_k","_law_said","_law_j","_law_back"] xI.ps (az m_):=FY
def tf:D6 ["_law_one","_law_other","_law_metres_here","_law_times","_law_mine","_law_some","_law_k","_law_due_here"] xp.ps (az my):=FY
def AZ:D6 ["metres","form","part"] yA.ps (az j9):=FY
def AC:D6 ["form","many","times","rows"] yy.ps (az mz):=FY
def yP:D6 ["metres","known","one","other"] ["metres","known","one","other"] (az nj):=FY
def AV:D6 ["plain","number","bond"] yb.ps (az jb):=FY
def AX:D6 ["plain","number","back"] wn.ps (az ul):=FY
def Gj:D6 ["plain","one","other"] wf.ps (az um):=FY
def AU:D6 ["plain","one","other","bond"] xS.ps (az rJ):=FY
def wv:D6 ["metres","known","one","other","number","many","back","said","free"] ["metres","known","one","other","number"] (az pW):=FY
def tz:D6 ["one","other","metres","known","times","plain","beside","number","fault"] yk.ps (az pI):=FY
def yQ:D6 ["_law_script","_law_k"] xo.ps (az nq):=FY
def tF:D6 ["_law_script","_law_one","_law_other","_law_metres_here","_law_due_here","_law_found"] AA.ps (az uo):=FY
structure Z7 where
 P:Program
 w:World
 K:W.Frag
 mg:Str->Option Value
 base:Heap
 cl:Nat->Addr
 Lm:Tok
 GB:Addr
 HM:Addr
section
variable (Z:Z7)(r:FR)(f:Addr)(fd:FuncData)
abbrev ca:=QI Z.P Z.w Z.K Z.mg Z.base r.k r.x r.ps (IL ⟨Z.K,Z.cl⟩ r.m false)
abbrev fu:=IS Z.K r.x r.x r.st f fd
abbrev fo:=FA Z.P Z.w Z.K Z.mg Z.base Lu r.k f fd r.ps (IL ⟨Z.K,Z.cl⟩ r.m false)
structure Zq:Prop where
 wE:Z.mg "bool" = none
 wP:Z.mg "dict" = none
 uu:Z.mg "enumerate" = none
 tT:Z.mg "isinstance" = none
 gV:Z.mg "len" = none
 sT:Z.mg "list" = none
 t0:Z.mg "max" = none
 wS:Z.mg "min" = none
 sL:Z.mg "range" = none
 wT:Z.mg "reversed" = none
 w4:Z.mg "sorted" = none
 w8:Z.mg "str" = none
 sM:Z.mg "tuple" = none
 uS:Z.mg "zip" = none
 vv:Z.mg "LETTERS" = some (.str "abcdefghijklmnopqrstuvwxyz" Z.Lm)
 sQ:Z.mg "SAID" = some (.ref Z.GB)
 vx:Z.mg "START" = some (.ref Z.HM)
 At:∀(B:se) (H:Hp),Rep ⟨Z.K,Z.cl⟩ B H (.ref Z.GB) yF
 Au:∀(B:se) (H:Hp),Rep ⟨Z.K,Z.cl⟩ B H (.ref Z.HM) jA
 E9:OE Z.K (Z.cl 12)
 vE:∀t k,(t,k)∈Kj->W.kitOne Z.K (.type t) (.type "bool")=some k
 vF:∀t k,(t,k)∈Ll->W.kitOne Z.K (.type t) (.type "str")=some k
 vS:∀t k,(t,k)∈HG->W.kitOne Z.K (.type t) (.type "tuple")=some k
 Kk:EX Z.K (Z.cl 12) "ahead"
 LZ:EX Z.K (Z.cl 12) "end"
 LD:EX Z.K (Z.cl 12) "most"
 L1:EX Z.K (Z.cl 12) "numbers"
 MG:EX Z.K (Z.cl 12) "onward"
 FU:EX Z.K (Z.cl 12) "places"
 Kn:uT ⟨Z.K,Z.cl⟩ Z.GB GA
end
section
variable {Z:Z7}{f:Addr}{fd:FuncData}
def Bk(F:fu Z we f fd)(T:Zq Z):fo Z we f fd:=by
 refine G0 F tq [1] [] [] λI=>?_;exact(au (gJ 1 tq.nd (cW aq)) (au (bD 2 tq.nd ao) (au (bD 3 tq.nd vG) (au (eY [4] (d_ (aj 0)) (jK 4 tq.nd) (aC (cz (aQ (yD (aA I (aj 4) ao) (bw (aa aR (aa aR aq))))) (aC (bD 3 tq.nd (dJ (bJ I (aA I (aj 4) ao) aR)))) (au (bD 2 tq.nd (fH (aj 2) ao)) (aC (cz (aQ (bJ I (aA I (aj 4) ao) aR)) (aC (lC 1 (bw (aa (aj 2) (aa (aj 3) aq))))) bH))))) b6) (rZ (G1:=[]) (aC (aX (aj 1))))))))
def zX(F:fu Z xy f fd)(T:Zq Z):fo Z xy f fd:=by
 refine G0 F zV [] [] [] λI=>?_;exact(aC (aX (dJ (vI I (jz (FH:=(az jU)) (ON:=["_law_parts"]) (N:=["_law_part"]) (ED:=[none]) N2 (mR 0) (d_ (aj 0)) (λ_ _ _ _=>fX 0) (λ_ _ _ _=>jX (SW.st (dh (aQ (bJ I (aA I (aj 0) ao) aR)) (cU (aQ (bJ I (aA I (aj 0) ao) ao)))))) (λ_ _ _ _=>(aj 0))) (cW aq)))))
def Fg(F:fu Z ub f fd)(T:Zq Z):fo Z ub f fd:=by
 refine G0 F AT [] [] [] λI=>?_;exact(au (bD 1 AT.nd (SE.val (cW (aa aR (aa aR (aa aR (aa aR (aa aR (aa aR (aa aR (aa aR aq))))))))))) (aC (aX (aA I (aj 1) (cH (aj 0) ao)))))
def Fl(F:fu Z vT f fd)(T:Zq Z):fo Z vT f fd:=by
 refine G0 F AS [] [] [] λI=>?_;exact(au (bD 1 AS.nd (SE.val (cW (aa bK (aa aR (aa aR (aa aR (aa aR (aa aR (aa aR (aa aR aq))))))))))) (aC (aX (aA I (aj 1) (cH (aj 0) ao)))))
def Fo(F:fu Z xC f fd)(T:Zq Z)(J:ca Z vT)(U:ca Z xy)(Y:ca Z ub)(M:ca Z we):fo Z xC f fd:=by
 refine G0 F tj [] [] [] λI=>?_;exact(au (oO 2 tj.nd (FH:=(az jO)) (ON:=Qt) (N:=["_law_part"]) (ED:=[none]) N2 (mR 0) (d_ (aj 0)) (λ_ _ _ _=>fX 0) (λ_ _ _ _=>fJ) (λ_ _ _ _=>(aA I (aj 0) ao))) (au (bD 3 tj.nd (gj (aj 1) ao)) (au (bD 4 tj.nd (uQ (dJ (yD aR (aj 2))) (oJ (dJ (oR aR (aj 2)))))) (au (bD 5 tj.nd (cH (aj 3) ao)) (au (cz (SW.st (dh (aQ (bJ I (cH (aj 1) ao) ao)) (cU (aQ (oR aR (aj 2)))))) (aC (aX (bw (aa aR aq)))) bH) (au (cz (SW.st (dh (aQ (bJ I (cH (aj 1) ao) ao)) (dh (gk (aj 4)) (cU (aQ (vI I (aA I (aj 2) (yc ao)) aR)))))) (aC (aX (bw (aa aR (aa (aj 5) (aa (fH (Dl T.t0 ao (aj 5)) (cH (gj (aj 3) ao) (Ub ao (Dl T.t0 ao (aj 5))))) aq)))))) bH) (au (bD 6 tj.nd (aL M I (aa (aj 0) aq))) (au (cz (SW.st (dh (oK (gk (aj 4))) (cU (gk (aL U I (aa (aj 0) aq)))))) (aC (oO 6 tj.nd (FH:=(az jO)) (ON:=Qt) (N:=["_law_one"]) (ED:=[none]) N2 (mR 0) (d_ (aj 6)) (λ_ _ _ _=>fX 0) (λ_ _ _ _=>jX (oK (gk (aA I (aj 0) ao)))) (λ_ _ _ _=>(aj 0)))) bH) (au (cz (SW.st (dh (aQ (yD (cH (aj 1) ao) (bw (aa ao (aa ao aq))))) (cU (aQ (vI I (aj 6) (cW aq)))))) (aC (aX (bw (aa aR (aa (aA I (aA I (aj 6) (cH (aj 3) (cI T.gV (aj 6)))) ao) aq))))) bH) (aC (aX (bw (aa aR (aa (aL Y I (aa (aj 3) aq)) (aa (aL J I (aa (gj (aj 3) ao) aq)) aq)))))))))))))))
def Fp(F:fu Z xt f fd)(T:Zq Z)(J:ca Z xC):fo Z xt f fd:=by
 refine G0 F y9 [1] [1] [] λI=>?_;exact(au (gJ 1 y9.nd (cW aq)) (au (eY [2] (d_ (aj 0)) (jK 2 y9.nd) (aC (lC 1 (Nm J I (Nj (jJ 1) (aa (aj 2) aq))))) b6) (au (oO 3 y9.nd (FH:=(az oh)) (ON:=["_law_cells","_law_parts","_law_cell","_law_heads"]) (N:=["_law_part"]) (ED:=[none]) N2 (mR 0) (d_ (jJ 1)) (λ_ _ _ _=>fX 0) (λ_ _ _ _=>fJ) (λ_ _ _ _=>(aA I (aj 0) ao))) (au (cz (SW.st (yf (aQ (bJ I (aj 3) (cW aq))) (ye (aQ (bJ I (aA I (aj 3) (yc ao)) aR))))) (aC (lC 1 (bw (aa aR (aa aR (aa aR aq)))))) bH) (au (cz (SW.st (dh (aQ (yD aR (aj 3))) (cU (aQ (oR aR (aj 3)))))) (aC (lC 1 (bw (aa aR (aa ao (aa ao aq)))))) bH) (aC (aX (qi T.sM (jJ 1)))))))))
def vq(F:fu Z xD f fd)(T:Zq Z)(M:ca Z vT)(J:ca Z ub)(U:ca Z we):fo Z xD f fd:=by
 refine G0 F sN [2,8] [8] [] λI=>?_;exact(au (gJ 2 sN.nd (Q8 T.sT (aj 0))) (au (eY [3,4,5,6] (d_ (aj 1)) (jK 3 sN.nd) (au (bD 4 sN.nd (cH (aj 3) (cI T.gV (jJ 2)))) (au (bD 5 sN.nd (aA I (jJ 2) (aj 4))) (au (bD 6 sN.nd (gj (aj 3) (cI T.gV (jJ 2)))) (au (cz (SW.st (dh (aQ (bJ I (aA I (aj 5) ao) aR)) (cU (aQ (bJ I (cH (aj 6) ao) ao))))) (aC (pO 2 I (aj 4) (bw (aa aR (aa (aA I (aj 5) ao) (aa bK aq)))))) bH) (au (cz (SW.st (dh (aQ (bJ I (aA I (aj 5) ao) aR)) (cU (aQ (bJ I (cH (aj 6) ao) ao))))) (aC (pO 2 I (aj 4) (bw (aa aR (aa (aL J I (aa (gj (aj 6) ao) aq)) (aa (aA I (aj 5) ao) aq)))))) bH) (au (cz (SW.st (dh (aQ (bJ I (aA I (aj 5) ao) aR)) (cU (aQ (bJ I (cH (aj 6) ao) ao))))) (aC (pO 2 I (aj 4) (bw (aa aR (aa (aA I (aj 5) ao) (aa (aL M I (aa (gj (aj 6) ao) aq)) aq)))))) bH) (au (cz (SW.st (dh (aQ (bJ I (aA I (aj 5) ao) aR)) (cU (aQ (bJ I (cH (aj 6) ao) ao))))) (aC (pO 2 I (aj 4) (bw (aa aR (aa (aL J I (aa (gj (aj 6) ao) aq)) (aa (aL M I (aa (gj (aj 6) ao) aq)) aq)))))) bH) (aC (cz (SW.st (dh (aQ (bJ I (aA I (aj 5) ao) aR)) (cU (aQ (x_ (cH (aj 6) ao) ao))))) (aC (pO 2 I (aj 4) (bw (aa aR (aa (aA I (aj 5) ao) (aa (Dl T.t0 (aA I (aj 5) ao) (fH ao (cH (gj (aj 6) ao) ao))) aq)))))) bH))))))))) b6) (rZ (G1:=[8]) (au (oO 7 sN.nd (FH:=(az gF)) (ON:=["_law_form_here","_law_cells","_law_parts","_law_cell","_law_at","_law_part","_law_number","_law_roots_here","_law_found"]) (N:=["_law_number","_law_inner"]) (ED:=[none,none]) N2 (Dk [0,1]) (d_ (aL U I (aa (aj 2) aq))) (λ_ _ _ _=>oE rfl (dz (fX 0) (dz (fX 1) kh))) (λ_ _ _ _=>fJ) (λ_ _ _ _=>(aj 0))) (au (gJ 8 sN.nd (cW aq)) (au (eY [5] (d_ (aj 2)) (jK 5 sN.nd) (au (cz (SW.st (dh (aQ (bJ I (aA I (aj 5) ao) aR)) (cU (aQ (oR (aA I (aj 5) ao) (aj 7)))))) (aC (bD 5 sN.nd (bw (aa aR (aa aR (aa bK aq)))))) bH) (aC (lC 8 (aj 5)))) b6) (aC (aX (qi T.sM (jJ 8))))))))))
def Gk(F:fu Z ua f fd)(T:Zq Z):fo Z ua f fd:=by
 refine G0 F Gi [] [] [] λI=>?_;exact(aC (aX (cH (fH (xZ (cH (aj 0) ao) (fH ao (xZ (xZ ao (aj 1)) (aj 1)))) (xZ ao (aj 1))) ao)))
def yR(F:fu Z xE f fd)(T:Zq Z):fo Z xE f fd:=by
 refine G0 F yN [] [] [] λI=>?_;exact(aC (aX (Q_ aR (jz (FH:=(az jF)) (ON:=["_law_number"]) (N:=["_law_k","_law_number"]) (ED:=[none,some 0]) N2 (mR 0) (tL T.sL (fH ao (cH (cH (aj 0) ao) ao))) (λ_ _ _ _=>fX 0) (λ_ _ _ _=>fJ) (λ_ _ _ _=>(aA I aR (cH (gj (aj 1) (aA I (cW (aa ao (aa ao (aa ao (aa ao aq))))) (aj 0))) ao)))))))
def Fq(F:fu Z xL f fd)(T:Zq Z)(J:ca Z ua)(M:ca Z xE):fo Z xL f fd:=by
 refine G0 F zh [1] [1] [] λI=>?_;exact(au (gJ 1 zh.nd (cW aq)) (au (eY [2,3] (tL T.sL (fH ao (cH (aj 0) ao))) (jK 2 zh.nd) (au (bD 3 zh.nd (aL M I (aa (aL J I (aa (gj (aj 0) ao) (aa (aj 2) aq))) aq))) (aC (cz (aQ (oR (aj 3) (jJ 1))) (aC (lC 1 (aj 3))) bH))) b6) (aC (aX (bw (aa (qi T.sM (jJ 1)) (aa (dJ (bJ I (cH (gj (aj 0) ao) ao) ao)) aq)))))))
def Bl(F:fu Z xz f fd)(T:Zq Z)(M:ca Z ua)(J:ca Z xL):fo Z xz f fd:=by
 refine G0 F Bh [] [] [] λI=>?_;exact(aC (aX (qi T.sM (jz (FH:=(az lY)) (ON:=["_law_cell","_law_most"]) (N:=["_law_k","_law_cell","_law_most"]) (ED:=[none,some 0,some 1]) N2 (mR 0) (tL T.sL (fH ao (cH (aj 0) (aj 1)))) (λ_ _ _ _=>fX 0) (λ_ _ _ _=>fJ) (λ_ _ _ _=>(aL J I (aa (aL M I (aa (gj (aj 1) (aj 2)) (aa (aj 0) aq))) aq)))))))
def zY(F:fu Z xB f fd)(T:Zq Z)(M:ca Z xz)(J:ca Z ua)(U:ca Z ub):fo Z xB f fd:=by
 refine G0 F zd [1] [] [] λI=>?_;exact(au (gJ 1 zd.nd Qi) (au (eY [2,3] (tL T.sL ao) (jK 2 zd.nd) (au (bD 3 zd.nd (aL J I (aa (aj 0) (aa (aj 2) aq)))) (aC (pO 1 I (aL U I (aa (aj 2) aq)) (aL M I (aa (aA I (cW (aa ao (aa ao (aa ao (aa (aj 3) aq))))) (cH (gj (aj 3) ao) ao)) (aa ao aq)))))) b6) (rZ (G1:=[]) (aC (aX (aj 1))))))
def Ft(F:fu Z yi f fd)(T:Zq Z):fo Z yi f fd:=by
 refine G0 F AW [] [] [] λI=>?_;exact(au (oO 1 AW.nd (FH:=(az ou)) (ON:=["form","endings"]) (N:=["part"]) (ED:=[none]) N2 (mR 0) (d_ (aj 0)) (λ_ _ _ _=>fX 0) (λ_ _ _ _=>jX (aQ (bJ I (aA I (aj 0) ao) aR))) (λ_ _ _ _=>(aj 0))) (aC (aX (tG (aQ (x_ (cI T.gV (aj 1)) ao)) (aA I (aj 1) ao) bK))))
def Gm(F:fu Z uj f fd)(T:Zq Z)(J:ca Z yi):fo Z uj f fd:=by
 refine G0 F A0 [] [] [] λI=>?_;exact(au (bD 1 A0.nd (aL J I (aa (aj 0) aq))) (aC (aX (tG (aQ (tE (aj 1) bK)) (SE.val (cW (aa ao aq))) (SE.val (NQ T.sT T.sL (aA I (aj 1) ao) (fH (aA I (aj 1) ao) ao)))))))
def Gn(F:fu Z ya f fd)(T:Zq Z):fo Z ya f fd:=by
 refine F.ok tw (λvs H Q E h=>Vl h) (λM A' J s H vs Q E I h=>⟨tCt ⟨Z.K,Z.cl⟩ lN,?_,Vm h⟩);exact bf (cZ (i:=1) tw.nd rfl (.inl rfl) (lq (aD (lq aV) (aD (lq aV) (aD (lq aV) aV))))) (bf (cZ (i:=2) tw.nd rfl (.inl rfl) iz) (bf (cZ (i:=3) tw.nd rfl (.inl rfl) iz)
  (bf (rK b6 rfl (Cm (pv 0)) (d7 (i:=4) tw.nd rfl (fb rfl))
   (bT (pK (Ox λ_ _=>SW.st (yf (aQ (bJ I (aA I (aj 4) ao) aR)) (ye (aQ (bJ I (aA I (aj 4) ao) aR)))))
    (bT (cZ (i:=2) tw.nd rfl (.inl rfl) (lH λ_ _=>fH (aj 2) ao)))
    (bf (cZ (i:=3) tw.nd rfl (.inl rfl) (lH λ_ _=>fH (aj 3) ao)) (bT (mD (De Z.K gu hU hV oF (vB (tu Z.K) (pv 1) (pv 2) (λ_ _=>rfl)) (aD (lg (aD (pv 3) (aD (pv 4) aV))) aV))))))))
  (bT (gH (pv 1))))))
def Ml(F:fu Z x9 f fd)(T:Zq Z)(J:ca Z ya):fo Z x9 f fd:=by
 refine G0 F zk [3] [3] [] λI=>?_;exact(au (bD 2 zk.nd (aL J I (aa (aj 0) aq))) (au (Rg 3 zk.nd (FH:=(az m7)) (ON:=JB) (N:=["number","part"]) (ED:=[none,none]) N2 (Dk [0,1]) (d_ (aA I (aj 2) ao)) (λ_ _ _ _=>oE rfl (dz (fX 0) (dz (fX 1) kh))) (λ_ _ _ _=>fJ) (λ_ _ _ _=>(bw (aa (aj 0) (aa (aj 1) (aa ao aq)))))) (au (eY [4] (Ql T.sL ao (fH (aj 1) ao)) (jK 4 zk.nd) (aC (Qm 3 (SE.val (jz (FH:=(az m7)) (ON:=JB) (N:=["number","part","turn"]) (ED:=[none,none,some 4]) N2 (Dk [0,1]) (d_ (aA I (aj 2) ao)) (λ_ _ _ _=>oE rfl (dz (fX 0) (dz (fX 1) kh))) (λ_ _ _ _=>fJ) (λ_ _ _ _=>(bw (aa (aj 0) (aa (aj 1) (aa (aj 2) aq))))))))) b6) (aC (aX (SE.val (Ua (jJ 3) (jz (FH:=(az m7)) (ON:=JB) (N:=["number","part"]) (ED:=[none,none]) N2 (Dk [0,1]) (d_ (aA I (aj 2) ao)) (λ_ _ _ _=>oE rfl (dz (fX 0) (dz (fX 1) kh))) (λ_ _ _ _=>fJ) (λ_ _ _ _=>(bw (aa (aj 0) (aa (aj 1) (aa ao aq)))))))))))))
def Fv(F:fu Z yn f fd)(T:Zq Z):fo Z yn f fd:=by
 refine G0 F Fd [] [] [] λI=>?_;exact(aC (aX (uQ (dJ (bJ I (cI T.gV (aj 0)) ao)) (oJ (dJ (Vj (aj 0) (Wq T.vv)))))))
def JF(F:fu Z x0 f fd)(T:Zq Z)(J:ca Z yn):fo Z x0 f fd:=by
 refine G0 F JC [] [] [] λI=>?_;exact(au (cz (aQ (tE (aj 0) bK)) (aC (aX bK)) bH) (aC (aX (bw (aa (aj 0) (aa (tG (gk (aL J I (aa (aj 0) aq))) (aj 1) ao) aq))))))
def Bm(F:fu Z ui f fd)(T:Zq Z)(M:ca Z x0)(J:ca Z x9):fo Z ui f fd:=by
 refine G0 F tJ [2,3] [3] [] λI=>?_;exact(au (gJ 2 tJ.nd (cW aq)) (au (gJ 3 tJ.nd Qi) (au (eY [4,5,6,7] (d_ (aL J I (aa (aj 0) (aa (aj 1) aq)))) (Iw (g_ 4 tJ.nd (g_ 5 tJ.nd (g_ 6 tJ.nd vK)))) (aC (cz (aQ (bJ I (aA I (aj 5) ao) aR)) (au (pO 3 I (aj 4) (cI T.gV (jJ 2))) (aC (lC 2 (bw (aa (aA I (aj 5) ao) (aa (aL M I (aa (aA I (aj 5) ao) (aa (aj 6) aq))) (aa bK aq))))))) (au (bD 7 tJ.nd (aA I (jJ 3) (aA I (aj 5) ao))) (aC (lC 2 (bw (aa (aA I (aA I (jJ 2) (aj 7)) ao) (aa bK (aa (aj 7) aq))))))))) b6) (rZ (G1:=[3]) (aC (aX (aj 2)))))))
def qK(F:IS Z.K "number_of_place" "Walk.number_of_place" fY f fd)(T:Zq Z):FA Z.P Z.w Z.K Z.mg Z.base Lu 1 f fd ["self","place"] (vM ⟨Z.K,Z.cl⟩):=by
 refine F.ok qJ (λvs H Q E h=>Ld h) (λM A' I s H vs Q E J h=>⟨Oc Z.K,?_,Ro h⟩);exact bf (pK (uE (qP (fP J) (pv 1) (ju Z.K (pv 0)))) (bf (rR (fP J) (ju Z.K (pv 0)) (pv 1) (gZ (qQ Z.K) rfl T.gV kM (aD (ju Z.K (pv 0)) aV)) rfl) (bT (mD (De Z.K gu hU hV oF (ju Z.K (pv 0)) (aD (pv 1) aV))))) j_) (bT (gH (vA (fP J) (ju Z.K (pv 0)) (pv 1) (λ_ _=>rfl))))
def sH(F:IS Z.K "place_behind" "Walk.place_behind" iy f fd)(T:Zq Z):FA Z.P Z.w Z.K Z.mg Z.base Lu 1 f fd ["self","number","said"] (IL ⟨Z.K,Z.cl⟩ aO false):=by
 refine G0 F EK [3] [3] [] λI=>?_;exact(au (gJ 3 EK.nd Qj) (au (eY [4,5,6] (d_ (aA I (rY (c:=12) T.E9 T.FU (aj 0)) (aj 1))) (Iw (g_ 4 EK.nd (g_ 5 EK.nd vK))) (aC (eY [6] (d_ (zz I (rY (c:=12) T.E9 T.Kk (aj 0)) (bw (aa (aj 4) (aa (aj 2) aq))) (SE.val (cW aq)))) (jK 6 EK.nd) (aC (pO 3 I (aj 6) (Ul T.wS (rY (c:=12) T.E9 T.LD (aj 0)) (fH (zz I (jJ 3) (aj 6) ao) (aj 5))))) b6)) b6) (aC (aX (qi T.sM (Ob I T.w4 (jJ 3)))))))
def zZ(F:IS Z.K "later" "Walk.later" jV f fd)(T:Zq Z)(U:KS Z.P Z.w Z.K Z.mg Z.base (Z.cl 12) 1 "number_of_place" ["self","place"] (vM ⟨Z.K,Z.cl⟩))(M:KS Z.P Z.w Z.K Z.mg Z.base (Z.cl 12) 1 "place_behind" ["self","number","said"] (IL ⟨Z.K,Z.cl⟩ aO false)):FA Z.P Z.w Z.K Z.mg Z.base Lu 2 f fd ["self","number"] (yo ⟨Z.K,Z.cl⟩ 12 aO GA):=by
 refine F.ok zW (λvs H Q E h=>Lf h) (λY A' J s H vs Q E I h=>⟨Od ⟨Z.K,Z.cl⟩ 12 aO Z.GB,?_,Rp T.Kn h⟩);exact bf (pK (uE (qP (fP I) (pv 1) (ju Z.K (pv 0)))) (bT (rR (fP I) (ju Z.K (pv 0)) (pv 1) (vD (FH:=(az jV)) (ON:=["self","number"]) (N:=["said","self","number"]) (ED:=[none,some 0,some 1]) ⟨rfl,by decide +kernel,by decide +kernel,by decide +kernel,by decide +kernel⟩ (Cm (mC rfl T.sQ rfl)) (λ_ _ _ _=>d7 (i:=0) (show(["said","self","number"]:rj).Nodup by decide +kernel) rfl (fb rfl)) (λ_ _ _ _=>p_) (λ_ _ _ _=>vQ U T.E9 I (pv 1) (aD (vQ M T.E9 I (pv 1) (aD (pv 2) (aD (pv 0) aV))) aV))) rfl)) j_) (bT (gH (vA (fP I) (ju Z.K (pv 0)) (pv 1) (λ_ _=>rfl))))
def yS(F:IS Z.K "nodes_behind" "nodes_behind" gW f fd)(T:Zq Z)(M:KS Z.P Z.w Z.K Z.mg Z.base (Z.cl 12) 2 "later" ["self","number"] (yo ⟨Z.K,Z.cl⟩ 12 aO GA)):FA Z.P Z.w Z.K Z.mg Z.base Lu 3 f fd ["walks","node"] (Dz ⟨Z.K,Z.cl⟩ 12 aO GA):=by
 refine F.ok AY (λvs H Q E h=>Oh h) (λU A' I s H vs Q E J h=>⟨tNb ⟨Z.K,Z.cl⟩ 12 aO GA Z.GB,?_,U7 T.Kn (by decide) h⟩);exact bf (cZ (i:=2) AY.nd rfl (.inr rfl) (vD (FH:=(az gW)) (ON:=["walks","node","later"]) (N:=["walk","number"]) (ED:=[none,none]) ⟨rfl,by decide +kernel,by decide +kernel,by decide +kernel,by decide +kernel⟩ (G4 (k1:=.L) (k2:=.T) rfl T.uS (aD (pv 0) (aD (pv 1) aV))) (λ_ _ _ _=>oE rfl (dz (d7 (i:=0) (show(["walk","number"]:rj).Nodup by decide +kernel) rfl (fb rfl)) (dz (d7 (i:=1) (show(["walk","number"]:rj).Nodup by decide +kernel) rfl (fb rfl)) kh))) (λ_ _ _ _=>p_) (λ_ _ _ _=>vQ M T.E9 J (pv 0) (aD (pv 1) aV)))) (bT (gH (Dc (FH:=(az gW)) (z:=some "at") (ON:=["walks","node","later"]) (N:=["at","later"]) (ED:=[none,some 2]) ⟨rfl,by decide +kernel,by decide +kernel,by decide +kernel,λ_ _=>rfl,λ_=>rfl,by decide +kernel,by decide +kernel⟩ (uF rfl T.sL (aD (gZ (qQ Z.K) rfl T.gV kM (aD (mC rfl T.sQ rfl) aV)) aV)) (λ_ _ _ _=>d7 (i:=0) (show(["at","later"]:rj).Nodup by decide +kernel) rfl (fg rfl)) (λ_ _ _ _=>p_) (λ_ _ _ _=>Ag uw rfl T.sM kG (aD (vD (FH:={kind:=.function,names:=[(".0",.local),("at",.cell),("tuple",.globalImplicit),("later",.cell)],isGenerator:=false,isCoroutine:=false}) (ON:=["at","later"]) (N:=["numbers","at"]) (ED:=[none,some 0]) ⟨rfl,by decide +kernel,by decide +kernel,by decide +kernel,by decide +kernel⟩ (vy (pv 1)) (λ_ _ _ _=>d7 (i:=0) (show(["numbers","at"]:rj).Nodup by decide +kernel) rfl (fb rfl)) (λ_ _ _ _=>p_) (λ_ _ _ _=>vB (tu Z.K) (pv 0) (pv 1) (λ_ _=>rfl))) aV)))))
def ut(F:IS Z.K "ways_to_end" "Walk.ways_to_end" iT f fd)(T:Zq Z):FA Z.P Z.w Z.K Z.mg Z.base Lu 1 f fd ["self","number"] (IL ⟨Z.K,Z.cl⟩ bY false):=by
 refine G0 F uq [] [] [] λI=>?_;exact(aC (aX (zz I (Om I T.wP (aA I (rY (c:=12) T.E9 T.FU (aj 0)) (aj 1))) (rY (c:=12) T.E9 T.LZ (aj 0)) ao)))
def uv(F:fu Z wo f fd)(T:Zq Z)(J:KS Z.P Z.w Z.K Z.mg Z.base (Z.cl 12) 1 "ways_to_end" ["self","number"] (IL ⟨Z.K,Z.cl⟩ bY false)):fo Z wo f fd:=by
 refine G0 F ur [] [] [] λI=>?_;exact(aC (aX (uQ (dJ (x_ (Dg (c:=12) J T.E9 I (aA I (aj 0) ao) (aa (aA I (aj 1) ao) aq)) ao)) (oJ (dJ (bJ I (Dg (c:=12) J T.E9 I (aA I (aj 0) ao) (aa (aA I (aj 1) ao) aq)) ao))))))
def xr(F:IS Z.K "is_over" "Walk.is_over" lZ f fd)(T:Zq Z):FA Z.P Z.w Z.K Z.mg Z.base Lu 1 f fd ["self","number"] (IL ⟨Z.K,Z.cl⟩ bG false):=by
 refine G0 F xn [] [] [] λI=>?_;exact(aC (aX (dJ (bJ I (cI T.gV (aA I (rY (c:=12) T.E9 T.FU (aj 0)) (aj 1))) ao))))
def Mm(F:fu Z yB f fd)(T:Zq Z):fo Z yB f fd:=by
 refine G0 F zl [2] [2] [] λI=>?_;exact(au (gJ 2 zl.nd (cW aq)) (au (bD 3 zl.nd (aj 1)) (au (Rf 1000000 [] (aQ (dC (aA I (aj 0) (aj 3)) bK)) (au (lC 2 (aA I (aA I (aj 0) (aj 3)) ao)) (aC (bD 3 zl.nd (aA I (aA I (aj 0) (aj 3)) ao)))) b6) (aC (aX (SE.val (Ny T.sT T.wT (jJ 2))))))))
def Fw(F:IS Z.K "first_row" "first_row" rF f fd)(T:Zq Z)(zw:ca Z wo)(BO:QI Z.P Z.w Z.K Z.mg Z.base 3 "nodes_behind" ["walks","node"] (Dz ⟨Z.K,Z.cl⟩ 12 aO GA))(BY:ca Z yB)(Y:KS Z.P Z.w Z.K Z.mg Z.base (Z.cl 12) 1 "is_over" ["self","number"] (IL ⟨Z.K,Z.cl⟩ bG false)):FA Z.P Z.w Z.K Z.mg Z.base Lu 4 f fd ["walks","is_sought"] (Oq Z.mg "is_of_first_alone" ⟨Z.K,Z.cl⟩ 12 aO GA bG a_ dR):=by
 refine F.ok sP (λvs H Q E h=>by obtain⟨U,_,F,cs,ws,out,wl,rfl,_⟩:=h;rfl) (λHV A' J s H vs Q E I h=>?_);obtain⟨U,M,h⟩:=h;refine⟨tFr ⟨Z.K,Z.cl⟩ 12 aO GA bG a_ dR U Z.GB,?_,Va T.Kn h⟩;exact bf (cZ (i:=2) sP.nd rfl (.inl rfl) (P_ Rq (lg (aD iz aV)) (gZ (qQ Z.K) rfl T.gV kM (aD (pv 0) aV))))
  (bf (cZ (i:=3) sP.nd rfl (.inl rfl) (G5 (fP I) (pv 2) xK))
  (bf (cZ (i:=4) sP.nd rfl (.inl rfl) (lq (aD (pv 2) aV)))
  (bf (Ck b6 (uE (V8 (gZ (qQ Z.K) rfl T.gV kM (aD (pv 4) aV)) iz))
   (bf (cZ (i:=5) sP.nd rfl (.inl rfl) (lq aV))
   (bf (rK b6 rfl (vy (pv 4)) (d7 (i:=6) sP.nd rfl (fb rfl))
    (bT (rK b6 rfl (G4 (k1:=.T) (k2:=.L) rfl T.uS (aD (mC rfl T.sQ rfl) (aD (iB BO I (aD (pv 0) (aD (pv 6) aV))) aV))) (oE rfl (dz (d7 (i:=7) sP.nd rfl (fb rfl)) (dz (d7 (i:=8) sP.nd rfl (fb rfl)) kh)))
     (bT (pK (PW.pt (JN (uE (qP (fP I) (pv 8) (pv 3))) (Gw (JP (Ci (vQ Y T.E9 I (vB (tu Z.K) (pv 0) iz (λ_ _=>rfl)) (aD (vB (Q0 Z.K) (pv 8) iz (λ_ _=>rfl)) aV)))))))
      (bf (rR (fP I) (pv 3) (pv 8) (lg (aD (pv 6) (aD (pv 7) aV))) rfl)
      (bf (mD (De Z.K gu hU hV oF (pv 5) (aD (pv 8) aV)))
      (bT (pK (Ci (Rx (i:=1) zw M I (aD (pv 0) (aD (pv 8) aV)))) (bT (gH (iB BY I (aD (pv 3) (aD (pv 8) aV))))) j_)))) j_)))))
   (bT (cZ (i:=4) sP.nd rfl (.inl rfl) (pv 5))))))
  (bT (gH xK)))))
def xu(F:fu Z y4 f fd)(T:Zq Z):fo Z y4 f fd:=by
 refine G0 F xq [] [] [] λI=>?_;exact(aC (aX (Ol (G_ (aj 0) zp (jx (yc ao))) (bw (aa (bw (aa (aA I (aA I (aj 0) (yc ao)) ao) (aa vG aq))) aq)))))
def Fx(F:fu Z y0 f fd)(T:Zq Z):fo Z y0 f fd:=by
 refine G0 F uk [1] [] [] λI=>?_;exact(au (gJ 1 uk.nd (cW aq)) (au (eY [2,3,4,5] (Dn T.uu (aj 0)) (Iw (g_ 2 uk.nd (g_ 3 uk.nd vK))) (au (lC 1 (bw (aa (aj 2) (aa ao (aa ao aq))))) (aC (eY [4,5] (Dn T.uu (aA I (aj 3) ao)) (Iw (g_ 4 uk.nd (g_ 5 uk.nd vK))) (aC (Qm 1 (SE.val (jz (FH:=(az oA)) (ON:=["metre","states","slot","told","number","pattern"]) (N:=["at","slot","number"]) (ED:=[none,some 2,some 4]) N2 (mR 0) (Ql T.sL ao (cI T.gV (aj 5))) (λ_ _ _ _=>fX 0) (λ_ _ _ _=>fJ) (λ_ _ _ _=>(bw (aa (aj 1) (aa (aj 2) (aa (aj 0) aq))))))))) b6))) b6) (rZ (G1:=[]) (aC (aX (aj 1))))))
def Fy(F:fu Z wm f fd)(T:Zq Z):fo Z wm f fd:=by
 refine G0 F Fe [] [] [] λI=>?_;exact(aC (aX (bw (aa (cI T.gV (aj 0)) (aa ao (aa ao aq))))))
def yU(F:fu Z yY f fd)(T:Zq Z):fo Z yY f fd:=by
 refine G0 F AD [] [] [] λI=>?_;exact(au (bD 3 AD.nd (aA I (aj 1) ao)) (au (bD 4 AD.nd (fH (aA I (aj 1) ao) ao)) (au (cz (aQ (Qh (aj 4) (cI T.gV (aA I (aA I (aA I (aj 0) (aj 3)) ao) (aA I (aj 1) ao))))) (aC (aX (bw (aa (aj 3) (aa (aA I (aj 1) ao) (aa (aj 4) aq)))))) bH) (au (cz (SW.st (dh (gk (aA I (aA I (aj 0) (aj 3)) ao)) (cU (oK (gk (aj 2)))))) (aC (aX bK)) bH) (aC (aX (bw (aa (fH (aj 3) ao) (aa ao (aa ao aq))))))))))
def Bo(F:fu Z yT f fd)(T:Zq Z):fo Z yT f fd:=by
 refine G0 F Bj [] [] [] λI=>?_;exact(aC (aX (Im (dJ (bJ I (aj 0) (aj 1))) (oJ (dJ (bJ I (aj 0) aR))))))
def Gp(F:fu Z yv f fd)(T:Zq Z)(J:ca Z wm)(M:ca Z yT)(U:ca Z yY):fo Z yv f fd:=by
 refine G0 F sR [8] [] [] λI=>?_;exact(au (cz (aQ (bJ I (aj 1) (aL J I (aa (aj 0) aq)))) (aC (aX (SE.val (cW aq)))) bH) (au (bD 4 sR.nd (aA I (aj 1) ao)) (au (bD 5 sR.nd (aA I (aj 1) ao)) (au (bD 6 sR.nd (aA I (aA I (aj 0) (aj 4)) ao)) (au (bD 7 sR.nd (tG (aQ (bJ I (aj 5) ao)) (SE.val (Nv T.sT T.sL (cI T.gV (aj 6)))) (SE.val (cW (aa (aA I (aj 1) ao) aq))))) (au (gJ 8 sR.nd (cW aq)) (au (eY [9,10] (d_ (aj 7)) (jK 9 sR.nd) (au (bD 10 sR.nd (aL U I (aa (aj 0) (aa (bw (aa (aj 4) (aa (aj 9) (aa (aj 5) aq)))) (aa (aj 3) aq))))) (aC (cz (SW.st (dh (aQ (dC (aj 10) bK)) (cU (gk (aL M I (aa (aA I (aA I (aj 6) (aj 9)) (aj 5)) (aa (aj 2) aq))))))) (aC (lC 8 (bw (aa (aj 9) (aa (aj 10) aq))))) bH))) b6) (rZ (G1:=[]) (aC (aX (aj 8)))))))))))
def JG(F:fu Z wt f fd)(T:Zq Z):fo Z wt f fd:=by
 refine G0 F JD [] [] [] λI=>?_;exact(aC (aX (bw (aa (aA I (aj 1) ao) (aa (tG (aQ (x_ (aA I (aj 1) ao) ao)) (Bw (aA I (aA I (aA I (aj 0) (aA I (aj 1) ao)) ao) (aA I (aj 1) ao)) (jx (aA I (aj 1) ao)) zp) aR) aq)))))
def z9(F:IS Z.K "rests_ahead" "rests_ahead" jW f fd)(T:Zq Z)(U:ca Z yv)(J:ca Z wt)(M:ca Z y0):FA Z.P Z.w Z.K Z.mg Z.base Lu 3 f fd ["metre"] (IL ⟨Z.K,Z.cl⟩ bM true):=by
 refine G0 F wx [1] [1] [] λI=>?_;exact(au (gJ 1 wx.nd Qj) (au (eY [2,3,4] (d_ (aL M I (aa (aj 0) aq))) (jK 2 wx.nd) (aC (eY [3,4] (d_ (Wr T.sQ (T.At))) (jK 3 wx.nd) (au (bD 4 wx.nd (aL U I (aa (aj 0) (aa (aj 2) (aa (aA I (aj 3) ao) (aa (aA I (aj 3) ao) aq)))))) (aC (pO 1 I (bw (aa (aL J I (aa (aj 0) (aa (aj 2) aq))) (aa (aj 3) aq))) (SE.val (jz (FH:=(az jW)) (ON:=["metre","ahead","state","said","moves"]) (N:=["pattern","reached","metre"]) (ED:=[none,none,some 0]) N2 (Dk [0,1]) (d_ (aj 4)) (λ_ _ _ _=>oE rfl (dz (fX 0) (dz (fX 1) kh))) (λ_ _ _ _=>fJ) (λ_ _ _ _=>(aL J I (aa (aj 2) (aa (aj 1) aq))))))))) b6)) b6) (aC (Ui 1))))
def vW(F:IS Z.K "__init__" "Walk.__init__" j8 f fd)(T:Zq Z)(U:ca Z wm)(M:ca Z wt)(BU:QI Z.P Z.w Z.K Z.mg Z.base 3 "rests_ahead" ["metre"] (IL ⟨Z.K,Z.cl⟩ bM true))(Y:ca Z y4):FA Z.P Z.w Z.K Z.mg Z.base Lu 4 f fd ["self","metre","most"] (zK ⟨Z.K,Z.cl⟩ 12 cF bM cG cJ jA):=by
 refine F.ok GU (λvs H Q E h=>by obtain⟨A,p,most,w,x,dx,vm,rfl,_⟩:=h;rfl) (λHV A' J s H vs Q E I h=>⟨tWk ⟨Z.K,Z.cl⟩ cF bM cG cJ Z.HM,?_,Vb T.Au h⟩);exact bf (cZ (i:=3) GU.nd rfl (.inl rfl) (iB Y I (aD (pv 1) aV)))
  (bf (rP (pv 0) (iB BU I (aD (pv 3) aV)) rfl)
  (bf (rP (pv 0) (pv 2) rfl)
  (bf (rP (pv 0) (iB M I (aD (pv 3) (aD (iB U I (aD (pv 3) aV)) aV))) rfl)
  (bf (rP (pv 0) (lq (aD (lg (aD (lg (aD (iB M I (aD (pv 3) (aD (mC rfl T.vx rfl) aV))) (aD iz aV))) aV)) aV)) rfl)
  (bf (rP (pv 0) (G5 (fP I) (vB (tu Z.K) (ju Z.K (pv 0)) iz (λ_ _=>rfl)) iz) rfl)
  (bT (rP (pv 0) CJ rfl)))))))
def yV(F:fu Z wq f fd)(T:Zq Z)(Y:QI Z.P Z.w Z.K Z.mg Z.base 4 "first_row" ["walks","is_sought"] (Oq Z.mg "is_of_first_alone" ⟨Z.K,Z.cl⟩ 12 aO GA bG a_ dR))(zw:ca Z wo)(U:CalI Z.P Z.w Z.K Z.mg Z.base (Z.cl 12) 4 "Walk" ["self","metre","most"] (zK ⟨Z.K,Z.cl⟩ 12 cF bM cG cJ jA)):fo Z wq f fd:=by
 obtain⟨fS,fdS,FS,hbS,kpS,I⟩:=zw.ex;refine F.ok yO (λvs H Q E h=>by
  obtain⟨A,ps,p,r,hm,_⟩:=h;rw[r.length];match ps,hm with
  |[_,_],_=>rfl) (λHV A' J s H vs Q E M h=>⟨tMw Z.mg "is_of_first_alone" ⟨Z.K,Z.cl⟩ 12 cF bM cG cJ aO bG a_ dR GA jA fS,?_,Vc ⟨T.E9,T.Kk,T.LD,T.LZ,T.FU,T.L1,T.MG⟩ I h⟩)
 exact bT (gH (iB Y M (aD (lq (aD (G9 U M (aD (pv 0) (aD iz aV))) (aD (G9 U M (aD (pv 1) (aD iz aV))) aV))) (aD (mC rfl I rfl) aV))))
def Fz(F:fu Z wc f fd)(T:Zq Z):fo Z wc f fd:=by
 refine G0 F Ff [] [] [] λI=>?_;exact(au (cz (aQ (tE (aA I (aA I (aj 0) (aj 1)) ao) bK)) (aC (aX (aj 1))) bH) (aC (aX (aA I (aA I (aj 0) (aj 1)) ao))))
def xx(F:fu Z xw f fd)(T:Zq Z)(J:ca Z wc):fo Z xw f fd:=by
 refine G0 F AB [] [] [] λI=>?_;exact(au (bD 3 AB.nd (aL J I (aa (aj 0) (aa (aj 1) aq)))) (au (bD 4 AB.nd (aL J I (aa (aj 0) (aa (aj 2) aq)))) (aC (aX (Im (dJ (bJ I (aj 3) (aj 4))) (oJ (uQ (dJ (dC (aA I (aA I (aj 0) (aj 3)) ao) bK)) (oJ (dJ (bJ I (aA I (aA I (aj 0) (aj 3)) ao) (aA I (aA I (aj 0) (aj 4)) ao)))))))))))
def yW(F:fu Z xI f fd)(T:Zq Z)(U:ca Z xw)(J:ca Z wc)(M:ca Z wq):fo Z xI f fd:=by
 refine G0 F ze [] [] [] λI=>?_;exact(au (bD 4 ze.nd (aL M I (aa (aA I (aj 2) (aA I (aA I (aj 0) (aj 3)) ao)) (aa (aA I (aj 2) (aA I (aA I (aj 1) (aj 3)) ao)) aq)))) (au (cz (aQ (dC (aj 4) bK)) (aC (aX (bw (aa aR (aa (cI T.gV (aj 0)) (aa (aj 3) (aa (aj 4) aq))))))) bH) (au (eY [5] (tL T.sL (aj 3)) (jK 5 ze.nd) (aC (cz (SW.st (dh (aQ (dC (aA I (aA I (aj 1) (aj 3)) ao) bK)) (dh (aQ (bJ I (aA I (aA I (aj 1) (aj 5)) ao) (aA I (aA I (aj 1) (aj 3)) ao))) (cU (oK (gk (aL U I (aa (aj 0) (aa (aj 3) (aa (aj 5) aq)))))))))) (aC (aX (bw (aa aR (aa (cI T.gV (aj 0)) (aa (aj 3) (aa (aj 5) aq))))))) bH)) b6) (au (bD 6 ze.nd (aA I (aA I (aj 1) (aj 3)) ao)) (au (cz (SW.st (dh (aQ (dC (aj 6) bK)) (cU (aQ (vI I (aL J I (aa (aj 0) (aa (aj 3) aq))) (aL J I (aa (aj 0) (aa (aj 6) aq)))))))) (aC (aX (bw (aa aR (aa (cI T.gV (aj 0)) (aa (aj 3) (aa (aj 6) aq))))))) bH) (aC (aX bK)))))))
def Gq(F:fu Z xp f fd)(T:Zq Z)(U:ca Z xI)(M:ca Z ui)(J:ca Z uj):fo Z xp f fd:=by
 refine G0 F tf [] [] [] λI=>?_;exact(au (eY [3,4,5,6,7] (d_ (aL J I (aa (aj 0) aq))) (jK 3 tf.nd) (au (bD 4 tf.nd (aL M I (aa (aj 0) (aa (aj 3) aq)))) (au (oO 5 tf.nd (FH:=(az my)) (ON:=Qu) (N:=["_law_number","_law_other"]) (ED:=[none,some 1]) N2 (mR 0) (d_ (aL J I (aa (aj 1) aq))) (λ_ _ _ _=>fX 0) (λ_ _ _ _=>fJ) (λ_ _ _ _=>(aL M I (aa (aj 1) (aa (aj 0) aq))))) (au (oO 5 tf.nd (FH:=(az my)) (ON:=Qu) (N:=["_law_rows","_law_mine"]) (ED:=[none,some 4]) N2 (mR 0) (d_ (aj 5)) (λ_ _ _ _=>fX 0) (λ_ _ _ _=>jX (aQ (bJ I (cI T.gV (aj 0)) (cI T.gV (aj 1))))) (λ_ _ _ _=>(aj 0))) (au (cz (aQ (bJ I (aj 5) (cW aq))) (aC (aX (bw (aa aR (aa (cI T.gV (aj 4)) aq))))) bH) (aC (eY [6,7] (tL T.sL (cI T.gV (aj 4))) (jK 6 tf.nd) (au (bD 7 tf.nd (aL U I (aa (aj 4) (aa (aA I (aj 5) ao) (aa (aj 2) (aa (aj 6) aq)))))) (aC (cz (aQ (dC (aj 7) bK)) (aC (aX (aj 7))) bH))) b6)))))) b6) (aC (aX bK)))
def vX(F:fu Z yA f fd)(T:Zq Z):fo Z yA f fd:=by
 refine G0 F AZ [] [] [] λI=>?_;exact(aC (eY [2] (d_ (aj 1)) (jK 2 AZ.nd) (aC (cz (SW.st (dh (aQ (bJ I (aA I (aj 2) ao) aR)) (cU (aQ (Ln I (aA I (aj 2) ao) (aj 0)))))) (aC Xk) bH)) b6))
def xF(F:fu Z yy f fd)(T:Zq Z)(M:ca Z ui)(J:ca Z uj):fo Z yy f fd:=by
 refine G0 F AC [] [] [] λI=>?_;exact(au (eY [2,3] (d_ (aL J I (aa (aj 0) aq))) (jK 2 AC.nd) (au (bD 3 AC.nd (aL M I (aa (aj 0) (aa (aj 2) aq)))) (aC (cz (aQ (bJ I (cI T.gV (aj 3)) (aj 1))) (aC (aX (aj 3))) bH))) b6) (aC (aX bK)))
def yX(F:IS Z.K "said_between" "said_between" nj f fd)(T:Zq Z)(M:ca Z wq):FA Z.P Z.w Z.K Z.mg Z.base Lu 7 f fd ["metres","known","one","other"] (Eb ⟨Z.K,Z.cl⟩ bc):=by
 refine F.ok yP (λvs H Q E h=>Oz h) (λU A' J s H vs Q E I h=>⟨tSb ⟨Z.K,Z.cl⟩ bc,?_,Ve h⟩);exact bf (pK (uE (qP (fP I) (lg (aD (pv 2) (aD (pv 3) aV))) (pv 1))) (bT (rR (fP I) (pv 1) (lg (aD (pv 2) (aD (pv 3) aV))) (lH λ_ _=>aL M I (aa (aA I (aj 0) (aj 2)) (aa (aA I (aj 0) (aj 3)) aq))) rfl)) j_) (bT (gH (vA (fP I) (pv 1) (lg (aD (pv 2) (aD (pv 3) aV))) (λ_ _=>rfl))))
def xG(F:fu Z yb f fd)(T:Zq Z):fo Z yb f fd:=by
 refine G0 F AV [] [] [] λI=>?_;exact(au (bD 2 AV.nd (aA I (aA I (aj 0) (aj 1)) ao)) (aC (aX (tG (aQ (tE (aj 2) bK)) (SE.val (cW aq)) (SE.val (jz (FH:=(az jb)) (ON:=["plain","number","bond"]) (N:=["earlier","bond","plain"]) (ED:=[none,some 2,some 0]) N2 (mR 0) (tL T.sL (aj 1)) (λ_ _ _ _=>fX 0) (λ_ _ _ _=>jX (aQ (bJ I (aA I (aA I (aj 2) (aj 0)) ao) (aj 1)))) (λ_ _ _ _=>(aj 0))))))))
def Gr(F:fu Z wn f fd)(T:Zq Z):fo Z wn f fd:=by
 refine G0 F AX [] [] [] λI=>?_;exact(au (bD 2 AX.nd (aA I (aA I (aj 0) (aj 1)) ao)) (aC (aX (tG (aQ (tE (aj 2) bK)) (aj 1) (aj 2)))))
def Gs(F:fu Z wf f fd)(T:Zq Z)(J:ca Z wn):fo Z wf f fd:=by
 refine G0 F Gj [] [] [] λI=>?_;exact(aC (aX (dJ (bJ I (aL J I (aa (aj 0) (aa (aj 1) aq))) (aL J I (aa (aj 0) (aa (aj 2) aq)))))))
def FJ(F:fu Z xS f fd)(T:Zq Z)(M:ca Z wf)(J:ca Z wn):fo Z xS f fd:=by
 refine G0 F AU [] [] [] λI=>?_;exact(au (bD 3 AU.nd (aA I (aA I (aj 0) (aL J I (aa (aj 0) (aa (aj 1) aq)))) ao)) (aC (aX (Im (aL M I (aa (aj 0) (aa (aj 1) (aa (aj 2) aq)))) (oJ (uQ (dJ (dC (aj 3) bK)) (oJ (dJ (bJ I (aj 3) (aA I (aA I (aj 0) (aL J I (aa (aj 0) (aa (aj 2) aq)))) ao))))))))))
def Gu(F:IS Z.K "fault_in" "fault_in" pW f fd)(T:Zq Z)(U:ca Z xS)(Y:ca Z wf)(M:ca Z yb)(B0:QI Z.P Z.w Z.K Z.mg Z.base 7 "said_between" ["metres","known","one","other"] (Eb ⟨Z.K,Z.cl⟩ bc)):FA Z.P Z.w Z.K Z.mg Z.base Lu 8 f fd ["metres","known","one","other","number"] (Ec ⟨Z.K,Z.cl⟩ bc eQ):=by
 refine F.ok wv (λvs H Q E h=>OD h) (λHV A' J s H vs Q E I h=>⟨tFi ⟨Z.K,Z.cl⟩ bc _ _ _ _ n_,?_,Vf h⟩);exact bf (cZ (i:=5) wv.nd rfl (.inl rfl) (lH λ_ _=>cI T.gV (aj 2))) (bf (cZ (i:=6) wv.nd rfl (.inl rfl) (lH λ_ _=>(aA I (aA I (aj 3) (aj 4)) ao))) (bf (cZ (i:=7) wv.nd rfl (.inl rfl) (iB B0 I (aD (pv 0) (aD (pv 1) (aD (lH λ_ _=>(aA I (aA I (aj 2) (aj 4)) ao)) (aD (lH λ_ _=>(aA I (aA I (aj 3) (aj 4)) ao)) aV)))))) (WN λ_ _=>(au (cz (aQ (dC (aj 7) bK)) (aC (aX (bw (aa aR (aa (aj 5) (aa (aj 4) (aa (aj 7) aq))))))) bH) (au (oO 8 wv.nd (FH:=(az pW)) (ON:=["metres","known","one","other","number","many","back","said","free"]) (N:=["earlier","one","number"]) (ED:=[none,some 2,some 4]) ⟨rfl,by decide +kernel,by decide +kernel,by decide +kernel,by decide +kernel⟩ (mR 0) (d_ (aL M I (aa (aj 3) (aa (aj 4) aq)))) (λ_ _ _ _=>d7 (i:=0) (show(["earlier","one","number"]:rj).Nodup by decide +kernel) rfl (fb rfl)) (λ_ _ _ _=>jX (oK (gk (aL U I (aa (aj 1) (aa (aj 2) (aa (aj 0) aq))))))) (λ_ _ _ _=>(aj 0))) (au (cz (aQ (x_ (cI T.gV (aj 8)) ao)) (aC (aX (bw (aa aR (aa (aj 5) (aa (aj 4) (aa (aA I (aj 8) ao) aq))))))) bH) (au (cz (SW.st (dh (aQ (dC (aj 6) bK)) (cU (oK (gk (aL Y I (aa (aj 2) (aa (aj 4) (aa (aj 6) aq))))))))) (aC (aX (bw (aa aR (aa (aj 5) (aa (aj 4) (aa (aj 6) aq))))))) bH) (aC (aX bK)))))))))
def z_(F:fu Z yk f fd)(T:Zq Z)(BH:QI Z.P Z.w Z.K Z.mg Z.base 8 "fault_in" ["metres","known","one","other","number"] (Ec ⟨Z.K,Z.cl⟩ bc eQ))(t5:ca Z ui)(Y:ca Z yy)(M:ca Z yA)(U:ca Z uj):fo Z yk f fd:=by
 refine F.ok tz (λvs H Q E h=>by
  obtain⟨A,ps,p,r,hm,_⟩:=h;rw[r.length];match ps,hm with
  |[_,_,_],_=>rfl) (λHV A' J s H vs Q E I h=>⟨tFw ⟨Z.K,Z.cl⟩ bc fB eN bI eE eQ,?_,Vh h⟩)
 exact bf (mD (lH λ_ _=>aL M I (aa (aj 2) (aa (aj 0) aq)))) (bf (mD (lH λ_ _=>aL M I (aa (aj 2) (aa (aj 1) aq)))) (bf (cZ (i:=3) tz.nd rfl (.inl rfl) CK)
  (bf (rK b6 rfl (vy (lH λ_ _=>aL U I (aa (aj 0) aq))) (d7 (i:=4) tz.nd rfl (fb rfl))
   (bf (cZ (i:=5) tz.nd rfl (.inl rfl) (lH λ_ _=>aL t5 I (aa (aj 0) (aa (aj 4) aq)))) (bf (cZ (i:=6) tz.nd rfl (.inl rfl) (lH λ_ _=>aL Y I (aa (aj 1) (aa (cI T.gV (aj 5)) aq))))
   (bf (pK (Ox λ_ _=>aQ (tE (aj 6) bK)) (bT (gH (lH λ_ _=>bw (aa aR (aa (cI T.gV (aj 5)) aq))))) j_)
   (bT (rK b6 rfl (uF rfl T.sL (aD (lH λ_ _=>cI T.gV (aj 5)) aV)) (d7 (i:=7) tz.nd rfl (fb rfl))
    (bf (cZ (i:=8) tz.nd rfl (.inl rfl) (iB BH I (aD (pv 2) (aD (pv 3) (aD (pv 5) (aD (pv 6) (aD (pv 7) aV)))))))
    (bT (pK (Ox λ_ _=>aQ (dC (aj 8) bK)) (bT (gH (pv 8))) j_)))))))))
  (bT (gH xK)))))
def yZ(F:fu Z xo f fd)(T:Zq Z):fo Z xo f fd:=by
 refine G0 F yQ [] [] [] λI=>?_;exact(au (cz (aQ (Qh (aj 1) (cI T.gV (aj 0)))) (aC (aX (aA I (aj 0) (aj 1)))) bH) (aC (aX ao)))
def V4(F:fu Z AA f fd)(T:Zq Z)(U:ca Z xo)(Y:ca Z xp)(M:ca Z xt)(A6:ca Z xB)(A8:ca Z xD)(J:ca Z yk):fo Z AA f fd:=by
 refine G0 F tF [] [] [] λI=>?_;exact(au (bD 1 tF.nd (aL M I (aa (Bw (aj 0) (jx ao) (jx ao)) aq))) (au (bD 2 tF.nd (aL A8 I (aa (aj 1) (aa (Bw (aj 0) (jx ao) (jx ao)) aq)))) (au (cz (aQ (bJ I (cH (aL U I (aa (aj 0) (aa ao aq))) ao) ao)) (aC (bD 2 tF.nd (aL M I (aa (Bw (aj 0) (jx ao) (jx ao)) aq)))) bH) (au (bD 3 tF.nd (aL A6 I (aa (aL U I (aa (aj 0) (aa ao aq))) aq))) (au (bD 4 tF.nd (aL Y I (aa (aj 1) (aa (aj 2) (aa (aj 3) aq))))) (au (bD 5 tF.nd (aL J I (aa (aj 1) (aa (aj 2) (aa (aj 3) aq))))) (au (cz (aQ (tE (aj 4) bK)) (aC (cz (aQ (dC (aj 5) bK)) (aC (aX vG)) bH)) (aC (cz (SW.st (yf (oK (gk (zF HG T.vS T.tT T.sM kG (aj 5)))) (yf (oK (gk (zF Ll T.vF T.tT T.w8 PyProof.Rows.boot_str (aA I (aj 5) ao)))) (ye (aQ (vI I (aj 5) (aj 4))))))) (aC (aX vG)) bH))) (au (cz (SW.st (dh (aQ (dC (aj 5) bK)) (cU (aQ (vI I (jz (FH:=(az uo)) (ON:=["_law_script","_law_one","_law_other","_law_metres_here","_law_due_here","_law_found"]) (N:=["_law_number"]) (ED:=[none]) N2 (mR 0) (d_ (G_ (aj 5) (jx ao) zp)) (λ_ _ _ _=>fX 0) (λ_ _ _ _=>jX (gk (zF Kj T.vE T.tT T.wE PyProof.Rows.boot_bool (aj 0)))) (λ_ _ _ _=>(aj 0))) (cW aq)))))) (aC (aX vG)) bH) (au (cz (SW.st (yf (aQ (dC (aL J I (aa (aj 1) (aa (aj 1) (aa (aj 3) aq)))) bK)) (ye (aQ (dC (aL J I (aa (aj 2) (aa (aj 2) (aa (aj 3) aq)))) bK))))) (aC (aX vG)) bH) (aC (aX (dJ (bJ I (aL J I (aa (aj 1) (aa (aj 2) (aa (aj 3) aq)))) (aj 4))))))))))))))
end
end
def BR(K:W.Frag):Sp:=λvs H Q _=>∃(a:Addr) (ns:rL),vs=[V.ref a]/\YH H/\Fc K H a (ns.map V.int)/\ns.length<=63/\∀J,Q (.bl true) J
def V5{K:W.Frag}{cl:Nat->Addr}{vs:sC}{H:Hp}{Q:VK}{E:XK}(h:BR K vs H Q E):IL ⟨K,cl⟩ yH false vs H Q E:=by
 obtain⟨a,J,rfl,Y,I,U,k⟩:=h;have M:D7 ⟨K,cl⟩ (λ_=>True) H (J.map V.int) (J.map PV.int):=mK _ _ (λi=>.int i) J;refine⟨λ_=>True,[.frz (J.map PV.int)],.bl true,.cons ?_ .nil,UQ J U,λv H' s r=>?_⟩
 ·rcases I with(I|⟨o,I⟩)|I
  ·rcases Y a with z|⟨o,xs,z⟩
   ·rw[z]at I;cases I
   ·rw[z]at I;cases I
  ·exact .QN I M
  ·exact .lstK (.inr I) M
 ·cases r
  exact k _
structure Gf(K:W.Frag)(x:Str)(st:Stmt)(f:Addr)(fd:FuncData):Prop where
 a:W.nsIn K mainGlobals x=some (some (.ref f))
 F:IS K x x st f fd
def km{K:W.Frag}{h:Heap}{mg:rX}{P:Program}{w:World}{base:Heap}{k:Nat}{x:Str}{ps:rj}{sp:Sp}{st:Stmt}{f:Addr}{fd:FuncData}(X:K.In h)(G:h.Ns mainGlobals mg)(F:Gf K x st f fd)(I:Binds K fd ps [])(o:FA P w K mg base Lu k f fd ps sp):QI P w K mg base k x ps sp:=TQ F.F (W.mg_of X G F.a) I o
def all_mk{l:W.OpenLaw}{w:World}{K:W.Frag}{h:Heap}{mg:rX}{fa:Addr}(X:K.In h)(G:h.Ns mainGlobals mg)(hfa:mg "law" = some (.ref fa))
  (aC_Walk:W.nsIn K mainGlobals "Walk" = some (some (.ref C_Walk)))
  (F_0:Gf K "_law_roots" qG f_0 d_0)
  (F_1:Gf K "_law_is_low" jU f_1 d_1)
  (F_2:Gf K "_law_name" q_ f_2 d_2)
  (F_3:Gf K "_law_bond" rA f_3 d_3)
  (F_4:Gf K "_law_next" jO f_4 d_4)
  (F_5:Gf K "_law_form" oh f_5 d_5)
  (F_6:Gf K "_law_other_form" gF f_6 d_6)
  (F_7:Gf K "_law_mix" ue f_7 d_7)
  (F_8:Gf K "_law_pattern" jF f_8 d_8)
  (F_9:Gf K "_law_slot" rC f_9 d_9)
  (F_10:Gf K "_law_metre" lY f_10 d_10)
  (F_11:Gf K "_law_metres" pH f_11 d_11)
  (F_12:Gf K "ending_of" ou f_12 d_12)
  (F_13:Gf K "times_of" uf f_13 d_13)
  (F_14:Gf K "cut_form" ug f_14 d_14)
  (F_15:Gf K "coming" m7 f_15 d_15)
  (F_16:Gf K "is_letter" rE f_16 d_16)
  (F_17:Gf K "bond_in" vh f_17 d_17)
  (F_18:Gf K "plain_rows" qH f_18 d_18)
  (a_19:W.findIn K (.ref C_Walk) "number_of_place" = some (some (.ref f_19)))
  (i_19:W.isFn K (.ref f_19)=true)
  (F_19:IS K "number_of_place" "Walk.number_of_place" fY f_19 d_19)
  (a_20:W.findIn K (.ref C_Walk) "place_behind" = some (some (.ref f_20)))
  (i_20:W.isFn K (.ref f_20)=true)
  (F_20:IS K "place_behind" "Walk.place_behind" iy f_20 d_20)
  (a_21:W.findIn K (.ref C_Walk) "later" = some (some (.ref f_21)))
  (i_21:W.isFn K (.ref f_21)=true)
  (F_21:IS K "later" "Walk.later" jV f_21 d_21)
  (F_22:Gf K "nodes_behind" gW f_22 d_22)
  (a_23:W.findIn K (.ref C_Walk) "ways_to_end" = some (some (.ref f_23)))
  (i_23:W.isFn K (.ref f_23)=true)
  (F_23:IS K "ways_to_end" "Walk.ways_to_end" iT f_23 d_23)
  (F_24:Gf K "is_of_first_alone" iU f_24 d_24)
  (a_25:W.findIn K (.ref C_Walk) "is_over" = some (some (.ref f_25)))
  (i_25:W.isFn K (.ref f_25)=true)
  (F_25:IS K "is_over" "Walk.is_over" lZ f_25 d_25)
  (F_26:Gf K "row_to" xm f_26 d_26)
  (F_27:Gf K "first_row" rF f_27 d_27)
  (F_28:Gf K "with_last_cut" l_ f_28 d_28)
  (F_29:Gf K "states_of" oA f_29 d_29)
  (F_30:Gf K "end_state" rG f_30 d_30)
  (F_31:Gf K "state_behind" m8 f_31 d_31)
  (F_32:Gf K "stands_for" qI f_32 d_32)
  (F_33:Gf K "moves_of" uh f_33 d_33)
  (F_34:Gf K "rest_of" vo f_34 d_34)
  (F_35:Gf K "rests_ahead" jW f_35 d_35)
  (a_36:W.findIn K (.ref C_Walk) "__init__" = some (some (.ref f_36)))
  (i_36:W.isFn K (.ref f_36)=true)
  (F_36:IS K "__init__" "Walk.__init__" j8 f_36 d_36)
  (F_37:Gf K "metre_within" m9 f_37 d_37)
  (F_38:Gf K "_law_root" rH f_38 d_38)
  (F_39:Gf K "_law_is_bound" mq f_39 d_39)
  (F_40:Gf K "_law_row_due" m_ f_40 d_40)
  (F_41:Gf K "_law_due" my f_41 d_41)
  (F_42:Gf K "refuse_no_name" j9 f_42 d_42)
  (F_43:Gf K "plain_rows_of" mz f_43 d_43)
  (F_44:Gf K "said_between" nj f_44 d_44)
  (F_45:Gf K "earlier_bound" jb f_45 d_45)
  (F_46:Gf K "first_of" ul f_46 d_46)
  (F_47:Gf K "are_same" um f_47 d_47)
  (F_48:Gf K "are_bound" rJ f_48 d_48)
  (F_49:Gf K "fault_in" pW f_49 d_49)
  (F_50:Gf K "form_within" pI f_50 d_50)
  (F_51:Gf K "_law_cell_at" nq f_51 d_51)
  (F_52:Gf K "law" uo f_52 d_52)
  (pg_Walk:W.plainGet K C_Walk Str.empty=true)
  (hd_Walk:W.hasDictIn K C_Walk=true)
  (po_Walk:W.plainOver K C_Walk=true)
  (sa_Walk:W.findIn K (.ref C_Walk) "__setattr__" = some (some (.builtin "object.__setattr__")))
  (mk_Walk:W.makesIn K C_Walk=true)
  (kc_Walk:W.keepIn K (.ref C_Walk)=true)
  (U:W.findIn K (.ref C_Walk) "ahead" = some none)
  (nf_Walk_end:W.findIn K (.ref C_Walk) "end" = some none)
  (Y:W.findIn K (.ref C_Walk) "most" = some none)
  (I:W.findIn K (.ref C_Walk) "numbers" = some none)
  (M:W.findIn K (.ref C_Walk) "onward" = some none)
  (J:W.findIn K (.ref C_Walk) "places" = some none)
  (wE:W.nsIn K mainGlobals "bool" = some none)
  (wP:W.nsIn K mainGlobals "dict" = some none)
  (uu:W.nsIn K mainGlobals "enumerate" = some none)
  (tT:W.nsIn K mainGlobals "isinstance" = some none)
  (gV:W.nsIn K mainGlobals "len" = some none)
  (sT:W.nsIn K mainGlobals "list" = some none)
  (t0:W.nsIn K mainGlobals "max" = some none)
  (wS:W.nsIn K mainGlobals "min" = some none)
  (sL:W.nsIn K mainGlobals "range" = some none)
  (wT:W.nsIn K mainGlobals "reversed" = some none)
  (w4:W.nsIn K mainGlobals "sorted" = some none)
  (w8:W.nsIn K mainGlobals "str" = some none)
  (sM:W.nsIn K mainGlobals "tuple" = some none)
  (uS:W.nsIn K mainGlobals "zip" = some none)
  (vv:W.nsIn K mainGlobals "LETTERS" = some (some (.str "abcdefghijklmnopqrstuvwxyz" Lm)))
  (sQ:W.nsIn K mainGlobals "SAID" = some (some (.ref GB)))
  (xb:K.lookup GB=some ⟨.type "tuple",none,.seq #[.ref a_SAID_0,.ref a_SAID_1,.ref a_SAID_2,.ref a_SAID_3] n_SAID,sl_SAID⟩)
  (xc:K.lookup a_SAID_0=some ⟨.type "tuple",none,.seq #[.str "u" t_SAID_0_0,.bool false] n_SAID_0,sl_SAID_0⟩)
  (xh:K.lookup a_SAID_1=some ⟨.type "tuple",none,.seq #[.str "u" t_SAID_1_0,.bool true] n_SAID_1,sl_SAID_1⟩)
  (xi:K.lookup a_SAID_2=some ⟨.type "tuple",none,.seq #[.str "-" t_SAID_2_0,.bool false] n_SAID_2,sl_SAID_2⟩)
  (xl:K.lookup a_SAID_3=some ⟨.type "tuple",none,.seq #[.str "-" t_SAID_3_0,.bool true] n_SAID_3,sl_SAID_3⟩)
  (vx:W.nsIn K mainGlobals "START" = some (some (.ref HM)))
  (As:K.lookup HM=some ⟨.type "tuple",none,.seq #[.int 0 t_START_0,.int 0 t_START_1,.int 0 t_START_2] n_START,sl_START⟩)
  (vE:∀t k,(t,k)∈Kj->W.kitOne K (.type t) (.type "bool")=some k)
  (vF:∀t k,(t,k)∈Ll->W.kitOne K (.type t) (.type "str")=some k)
  (vS:∀t k,(t,k)∈HG->W.kitOne K (.type t) (.type "tuple")=some k):
  ∃fd:FuncData,(∀(s:Shared) (v:Value),BindsTo s fd ⟨[v],[]⟩ [("_law_script",v)])/\∀base:Heap,K.In base->base.Ns mainGlobals mg->FA l.prog w K mg base Lu 10 fa fd ["_law_script"] (BR K):=by
 have mo {x:Str}{v:Value}(h:W.nsIn K mainGlobals x=some (some v)):mg x=some v:=W.mg_of X G h;have e:=hfa.symm.trans (mo F_52.a);cases e;obtain⟨_,_,kV_52,dc_52,pm_52,an_52,cd_52,ct_52,_,rfl,_,_⟩:=F_52.F.ex;refine⟨W.fnOf "law" "law" (iG uo) (fZ uo) (az uo) .none kV_52 dc_52 pm_52 an_52 cd_52 ct_52,λs v=>.of_eq rfl,λbase _ _=>?_⟩;let cl:Nat->Addr:=λn=>match n with|12=>C_Walk|_=>0
 let Z:Z7:={P:=l.prog,w,K,mg,base,cl,Lm,GB,HM}
 have E9:OE K (cl 12):=⟨pg_Walk,hd_Walk,po_Walk,sa_Walk⟩;have At:∀(B:se) (H:Hp),Rep ⟨K,cl⟩ B H (.ref GB) yF:=λB H=>(.tupK (vs:=[V.ref a_SAID_0,V.ref a_SAID_1,V.ref a_SAID_2,V.ref a_SAID_3]) (.inr ⟨_,_,_,xb,rfl,rfl,⟨(by show 4<=sizeLine;decide),rfl⟩,(.cons rfl (.cons rfl (.cons rfl (.cons rfl .nil))))⟩) (.cons (.GY (vs:=[V.str "u",.bl false]) ⟨_,_,_,xc,rfl,rfl,⟨(by show 2<=sizeLine;decide),rfl⟩,(.cons ⟨_,rfl⟩ (.cons rfl .nil))⟩ (.cons (.str _) (.cons (.bl _) .nil))) (.cons (.GY (vs:=[V.str "u",.bl true]) ⟨_,_,_,xh,rfl,rfl,⟨(by show 2<=sizeLine;decide),rfl⟩,(.cons ⟨_,rfl⟩ (.cons rfl .nil))⟩ (.cons (.str _) (.cons (.bl _) .nil))) (.cons (.GY (vs:=[V.str "-",.bl false]) ⟨_,_,_,xi,rfl,rfl,⟨(by show 2<=sizeLine;decide),rfl⟩,(.cons ⟨_,rfl⟩ (.cons rfl .nil))⟩ (.cons (.str _) (.cons (.bl _) .nil))) (.cons (.GY (vs:=[V.str "-",.bl true]) ⟨_,_,_,xl,rfl,rfl,⟨(by show 2<=sizeLine;decide),rfl⟩,(.cons ⟨_,rfl⟩ (.cons rfl .nil))⟩ (.cons (.str _) (.cons (.bl _) .nil))) .nil)))));have Kn:uT ⟨K,cl⟩ GB GA:=⟨[V.ref a_SAID_0,V.ref a_SAID_1,V.ref a_SAID_2,V.ref a_SAID_3],.inr ⟨_,_,_,xb,rfl,rfl,⟨(by show 4<=sizeLine;decide),rfl⟩,(.cons rfl (.cons rfl (.cons rfl (.cons rfl .nil))))⟩,λB H=>(.cons (.GY (vs:=[V.str "u",.bl false]) ⟨_,_,_,xc,rfl,rfl,⟨(by show 2<=sizeLine;decide),rfl⟩,(.cons ⟨_,rfl⟩ (.cons rfl .nil))⟩ (.cons (.str _) (.cons (.bl _) .nil))) (.cons (.GY (vs:=[V.str "u",.bl true]) ⟨_,_,_,xh,rfl,rfl,⟨(by show 2<=sizeLine;decide),rfl⟩,(.cons ⟨_,rfl⟩ (.cons rfl .nil))⟩ (.cons (.str _) (.cons (.bl _) .nil))) (.cons (.GY (vs:=[V.str "-",.bl false]) ⟨_,_,_,xi,rfl,rfl,⟨(by show 2<=sizeLine;decide),rfl⟩,(.cons ⟨_,rfl⟩ (.cons rfl .nil))⟩ (.cons (.str _) (.cons (.bl _) .nil))) (.cons (.GY (vs:=[V.str "-",.bl true]) ⟨_,_,_,xl,rfl,rfl,⟨(by show 2<=sizeLine;decide),rfl⟩,(.cons ⟨_,rfl⟩ (.cons rfl .nil))⟩ (.cons (.str _) (.cons (.bl _) .nil))) .nil))))⟩;have Au:∀(B:se) (H:Hp),Rep ⟨K,cl⟩ B H (.ref HM) jA:=λB H=>(.tupK (vs:=[V.int 0,V.int 0,V.int 0]) (.inr ⟨_,_,_,As,rfl,rfl,⟨(by show 3<=sizeLine;decide),rfl⟩,(.cons ⟨_,rfl⟩ (.cons ⟨_,rfl⟩ (.cons ⟨_,rfl⟩ .nil)))⟩) (.cons (.int _) (.cons (.int _) (.cons (.int _) .nil))));have zn {x:Str}(h:W.nsIn K mainGlobals x=some none):mg x=none:=W.mg_none_of X G h;have q:Zq Z:=⟨zn wE,zn wP,zn uu,zn tT,zn gV,zn sT,zn t0,zn wS,zn sL,zn wT,zn w4,zn w8,zn sM,zn uS,mo vv,mo sQ,mo vx,At,Au,E9,vE,vF,vS,U,nf_Walk_end,Y,I,M,J,Kn⟩;have AJ:=km X G F_0 F_0.F.OI (Bk F_0.F q);have CH:=km X G F_1 F_1.F.OI (zX F_1.F q);have zI:=km X G F_2 F_2.F.OI (Fg F_2.F q);have AH:=km X G F_3 F_3.F.OI (Fl F_3.F q);have CO:=km X G F_4 F_4.F.LS (Fo F_4.F q AH CH zI AJ);have CD:=km X G F_5 F_5.F.OI (Fp F_5.F q CO);have CU:=km X G F_6 F_6.F.LS (vq F_6.F q AH zI AJ);have zD:=km X G F_7 F_7.F.LS (Gk F_7.F q);have CY:=km X G F_8 F_8.F.OI (yR F_8.F q);have C1:=km X G F_9 F_9.F.OI (Fq F_9.F q zD CY);have CI:=km X G F_10 F_10.F.LS (Bl F_10.F q zD C1);have CL:=km X G F_11 F_11.F.OI (zY F_11.F q CI zD zI);have C7:=km X G F_12 F_12.F.OI (Ft F_12.F q)
 have Ap:=km X G F_13 F_13.F.OI (Gm F_13.F q C7);have C5:=km X G F_14 F_14.F.OI (Gn F_14.F q);have C4:=km X G F_15 F_15.F.LS (Ml F_15.F q C5);have Db:=km X G F_16 F_16.F.OI (Fv F_16.F q);have C3:=km X G F_17 F_17.F.LS (JF F_17.F q Db);have zS:=km X G F_18 F_18.F.LS (Bm F_18.F q C3 C4);have G_19:=qK F_19 q;have Co:KS l.prog w K mg base (cl 12) _ "number_of_place" _ _:=⟨_,_,G_19,F_19.LS,⟨a_19,i_19,F_19.kp⟩⟩;have G_20:=sH F_20 q;have Cs:KS l.prog w K mg base (cl 12) _ "place_behind" _ _:=⟨_,_,G_20,F_20.ZD,⟨a_20,i_20,F_20.kp⟩⟩;have G_21:=zZ F_21 q Co Cs;have Cn:KS l.prog w K mg base (cl 12) _ "later" _ _:=⟨_,_,G_21,F_21.LS,⟨a_21,i_21,F_21.kp⟩⟩;have DA:=km X G F_22 F_22.F.LS (yS F_22.F q Cn);have G_23:=ut F_23 q;have CA:KS l.prog w K mg base (cl 12) _ "ways_to_end" _ _:=⟨_,_,G_23,F_23.LS,⟨a_23,i_23,F_23.kp⟩⟩;have AN:=km X G F_24 F_24.F.LS (uv F_24.F q CA);have G_25:=xr F_25 q;have Cf:KS l.prog w K mg base (cl 12) _ "is_over" _ _:=⟨_,_,G_25,F_25.LS,⟨a_25,i_25,F_25.kp⟩⟩;have DE:=km X G F_26 F_26.F.LS (Mm F_26.F q);have C9:=km X G F_27 F_27.F.LS (Fw F_27.F q AN DA DE Cf);have DL:=km X G F_28 F_28.F.OI (xu F_28.F q);have DJ:=km X G F_29 F_29.F.OI (Fx F_29.F q);have AL:=km X G F_30 F_30.F.OI (Fy F_30.F q);have DI:=km X G F_31 F_31.F.ZD (yU F_31.F q);have DH:=km X G F_32 F_32.F.LS (Bo F_32.F q);have Dx:=km X G F_33 F_33.F.bd4 (Gp F_33.F q AL DH DI);have AQ:=km X G F_34 F_34.F.LS (JG F_34.F q);have DD:=km X G F_35 F_35.F.OI (z9 F_35.F q Dx AQ DJ);have G_36:=vW F_36 q AL AQ DD DL;have Cc:CalI l.prog w K mg base (cl 12) _ "Walk" _ _:=⟨_,_,G_36,F_36.ZD,⟨mk_Walk,a_36,i_36,kc_Walk⟩,mo aC_Walk⟩;have AO:=km X G F_37 F_37.F.LS (yV F_37.F q C9 AN Cc);have AI:=km X G F_38 F_38.F.LS (Fz F_38.F q);have CF:=km X G F_39 F_39.F.ZD (xx F_39.F q AI);have C0:=km X G F_40 F_40.F.bd4 (yW F_40.F q CF AI AO);have CC:=km X G F_41 F_41.F.ZD (Gq F_41.F q C0 zS Ap);have DC:=km X G F_42 F_42.F.LS (vX F_42.F q);have DB:=km X G F_43 F_43.F.LS (xF F_43.F q zS Ap);have DF:=km X G F_44 F_44.F.bd4 (yX F_44.F q AO);have C6:=km X G F_45 F_45.F.LS (xG F_45.F q);have AM:=km X G F_46 F_46.F.LS (Gr F_46.F q);have AK:=km X G F_47 F_47.F.ZD (Gs F_47.F q AM);have C2:=km X G F_48 F_48.F.ZD (FJ F_48.F q AK AM);have C8:=km X G F_49 F_49.F.bd5 (Gu F_49.F q C2 AK C6 DF);have Da:=km X G F_50 F_50.F.ZD (z_ F_50.F q C8 zS DB DC Ap);have CB:=km X G F_51 F_51.F.LS (yZ F_51.F q);have G_52:=V4 F_52.F q CB CC CD CL CU Da;exact G_52.imp λvs H Q E h=>V5 h
def walk{l:W.OpenLaw}{q:Program}{I:rj}{XP:(Str->Option Value)->Heap->Prop}{M:World->Heap->Prop}{d:DefRec}{K:Params->W.Frag}(U:l.most=some 63)(J:d.params.defaults=[])
  (Y:∀(w:World) (h:Heap),M w h->(K w.params).In h)
  (F:∀(w:World) (mg:rX) (fa:Addr) (h:Heap),(K w.params).In h->h.Ns mainGlobals mg->mg d.name=some (.ref fa)->
   ∃fd:FuncData,(∀(s:Shared) (u:Value),BindsTo s fd ⟨[u],[]⟩ [("_law_script",u)])/\∀base:Heap,(K w.params).In base->base.Ns mainGlobals mg->FA l.prog w (K w.params) mg base Lu 10 fa fd ["_law_script"] (BR (K w.params))):
  W.WalkO q I XP M l.row.toRowW d [] (λf vs=>PySem.call f vs):=
 L2.YI (n:=63) (k:=10) (x := "_law_script") (CX:=λ_=>Lu) (sp:=λw=>BR (K w.params)) U (by decide) J ⟨rfl,by decide,by decide⟩ Y F (λ_ _ a ns hl hO hS=>⟨a,ns,rfl,hO,hS,hl,λ_=>rfl⟩) λ_ _ _ _ _ z=>z
end Lake.My
open PySem PySem.W PyProof.Rows
end
namespace PySem.W.Fast
def tw10030617766944088580:=()
def tw6941568117707704619:=()
def tw2247586448871067914:=()
def tw2093628548674058266:=()
def tw15989178281935315110:=()
def tw13566389329253659239:=()
def tw13181541162351679834:=()
def tw16545300758928365536:=()
def tw13646708496502630782:=()
def tw2245515599003834192:=()
def tw14452062936140998422:=()
def tw3544238790657820173:=()
def tw6516349600080706873:=()
def tw9621226015103042308:=()
def tw9614828479979373725:=()
def tw10430794019487978242:=()
def tw15087010445001322833:=()
def tw14373897274859416182:=()
def tw11637797072337648658:=()
def tw2221548698688930958:=()
def tw18334732650403198715:=()
def tw9243876257390048926:=()
def tw750998219828825724:=()
def tw2606418157271662413:=()
def tw15368396940903521474:=()
def tw2465607129432496514:=()
def tw3388907082103136433:=()
def tw12387949225044468685:=()
def tw6033904595642054910:=()
def tw9762004312756035359:=()
def tw7015842714959442813:=()
def tw9183324194251637031:=()
def tw11787426894049095870:=()
def tw6502075734228777688:=()
def tw3454023877188193702:=()
def tw7701141229045231514:=()
def tw10045298923654820187:=()
def tw14934528927530370951:=()
def tw4393951637501375348:=()
def tw6353495149751440277:=()
def tw880905290561082472:=()
def tw6921936346278508535:=()
def tw11456457278936153675:=()
def tw7174733090505296935:=()
def tw11103459858225333980:=()
def tw10938601918142008297:=()
def tw16928506170554944737:=()
def tw1982597085772824874:=()
def tw9019472814067411766:=()
def tw3218962703876362515:=()
def tw2400228756626962372:=()
def tw17906912603332044340:=()
def tw15643189718601261748:=()
def tw8641945411722730641:=()
def tw6895324855647368034:=()
def tw5177832143279853123:=()
def tw11196510596827651512:=()
def tw17648087423070158401:=()
def tw15607367718460308838:=()
def tw865407386524730815:=()
def tw9921300663485672072:=()
def tw6947675787958602294:=()
def tw10977129478761316053:=()
def tw9820711295293554462:=()
def tw2055717108687151446:=()
def tw12580969583564485106:=()
def tw12197646136913311223:=()
def tw787695663308232651:=()
def tw1192346238215093817:=()
def tw6607694688668833997:=()
def tw11377979181984088854:=()
def tw5006109779328699839:=()
def tw12405759293698747823:=()
def tw8116766967685958024:=()
def tw4951081469358418704:=()
def tw2111404550722579187:=()
def tw9663516391933185280:=()
def tw7221006948697865325:=()
def tw16917206061535593119:=()
def tw16444381575143043599:=()
def tw1837678866064263785:=()
def tw3083675407959698376:=()
def tw13918171161878446757:=()
def tw13546811823992508402:=()
def tw13804324396230777927:=()
def tw5605889279953933344:=()
def tw13670361495508018230:=()
def tw18005551892770508338:=()
def tw6551137022436888630:=()
def tw17523175931468101908:=()
def tw15471641822292940034:=()
def tw1217631998676486151:=()
def tw17201189991793032310:=()
def tw6249218792466716872:=()
def tw5622302846109916263:=()
def tw12252166187842471431:=()
def tw8655160443902619544:=()
def tw2359209954389467894:=()
def tw1859276831093335852:=()
def tw6246105388553356510:=()
def tw8013161903648253542:=()
def tw5018316817222107814:=()
def tw17916142533642956887:=()
def tw6804083402780077755:=()
def tw7779017376923944199:=()
def tw8571245730730804159:=()
def tw16671227438070529224:=()
def tw12535696029523202394:=()
def tw7638183019468874988:=()
def tw14424101927842539565:=()
def tw14416435923056819543:=()
def tw5832940104195239680:=()
def tw6798710386271939919:=()
def tw2012393332734763055:=()
def tw15956876965672275094:=()
def tw13293700585978321167:=()
def tw16420558232258636493:=()
def tw9195397025136209335:=()
def tw9522579321469763287:=()
def tw16818942848997587842:=()
def tw10437319387528254966:=()
def tw12757279266134696995:=()
def tw5087079850760696515:=()
def tw7970070342103781060:=()
def tw1478635160967521684:=()
def tw13795209758616346363:=()
def tw4111274413996478333:=()
def tw2818909404251621874:=()
def tw9258109036432786166:=()
def tw14369493777158165427:=()
def tw14795387542821290900:=()
def tw4659943627833194054:=()
def tw17144352149931909958:=()
def tw14016287119356523619:=()
def tw16283161911927118801:=()
def tw3624310176724643505:=()
def tw13886087060606245946:=()
def tw8800837860541702972:=()
def tw3514093560256543098:=()
def tw8424485300860771570:=()
def tw14735429372640249861:=()
def tw10580153244110704597:=()
def tw1851757368237897205:=()
def tw15662492390900248547:=()
def tw7953777335186449070:=()
def tw8386046878077416328:=()
def tw7866687715989648479:=()
def tw17209729815204034648:=()
def tw1073397497160677640:=()
def tw378482750093735382:=()
def tw9809124255536313055:=()
def tw13745123793428625778:=()
def tw11615702218031748505:=()
def tw16443702266952821604:=()
def tw12618933841600708885:=()
def tw6298796055785063533:=()
def tw16594567276386260055:=()
def tw11480351241976554662:=()
def tw8931483575664623092:=()
def tw15241982273933604930:=()
def tw5759770757995875606:=()
def tw5541389553844562784:=()
def tw500717902450881643:=()
def tw2122632439049746751:=()
def tw18223052745542469662:=()
def tw11561133670703217345:=()
def tw14118980055423188308:=()
def tw7721785321665739219:=()
def tw17498828346113302248:=()
def tw6693366847014990451:=()
def tw5944134774778528876:=()
def tw18427059127009928344:=()
def tw8350209322206756060:=()
def tw7653759003072586165:=()
def tw6550434114591669023:=()
def tw6323333340333986690:=()
def tw17361126588649617686:=()
def tw4470597273563694061:=()
def tw5605577058743529538:=()
def tw5583238390208337217:=()
def tw7781273016855529592:=()
def tw17514520061387203613:=()
def tw16372076865355126690:=()
def tw3945384164738837227:=()
def tw15703954120331917796:=()
def tw1217118890344721744:=()
def tw9092739912979519763:=()
def tw8942047620764325625:=()
def tw8912707545388546989:=()
def tw8697264700935545349:=()
def tw8506105800314400268:=()
def tw8011844268141739557:=()
def tw7990015234314192660:=()
def tw7676868768633417915:=()
def tw7493687776777830408:=()
def tw6594706165395269681:=()
def tw5996618973628045549:=()
def tw5457299548651586577:=()
def tw5119141891991252719:=()
def tw4456193928741224094:=()
end PySem.W.Fast
set_option maxRecDepth 100000 in
set_option maxHeartbeats 0 in
theorem PySem.Challenge.cw_lilt_k83_faults_of_forms_holds : PySem.Challenge.rw_lilt_k83_faults_of_forms.Holds := by
 w_on;o_law;k_head;(case hw=>w_witness2)
 k_fill
 refine Lake.My.walk (l:=PySem.Challenge.rw_lilt_k83_faults_of_forms) rfl rfl (λw h Y=>W.kIn_of Y) ?F
 case F=>
  intro w mg fa h KX G hmg
  refine' Lake.My.all_mk KX G hmg ?q0 ?q1 ?q2 ?q3 ?q4 ?q5 ?q6 ?q7 ?q8 ?q9 ?qa ?qb ?qc ?qd ?qe ?qf ?qg ?qh ?qi ?qj ?qk ?ql ?qm ?qn ?qo ?qp ?qq ?qr ?qs ?qt ?qu ?qv ?qw ?qx ?qy ?qz ?qA ?qB ?qC ?qD ?qE ?qF ?qG ?qH ?qI ?qJ ?qK ?qL ?qM ?qN ?qO ?qP ?qQ ?qR ?qS ?qT ?qU ?qV ?qW ?qX ?qY ?qZ ?y0 ?y1 ?y2 ?y3 ?y4 ?y5 ?y6 ?y7 ?y8 ?y9 ?ya ?yb ?yc ?yd ?ye ?yf ?yg ?yh ?yi ?yj ?yk ?yl ?ym ?yn ?yo ?yp ?yq ?yr ?ys ?yt ?yu ?yv ?yw ?yx ?yy ?yz ?yA ?yB ?yC ?yD ?yE ?yF
  (case q0|qk|ql|qn|qo|qq|qr|qu|qv|qy|qz|qL|qM|y4|y5|y6|y7|y8|y9|ya|yb|yc|yd|ye|yf|yg|yh|yi|yj|yk|yl|ym|yn|yo|yp|yq|yr|ys|yt|yu|yv|yw|yx|yy|yz|yA|yB|yC=>k_is)
  (case qm|qp|qs|qw|qA|qN=>refine' Lake.L2.TM ?l ?c ?k;(case l=>k_is);(case c=>k_is);(case k=>k_is))
  (case q1|q2|q3|q4|q5|q6|q7|q8|q9|qa|qb|qc|qd|qe|qf|qg|qh|qi|qj|qt|qx|qB|qC|qD|qE|qF|qG|qH|qI|qJ|qK|qO|qP|qQ|qR|qS|qT|qU|qV|qW|qX|qY|qZ|y0|y1|y2|y3=>refine' ⟨?a,Lake.L2.TM ?l ?c ?k⟩;(case a=>k_is);(case l=>k_is);(case c=>k_is);(case k=>k_is))
  (case yD=>intro t k hm;simp only[Lake.My.Kj,bi,bt,eI,lf] at hm;rcases hm with ⟨rfl,rfl⟩ | ⟨rfl,rfl⟩ | ⟨rfl,rfl⟩ | ⟨rfl,rfl⟩ <;> first | rfl | k_is)
  (case yE=>intro t k hm;simp only[Lake.My.Ll,bi,bt,eI,lf] at hm;rcases hm with ⟨rfl,rfl⟩ <;> first | rfl | k_is)
  (case yF=>intro t k hm;simp only[Lake.My.HG,bi,bt,eI,lf] at hm;rcases hm with ⟨rfl,rfl⟩ <;> first | rfl | k_is)
