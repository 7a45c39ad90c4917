import PyProof.Rows.All
import Wide.All
import OpenK.AllK
import Wide.FinOn
import Lean
import PyProof.EqAt
import PyProof.EqKinds
import PyProof.TupleCall
import KE.KRevIter
import PyProof.ListStr
import PyProof.Rows.Range3
import PyProof.ZipIter
import PyProof.DictWalks
import PyProof.Rows.TupDisplay
import PyProof.DictItems
import KE.KPairComp
import KE.KItemsList
import KE.KSortTup
import PyProof.Rows.SetFrom
import PyProof.ListMulRoad
import KE.KIntText
import PyProof.WalkInts
import PyProof.MinMaxWalk
import PyProof.WalksMore
import PyProof.AttrMissHeap
import KE.KDictOf
import PyProof.CollectIter
import PyProof.TupleOfGen
import PySem.Challenge.RW_lilt_k82_whole_read_twice
set_option Elab.async false
set_option linter.all false
set_option maxRecDepth 100000
set_option maxHeartbeats 4000000
set_option compiler.extract_closed false
abbrev oT:=PySem.Value->PySem.Shared->Prop
abbrev p9:=List (PySem.Addr×PySem.Obj)
abbrev qc:=List Nat
abbrev qf:=List PySem.Value
abbrev qh:=List PySem.Stmt
abbrev qk:=List PySem.Expr
abbrev qo:=List PySem.Str
abbrev qq:=List Int
abbrev qr:=List PySem.Addr
abbrev qv:=Array PySem.Value
abbrev ab:=@PySem.wpAny_bind
abbrev ac:=@PySem.Heap.get?_push_of_some
abbrev ae:=@PySem.wpAny_pure
abbrev af:=@List.mem_cons_of_mem
abbrev ag:=@List.getElem?_eq_some_iff
abbrev ai:=@List.getElem?_eq_getElem
abbrev al:=@Option.bind_eq_some_iff
abbrev am:=@List.mem_cons_self
abbrev ap:=@List.map_cons
abbrev ar:=@PySem.Heap.get?_push_size
abbrev av:=@PySem.Heap.lt_size
abbrev aw:=@List.mem_singleton
abbrev ax:=@if_neg
abbrev ay:=@Option.bind_some
abbrev aE:=@Nat.le_refl
abbrev aI:=@List.size_toArray
abbrev a0:=@if_pos
abbrev ba:=@List.length_map
abbrev bb:=@List.getD_eq_getElem?_getD
abbrev bd:=@Bool.false_ne_true
abbrev be:=@Option.some.inj
abbrev bg:=@Nat.ne_of_lt
abbrev bi:=@Nat.lt_of_lt_of_le
abbrev bm:=@List.mem_cons
abbrev bn:=@List.mem_append_left
abbrev bo:=@List.getElem?_set_ne
abbrev bp:=@List.length_append
abbrev bq:=@List.mem_append
abbrev br:=@List.append_nil
abbrev bv:=@List.length_cons
abbrev bE:=@List.map_congr_left
abbrev bP:=@List.mem_map
abbrev bS:=@List.mem_append_right
abbrev bX:=@Option.map_eq_some_iff
abbrev b0:=@List.mem_range
abbrev b6:=@Bool.and_eq_true
abbrev b9:=@List.lookup_cons
abbrev cb:=@List.drop_eq_getElem_cons
abbrev ce:=@List.getLast?_eq_some_getLast
abbrev cf:=@List.map_append
abbrev ci:=@PySem.PassesOwn.never
abbrev cm:=@List.getElem?_map
abbrev cp:=@List.sum_cons
abbrev cq:=@Nat.zero_le
abbrev cw:=@PySem.F.slot_dict_itemiterator_next
abbrev cx:=@PySem.wpAny_callSpecial?_slot
abbrev cy:=@PySem.Heap.size_push
abbrev cE:=@List.getElem?_eq_none
abbrev cK:=@PyProof.Rows.callWith_type1
abbrev cS:=@PySem.wpAny_newObj_type
abbrev c9:=@PySem.wpAny_typeNameOfWhole_itemiter
abbrev db:=@PySem.wpAny_call_entry
abbrev dc:=@List.not_mem_nil
abbrev de:=@PySem.wpAny_setField_rec
abbrev df:=@Nat.ne_of_gt
abbrev dn:=@List.mem_of_getElem?
abbrev dv:=@List.drop_eq_nil_iff
abbrev dy:=@decide_eq_false
abbrev dE:=@List.find?_eq_none
abbrev dL:=@PySem.wpAny_field
abbrev dP:=@congrArg
abbrev dQ:=@List.getElem?_append_left
abbrev dS:=@PySem.wpAny_typeNameOf_itemiter
abbrev d0:=@List.length_set
abbrev d3:=@List.mem_flatMap
abbrev d5:=@Nat.le_trans
abbrev d6:=@List.getElem?_set_self
abbrev ed:=@decide_eq_true_eq
abbrev ef:=@PySem.wpAny_holding
abbrev eg:=@Bool.false_eq_true
abbrev eB:=@PyProof.Rows.slot_tuple_getitem
abbrev eC:=@List.mem_iff_getElem?
abbrev eD:=@List.find?_cons
abbrev eI:=@PySem.W.kia_one
abbrev eJ:=@PySem.Heap.SameBut.update
abbrev eK:=@PySem.Heap.get?_update_self
abbrev eM:=@List.append_assoc
abbrev eP:=@PySem.wpAny_pyIter_tuple
abbrev eR:=@List.any_cons
abbrev eS:=@PySem.Heap.get?_update_other
abbrev eT:=@Or.inl
abbrev eW:=@List.any_eq_true
abbrev e8:=@Array.getElem?_eq_getElem
abbrev e9:=@Or.inr
abbrev fb:=@List.length_range
abbrev fe:=@List.length_singleton
abbrev ff:=@PySem.wpAny_seqItems
abbrev fg:=@PySem.wpAny_mono
abbrev fk:=@True.intro
abbrev fm:=@if_false
abbrev fq:=@List.cons_append
abbrev fw:=@if_true
abbrev fz:=@Nat.lt_irrefl
abbrev fA:=@PySem.wpAny_pyIter_list
abbrev fE:=@PySem.wpAny_isOneOf_itemiter
abbrev fF:=@beq_eq_false_iff_ne
abbrev fI:=@Bool.eq_iff_iff
abbrev fN:=@List.nodup_cons
abbrev fR:=@PySem.F.args_dict_itemiterator_next_1
abbrev fT:=@Ne.symm
abbrev f7:=@PySem.F.plain_extend_loop
abbrev f8:=@Nat.lt_succ_self
abbrev ga:=@PySem.wpAny_Call_Name_kw
abbrev gc:=@List.all_eq_true
abbrev gd:=@PySem.F.entry_dict_itemiterator_next
abbrev gg:=@List.map_map
abbrev gl:=@List.nodup_append
abbrev gp:=@Int.toNat_natCast
abbrev gs:=@List.length_eq_zero_iff
abbrev gt:=@List.flatMap_cons
abbrev gu:=@List.mem_zipIdx_iff_getElem?
abbrev gx:=@List.dropLast_concat_getLast
abbrev gy:=@Array.length_toList
abbrev gz:=@List.length_pos_iff
abbrev gE:=@List.map_nil
abbrev gI:=@Nat.le_of_lt
abbrev gL:=@Nat.lt_or_ge
abbrev gS:=@Option.map_eq_none_iff
abbrev gX:=@List.length_take
abbrev g6:=@List.length_drop
abbrev g9:=@decide_eq_true
abbrev hJ:=@beq_iff_eq
abbrev hU:=@List.getElem?_append_right
abbrev hV:=@PySem.F.slot_tuple_iterator_next
abbrev hW:=@PySem.boot_len
abbrev hZ:=@List.fst_mem_of_mem_zipIdx
abbrev h9:=@PySem.builtinLookup_eq_fast
abbrev ia:=@PySem.wpAny_passesOwn
abbrev ib:=@Option.map_some
abbrev ic:=@PySem.wpAny_loadPart'
abbrev ii:=@List.nil_append
abbrev im:=@PySem.wpAny_truthy_bool
abbrev ip:=@Nat.le_succ
abbrev iq:=@PySem.Paired.length
abbrev ix:=@or_false
abbrev iA:=@PySem.F.plainAttrs_list
abbrev iE:=@List.getElem_mem
abbrev iF:=@PySem.sizeLine_eq
abbrev iL:=@PySem.Calls.spliced_cons
abbrev iN:=@PySem.size_of_entries
abbrev iO:=@PySem.wpAny_specialOf
abbrev iP:=@PySem.codeAny_builtin
abbrev iS:=@PySem.wpAny_dictEntries
abbrev iX:=@PySem.wpAny_rule
abbrev i6:=@PySem.Around.under_plainId
abbrev i7:=@PySem.Value.type.inj
abbrev i8:=@PySem.wpAny_isInstance
abbrev i9:=@PySem.wpAny_typeOf
abbrev ja:=@List.exists_mem_of_ne_nil
abbrev jp:=@PySem.F.slot_tuple_getattribute
abbrev js:=@List.mem_of_find?_eq_some
abbrev jv:=@List.all_cons
abbrev jI:=@PySem.F.args_tuple_add_2
abbrev jS:=@PySem.wpAny_attempt
abbrev j3:=@PySem.F.slot_list_append
abbrev kc:=@PySem.F.type_list_append
abbrev ke:=@List.mem_filter
abbrev kf:=@List.forIn_cons
abbrev kg:=@PySem.typeLookup_type
abbrev kl:=@PySem.wpAny_dictEpoch
abbrev kq:=@Nat.lt_of_le_of_lt
abbrev kr:=@PySem.W.callWith_K
abbrev kz:=@List.getElem?_take
abbrev kA:=@List.getElem?_drop
abbrev kB:=@PySem.F.entry_tuple_add
abbrev kC:=@PyProof.Rows.boot_tuple
abbrev kD:=@PySem.F.slot_tuple_hash
abbrev kF:=@PySem.Calls.spliced_nil
abbrev kG:=@PySem.F.slot_tuple_add
abbrev kH:=@List.reverse_cons
abbrev kK:=@PyProof.Rows.boot_list
abbrev kL:=@Array.getElem?_eq_none
abbrev kM:=@List.forIn_nil
abbrev kP:=@List.getElem?_set
abbrev kR:=@List.find?_map
abbrev kT:=@Option.map_map
abbrev kU:=@Int.mul_nonneg
abbrev kX:=@PySem.wpAny_notOrdered_dict
abbrev k6:=@PySem.F.slot_dict_get
abbrev k7:=@List.singleton_append
abbrev k8:=@List.take_append_drop
abbrev k9:=@PySem.call_meets
abbrev lf:=@PySem.F.slot_tuple_mul
abbrev lh:=@PySem.plainId_quiet
abbrev li:=@List.eq_nil_of_length_eq_zero
abbrev lI:=@List.range_eq_range'
abbrev lP:=@PySem.wpAny_updateSeq_pair
abbrev lS:=@List.pairwise_append
abbrev lT:=@PySem.wpAny_execs_nil
abbrev l0:=@List.length_nil
abbrev l4:=@PySem.wpAny_updateSeq
abbrev l5:=@PySem.F.args_tuple_iterator_next_1
abbrev l6:=@PySem.F.slot_zip_next
abbrev l7:=@PySem.F.slot_int_rmul
abbrev l8:=@List.find?_some
abbrev l9:=@List.filterMap_cons
abbrev md:=@PySem.W.plainGet_of
abbrev me:=@List.getElem?_range
abbrev mf:=@PySem.codeAny_mono
abbrev mh:=@Nat.lt_trans
abbrev ml:=@PySem.F.entry_tuple_iterator_next
abbrev mm:=@PySem.SeqAt.EqAt.int_str
abbrev mr:=@PySem.SeqAt.EqAt.str_int
abbrev mv:=@PySem.Calls.Name_function_global
abbrev mw:=@PySem.SeqAt.EqAt.int_int
abbrev mx:=@List.drop_zero
abbrev mB:=@PySem.wpAny_setField
abbrev mE:=@PySem.wpAny_newTuple
abbrev mI:=@PySem.wpAny_fieldsOf
abbrev mM:=@List.nodup_iff_pairwise_ne
abbrev mN:=@PySem.F.entry_extend_loop
abbrev mS:=@PySem.wpAny_binaryOp_repeat_ref
abbrev mT:=@List.getLast?_eq_getElem?
abbrev ng:=@Classical.byContradiction
abbrev nh:=@PySem.wpAny_sequenceKey
abbrev nn:=@List.any_eq_false
abbrev ny:=@PySem.wpAny_letGo
abbrev nE:=@Nat.le_succ_of_le
abbrev nI:=@List.pairwise_map
abbrev nK:=@List.find?_append
abbrev nN:=@Option.isSome_iff_exists
abbrev nS:=@PySem.wpAny_comprehension_free
abbrev nV:=@PySem.wpAny_onRaise
abbrev nX:=@PySem.wpAny_forIn_list
abbrev og:=@PySem.wpAny_pyNext_tuple_item
abbrev oj:=@List.getElem?_replicate
abbrev om:=@PySem.F.args_dict_get_3
abbrev oq:=@PySem.noFill_tuple_add
abbrev ow:=@List.take_length
abbrev ox:=@List.range'_succ
abbrev oy:=@PySem.F.plain_list_iadd
abbrev oz:=@decide_eq_false_iff_not
abbrev oB:=@PySem.W.cellsFrom_some
abbrev oC:=@PySem.F.entry_dict_get
abbrev oI:=@PySem.typeIs_int
abbrev oP:=@List.find?_cons_of_neg
abbrev oQ:=@List.of_mem_zip
abbrev pc:=@List.foldl_cons
abbrev pd:=@List.count_cons
abbrev pf:=@List.length_replicate
abbrev pi:=@Bool.beq_eq_decide_eq
abbrev pj:=@PySem.isSubtype_stop
abbrev pp:=@List.drop_drop
abbrev pz:=@Int.mul_add
abbrev pE:=@Nat.add_le_add_left
abbrev pS:=@List.length_reverse
abbrev pT:=@Nat.add_assoc
abbrev pV:=@PySem.seq_tuple_add
abbrev p0:=@PySem.wpAny_handled
abbrev p4:=@Prod.mk.injEq
abbrev p5:=@List.any_map
noncomputable section
namespace Lake.L2
open PySem PySem.Spec PyProof.Rows
variable {h:Heap}{Q:Unit->Shared->Prop}
section
variable {prog:Program}{w:World}{κ:Type}[DecidableEq κ]{kd:HeapKind prog w κ}{A:Around}{E:oT}{s:Shared}{d a it:Addr}{xs:List (κ×Addr×Value)}{k:κ}{v:Value}
def AQ (kd:HeapKind prog w κ)(h:Heap)(d:Addr)(xs:List (κ×Addr×Value)):Prop:=
 ∃o es,h.get? d=some o/\o.ExactDict/\o.data=.dict es xs.length/\es.toList=xs.map (entryOfKey kd)/\(∀x∈xs,kd.is h x.1 x.2.1)/\(xs.map (·.1)).Nodup
theorem AQ.of (m:AQ kd h d xs):h.DictOfH kd d xs:=let ⟨o,es,q⟩:=m;⟨o,es,_,q⟩
theorem rY (hu:kd.room A)(hk:kd.is s.heap k a)(m:AQ kd s.heap d xs)(hz:xs.length<=sizeLine)
  (q:∀h',AQ kd h' d (storedH xs k a v)->Heap.SameBut d s.heap h'->Q () { s with heap:=h',toks:=s.toks+kd.draws k }):wpAny (model prog w) A (dictSet d (.ref a) v) Q E s:=by
 obtain⟨o,es,o1,o2,o3,o4,o5,o6⟩:=m
 unfold dictSet
 try with_reducible refine ef ?_
 refine ab (kd.pyHash hu hk ?_)
 unfold dictSetHashed
 try with_reducible refine ef ?_
 refine ab (wpAny_dictFind_heap (s:={ s with toks:=s.toks+kd.draws k }) hu hk o1 o3 o4 o5 o6 (λno=>?_) λj p hj=>?_)
 ·have nk:k∉xs.map (·.1):=not_mem_keys_of_get no
  have e:=storedH_new (atKey_none_of_get no) a v
  rw[e] at q
  refine ab (iX (wpAny_updateDictKeys (hz:=by have:=iN o4;omega) (s:={ s with toks:=s.toks+kd.draws k }) o1 o3 (q _ ⟨_,_,eK _ o1 (Obj.isFreed_of_dict (Obj.data_mapDictKeys o3 _)),o2.mapDictKeys _,by rw[bp];exact Obj.data_mapDictKeys o3 _,?_,λx hx=>?_,?_⟩ (eJ ..))))
  ·simp[o4,entryOfKey]
  ·rcases bq.mp hx with z | z
   ·exact kd.keeps (o5 x z) o1 o3 (eJ ..)
   ·rw[aw.mp z];exact kd.keeps hk o1 o3 (eJ ..)
  ·rw[cf]
   exact gl.mpr ⟨o6,by simp,λx hx y hy z=>nk (by rw[ap,gE,aw] at hy;have hy:y=k:=hy;subst hy z;exact hx)⟩
 ·have e:=storedH_old (atKey_of_get o6 hj) a v
  rw[e] at q
  refine ab (iX (ab (wpAny_updateDict (s:={ s with toks:=s.toks+kd.draws k }) o1 o3 (wpAny_point (q _ ⟨_,_,eK _ o1 (Obj.isFreed_of_dict (Obj.data_mapDict o3 _)),o2.mapDict _,by rw[ba];exact Obj.data_mapDict o3 _,?_,λx hx=>?_,?_⟩ (eJ ..))))))
  ·have y:=modify_map_putAt (entryOfKey kd) (λe:DictEntry=>{ e with val:=v }) k v (λ_ _=>rfl) o6 hj
   rw[← o4] at y
   cases es
   simpa using y
  ·obtain⟨y,hy,rfl⟩:=bP.mp hx
   unfold putAt
   split <;> exact kd.keeps (o5 y hy) o1 o3 (eJ ..)
  ·rw[keys_map_putAt];exact o6
theorem Ht (hu:kd.room A.in1)(hk:kd.is s.heap k a)(m:AQ kd s.heap d xs)(hz:xs.length<=sizeLine)
  (q:∀h',AQ kd h' d (storedH xs k a v)->Heap.SameBut d s.heap h'->Q () { s with heap:=h',toks:=s.toks+kd.draws k }):wpAny (model prog w) A (setItem (.ref d) (.ref a) v) Q E s:=by
 have ty:=m.of.typeIs
 unfold setItem
 try with_reducible refine ef ?_
 refine ab (nh ty (by decide) (ab (cx (name:=Str.ofString "__setitem__") ty slot_dict_setitem (db slot_dict_setitem ty entry_dict_setitem ?_ (args_dict_setitem _ _ _)))))
 show wpAny _ _ (Builtin.Dict.notOrdered "__setitem__" ⟨[.ref d,.ref a,v],[]⟩ >>= _) _ _ s
 refine ab (kX ty ?_)
 show wpAny _ _ (dictSet d (.ref a) v >>= λ_=>_) _ _ s
 exact ab (rY hu hk m hz λh' m' DU=>ae ⟨.none,rfl,ae (q h' m' DU)⟩)
end
abbrev Key:=Sum Int Str
noncomputable def jU:Key->Value->Bool
 | .inl k,v=>Value.isInt k v
 | .inr x,v=>Value.isStrOf x v
noncomputable def Hu (w:World):Key->Int
 | .inl k=>hashInt k
 | .inr x=>hashStr w x
theorem bQ:∀{k:Key}{v:Value},jU k v=true->(∃i t,k=Sum.inl i/\v=Value.int i t)\/(∃x t,k=Sum.inr x/\v=Value.str x t)
 | .inl i,v,h=>by
  obtain⟨t,e⟩:=Value.isInt_shape (k:=i) (v:=v) h
  exact .inl ⟨i,t,rfl,e⟩
 | .inr x,v,h=>by
  obtain⟨t,e⟩:=Value.isStrOf_shape (x:=x) (v:=v) h
  exact .inr ⟨x,t,rfl,e⟩
theorem pL (i:Int)(t:Tok):jU (.inl i) (.int i t)=true:=by simp[jU,Value.isInt]
theorem pM (x:Str)(t:Tok):jU (.inr x) (.str x t)=true:=by simp[jU,Value.isStrOf]
theorem pO (a b:Int):decide ((Sum.inl a:Key)=Sum.inl b)=(a == b):=by
 by_cases e:a=b
 ·subst e;simp
 ·have h:¬ (Sum.inl a:Key)=Sum.inl b:=λq=>e (Sum.inl.inj q)
  rw[dy h]
  exact(fF.mpr e).symm
theorem EY (a b:Str):decide ((Sum.inr a:Key)=Sum.inr b)=decide (a=b):=by
 by_cases e:a=b
 ·subst e;simp
 ·have h:¬ (Sum.inr a:Key)=Sum.inr b:=λq=>e (Sum.inr.inj q)
  rw[dy h,dy e]
theorem yq (a:Int)(b:Str):decide ((Sum.inl a:Key)=Sum.inr b)=false:=dy (λq=>nomatch q)
theorem yr (a:Str)(b:Int):decide ((Sum.inr a:Key)=Sum.inl b)=false:=dy (λq=>nomatch q)
def dX (prog:Program)(w:World):PySem.KeyKind prog w Key where
 is:=jU
 hash:=Hu w
 inj:=λv a b ha hb=>by
  rcases bQ ha with ⟨i,t,rfl,rfl⟩ | ⟨x,t,rfl,rfl⟩
  ·rcases bQ hb with ⟨j,u,rfl,e⟩ | ⟨y,u,rfl,e⟩
   ·injection e with e1 _;rw[e1]
   ·exact nomatch e
  ·rcases bQ hb with ⟨j,u,rfl,e⟩ | ⟨y,u,rfl,e⟩
   ·exact nomatch e
   ·injection e with e1 _;rw[e1]
 byValue:=λk v h=>by
  rcases bQ h with ⟨i,t,rfl,rfl⟩ | ⟨x,t,rfl,rfl⟩ <;> rfl
 pyHash:=λhv h=>by
  rcases bQ hv with ⟨i,t,rfl,rfl⟩ | ⟨x,t,rfl,rfl⟩
  ·exact wpAny_pyHash_int h
  ·exact wpAny_pyHash_str h
 eqBool:=λhu hv h=>by
  rcases bQ hu with ⟨i,t,rfl,rfl⟩ | ⟨x,t,rfl,rfl⟩
  ·rcases bQ hv with ⟨j,u,rfl,rfl⟩ | ⟨y,u,rfl,rfl⟩
   ·rw[pO] at h;exact wpAny_eqBool_int h
   ·rw[yq] at h;exact mm i t y u _ _ _ _ h
  ·rcases bQ hv with ⟨j,u,rfl,rfl⟩ | ⟨y,u,rfl,rfl⟩
   ·rw[yr] at h;exact mr x t j u _ _ _ _ h
   ·rw[EY] at h;exact wpAny_eqBool_str h
 «strs»:=λk x t v h=>by
  rcases bQ h with ⟨i,u,rfl,e⟩ | ⟨y,u,rfl,e⟩
  ·exact nomatch e
  ·injection e with e1 _
   subst e1
   cases v <;> rfl
noncomputable def cQ:Key->Value->Bool
 | .inl k,.bool b=>decide (k=if b=true then 1 else 0)
 | k,v=>jU k v
variable {v:Value}
theorem bA {k:Key}(h:cQ k v=true):(∃b,k=Sum.inl (if b=true then 1 else 0)/\v=Value.bool b)\/(∃i t,k=Sum.inl i/\v=Value.int i t)\/(∃x t,k=Sum.inr x/\v=Value.str x t):=by
 unfold cQ at h
 split at h
 ·exact .inl ⟨_,dP _ (of_decide_eq_true h),rfl⟩
 ·exact .inr (bQ h)
theorem lL {k:Key}(h:jU k v=true):cQ k v=true:=by
 rcases bQ h with ⟨i,t,rfl,rfl⟩ | ⟨x,t,rfl,rfl⟩ <;> exact h
theorem Az (b:Bool):cQ (.inl (if b=true then 1 else 0)) (.bool b)=true:=g9 rfl
theorem NB (a b:Bool):decide ((Sum.inl (if a=true then 1 else 0):Key)=Sum.inl (if b=true then 1 else 0))=(a == b):=by
 rw[pO];cases a <;> cases b <;> rfl
variable {w:World}{A:Around}{E:oT}{s:Shared}
theorem E_ {prog:Program}(b:Bool){Q:Int->Shared->Prop}(h:Q (hashInt (if b=true then 1 else 0)) { s with toks:=s.toks+1 }):
  wpAny (model prog w) A (pyHash (.bool b)) Q E s:=by
 refine W.pyHash_slot (s:=s) (T := "bool") (by cases b <;> exact PySem.typeIs_bool s _) PySem.F.slot_bool_hash entry_int_hash (args_int_hash _) (by rw[beq_builtin_none]) (.inl rfl) ?_
 have e:reduceHash (rawHash (if b=true then 1 else 0))=hashInt (if b=true then 1 else 0):=by cases b <;> decide
 show wpAny _ _ (do ret (← mkInt (rawHash (if b=true then 1 else 0)))) _ _ s
 refine fg (wpAny_ret_mkInt (Q:=λv s'=>∃t,v=.int (rawHash (if b=true then 1 else 0)) t/\s'={ s with toks:=s.toks+1 }) ⟨_,rfl,rfl⟩) (λfin s' hq=>?_) λ_ _ x=>x
 obtain⟨v,rfl,t,rfl,rfl⟩:=hq
 exact⟨_,_,rfl,by rw[e];exact h⟩
def rZ (prog:Program)(w:World):PySem.KeyKind prog w Key where
 is:=cQ
 hash:=Hu w
 inj:=λv a b ha hb=>by
  rcases bA ha with ⟨c,rfl,rfl⟩ | ⟨i,t,rfl,rfl⟩ | ⟨x,t,rfl,rfl⟩ <;> rcases bA hb with ⟨d,rfl,e⟩ | ⟨j,u,rfl,e⟩ | ⟨y,u,rfl,e⟩ <;> cases e <;> rfl
 byValue:=λk v h=>by
  rcases bA h with ⟨c,rfl,rfl⟩ | ⟨i,t,rfl,rfl⟩ | ⟨x,t,rfl,rfl⟩ <;> rfl
 pyHash:=λhv h=>by
  rcases bA hv with ⟨c,rfl,rfl⟩ | ⟨i,t,rfl,rfl⟩ | ⟨x,t,rfl,rfl⟩
  ·exact E_ c h
  ·exact wpAny_pyHash_int h
  ·exact wpAny_pyHash_str h
 eqBool:=λhu hv h=>by
  rcases bA hu with ⟨c,rfl,rfl⟩ | ⟨i,t,rfl,rfl⟩ | ⟨x,t,rfl,rfl⟩
  ·rcases bA hv with ⟨d,rfl,rfl⟩ | ⟨j,u,rfl,rfl⟩ | ⟨y,u,rfl,rfl⟩
   ·rw[NB] at h;exact SeqAt.EqAt.bool_bool _ _ _ _ _ _ h
   ·rw[pO] at h;exact SeqAt.EqAt.bool_int _ _ _ _ _ _ _ h
   ·rw[yq] at h;exact SeqAt.EqAt.bool_str _ _ _ _ _ _ _ h
  ·rcases bA hv with ⟨d,rfl,rfl⟩ | ⟨j,u,rfl,rfl⟩ | ⟨y,u,rfl,rfl⟩
   ·rw[pO] at h;exact SeqAt.EqAt.int_bool _ _ _ _ _ _ _ h
   ·rw[pO] at h;exact wpAny_eqBool_int h
   ·rw[yq] at h;exact mm i t y u _ _ _ _ h
  ·rcases bA hv with ⟨d,rfl,rfl⟩ | ⟨j,u,rfl,rfl⟩ | ⟨y,u,rfl,rfl⟩
   ·rw[yr] at h;exact SeqAt.EqAt.str_bool _ _ _ _ _ _ _ h
   ·rw[yr] at h;exact mr x t j u _ _ _ _ h
   ·rw[EY] at h;exact wpAny_eqBool_str h
 «strs»:=λk x t v h=>by
  rcases bA h with ⟨c,rfl,e⟩ | ⟨i,u,rfl,e⟩ | ⟨y,u,rfl,e⟩
  ·exact nomatch e
  ·exact nomatch e
  ·injection e with e1 _
   subst e1
   cases v <;> rfl
theorem A_ (prog:Program)(w:World)(i:Int)(t:Tok):(dX prog w).is (.inl i) (.int i t)=true:=pL i t
theorem Ba (prog:Program)(w:World)(x:Str)(t:Tok):(dX prog w).is (.inr x) (.str x t)=true:=pM x t
inductive zD where
 | k (x:Key) | nil | cons (a b:zD)
 deriving DecidableEq
noncomputable def zD.tp:List zD->zD
 | []=>.nil
 | a::l=>.cons a (tp l)
theorem zD.EC:∀{l m:List zD},zD.tp l=zD.tp m->l=m
 | [],[],_=>rfl
 | [],_::_,e=>nomatch e
 | _::_,[],e=>nomatch e
 | a::l,b::m,e=>by
  have e':zD.cons a (.tp l)=zD.cons b (.tp m):=e
  injection e' with e1 e2
  rw[e1,zD.EC e2]
theorem zD.OM {l:List zD}{x:Key}(e:zD.tp l=.k x):False:=by
 cases l <;> exact nomatch e
def Cb (R:zD->Value->Prop)(h:Heap)(ks:List zD)(a:Addr):Prop:=∃o items n,h.get? a=some o/\o.cls=.type "tuple" /\ o.data=.seq items n/\Paired R ks items.toList
def Co:Nat->Heap->zD->Value->Prop
 | 0,_,n,v=>∃x,n=.k x/\cQ x v=true
 | d+1,h,n,v=>(∃x,n=.k x/\cQ x v=true)\/∃ns a,n=.tp ns/\v=.ref a/\Cb (Co d h) h ns a
theorem Co.leaf {d:Nat}{x:Key}(e:cQ x v=true):Co d h (.k x) v:=by
 cases d with
 | zero=>exact⟨x,rfl,e⟩
 | succ d=>exact .inl ⟨x,rfl,e⟩
noncomputable def nH (w:World):zD->Int×List Int
 | .k x=>(Hu w x,[])
 | .nil=>(reduceHash (Builtin.Tuple.tupleHashOf []),[])
 | .cons a b=>(reduceHash (Builtin.Tuple.tupleHashOf ((nH w a).1::(nH w b).2)),(nH w a).1::(nH w b).2)
theorem Fb (w:World):∀l:List zD,(nH w (.tp l)).2=l.map λx=>(nH w x).1
 | []=>rfl
 | a::l=>by
  show (nH w a).1::(nH w (.tp l)).2=_
  rw[Fb w l];rfl
theorem Ri (w:World)(l:List zD):(nH w (.tp l)).1=reduceHash (Builtin.Tuple.tupleHashOf (l.map λx=>(nH w x).1)):=by
 cases l with
 | nil=>simp[nH,zD.tp]
 | cons a l=>rw[← Fb];rfl
def nD:zD->Nat
 | .k _=>1
 | .nil=>1
 | .cons a b=>nD a+nD b
theorem Ke:∀l:List zD,nD (.tp l)=(l.map nD).sum+1
 | []=>rfl
 | a::l=>by
  show nD a+nD (.tp l)=_
  rw[Ke l,ap,cp];omega
variable {a b:Addr}{R:zD->Value->Prop}{ks:List zD}{u:Value}
section
variable {P:Program}{w:World}
theorem Paired.inj {α β:Type}{R:α->β->Prop}(hR:∀x y v,R x v->R y v->x=y):∀{l m:List α}{vs:List β},Paired R l vs->Paired R m vs->l=m
 | _,_,_,.nil,.nil=>rfl
 | _,_,_,.cons h t,.cons h' t'=>by rw[hR _ _ _ h h',Paired.inj hR t t']
theorem Cb.inj {R:zD->Value->Prop}{h:Heap}{x y:List zD}{a:Addr}(hR:∀x y v,R x v->R y v->x=y)(hx:Cb R h x a)(hy:Cb R h y a):x=y:=by
 obtain⟨o,As,n,e1,_,e3,r⟩:=hx
 obtain⟨o',its',n',Yp,_,e3',r'⟩:=hy
 obtain rfl:o=o':=be (e1.symm.trans Yp)
 rw[e3] at e3'
 injection e3' with e _
 subst e
 exact Paired.inj hR r r'
theorem yt {x:Key}(h:cQ x (.ref a)=true):False:=by
 rcases bA h with ⟨_,_,e⟩ | ⟨_,_,_,e⟩ | ⟨_,_,_,e⟩ <;> exact nomatch e
theorem yu {x y:Key}(hx:cQ x v=true)(hy:cQ y v=true):x=y:=by
 rcases bA hx with ⟨c,rfl,rfl⟩ | ⟨i,t,rfl,rfl⟩ | ⟨x,t,rfl,rfl⟩ <;> rcases bA hy with ⟨d,rfl,e⟩ | ⟨j,u,rfl,e⟩ | ⟨y,u,rfl,e⟩ <;> cases e <;> rfl
theorem Co.inj:∀{d:Nat}{h:Heap}(x y:zD) (v:Value),Co d h x v->Co d h y v->x=y
 | 0,h,x,y,v,⟨p,e,hp⟩,⟨q,f,hq⟩=>by rw[e,f,yu hp hq]
 | d+1,h,x,y,v,hx,hy=>by
  rcases hx with ⟨p,e,hp⟩ | ⟨ns,a,e,ev,t⟩
  ·rcases hy with ⟨q,f,hq⟩ | ⟨ms,b,f,fv,u⟩
   ·rw[e,f,yu hp hq]
   ·rw[fv] at hp;exact(yt hp).elim
  ·rcases hy with ⟨q,f,hq⟩ | ⟨ms,b,f,fv,u⟩
   ·rw[ev] at hq;exact(yt hq).elim
   ·rw[ev] at fv
    cases fv
    rw[e,f,Cb.inj (λx y v=>Co.inj x y v) t u]
theorem eQ {α β:Type}{F G:α->β->Prop}:∀{l₁:List α}{l₂:List β},Paired F l₁ l₂->(∀a b,F a b->G a b)->Paired G l₁ l₂
 | _,_,.nil,_=>.nil
 | _,_,.cons h t,f=>.cons (f _ _ h) (eQ t f)
theorem Cb.keeps {R':zD->Value->Prop}{h':Heap}{d:Addr}{o:Obj}{es ep}(x:Cb R h ks a)(hR:∀k v,R k v->R' k v)(ho:h.get? d=some o)(hd:o.data=.dict es ep)(hs:Heap.SameBut d h h'):Cb R' h' ks a:=by
 obtain⟨o',items,n,LJ,hc,S1,hi⟩:=x
 have AU:a≠d:=by
  rintro rfl
  obtain rfl:o'=o:=be (LJ.symm.trans ho)
  rw[hd] at S1;exact nomatch S1
 exact⟨o',items,n,(hs.2 a AU).trans LJ,hc,S1,eQ hi hR⟩
theorem Co.keeps:∀{n:Nat}{h h':Heap}{d:Addr}{o:Obj} {es ep}(k:zD) (v:Value),Co n h k v->h.get? d=some o->o.data=.dict es ep->Heap.SameBut d h h'->Co n h' k v
 | 0,h,h',d,o,es,ep,k,v,x,_,_,_=>x
 | n+1,h,h',d,o,es,ep,k,v,x,ho,hd,hs=>x.imp id λ⟨ns,a,e,ev,t⟩=>⟨ns,a,e,ev,t.keeps (λk v q=>Co.keeps k v q ho hd hs) ho hd hs⟩
theorem Cb.typeIs (x:Cb R s.heap ks a):s.TypeIs (.ref a) "tuple" := let ⟨o,_,_,ho,hc,_⟩:=x;⟨o,ho,hc⟩
theorem Cb.GA (x:Cb R h ks a):∃items,h.IsTuple a items/\Paired R ks items.toList:=let ⟨o,As,n,ho,hc,hd,r⟩:=x;⟨As,⟨o,ho,hc,n,hd⟩,r⟩
theorem Kz {Q:Int->Shared->Prop}(hu:A.units < cLine)(hk:Cb R s.heap ks a)
  (hR:∀k v (s':Shared) (Q':Int->Shared->Prop) (E':oT),R k v->s'.heap=s.heap->Q' (nH w k).1 { s' with toks:=s'.toks+nD k }->wpAny (model P w) A.in1 (pyHash v) Q' E' s')
  (h:Q (nH w (.tp ks)).1 { s with toks:=s.toks+nD (.tp ks) }):wpAny (model P w) A (pyHash (.ref a)) Q E s:=by
 have hT:=hk.typeIs
 obtain⟨o,items,n,ho,_,hd,hi⟩:=hk
 unfold pyHash
 first | unfold pyHashByItsType | skip
 first | refine ab (wpAny_cRoomFor_or (.inr hu) ?_) | skip
 refine ab (iO hT kD.lookup ?_)
 show wpAny _ _ (if (some (Value.builtin "tuple.__hash__") == some Value.none)=true then _ else _) Q E s
 rw[ax (by rw[beq_builtin_none];exact bd)]
 refine ab (iO hT kD.lookup ?_)
 show wpAny _ _ (callSpecialIfBoundUnlessNone? (.ref a) "__hash__" _ >>= _) Q E s
 refine ab (wpAny_callSpecialIfBoundUnlessNone?_slot hT kD (db kD hT F.entry_tuple_hash ?_ (F.args_tuple_hash_1 _)))
 show wpAny _ _ (Builtin.Tuple.tupleItemsOf (.ref a) >>= _) _ _ s
 refine ab (wpAny_tupleItemsOf ho hd ?_)
 refine ab ?_
 rw[← Array.forIn_toList]
 refine nX _
  (λrest (b:Array Int) s'=>∃done left,ks=done++left/\Paired R left rest/\b.toList=done.map (λx=>(nH w x).1)/\s'={ s with toks:=s.toks+(done.map nD).sum })
  _ ?_ ?_ _ _ ⟨[],ks,rfl,hi,rfl,rfl⟩
 ·rintro x rest b s' ⟨done,left,rfl,hl,hb,rfl⟩
  cases hl with
  | @cons k _ ks' _ h1 OO=>
   refine ab (hR _ _ _ _ _ h1 rfl ?_)
   exact ae ⟨done++[k],ks',by simp,OO,by simp[hb],by simp[pT]⟩
 ·rintro b s' ⟨done,left,rfl,hl,hb,rfl⟩
  cases hl
  rw[br,Ri,Ke,← pT] at h
  show wpAny _ _ (retInt (Builtin.Tuple.tupleHashOf b.toList)) _ _ _
  rw[hb]
  refine wpAny_ret_mkInt ?_
  generalize List.map (λx=>(nH w x).1) done=hs at h
  show wpAny _ _ (if (decide (-(2:Int) ^ 63<=Builtin.Tuple.tupleHashOf hs)&&decide (Builtin.Tuple.tupleHashOf hs < 2 ^ 63))=true then _ else _) Q E _
  unfold reduceHash at h
  by_cases hr:(decide (-(2:Int) ^ 63<=Builtin.Tuple.tupleHashOf hs)&&decide (Builtin.Tuple.tupleHashOf hs < 2 ^ 63))=true
  ·rw[a0 hr]
   rw[a0 hr] at h
   exact ae h
  ·rw[ax hr]
   rw[ax hr] at h
   exact ab (iX (ae h))
theorem in1_units (A:Around):A.in1.units=A.units+1:=rfl
theorem wL {x:Key}{Q:Int->Shared->Prop}(hp:cQ x v=true)(h:Q (nH w (.k x)).1 { s with toks:=s.toks+nD (.k x) }):wpAny (model P w) A (pyHash v) Q E s:=
 (rZ P w).pyHash (k:=x) hp h
theorem Co.hash:∀{d:Nat}{A:Around}{E:oT}{s:Shared}{k:zD}{v:Value}{Q:Int->Shared->Prop},A.units+d < cLine->Co d s.heap k v->Q (nH w k).1 { s with toks:=s.toks+nD k }->wpAny (model P w) A (pyHash v) Q E s
 | 0,A,E,s,k,v,Q,_,⟨x,e,hp⟩,h=>by subst e;exact wL hp h
 | d+1,A,E,s,k,v,Q,hu,x,h=>by
  rcases x with ⟨x,e,hp⟩ | ⟨ns,a,e,ev,t⟩
  ·subst e;exact wL hp h
  ·subst e ev
   exact Kz (by omega) t (λk v s' Q' E' r es h'=>Co.hash (d:=d) (by rw[in1_units];omega) (by rw[es];exact r) h') h
theorem ue {R:zD->Value->Prop}:∀{x y:List zD}{us vs:qf}(e:Nat->Bool),Paired R x us->Paired R y vs->(∀j p q,x[j]?=some p->y[j]?=some q->e j=decide (p=q))->
  ((List.range (min us.length vs.length)).all e&&us.length == vs.length)=decide (x=y)
 | _,_,_,_,e,.nil,.nil,_=>by simp
 | _,_,_,_,e,.nil,.cons _ _,_=>by simp
 | _,_,_,_,e,.cons _ _,.nil,_=>by simp
 | _,_,_,_,e,.cons (a:=p) (l₁:=x) (l₂:=us) h t,.cons (a:=q) (l₁:=y) (l₂:=vs) h' t',he=>by
  have ih:=ue (λj=>e (j+1)) t t' λj p q a b=>he (j+1) p q (by simpa using a) (by simpa using b)
  have h0:=he 0 p q rfl rfl
  rw[bv,bv,Nat.succ_min_succ,List.range_succ_eq_map,jv,List.all_map]
  have e1:((us.length+1) == (vs.length+1))=(us.length == vs.length):=by simp
  rw[e1,Bool.and_assoc,h0]
  have e2:((List.range (min us.length vs.length)).all (e∘Nat.succ)&&us.length == vs.length)=decide (x=y):=ih
  rw[e2]
  by_cases z:p=q
  ·subst z;simp
  ·simp[z]
theorem lM {α β:Type}{F:α->β->Prop}:∀{l₁:List α}{l₂:List β}{i:Nat}{y:β},Paired F l₁ l₂->l₂[i]?=some y->∃x,l₁[i]?=some x/\F x y
 | _,_,_,_,.nil,e=>by simp at e
 | _,_,0,_,.cons r _,e=>by simp at e;subst e;exact⟨_,rfl,r⟩
 | _,_,i+1,y,.cons _ t,e=>by
  obtain⟨x,h1,h2⟩:=lM (i:=i) (y:=y) t (by simpa using e)
  exact⟨x,by simpa using h1,h2⟩
theorem CV {x y:List zD}(hi:∀x y v,R x v->R y v->x=y)(hu:A.units < cLine)(hx:Cb R s.heap x a)(hy:Cb R s.heap y b)
  (hR:∀p q u v,R p u->R q v->SeqAt.EqAt A.in1 s u v (decide (p=q))):SeqAt.EqAt A s (.ref a) (.ref b) (decide (x=y)):=by
 by_cases LX:a=b
 ·subst LX
  rw[Cb.inj hi hx hy,g9 rfl]
  exact SeqAt.EqAt.same _
 ·obtain⟨us,h1,r1⟩:=hx.GA
  obtain⟨vs,h2,r2⟩:=hy.GA
  have l1:=iq r1
  have l2:=iq r2
  have key:=SeqAt.RcAt.tuples (e:=λj=>match x[j]?,y[j]? with | some p,some q=>decide (p=q) | _,_=>false) h1 h2 hu λj j1 j2=>by
   have e1:us.toList[j]?=some us[j]:=by simp[j1]
   have e2:vs.toList[j]?=some vs[j]:=by simp[j2]
   obtain⟨p,ep,rp⟩:=lM r1 e1
   obtain⟨q,eq,rq⟩:=lM r2 e2
   simp only[ep,eq]
   exact hR p q _ _ rp rq
  refine SeqAt.EqAt.of_refs LX ?_
  have fin:=ue (R:=R) (λj=>match x[j]?,y[j]? with | some p,some q=>decide (p=q) | _,_=>false) r1 r2 λj p q a b=>by simp only[a,b]
  rw[← fin]
  simpa using key
theorem yw {x:Key}(hu:A.units < cLine)(hp:cQ x u=true)(t:Cb R s.heap ks a):SeqAt.EqAt A s u (.ref a) false/\SeqAt.EqAt A s (.ref a) u false:=by
 obtain⟨us,h1,_⟩:=t.GA
 rcases bA hp with ⟨c,_,rfl⟩ | ⟨i,t,_,rfl⟩ | ⟨x,t,_,rfl⟩
 ·exact⟨.bool_tuple c h1 hu,.tuple_bool c h1 hu⟩
 ·exact⟨.int_tuple i t h1 hu,.tuple_int i t h1 hu⟩
 ·exact⟨.str_tuple x t h1 hu,.tuple_str x t h1 hu⟩
theorem Bp {x y:Key}(hx:cQ x u=true)(hy:cQ y v=true):SeqAt.EqAt A s u v (decide (zD.k x=zD.k y)):=λprog w E Q h=>by
 have e:decide (zD.k x=zD.k y)=decide (x=y):=by simp
 rw[e] at h
 exact(rZ prog w).eqBool (a:=x) (b:=y) hx hy h
theorem Co.eq:∀{d:Nat}{A:Around}{s:Shared}(x y:zD) (u v:Value),A.units+d < cLine->Co d s.heap x u->Co d s.heap y v->SeqAt.EqAt A s u v (decide (x=y))
 | 0,A,s,x,y,u,v,_,⟨p,e,hp⟩,⟨q,f,hq⟩=>by subst e f;exact Bp hp hq
 | d+1,A,s,x,y,u,v,hu,hx,hy=>by
  rcases hx with ⟨p,e,hp⟩ | ⟨ns,a,e,ev,t⟩
  ·rcases hy with ⟨q,f,hq⟩ | ⟨ms,b,f,fv,r⟩
   ·subst e f;exact Bp hp hq
   ·subst e f fv
    rw[dy (λz=>zD.OM z.symm)]
    exact(yw (by omega) hp r).1
  ·rcases hy with ⟨q,f,hq⟩ | ⟨ms,b,f,fv,r⟩
   ·subst e f ev
    rw[dy (λz=>zD.OM z)]
    exact(yw (by omega) hq t).2
   ·subst e f ev fv
    have e:decide (zD.tp ns=zD.tp ms)=decide (ns=ms):=by
     by_cases z:ns=ms
     ·simp[z]
     ·rw[dy z,dy (λq=>z (zD.EC q))]
    rw[e]
    exact CV (λx y v=>Co.inj x y v) (by omega) t r λp q u v h1 h2=>Co.eq p q u v (by rw[in1_units];omega) h1 h2
theorem Hv {f:Nat}{Q:Bool->Shared->Prop}(hk:Cb R s.heap ks a)
  (hR:∀k v (Q':Bool->Shared->Prop),R k v->Q' true s->wpAny (model P w) A (eqIsQuiet f v) Q' E s) (h:Q true s):wpAny (model P w) A (eqIsQuiet (f+1) (.ref a)) Q E s:=by
 have hT:=hk.typeIs
 obtain⟨o,items,n,ho,_,hd,hi⟩:=hk
 unfold eqIsQuiet
 refine ab (iO hT F.slot_tuple_eq.lookup ?_)
 show wpAny _ _ (isInstance (.ref a) (.type "tuple") >>= _) _ _ s
 refine ab (i8 hT isSubtype_tuple_tuple ?_)
 simp only[Bool.not_true,eg,fm]
 refine ab (ff ho hd ?_)
 refine ab ?_
 show wpAny _ _ (forIn items _ _) _ _ s
 rw[← Array.forIn_toList]
 refine nX _ (λrest r s'=>r.1=none/\s'=s/\∃left,Paired R left rest) _ ?_ ?_ _ _ ⟨rfl,rfl,ks,hi⟩
 ·rintro v rest r s' ⟨hr,rfl,left,hl⟩
  cases hl with
  | cons h1 OO=>
   refine ab (hR _ _ _ h1 ?_)
   simp only[Bool.not_true,eg,fm]
   exact ae ⟨rfl,rfl,_,OO⟩
 ·rintro ⟨r1,r2⟩ s' ⟨hr,rfl,_⟩
  simp only at hr
  subst hr
  exact ae h
theorem uf {x:Key}{f:Nat}{Q:Bool->Shared->Prop}(hp:cQ x v=true)(h:Q true s):wpAny (model P w) A (eqIsQuiet f v) Q E s:=by
 rw[eqIsQuiet_byValue _ ((rZ P w).byValue _ _ hp)]
 exact ae h
theorem Co.quiet:∀{d f:Nat}{A:Around}{E:oT}{s:Shared}{k:zD}{v:Value}{Q:Bool->Shared->Prop},d < f->Co d s.heap k v->Q true s->wpAny (model P w) A (eqIsQuiet f v) Q E s
 | 0,f,A,E,s,k,v,Q,_,⟨x,_,hp⟩,h=>uf hp h
 | d+1,0,A,E,s,k,v,Q,hf,x,h=>absurd hf (Nat.not_lt_zero _)
 | d+1,f+1,A,E,s,k,v,Q,hf,x,h=>by
  rcases x with ⟨x,_,hp⟩ | ⟨ns,a,_,ev,t⟩
  ·exact uf hp h
  ·subst ev
   exact Hv t (λk v Q' r h'=>Co.quiet (d:=d) (by omega) r h') h
def cY (P:Program)(w:World):HeapKind P w (List zD) where
 is:=λh ks a=>Cb (Co 2 h) h ks a
 hash:=λks=>(nH w (.tp ks)).1
 draws:=λks=>nD (.tp ks)
 room:=λA=>A.units+3 < cLine
 inj:=λhx hy=>Cb.inj (λx y v=>Co.inj x y v) hx hy
 keeps:=λx ho hd hs=>x.keeps (λk v q=>Co.keeps k v q ho hd hs) ho hd hs
 pyHash:=λhu hk h=>Co.hash (d:=3) hu (.inr ⟨_,_,rfl,rfl,hk⟩) h
 eqBool:=λ{A E s x y a b Q} hu hx hy h=>CV (λx y v=>Co.inj x y v) (show A.units < cLine from kq (Nat.le_add_right _ _) hu) hx hy (λp q u v h1 h2=>Co.eq p q u v (by rw[in1_units];have:A.units+3 < cLine:=hu;omega) h1 h2) P w E Q h
 quiet:=λhk h=>Co.quiet (d:=3) (f:=8) (by decide) (.inr ⟨_,_,rfl,rfl,hk⟩) h
theorem C9 (hu:A.units+9 < cLine):(cY P w).room A.in1:=by
 show A.in1.units+3 < cLine
 rw[in1_units];omega
end
inductive V where
 | Au | bl (b:Bool) | int (i:Int) | str (x:Str) | LM (b:Array UInt8) | S2 (b:UInt64) | ref (a:Addr) | ty (n:String)
 deriving DecidableEq
def RelV:V->Value->Prop
 | .Au,u=>u=Value.none
 | .bl b,u=>u=Value.bool b
 | .int i,u=>∃t,u=Value.int i t
 | .str x,u=>∃t,u=Value.str x t
 | .LM b,u=>∃t,u=Value.bytes b t
 | .S2 b,u=>∃t,u=Value.float b t
 | .ref a,u=>u=Value.ref a
 | .ty n,u=>u=Value.type n
abbrev Vals:List V->List Value->Prop:=Paired RelV
theorem Vals.length {xs:List V}{us:qf}(r:Vals xs us):xs.length=us.length:=iq r
theorem Vals.get:∀{xs:List V}{us:qf}{i:Nat}{x:V},Vals xs us->xs[i]?=some x->∃u,us[i]?=some u/\RelV x u
 | _,_,_,_,.nil,e=>by simp at e
 | _,_,0,_,.cons r _,e=>by simp at e;subst e;exact⟨_,rfl,r⟩
 | _,_,i+1,x,.cons _ t,e=>by
  obtain⟨u,h1,h2⟩:=Vals.get (i:=i) (x:=x) t (by simpa using e)
  exact⟨u,by simpa using h1,h2⟩
theorem Vals.set {x:V}{u:Value}(r:RelV x u):∀{xs:List V}{us:qf}(i:Nat),Vals xs us->Vals (xs.set i x) (us.set i u)
 | _,_,_,.nil=>.nil
 | _,_,0,.cons _ t=>.cons r t
 | _,_,i+1,.cons q t=>.cons q (Vals.set r i t)
theorem Vals.append:∀{xs ys:List V}{us ws:qf},Vals xs us->Vals ys ws->Vals (xs++ys) (us++ws)
 | _,_,_,_,.nil,s=>s
 | _,_,_,_,.cons r t,s=>.cons r (Vals.append t s)
theorem Vals.take:∀{xs:List V}{us:qf}(n:Nat),Vals xs us->Vals (xs.take n) (us.take n)
 | _,_,0,_=>.nil
 | _,_,_+1,.nil=>.nil
 | _,_,n+1,.cons r t=>.cons r (Vals.take n t)
theorem Vals.drop:∀{xs:List V}{us:qf}(n:Nat),Vals xs us->Vals (xs.drop n) (us.drop n)
 | _,_,0,r=>r
 | _,_,_+1,.nil=>.nil
 | _,_,n+1,.cons _ t=>Vals.drop n t
def CS:Option V->Option Value->Prop
 | some v,some u=>RelV v u
 | none,none=>True
 | _,_=>False
def KV {κ:Type}:List (κ×V)->List (κ×Value)->Prop:=Paired λ(p:κ×V) (q:κ×Value)=>p.1=q.1/\RelV p.2 q.2
def kV:Key->V
 | .inl i=>.int i
 | .inr x=>.str x
inductive HO where
 | lst (xs:List V)
 | tup (xs:List V)
 | dK (kvs:List (Key×V)) | dT (kvs:List (List zD×V))
 | set (S:Int->Bool) (n:Nat)
 | ins (C dx:Addr) (fs:List (Str×V))
 | own (x:Addr)
 | xd (fs:List (Str×V))
 | met (f x:Addr)
 | Yq (lo hi:Int)
 | frz (o:Obj) (u:HO)
 | S3 (ps:qv)
 | ext (φ:Heap->Prop)
abbrev Hp:=Addr->Option HO
def upd (H:Hp)(a:Addr)(o:HO):Hp:=λb=>if b=a then some o else H b
variable {H:Hp}
theorem az {o:HO}:upd H a o a=some o:=by unfold upd;rw[a0 rfl]
theorem ao {o:HO}(h:b≠a):upd H a o b=H b:=by unfold upd;rw[ax h]
theorem bN {o u:HO}(h:H a=some o)(h':H b=some u)(d:o≠u):a≠b:=by
 intro e;subst e;rw[h] at h';exact d (be h')
theorem aq {o:HO}(h:H a=some o)(h':H b=none):a≠b:=by
 intro e;subst e;rw[h] at h';cases h'
def EV (K:W.Frag)(a:Addr)(xs:List V):Prop:=∃(o:Obj) (As:qv) (n:Nat),K.lookup a=some o/\o.cls=.type "tuple" /\ o.data=.seq As n/\(As.size<=sizeLine/\o.dict=none)/\Vals xs As.toList
def KB (ns:List zD)(vs:List V):Prop:=∃x b,ns=[.k (.inr x),.k (.inl (if b=true then 1 else 0))]/\vs=[.str x,.bl b]
def NV (K:W.Frag)(H:Hp):Nat->zD->V->Prop
 | 0,n,v=>∃x,n=.k x/\v=kV x
 | d+1,n,v=>(∃x,n=.k x/\v=kV x)\/∃ns a vs,n=.tp ns/\v=.ref a/\(H a=some (.tup vs)\/EV K a vs)/\(Paired (NV K H d) ns vs\/KB ns vs)
def GB (K:W.Frag)(H:Hp)(ks:List zD)(vs:List V):Prop:=Paired (NV K H 2) ks vs\/KB ks vs
abbrev NK (K:PySem.W.Frag)(H:Hp)(b:Addr)(ks:List zD):Prop:=∃vs,H b=some (.tup vs)/\GB K H ks vs
def Cc (K:W.Frag)(H:Hp)(b:Addr)(ks:List zD):Prop:=NK K H b ks\/∃vs,EV K b vs/\GB K H ks vs
theorem NV.keeps {K:W.Frag}{H H':Hp}(ht:∀b ys,H b=some (.tup ys)->H' b=some (.tup ys)):∀(d:Nat) (n:zD) (v:V),NV K H d n v->NV K H' d n v
 | 0,_,_,h=>h
 | d+1,n,v,h=>h.imp id λ⟨ns,a,vs,e,ev,t,q⟩=>⟨ns,a,vs,e,ev,t.imp (λz=>ht _ _ z) id,q.imp (λz=>eQ z λx y=>NV.keeps ht d x y) id⟩
theorem GB.keeps {K:W.Frag}{H H':Hp}{ks:List zD}{vs:List V}(h:GB K H ks vs)(ht:∀b ys,H b=some (.tup ys)->H' b=some (.tup ys)):GB K H' ks vs:=h.imp (λz=>eQ z λx y=>NV.keeps ht 2 x y) id
theorem Cc.keeps {K:W.Frag}{H H':Hp}{b:Addr}{ks:List zD}(c:Cc K H b ks)(ht:∀b ys,H b=some (.tup ys)->H' b=some (.tup ys)):Cc K H' b ks:=c.imp (λ⟨vs,e,k⟩=>⟨vs,ht _ _ e,k.keeps ht⟩) λ⟨vs,e,k⟩=>⟨vs,e,k.keeps ht⟩
def Ta (h:Heap)(a:Addr)(items:qv):Prop:=∃o,h.get? a=some o/\o.cls=.type "tuple" /\ ∃n,o.data=.seq items n/\o.dict=none
theorem Ta.tup {h:Heap}{a:Addr}{items:qv}(x:Ta h a items):IsTup h a items:=let ⟨o,h1,h2,n,h3,_⟩:=x;⟨o,h1,h2,n,h3⟩
section
variable (P:Program)(w:World)(K:W.Frag)
def AF (H:Hp)(h:Heap)(a:Addr):HO->Prop
 | .lst xs=>xs.length<=sizeLine/\∃(As:qf) (n:Nat),Vals xs As/\h.get? a=some { cls:=.type "list",data:=.seq As.toArray n }
 | .tup xs=>xs.length<=sizeLine/\∃As:List Value,Vals xs As/\Ta h a As.toArray
 | .dK kvs=>kvs.length<=sizeLine/\(a == sysModules)=false/\∃vs,KV kvs vs/\h.DictOf (dX P w) a vs
 | .dT kvs=>kvs.length<=sizeLine/\(a == sysModules)=false/\∃xs:List (List zD×Addr×Value),
   Paired (λ(p:List zD×V) (q:List zD×Addr×Value)=>p.1=q.1/\Cc K H q.2.1 p.1/\RelV p.2 q.2.2) kvs xs /\
   ∃o es ep,h.get? a=some o/\o.ExactDict/\o.data=.dict es ep/\es.toList=xs.map (entryOfKey (cY P w))/\(xs.map (·.1)).Nodup/\ep=xs.length
 | .set S n=>h.SetOf (intKind P w) a S n
 | .ins C dx fs=>H dx=some (.own a)/\fs.length<=1000/\dx≠a/\h.get? a=some (W.instObj C dx) /\
   ∃mA,h.Ns1 dx mA/\(∀f,CS (fs.lookup f) (mA f))/\PySem.Within mA (fs.map (·.1))
 | .own _=>∃o,h.get? a=some o
 | .xd fs=>∃mA,h.Ns1 a mA/\∀f,CS (fs.lookup f) (mA f)
 | .Yq lo hi=>∃t u v,h.get? a=some { cls:=.type "range",data:=.fields #[.int lo t,.int hi u,.int 1 v] }
 | .frz o u=>h.get? a=some o/\AF H h a u
 | .S3 ps=>h.get? a=some { cls:=.none,data:=.fields ps }
 | .met f x=>h.get? a=some (W.methodObj (.ref f) (.ref x))
 | .ext φ=>φ h/\(∃o,h.get? a=some o)/\∀h1 h2:Heap,φ h1->(∀o,h1.get? a=some o->h2.get? a=some o)->φ h2
def CY (H:Hp)(h:Heap):Prop:=∀a o,H a=some o->AF P w K H h a o
end
section
variable {P:Program}{w:World}{K:W.Frag}{H H':Hp}{h h':Heap}{a:Addr}{o:HO}
theorem AF.lt (x:AF P w K H h a o):a < h.objs.size:=by
 cases o with
 | lst xs=>obtain⟨_,_,_,_,e⟩:=x;exact av e
 | tup xs=>obtain⟨_,_,_,p⟩:=x;exact p.tup.lt
 | dK kvs=>obtain⟨_,_,_,_,o,_,_,e,_⟩:=x;exact av e
 | dT kvs=>obtain⟨_,_,_,_,o,_,_,e,_⟩:=x;exact av e
 | set S n=>obtain⟨o,_,_,_,e,_⟩:=x;exact av e
 | ins C dx fs=>obtain⟨_,_,_,e,_⟩:=x;exact av e
 | own y=>obtain⟨_,e⟩:=x;exact av e
 | xd fs=>obtain⟨_,⟨_,_,_,e,_⟩,_⟩:=x;exact av e
 | Yq lo hi=>obtain⟨_,_,_,e⟩:=x;exact av e
 | frz ob u=>obtain⟨e,_⟩:=x;exact av e
 | S3 ps=>exact av (show h.get? a=some _ from x)
 | met f y=>exact av (show h.get? a=some _ from x)
 | ext φ=>obtain⟨_,⟨_,e⟩,_⟩:=x;exact av e
theorem Paired.Tb {α β:Type}{F G:α->β->Prop}:∀{l₁:List α}{l₂:List β},Paired F l₁ l₂->(∀a b,F a b->G a b)->Paired G l₁ l₂
 | _,_,.nil,_=>.nil
 | _,_,.cons r t,f=>.cons (f _ _ r) (Paired.Tb t f)
theorem AF.HK (x:AF P w K H h a o)(k:∀b u,(b=a\/H b=some (.own a))->h.get? b=some u->h'.get? b=some u)
  (ho:∀b,H b=some (.own a)->H' b=some (.own a)) (ht:∀b xs,H b=some (.tup xs)->H' b=some (.tup xs)):AF P w K H' h' a o:=by
 induction o with
 | lst xs=>obtain⟨z,As,n,r,e⟩:=x;exact⟨z,As,n,r,k _ _ (.inl rfl) e⟩
 | tup xs=>obtain⟨z,As,r,ob,e,c⟩:=x;exact⟨z,As,r,ob,k _ _ (.inl rfl) e,c⟩
 | dK kvs=>obtain⟨z,y,vs,r,ob,es,ep,e,c⟩:=x;exact⟨z,y,vs,r,ob,es,ep,k _ _ (.inl rfl) e,c⟩
 | dT kvs=>
  obtain⟨z,y,xs,r,ob,es,ep,e,c⟩:=x
  exact⟨z,y,xs,Paired.Tb r λp q z=>⟨z.1,z.2.1.keeps ht,z.2.2⟩,ob,es,ep,k _ _ (.inl rfl) e,c⟩
 | set S n=>obtain⟨ob,es,ep,t,e,c⟩:=x;exact⟨ob,es,ep,t,k _ _ (.inl rfl) e,c⟩
 | ins C dx fs=>
  obtain⟨d,z,ne,e,mA,⟨od,es,ep,e2,c⟩,r⟩:=x
  exact⟨ho _ d,z,ne,k _ _ (.inl rfl) e,mA,⟨od,es,ep,k _ _ (.inr d) e2,c⟩,r⟩
 | own y=>obtain⟨ob,e⟩:=x;exact⟨ob,k _ _ (.inl rfl) e⟩
 | xd fs=>obtain⟨mA,⟨od,es,ep,e,c⟩,r⟩:=x;exact⟨mA,⟨od,es,ep,k _ _ (.inl rfl) e,c⟩,r⟩
 | Yq lo hi=>obtain⟨t,u,v,e⟩:=x;exact⟨t,u,v,k _ _ (.inl rfl) e⟩
 | frz ob u ih=>obtain⟨e,q⟩:=x;exact⟨k _ _ (.inl rfl) e,ih q⟩
 | S3 ps=>
  have e:h.get? a=some { cls:=.none,data:=.fields ps }:=x
  show h'.get? a=some { cls:=.none,data:=.fields ps }
  exact k a _ (.inl rfl) e
 | met f y=>
  have e:h.get? a=some (W.methodObj (.ref f) (.ref y)):=x
  show h'.get? a=some (W.methodObj (.ref f) (.ref y))
  exact k a _ (.inl rfl) e
 | ext φ=>obtain⟨p,⟨o,e⟩,st⟩:=x;exact⟨st _ _ p λo q=>k _ _ (.inl rfl) q,⟨o,k _ _ (.inl rfl) e⟩,st⟩
theorem CY.lt (x:CY P w K H h)(e:H a=some o):a < h.objs.size:=(x a o e).lt
theorem CY.fresh (x:CY P w K H h)(e:h.objs.size<=a):H a=none:=by
 cases q:H a with
 | none=>rfl
 | some u=>exact absurd (bi (x.lt q) e) (fz _)
theorem CY.kept (x:CY P w K H h)(k:∀b u,h.get? b=some u->h'.get? b=some u):CY P w K H h':=λa o e=>
 (x a o e).HK (λb u _ q=>k b u q) (λ_ q=>q) λ_ _ q=>q
theorem CY.laid (x:CY P w K H h)(k:∀b u,h.get? b=some u->h'.get? b=some u)(hp:h.objs.size<=a)(new:AF P w K (upd H a o) h' a o):CY P w K (upd H a o) h':=λb u e=>by
 have hn:=x.fresh hp
 by_cases hb:b=a
 ·subst hb;rw[az] at e;cases e;exact new
 ·rw[ao hb] at e
  exact(x b u e).HK (λc v _ q=>k c v q) (λc q=>by rw[ao (aq q hn)];exact q) λc xs q=>by rw[ao (aq q hn)];exact q
end
def Rd (H:Hp)(a:Addr)(u:HO):Prop:=H a=some u\/∃o,H a=some (.frz o u)
variable {P:Program}{K:W.Frag}
theorem Rd.ok {u:HO}(r:Rd H a u)(x:CY P w K H h):AF P w K H h a u:=by
 rcases r with r | ⟨o,r⟩
 ·exact x a u r
 ·obtain⟨_,q⟩:=x a _ r
  exact q
def VN:Option HO->Prop
 | some (.lst _)=>True
 | some (.dK _)=>True
 | some (.dT _)=>True
 | some (.set _ _)=>True
 | some (.ins _ _ _)=>True
 | some (.ext _)=>True
 | _=>False
section
variable {P:Program}{w:World}{K:W.Frag}{H:Hp}{h h':Heap}{x e:Addr}{o':HO}
theorem CY.write (ok:CY P w K H h)(mu:VN (H x))(he:e=x\/H e=some (.own x))(k:∀b u,b≠e->h.get? b=some u->h'.get? b=some u)(QP:∃u,h'.get? e=some u)
  (new:AF P w K (upd H x o') h' x o'):CY P w K (upd H x o') h':=λb u q=>by
 have VO:∀c y,H c=some (.own y)->c≠x:=λc y r z=>by subst z;rw[r] at mu;exact mu
 have Yr:∀c xs,H c=some (.tup xs)->c≠x:=λc xs r z=>by subst z;rw[r] at mu;exact mu
 by_cases hb:b=x
 ·subst hb;rw[az] at q;cases q;exact new
 ·rw[ao hb] at q
  by_cases To:b=e
  ·have q':H b=some (.own x):=by
    rcases he with z | z
    ·exact absurd (To.trans z) hb
    ·rw[To];exact z
   rw[q] at q';cases q'
   obtain⟨v,hv⟩:=QP
   exact⟨v,by rw[To];exact hv⟩
  ·refine(ok b u q).HK (λc v hc r=>k c v ?_ r) (λc r=>by rw[ao (VO c b r)];exact r) λc xs r=>by rw[ao (Yr c xs r)];exact r
   rcases hc with rfl | hc
   ·exact To
   ·rintro rfl
    rcases he with z | z
    ·exact VO c b hc z
    ·rw[hc] at z;cases z;exact hb rfl
end
structure Un (fs ex:qr)(H H':Hp)(h h':Heap):Prop where
 keep:∀b o,h.get? b=some o->H b=none->b∉fs->b∉ex->h'.get? b=some o
 slot:∀b o,h.get? b=some o->H b=none->b∈fs->b∉ex->∃sl,h'.get? b=some { o with slots:=sl }
 free:∀b o,h.get? b=some o->H b=none->b∉ex->H' b=none
 there:∀b o,h.get? b=some o->b∉ex->∃o',h'.get? b=some o'
 HL:∀b xs,H b=some (.tup xs)->H' b=some (.tup xs)
 GG:∀b o u,H b=some (.frz o u)->H' b=some (.frz o u)
 HM:∀b ps,H b=some (.S3 ps)->∃more,H' b=some (.S3 (ps++more))
section
variable {fs fs' ex ex':qr}{H H1 H2:Hp}{h h1 h2 h':Heap}{a x e:Addr}{o:HO}
theorem Un.any (u:Un fs ex H H1 h h1){ob:Obj}(q:h.get? b=some ob)(n:H b=none)(hx:b∉ex):∃sl,h1.get? b=some { ob with slots:=sl }:=by
 by_cases hb:b∈fs
 ·exact u.slot b ob q n hb hx
 ·exact⟨ob.slots,u.keep b ob q n hb hx⟩
theorem Un.kept (k:∀b u,h.get? b=some u->h'.get? b=some u):Un fs ex H H h h':=
 ⟨λb ob q _ _ _=>k b ob q,λb ob q _ _ _=>⟨ob.slots,k b ob q⟩,λ_ _ _ n _=>n,λb ob q _=>⟨ob,k b ob q⟩,λ_ _ q=>q,λ_ _ _ q=>q,λ_ ps q=>⟨#[],by rw[q];simp⟩⟩
theorem Un.refl:Un fs ex H H h h:=Un.kept λ_ _ q=>q
theorem Un.laid (k:∀b u,h.get? b=some u->h'.get? b=some u)(hp:h.objs.size<=a)(hn:H a=none):Un fs ex H (upd H a o) h h' where
 keep:=λb u q _ _ _=>k b u q
 slot:=λb u q _ _ _=>⟨u.slots,k b u q⟩
 free:=λb u q n _=>by rw[ao (bg (bi (av q) hp))];exact n
 there:=λb u q _=>⟨u,k b u q⟩
 HL:=λb xs q=>by rw[ao (aq q hn)];exact q
 GG:=λb u xs q=>by rw[ao (aq q hn)];exact q
 HM:=λb ps q=>⟨#[],by rw[ao (aq q hn),q];simp⟩
theorem Un.write (mu:VN (H x))(he:e=x\/H e=some (.own x))(k:∀b u,b≠e->h.get? b=some u->h'.get? b=some u)(QP:∃u,h'.get? e=some u):Un fs ex H (upd H x o) h h':=by
 have hx:∀b,H b=none->b≠x:=λb n z=>by subst z;rw[n] at mu;exact mu
 have hb:∀b,H b=none->b≠e:=λb n z=>by
  subst z
  rcases he with r | r
  ·exact hx b n r
  ·rw[n] at r;cases r
 have hm:∀b u,H b=some u->¬ VN (some u)->b≠x:=λb u q nm z=>by subst z;rw[q] at mu;exact nm mu
 refine⟨λb u q n _ _=>k b u (hb b n) q,λb u q n _ _=>⟨u.slots,k b u (hb b n) q⟩,λb u q n _=>by rw[ao (hx b n)];exact n,λb u q _=>?_,
  λb xs q=>by rw[ao (hm b _ q λz=>z)];exact q,λb u xs q=>by rw[ao (hm b _ q λz=>z)];exact q,λb ps q=>⟨#[],by rw[ao (hm b _ q λz=>z),q];simp⟩⟩
 by_cases To:b=e
 ·subst To;exact QP
 ·exact⟨u,k b u To q⟩
end
noncomputable def Xx (h:Heap)(H:Hp):List Addr:=(List.range h.objs.size).filter λa=>(H a).isSome
noncomputable def nY (h:Heap)(H:Hp):Heap:=W.hideAll h (Xx h H)
theorem Fd (h:Heap)(H:Hp):(nY h H).objs.size=h.objs.size:=W.hideAll_size _ _
theorem Hw {o:Obj}(e:h.get? b=some o)(n:H b=none):(nY h H).get? b=some o:=
 W.hideAll_get _ e λhm=>by
  have q:(H b).isSome=true:=(ke.mp hm).2
  rw[n] at q;simp at q
theorem KC {o:Obj}(e:(nY h H).get? b=some o):h.get? b=some o/\H b=none:=by
 have e':h.get? b=some o:=W.of_hideAll (Xx h H) e
 refine⟨e',?_⟩
 cases q:H b with
 | none=>rfl
 | some x=>
  have hm:b∈Xx h H:=ke.mpr ⟨b0.mpr (av e'),by simp[q]⟩
  have z:(nY h H).get? b=none:=W.hideAll_none (Xx h H) hm
  rw[z] at e;cases e
noncomputable def KD (g h:Heap)(L:Addr):List (Addr×Obj):=(List.range h.objs.size).filterMap λa=>if a=L\/(g.get? a).isSome=true then none else (h.get? a).map λo=>(a,o)
noncomputable def rest (g h:Heap)(L d:Addr):List (Addr×Obj):=(KD g h L).filter λp=>decide (p.1≠d)
structure Mod (K:W.Frag)(mg:Str->Option Value)(base:Heap):Prop where
 ED:K.In base
 glob:base.Ns mainGlobals mg
 blt:∃mb,base.Ns builtinsNs mb/\∀x:Str,x ≠ "__name__" -> mb x=bootBuiltins x
 nolimit:base.NoLimit
structure Cx where
 prog:Program
 w:World
 K:W.Frag
 mg:Str->Option Value
 base:Heap
 A:Around
 N:List Str
 s₀:Shared
 H₀:Hp
 env:Env
 outer:List Env
 stack:List Env
 ex:List Addr
 fn:Str->Bool
 calm:Bool
 pn:List (Addr×Obj)
 xe:Value->Shared->Prop
noncomputable def LY (l:List Env):List Addr:=l.filterMap (·.frame)
abbrev Cx.fs (X:Cx):List Addr:=LY X.outer
def LZ (sc:Scope)(x:Str):Prop:=sc.names.lookup x=some .local\/sc.names.lookup x=some .cell\/sc.names.lookup x=some .free
def Loc (sc:Scope)(x:Str):Prop:=sc.names.lookup x=some .local\/sc.names.lookup x=some .cell
def Look (env:Env)(h:Heap)(m:Str->Option Value)(x:Str)(u:Value):Prop:=
 (env.kindOf x=some .local/\m x=some u)\/((env.kindOf x=some .cell\/env.kindOf x=some .free)/\∃c,env.cells.lookup x=some c/\h.IsCell c (some u))
structure Cx.Ok (X:Cx):Prop where
 mod:Mod X.K X.mg X.base
 kind:X.env.scope.kind=.function
 glob:X.env.globals=mainGlobals
 blt:X.env.builtins=builtinsNs
 above:X.s₀.heap.objs.size<=X.env.locals
 inj:∀x y c,X.env.cells.lookup x=some c->X.env.cells.lookup y=some c->x=y
 has:∀x,(X.env.kindOf x=some .cell\/X.env.kindOf x=some .free)->∃c,X.env.cells.lookup x=some c
 VP:∀x c,X.fn x=true->X.env.cells.lookup x=some c->X.s₀.heap.objs.size<=c
 hd:X.calm=true->X.A.handled=none
 frames:X.A.frames=some X.stack
 Xy:X.stack=X.outer\/(X.stack=X.env::X.outer/\X.env.frame=some X.env.locals)
 exf:∀b∈X.ex,b≠X.env.locals/\∀x c,X.env.cells.lookup x=some c->c≠b
 bs:∀b o,X.base.get? b=some o->X.s₀.heap.get? b=some o/\X.H₀ b=none
 L1:X.base.objs.size<=X.s₀.heap.objs.size
 KU:∀b o,X.base.get? b=some o->b∉X.ex
 OP:∀b∈X.ex,b∉X.fs
 EW:X.s₀.heap.FunFrames X.base X.outer
 Ts:∀b∈X.fs,X.H₀ b=none
structure Inv (X:Cx)(zC:p9)(σ:List (Option V))(H:Hp)(s:Shared):Prop where
 ok:X.Ok
 os:s.os=X.s₀.os
 bare:AllBare s.gens
 base:Un X.fs X.ex X.H₀ H X.s₀.heap s.heap
 loc:∃m,s.heap.Ns X.env.locals m/\∀(i:Nat) (x:Str) (v:V),X.N[i]?=some x->σ[i]?=some (some v)->LZ X.env.scope x->∃u,RelV v u/\Look X.env s.heap m x u
 cell:∀x c,X.env.cells.lookup x=some c->∃v,s.heap.IsCell c v
 free:H X.env.locals=none
 CI:∀x c,X.env.cells.lookup x=some c->H c=none
 pin:∀p∈X.pn++zC,s.heap.get? p.1=some p.2/\H p.1=none/\p.1≠X.env.locals/\p.1∉X.fs/\∀v,p.2.data≠.cell v
 AK:CY X.prog X.w X.K H s.heap
 len:σ.length=X.N.length
variable {x:Str}
section
variable {X:Cx}{zC:p9}{σ:List (Option V)}{H H':Hp}{s:Shared}{h':Heap}
theorem Cx.Ok.Ys (ok:X.Ok){o:Obj}(e:X.base.get? b=some o):b∉X.fs:=λhb=>by
 have:=(ok.EW.mem hb).1
 rw[e] at this;cases this
theorem Inv.bs (I:Inv X zC σ H s):∀b o,X.base.get? b=some o->s.heap.get? b=some o/\H b=none:=λb o e=>
 ⟨I.base.keep b o (I.ok.bs b o e).1 (I.ok.bs b o e).2 (I.ok.Ys e) (I.ok.KU b o e),I.base.free b o (I.ok.bs b o e).1 (I.ok.bs b o e).2 (I.ok.KU b o e)⟩
theorem Inv.bk (I:Inv X zC σ H s):∀b o,X.base.get? b=some o->s.heap.get? b=some o:=λb o e=>(I.bs b o e).1
theorem Inv.mod (I:Inv X zC σ H s):Mod X.K X.mg X.base:=I.ok.mod
theorem Inv.B8 (I:Inv X zC σ H s):X.K.In s.heap:=I.ok.mod.ED.keeps I.bk
theorem Inv.nolimit (I:Inv X zC σ H s):s.heap.NoLimit:=I.ok.mod.nolimit.keeps I.bk
theorem Inv.lt (I:Inv X zC σ H s):X.env.locals < s.heap.objs.size:=let ⟨_,hn,_⟩:=I.loc;hn.lt
theorem Inv.sz (I:Inv X zC σ H s):X.s₀.heap.objs.size<=s.heap.objs.size:=d5 I.ok.above (gI I.lt)
theorem Inv.Yt (I:Inv X zC σ H s)(h:s.heap.objs.size<=a):a∉X.fs:=λhb=>by
 obtain⟨_,o,ho,_⟩:=I.ok.EW.mem hb
 exact absurd (bi (av ho) (d5 I.sz h)) (fz _)
theorem Inv.Tx (I:Inv X zC σ H s):∀x c,X.env.cells.lookup x=some c->c≠X.env.locals:=λx c e z=>by
 obtain⟨v,o,ho,hd⟩:=I.cell x c e
 obtain⟨m,⟨o',es,ep,LJ,S1,_⟩,_⟩:=I.loc
 rw[z,LJ] at ho;cases ho;rw[S1] at hd;cases hd
theorem Inv.EW (I:Inv X zC σ H s):s.heap.FunFrames X.base X.outer:=by
 have all:∀(l:List Env),(∀b∈LY l,b∈X.fs)->X.s₀.heap.FunFrames X.base l->s.heap.FunFrames X.base l:=by
  intro l
  induction l with
  | nil=>intro _ _;trivial
  | cons env r ih=>
   intro hs hl
   obtain⟨hk,⟨L,o,hf,hn,ho,hd⟩,hr⟩:=hl
   have hL:L∈X.fs:=hs L (by unfold LY;rw[l9,hf];exact am)
   obtain⟨sl,e⟩:=I.base.slot L o ho (I.ok.Ts L hL) hL λz=>I.ok.OP L z hL
   exact⟨hk,⟨L,_,hf,hn,e,hd⟩,ih (λb hb=>hs b (by unfold LY;rw[l9,hf];exact af _ hb)) hr⟩
 exact all X.outer (λ_ hb=>hb) I.ok.EW
theorem Inv.stack (I:Inv X zC σ H s):s.heap.FunFrames X.base X.stack:=by
 rcases I.ok.Xy with e | ⟨e,hf⟩
 ·rw[e];exact I.EW
 ·rw[e]
  obtain⟨m,hn,_⟩:=I.loc
  refine .cons (by rw[I.ok.kind];decide) hf hn ?_ I.EW
  exact Heap.get?_none_of_le (d5 I.ok.L1 I.ok.above)
theorem Inv.EE (I:Inv X zC σ H s):∀b∈LY X.stack,b∈X.env.locals::X.fs:=λb hb=>by
 rcases I.ok.Xy with e | ⟨e,hf⟩
 ·rw[e] at hb;exact af _ hb
 ·rw[e] at hb
  unfold LY at hb
  rw[l9,hf] at hb
  exact hb
theorem Inv.GH (I:Inv X zC σ H s):∀b∈LY X.stack,H b=none:=λb hb=>by
 rcases bm.mp (I.EE b hb) with e | hb
 ·rw[e];exact I.free
 ·obtain⟨_,o,ho,_⟩:=I.ok.EW.mem hb
  exact I.base.free b o ho (I.ok.Ts b hb) λz=>I.ok.OP b z hb
theorem Inv.step {g':Array GenState}{t':Nat}{d':Drawn}{ch:qr}(I:Inv X zC σ H s)
  (N3:∀b∈ch,(b∈X.ex\/X.s₀.heap.objs.size<=b)/\b≠X.env.locals/\(∀x c,X.env.cells.lookup x=some c->c≠b)/\∀p∈X.pn++zC,p.1≠b)
  (keep:∀b o,b≠X.env.locals->b∉X.fs->b∉ch->s.heap.get? b=some o->H b=none->h'.get? b=some o)
  (slot:∀b o,b≠X.env.locals->b∈X.fs->b∉ch->s.heap.get? b=some o->H b=none->∃sl,h'.get? b=some { o with slots:=sl }) (free:∀b o,b∉ch->s.heap.get? b=some o->H b=none->H' b=none)
  (there:∀b o,b∉ch->s.heap.get? b=some o->∃o',h'.get? b=some o')
  (HL:∀b xs,H b=some (.tup xs)->H' b=some (.tup xs)) (GG:∀b o u,H b=some (.frz o u)->H' b=some (.frz o u)) (HM:∀b ps,H b=some (.S3 ps)->∃more,H' b=some (.S3 (ps++more)))
  (ns:∀m,s.heap.Ns X.env.locals m->h'.Ns X.env.locals m) (AK:CY X.prog X.w X.K H' h') (hg:AllBare g'):
  Inv X zC σ H' { s with heap:=h',gens:=g',drawn:=d',toks:=t' }:=by
 have neL:∀b o,X.s₀.heap.get? b=some o->b≠X.env.locals:=λb o e=>bg (bi (av e) I.ok.above)
 have Xz:∀b o,X.s₀.heap.get? b=some o->b∉X.ex->b∉ch:=λb o e hx hb=>by
  rcases(N3 b hb).1 with z | z
  ·exact hx z
  ·exact absurd (bi (av e) z) (fz _)
 have cellK:∀x c,X.env.cells.lookup x=some c->∀v,s.heap.IsCell c v->h'.IsCell c v:=by
  rintro x c e v ⟨o,ho,hd⟩
  have L3:c∉ch:=λz=>(N3 c z).2.2.1 x c e rfl
  by_cases hc:c∈X.fs
  ·obtain⟨sl,q⟩:=slot c o (I.Tx x c e) hc L3 ho (I.CI x c e)
   exact⟨_,q,hd⟩
  ·exact⟨o,keep c o (I.Tx x c e) hc L3 ho (I.CI x c e),hd⟩
 refine⟨I.ok,I.os,hg,⟨λb o e n hb hx=>?_,λb o e n hb hx=>?_,λb o e n hx=>?_,λb o e hx=>?_,λb xs e=>HL b xs (I.base.HL b xs e),λb o xs e=>GG b o xs (I.base.GG b o xs e),λb ps e=>?_⟩,?_,λx c e=>?_,?_,λx c e=>?_,λp hp=>?_,AK,I.len⟩
 ·exact keep b o (neL b o e) hb (Xz b o e hx) (I.base.keep b o e n hb hx) (I.base.free b o e n hx)
 ·obtain⟨sl,e1⟩:=I.base.slot b o e n hb hx
  obtain⟨sl',e2⟩:=slot b _ (neL b o e) hb (Xz b o e hx) e1 (I.base.free b o e n hx)
  exact⟨sl',e2⟩
 ·obtain⟨o',e1⟩:=I.base.there b o e hx
  exact free b o' (Xz b o e hx) e1 (I.base.free b o e n hx)
 ·obtain⟨o',e1⟩:=I.base.there b o e hx
  exact there b o' (Xz b o e hx) e1
 ·obtain⟨m1,e1⟩:=I.base.HM b ps e
  obtain⟨m2,e2⟩:=HM b _ e1
  exact⟨m1++m2,by rw[e2,Array.append_assoc]⟩
 ·obtain⟨m,hn,hl⟩:=I.loc
  refine⟨m,ns m hn,λi x v e1 e2 e3=>?_⟩
  obtain⟨u,r,l⟩:=hl i x v e1 e2 e3
  refine⟨u,r,?_⟩
  rcases l with l | ⟨k,c,e,z⟩
  ·exact .inl l
  ·exact .inr ⟨k,c,e,cellK x c e _ z⟩
 ·obtain⟨v,z⟩:=I.cell x c e
  exact⟨v,cellK x c e v z⟩
 ·obtain⟨m,⟨o,_,_,ho,_⟩,_⟩:=I.loc
  exact free _ o (λz=>(N3 _ z).2.1 rfl) ho I.free
 ·obtain⟨v,o,ho,hd⟩:=I.cell x c e
  exact free c o (λz=>(N3 c z).2.2.1 x c e rfl) ho (I.CI x c e)
 ·obtain⟨e,n,ne,nf,d⟩:=I.pin p hp
  have L3:p.1∉ch:=λz=>(N3 p.1 z).2.2.2 p hp rfl
  exact⟨keep p.1 p.2 ne nf L3 e n,free p.1 p.2 L3 e n,ne,nf,d⟩
theorem Inv.un {t':Nat}(I:Inv X zC σ H s)(u:Un X.fs [] H H' s.heap h')(AK:CY X.prog X.w X.K H' h'):Inv X zC σ H' { s with heap:=h',toks:=t' }:=by
 obtain⟨m,⟨o,es,ep,ho,r⟩,_⟩:=id I.loc
 obtain⟨sl,hL⟩:=u.any ho I.free (by simp)
 exact I.step (g':=s.gens) (d':=s.drawn) (ch:=[]) (λ_ z=>nomatch z) (λb o _ hb _ e n=>u.keep b o e n hb (by simp)) (λb o _ hb _ e n=>u.slot b o e n hb (by simp)) (λb o _ e n=>u.free b o e n (by simp)) (λb o _ e=>u.there b o e (by simp)) u.HL u.GG u.HM (λm' hm=>by
  obtain⟨o',Yu,Yv,LJ,r'⟩:=hm
  rw[ho] at LJ;cases LJ
  exact⟨_,Yu,Yv,hL,r'⟩) AK I.bare
theorem Inv.call {g':Array GenState}{t':Nat}{d':Drawn}{ch:qr}(I:Inv X zC σ H s)(u:Un (LY X.stack) ch H H' s.heap h')(AK:CY X.prog X.w X.K H' h')(hg:AllBare g')
  (N3:∀b∈ch,(b∈X.ex\/X.s₀.heap.objs.size<=b)/\b≠X.env.locals/\(∀x c,X.env.cells.lookup x=some c->c≠b)/\∀p∈X.pn++zC,p.1≠b):
  Inv X zC σ H' { s with heap:=h',gens:=g',drawn:=d',toks:=t' }:=by
 obtain⟨m,⟨o,es,ep,ho,r⟩,_⟩:=id I.loc
 obtain⟨sl,hL⟩:=u.any ho I.free λz=>(N3 _ z).2.1 rfl
 exact I.step (ch:=ch) N3 (λb o hL hb hc e n=>u.keep b o e n (λz=>(bm.mp (I.EE b z)).elim hL hb) hc) (λb o _ _ hc e n=>u.any e n hc) (λb o hc e n=>u.free b o e n hc) (λb o hc e=>u.there b o e hc) u.HL u.GG u.HM (λm' hm=>by
  obtain⟨o',Yu,Yv,LJ,r'⟩:=hm
  rw[ho] at LJ;cases LJ
  exact⟨_,Yu,Yv,hL,r'⟩) AK hg
theorem Inv.turned {t':Nat}{it:Addr}(I:Inv X zC σ H s)(k:∀b o,b≠it->s.heap.get? b=some o->h'.get? b=some o)(hn:H it=none)(hL:it≠X.env.locals)
  (h1:it∈X.ex\/X.s₀.heap.objs.size<=it) (h2:∀x c,X.env.cells.lookup x=some c->c≠it) (h3:∀p∈X.pn++zC,p.1≠it):Inv X zC σ H { s with heap:=h',toks:=t' }:=by
 have nit:∀b u,H b=some u->b≠it:=λb u e z=>by rw[z,hn] at e;cases e
 refine I.step (g':=s.gens) (d':=s.drawn) (ch:=[it]) (λb hb=>?_) (λb o _ _ hc e _=>k b o (λz=>hc (by simp[z])) e) (λb o _ _ hc e _=>⟨o.slots,k b o (λz=>hc (by simp[z])) e⟩) (λ_ _ _ _ n=>n)
  (λb o hc e=>⟨o,k b o (λz=>hc (by simp[z])) e⟩) (λ_ _ e=>e) (λ_ _ _ e=>e) (λb ps e=>⟨#[],by rw[e];simp⟩) (λm hm=>?_) (λb u e=>?_) I.bare
 ·have e:b=it:=by simpa using hb
  subst e
  exact⟨h1,hL,h2,h3⟩
 ·obtain⟨o,es,ep,ho,r⟩:=hm
  exact⟨o,es,ep,k _ o (fT hL) ho,r⟩
 ·refine(I.AK b u e).HK (λc v hc q=>k c v ?_ q) (λ_ q=>q) λ_ _ q=>q
  rcases hc with z | z
  ·rw[z];exact nit b u e
  ·exact nit c _ z
theorem Inv.tok (I:Inv X zC σ H s)(t:Nat):Inv X zC σ H { s with toks:=t }:=I.un (h':=s.heap) (t':=t) Un.refl I.AK
theorem Inv.kept {t':Nat}(I:Inv X zC σ H s)(k:∀b u,s.heap.get? b=some u->h'.get? b=some u):Inv X zC σ H { s with heap:=h',toks:=t' }:=I.un (Un.kept k) (I.AK.kept k)
theorem Inv.laid {a:Addr}{o:HO}{t':Nat}(I:Inv X zC σ H s)(k:∀b u,s.heap.get? b=some u->h'.get? b=some u)(hp:s.heap.objs.size<=a)(new:AF X.prog X.w X.K (upd H a o) h' a o):
  Inv X zC σ (upd H a o) { s with heap:=h',toks:=t' }:=I.un (Un.laid k hp (I.AK.fresh hp)) (I.AK.laid k hp new)
theorem Inv.write {x e:Addr}{o:HO}{t':Nat}(I:Inv X zC σ H s)(mu:VN (H x))(he:e=x\/H e=some (.own x))(k:∀b u,b≠e->s.heap.get? b=some u->h'.get? b=some u)(QP:∃u,h'.get? e=some u)
  (new:AF X.prog X.w X.K (upd H x o) h' x o):Inv X zC σ (upd H x o) { s with heap:=h',toks:=t' }:=I.un (Un.write mu he k QP) (I.AK.write mu he k QP new)
theorem Inv.weak {σ':List (Option V)}(I:Inv X zC σ H s)(hl:σ'.length=σ.length)(w:∀(i:Nat) v,σ'[i]?=some (some v)->σ[i]?=some (some v)):Inv X zC σ' H s:=
 ⟨I.ok,I.os,I.bare,I.base,let ⟨m,hn,OO⟩:=I.loc;⟨m,hn,λi x v e1 e2 e3=>OO i x v e1 (w i v e2) e3⟩,I.cell,I.free,I.CI,I.pin,I.AK,hl.trans I.len⟩
theorem Inv.Kb {QU:p9}(I:Inv X zC σ H s)(h:∀p∈QU,s.heap.get? p.1=some p.2/\H p.1=none/\p.1≠X.env.locals/\p.1∉X.fs/\∀v,p.2.data≠.cell v):Inv X QU σ H s:=
 ⟨I.ok,I.os,I.bare,I.base,I.loc,I.cell,I.free,I.CI,λp hp=>(bq.mp hp).elim (λz=>I.pin p (bn _ z)) (h p),I.AK,I.len⟩
theorem yx {N:qo}(hN:N.Nodup){i j:Nat}(a:N[i]?=some x)(b:N[j]?=some x):i=j:=by
 obtain⟨h1,e1⟩:=ag.mp a
 obtain⟨h2,e2⟩:=ag.mp b
 exact(List.getElem_inj hN).mp (e1.trans e2.symm)
theorem Fe {M:Model}{i:Nat}{v:V}(I:Inv X zC σ H s)(hN:X.N.Nodup)(hi:X.N[i]?=some x)(hx:Loc X.env.scope x)(r:RelV v u)
  (h:∀s',Inv X zC (σ.set i (some v)) H s'->(∃a,Heap.SameBut a s.heap s'.heap/\(a=X.env.locals\/X.env.cells.lookup x=some a))->Q () s') (hf:X.fn x=true\/X.env.scope.names.lookup x=some .local:=by first | exact .inl rfl | exact .inr rfl | assumption):wpAny M A (storeName X.env x u) Q E s:=by
 obtain⟨m,hn,hl⟩:=id I.loc
 have Yw:(X.env.scope.kind == .class||(X.env.scope.kind == .module&&X.env.locals != X.env.globals))=false:=by rw[I.ok.kind];rfl
 have hiσ:i < σ.length:=by rw[I.len];exact(ag.mp hi).1
 have Tx:=I.Tx
 have tracked:∀{a:Addr}{h':Heap},(∃o,s.heap.get? a=some o/\H a=none)->Heap.SameBut a s.heap h'->CY X.prog X.w X.K H h':=λ{a h'} ha hs b ob e=>by
  obtain⟨_,_,QY⟩:=ha
  refine(I.AK b ob e).HK (λc w' hc q=>(hs.2 c ?_).trans q) (λ_ q=>q) λ_ _ q=>q
  rintro rfl
  rcases hc with rfl | hc
  ·rw[QY] at e;cases e
  ·rw[QY] at hc;cases hc
 rcases hx with hk | hk
 ·refine wpAny_storeName_local hk hn (λh' KW hs=>?_) Yw
  obtain⟨oL,_,_,hoL,_⟩:=id hn
  refine h _ ⟨I.ok,I.os,I.bare,⟨λb o e n hb hx=>?_,λb o e n hb hx=>?_,I.base.free,λb o e hx=>?_,I.base.HL,I.base.GG,I.base.HM⟩,⟨_,KW,λj y v' e1 e2 e3=>?_⟩,λy c e=>?_,I.free,I.CI,λp hp=>?_,tracked ⟨oL,hoL,I.free⟩ hs,by simpa using I.len⟩ ⟨_,hs,.inl rfl⟩
  ·exact(hs.2 b (bg (bi (av e) I.ok.above))).trans (I.base.keep b o e n hb hx)
  ·obtain⟨sl,e1⟩:=I.base.slot b o e n hb hx
   exact⟨sl,(hs.2 b (bg (bi (av e) I.ok.above))).trans e1⟩
  ·obtain⟨o',e1⟩:=I.base.there b o e hx
   exact⟨o',(hs.2 b (bg (bi (av e) I.ok.above))).trans e1⟩
  ·by_cases hj:j=i
   ·subst hj
    rw[hi] at e1;cases e1
    rw[d6 hiσ] at e2
    cases e2
    exact⟨u,r,.inl ⟨hk,by simp⟩⟩
   ·rw[bo (fT hj)] at e2
    obtain⟨u',r',q⟩:=hl j y v' e1 e2 e3
    refine⟨u',r',?_⟩
    rcases q with ⟨k,e⟩ | ⟨k,c,e,z⟩
    ·refine .inl ⟨k,?_⟩
     have:y≠x:=λe=>hj (yx hN e1 (e▸hi))
     simp[this,e]
    ·exact .inr ⟨k,c,e,z.sameBut hs (Tx y c e)⟩
  ·obtain⟨w',z⟩:=I.cell y c e
   exact⟨w',z.sameBut hs (Tx y c e)⟩
  ·obtain⟨e,n,ne,nf,d⟩:=I.pin p hp
   exact⟨(hs.2 p.1 ne).trans e,n,ne,nf,d⟩
 ·have Yx:X.fn x=true:=by
   rcases hf with z | z
   ·exact z
   ·rw[z] at hk;cases hk
  obtain⟨c,hc⟩:=I.ok.has x (.inl hk)
  obtain⟨w',z⟩:=I.cell x c hc
  refine wpAny_storeName_cell I.ok.kind hk hc z (λh' Vk hs=>?_)
  obtain⟨oc,hoc,Yy⟩:=id z
  refine h { s with heap:=h' } ⟨I.ok,I.os,I.bare,⟨λb o e n hb hx=>?_,λb o e n hb hx=>?_,I.base.free,λb o e hx=>?_,I.base.HL,I.base.GG,I.base.HM⟩,⟨m,hn.sameBut hs (fT (Tx x c hc)),λj y v' e1 e2 e3=>?_⟩,λy c' e=>?_,I.free,I.CI,λp hp=>?_,tracked ⟨oc,hoc,I.CI x c hc⟩ hs,by simpa using I.len⟩ ⟨c,hs,.inr hc⟩
  ·exact(hs.2 b (bg (bi (av e) (I.ok.VP x c Yx hc)))).trans (I.base.keep b o e n hb hx)
  ·obtain⟨sl,e1⟩:=I.base.slot b o e n hb hx
   exact⟨sl,(hs.2 b (bg (bi (av e) (I.ok.VP x c Yx hc)))).trans e1⟩
  ·obtain⟨o',e1⟩:=I.base.there b o e hx
   exact⟨o',(hs.2 b (bg (bi (av e) (I.ok.VP x c Yx hc)))).trans e1⟩
  ·by_cases hj:j=i
   ·subst hj
    rw[hi] at e1;cases e1
    rw[d6 hiσ] at e2
    cases e2
    exact⟨u,r,.inr ⟨.inl hk,c,hc,Vk⟩⟩
   ·rw[bo (fT hj)] at e2
    obtain⟨u',r',q⟩:=hl j y v' e1 e2 e3
    refine⟨u',r',?_⟩
    rcases q with q | ⟨k,c',e,z'⟩
    ·exact .inl q
    ·refine .inr ⟨k,c',e,z'.sameBut hs ?_⟩
     rintro rfl
     exact hj (yx hN e1 (I.ok.inj _ _ _ e hc▸hi))
  ·by_cases Vl:c'=c
   ·subst Vl;exact⟨_,Vk⟩
   ·obtain⟨w2,z2⟩:=I.cell y c' e
    exact⟨w2,z2.sameBut hs Vl⟩
  ·obtain⟨e,n,ne,nf,d⟩:=I.pin p hp
   refine⟨(hs.2 p.1 ?_).trans e,n,ne,nf,d⟩
   intro q
   rw[q,hoc] at e
   have q':oc=p.2:=be e
   exact d w' (by rw[← q'];exact Yy)
theorem yz {M:Model}{i:Nat}{v:V}(I:Inv X zC σ H s)(hN:X.N.Nodup)(hi:X.N[i]?=some x)(hx:Loc X.env.scope x)(r:RelV v u)
  (h:∀s',Inv X zC (σ.set i (some v)) H s'->Q () s') (hf:X.fn x=true\/X.env.scope.names.lookup x=some .local:=by first | exact .inl rfl | exact .inr rfl | assumption):wpAny M A (storeName X.env x u) Q E s:=
 Fe I hN hi hx r (λs' I' _=>h s' I') hf
theorem Inv.Q1 {s':Shared}{ch:qr}(I:Inv X zC σ H s)(ho:s'.os=s.os)(u:Un (LY X.stack) ch H H' s.heap s'.heap)(AK:CY X.prog X.w X.K H' s'.heap)(hg:AllBare s'.gens)
  (N3:∀b∈ch,(b∈X.ex\/X.s₀.heap.objs.size<=b)/\b≠X.env.locals/\(∀x c,X.env.cells.lookup x=some c->c≠b)/\∀p∈X.pn++zC,p.1≠b):Inv X zC σ H' s':=by
 obtain⟨h',g',d',t',o'⟩:=s'
 have e:o'=s.os:=ho
 subst e
 exact I.call (g':=g') (t':=t') (d':=d') u AK hg N3
end
abbrev XK:=Value->Option Addr->Hp->Prop
abbrev St:=List (Option V)
abbrev VK:=V->Hp->Prop
abbrev TE:=St->Hp->VK->Prop
abbrev TT:=St->Hp->(Bool->Hp->Prop)->Prop
abbrev TA:=St->Hp->(List V->Hp->Prop)->Prop
structure Ends where
 nx:St->Hp->Prop
 rt:VK
 bk:St->Hp->Prop:=λ_ _=>False
 ct:St->Hp->Prop:=λ_ _=>False
abbrev TS:=Ends->St->Hp->Prop
def EP (X:Cx)(zC:p9)(σ:St)(Q:VK)(u:Value)(s':Shared):Prop:=∃v H',Inv X zC σ H' s'/\RelV v u/\Q v H'
def TP (X:Cx)(zC:p9)(σ:St)(Q:Bool->Hp->Prop)(b:Bool)(s':Shared):Prop:=∃H',Inv X zC σ H' s'/\Q b H'
def AP (X:Cx)(zC:p9)(σ:St)(Q:List V->Hp->Prop)(us:qf)(s':Shared):Prop:=∃vs H',Inv X zC σ H' s'/\Vals vs us/\Q vs H'
def SP (X:Cx)(zC:p9)(D:Ends)(f:Flow)(s':Shared):Prop:=
 match f with
 | .next=>∃ σ' H',Inv X zC σ' H' s'/\D.nx σ' H'
 | .brk=>∃ σ' H',Inv X zC σ' H' s'/\D.bk σ' H'
 | .cont=>∃ σ' H',Inv X zC σ' H' s'/\D.ct σ' H'
 | .ret u=>∃v σ' H',Inv X zC σ' H' s'/\RelV v u/\D.rt v H'
def PE (X:Cx)(e:Expr)(t:TE):Prop:=
 ∀(zC:p9) (s:Shared) (σ:St) (H:Hp) (Q:VK),Inv X zC σ H s->t σ H Q->wpAny (model X.prog X.w) X.A (eval e X.env) (EP X zC σ Q) X.xe s
def PT (X:Cx)(e:Expr)(t:TT):Prop:=
 ∀(zC:p9) (s:Shared) (σ:St) (H:Hp) (Q:Bool->Hp->Prop),Inv X zC σ H s->t σ H Q->wpAny (model X.prog X.w) X.A (isTrue e X.env (eval e X.env)) (TP X zC σ Q) X.xe s
def PW (X:Cx)(e:Expr)(t:TT):Prop:=
 ∀(whole:Sem Value) (zC:p9) (s:Shared) (σ:St) (H:Hp) (Q:Bool->Hp->Prop),Inv X zC σ H s->t σ H Q->wpAny (model X.prog X.w) X.A (isTrue e X.env whole) (TP X zC σ Q) X.xe s
variable {e:Expr}
theorem PW.pt {X:Cx}{t:TT}(h:PW X e t):PT X e t:=h _
def PA (X:Cx)(es:qk)(t:TA):Prop:=
 ∀(pos:Pos) (zC:p9) (s:Shared) (σ:St) (H:Hp) (Q:List V->Hp->Prop),Inv X zC σ H s->t σ H Q->wpAny (model X.prog X.w) X.A (spliced (backTo pos (starEach es X.env))) (AP X zC σ Q) X.xe s
def PS (X:Cx)(st:Stmt)(t:TS):Prop:=
 ∀(zC:p9) (s:Shared) (σ:St) (H:Hp) (D:Ends),Inv X zC σ H s->t D σ H->wpAny (model X.prog X.w) X.A (exec st X.env) (SP X zC D) X.xe s
def Fh (X:Cx)(st:qh)(t:TS):Prop:=
 ∀(zC:p9) (s:Shared) (σ:St) (H:Hp) (D:Ends),Inv X zC σ H s->t D σ H->wpAny (model X.prog X.w) X.A (execs st X.env) (SP X zC D) X.xe s
theorem AM {α:Type}{t:Sem α}{Q Q':α->Shared->Prop}{M:Model}(h:wpAny M A t Q E s)(hQ:∀a s,Q a s->Q' a s):wpAny M A t Q' E s:=fg h hQ λ_ _ x=>x
variable {zC:p9}{σ:St}{pos:Pos}{op:CmpOp}
section
variable {X:Cx}
theorem bin {a b:Expr}{ta tb:TE}(ha:PE X a ta)(hb:PE X b tb){R:V->V->Hp->Prop}(I:Inv X zC σ H s)(h:ta σ H λx H1=>tb σ H1 λy H2=>R x y H2)
  {α:Type}{Q:α->Shared->Prop}{f:Value->Value->Sem α}
  (hf:∀v u s2 x y H2,Inv X zC σ H2 s2->RelV x v->RelV y u->R x y H2->wpAny (model X.prog X.w) X.A (f v u) Q X.xe s2):
  wpAny (model X.prog X.w) X.A (eval a X.env) (λv s₁=>wpAny (model X.prog X.w) X.A (eval b X.env) (λu s₂=>wpAny (model X.prog X.w) X.A (f v u) Q X.xe s₂) X.xe s₁) X.xe s:=by
 refine AM (ha zC s σ H _ I h) ?_
 rintro v s1 ⟨x,H1,I1,r1,q1⟩
 refine AM (hb zC s1 σ H1 _ I1 q1) ?_
 rintro u s2 ⟨y,H2,I2,r2,q2⟩
 exact hf v u s2 x y H2 I2 r1 r2 q2
def aG (i:Nat):TE:=fun σ H Q=>∃v,σ[i]?=some (some v)/\Q v H
def tC (v:V):TE:=λ_ H Q=>Q v H
theorem iD {i:Nat}(hN:X.N[i]?=some x)(hv:LZ X.env.scope x)(hd:(x == ("__debug__" : Str))=false:=by decide)(D9:(x == ("__classdict__" : Str))=false:=by decide):PE X (.Name x pos) (aG i):=by
 intro zC s σ H Q I h
 obtain⟨v,e,h⟩:=h
 obtain⟨m,hn,hl⟩:=I.loc
 obtain⟨u,r,l⟩:=hl i x v hN e hv
 have fin:EP X zC σ Q u s:=⟨v,H,I,r,h⟩
 rcases l with ⟨hk,hm⟩ | ⟨hk,c,hc,FY⟩
 ·exact wpAny_Name (wpAny_loadName_local I.ok.kind hk hn hm fin) hd
 ·rcases hk with hk | hk
  ·exact wpAny_Name (wpAny_loadName_cell I.ok.kind hk hc FY fin) hd
  ·exact wpAny_Name (wpAny_loadName_free I.ok.kind hk hc FY fin D9) hd
theorem dY {i j pos}:PE X (.Constant (.int i) j pos) (tC (.int i)):=λ_ _ _ H _ I h=>wpAny_Constant_int ⟨.int i,H,I.tok _,⟨_,rfl⟩,h⟩
theorem Rj {b j pos}:PE X (.Constant (.bool b) j pos) (tC (.bl b)):=λ_ _ _ H _ I h=>Constant_bool ⟨.bl b,H,I,rfl,h⟩
theorem yC {j pos}:PE X (.Constant .none j pos) (tC .Au):=λ_ _ _ H _ I h=>Constant_none ⟨.Au,H,I,rfl,h⟩
theorem NP {x j pos}:PE X (.Constant (.str x) j pos) (tC (.str x)):=λ_ _ _ H _ I h=>Calls.Constant_str ⟨.str x,H,I.tok _,⟨_,rfl⟩,h⟩
def Gl (X:Cx)(x:Str):Prop:=X.env.kindOf x=some .globalImplicit
theorem vy {Q:oT}(I:Inv X zC σ H s)(hg:Gl X x)(hm:X.mg x=some u)(h:Q u s)
  (hd:(x == ("__debug__" : Str))=false:=by decide):wpAny (model X.prog X.w) X.A (eval (.Name x pos) X.env) Q E s:=
 mv I.ok.kind hg (Calls.loadGlobal_global (by rw[I.ok.glob];exact I.mod.glob.keeps I.bk) hm h) hd
theorem fW {Q:oT}(I:Inv X zC σ H s)(hg:Gl X x)(hm:X.mg x=none)(hv:bootBuiltins x=some u)(h:Q u s)
  (hn:x ≠ "__name__" := by decide) (hd:(x == ("__debug__" : Str))=false:=by decide):wpAny (model X.prog X.w) X.A (eval (.Name x pos) X.env) Q E s:=by
 obtain⟨mb,h1,h2⟩:=I.mod.blt
 exact mv I.ok.kind hg (Calls.loadGlobal_builtin (by rw[I.ok.glob];exact I.mod.glob.keeps I.bk) hm (by rw[I.ok.blt];exact h1.keeps I.bk) ((h2 x hn).trans hv) h) hd
theorem j0 {v:V}(hg:Gl X x)(hm:X.mg x=some u)(r:RelV v u)(hd:(x == ("__debug__" : Str))=false:=by decide):PE X (.Name x pos) (tC v):=
 λ_ _ _ H _ I h=>vy I hg hm ⟨v,H,I,r,h⟩ hd
theorem KH {v:V}(hg:Gl X x)(hm:X.mg x=none)(hv:bootBuiltins x=some u)(r:RelV v u)(hn:x ≠ "__name__" := by decide)(hd:(x == ("__debug__" : Str))=false:=by decide):PE X (.Name x pos) (tC v):=
 λ_ _ _ H _ I h=>fW I hg hm hv ⟨v,H,I,r,h⟩ hn hd
def t2I (ta tb:TE)(k:Int->Int->Hp->Prop):St->Hp->Prop:=fun σ H=>ta σ H λx H1=>tb σ H1 λy H2=>∃i j,x=.int i/\y=.int j/\k i j H2
def yD (ta tb:TE):TE:=fun σ H Q=>t2I ta tb (λi j H2=>Q (.int (i+j)) H2) σ H
variable {a b:Expr}{ta tb:TE}{pos:Pos}
theorem yE (ha:PE X a ta)(hb:PE X b tb):PE X (.BinOp a .Add b pos) (yD ta tb):=by
 intro zC s σ H Q I h
 refine wpAny_BinOp (bin ha hb I h λv u s2 x y H2 I2 rx ry q=>?_)
 obtain⟨i,j,rfl,rfl,q⟩:=q
 obtain⟨t,rfl⟩:=rx
 obtain⟨t',rfl⟩:=ry
 exact add_int ⟨.int _,H2,I2.tok _,⟨_,rfl⟩,q⟩
def PC (X:Cx)(op:CmpOp)(a b:Expr)(t:TE):Prop:=
 ∀(zC:p9) (s:Shared) (σ:St) (H:Hp) (Q:VK),Inv X zC σ H s->t σ H Q->
  wpAny (model X.prog X.w) X.A (eval a X.env) (λv s₁=>wpAny (model X.prog X.w) X.A (eval b X.env) (λu s₂=>wpAny (model X.prog X.w) X.A (compareOp op v u) (EP X zC σ Q) X.xe s₂) X.xe s₁) X.xe s
theorem Hx (b:Expr)(h:op≠.In)(h2:op≠.NotIn):behindInMarks op b=false:=by
 have e1:(op == CmpOp.In)=false:=by cases op <;> first | rfl | exact absurd rfl h
 have e2:(op == CmpOp.NotIn)=false:=by cases op <;> first | rfl | exact absurd rfl h2
 cases b <;> simp[behindInMarks,e1,e2]
def NQ (p:Int->Int->Bool)(ta tb:TE):TE:=fun σ H Q=>t2I ta tb (λi j H2=>Q (.bl (p i j)) H2) σ H
abbrev tGt:TE->TE->TE:=NQ λi j=>decide (j < i)
theorem NT {p:Int->Int->Bool}(ha:PE X a ta)(hb:PE X b tb)
  (rule:∀(i j:Int) (t u:Tok) (Q:oT) (s:Shared),Q (.bool (p i j)) s->wpAny (model X.prog X.w) X.A (compareOp op (.int i t) (.int j u)) Q X.xe s):PC X op a b (NQ p ta tb):=by
 intro zC s σ H Q I h
 refine bin ha hb I h λv u s2 x y H2 I2 rx ry q=>?_
 obtain⟨i,j,rfl,rfl,q⟩:=q
 obtain⟨t,rfl⟩:=rx
 obtain⟨t',rfl⟩:=ry
 exact rule i j t t' _ s2 ⟨.bl _,H2,I2,rfl,q⟩
theorem Rk (ha:PE X a ta)(hb:PE X b tb):PC X .Gt a b (tGt ta tb):=NT ha hb λ_ _ _ _ _ _ h=>gt_int h
def tB (t:TE):TT:=fun σ H Q=>t σ H λx H1=>∃c,x=.bl c/\Q c H1
theorem ug {t:TE}(h:PC X op a b t)(h1:behindInMarks op b=false:=by first | exact Hx _ (by decide) (by decide) | rfl):PT X (.Compare a [op] [b] pos) (tB t):=by
 intro zC s σ H Q I hw
 refine wpAny_isTrue_Compare1 (AM (h zC s σ H _ I hw) λv s1 h1=>AM h1 λu s2 h2=>AM h2 ?_) h1
 rintro c s3 ⟨x,H1,I1,r1,q1⟩
 obtain⟨d,rfl,q⟩:=q1
 cases r1
 exact im ⟨H1,I1,q⟩
theorem uh {t:TE}(h:PE X e t)(he:∀whole,isTrue e X.env whole=(do let v ← whole;standAt e.pos;holding [v] (truthy v)):=by intro _;rfl):PT X e (tB t):=by
 intro zC s σ H Q I hw
 refine isTrue_plain (AM (h zC s σ H _ I hw) ?_) (he _)
 rintro v s1 ⟨x,H1,I1,r1,q1⟩
 obtain⟨d,rfl,q⟩:=q1
 cases r1
 exact im ⟨H1,I1,q⟩
variable {tA XA:TT}{rest:qk}
def Hy (t u:TT):TT:=fun σ H Q=>t σ H λc H1=>if c=true then u σ H1 Q else Q false H1
def tOr (t u:TT):TT:=fun σ H Q=>t σ H λc H1=>if c=true then Q true H1 else u σ H1 Q
def Hz (t:TT):TT:=fun σ H Q=>t σ H λc H1=>Q (!c) H1
theorem Bq (ha:PT X a tA):PW X (.BoolOp .And [a] pos) tA:=by
 intro wh zC s σ H Q I h
 refine isTrue_and (AM (ha zC s σ H Q I h) λc s1 e=>?_)
 cases c with
 | true=>exact isTrue_and_nil e
 | false=>exact e
theorem NZ (ha:PT X a tA):PW X (.BoolOp .Or [a] pos) tA:=by
 intro wh zC s σ H Q I h
 refine isTrue_or (AM (ha zC s σ H Q I h) λc s1 e=>?_)
 cases c with
 | false=>exact isTrue_or_nil e
 | true=>exact e
theorem Ff (ha:PT X a tA)(hb:PW X (.BoolOp .And (b::rest) pos) XA):PW X (.BoolOp .And (a::b::rest) pos) (Hy tA XA):=by
 intro wh zC s σ H Q I h
 refine isTrue_and (AM (ha zC s σ H _ I h) ?_)
 rintro c s1 ⟨H1,I1,q1⟩
 cases c with
 | true=>exact hb wh zC s1 σ H1 Q I1 q1
 | false=>exact⟨H1,I1,q1⟩
theorem Rm (ha:PT X a tA)(hb:PW X (.BoolOp .Or (b::rest) pos) XA):PW X (.BoolOp .Or (a::b::rest) pos) (tOr tA XA):=by
 intro wh zC s σ H Q I h
 refine isTrue_or (AM (ha zC s σ H _ I h) ?_)
 rintro c s1 ⟨H1,I1,q1⟩
 cases c with
 | true=>exact⟨H1,I1,q1⟩
 | false=>exact hb wh zC s1 σ H1 Q I1 q1
theorem Fg (ha:PT X a tA):PT X (.UnaryOp .Not a pos) (Hz tA):=by
 intro zC s σ H Q I h
 exact isTrue_not (ha zC s σ H (λc H1=>Q (!c) H1) I h)
def Rn (ta tb:TE):TE:=fun σ H Q=>ta σ H λx H1=>∃c,x=.bl c/\if c=true then tb σ H1 Q else Q (.bl false) H1
def SN (ta tb:TE):TE:=fun σ H Q=>ta σ H λx H1=>∃c,x=.bl c/\if c=true then Q (.bl true) H1 else tb σ H1 Q
def Ro (ta:TE):TE:=fun σ H Q=>ta σ H λx H1=>∃c,x=.bl c/\Q (.bl (!c)) H1
theorem N5 {op}{t:TE}(h:PE X a t):PE X (.BoolOp op [a] pos) t:=λzC s σ H Q I hw=>BoolOp_one (h zC s σ H Q I hw)
theorem N6 (ha:PE X a ta)(hb:PE X (.BoolOp .And (b::rest) pos) tb):PE X (.BoolOp .And (a::b::rest) pos) (Rn ta tb):=by
 intro zC s σ H Q I h
 refine BoolOp_and (AM (ha zC s σ H _ I h) ?_)
 rintro v s1 ⟨x,H1,I1,r1,q1⟩
 obtain⟨c,rfl,q1⟩:=q1
 cases r1
 refine im ?_
 cases c with
 | true=>exact hb zC s1 σ H1 Q I1 q1
 | false=>exact⟨.bl false,H1,I1,rfl,q1⟩
theorem Rp (ha:PE X a ta)(hb:PE X (.BoolOp .Or (b::rest) pos) tb):PE X (.BoolOp .Or (a::b::rest) pos) (SN ta tb):=by
 intro zC s σ H Q I h
 refine BoolOp_or (AM (ha zC s σ H _ I h) ?_)
 rintro v s1 ⟨x,H1,I1,r1,q1⟩
 obtain⟨c,rfl,q1⟩:=q1
 cases r1
 refine im ?_
 cases c with
 | false=>exact hb zC s1 σ H1 Q I1 q1
 | true=>exact⟨.bl true,H1,I1,rfl,q1⟩
theorem N7 (ha:PE X a ta):PE X (.UnaryOp .Not a pos) (Ro ta):=by
 intro zC s σ H Q I h
 refine UnaryOp_ (AM (ha zC s σ H _ I h) ?_)
 rintro v s1 ⟨x,H1,I1,r1,q1⟩
 obtain⟨c,rfl,q1⟩:=q1
 cases r1
 exact not_of (im ⟨.bl (!c),H1,I1,rfl,q1⟩)
def tIf (t:TT)(ta tb:TE):TE:=fun σ H Q=>t σ H λc H1=>if c=true then ta σ H1 Q else tb σ H1 Q
theorem HB {c:Expr}(hc:PT X c tA)(ha:PE X a ta)(hb:PE X b tb):PE X (.IfExp c a b pos) (tIf tA ta tb):=by
 intro zC s σ H Q I h
 refine wpAny_IfExp (AM (hc zC s σ H _ I h) ?_)
 rintro d s1 ⟨H1,I1,q1⟩
 cases d with
 | true=>exact ha zC s1 σ H1 Q I1 q1
 | false=>exact hb zC s1 σ H1 Q I1 q1
end
def A0 (K:W.Frag)(H:Hp)(a:Addr)(xs:List V):Prop:=
 Rd H a (.lst xs) \/
  ∃(o:Obj) (As:qv) (n:Nat),K.lookup a=some o/\o.cls=.type "list" /\ o.dict=none/\o.data=.seq As n/\As.size<=sizeLine/\Vals xs As.toList
def B6 (K:W.Frag)(H:Hp)(a:Addr)(xs:List V):Prop:=
 Rd H a (.tup xs) \/
  ∃(o:Obj) (As:qv) (n:Nat),K.lookup a=some o/\o.cls=.type "tuple" /\ o.data=.seq As n/\(As.size<=sizeLine/\o.dict=none)/\Vals xs As.toList
noncomputable def N8:Value->Option V
 | .none=>some .Au
 | .bool b=>some (.bl b)
 | .int i _=>some (.int i)
 | .str x _=>some (.str x)
 | .bytes b _=>some (.LM b)
 | .float b _=>some (.S2 b)
 | .ref a=>some (.ref a)
 | .type n=>some (.ty n)
 | _=>none
theorem RelV.abs {x:V}(r:RelV x u):N8 u=some x:=by
 cases x with
 | Au=>cases r;rfl
 | bl _=>cases r;rfl
 | int _=>obtain⟨t,rfl⟩:=r;rfl
 | str _=>obtain⟨t,rfl⟩:=r;rfl
 | LM _=>obtain⟨t,rfl⟩:=r;rfl
 | S2 _=>obtain⟨t,rfl⟩:=r;rfl
 | ref _=>cases r;rfl
 | ty _=>cases r;rfl
theorem RelV.inj {x y:V}(r:RelV x u)(q:RelV y u):x=y:=be (r.abs.symm.trans q.abs)
theorem Vals.inj:∀{xs ys:List V}{us:qf},Vals xs us->Vals ys us->xs=ys
 | _,_,_,.nil,.nil=>rfl
 | _,_,_,.cons r t,.cons r' t'=>by rw[r.inj r',Vals.inj t t']
section
variable {X:Cx}{zC:p9}{σ:St}{H:Hp}{s:Shared}{a:Addr}{xs ys:List V}
theorem A0.of (h:H a=some (.lst xs)):A0 K H a xs:=.inl (.inl h)
theorem B6.of (h:H a=some (.tup xs)):B6 K H a xs:=.inl (.inl h)
theorem Inv.list (I:Inv X zC σ H s)(h:A0 X.K H a xs):∃As:List Value,Vals xs As/\PlainL s.heap a As.toArray/\xs.length<=sizeLine:=by
 rcases h with h | ⟨o,As,n,hk,hc,hd,hs,hz,r⟩
 ·obtain⟨z,As,n,r,e⟩:=h.ok I.AK
  exact⟨As,r,⟨_,n,e,rfl,rfl,rfl⟩,z⟩
 ·refine⟨As.toList,r,⟨o,n,I.B8 a o hk,hc,hd,by simpa using hs⟩,?_⟩
  have e:=r.length
  simp only[gy] at e
  omega
theorem Inv.tuple (I:Inv X zC σ H s)(h:B6 X.K H a xs):∃As:List Value,Vals xs As/\IsTup s.heap a As.toArray/\xs.length<=sizeLine:=by
 rcases h with h | ⟨o,As,n,hk,hc,hs,hz,r⟩
 ·obtain⟨z,As,r,p⟩:=h.ok I.AK
  exact⟨As,r,p.tup,z⟩
 ·refine⟨As.toList,r,⟨o,I.B8 a o hk,hc,n,by simpa using hs⟩,?_⟩
  have e:=r.length
  simp only[gy] at e
  omega
theorem Inv.HP (I:Inv X zC σ H s)(h:A0 X.K H a xs)(h':A0 X.K H a ys):xs=ys:=by
 obtain⟨As,r,⟨o,n,e,_,_,d⟩,_⟩:=I.list h
 obtain⟨its',r',⟨o',n',e',_,_,d'⟩,_⟩:=I.list h'
 rw[e] at e';cases e'
 rw[d] at d'
 injection d' with d1 _
 have:As=its':=by simpa using dP Array.toList d1
 subst this
 exact r.inj r'
theorem Inv.F0 (I:Inv X zC σ H s)(h:B6 X.K H a xs)(h':B6 X.K H a ys):xs=ys:=by
 obtain⟨As,r,⟨o,e,_,n,d⟩,_⟩:=I.tuple h
 obtain⟨its',r',⟨o',e',_,n',d'⟩,_⟩:=I.tuple h'
 rw[e] at e';cases e'
 rw[d] at d'
 injection d' with d1 _
 have:As=its':=by simpa using dP Array.toList d1
 subst this
 exact r.inj r'
end
abbrev Cx.FL (X:Cx)(E:oT):Cx:={ X with xe:=E }
abbrev Cx.K0 (X:Cx):Cx:=X.FL λ_ _=>False
theorem Cx.Ok.FL {X:Cx}(ok:X.Ok)(E:oT):(X.FL E).Ok:=
 ⟨ok.mod,ok.kind,ok.glob,ok.blt,ok.above,ok.inj,ok.has,ok.VP,ok.hd,ok.frames,ok.Xy,ok.exf,ok.bs,ok.L1,ok.KU,ok.OP,ok.EW,ok.Ts⟩
theorem Cx.Ok.unwish {X:Cx}(ok:(X.FL E).Ok):X.Ok:=
 ⟨ok.mod,ok.kind,ok.glob,ok.blt,ok.above,ok.inj,ok.has,ok.VP,ok.hd,ok.frames,ok.Xy,ok.exf,ok.bs,ok.L1,ok.KU,ok.OP,ok.EW,ok.Ts⟩
section
variable {X:Cx}{zC:p9}{σ:St}{H:Hp}{s:Shared}{E:oT}
theorem Inv.FL (I:Inv X zC σ H s)(E:oT):Inv (X.FL E) zC σ H s:=⟨I.ok.FL E,I.os,I.bare,I.base,I.loc,I.cell,I.free,I.CI,I.pin,I.AK,I.len⟩
theorem Inv.unwish (I:Inv (X.FL E) zC σ H s):Inv X zC σ H s:=⟨I.ok.unwish,I.os,I.bare,I.base,I.loc,I.cell,I.free,I.CI,I.pin,I.AK,I.len⟩
theorem SP.unwish {D:Ends}{f:Flow}{s':Shared}(h:SP (X.FL E) zC D f s'):SP X zC D f s':=by
 cases f with
 | next=>obtain⟨σ',H',I,q⟩:=h;exact⟨σ',H',I.unwish,q⟩
 | brk=>obtain⟨σ',H',I,q⟩:=h;exact⟨σ',H',I.unwish,q⟩
 | cont=>obtain⟨σ',H',I,q⟩:=h;exact⟨σ',H',I.unwish,q⟩
 | ret u=>obtain⟨v,σ',H',I,r,q⟩:=h;exact⟨v,σ',H',I.unwish,r,q⟩
theorem Fh.K0 {st:qh}{t:TS}(h:Fh X.K0 st t):Fh X st t:=λzC s σ H D I hw=>
 fg (h zC s σ H D (I.FL _) hw) (λ_ _ q=>q.unwish) λ_ _ z=>False.elim z
end
section
variable {X:Cx}{st:Stmt}{rest:qh}{t u:TS}{e:Expr}{te:TE}{pos:Pos}
def jx:TS:=λD σ H=>D.nx σ H
def cu (t u:TS):TS:=λD σ H=>t { D with nx:=u D } σ H
theorem j4:Fh X [] jx:=λ_ _ σ H _ I h=>lT ⟨σ,H,I,h⟩
theorem aW (h1:PS X st t)(h2:Fh X rest u):Fh X (st::rest) (cu t u):=by
 intro zC s σ H D I h
 refine wpAny_execs_cons (AM (h1 zC s σ H { D with nx:=u D } I h) λf s1 q=>?_)
 cases f with
 | next=>
  obtain⟨σ',H',I',q⟩:=q
  exact h2 zC s1 σ' H' D I' q
 | ret v=>exact q
 | brk=>exact q
 | cont=>exact q
theorem bR (h1:PS X st t):Fh X [st] t:=by
 intro zC s σ H D I h
 refine wpAny_execs_cons (AM (h1 zC s σ H D I h) λf s1 q=>?_)
 cases f with
 | next=>exact lT q
 | ret v=>exact q
 | brk=>exact q
 | cont=>exact q
theorem Inv.quiet (I:Inv X zC σ H s):interactive X.env=false:=by simp[interactive,I.ok.kind]
def ul (te:TE):TS:=λD σ H=>te σ H λ_ H1=>D.nx σ H1
theorem qJ (he:PE X e te)(hs:swapsWith e none pos.line X.env=pure false:=by rfl):PS X (.Expr e pos) (ul te):=by
 intro zC s σ H D I h
 exact wpAny_Expr_any (AM (he zC s σ H _ I h) λv s1 ⟨x,H1,I1,r1,q1⟩=>⟨σ,H1,I1,q1⟩) I.quiet hs
def jd (te:TE):TS:=λD σ H=>te σ H D.rt
theorem gR (he:PE X e te):PS X (.Return (some e) pos) (jd te):=by
 intro zC s σ H D I h
 exact wpAny_Return_some (AM (he zC s σ H _ I h) λv s1 ⟨x,H1,I1,r1,q1⟩=>⟨x,σ,H1,I1,r1,q1⟩)
def lW (c:TT)(t u:TS):TS:=λD σ H=>c σ H λb H1=>if b=true then t D σ H1 else u D σ H1
theorem qK {c:Expr}{a b:qh}{tc:TT}(hc:PT X c tc)(ha:Fh X a t)(hb:Fh X b u):PS X (.If c a b pos) (lW tc t u):=by
 intro zC s σ H D I h
 refine wpAny_If (AM (hc zC s σ H _ I h) ?_)
 rintro d s1 ⟨H1,I1,q1⟩
 cases d with
 | true=>exact ha zC s1 σ H1 D I1 q1
 | false=>exact hb zC s1 σ H1 D I1 q1
def N_:TS:=λ_ _ _=>False
theorem HD:PS X st N_:=λ_ _ _ _ _ _ h=>h.elim
end
abbrev TG:=V->St->Hp->(St->Hp->Prop)->Prop
abbrev N4:=List V->St->Hp->(St->Hp->Prop)->Prop
def PG (X:Cx)(target:Expr)(t:TG):Prop:=
 ∀(zC:p9) (s:Shared) (σ:St) (H:Hp) (v:V) (u:Value) (Q:St->Hp->Prop),Inv X zC σ H s->RelV v u->t v σ H Q->
  wpAny (model X.prog X.w) X.A (assign target X.env u) (λ_ s'=>∃ σ' H',Inv X zC σ' H' s'/\Q σ' H') X.xe s
def N9 (X:Cx)(ts:qk)(t:N4):Prop:=
 ∀(zC:p9) (s:Shared) (σ:St) (H:Hp) (vs:List V) (us:qf) (Q:St->Hp->Prop),Inv X zC σ H s->Vals vs us->t vs σ H Q->
  wpAny (model X.prog X.w) X.A (assignInOrder ((assignEach ts X.env).map (·.2)) us) (λ_ s'=>∃ σ' H',Inv X zC σ' H' s'/\Q σ' H') X.xe s
abbrev HF:=V->V->V->Hp->(Hp->Prop)->Prop
def Oa (X:Cx)(t:HF):Prop:=
 ∀(zC:p9) (s:Shared) (σ:St) (H:Hp) (o i v:V) (ov iv u:Value) (Q:Hp->Prop),Inv X zC σ H s->RelV o ov->RelV i iv->RelV v u->t o i v H Q->
  wpAny (model X.prog X.w) X.A (setItem ov iv u) (λ_ s'=>∃H',Inv X zC σ H' s'/\Q H') X.xe s
section
variable {X:Cx}{pos:Pos}
def aX (i:Nat):TG:=λv σ H Q=>Q (σ.set i (some v)) H
theorem cI {i:Nat}(hN:X.N.Nodup)(hi:X.N[i]?=some x)(hx:Loc X.env.scope x)(hf:X.fn x=true\/X.env.scope.names.lookup x=some .local:=by first | exact .inl rfl | exact .inr rfl | assumption):PG X (.Name x pos) (aX i):=by
 intro zC s σ H v u Q I r h
 exact wpAny_assign_Name (yz I hN hi hx r (λs' I'=>⟨_,H,I',h⟩) hf)
def vz:N4:=λvs σ H Q=>vs=[]/\Q σ H
def jy (t:TG)(u:N4):N4:=λvs σ H Q=>∃v r,vs=v::r/\t v σ H fun σ' H'=>u r σ' H' Q
theorem mO:N9 X [] vz:=by
 intro zC s σ H vs us Q I r h
 obtain⟨e,h⟩:=h
 subst e
 cases r
 exact assignInOrder_nil ⟨σ,H,I,h⟩
theorem eU {es:qk}{t:TG}{u:N4}(h1:PG X e t)(h2:N9 X es u)
  (hs:(assignEach (e::es) X.env).map (·.2)=assign e X.env::(assignEach es X.env).map (·.2):=by rfl):N9 X (e::es) (jy t u):=by
 intro zC s σ H vs us Q I r h
 obtain⟨v,vr,e1,h⟩:=h
 subst e1
 cases r with
 | cons r rr=>
  rw[hs]
  refine assignInOrder_cons (AM (h1 zC s σ H _ _ _ I r h) ?_)
  rintro _ s1 ⟨σ1,H1,I1,q1⟩
  exact h2 zC s1 σ1 H1 _ _ Q I1 rr q1
def vA (K:W.Frag)(n:Nat)(t:N4):TG:=λv σ H Q=>∃a xs,v=.ref a/\B6 K H a xs/\xs.length=n/\t xs σ H Q
theorem pP {es:qk}{k:Nat}{t:N4}{n:Nat}(hc:X.calm=true)(h:N9 X es t)
  (hn:(assignEach es X.env).length=n:=by rfl) (CL:(assignEach es X.env).findIdx? (·.1)=none:=by rfl):PG X (.Tuple es k pos) (vA X.K n t):=by
 intro zC s σ H v u Q I r hw
 obtain⟨a,xs,e1,hq,hl,hw⟩:=hw
 subst e1
 cases r
 obtain⟨As,rv,ht,hz⟩:=I.tuple hq
 refine assign_Tuple_tuple (I.ok.hd hc) ht (by simp[hn,← hl,rv.length]) CL λh' hx=>?_
 have I1:Inv X zC σ H { s with heap:=h' }:=I.kept (t':=s.toks) λb o e=>hx b o (bg (av e)) e
 exact h zC _ σ H xs _ Q I1 (by simpa using rv) hw
def SQ (to ti:TE)(t:HF):TG:=λv σ H Q=>to σ H λo H1=>ti σ H1 λi H2=>t o i v H2 λH3=>Q σ H3
theorem Ob {o i:Expr}{to ti:TE}{t:HF}(ho:PE X o to)(hi:PE X i ti)(hs:Oa X t)
  (ha:∀v,assign (.Subscript o i pos) X.env v=(do
   let ov ← holding [v] (eval o X.env)
   let iv ← holding [v,ov] (eval i X.env)
   standAt pos
   holding [v,ov,iv] (setItem ov iv v)
   release [v,ov,iv] []):=by intro _;rfl):PG X (.Subscript o i pos) (SQ to ti t):=by
 intro zC s σ H v u Q I r h
 rw[ha]
 refine ab (ef (AM (ho zC s σ H _ I h) ?_))
 rintro ov s1 ⟨x,H1,I1,r1,q1⟩
 refine ab (ef (AM (hi zC s1 σ H1 _ I1 q1) ?_))
 rintro iv s2 ⟨y,H2,I2,r2,q2⟩
 refine ab (wpAny_standAt (ab (ef (AM (hs zC s2 σ H2 x y v ov iv u _ I2 r1 r2 r q2) ?_))))
 rintro _ s3 ⟨H3,I3,q3⟩
 exact wpAny_release ⟨σ,H3,I3,q3⟩
def gO (te:TE)(g:TG):TS:=λD σ H=>te σ H λx H1=>g x σ H1 D.nx
theorem Oc {tg:Expr}{te:TE}{g:TG}(he:PE X e te)(hg:PG X tg g)(hs:swapsWithSole [tg] e pos.line X.env=pure false:=by rfl)(hw:swappedStores [tg] e X.env=pure none:=by rfl)
  (h1:(assignEach [tg] X.env).map (·.2)=[assign tg X.env]:=by rfl):PS X (.Assign [tg] e pos) (gO te g):=by
 intro zC s σ H D I h
 refine wpAny_Assign_stores (AM (he zC s σ H _ I h) ?_) hs hw
 rintro v s1 ⟨x,H1,I1,r1,q1⟩
 rw[h1]
 exact AM (hg zC s1 σ H1 x v _ I1 r1 q1) λ_ s2 q=>q
theorem dZ {i:Nat}{te:TE}{pos':Pos}(hN:X.N.Nodup)(hi:X.N[i]?=some x)(hx:Loc X.env.scope x)(he:PE X e te)(hs:swapsWith e (some (.Name x pos')) pos.line X.env=pure false:=by rfl)(hf:X.fn x=true\/X.env.scope.names.lookup x=some .local:=by first | exact .inl rfl | exact .inr rfl | assumption):
  PS X (.Assign [.Name x pos'] e pos) (gO te (aX i)):=by
 intro zC s σ H D I h
 refine wpAny_Assign_Name (AM (he zC s σ H _ I h) ?_) hs
 rintro v s1 ⟨y,H1,I1,r1,q1⟩
 exact yz I1 hN hi hx r1 (λs2 I2=>⟨_,H1,I2,q1⟩) hf
end
section
variable {X:Cx}{pos:Pos}
def Fl (c:TT)(tb:TS):TS:=λD σ H=>∃W:Nat->St->Hp->Prop,(∃m,W m σ H)/\∀m σ H,W m σ H->
 c σ H λb H1=>if b=true then ∃N:St->Hp->Prop,(∀ σ' H',N σ' H'->∃m',m' < m/\W m' σ' H')/\tb { D with nx:=N,ct:=N,bk:=D.nx } σ H1 else D.nx σ H1
theorem yF {c:Expr}{body:qh}{tc:TT}{tb:TS}(hp:PassesOwn (model X.prog X.w) X.A X.env X.xe)(hc:PT X c tc)(hb:Fh X body tb):PS X (.While c body [] pos) (Fl tc tb):=by
 intro zC s σ H D I h
 obtain⟨W,⟨m0,w0⟩,turn⟩:=h
 refine wpAny_While (codeAny_whileLoop (λn s'=>∃ σ' H',Inv X zC σ' H' s'/\W n σ' H') ?_ m0 ⟨σ,H,I,w0⟩)
 rintro n s1 ⟨σ1,H1,I1,w1⟩
 refine ia hp (AM (hc zC s1 σ1 H1 _ I1 (turn n σ1 H1 w1)) ?_)
 rintro b s2 ⟨H2,I2,q2⟩
 cases b with
 | true=>
  obtain⟨N,hN,q2⟩:=q2
  rw[a0 rfl]
  refine ia hp (AM (hb zC s2 σ1 H2 _ I2 q2) λf s3 q3=>?_)
  cases f with
  | next=>
   obtain⟨σ3,H3,I3,n3⟩:=q3
   obtain⟨m',hm,w3⟩:=hN σ3 H3 n3
   exact⟨m',hm,σ3,H3,I3,w3⟩
  | cont=>
   obtain⟨σ3,H3,I3,n3⟩:=q3
   obtain⟨m',hm,w3⟩:=hN σ3 H3 n3
   exact⟨m',hm,σ3,H3,I3,w3⟩
  | brk=>exact q3
  | ret v=>exact q3
 | false=>
  rw[ax bd]
  exact lT ⟨σ1,H2,I2,q2⟩
end
structure It where
 go:Nat->Hp->Prop
 L4:Nat->Hp->V->Hp->Prop
 stop:Nat->Hp->Prop
def gP (X:Cx)(zC:p9)(H:Hp)(b:Addr):Prop:=
 H b=none/\b≠X.env.locals/\b∉X.fs/\(b∈X.ex\/X.s₀.heap.objs.size<=b)/\(∀x c,X.env.cells.lookup x=some c->c≠b)/\∀p∈X.pn++zC,p.1≠b
theorem Inv.GI {X:Cx}{H':Hp}(I:Inv X zC σ H s)(hb:s.heap.objs.size<=b)(hn:H' b=none):gP X zC H' b:=by
 refine⟨hn,df (bi I.lt hb),I.Yt hb,.inr (d5 I.sz hb),λx c e z=>?_,λp hp z=>?_⟩
 ·obtain⟨v,q⟩:=I.cell x c e
  exact absurd (bi q.lt (by rw[z];exact hb)) (fz _)
 ·exact absurd (bi (av (I.pin p hp).1) (by rw[z];exact hb)) (fz _)
structure Turn (P:Program)(w:World)(K:W.Frag)(tg:Expr)(J:It)(fp:qr)(it:Addr)(tn:Nat->Heap->Prop):Prop where
 mem:it∈fp
 obj:∀i h,tn i h->∀b∈fp,∃o,h.get? b=some o/\∀v,o.data≠.cell v
 keep:∀i h h',tn i h->(∀b∈fp,∀o,h.get? b=some o->h'.get? b=some o)->tn i h'
 item:∀(X:Cx),X.prog=P->X.w=w->X.K=K->X.calm=true->∀(i:Nat) (zC:p9) (s:Shared) (σ:St) (H:Hp) (E:oT),Inv X zC σ H s->(∀b∈fp,gP X zC H b)->tn i s.heap->J.go i H->
  wpAny (model P w) X.A (pyNext (.ref it)) (λr s1=>∃u,r=some u /\
   wpAny (model P w) X.A (letOwnedTupleGo tg (.ref it) u) (λ_ s2=>∃x H',Inv X zC σ H' s2/\RelV x u/\J.L4 i H x H'/\tn (i+1) s2.heap/\∀b∈fp,H' b=none) E s1) E s
 done:∀(X:Cx),X.prog=P->X.w=w->X.K=K->X.calm=true->∀(i:Nat) (zC:p9) (s:Shared) (σ:St) (H:Hp) (E:oT),Inv X zC σ H s->(∀b∈fp,gP X zC H b)->tn i s.heap->J.stop i H->
  wpAny (model P w) X.A (pyNext (.ref it)) (λr s1=>r=none/\Inv X zC σ H s1) E s
 self:∀(A:Around) (i:Nat) (s:Shared) (Q:oT) (E:oT),tn i s.heap->Q (.ref it) s->wpAny (model P w) A (pyIter (.ref it)) Q E s
abbrev TI:=St->Hp->(It->Hp->Prop)->Prop
def PIE (X:Cx)(zC:p9)(σ:St)(tg:Expr)(R:It->Hp->Prop)(Q2:Value)(s2:Shared):Prop:=
 ∃(it:Addr) (fp:qr) (tn:Nat->Heap->Prop) (J:It) (H':Hp),Q2=.ref it/\Inv X zC σ H' s2/\Turn X.prog X.w X.K tg J fp it tn/\tn 0 s2.heap/\(∀b∈fp,gP X zC H' b)/\R J H'
def PI (X:Cx)(tg iter:Expr)(wi:TI):Prop:=
 ∀(zC:p9) (s:Shared) (σ:St) (H:Hp) (R:It->Hp->Prop),Inv X zC σ H s->wi σ H R->
  wpAny (model X.prog X.w) X.A (eval iter X.env) (λv s1=>wpAny (model X.prog X.w) X.A (pyIter v) (PIE X zC σ tg R) X.xe s1) X.xe s
theorem um {M:Model}{tg:Expr}{it:Addr}{o:Obj}{n:String}{vs:qv}(ho:s.heap.get? it=some o)(hc:o.cls=.type n)(hd:o.data=.fields vs)
    (hn:["enumerate","zip","dict_itemiterator","dict_reverseitemiterator","odict_iterator","itertools.zip_longest","itertools.pairwise"].contains n=false) (hQ:Q () s):wpAny M A (letOwnedTupleGo tg (.ref it) u) Q E s:=by
  unfold letOwnedTupleGo
  cases tg <;> first
    | exact ae hQ
    | (cases u <;> first
        | exact ae hQ
        | (refine ab (wpAny_load ho ?_)
           rw[hc,hd]
           show wpAny M A (if (["enumerate","zip","dict_itemiterator","dict_reverseitemiterator","odict_iterator","itertools.zip_longest","itertools.pairwise"].contains n&&vs[0]? == some (rawInt _))=true then _ else _) Q E s
           rw[ax (by intro h;rw[hn,Bool.false_and] at h;cases h)]
           exact ae hQ))
def OQ (K:W.Frag)(a:Addr):It:=
 ⟨λi H=>∃xs x,A0 K H a xs/\xs[i]?=some x,λi H x H'=>H'=H/\∀xs,A0 K H a xs->xs[i]?=some x,λi H=>∃xs,A0 K H a xs/\xs.length<=i⟩
def OR (K:W.Frag)(a:Addr):It:=
 ⟨λi H=>∃xs x,B6 K H a xs/\xs[i]?=some x,λi H x H'=>H'=H/\∀xs,B6 K H a xs->xs[i]?=some x,λi H=>∃xs,B6 K H a xs/\xs.length<=i⟩
def OS (lo:Int)(n:Nat):It:=⟨λi _=>i < n,λi H x H'=>H'=H/\x=.int (lo+i),λi _=>n<=i⟩
theorem Fo {tg:Expr}(a it:Addr):Turn P w K tg (OQ K a) [it] it (λi h=>h.IsListIter it a i) where
 mem:=by simp
 obj:=λi h st b hb=>by
  have e:b=it:=by simpa using hb
  subst e
  obtain⟨o,e,c,d⟩:=st
  exact⟨o,e,λv z=>by rw[d] at z;cases z⟩
 keep:=λi h h' st k=>st.at λo e=>k it (by simp) o e
 item:=by
  intro X hP hw hK hc i zC s σ H E I hf st hg
  subst hP hw hK
  obtain⟨xs,x,hq,hx⟩:=hg
  obtain⟨As,rv,p,hz⟩:=I.list hq
  obtain⟨u,hu,ru⟩:=rv.get hx
  obtain⟨f0,f1,f2,f3,f4,f5⟩:=hf it (by simp)
  refine wpAny_pyNext_list_item st p.isList (x:=u) (by simpa using hu) λh' BA sb=>?_
  have I1:Inv X zC σ H { s with heap:=h' }:=I.turned (t':=s.toks) (λb o hb e=>(sb.2 b hb).trans e) f0 f1 f3 f4 f5
  obtain⟨o,e,c,d⟩:=id BA
  exact⟨u,rfl,um (s:={ s with heap:=h' }) e c d (by decide) ⟨x,H,I1,ru,⟨rfl,λys hy=>by rw[I.HP hy hq];exact hx⟩,BA,λb hb=>(hf b hb).1⟩⟩
 done:=by
  intro X hP hw hK hc i zC s σ H E I hf st hg
  subst hP hw hK
  obtain⟨xs,hq,hx⟩:=hg
  obtain⟨As,rv,p,hz⟩:=I.list hq
  obtain⟨f0,f1,f2,f3,f4,f5⟩:=hf it (by simp)
  have hl:=rv.length
  exact wpAny_pyNext_list_end (I.ok.hd hc) st p.isList (by simp;omega) λh' eb=>⟨rfl,I.turned (t':=s.toks) (λb o hb e=>eb b o hb e) f0 f1 f3 f4 f5⟩
 self:=λ_ _ _ _ _ st h=>wpAny_pyIter_listiter st h
theorem CW {tg:Expr}(a it:Addr):Turn P w K tg (OR K a) [it] it (λi h=>h.IsTupleIter it a i) where
 mem:=by simp
 obj:=λi h st b hb=>by
  have e:b=it:=by simpa using hb
  subst e
  obtain⟨o,e,c,d⟩:=st
  exact⟨o,e,λv z=>by rw[d] at z;cases z⟩
 keep:=λi h h' st k=>st.at λo e=>k it (by simp) o e
 item:=by
  intro X hP hw hK hc i zC s σ H E I hf st hg
  subst hP hw hK
  obtain⟨xs,x,hq,hx⟩:=hg
  obtain⟨As,rv,p,hz⟩:=I.tuple hq
  obtain⟨u,hu,ru⟩:=rv.get hx
  obtain⟨f0,f1,f2,f3,f4,f5⟩:=hf it (by simp)
  refine og st (show s.heap.IsTuple a As.toArray from p) (x:=u) (by simpa using hu) λh' BA sb=>?_
  have I1:Inv X zC σ H { s with heap:=h' }:=I.turned (t':=s.toks) (λb o hb e=>(sb.2 b hb).trans e) f0 f1 f3 f4 f5
  obtain⟨o,e,c,d⟩:=id BA
  exact⟨u,rfl,um (s:={ s with heap:=h' }) e c d (by decide) ⟨x,H,I1,ru,⟨rfl,λys hy=>by rw[I.F0 hy hq];exact hx⟩,BA,λb hb=>(hf b hb).1⟩⟩
 done:=by
  intro X hP hw hK hc i zC s σ H E I hf st hg
  subst hP hw hK
  obtain⟨xs,hq,hx⟩:=hg
  obtain⟨As,rv,p,hz⟩:=I.tuple hq
  obtain⟨f0,f1,f2,f3,f4,f5⟩:=hf it (by simp)
  have hl:=rv.length
  exact wpAny_pyNext_tuple_end (I.ok.hd hc) st (show s.heap.IsTuple a As.toArray from p) (by simp;omega) λh' eb=>⟨rfl,I.turned (t':=s.toks) (λb o hb e=>eb b o hb e) f0 f1 f3 f4 f5⟩
 self:=λ_ _ _ _ _ st h=>wpAny_pyIter_tupleiter st h
theorem CZ {tg:Expr}(it:Addr)(lo:Int)(n:Nat):Turn P w K tg (OS lo n) [it] it (λi h=>IsRangeIter h it (lo+(i:Nat)*1) ((n:Int) - (i:Nat)) 1) where
 mem:=by simp
 obj:=λi h st b hb=>by
  have e:b=it:=by simpa using hb
  subst e
  exact⟨_,st,λv z=>by
   have z':Data.fields _=Data.cell v:=z
   cases z'⟩
 keep:=λi h h' st k=>k it (by simp) _ st
 item:=by
  intro X hP hw hK hc i zC s σ H E I hf st hg
  subst hP hw hK
  obtain⟨f0,f1,f2,f3,f4,f5⟩:=hf it (by simp)
  have W:=Walks.range (prog:=X.prog) (w:=X.w) (I.ok.hd hc) it lo 1 n
  refine W.item i s _ _ hg st λv h' tk hv BA kk=>?_
  obtain⟨t,rfl⟩:=hv
  have I1:Inv X zC σ H { s with heap:=h',toks:=tk }:=I.turned (λb o hb e=>kk b o (by simpa using hb) e) f0 f1 f3 f4 f5
  refine⟨_,rfl,um (s:={ s with heap:=h',toks:=tk }) (n := "range_iterator") BA rfl rfl (by decide) ⟨.int (lo+i),H,I1,⟨t,?_⟩,⟨rfl,rfl⟩,BA,λb hb=>(hf b hb).1⟩⟩
  rw[Int.mul_one]
 done:=by
  intro X hP hw hK hc i zC s σ H E I hf st hg
  subst hP hw hK
  obtain⟨f0,f1,f2,f3,f4,f5⟩:=hf it (by simp)
  exact wpAny_pyNext_range_end (I.ok.hd hc) st (by have:n<=i:=hg;omega) λh' eb=>⟨rfl,I.turned (t':=s.toks) (λb o hb e=>eb b o hb e) f0 f1 f3 f4 f5⟩
 self:=λ_ _ _ _ _ st h=>wpAny_pyIter_rangeiter st h
section
variable {X:Cx}{tg:Expr}
def xX (K:W.Frag)(tl:TE):TI:=fun σ H R=>tl σ H λx H1=>∃a,x=.ref a/\(∃xs,A0 K H1 a xs)/\R (OQ K a) H1
def yG (K:W.Frag)(tl:TE):TI:=fun σ H R=>tl σ H λx H1=>∃a,x=.ref a/\(∃xs,B6 K H1 a xs)/\R (OR K a) H1
theorem vB {l:Expr}{tl:TE}(hl:PE X l tl):PI X tg l (xX X.K tl):=by
 intro zC s σ H R I h
 refine AM (hl zC s σ H _ I h) ?_
 rintro v s1 ⟨x,H1,I1,r1,q1⟩
 obtain⟨a,e,⟨xs,hq⟩,q⟩:=q1
 subst e
 cases r1
 obtain⟨As,rv,p,hz⟩:=I1.list hq
 refine fA p.isList ?_
 refine⟨s1.heap.objs.size,[s1.heap.objs.size],_,_,H1,rfl,I1.kept (t':=s1.toks) λb o e=>ac _ e,Fo a _,⟨_,ar _ rfl,rfl,rfl⟩,λb hb=>?_,q⟩
 have e:b=s1.heap.objs.size:=by simpa using hb
 subst e
 exact I1.GI (aE _) (I1.AK.fresh (aE _))
theorem uo {l:Expr}{tl:TE}(hl:PE X l tl):PI X tg l (yG X.K tl):=by
 intro zC s σ H R I h
 refine AM (hl zC s σ H _ I h) ?_
 rintro v s1 ⟨x,H1,I1,r1,q1⟩
 obtain⟨a,e,⟨xs,hq⟩,q⟩:=q1
 subst e
 cases r1
 obtain⟨As,rv,p,hz⟩:=I1.tuple hq
 refine eP (show s1.heap.IsTuple a As.toArray from p) ?_
 refine⟨s1.heap.objs.size,[s1.heap.objs.size],_,_,H1,rfl,I1.kept (t':=s1.toks) λb o e=>ac _ e,CW a _,⟨_,ar _ rfl,rfl,rfl⟩,λb hb=>?_,q⟩
 have e:b=s1.heap.objs.size:=by simpa using hb
 subst e
 exact I1.GI (aE _) (I1.AK.fresh (aE _))
theorem yH {R:It->Hp->Prop}{lo hi:Int}{t u v:Tok}{tk:Nat}(I:Inv X zC σ H s)(h1:-(2 ^ 62)<=lo)(h2:lo < 2 ^ 62)(h3:-(2 ^ 62)<=hi)(h4:hi < 2 ^ 62)
  (q:R (OS lo (hi - lo).toNat) H):wpAny (model X.prog X.w) X.A (pyIter (.ref s.heap.objs.size)) (PIE X zC σ tg R) E { s with heap:=s.heap.push { cls:=.type "range",data:=.fields #[.int lo t,.int hi u,.int 1 v] },toks:=tk }:=by
 refine wpAny_pyIter_range (IsRange.new ..) (small_one h1 h2 h3 h4) ?_
 have I1:Inv X zC σ H { s with heap:=s.heap.push { cls:=.type "range",data:=.fields #[.int lo t,.int hi u,.int 1 v] },toks:=tk }:=I.kept λb o e=>ac _ e
 refine⟨(s.heap.push { cls:=.type "range",data:=.fields #[.int lo t,.int hi u,.int 1 v] }).objs.size,[(s.heap.push { cls:=.type "range",data:=.fields #[.int lo t,.int hi u,.int 1 v] }).objs.size],_,_,H,rfl,
  I1.kept (t':=tk) λb o e=>ac _ e,CZ _ lo (hi - lo).toNat,?_,λb hb=>?_,q⟩
 ·have e1:lo+((0:Nat):Int)*1=lo:=by simp
  have e2:(((hi - lo).toNat:Nat):Int) - ((0:Nat):Int)=Builtin.Range.rangeSize lo hi 1:=by rw[rangeSize_one];split <;> omega
  show IsRangeIter _ _ (lo+((0:Nat):Int)*1) ((((hi - lo).toNat:Nat):Int) - ((0:Nat):Int)) 1
  rw[e1,e2]
  exact ar _ rfl
 ·have e:b=(s.heap.push { cls:=.type "range",data:=.fields #[.int lo t,.int hi u,.int 1 v] }).objs.size:=by simpa using hb
  subst e
  exact I1.GI (aE _) (I1.AK.fresh (aE _))
def C_ (ta:TA):TI:=fun σ H R=>ta σ H λvs H1=>∃j:Int,vs=[.int j]/\-(2 ^ 62)<=j/\j < 2 ^ 62/\R (OS 0 j.toNat) H1
def Rq (ta:TA):TI:=fun σ H R=>ta σ H λvs H1=>∃i j:Int,vs=[.int i,.int j]/\(-(2 ^ 62)<=i/\i < 2 ^ 62/\-(2 ^ 62)<=j/\j < 2 ^ 62)/\R (OS i (j - i).toNat) H1
theorem wM {a:Expr}{ta:TA}{p:Pos}(hg:Gl X "range")(hm:X.mg "range" = none)(ha:PA X [a] ta)(hs:starEach [a] X.env=[(false,eval a X.env)]:=by rfl):PI X tg (.Call (.Name "range" p) [a] [] pos) (C_ ta):=by
 intro zC s σ H R I h
 refine Call_ (fW I hg hm boot_range (cK (AM (ha pos zC s σ H _ I h) ?_) hs rfl))
 rintro us s1 ⟨vs,H1,I1,r1,q1⟩
 obtain⟨j,e,q1,q2,q⟩:=q1
 subst e
 cases r1 with
 | cons r rr=>
  cases rr
  obtain⟨t,rfl⟩:=r
  exact call_range_1 (yH I1 (by omega) (by omega) q1 q2 (by simpa using q))
theorem Fp {a b:Expr}{ta:TA}{p:Pos}(hg:Gl X "range")(hm:X.mg "range" = none)(ha:PA X [a,b] ta)(hs:starEach [a,b] X.env=[(false,eval a X.env),(false,eval b X.env)]:=by rfl)(EX:starEach [b] X.env=[(false,eval b X.env)]:=by rfl):
  PI X tg (.Call (.Name "range" p) [a,b] [] pos) (Rq ta):=by
 intro zC s σ H R I h
 refine Call_ (fW I hg hm boot_range (cK (AM (ha pos zC s σ H _ I h) λus s1 ⟨vs,H1,I1,r1,q1⟩=>?_) (by rw[hs,EX]) (by rw[EX];rfl)))
 obtain⟨i,j,e,⟨q1,q2,q3,q4⟩,q⟩:=q1
 subst e
 cases r1 with
 | cons r rr=>
  cases rr with
  | cons r' rr=>
   cases rr
   obtain⟨t,rfl⟩:=r
   obtain⟨t',rfl⟩:=r'
   exact call_range_2 (yH I1 q1 q2 q3 q4 q)
def vC (wi:TI)(g:TG)(tb:TS):TS:=λD σ H=>wi σ H λJ H1=>∃W:Nat->Nat->St->Hp->Prop,(∃m,W 0 m σ H1)/\∀i m σ H,W i m σ H->
 (J.stop i H/\D.nx σ H)\/(J.go i H/\∃N:St->Hp->Prop,(∀ σ' H',N σ' H'->∃m',m' < m/\W (i+1) m' σ' H')/\∀x H',J.L4 i H x H'->g x σ H' fun σ2 H2=>tb { D with nx:=N,ct:=N,bk:=D.nx } σ2 H2)
noncomputable def mQ (fp:qr)(h:Heap):List (Addr×Obj):=fp.filterMap λb=>(h.get? b).map λo=>(b,o)
theorem gn {fp:qr}{o:Obj}(hb:b∈fp)(e:h.get? b=some o):(b,o)∈mQ fp h:=List.mem_filterMap.mpr ⟨b,hb,by rw[e];rfl⟩
theorem Fq {fp:qr}{p:Addr×Obj}(hp:p∈mQ fp h):p.1∈fp/\h.get? p.1=some p.2:=by
 obtain⟨b,hb,e⟩:=List.mem_filterMap.mp hp
 cases q:h.get? b with
 | none=>rw[q] at e;cases e
 | some o=>
  rw[q] at e
  have e':(b,o)=p:=be e
  subst e'
  exact⟨hb,q⟩
theorem Inv.pinned {fp:qr}(I:Inv X zC σ H s)(hf:∀b∈fp,gP X zC H b)(ho:∀b∈fp,∃o,s.heap.get? b=some o/\∀v,o.data≠.cell v):Inv X (zC++mQ fp s.heap) σ H s:=
 I.Kb λp hp=>(bq.mp hp).elim (λz=>I.pin p (bS _ z)) λz=>by
  obtain⟨hb,e⟩:=Fq z
  obtain⟨f0,f1,f2,_⟩:=hf p.1 hb
  obtain⟨o,e',d⟩:=ho p.1 hb
  rw[e] at e';cases e'
  exact⟨e,f0,f1,f2,d⟩
theorem Inv.C0 {pl:p9}(I:Inv X (zC++pl) σ H s):Inv X zC σ H s:=I.Kb λp hp=>I.pin p (bS _ (bn _ hp))
theorem mR {iter:Expr}{body:qh}{wi:TI}{g:TG}{tb:TS}(hp:PassesOwn (model X.prog X.w) X.A X.env X.xe)(hc:X.calm=true)(hi:PI X tg iter wi)(hg:PG X tg g)(hb:Fh X body tb)
  (hs:∀x,foldedSetIterable iter X.env x=pure x:=by intro _;rfl):PS X (.For tg iter body [] pos) (vC wi g tb):=by
 intro zC s σ H D I h
 refine wpAny_For (AM (hi zC s σ H _ I h) λv s1 h1=>AM h1 λQ2 s2 h2=>?_) hs
 obtain⟨it,fp,tn,J,H2,e,I2,T,TB,f2,W,⟨m0,w0⟩,turn⟩:=h2
 subst e
 have Fm:∀{H':Hp},(∀b∈fp,H' b=none)->∀b∈fp,gP X zC H' b:=λhn b hb=>⟨hn b hb,(f2 b hb).2⟩
 refine codeAny_forLoop_any (λn s'=>∃i σ' H',Inv X zC σ' H' s'/\tn i s'.heap/\(∀b∈fp,H' b=none)/\W i n σ' H') ?_ m0 ⟨0,σ,H2,I2,TB,λb hb=>(f2 b hb).1,w0⟩
 rintro n s3 ⟨i,σ3,H3,I3,Rl,RA,w3⟩
 rcases turn i n σ3 H3 w3 with ⟨stop,qn⟩ | ⟨go,N,hN,step⟩
 ·refine ia hp (AM (T.done X rfl rfl rfl hc i zC s3 σ3 H3 X.xe I3 (Fm RA) Rl stop) ?_)
  rintro r s4 ⟨hr,I4⟩
  subst hr
  exact lT ⟨σ3,H3,I4,qn⟩
 ·refine ia hp (AM (T.item X rfl rfl rfl hc i zC s3 σ3 H3 X.xe I3 (Fm RA) Rl go) ?_)
  rintro r s4 ⟨u,hr,h4⟩
  subst hr
  refine ia hp (AM h4 ?_)
  rintro _ s5 ⟨x,H5,I5,r5,y5,L5,VQ⟩
  have VR:=I5.pinned (Fm VQ) (T.obj _ _ L5)
  refine ia hp (AM (hg _ s5 σ3 H5 x u _ VR r5 (step x H5 y5)) ?_)
  rintro _ s6 ⟨σ6,H6,I6,q6⟩
  refine ia hp (AM (hb _ s6 σ6 H6 _ I6 q6) λf s7 q7=>?_)
  have again:∀{σ7:St}{H7:Hp},Inv X (zC++mQ fp s5.heap) σ7 H7 s7->N σ7 H7->∃m,m < n/\∃i σ' H',Inv X zC σ' H' s7/\tn i s7.heap/\(∀b∈fp,H' b=none)/\W i m σ' H':=λ{σ7 H7} I7 n7=>by
   obtain⟨m',hm,w7⟩:=hN σ7 H7 n7
   refine⟨m',hm,i+1,σ7,H7,I7.C0,T.keep _ _ _ L5 λb hb o e=>(I7.pin (b,o) (bS _ (bS _ (gn hb e)))).1,λb hb=>?_,w7⟩
   obtain⟨o,e,d⟩:=T.obj _ _ L5 b hb
   exact(I7.pin (b,o) (bS _ (bS _ (gn hb e)))).2.1
  cases f with
  | next=>obtain⟨σ7,H7,I7,n7⟩:=q7;exact again I7 n7
  | cont=>obtain⟨σ7,H7,I7,n7⟩:=q7;exact again I7 n7
  | brk=>obtain⟨σ7,H7,I7,q7⟩:=q7;exact⟨σ7,H7,I7.C0,q7⟩
  | ret v=>obtain⟨x7,σ7,H7,I7,r7,q7⟩:=q7;exact⟨x7,σ7,H7,I7.C0,r7,q7⟩
end
theorem HH {xs:List V}{g:TG}{tb:TS}{D:Ends}(Pv:Nat->St->Hp->Prop)(h0:Pv 0 σ H)(hl:∀i σ H,i<=xs.length->Pv i σ H->A0 K H a xs)
  (hs:∀i x σ H,xs[i]?=some x->Pv i σ H->g x σ H fun σ2 H2=>tb { D with nx:=Pv (i+1),ct:=Pv (i+1),bk:=D.nx } σ2 H2) (hd:∀ σ H,Pv xs.length σ H->D.nx σ H):
  ∃W:Nat->Nat->St->Hp->Prop,(∃m,W 0 m σ H)/\∀i m σ H,W i m σ H->
   ((OQ K a).stop i H/\D.nx σ H)\/((OQ K a).go i H/\∃N:St->Hp->Prop,(∀ σ' H',N σ' H'->∃m',m' < m/\W (i+1) m' σ' H')/\∀x H',(OQ K a).L4 i H x H'->g x σ H' fun σ2 H2=>tb { D with nx:=N,ct:=N,bk:=D.nx } σ2 H2):=by
 refine⟨λi m σ H=>m=xs.length - i/\i<=xs.length/\Pv i σ H,⟨xs.length,by simp,cq _,h0⟩,?_⟩
 rintro i m σ H ⟨rfl,hi,p⟩
 have q:=hl i σ H hi p
 by_cases A6:i < xs.length
 ·refine .inr ⟨⟨xs,xs[i],q,by simp[A6]⟩,Pv (i+1),fun σ' H' p'=>⟨xs.length - (i+1),by omega,rfl,A6,p'⟩,λx H' y=>?_⟩
  obtain⟨e,y⟩:=y
  subst e
  exact hs i x σ _ (y xs q) p
 ·have e:i=xs.length:=by omega
  subst e
  exact .inl ⟨⟨xs,q,aE _⟩,hd σ H p⟩
theorem Br {xs:List V}{g:TG}{tb:TS}{D:Ends}(Pv:Nat->St->Hp->Prop)(h0:Pv 0 σ H)(hl:∀i σ H,i<=xs.length->Pv i σ H->B6 K H a xs)
  (hs:∀i x σ H,xs[i]?=some x->Pv i σ H->g x σ H fun σ2 H2=>tb { D with nx:=Pv (i+1),ct:=Pv (i+1),bk:=D.nx } σ2 H2) (hd:∀ σ H,Pv xs.length σ H->D.nx σ H):
  ∃W:Nat->Nat->St->Hp->Prop,(∃m,W 0 m σ H)/\∀i m σ H,W i m σ H->
   ((OR K a).stop i H/\D.nx σ H)\/((OR K a).go i H/\∃N:St->Hp->Prop,(∀ σ' H',N σ' H'->∃m',m' < m/\W (i+1) m' σ' H')/\∀x H',(OR K a).L4 i H x H'->g x σ H' fun σ2 H2=>tb { D with nx:=N,ct:=N,bk:=D.nx } σ2 H2):=by
 refine⟨λi m σ H=>m=xs.length - i/\i<=xs.length/\Pv i σ H,⟨xs.length,by simp,cq _,h0⟩,?_⟩
 rintro i m σ H ⟨rfl,hi,p⟩
 have q:=hl i σ H hi p
 by_cases A6:i < xs.length
 ·refine .inr ⟨⟨xs,xs[i],q,by simp[A6]⟩,Pv (i+1),fun σ' H' p'=>⟨xs.length - (i+1),by omega,rfl,A6,p'⟩,λx H' y=>?_⟩
  obtain⟨e,y⟩:=y
  subst e
  exact hs i x σ _ (y xs q) p
 ·have e:i=xs.length:=by omega
  subst e
  exact .inl ⟨⟨xs,q,aE _⟩,hd σ H p⟩
abbrev R2:=V->V->Hp->VK->Prop
def BN (X:Cx)(f:Value->Value->Sem Value)(r:R2):Prop:=
 ∀(zC:p9) (s:Shared) (σ:St) (H:Hp) (x y:V) (v u:Value) (Q:VK),Inv X zC σ H s->RelV x v->RelV y u->r x y H Q->
  wpAny (model X.prog X.w) X.A (f v u) (EP X zC σ Q) X.xe s
def Yz (X:Cx)(f:Value->Sem Value)(r:V->Hp->VK->Prop):Prop:=
 ∀(zC:p9) (s:Shared) (σ:St) (H:Hp) (x:V) (v:Value) (Q:VK),Inv X zC σ H s->RelV x v->r x H Q->
  wpAny (model X.prog X.w) X.A (f v) (EP X zC σ Q) X.xe s
def A7 (X:Cx)(f:Value)(r:List V->Hp->VK->Prop):Prop:=
 ∀(zC:p9) (s:Shared) (σ:St) (H:Hp) (xs:List V) (us:qf) (Q:VK),Inv X zC σ H s->Vals xs us->r xs H Q->
  wpAny (model X.prog X.w) X.A (call f us) (EP X zC σ Q) X.xe s
def L6 (r:R2)(ta tb:TE):TE:=fun σ H Q=>ta σ H λx H1=>tb σ H1 λy H2=>r x y H2 Q
def tUn (r:V->Hp->VK->Prop)(ta:TE):TE:=fun σ H Q=>ta σ H λx H1=>r x H1 Q
def rI (C:Int->Int->Prop)(g:Int->Int->V):R2:=λx y H Q=>∃i j,x=.int i/\y=.int j/\C i j/\Q (g i j) H
def Of (g:Int->Int->V):R2:=λx y H Q=>∃i j,x=.int i/\y=.int j/\Q (g i j) H
def rU (g:Int->V):V->Hp->VK->Prop:=λx H Q=>∃i,x=.int i/\Q (g i) H
section
variable {X:Cx}{a b c:Expr}{ta tb tc:TE}{pos:Pos}
theorem HJ (ha:PE X a ta)(hb:PE X b tb){R:V->V->Hp->Prop}(I:Inv X zC σ H s)
  (h:ta σ H λx H1=>tb σ H1 λy H2=>R x y H2){Q:oT}{f:Value->Value->Sem Value}
  (hf:∀v u s2 x y H2,Inv X zC σ H2 s2->RelV x v->RelV y u->R x y H2->wpAny (model X.prog X.w) X.A (f v u) Q X.xe s2):
  wpAny (model X.prog X.w) X.A (eval a X.env) (λv s₁=>wpAny (model X.prog X.w) X.A (eval b X.env) (λu s₂=>wpAny (model X.prog X.w) X.A (f v u) Q X.xe s₂) X.xe s₁) X.xe s:=by
 refine AM (ha zC s σ H _ I h) ?_
 rintro v s1 ⟨x,H1,I1,r1,q1⟩
 refine AM (hb zC s1 σ H1 _ I1 q1) ?_
 rintro u s2 ⟨y,H2,I2,r2,q2⟩
 exact hf v u s2 x y H2 I2 r1 r2 q2
theorem Kf {op:Operator}{r:R2}(ho:BN X (binaryOp op) r)(ha:PE X a ta)(hb:PE X b tb):PE X (.BinOp a op b pos) (L6 r ta tb):=by
 intro zC s σ H Q I h
 exact wpAny_BinOp (HJ ha hb I h λv u s2 x y H2 I2 rx ry q=>ho zC s2 σ H2 x y v u Q I2 rx ry q)
theorem Rr {op:UnaryOp}{r:V->Hp->VK->Prop}(ho:Yz X (unaryOp op) r)(ha:PE X a ta):PE X (.UnaryOp op a pos) (tUn r ta):=by
 intro zC s σ H Q I h
 exact UnaryOp_ (AM (ha zC s σ H _ I h) λv s1 ⟨x,H1,I1,r1,q1⟩=>ho zC s1 σ H1 x v Q I1 r1 q1)
theorem YA {f:Value->Value->Sem Value}{C:Int->Int->Prop}{g:Int->Int->Int}
  (rule:∀(i j:Int) (t u:Tok) (s:Shared) (Q:oT) (E:oT),C i j->Q (.int (g i j) s.toks) { s with toks:=s.toks+1 }->wpAny (model X.prog X.w) X.A (f (.int i t) (.int j u)) Q E s):
  BN X f (rI C λi j=>.int (g i j)):=by
 intro zC s σ H x y v u Q I rx ry h
 obtain⟨i,j,rfl,rfl,hc,q⟩:=h
 obtain⟨t,rfl⟩:=rx
 obtain⟨t',rfl⟩:=ry
 exact rule i j t t' s _ _ hc ⟨.int (g i j),H,I.tok _,⟨_,rfl⟩,q⟩
theorem Od {f:Value->Value->Sem Value}{g:Int->Int->Int}
  (rule:∀(i j:Int) (t u:Tok) (s:Shared) (Q:oT) (E:oT),Q (.int (g i j) s.toks) { s with toks:=s.toks+1 }->wpAny (model X.prog X.w) X.A (f (.int i t) (.int j u)) Q E s):
  BN X f (Of λi j=>.int (g i j)):=by
 intro zC s σ H x y v u Q I rx ry h
 obtain⟨i,j,rfl,rfl,q⟩:=h
 obtain⟨t,rfl⟩:=rx
 obtain⟨t',rfl⟩:=ry
 exact rule i j t t' s _ _ ⟨.int (g i j),H,I.tok _,⟨_,rfl⟩,q⟩
theorem Oe {f:Value->Value->Sem Value}{g:Int->Int->Bool}
  (rule:∀(i j:Int) (t u:Tok) (s:Shared) (Q:oT) (E:oT),Q (.bool (g i j)) s->wpAny (model X.prog X.w) X.A (f (.int i t) (.int j u)) Q E s):
  BN X f (Of λi j=>.bl (g i j)):=by
 intro zC s σ H x y v u Q I rx ry h
 obtain⟨i,j,rfl,rfl,q⟩:=h
 obtain⟨t,rfl⟩:=rx
 obtain⟨t',rfl⟩:=ry
 exact rule i j t t' s _ _ ⟨.bl (g i j),H,I,rfl,q⟩
def Og (i j:Int):Prop:=0 < j/\j < 1073741824
def OT (i j:Int):Prop:=(-(2 ^ 64) < i/\i < 2 ^ 64)\/(-(2 ^ 64) < j/\j < 2 ^ 64)
theorem OT.ok {i j:Int}(h:OT i j):IntMulOk i j:=by
 rcases h with ⟨h1,h2⟩ | ⟨h1,h2⟩
 ·exact .of_left (intBits_le_64 h1 h2)
 ·exact .of_right (intBits_le_64 h1 h2)
theorem Oh:BN X (binaryOp .Add) (Of λi j=>.int (i+j)):=Od λ_ _ _ _ _ _ _ q=>add_int q
theorem Oi:BN X (binaryOp .Sub) (Of λi j=>.int (i - j)):=Od λ_ _ _ _ _ _ _ q=>sub_int q
theorem Oj:BN X (binaryOp .Mult) (rI OT λi j=>.int (i*j)):=YA λ_ _ _ _ _ _ _ hc q=>mul_int q hc.ok
theorem KJ:BN X (binaryOp .FloorDiv) (rI Og λi j=>.int (i / j)):=YA λi j _ _ _ _ _ hc q=>by
 have h1:(0:Int) < j:=hc.1
 have h2:j < 1073741824:=hc.2
 exact floordiv_int (by omega) (by rw[Int.fdiv_eq_ediv_of_nonneg i (by omega)];exact q) (.inl (PyProof.noPylong_small (by omega)))
theorem Ol:BN X (binaryOp .Mod) (rI (λ_ j=>0 < j) λi j=>.int (i % j)):=YA λi j _ _ _ _ _ hc q=>by
 have h1:(0:Int) < j:=hc
 exact mod_int' (by omega) (by rw[Int.fmod_eq_emod_of_nonneg i (by omega)];exact q)
theorem CM {f:Value->Sem Value}{g:Int->Int}
  (rule:∀(i:Int) (t:Tok) (s:Shared) (Q:oT) (E:oT),Q (.int (g i) s.toks) { s with toks:=s.toks+1 }->wpAny (model X.prog X.w) X.A (f (.int i t)) Q E s):
  Yz X f (rU λi=>.int (g i)):=by
 intro zC s σ H x v Q I rx h
 obtain⟨i,rfl,q⟩:=h
 obtain⟨t,rfl⟩:=rx
 exact rule i t s _ _ ⟨.int (g i),H,I.tok _,⟨_,rfl⟩,q⟩
theorem Om:Yz X (unaryOp .USub) (rU λi=>.int (-i)):=CM λ_ _ _ _ _ q=>neg_int q
end
noncomputable def HN:V->V->Bool
 | .Au,.Au=>true | .Au,.int _=>true | .int _,.Au=>true | .Au,.bl _=>true | .bl _,.Au=>true | .Au,.str _=>true | .str _,.Au=>true
 | .int _,.int _=>true | .bl _,.bl _=>true | .str _,.str _=>true | .LM _,.LM _=>true
 | .int _,.str _=>true | .str _,.int _=>true | .bl _,.str _=>true | .str _,.bl _=>true
 | _,_=>false
def rEq:R2:=λx y H Q=>HN x y=true/\Q (.bl (decide (x=y))) H
def rNe:R2:=λx y H Q=>HN x y=true/\Q (.bl (!decide (x=y))) H
theorem Bt {i j:Int}:decide (V.int i=V.int j)=(i == j):=by
 rw[fI]
 simp
theorem Ft {i j:Bool}:decide (V.bl i=V.bl j)=(i == j):=by
 rw[fI]
 simp
theorem Bu {i j:Str}:decide (V.str i=V.str j)=(i == j):=by
 rw[fI]
 simp
theorem Bv {i j:Array UInt8}:decide (V.LM i=V.LM j)=(i.toList == j.toList):=by
 rw[fI]
 cases i
 cases j
 simp
variable {us:qf}
section
variable {X:Cx}{a b c:Expr}{ta tb tc:TE}{pos:Pos}
theorem aY {Q:VK}{k k':Bool}(I:Inv X zC σ H s)(q:Q (.bl k) H)(e:k=k'):EP X zC σ Q (.bool k') s:=by
 subst e
 exact⟨.bl k,H,I,rfl,q⟩
theorem Rt:BN X (compareOp .Eq) rEq:=by
 intro zC s σ H x y v u Q I rx ry h
 obtain⟨hs,q⟩:=h
 cases x with
 | Au=>
  cases rx
  cases y with
  | Au=>cases ry;exact PySem.EqNone.eq_none_none (aY I q (by simp))
  | bl j=>cases ry;exact PySem.EqNone.eq_none_bool (aY I q (by simp))
  | int j=>obtain⟨t',rfl⟩:=ry;exact PySem.EqNone.eq_none_int (aY I q (by simp))
  | str j=>obtain⟨t',rfl⟩:=ry;exact PySem.EqNone.eq_none_str (aY I q (by simp))
  | _=>exact absurd (show false=true from hs) bd
 | bl i=>
  cases rx
  cases y with
  | Au=>cases ry;exact PySem.EqNone.eq_bool_none (aY I q (by simp))
  | bl j=>cases ry;exact eq_bool (aY I q Ft)
  | str j=>obtain⟨t',rfl⟩:=ry;exact PySem.EqMixed.eq_bool_str (aY I q (by simp))
  | _=>exact absurd (show false=true from hs) bd
 | int i=>
  obtain⟨t,rfl⟩:=rx
  cases y with
  | Au=>cases ry;exact PySem.EqNone.eq_int_none (aY I q (by simp))
  | int j=>obtain⟨t',rfl⟩:=ry;exact eq_int (aY I q Bt)
  | str j=>obtain⟨t',rfl⟩:=ry;exact PySem.EqMixed.eq_int_str (aY I q (by simp))
  | _=>exact absurd (show false=true from hs) bd
 | str i=>
  obtain⟨t,rfl⟩:=rx
  cases y with
  | Au=>cases ry;exact PySem.EqNone.eq_str_none (aY I q (by simp))
  | bl j=>cases ry;exact PySem.EqMixed.eq_str_bool (aY I q (by simp))
  | int j=>obtain⟨t',rfl⟩:=ry;exact PySem.EqMixed.eq_str_int (aY I q (by simp))
  | str j=>obtain⟨t',rfl⟩:=ry;exact eq_str (aY I q Bu)
  | _=>exact absurd (show false=true from hs) bd
 | LM i=>
  obtain⟨t,rfl⟩:=rx
  cases y with
  | LM j=>obtain⟨t',rfl⟩:=ry;exact W.eq_bytes (aY I q Bv)
  | _=>exact absurd (show false=true from hs) bd
 | _=>cases y <;> exact absurd (show false=true from hs) bd
theorem Ru:BN X (compareOp .NotEq) rNe:=by
 intro zC s σ H x y v u Q I rx ry h
 obtain⟨hs,q⟩:=h
 cases x with
 | Au=>
  cases rx
  cases y with
  | Au=>cases ry;exact PySem.EqNone.ne_none_none (aY I q (by simp))
  | bl j=>cases ry;exact PySem.EqNone.ne_none_bool (aY I q (by simp))
  | int j=>obtain⟨t',rfl⟩:=ry;exact PySem.EqNone.ne_none_int (aY I q (by simp))
  | str j=>obtain⟨t',rfl⟩:=ry;exact PySem.EqNone.ne_none_str (aY I q (by simp))
  | _=>exact absurd (show false=true from hs) bd
 | bl i=>
  cases rx
  cases y with
  | Au=>cases ry;exact PySem.EqNone.ne_bool_none (aY I q (by simp))
  | bl j=>cases ry;exact ne_bool (aY I q (dP not Ft))
  | str j=>obtain⟨t',rfl⟩:=ry;exact PySem.EqMixed.ne_bool_str (aY I q (by simp))
  | _=>exact absurd (show false=true from hs) bd
 | int i=>
  obtain⟨t,rfl⟩:=rx
  cases y with
  | Au=>cases ry;exact PySem.EqNone.ne_int_none (aY I q (by simp))
  | int j=>obtain⟨t',rfl⟩:=ry;exact ne_int (aY I q (dP not Bt))
  | str j=>obtain⟨t',rfl⟩:=ry;exact PySem.EqMixed.ne_int_str (aY I q (by simp))
  | _=>exact absurd (show false=true from hs) bd
 | str i=>
  obtain⟨t,rfl⟩:=rx
  cases y with
  | Au=>cases ry;exact PySem.EqNone.ne_str_none (aY I q (by simp))
  | bl j=>cases ry;exact PySem.EqMixed.ne_str_bool (aY I q (by simp))
  | int j=>obtain⟨t',rfl⟩:=ry;exact PySem.EqMixed.ne_str_int (aY I q (by simp))
  | str j=>obtain⟨t',rfl⟩:=ry;exact ne_str (aY I q (dP not Bu))
  | _=>exact absurd (show false=true from hs) bd
 | LM i=>
  obtain⟨t,rfl⟩:=rx
  cases y with
  | LM j=>obtain⟨t',rfl⟩:=ry;exact W.ne_bytes (aY I q (dP not Bv))
  | _=>exact absurd (show false=true from hs) bd
 | _=>cases y <;> exact absurd (show false=true from hs) bd
theorem Rv:BN X (compareOp .Lt) (Of λi j=>.bl (decide (i < j))):=Oe λ_ _ _ _ _ _ _ q=>lt_int q
theorem Rx:BN X (compareOp .Gt) (Of λi j=>.bl (decide (j < i))):=Oe λ_ _ _ _ _ _ _ q=>gt_int q
theorem Oo:BN X (compareOp .Is) (λx y H Q=>y=.Au/\Q (.bl (decide (x=.Au))) H):=by
 intro zC s σ H x y v u Q I rx ry h
 obtain⟨rfl,q⟩:=h
 cases ry
 refine is_none_gen (aY I q ?_)
 cases x <;> first
  | (cases rx;rfl)
  | (obtain⟨t,rfl⟩:=rx;rfl)
theorem Bw:BN X (compareOp .IsNot) (λx y H Q=>y=.Au/\Q (.bl (!decide (x=.Au))) H):=by
 intro zC s σ H x y v u Q I rx ry h
 obtain⟨rfl,q⟩:=h
 cases ry
 refine isnot_none_gen (aY I q ?_)
 cases x <;> first
  | (cases rx;rfl)
  | (obtain⟨t,rfl⟩:=rx;rfl)
theorem BN.or {f:Value->Value->Sem Value}{r r':R2}(h:BN X f r)(h':BN X f r'):BN X f (λx y H Q=>r x y H Q\/r' x y H Q):=by
 intro zC s σ H x y v u Q I rx ry q
 rcases q with q | q
 ·exact h zC s σ H x y v u Q I rx ry q
 ·exact h' zC s σ H x y v u Q I rx ry q
theorem j8 (b:Expr)(h:op≠.In:=by decide)(h2:op≠.NotIn:=by decide):behindInMarks op b=false:=by
 have e1:(op == CmpOp.In)=false:=by cases op <;> first | rfl | exact absurd rfl h
 have e2:(op == CmpOp.NotIn)=false:=by cases op <;> first | rfl | exact absurd rfl h2
 cases b <;> simp[behindInMarks,e1,e2]
theorem KN {r:R2}(ho:BN X (compareOp op) r)(ha:PE X a ta)(hb:PE X b tb)(hm:behindInMarks op b=false):PE X (.Compare a [op] [b] pos) (L6 r ta tb):=by
 intro zC s σ H Q I h
 exact wpAny_Compare1 (HJ ha hb I h λv u s2 x y H2 I2 rx ry q=>ho zC s2 σ H2 x y v u Q I2 rx ry q) hm
def Ry (t:TE):TT:=fun σ H Q=>t σ H λx H'=>∃k,x=.bl k/\Q k H'
theorem KQ {r:R2}(ho:BN X (compareOp op) r)(ha:PE X a ta)(hb:PE X b tb)(hm:behindInMarks op b=false):PT X (.Compare a [op] [b] pos) (Ry (L6 r ta tb)):=by
 intro zC s σ H Q I h
 refine wpAny_isTrue_Compare1 (AM (ha zC s σ H _ I h) λv s1 ⟨x,H1,I1,r1,q1⟩=>AM (hb zC s1 σ H1 _ I1 q1) λu s2 ⟨y,H2,I2,r2,q2⟩=>
  AM (ho zC s2 σ H2 x y v u _ I2 r1 r2 q2) λc s3 ⟨z,H3,I3,r3,k,e,q3⟩=>?_) hm
 subst e
 cases r3
 exact im ⟨H3,I3,q3⟩
theorem mU:(sizeLine:Nat) < 2 ^ 63:=by rw[iF];decide
theorem Dc:BN X (binaryOp .Add) (λx y H Q=>∃i j,x=.str i/\y=.str j/\i.length+j.length<=sizeLine/\Q (.str (i++j)) H):=by
 intro zC s σ H x y v u Q I rx ry h
 obtain⟨i,j,rfl,rfl,hz,q⟩:=h
 obtain⟨t,rfl⟩:=rx
 obtain⟨t',rfl⟩:=ry
 exact add_str (λt' tk=>⟨.str (i++j),H,I.tok _,⟨_,rfl⟩,q⟩) hz
theorem vals1 {x:V}(r:Vals [x] us):∃u,us=[u]/\RelV x u:=by
 cases r with
 | cons r1 r2=>cases r2;exact⟨_,rfl,r1⟩
theorem vals2 {x y:V}(r:Vals [x,y] us):∃u w',us=[u,w']/\RelV x u/\RelV y w':=by
 cases r with
 | cons r1 r2=>
  cases r2 with
  | cons r3 r4=>cases r4;exact⟨_,_,rfl,r1,r3⟩
theorem Fv (hc:X.calm=true):A7 X (.builtin "min") (λxs H Q=>∃i j,xs=[.int i,.int j]/\Q (.int (if j < i then j else i)) H):=by
 intro zC s σ H xs us Q I r h
 obtain⟨i,j,rfl,q⟩:=h
 obtain⟨u,w',rfl,⟨t,rfl⟩,⟨t',rfl⟩⟩:=vals2 r
 refine min_two_ints (I.ok.hd hc) λh' tk k=>⟨_,H,I.kept k,?_,q⟩
 by_cases hj:j < i
 ·rw[a0 hj,a0 hj];exact⟨_,rfl⟩
 ·rw[ax hj,ax hj];exact⟨_,rfl⟩
end
structure IQ (h:Heap)(x dx C:Addr)(mA:Str->Option Value):Prop where
 obj:h.get? x=some (W.instObj C dx)
 ns:h.Ns1 dx mA
 ne:dx≠x
theorem Fw {dx:Addr}{mA:Str->Option Value}(n:h.Ns1 dx mA):∃od,h.get? dx=some od/\∀name,W.lookIn name od=some (mA name):=by
 obtain⟨o,es,ep,ho,hd,hk,_,hm⟩:=n
 refine⟨o,ho,λname=>?_⟩
 have e:=hm name
 unfold nsFind findBy at e
 rw[← Array.find?_toList] at e
 unfold W.lookIn
 rw[hd]
 dsimp only
 split
 ·rename_i y q
  rw[q] at e
  exact dP some e
 ·rename_i q
  rw[q] at e
  have a:es.toList.any (·.refKey)=false:=by
   rw[nn]
   intro y hy
   obtain⟨z,t,TC⟩:=hk y (Array.mem_toList_iff.mp hy)
   simp[DictEntry.refKey,TC]
  have a':¬ es.toList.any (·.refKey)=true:=by rw[a];exact bd
  rw[ax a']
  exact dP some e
theorem IQ.look {x dx C:Addr}{mA:Str->Option Value}(I:IQ h x dx C mA):∃od,W.InstAt h x (W.instObj C dx) C (some od)/\∀name,W.lookIn name od=some (mA name):=
 let ⟨od,ho,hl⟩:=Fw I.ns
 ⟨od,⟨I.obj,rfl,rfl,ho⟩,hl⟩
variable {kw:List (Str×Value)}
section
variable {prog:Program}{w:World}{A:Around}{E:oT}{s:Shared}{K:W.Frag}{x dx C f:Addr}{mA:Str->Option Value}{name:Str}{v:Value}
theorem KR {expr:Bool}{Q:oT}(X:K.In s.heap)(I:IQ s.heap x dx C mA)(hg:W.plainGet K C name=true)(hh:W.hasDictIn K C=true)
  (ha:W.findIn K (.ref C) name=some none) (hv:mA name=some v) (XB:W.handedIn v=true) (h:Q v { s with toks:=s.toks+1 }):
  wpAny (model prog w) A (getAttr (.ref x) name expr) Q E s:=by
 obtain⟨od,J,hl⟩:=I.look
 exact W.get_value X J (md hg).1 (W.findObj_own hh ha rfl (by rw[hl,hv])) XB h
theorem HQ {pl:Sem Bool}{Q:Value×List Value->Shared->Prop}(X:K.In s.heap)(I:IQ s.heap x dx C mA)(hg:W.plainGet K C name=true)
  (hf:W.findIn K (.ref C) name=some (some (.ref f))) (ht:W.isFn K (.ref f)=true) (hv:mA name=none) (h:Q (.ref f,[.ref x]) s):
  wpAny (model prog w) A (getMethod (.ref x) name pl) Q E s:=by
 obtain⟨od,J,hl⟩:=I.look
 exact W.method_fn X J (md hg).1 (md hg).2 hf (hJ.mp ht) (by show (W.lookIn name od).map (·.isSome)=some false;rw[hl,hv];rfl) h
theorem KY {ns:qo}(X:K.In s.heap)(I:IQ s.heap x dx C mA)
  (hs:W.findIn K (.ref C) "__setattr__" = some (some (.builtin "object.__setattr__"))) (hp:W.plainOver K C=true) (ht:W.takerIn K C name=some none) (hh:W.hasDictIn K C=true)
  (hw:PySem.Within mA ns) (hsz:ns.length<=sizeLine)
  (h:∀h',IQ h' x dx C (λy=>if y=name then some v else mA y)->Heap.SameBut dx s.heap h'->Q () { s with heap:=h',toks:=s.toks+2 }):
  wpAny (model prog w) A (setAttr (.ref x) name v) Q E s:=by
 obtain⟨od,J,hl⟩:=I.look
 refine W.set_plain X J hs (W.osa_open (s:={ s with toks:=s.toks+1 }) (r:=none) X J hp ht λb=>?_)
 obtain⟨cd,hc,S1⟩:=W.any_some hh
 have hx:s.heap.get? x=some ⟨.ref C,some dx,.plain,#[]⟩:=I.obj
 refine ab (ae (ab (ab (wpAny_loadPart hx (ab (W.Looks.here (s:={ s with toks:=s.toks+1 }) (W.looks_clsIn X hc) ?_))))))
 rw[S1]
 refine ae (a:=some dx) (ab (ae (ab ?_)))
 refine wpAny_nsSet1 (s:={ s with toks:=s.toks+1 }) I.ns λh' XC EX=>?_
 obtain⟨oD,esD,epD,hoD,hdD,hcD⟩:=XC.count (PySem.Within.cons name v hw)
 refine ab (wpAny_lookBehind hoD (by rw[hdD];exact pastItsLine_dict (d5 hcD (by rw[bv];omega))) ?_)
 exact ae (h _ ⟨(EX.2 _ (fT I.ne)).trans I.obj,XC,I.ne⟩ EX)
theorem HR {R:Result->Shared->Prop}{vs:qf}(X:K.In s.heap)(hm:W.makesIn K C=true)
  (hi:W.findIn K (.ref C) "__init__" = some (some (.ref f))) (hf:W.typeIn K (.ref f)=some (.type "function"))
  (h:codeAny (model prog w) (A.under (.builtin "type.__call__" ⟨.ref C::vs,kw⟩)) (.call (.ref f) ⟨.ref (s.heap.objs.size+1)::vs,kw⟩) (W.InitBack (s.heap.objs.size+1) R)
   { s with heap:=(s.heap.push W.emptyDict).push (W.instObj C s.heap.objs.size) }):
  codeAny (model prog w) A (.call (.ref C) ⟨vs,kw⟩) R s:=by
 obtain⟨hh,g,d,t,os⟩:=s
 exact W.make_core (W.makes_of X hm) (W.looks_findIn X hi) (λself=>W.bind_fn X self hf) (.inl rfl) h
end
noncomputable def bT (f:Str)(v:V):List (Str×V)->List (Str×V)
 | []=>[(f,v)]
 | (g,x)::r=>if g=f then (g,v)::r else (g,x)::bT f v r
theorem rK (f g:Str)(v:V):∀fs:List (Str×V),(bT f v fs).lookup g=if g=f then some v else fs.lookup g
 | []=>by
  show List.lookup g [(f,v)]=_
  by_cases h:g=f
  ·have hb:(g == f)=true:=hJ.mpr h
   simp only[List.lookup,hb,a0 h]
  ·have hb:(g == f)=false:=fF.mpr h
   simp only[List.lookup,hb,ax h]
 | (k,x)::r=>by
  have ih:=rK f g v r
  rw[show bT f v ((k,x)::r)=(if k=f then (k,v)::r else (k,x)::bT f v r) from rfl]
  by_cases hk:k=f
  ·rw[a0 hk]
   by_cases h:g=k
   ·have hb:(g == k)=true:=hJ.mpr h
    simp only[List.lookup,hb,a0 (h.trans hk)]
   ·have hb:(g == k)=false:=fF.mpr h
    simp only[List.lookup,hb,ax (λe:g=f=>h (e.trans hk.symm))]
  ·rw[ax hk]
   by_cases h:g=k
   ·have hb:(g == k)=true:=hJ.mpr h
    simp only[List.lookup,hb,ax (λe:g=f=>hk (h.symm.trans e))]
   ·have hb:(g == k)=false:=fF.mpr h
    simp only[List.lookup,hb]
    exact ih
theorem pQ (f:Str)(v:V):∀fs:List (Str×V),f∈(bT f v fs).map (·.1)/\∀g,g∈fs.map (·.1)->g∈(bT f v fs).map (·.1)
 | []=>⟨by simp[bT],λg h=>by simp at h⟩
 | (k,x)::r=>by
  obtain⟨i1,i2⟩:=pQ f v r
  rw[show bT f v ((k,x)::r)=(if k=f then (k,v)::r else (k,x)::bT f v r) from rfl]
  by_cases hk:k=f
  ·rw[a0 hk]
   subst hk
   exact⟨by simp,λg h=>by simpa using h⟩
  ·rw[ax hk]
   refine⟨?_,λg h=>?_⟩
   ·rw[ap]
    exact af _ i1
   ·rw[ap] at h ⊢
    rcases bm.mp h with e | e
    ·exact bm.mpr (.inl e)
    ·exact af _ (i2 g e)
theorem rM (f:Str)(v:V):∀fs:List (Str×V),(bT f v fs).length<=fs.length+1
 | []=>by simp[bT]
 | (k,x)::r=>by
  have ih:=rM f v r
  rw[show bT f v ((k,x)::r)=(if k=f then (k,v)::r else (k,x)::bT f v r) from rfl]
  by_cases hk:k=f
  ·rw[a0 hk,bv,bv];omega
  ·rw[ax hk,bv,bv];omega
theorem CS.some_of {v:V}{o:Option Value}(r:CS (some v) o):∃u,o=some u/\RelV v u:=by
 cases o with
 | none=>exact(show False from r).elim
 | some u=>exact⟨u,rfl,r⟩
theorem CS.none_of {o:Option Value}(r:CS none o):o=none:=by
 cases o with
 | none=>rfl
 | some u=>exact(show False from r).elim
theorem Fx {v:V}(r:RelV v u):W.handedIn u=true:=by
 cases v with
 | Au=>cases (show u=Value.none from r);rfl
 | bl b=>cases (show u=Value.bool b from r);rfl
 | int i=>obtain⟨t,e⟩:=(show ∃t,u=Value.int i t from r);cases e;rfl
 | str x=>obtain⟨t,e⟩:=(show ∃t,u=Value.str x t from r);cases e;rfl
 | LM b=>obtain⟨t,e⟩:=(show ∃t,u=Value.bytes b t from r);cases e;rfl
 | S2 b=>obtain⟨t,e⟩:=(show ∃t,u=Value.float b t from r);cases e;rfl
 | ref a=>cases (show u=Value.ref a from r);rfl
 | ty n=>cases (show u=Value.type n from r);rfl
section
variable {P:Program}{w:World}{H H':Hp}{h h':Heap}{a C dx:Addr}{fs fs':List (Str×V)}
theorem qL (AK:CY P w K H h)(e:H a=some (.ins C dx fs)):∃mA,IQ h a dx C mA/\(∀f,CS (fs.lookup f) (mA f))/\PySem.Within mA (fs.map (·.1))/\fs.length<=1000/\H dx=some (.own a):=by
 obtain⟨d,z,ne,ob,mA,n,r,q⟩:=(show AF P w K H h a (.ins C dx fs) from AK a _ e)
 exact⟨mA,⟨ob,n,ne⟩,r,q,z,d⟩
end
structure II (K:W.Frag)(C:Addr):Prop where
 pg:W.plainGet K C Str.empty=true
 hd:W.hasDictIn K C=true
 po:W.plainOver K C=true
 sa:W.findIn K (.ref C) "__setattr__" = some (some (.builtin "object.__setattr__"))
theorem II.get {C:Addr}(c:II K C)(f:Str):W.plainGet K C f=true:=c.pg
def AV (K:W.Frag)(C:Addr)(f:Str):Prop:=W.findIn K (.ref C) f=some none
theorem AV.VS {C:Addr}{f:Str}(n:AV K C f):W.takerIn K C f=some none:=by
 unfold W.takerIn
 rw[show W.findIn K (.ref C) f=some none from n]
 rfl
structure Meth (K:W.Frag)(C:Addr)(m:Str)(f:Addr):Prop where
 at_:W.findIn K (.ref C) m=some (some (.ref f))
 fn:W.isFn K (.ref f)=true
 kp:W.keepIn K (.ref f)=true
section
variable {X:Cx}{zC:p9}{σ:St}{H:Hp}{s:Shared}{a C dx:Addr}{fs:List (Str×V)}{f:Str}{v:V}{A:Around}{E:oT}
theorem Dd {b:Bool}{Q:oT}(I:Inv X zC σ H s)(e:H a=some (.ins C dx fs))(c:II X.K C)(n:AV X.K C f)(l:fs.lookup f=some v)
  (h:∀u s',Inv X zC σ H s'->RelV v u->Q u s'):wpAny (model X.prog X.w) A (getAttr (.ref a) f b) Q E s:=by
 obtain⟨mA,O,r,_,_,_⟩:=qL I.AK e
 obtain⟨u,hu,ru⟩:=CS.some_of (v:=v) (o:=mA f) (by rw[← l];exact r f)
 exact KR I.B8 O (c.get f) c.hd n hu (Fx ru) (h u _ (I.tok _) ru)
theorem De {m:Str}{g:Addr}{pl:Sem Bool}{Q:Value×List Value->Shared->Prop}(I:Inv X zC σ H s)(e:H a=some (.ins C dx fs))(c:II X.K C)(k:Meth X.K C m g)(l:fs.lookup m=none)
  (h:Q (.ref g,[.ref a]) s):wpAny (model X.prog X.w) A (getMethod (.ref a) m pl) Q E s:=by
 obtain⟨mA,O,r,_,_,_⟩:=qL I.AK e
 have hn:mA m=none:=CS.none_of (by rw[← l];exact r m)
 exact HQ I.B8 O (c.get m) k.at_ k.fn hn h
theorem Df {y:V}(I:Inv X zC σ H s)(e:H a=some (.ins C dx fs))(c:II X.K C)(n:AV X.K C f)(hl:fs.length < 1000)(ry:RelV y u)
  (h:∀s',Inv X zC σ (upd H a (.ins C dx (bT f y fs))) s'->Q () s'):wpAny (model X.prog X.w) A (setAttr (.ref a) f u) Q E s:=by
 obtain⟨mA,O,r,wi,_,ho⟩:=qL I.AK e
 have hz:(fs.map (·.1)).length<=sizeLine:=by rw[ba,iF];omega
 refine KY I.B8 O c.sa c.po n.VS c.hd wi hz λh' O' sb=>h _ ?_
 have hd:∃o,h'.get? dx=some o:=let ⟨o,_,_,e',_⟩:=O'.ns;⟨o,e'⟩
 refine I.write (x:=a) (e:=dx) (by rw[e];exact fk) (.inr ho) (λb q hb z=>(sb.2 b hb).trans z) hd ?_
 refine⟨by rw[ao O.ne];exact ho,?_,O.ne,O'.obj,_,O'.ns,λg=>?_,λg hg=>?_⟩
 ·have:=rM f y fs;omega
 ·show CS ((bT f y fs).lookup g) (if g=f then some u else mA g)
  rw[rK]
  by_cases q:g=f
  ·rw[a0 q,a0 q];exact ry
  ·rw[ax q,ax q];exact r g
 ·by_cases q:g=f
  ·rw[q];exact(pQ f y fs).1
  ·refine(pQ f y fs).2 g (wi g λz=>hg ?_)
   show (if g=f then some u else mA g)=none
   rw[ax q];exact z
theorem Inv.made (I:Inv X zC σ H s):Inv X zC σ (upd (upd H s.heap.objs.size (.own (s.heap.objs.size+1))) (s.heap.objs.size+1) (.ins C s.heap.objs.size []))
  { s with heap:=(s.heap.push W.emptyDict).push (W.instObj C s.heap.objs.size) }:=by
 have e1:(s.heap.push W.emptyDict).get? s.heap.objs.size=some W.emptyDict:=ar s.heap rfl
 have e2:((s.heap.push W.emptyDict).push (W.instObj C s.heap.objs.size)).get? (s.heap.objs.size+1)=some (W.instObj C s.heap.objs.size):=by
  have:=ar (s.heap.push W.emptyDict) (o:=W.instObj C s.heap.objs.size) rfl
  rwa [cy] at this
 have e3:(s.heap.push W.emptyDict).Ns s.heap.objs.size (λ_=>none):=⟨W.emptyDict,#[],_,e1,rfl,(λe he=>absurd he (by simp)),λ_=>rfl⟩
 have I1:=I.laid (a:=s.heap.objs.size) (o:=.own (s.heap.objs.size+1)) (h':=s.heap.push W.emptyDict) (t':=s.toks) (λb u q=>ac _ q) (aE _) ⟨_,e1⟩
 refine I1.laid (a:=s.heap.objs.size+1) (o:=.ins C s.heap.objs.size []) (t':=s.toks) (λb u q=>ac _ q) (Nat.le_of_eq (cy _ _)) ?_
 have ne:s.heap.objs.size≠s.heap.objs.size+1:=bg (f8 _)
 refine⟨by rw[ao ne,az],cq _,ne,e2,λ_=>none,(Heap.Ns1.of_empty e3).at λo q=>ac _ q,λ_=>fk,λy hy=>absurd rfl hy⟩
theorem KZ {prog:Program}{env:Env}{f:Str}{s:Shared}{Q:oT}(hb:attributeBase e f env (eval e env)=eval e env)
  (h:wpAny (model prog w) A (eval e env) (λo s₁=>wpAny (model prog w) A (getAttr o f true) Q E s₁) E s):wpAny (model prog w) A (eval (.Attribute e f pos) env) Q E s:=
 Attribute_any_ h (by rw[arm_eval_Attribute,hb])
end
def je (K:W.Frag)(ta:TE)(f:Str):TE:=fun σ H Q=>ta σ H λx H1=>∃a C dx fs v,x=.ref a/\H1 a=some (.ins C dx fs)/\II K C/\AV K C f/\fs.lookup f=some v/\Q v H1
def pR (K:W.Frag)(ta tv:TE)(f:Str):TS:=λD σ H=>tv σ H λy H1=>ta σ H1 λx H2=>∃a C dx fs,x=.ref a/\H2 a=some (.ins C dx fs)/\II K C/\AV K C f/\fs.length < 1000 /\
 D.nx σ (upd H2 a (.ins C dx (bT f y fs)))
section
variable {X:Cx}{o e value:Expr}{f:Str}{pos pos' tpos:Pos}{ta tv:TE}
theorem Fy (he:PE X e ta)(hb:attributeBase e f X.env (eval e X.env)=eval e X.env):PE X (.Attribute e f pos) (je X.K ta f):=by
 intro zC s σ H Q I h
 refine KZ hb (AM (he zC s σ H _ I h) ?_)
 rintro u s1 ⟨x,H1,I1,rx,a,C,dx,fs,v,ex,ea,c,n,l,q⟩
 subst ex
 obtain rfl:u=Value.ref a:=rx
 exact Dd I1 ea c n l λu' s2 I2 ru=>⟨v,H1,I2,ru,q⟩
theorem mV (ha:PE X o ta)(hv:PE X value tv)(hs:swapsWith value (some (.Attribute o f pos')) pos.line X.env=pure false):PS X (.Assign [.Attribute o f pos'] value pos) (pR X.K ta tv f):=by
 intro zC s σ H D I h
 refine plainObj_wpAny_Assign_Attribute (AM (hv zC s σ H _ I h) λu s1 ⟨y,H1,I1,ry,q⟩=>AM (ha zC s1 σ H1 _ I1 q) ?_) hs
 rintro ov s2 ⟨x,H2,I2,rx,a,C,dx,fs,ex,ea,c,n,l,q2⟩
 subst ex
 obtain rfl:ov=Value.ref a:=rx
 exact Df I2 ea c n l ry λs3 I3=>⟨σ,_,I3,q2⟩
end
section
variable {X:Cx}{zC:p9}{σ:St}{H:Hp}{s:Shared}{A:Around}{E:oT}{Q:oT}{c:Value}{b:Bool}
inductive DH (K:W.Frag) (H:Hp):V->Value->Prop where
 | Au:DH K H .Au (.type "NoneType")
 | bl (x:Bool):DH K H (.bl x) (.type "bool")
 | int (i:Int):DH K H (.int i) (.type "int")
 | str (x:Str):DH K H (.str x) (.type "str")
 | S2 (x:UInt64):DH K H (.S2 x) (.type "float")
 | lst {a:Addr}{xs:List V}(e:H a=some (.lst xs)):DH K H (.ref a) (.type "list")
 | frz {a:Addr}{o:Obj}{xs:List V}(e:H a=some (.frz o (.lst xs))):DH K H (.ref a) (.type "list")
 | tup {a:Addr}{xs:List V}(e:H a=some (.tup xs)):DH K H (.ref a) (.type "tuple")
 | Cf {a:Addr}{xs:List V}(e:EV K a xs):DH K H (.ref a) (.type "tuple")
 | dK {a:Addr}{kvs:List (Key×V)}(e:H a=some (.dK kvs)):DH K H (.ref a) (.type "dict")
 | dT {a:Addr}{kvs:List (List zD×V)}(e:H a=some (.dT kvs)):DH K H (.ref a) (.type "dict")
 | ins {a C dx:Addr}{fs:List (Str×V)}(e:H a=some (.ins C dx fs)) (cl:II K C) (ha:W.findIn K (.ref C) "__class__" = some (some (.builtin "object.__class__")))
   (hn:W.specialIn K (.builtin "object.__class__") "__get__" = some (some (.builtin "getset_descriptor.__get__"))) (htk:W.takesIn K (.builtin "object.__class__")=some true)
   (hm:W.mroIn K C (.type "object")=some true):DH K H (.ref a) (.ref C)
theorem Fz {x:V}{t:Value}(I:Inv X zC σ H s)(rx:RelV x u)(ty:DH X.K H x t)(e:W.kitOne X.K t c=some b)(h:∀tk,Q (.bool b) { s with toks:=tk }):
  wpAny (model X.prog X.w) A (call (.builtin "isinstance") [u,c]) Q E s:=by
 cases ty with
 | Au=>cases (show u=Value.none from rx);exact eI W.kitx_none I.B8 fk e (λz=>nomatch z) h
 | bl y=>cases (show u=Value.bool y from rx);exact eI W.kitx_bool I.B8 fk e (λz=>nomatch z) h
 | int i=>obtain⟨t,q⟩:=(show ∃t,u=Value.int i t from rx);cases q;exact eI W.kitx_int I.B8 fk e (λz=>nomatch z) h
 | str y=>obtain⟨t,q⟩:=(show ∃t,u=Value.str y t from rx);cases q;exact eI W.kitx_str I.B8 fk e (λz=>nomatch z) h
 | S2 y=>obtain⟨t,q⟩:=(show ∃t,u=Value.float y t from rx);cases q;exact eI W.kitx_float I.B8 fk e (λz=>nomatch z) h
 | @lst a xs ea=>
  cases (show u=Value.ref a from rx)
  obtain⟨_,_,n,_,h1⟩:=(show AF X.prog X.w X.K H s.heap a (.lst xs) from I.AK a _ ea)
  exact eI W.kitx_list I.B8 ⟨_,h1,rfl⟩ e (λz=>nomatch z) h
 | @frz a ob xs ea=>
  cases (show u=Value.ref a from rx)
  obtain⟨_,_,_,n,_,h1⟩:=(show AF X.prog X.w X.K H s.heap a (.frz ob (.lst xs)) from I.AK a _ ea)
  exact eI W.kitx_list I.B8 ⟨_,h1,rfl⟩ e (λz=>nomatch z) h
 | @tup a xs ea=>
  cases (show u=Value.ref a from rx)
  obtain⟨_,_,_,p⟩:=(show AF X.prog X.w X.K H s.heap a (.tup xs) from I.AK a _ ea)
  obtain⟨o,h1,h2,_⟩:=p
  exact eI W.kitx_tuple I.B8 ⟨o,h1,h2⟩ e (λz=>nomatch z) h
 | @Cf a xs e1=>
  cases (show u=Value.ref _ from rx)
  obtain⟨o,As,n,g1,g2,g3,_⟩:=e1
  exact eI W.kitx_tuple I.B8 ⟨o,I.B8 _ o g1,g2⟩ e (λz=>nomatch z) h
 | @dK a kvs ea=>
  cases (show u=Value.ref a from rx)
  obtain⟨_,_,vs,_,p⟩:=(show AF X.prog X.w X.K H s.heap a (.dK kvs) from I.AK a _ ea)
  obtain⟨o,es,ep,h1,h2,_⟩:=p
  exact eI W.kitx_dict I.B8 ⟨o,h1,h2.1⟩ e (λz=>nomatch z) h
 | @dT a kvs ea=>
  cases (show u=Value.ref a from rx)
  obtain⟨_,_,xs,_,o,es,ep,h1,h2,_⟩:=(show AF X.prog X.w X.K H s.heap a (.dT kvs) from I.AK a _ ea)
  exact eI W.kitx_dict I.B8 ⟨o,h1,h2.1⟩ e (λz=>nomatch z) h
 | @ins a C dx fs ea cl ha hn htk hm=>
  cases (show u=Value.ref a from rx)
  obtain⟨mA,O,_⟩:=qL I.AK ea
  obtain⟨od,J,_⟩:=O.look
  exact eI (W.kitx_own (cl.get _) cl.hd ha hn htk hm) I.B8 J e (λz=>nomatch z) h
end
structure AR (k:Nat)(A:Around):Prop where
 hd:A.handled=none
 dp:A.depth+3*k+5 < recursionLimit
 un:A.units+16*k+200 < cLine
theorem AR.mono {j k:Nat}(r:AR k A)(h:j<=k):AR j A:=⟨r.hd,by have:=r.dp;omega,by have:=r.un;omega⟩
theorem AR.deeper {k:Nat}{A:Around}(r:AR (k+1) A)(env:Env):AR k (A.deeper env):=
 ⟨r.hd,by have:=r.dp;show A.depth+1+3*k+5 < _;omega,by have:=r.un;show A.units+3+16*k+200 < _;omega⟩
theorem Dg {C:Addr}:(A.under (.builtin "type.__call__" ⟨.ref C::us,kw⟩)).depth=A.depth+1:=by
 first | rfl | simp[Around.under,Code.weight,Code.isCreation,Code.isGuard,Code.isCaller,Code.frames,Code.isFrame,guardIds]
theorem Dh {C:Addr}:(A.under (.builtin "type.__call__" ⟨.ref C::us,kw⟩)).units=A.units+1:=by
 first | rfl | simp[Around.under,Code.cUnits,Code.frames,Code.isFrame]
theorem AR.make {k:Nat}(r:AR (k+1) A)(C:Addr)(us:qf)(kw:List (Str×Value)):AR k (A.under (.builtin "type.__call__" ⟨.ref C::us,kw⟩)):=
 ⟨r.hd,by have:=r.dp;rw[Dg];omega,by have:=r.un;rw[Dh];omega⟩
theorem AR.depth {k:Nat}{A:Around}(r:AR k A):A.depth < recursionLimit:=by have:=r.dp;omega
theorem AR.units {k:Nat}{A:Around}(r:AR k A):A.units+64 < cLine:=by have:=r.un;omega
def bx:TA:=λ_ H Q=>Q [] H
def aO (ta:TE)(tr:TA):TA:=fun σ H Q=>ta σ H λx H1=>tr σ H1 λxs H2=>Q (x::xs) H2
section
variable {X:Cx}{e:Expr}{es:qk}{te:TE}{t:TA}{pos:Pos}
theorem aN:PA X [] bx:=λ_ _ _ _ H Q I h=>kF ⟨[],H,I,.nil,h⟩
theorem aB (ha:PE X e te)(hr:PA X es t)(hs:starEach (e::es) X.env=(false,eval e X.env)::starEach es X.env:=by rfl):PA X (e::es) (aO te t):=by
 intro pos zC s σ H Q I h
 rw[hs]
 show wpAny _ _ (spliced ((false,eval e X.env)::backTo pos (starEach es X.env))) _ _ s
 refine iL (AM (ha zC s σ H _ I h) ?_)
 rintro u s1 ⟨x,H1,I1,r1,q1⟩
 exact AM (hr pos zC s1 σ H1 _ I1 q1) λus s2 ⟨xs,H2,I2,r2,q2⟩=>⟨x::xs,H2,I2,.cons r1 r2,q2⟩
def yI (t:TA):TE:=fun σ H Q=>t σ H λxs H1=>xs.length<=sizeLine/\∀p,H1 p=none->Q (.ref p) (upd H1 p (.tup xs))
def vD (t:TA):TE:=fun σ H Q=>t σ H λxs H1=>xs.length<=sizeLine/\∀p,H1 p=none->Q (.ref p) (upd H1 p (.lst xs))
theorem pU {x1}(h:PA X es t):PE X (.Tuple es x1 pos) (yI t):=by
 intro zC s σ H Q I hq
 refine wpAny_Tuple_spliced (AM (h pos zC s σ H _ I hq) λus s1 ⟨xs,H1,I1,r,z,q⟩=>⟨by rw[← r.length];exact z,?_⟩)
 have hf:H1 s1.heap.objs.size=none:=I1.AK.fresh (aE _)
 refine⟨.ref s1.heap.objs.size,upd H1 s1.heap.objs.size (.tup xs),I1.laid (t':=s1.toks) (λb u e=>ac _ e) (aE _) ?_,rfl,q _ hf⟩
 exact⟨z,us,r,⟨_,ar _ rfl,rfl,_,rfl,rfl⟩⟩
theorem pW (h:PA X es t):PE X (.List es pos) (vD t):=by
 intro zC s σ H Q I hq
 refine wpAny_List_spliced (AM (h pos zC s σ H _ I hq) λus s1 ⟨xs,H1,I1,r,z,q⟩=>⟨by rw[← r.length];exact z,?_⟩)
 have hf:H1 s1.heap.objs.size=none:=I1.AK.fresh (aE _)
 refine⟨.ref s1.heap.objs.size,upd H1 s1.heap.objs.size (.lst xs),I1.laid (t':=s1.toks) (λb u e=>ac _ e) (aE _) ?_,rfl,q _ hf⟩
 exact⟨z,us,0,r,ar _ rfl⟩
end
abbrev Sp:=List V->Hp->VK->XK->Prop
abbrev L7:=List Env->Hp->Shared->XK->Value->Shared->Prop
structure IS (P:Program)(w:World)(K:W.Frag)(mg:Str->Option Value)(base:Heap)(A:Around)(outer:List Env)(s:Shared)(H:Hp):Prop where
 frames:A.frames=some outer
 mod:Mod K mg base
 bs:∀b o,base.get? b=some o->s.heap.get? b=some o/\H b=none
 L1:base.objs.size<=s.heap.objs.size
 EW:s.heap.FunFrames base outer
 Ts:∀b∈LY outer,H b=none
 AK:CY P w K H s.heap
 bare:AllBare s.gens
def CE (outer:List Env)(P:Program)(w:World)(K:W.Frag)(H:Hp)(s:Shared)(Q:VK)(u:Value)(s':Shared):Prop:=
 ∃v H',s'.os=s.os/\AllBare s'.gens/\Un (LY outer) [] H H' s.heap s'.heap/\CY P w K H' s'.heap/\RelV v u/\Q v H'
def CR (CX:L7)(outer:List Env)(P:Program)(w:World)(K:W.Frag)(H:Hp)(s:Shared)(Q:VK)(E:XK)(r:Result)(s':Shared):Prop:=
 match r with
 | .ok (.ret u)=>CE outer P w K H s Q u s'
 | .ok _=>False
 | .error e=>CX outer H s E e s'
structure A4 (P:Program)(w:World)(K:W.Frag)(mg:Str->Option Value)(base:Heap)(CX:L7)(k:Nat)(f:Addr)(fd:FuncData)(ps:qo)(sp:Sp):Prop where
 len:∀vs H Q E,sp vs H Q E->vs.length=ps.length
 run:∀(A:Around) (outer:List Env) (s:Shared) (H:Hp) (args:Args) (us:qf) (vs:List V) (Q:VK) (E:XK),AR k A->IS P w K mg base A outer s H->BindsTo s fd args (ps.zip us)->Vals vs us->sp vs H Q E->
  codeAny (model P w) A (.call (.ref f) args) (CR CX outer P w K H s Q E) s
variable {mg:Str->Option Value}
theorem A4.imp {base:Heap}{CX:L7}{k:Nat}{f:Addr}{fd:FuncData}{ps:qo}{sp sp':Sp}(F:A4 P w K mg base CX k f fd ps sp)
  (h:∀vs H Q E,sp' vs H Q E->sp vs H Q E):A4 P w K mg base CX k f fd ps sp':=
 ⟨λvs H Q E q=>F.len vs H Q E (h _ _ _ _ q),λA outer s H args us vs Q E hr he hb hv hs=>F.run A outer s H args us vs Q E hr he hb hv (h _ _ _ _ hs)⟩
theorem IS.make {base:Heap}{outer:List Env}(e:IS P w K mg base A outer s H)(C:Addr)(us:qf)(kw:List (Str×Value)):
  IS P w K mg base (A.under (.builtin "type.__call__" ⟨.ref C::us,kw⟩)) outer s H:=⟨by first | exact e.frames | (simpa [Around.under,Code.envs,Code.isFrame,pushEnvs] using e.frames),e.mod,e.bs,e.L1,e.EW,e.Ts,e.AK,e.bare⟩
section
variable {X:Cx}{zC:p9}{σ:St}{H:Hp}{s s':Shared}
theorem Inv.VT (I:Inv X zC σ H s):IS X.prog X.w X.K X.mg X.base X.A X.stack s H:=
 ⟨I.ok.frames,I.ok.mod,I.bs,d5 I.ok.L1 I.sz,I.stack,I.GH,I.AK,I.bare⟩
theorem Inv.after {Q:VK}(I:Inv X zC σ H s)(h:CE X.stack X.prog X.w X.K H s Q u s'):EP X zC σ Q u s':=by
 obtain⟨v,H',os,bare,un,AK,r,q⟩:=h
 obtain⟨hh,g,d,t,os'⟩:=s'
 obtain rfl:os'=s.os:=os
 exact⟨v,H',I.call (h':=hh) (g':=g) (d':=d) (t':=t) (ch:=[]) un AK bare (λb z=>absurd z (by simp)),r,q⟩
end
def fP (sp:Sp)(GL:List V)(E:XK)(t:TA):TE:=fun σ H Q=>t σ H λvs H1=>sp (vs++GL) H1 Q E
def jV (C:Addr)(m:Str)(sp:Sp)(GL:List V)(E:XK)(ta:TE)(t:TA):TE:=fun σ H Q=>ta σ H λx H1=>∃a dx fs,x=.ref a/\H1 a=some (.ins C dx fs)/\fs.lookup m=none /\
 t σ H1 λvs H2=>sp (x::(vs++GL)) H2 Q E
def xY (C:Addr)(sp:Sp)(GL:List V)(E:XK)(t:TA):TE:=fun σ H Q=>t σ H λvs H1=>∀x dx,H1 x=none->H1 dx=none->dx≠x->
 sp (.ref x::(vs++GL)) (upd (upd H1 dx (.own x)) x (.ins C dx [])) (λv H2=>v=.Au/\Q (.ref x) H2) E
def Binds (K:W.Frag)(fd:FuncData)(ps:qo)(ds:qf):Prop:=
 ∀(s:Shared) (us:qf),K.In s.heap->(us++ds).length=ps.length->BindsTo s fd ⟨us,[]⟩ (ps.zip (us++ds))
theorem Binds.all {fd:FuncData}{ps:qo}(h:∀us:List Value,us.length=ps.length->bindArgs fd ⟨us,[]⟩=pure (ps.zip us)):Binds K fd ps []:=λs us _ hl=>by
 rw[br] at hl ⊢
 exact .of_eq (h us hl)
def mW (CX:L7)(X:Cx)(E:XK):Prop:=∀(zC:p9) (σ:St) (H:Hp) (s:Shared) (e:Value) (s':Shared),Inv X zC σ H s->CX X.stack H s E e s'->X.xe e s'
section
variable {X:Cx}{CX:L7}{k:Nat}{f C:Addr}{fd:FuncData}{ps:qo}{sp:Sp}{GL:List V}{ds:qf}{E:XK}{x m:Str}{p pos apos:Pos}{e o:Expr}{es:qk}{ta:TE}{t:TA}
theorem yJ {Q:VK}{vs:List V}(F:A4 X.prog X.w X.K X.mg X.base CX k f fd ps sp)(hr:AR k X.A)(hb:Binds X.K fd ps ds)(hd:Vals GL ds)(hx:mW CX X E)
  (I:Inv X zC σ H s) (r:Vals vs us) (h:sp (vs++GL) H Q E):wpAny (model X.prog X.w) X.A (call (.ref f) us) (EP X zC σ Q) X.xe s:=by
 have r2:Vals (vs++GL) (us++ds):=r.append hd
 have hl:(us++ds).length=ps.length:=by rw[← r2.length];exact F.len _ _ _ _ h
 refine wpAny_call (mf (F.run X.A X.stack s H ⟨us,[]⟩ (us++ds) (vs++GL) Q E hr I.VT (hb s us I.B8 hl) r2 h) λr s' hq=>?_)
 cases r with
 | error e=>exact hx zC σ H s e s' I hq
 | ok fl=>
  cases fl with
  | ret u=>exact I.after hq
  | next=>exact False.elim hq
  | brk=>exact False.elim hq
  | cont=>exact False.elim hq
theorem K1 (F:A4 X.prog X.w X.K X.mg X.base CX k f fd ps sp)(hr:AR k X.A)(hg:Gl X x)(hm:X.mg x=some (.ref f))(hk:W.keepIn X.K (.ref f)=true)(hb:Binds X.K fd ps ds)(hd:Vals GL ds)(hx:mW CX X E)
  (ha:PA X (e::es) t) (Fn:(x == ("__debug__" : Str))=false:=by decide) (he:starEach (e::es) X.env=(false,eval e X.env)::starEach es X.env:=by rfl) (A8:(backTo pos (starEach es X.env)).any (·.1)=false:=by rfl):
  PE X (.Call (.Name x p) (e::es) [] pos) (fP sp GL E t):=by
 intro zC s σ H Q I h
 refine ga (vy I hg hm ?_ Fn)
 refine kr (h₀:=X.base) I.ok.mod.ED hk (AM (ha pos zC s σ H _ I h) λus s1 ⟨vs,H1,I1,r,q⟩=>⟨I1.B8,?_⟩) he A8
 exact yJ F hr hb hd hx I1 r q
theorem Bx {pl:Sem Bool}(he:PE X o ta)(c:II X.K C)(hm:Meth X.K C m f)(F:A4 X.prog X.w X.K X.mg X.base CX k f fd ps sp)(hr:AR k X.A)(hb:Binds X.K fd ps ds)(hd:Vals GL ds)(hx:mW CX X E)(ha:PA X (e::es) t)
  (CL:starEach (e::es) X.env=(false,eval e X.env)::starEach es X.env:=by rfl) (A8:(backTo pos (starEach es X.env)).any (·.1)=false:=by rfl)
  (ht:eval (.Call (.Attribute o m apos) (e::es) [] pos) X.env=(do
   let ov ← eval o X.env
   standAt apos.atName
   let (f,first) ← holding [ov] (getMethod ov m pl)
   callWith pos f first (backTo pos (starEach (e::es) X.env)) (backToKw pos (keywordEach [] X.env))):=by rfl):
  PE X (.Call (.Attribute o m apos) (e::es) [] pos) (jV C m sp GL E ta t):=by
 intro zC s σ H Q I h
 refine W.methodCall_KW (pl:=pl) (AM (he zC s σ H _ I h) ?_) ht
 rintro u s1 ⟨x,H1,I1,rx,a,dx,fs,ex,ea,l,q⟩
 subst ex
 obtain rfl:u=Value.ref a:=rx
 refine De I1 ea c hm l ?_
 refine kr (first:=[.ref a]) (h₀:=X.base) I.ok.mod.ED hm.kp (AM (ha pos zC s1 σ H1 _ I1 q) λus s2 ⟨vs,H2,I2,r,q2⟩=>⟨I2.B8,?_⟩) CL A8
 exact yJ (us:=.ref a::us) (vs:=.ref a::vs) F hr hb hd hx I2 (.cons rfl r) q2
structure Mk (K:W.Frag)(C f:Addr):Prop where
 makes:W.makesIn K C=true
 init:W.findIn K (.ref C) "__init__" = some (some (.ref f))
 fn:W.isFn K (.ref f)=true
 kp:W.keepIn K (.ref C)=true
theorem HS {Q:VK}{vs:List V}(M:Mk X.K C f)(F:A4 X.prog X.w X.K X.mg X.base CX k f fd ps sp)(hr:AR (k+1) X.A)(hb:Binds X.K fd ps ds)(hd:Vals GL ds)
  (hx:mW CX X E) (I:Inv X zC σ H s) (r:Vals vs us)
  (h:∀x dx,H x=none->H dx=none->dx≠x->sp (.ref x::(vs++GL)) (upd (upd H dx (.own x)) x (.ins C dx [])) (λv H2=>v=.Au/\Q (.ref x) H2) E):
  wpAny (model X.prog X.w) X.A (call (.ref C) us) (EP X zC σ Q) X.xe s:=by
 have hq:=h (s.heap.objs.size+1) s.heap.objs.size (I.AK.fresh (ip _)) (I.AK.fresh (aE _)) (bg (f8 _))
 have I2:=Inv.made (C:=C) I
 have r2:Vals (V.ref (s.heap.objs.size+1)::(vs++GL)) (Value.ref (s.heap.objs.size+1)::(us++ds)):=.cons rfl (r.append hd)
 have hl:(Value.ref (s.heap.objs.size+1)::us++ds).length=ps.length:=by
  have e:=r2.length
  rw[F.len _ _ _ _ hq] at e
  exact e.symm
 refine wpAny_call (HR (f:=f) I.B8 M.makes M.init (hJ.mp M.fn) (mf (F.run _ X.stack _ _ ⟨Value.ref (s.heap.objs.size+1)::us,[]⟩ (Value.ref (s.heap.objs.size+1)::(us++ds)) _ _ E (hr.make C us [])
  (I2.VT.make C us []) (hb _ (Value.ref (s.heap.objs.size+1)::us) I2.B8 hl) r2 hq) λr s' LN=>?_))
 cases r with
 | error e=>exact hx zC σ _ _ e s' I2 LN
 | ok fl=>
  cases fl with
  | ret u=>
   obtain⟨v,H',I3,rv,ev,q3⟩:=I2.after LN
   subst ev
   exact⟨rv,⟨V.ref (s.heap.objs.size+1),H',I3,rfl,q3⟩⟩
  | next=>exact False.elim LN
  | brk=>exact False.elim LN
  | cont=>exact False.elim LN
theorem K3 (M:Mk X.K C f)(F:A4 X.prog X.w X.K X.mg X.base CX k f fd ps sp)(hr:AR (k+1) X.A)(hg:Gl X x)(hm:X.mg x=some (.ref C))(hb:Binds X.K fd ps ds)(hd:Vals GL ds)(hx:mW CX X E)
  (ha:PA X (e::es) t) (Fn:(x == ("__debug__" : Str))=false:=by decide) (he:starEach (e::es) X.env=(false,eval e X.env)::starEach es X.env:=by rfl) (A8:(backTo pos (starEach es X.env)).any (·.1)=false:=by rfl):
  PE X (.Call (.Name x p) (e::es) [] pos) (xY C sp GL E t):=by
 intro zC s σ H Q I h
 refine ga (vy I hg hm ?_ Fn)
 refine kr (h₀:=X.base) I.ok.mod.ED M.kp (AM (ha pos zC s σ H _ I h) λus s1 ⟨vs,H1,I1,r,q⟩=>⟨I1.B8,?_⟩) he A8
 exact HS M F hr hb hd hx I1 r q
end
structure AA (N P:qo)(sc:Scope):Prop where
 kind:sc.kind=.function
 co:sc.isCoroutine=false
 gen:sc.isGenerator=false
 nd:N.Nodup
 pre:N.take P.length=P
 par:∀x∈P,sc.names.lookup x=some .local\/sc.names.lookup x=some .cell
 TH:∀y∈sc.names,y.2≠.free
theorem wN {kindOf:Str->Option NameKind}{x:Str}:∀{binds:List (Str×Value)}{m:Str->Option Value},(∀v,(x,v)∉binds)->bindL kindOf binds m x=m x
 | [],_,_=>rfl
 | (n,v)::r,m,h=>by
  unfold bindL
  rw[wN λw hw=>h w (af _ hw)]
  split
  ·have:x≠n:=by rintro rfl;exact h v am
   simp[this]
  ·rfl
theorem wO {kindOf:Str->Option NameKind}{x:Str}:∀{binds:List (Str×Value)}{m:Str->Option Value},(∀v,(x,v)∉binds)->bindC kindOf binds m x=m x
 | [],_,_=>rfl
 | (n,v)::r,m,h=>by
  unfold bindC
  rw[wO λw hw=>h w (af _ hw)]
  split
  ·rfl
  ·have:x≠n:=by rintro rfl;exact h v am
   simp[this]
theorem wQ {kindOf:Str->Option NameKind}{x:Str}{v:Value}:∀{P:qo}{vs:qf}{i:Nat}{m:Str->Option Value},P.Nodup->P[i]?=some x->vs[i]?=some v->kindOf x=some .local->
  bindL kindOf (P.zip vs) m x=some v
 | [],_,_,_,_,h,_,_=>by simp at h
 | _::_,[],_,_,_,_,h,_=>by simp at h
 | p::P,w::vs,0,m,nd,h1,h2,hk=>by
  simp at h1 h2;subst h1;subst h2
  show bindL kindOf ((p,w)::P.zip vs) m p=_
  unfold bindL
  rw[wN λv hv=>(fN.mp nd).1 (oQ hv).1,a0 hk]
  simp
 | p::P,w::vs,i+1,m,nd,h1,h2,hk=>by
  show bindL kindOf ((p,w)::P.zip vs) m x=_
  unfold bindL
  exact wQ (i:=i) (fN.mp nd).2 (by simpa using h1) (by simpa using h2) hk
theorem wR {kindOf:Str->Option NameKind}{x:Str}{v:Value}:∀{P:qo}{vs:qf}{i:Nat}{m:Str->Option Value},P.Nodup->P[i]?=some x->vs[i]?=some v->kindOf x≠some .local->
  bindC kindOf (P.zip vs) m x=some v
 | [],_,_,_,_,h,_,_=>by simp at h
 | _::_,[],_,_,_,_,h,_=>by simp at h
 | p::P,w::vs,0,m,nd,h1,h2,hk=>by
  simp at h1 h2;subst h1;subst h2
  show bindC kindOf ((p,w)::P.zip vs) m p=_
  unfold bindC
  rw[wO λv hv=>(fN.mp nd).1 (oQ hv).1,ax hk]
  simp
 | p::P,w::vs,i+1,m,nd,h1,h2,hk=>by
  show bindC kindOf ((p,w)::P.zip vs) m x=_
  unfold bindC
  exact wR (i:=i) (fN.mp nd).2 (by simpa using h1) (by simpa using h2) hk
def start (N:qo)(vs:List V):St:=vs.map some++List.replicate (N.length - vs.length) none
def sr (CX:L7)(P:Program)(w:World)(K:W.Frag)(mg:Str->Option Value)(base:Heap)(N:qo)(qual:Str)(scope:Scope)(f:Addr)(cd:Value)(A:Around)(outer:List Env)(s:Shared)(H:Hp)(E:XK):Cx where
 prog:=P
 w:=w
 K:=K
 mg:=mg
 base:=base
 A:=A.deeper (envOfC qual scope s.heap.objs.size f cd)
 N:=N
 s₀:=s
 H₀:=H
 env:=envOfC qual scope s.heap.objs.size f cd
 outer:=outer
 stack:=envOfC qual scope s.heap.objs.size f cd::outer
 ex:=[]
 calm:=true
 fn:=λ_=>true
 pn:=[]
 xe:=λe s'=>wpAny (model P w) (A.deeper (envOfC qual scope s.heap.objs.size f cd)) (leaving (envOfC qual scope s.heap.objs.size f cd) e) (λ_ YB=>CX outer H s E e YB) (λe' YB=>CX outer H s E e' YB) s'
theorem yK {sc:Scope}{n:Nat}(h:sc.names.lookup x=some .cell):∃c,(cellsFrom n sc.names []).lookup x=some c:=by
 have q:=oB sc.names n [] (.inl h)
 exact nN.mp q
theorem FJ {CX:L7}{base:Heap}{N ps:qo}{qual:Str}{scope:Scope}{f:Addr}{cd:Value}{outer:List Env}{s1:Shared}{E:XK}{vs:List V}
  (S:AA N ps scope) (hd:A.handled=none) (e0:IS P w K mg base A outer s H) (hl:vs.length=ps.length) (r:Vals vs us)
  (x:InCallC s s.heap.objs.size (bindL (envOfC qual scope s.heap.objs.size f cd).kindOf (ps.zip us) λ_=>none) (cellsFrom (s.heap.objs.size+1) scope.names []) (bindC (envOfC qual scope s.heap.objs.size f cd).kindOf (ps.zip us) λ_=>none) s1):
  Inv (sr CX P w K mg base N qual scope f cd A outer s H E) [] (start N vs) H s1:=by
 have A8:ps.length<=N.length:=by have:=dP List.length S.pre;rw[gX] at this;omega
 obtain⟨h1,tk,rfl,hk⟩:=x.done
 have VU:∀b:Addr,b∉(sr CX P w K mg base N qual scope f cd A outer s H E).ex:=λb z=>absurd (show b∈([]:qr) from z) (by simp)
 refine⟨⟨e0.mod,S.kind,rfl,rfl,aE _,λy z c h1 h2=>?_,λy hy=>?_,λy c _ h=>?_,λ_=>hd,Around.frames_deeper e0.frames,.inr ⟨rfl,rfl⟩,λb z=>absurd z (VU b),e0.bs,e0.L1,λb _ _=>VU b,λb z=>absurd z (VU b),e0.EW,e0.Ts⟩,
  rfl,e0.bare,Un.kept hk,⟨_,x.toInCall.ns,λi y v h1 h2 h3=>?_⟩,λy c h=>⟨_,x.cell y c h⟩,e0.AK.fresh (aE _),λy c h=>?_,λp hp=>absurd (show p∈([]:p9) from hp) (by simp),e0.AK.kept hk,?_⟩
 ·exact name_of_addr x.apart (PySem.mem_of_lookup h1) (PySem.mem_of_lookup h2)
 ·have hy:scope.names.lookup y=some .cell\/scope.names.lookup y=some .free:=hy
  rcases hy with hy | hy
  ·exact yK hy
  ·exact absurd rfl (S.TH _ (PySem.mem_of_lookup hy))
 ·exact gI (x.above y c (PySem.mem_of_lookup h))
 ·have hi:i < vs.length:=by
   unfold start at h2
   by_cases hi:i < vs.length
   ·exact hi
   ·rw[hU (by simpa using hi)] at h2
    rw[oj] at h2
    split at h2 <;> cases h2
  have ha:vs[i]?=some v:=by
   unfold start at h2
   rw[dQ (by simpa using hi),cm] at h2
   cases e:vs[i]? with
   | none=>rw[e] at h2;cases h2
   | some a=>rw[e] at h2;cases h2;rfl
  obtain⟨u,hu,rv⟩:=r.get ha
  have hp:ps[i]?=some y:=by
   rw[← S.pre,List.getElem?_take_of_lt (by omega)];exact h1
  have A9:ps.Nodup:=by rw[← S.pre];exact S.nd.sublist (List.take_sublist _ _)
  refine⟨u,rv,?_⟩
  rcases S.par y (dn hp) with k | k
  ·exact .inl ⟨k,wQ A9 hp hu k⟩
  ·obtain⟨c,e⟩:=yK (n:=s.heap.objs.size+1) k
   refine .inr ⟨.inl k,c,e,?_⟩
   have q:=x.cell y c e
   rw[wR A9 hp hu (by show scope.names.lookup y≠_;rw[k];decide)] at q
   exact q
 ·exact e0.AK.fresh (gI (x.above y c (PySem.mem_of_lookup h)))
 ·unfold start
  show _=N.length
  rw[bp,ba,pf]
  omega
theorem Rz {CX:L7}{base:Heap}{k:Nat}{f:Addr}{name qual:Str}{params:Arguments}{body:qh}{scope:Scope}{dV kV doc pm C1 ct oc:Value}{an od:Option Addr}
  {RE:Array (Option Value)}{N ps:qo}{sp:Sp}(lk:K.lookup f=some ⟨oc,od,.func (W.fnOf name qual params body scope dV kV doc pm an C1 ct),RE⟩) (D9:W.codeIn K C1 qual=true) (S:AA N ps scope)
  (len:∀vs H Q E,sp vs H Q E->vs.length=ps.length)
  (L8:∀(A:Around) (outer:List Env) (s:Shared) (H:Hp) (vs:List V) (Q:VK) (E:XK),AR k (A.deeper (envOfC qual scope s.heap.objs.size f C1))->sp vs H Q E->
   ∃t,Fh (sr CX P w K mg base N qual scope f C1 A outer s H E) body t/\t { nx:=λ_ H'=>Q .Au H',rt:=Q } (start N vs) H):
  A4 P w K mg base CX (k+1) f (W.fnOf name qual params body scope dV kV doc pm an C1 ct) ps sp:=by
 refine⟨len,λA outer s H args us vs Q E hr e0 hb r RF=>?_⟩
 have hl:=len _ _ _ _ RF
 have KX:K.In s.heap:=e0.mod.ED.keeps λb o e=>(e0.bs b o e).1
 have lim:s.heap.NoLimit:=e0.mod.nolimit.keeps λb o e=>(e0.bs b o e).1
 have VV:∀y∈ps.zip us,scope.names.lookup y.1=some .local\/(scope.names.lookup y.1=some .cell/\((cellsFrom (s.heap.objs.size+1) scope.names []).lookup y.1).isSome=true):=by
  rintro ⟨n,v⟩ hy
  rcases S.par n (oQ hy).1 with q | q
  ·exact .inl q
  ·exact .inr ⟨q,oB _ _ _ (.inl q)⟩
 refine codeAny_call_function hr.depth (KX _ _ lk) rfl S.co S.gen rfl (W.codeRec_of KX D9) (hb _ _ _ _ ?_)
 refine wpAny_newFunctionEnv_cells S.kind VV λenv he s1 x=>?_
 subst he
 refine⟨lim.keeps x.toInCall.keep,codeAny_func ?_⟩
 obtain⟨t,ht,hq⟩:=L8 A outer s H vs Q E (hr.deeper _) RF
 have I:Inv (sr CX P w K mg base N qual scope f C1 A outer s H E) [] (start N vs) H s1:=FJ S hr.hd e0 hl r x
 refine fg (ht [] s1 (start N vs) H _ I hq) (λfl s' hs=>?_) λe s' hs=>hs
 have fin:∀{σ':St}{H':Hp}{v:V}{u:Value},Inv (sr CX P w K mg base N qual scope f C1 A outer s H E) [] σ' H' s'->RelV v u->Q v H'->CE outer P w K H s Q u s':=
  λ{σ' H' v u} J rv q=>⟨v,H',J.os,J.bare,J.base,J.AK,rv,q⟩
 cases fl with
 | ret u=>
  obtain⟨v,σ',H',J,rv,q⟩:=hs
  exact fin J rv q
 | next=>
  obtain⟨σ',H',J,q⟩:=hs
  exact fin (v:=V.Au) (u:=Value.none) J rfl q
 | brk=>
  obtain⟨_,_,_,q⟩:=hs
  exact False.elim q
 | cont=>
  obtain⟨_,_,_,q⟩:=hs
  exact False.elim q
section
variable {X:Cx}{x:Str}{p pos:Pos}{e:Expr}{es:qk}{t:TA}{id T:String}{r:List V->Hp->VK->Prop}
def LO (r:List V->Hp->VK->Prop)(t:TA):TE:=fun σ H Q=>t σ H λvs H1=>r vs H1 Q
theorem dC (hc:A7 X (.builtin id) r)(hg:Gl X x)(hm:X.mg x=none)(hv:bootBuiltins x=some (.builtin id))(ha:PA X (e::es) t)(hn:x ≠ "__name__" := by decide)(Fn:(x == ("__debug__" : Str))=false:=by decide)
  (he:starEach (e::es) X.env=(false,eval e X.env)::starEach es X.env:=by rfl) (A8:(backTo pos (starEach es X.env)).any (·.1)=false:=by rfl):PE X (.Call (.Name x p) (e::es) [] pos) (LO r t):=by
 intro zC s σ H Q I h
 refine ga (fW I hg hm hv ?_ hn Fn)
 exact PyProof.Rows.callWith_builtin1 (AM (ha pos zC s σ H _ I h) λus s1 ⟨vs,H1,I1,r1,q1⟩=>hc zC s1 σ H1 vs us Q I1 r1 q1) he A8
theorem wU (hc:A7 X (.type T) r)(hg:Gl X x)(hm:X.mg x=none)(hv:bootBuiltins x=some (.type T))(ha:PA X (e::es) t)(hn:x ≠ "__name__" := by decide)(Fn:(x == ("__debug__" : Str))=false:=by decide)
  (he:starEach (e::es) X.env=(false,eval e X.env)::starEach es X.env:=by rfl) (A8:(backTo pos (starEach es X.env)).any (·.1)=false:=by rfl):PE X (.Call (.Name x p) (e::es) [] pos) (LO r t):=by
 intro zC s σ H Q I h
 refine ga (fW I hg hm hv ?_ hn Fn)
 exact cK (AM (ha pos zC s σ H _ I h) λus s1 ⟨vs,H1,I1,r1,q1⟩=>hc zC s1 σ H1 vs us Q I1 r1 q1) he A8
end
section
variable {κ:Type}[DecidableEq κ]
noncomputable def cz (kvs:List (κ×V))(k:κ):Option V:=(kvs.find? λkv=>decide (kv.1=k)).map (·.2)
noncomputable def putK (kvs:List (κ×V))(k:κ)(v:V):List (κ×V):=
 if (kvs.any λkv=>decide (kv.1=k))=true then kvs.map (λkv=>if kv.1=k then (kv.1,v) else kv) else kvs++[(k,v)]
theorem cJ {p:κ×V}{r:List (κ×V)}{k:κ}(e:p.1=k):cz (p::r) k=some p.2:=by simp[cz,eD,e]
theorem cL {p:κ×V}{r:List (κ×V)}{k:κ}(e:¬ p.1=k):cz (p::r) k=cz r k:=by simp[cz,eD,e]
theorem nZ (k:κ):∀kvs:List (κ×V),(kvs.any λkv=>decide (kv.1=k))=(cz kvs k).isSome
 | []=>rfl
 | p::r=>by
  rw[eR]
  by_cases e:p.1=k
  ·simp only[cJ e,g9 e,Bool.true_or,Option.isSome_some]
  ·rw[cL e,dy e,Bool.false_or];exact nZ k r
theorem yL (k j:κ)(y:V):∀kvs:List (κ×V),cz (kvs.map λkv=>if kv.1=k then (kv.1,y) else kv) j=(cz kvs j).map λx=>if j=k then y else x
 | []=>rfl
 | p::r=>by
  have ih:=yL k j y r
  rw[ap]
  by_cases h:p.1=k
  ·rw[a0 h]
   by_cases e:p.1=j
   ·rw[cJ (p:=(p.1,y)) e,cJ e,ib,a0 (e.symm.trans h)]
   ·rw[cL (p:=(p.1,y)) e,cL e,ih]
  ·rw[ax h]
   by_cases e:p.1=j
   ·rw[cJ (p:=p) e,cJ e,ib,ax (λz=>h (e.trans z))]
   ·rw[cL (p:=p) e,cL e,ih]
theorem wV (k j:κ)(y:V):∀kvs:List (κ×V),cz kvs k=none->cz (kvs++[(k,y)]) j=if j=k then some y else cz kvs j
 | [],_=>by
  by_cases e:k=j
  ·rw[a0 e.symm];exact cJ (p:=(k,y)) e
  ·rw[ax (λz=>e z.symm)];exact cL (p:=(k,y)) e
 | p::r,hn=>by
  rw[fq]
  have hk:¬ p.1=k:=λz=>by rw[cJ z] at hn;cases hn
  rw[cL hk] at hn
  have ih:=wV k j y r hn
  by_cases e:p.1=j
  ·rw[cJ e,cJ e,ax (λz=>hk (e.trans z))]
  ·rw[cL e,cL e,ih]
theorem yM (kvs:List (κ×V))(k j:κ)(y:V):cz (putK kvs k y) j=if j=k then some y else cz kvs j:=by
 unfold putK
 by_cases a:(kvs.any λkv=>decide (kv.1=k))=true
 ·rw[a0 a,yL]
  rw[nZ] at a
  by_cases e:j=k
  ·obtain⟨x,hx⟩:=nN.mp a
   rw[a0 e,e,hx,ib,a0 rfl]
  ·rw[ax e]
   cases cz kvs j with
   | none=>rfl
   | some x=>rw[ib,ax e]
 ·rw[ax a]
  refine wV k j y kvs ?_
  rw[nZ] at a
  cases q:cz kvs k with
  | none=>rfl
  | some x=>rw[q] at a;exact(a rfl).elim
theorem rN (kvs:List (κ×V))(k:κ)(v:V):(putK kvs k v).length<=kvs.length+1:=by
 unfold putK
 split
 ·rw[ba];omega
 ·rw[bp,bv,l0];omega
theorem CS.EF {o:Option V}{u:Option Value}(r:CS o u):o.isSome=u.isSome:=by
 cases o with
 | none=>cases u with
  | none=>rfl
  | some _=>exact(show False from r).elim
 | some _=>cases u with
  | none=>exact(show False from r).elim
  | some _=>rfl
theorem CS.getD {o:Option V}{u:Option Value}{d:V}{d':Value}(r:CS o u)(rd:RelV d d'):RelV (o.getD d) (u.getD d'):=by
 cases o with
 | none=>cases u with
  | none=>exact rd
  | some _=>exact(show False from r).elim
 | some _=>cases u with
  | none=>exact(show False from r).elim
  | some _=>exact r
theorem KV.val {kvs:List (κ×V)}{vs:List (κ×Value)}(r:KV kvs vs)(k:κ):CS (cz kvs k) (valueAt vs k):=by
 unfold KV at r
 induction r with
 | nil=>exact fk
 | @cons p q ps qs h t ih=>
  obtain⟨h1,h2⟩:=h
  by_cases e:p.1=k
  ·have e':q.1=k:=h1.symm.trans e
   have b:valueAt (q::qs) k=some q.2:=by simp[valueAt,eD,e']
   rw[cJ e,b];exact h2
  ·have e':¬ q.1=k:=λz=>e (h1.trans z)
   have b:valueAt (q::qs) k=valueAt qs k:=by simp[valueAt,eD,e']
   rw[cL e,b];exact ih
theorem KV.any {kvs:List (κ×V)}{vs:List (κ×Value)}(r:KV kvs vs)(k:κ):(kvs.any λkv=>decide (kv.1=k))=vs.any λkv=>decide (kv.1=k):=by
 unfold KV at r
 induction r with
 | nil=>rfl
 | cons h t ih=>rw[eR,eR,ih,h.1]
theorem KV.TK {kvs:List (κ×V)}{vs:List (κ×Value)}(r:KV kvs vs)(k:κ){y:V}(ry:RelV y u):
  KV (kvs.map λkv=>if kv.1=k then (kv.1,y) else kv) (vs.map λkv=>if kv.1=k then (kv.1,u) else kv):=by
 unfold KV at r ⊢
 induction r with
 | nil=>exact .nil
 | @cons p q ps qs h t ih=>
  rw[ap,ap]
  refine .cons ?_ ih
  obtain⟨h1,h2⟩:=h
  by_cases e:p.1=k
  ·rw[a0 e,a0 (h1.symm.trans e)];exact⟨h1,ry⟩
  ·rw[ax e,ax (λz=>e (h1.trans z))];exact⟨h1,h2⟩
theorem KV.put {kvs:List (κ×V)}{vs:List (κ×Value)}(r:KV kvs vs)(k:κ){y:V}(ry:RelV y u):KV (putK kvs k y) (stored vs k u):=by
 unfold putK stored
 rw[r.any k]
 by_cases e:(vs.any λkv=>decide (kv.1=k))=true
 ·rw[a0 e,a0 e];exact r.TK k ry
 ·rw[ax e,ax e];exact Paired.snoc r ⟨rfl,ry⟩
theorem KV.length {kvs:List (κ×V)}{vs:List (κ×Value)}(r:KV kvs vs):kvs.length=vs.length:=iq r
end
theorem uq {k:Key}(r:RelV (kV k) u):(dX P w).is k u=true:=by
 cases k with
 | inl i=>obtain⟨t,e⟩:=(show ∃t,u=Value.int i t from r);subst e;exact A_ P w i t
 | inr x=>obtain⟨t,e⟩:=(show ∃t,u=Value.str x t from r);subst e;exact Ba P w x t
theorem yN {k:Key}(r:RelV (kV k) u):cQ k u=true:=by
 cases k with
 | inl i=>obtain⟨t,e⟩:=(show ∃t,u=Value.int i t from r);subst e;exact lL (pL i t)
 | inr x=>obtain⟨t,e⟩:=(show ∃t,u=Value.str x t from r);subst e;exact lL (pM x t)
theorem lX {α β γ:Type}{F:α->β->Prop}{G:β->γ->Prop}{R:α->γ->Prop}(f:∀a b c,F a b->G b c->R a c):∀{l:List α}{m:List β}{n:List γ},Paired F l m->Paired G m n->Paired R l n
 | _,_,_,.nil,.nil=>.nil
 | _,_,_,.cons h t,.cons h' t'=>.cons (f _ _ _ h h') (lX f t t')
theorem Kg {d:Nat}{vs:List V}(kt:KB ks vs)(r:Vals vs us):Paired (Co d h) ks us:=by
 obtain⟨x,b,rfl,rfl⟩:=kt
 cases r with
 | cons h1 t=>cases t with
  | cons h2 t=>
   cases t
   cases (show _=Value.bool b from h2)
   exact .cons (.leaf (yN (k:=.inr x) h1)) (.cons (.leaf (Az b)) .nil)
theorem Kh {P:Program}{w:World}{K:W.Frag}{H:Hp}{h:Heap}(ED:K.In h)(ok:CY P w K H h):∀(d:Nat) (n:zD) (v:V) (u:Value),NV K H d n v->RelV v u->Co d h n u
 | 0,n,v,u,⟨x,e,ev⟩,r=>by subst e ev;exact⟨x,rfl,yN r⟩
 | d+1,n,v,u,q,r=>by
  rcases q with ⟨x,e,ev⟩ | ⟨ns,a,vs,e,ev,ta,q⟩
  ·subst e ev;exact .inl ⟨x,rfl,yN r⟩
  ·subst e ev
   cases (show u=Value.ref a from r)
   refine .inr ⟨ns,a,rfl,rfl,?_⟩
   have fin:∀us:List Value,Vals vs us->Paired (Co d h) ns us:=λus z=>q.elim (λp=>lX (λx y c h1 h2=>Kh ED ok d x y c h1 h2) p z) λp=>Kg p z
   rcases ta with e | ⟨o,As,n,e1,e2,e3,_,r⟩
   ·obtain⟨_,As,r,o,h1,h2,n,h3,_⟩:=(show AF P w K H h a (.tup vs) from ok a _ e)
    exact⟨o,As.toArray,n,h1,h2,h3,by simpa using fin _ r⟩
   ·exact⟨o,As,n,ED a o e1,e2,e3,fin _ r⟩
theorem wW {vs:List V}(ED:K.In h)(ok:CY P w K H h)(kt:GB K H ks vs)(r:Vals vs us):Paired (Co 2 h) ks us:=
 kt.elim (λp=>lX (λx y c h1 h2=>Kh ED ok 2 x y c h1 h2) p r) λp=>Kg p r
abbrev KT (K:PySem.W.Frag)(H:Hp):List (List zD×V)->List (List zD×Addr×Value)->Prop:=Paired λp q=>p.1=q.1/\Cc K H q.2.1 p.1/\RelV p.2 q.2.2
variable {kvs:List (List zD×V)}{xs:List (List zD×Addr×Value)}
theorem KT.val (r:KT K H kvs xs)(k:List zD):CS (cz kvs k) ((atKey xs k).map (·.2)):=by
 induction r with
 | nil=>exact fk
 | @cons p q ps qs h t ih=>
  obtain⟨h1,_,h2⟩:=h
  by_cases e:p.1=k
  ·have e':q.1=k:=h1.symm.trans e
   have b:atKey (q::qs) k=some q.2:=by simp[atKey,eD,e']
   rw[cJ e,b];exact h2
  ·have e':¬ q.1=k:=λz=>e (h1.trans z)
   have b:atKey (q::qs) k=atKey qs k:=by simp[atKey,eD,e']
   rw[cL e,b];exact ih
theorem KT.TK (r:KT K H kvs xs)(k:List zD){y:V}(ry:RelV y u):
  KT K H (kvs.map λkv=>if kv.1=k then (kv.1,y) else kv) (xs.map (putAt k u)):=by
 induction r with
 | nil=>exact .nil
 | @cons p q ps qs h t ih=>
  rw[ap,ap]
  refine .cons ?_ ih
  obtain⟨h1,h2,h3⟩:=h
  unfold putAt
  by_cases e:p.1=k
  ·rw[a0 e,a0 (h1.symm.trans e)];exact⟨h1,h2,ry⟩
  ·rw[ax e,ax (λz=>e (h1.trans z))];exact⟨h1,h2,h3⟩
theorem KT.put (r:KT K H kvs xs)(k:List zD){y:V}(hb:Cc K H b k)(ry:RelV y u):
  KT K H (putK kvs k y) (storedH xs k b u):=by
 have e:(kvs.any λkv=>decide (kv.1=k))=(atKey xs k).isSome:=by
  rw[nZ,(r.val k).EF,Option.isSome_map]
 unfold putK storedH
 rw[e]
 by_cases q:(atKey xs k).isSome=true
 ·rw[a0 q,a0 q];exact r.TK k ry
 ·rw[ax q,ax q];exact Paired.snoc r ⟨rfl,hb,ry⟩
theorem KT.keeps {K:W.Frag}{H H':Hp}{kvs:List (List zD×V)}{xs:List (List zD×Addr×Value)}(r:KT K H kvs xs)(ht:∀b ys,H b=some (.tup ys)->H' b=some (.tup ys)):KT K H' kvs xs:=
 Paired.Tb r λ_ _ z=>⟨z.1,z.2.1.keeps ht,z.2.2⟩
section
variable {P:Program}{w:World}{K:W.Frag}{H:Hp}{h:Heap}{a:Addr}
theorem Kl {u:HO}(ok:CY P w K H h)(e:Rd H a u):AF P w K H h a u:=e.ok ok
theorem n6 {kvs:List (Key×V)}(ok:CY P w K H h)(e:Rd H a (.dK kvs)):kvs.length<=sizeLine/\(a == sysModules)=false/\∃vs,KV kvs vs/\h.DictOf (dX P w) a vs:=
 show AF P w K H h a (.dK kvs) from Kl ok e
theorem Di {kvs:List (Key×V)}(ok:CY P w K H h)(e:H a=some (.dK kvs)):kvs.length<=sizeLine/\(a == sysModules)=false/\∃vs,KV kvs vs/\h.DictOf (dX P w) a vs:=n6 ok (.inl e)
theorem Oq (ED:K.In h)(ok:CY P w K H h)(e:NK K H a ks):(cY P w).is h ks a:=by
 obtain⟨vs,e,kt⟩:=e
 obtain⟨_,As,r,o,h1,h2,n,h3,_⟩:=(show AF P w K H h a (.tup vs) from ok a _ e)
 exact⟨o,As.toArray,n,h1,h2,h3,by simpa using wW ED ok kt r⟩
theorem jf (ED:K.In h)(ok:CY P w K H h)(e:Cc K H a ks):(cY P w).is h ks a:=by
 rcases e with e | ⟨vs,⟨o,As,n,e1,e2,e3,_,r⟩,kt⟩
 ·exact Oq ED ok e
 ·exact⟨o,As,n,ED a o e1,e2,e3,wW ED ok kt r⟩
theorem yO (ED:K.In h)(ok:CY P w K H h)(e:Rd H a (.dT kvs)):kvs.length<=sizeLine/\(a == sysModules)=false/\∃xs,KT K H kvs xs/\AQ (cY P w) h a xs:=by
 obtain⟨z,y,xs,r,o,es,ep,h1,h2,h3,h4,h5,h6⟩:=(show AF P w K H h a (.dT kvs) from Kl ok e)
 subst h6
 refine⟨z,y,xs,r,o,es,h1,h2,h3,h4,λx hx=>?_,h5⟩
 have all:∀{l:List (List zD×V)}{m:List (List zD×Addr×Value)},KT K H l m->∀x∈m,(cY P w).is h x.1 x.2.1:=by
  intro l m q
  induction q with
  | nil=>intro x hx;exact nomatch hx
  | cons hq t ih=>
   intro x hx
   rcases bm.mp hx with e | hx
   ·rw[e];exact jf ED ok (by rw[← hq.1];exact hq.2.1)
   ·exact ih x hx
 exact all r x hx
theorem ur (ED:K.In h)(ok:CY P w K H h)(e:Rd H a (.dT kvs)):kvs.length<=sizeLine/\(a == sysModules)=false /\
  ∃xs,KT K H kvs xs/\h.DictOfH (cY P w) a xs:=let ⟨z,y,xs,r,q⟩:=yO ED ok e;⟨z,y,xs,r,q.of⟩
end
def A5 (K:W.Frag)(H:Hp)(a:Addr)(y:V)(r:Option V):Prop:=
 (∃kvs k,Rd H a (.dK kvs)/\y=kV k/\r=cz kvs k)\/∃kvs k b,Rd H a (.dT kvs)/\y=.ref b/\Cc K H b k/\r=cz kvs k
def Fs (K:W.Frag)(H:Hp)(a:Addr)(y v:V)(H':Hp):Prop:=
 (∃kvs k,H a=some (.dK kvs)/\y=kV k/\kvs.length < sizeLine/\H'=upd H a (.dK (putK kvs k v))) \/
 ∃kvs k b,H a=some (.dT kvs)/\y=.ref b/\Cc K H b k/\kvs.length < sizeLine/\H'=upd H a (.dT (putK kvs k v))
theorem A5.k {K:W.Frag}{H:Hp}{a:Addr}{kvs:List (Key×V)}{k:Key}(e:H a=some (.dK kvs)):A5 K H a (kV k) (cz kvs k):=.inl ⟨kvs,k,.inl e,rfl,rfl⟩
theorem A5.t {k:List zD}(e:H a=some (.dT kvs))(eb:Cc K H b k):A5 K H a (.ref b) (cz kvs k):=.inr ⟨kvs,k,b,.inl e,rfl,eb,rfl⟩
theorem Fs.k {K:W.Frag}{H:Hp}{a:Addr}{kvs:List (Key×V)}{k:Key}{v:V}(e:H a=some (.dK kvs))(hl:kvs.length < sizeLine):Fs K H a (kV k) v (upd H a (.dK (putK kvs k v))):=.inl ⟨kvs,k,e,rfl,hl,rfl⟩
theorem Fs.t {k:List zD}{v:V}(e:H a=some (.dT kvs))(eb:Cc K H b k)(hl:kvs.length < sizeLine):
  Fs K H a (.ref b) v (upd H a (.dT (putK kvs k v))):=.inr ⟨kvs,k,b,e,rfl,eb,hl,rfl⟩
section
variable {X:Cx}{zC:p9}{σ:St}{H:Hp}{s:Shared}{a:Addr}{y v:V}{u r:Value}{o:Option V}{A:Around}{E:oT}
theorem Inv.big (I:Inv X zC σ H s):sysModules < s.heap.objs.size:=by
 have h:mainGlobals < s.heap.objs.size:=(I.mod.glob.keeps I.bk).lt
 exact mh (by decide) h
theorem FN {Q:oT}(hu:A.units+9 < cLine)(I:Inv X zC σ H s)(g:A5 X.K H a y (some v))(ry:RelV y u)(h:∀w' s',Inv X zC σ H s'->RelV v w'->Q w' s'):
  wpAny (model X.prog X.w) A (getItem (.ref a) u) Q E s:=by
 rcases g with ⟨kvs,k,e,ey,l⟩ | ⟨kvs,k,b,e,ey,eb,l⟩
 ·subst ey
  obtain⟨z,hd,vs,rel,dd⟩:=n6 I.AK e
  obtain⟨w',hw,HU⟩:=CS.some_of (v:=v) (o:=valueAt vs k) (by rw[l];exact rel.val k)
  exact wpAny_getItem_of (uq ry) dd.mapOf hw (h w' _ (I.tok _) HU)
 ·subst ey
  cases (show u=Value.ref b from ry)
  obtain⟨z,hd,xs,rel,dd⟩:=ur I.B8 I.AK e
  obtain⟨w',hw,HU⟩:=CS.some_of (v:=v) (o:=(atKey xs k).map (·.2)) (by rw[l];exact rel.val k)
  obtain⟨p,hp,K2⟩:=bX.mp hw
  refine wpAny_getItem_heap (C9 hu) (jf I.B8 I.AK eb) dd hp ?_
  rw[K2]
  exact h w' _ (I.tok _) HU
theorem By {Q:oT}(hu:A.units+9 < cLine)(I:Inv X zC σ H s)(g:A5 X.K H a y o)(ry:RelV y u)(h:∀s',Inv X zC σ H s'->Q (.bool (!o.isSome)) s'):
  wpAny (model X.prog X.w) A (compareOp .NotIn u (.ref a)) Q E s:=by
 rcases g with ⟨kvs,k,e,ey,l⟩ | ⟨kvs,k,b,e,ey,eb,l⟩
 ·subst ey
  obtain⟨z,hd,vs,rel,dd⟩:=n6 I.AK e
  refine wpAny_notIn_of (uq ry) hd dd.mapOf ?_
  rw[← (rel.val k).EF,← l]
  exact h _ (I.tok _)
 ·subst ey
  cases (show u=Value.ref b from ry)
  obtain⟨z,hd,xs,rel,dd⟩:=ur I.B8 I.AK e
  refine wpAny_notIn_heap (C9 hu) (jf I.B8 I.AK eb) hd dd ?_
  have q:=(rel.val k).EF
  rw[Option.isSome_map] at q
  rw[← q,← l]
  exact h _ (I.tok _)
theorem mX {h':Heap}{t':Nat}{ob:HO}(I:Inv X zC σ H s)(mu:VN (H a))(hs:Heap.SameBut a s.heap h')(he:∃q,h'.get? a=some q)(new:AF X.prog X.w X.K (upd H a ob) h' a ob):
  Inv X zC σ (upd H a ob) { s with heap:=h',toks:=t' }:=
 I.write (x:=a) (e:=a) mu (.inl rfl) (λb q hb z=>(hs.2 b hb).trans z) he new
theorem FP {H':Hp}{h':Heap}{kvs:List (Key×V)}{vs:List (Key×Value)}(z:kvs.length<=sizeLine)(hd:(a == sysModules)=false)(rel:KV kvs vs)(dd:h'.DictOf (dX P w) a vs):
  AF P w K H' h' a (.dK kvs):=⟨z,hd,vs,rel,dd⟩
theorem FQ {H':Hp}(hu:A.units+9 < cLine)(I:Inv X zC σ H s)(g:Fs X.K H a y v H')(ry:RelV y u)(rv:RelV v r)(h:∀s',Inv X zC σ H' s'->Q () s'):
  wpAny (model X.prog X.w) A (setItem (.ref a) u r) Q E s:=by
 rcases g with ⟨kvs,k,e,ey,l,eH⟩ | ⟨kvs,k,b,e,ey,eb,l,eH⟩
 ·subst ey eH
  obtain⟨z,hd,vs,rel,dd⟩:=Di I.AK e
  have hz:vs.length<=sizeLine:=by rw[← rel.length];exact z
  have hl:(putK kvs k v).length<=sizeLine:=by have:=rN kvs k v;omega
  refine wpAny_setItem_pairs (hsz:=hz) (uq ry) dd λh' OU hs=>h _ ?_
  have he:∃q,h'.get? a=some q:=let ⟨q,_,_,hq,_⟩:=OU;⟨q,hq⟩
  exact mX I (by rw[e];exact fk) hs he (FP hl hd (rel.put k rv) OU)
 ·subst ey eH
  cases (show u=Value.ref b from ry)
  obtain⟨z,hd,xs,rel,dd⟩:=yO I.B8 I.AK (.inl e)
  have hz:xs.length<=sizeLine:=by rw[← iq rel];exact z
  have hl:(putK kvs k v).length<=sizeLine:=by have:=rN kvs k v;omega
  refine Ht (C9 hu) (jf I.B8 I.AK eb) dd hz λh' OU hs=>h _ ?_
  obtain⟨q,es,hq,h2,h3,h4,_,h5⟩:=OU
  refine mX I (by rw[e];exact fk) hs ⟨q,hq⟩ ⟨hl,hd,_,(rel.put k eb rv).keeps λc ys ec=>?_,q,es,_,hq,h2,h3,h4,h5,rfl⟩
  rw[ao (bN ec e (λz=>nomatch z))]
  exact ec
end
section
variable {X:Cx}{zC:p9}{σ:St}{H:Hp}{s:Shared}{a:Addr}{kvs:List (Key×V)}{k:Key}{u:Value}{A:Around}{E:oT}
theorem RB {Q:oT}(I:Inv X zC σ H s)(e:Rd H a (.dK kvs))(h:∀t s',Inv X zC σ H s'->Q (.int kvs.length t) s'):wpAny (model X.prog X.w) A (call (.builtin "len") [.ref a]) Q E s:=by
 obtain⟨z,hd,vs,rel,dd⟩:=n6 I.AK e
 refine call_len_dict hd dd (by rw[← rel.length];rw[iF] at z;omega) ?_
 rw[← rel.length]
 exact h _ _ (I.tok _)
end
def HW (i:Expr):Prop:=∀ov iv,subscripted i false ov iv=operate [ov,iv] (getItem ov iv)
theorem K4 {prog:Program}{env:Env}{value slice:Expr}{T id:String}{Q:oT}
  (hl:typeLookup (.type T) "__getitem__" = pure (some (.builtin id))) (hs:HW slice)
  (h:wpAny (model prog w) A (eval value env) (λo s₁=>wpAny (model prog w) A (eval slice env) (λi s₂=>s₂.TypeIs o T/\wpAny (model prog w) A (getItem o i) Q E s₂) E s₁) E s):
  wpAny (model prog w) A (eval (.Subscript value slice pos) env) Q E s:=by
 refine Subscript_ (fg h (λo s₁ h₁=>fg h₁ (λi s₂ h₂=>?_) λ_ _ x=>x) λ_ _ x=>x)
 obtain⟨hT,h₂⟩:=h₂
 unfold subscriptTail
 refine ab ?_
 rw[getitemInPython_of_ne hT.not_modules]
 refine ab (iO hT hl ?_)
 have fin:wpAny (model prog w) A (subscripted slice false o i) (λr s₃=>wpAny (model prog w) A (letTemporaryGo value o r >>= λ_=>pure r) Q E s₃) E s₂:=by
  rw[hs o i]
  exact wpAny_operating (fg h₂ (λr s₃ h₃=>ab (wpAny_letTemporaryGo (ae h₃))) λ_ _ x=>x)
 first
  | exact ae (ab fin)
  | exact ab (ae (ab fin))
  | exact ab fin
theorem Bb {X:Cx}{y:V}{o:Option V}(I:Inv X zC σ H s)(g:A5 X.K H a y o):s.TypeIs (.ref a) "dict" := by
 rcases g with ⟨kvs,k,e,_,_⟩ | ⟨kvs,k,b,e,_,_,_⟩
 ·obtain⟨_,_,vs,_,dd⟩:=n6 I.AK e
  exact dd.typeIs
 ·obtain⟨_,_,xs,_,dd⟩:=ur I.B8 I.AK e
  exact dd.typeIs
def qM (K:W.Frag)(td ty:TE):TE:=fun σ H Q=>td σ H λx H1=>ty σ H1 λy H2=>∃a v,x=.ref a/\A5 K H2 a y (some v)/\Q v H2
def jg (K:W.Frag)(ty td:TE):TE:=fun σ H Q=>ty σ H λy H1=>td σ H1 λx H2=>∃a o,x=.ref a/\A5 K H2 a y o/\Q (.bl (!o.isSome)) H2
def jW (K:W.Frag)(td ty tv:TE):TS:=λD σ H=>tv σ H λv H1=>td σ H1 λx H2=>ty σ H2 λy H3=>∃a H4,x=.ref a/\Fs K H3 a y v H4/\D.nx σ H4
section
variable {X:Cx}{o i e value:Expr}{pos pos' tpos:Pos}{td ty tv:TE}
theorem qN (hu:X.A.units+9 < cLine)(ho:PE X o td)(hi:PE X i ty)(hs:HW i):PE X (.Subscript o i pos) (qM X.K td ty):=by
 intro zC s σ H Q I h
 refine K4 PySem.F.slot_dict_getitem.lookup hs (AM (ho zC s σ H _ I h) λu s1 ⟨x,H1,I1,rx,q1⟩=>AM (hi zC s1 σ H1 _ I1 q1) ?_)
 rintro iv s2 ⟨y,H2,I2,ry,a,v,ex,g,q2⟩
 subst ex
 obtain rfl:u=Value.ref a:=rx
 exact⟨Bb I2 g,FN hu I2 g ry λw' s3 I3 HU=>⟨v,H2,I3,HU,q2⟩⟩
theorem pX (hu:X.A.units+9 < cLine)(hi:PE X i ty)(ho:PE X o td):PC X .NotIn i o (jg X.K ty td):=by
 intro zC s σ H Q I h
 refine AM (hi zC s σ H _ I h) λiv s1 ⟨y,H1,I1,ry,q1⟩=>AM (ho zC s1 σ H1 _ I1 q1) ?_
 rintro u s2 ⟨x,H2,I2,rx,a,ov,ex,g,q2⟩
 subst ex
 obtain rfl:u=Value.ref a:=rx
 exact By hu I2 g ry λs3 I3=>⟨.bl (!ov.isSome),H2,I3,rfl,q2⟩
theorem mY (hu:X.A.units+9 < cLine)(ho:PE X o td)(hi:PE X i ty)(hv:PE X value tv)(hs:swapsWith value (some (.Subscript o i pos')) pos.line X.env=pure false):
  PS X (.Assign [.Subscript o i pos'] value pos) (jW X.K td ty tv):=by
 intro zC s σ H D I h
 refine wpAny_Assign_Subscript (AM (hv zC s σ H _ I h) λr s1 ⟨v,H1,I1,rv,q1⟩=>AM (ho zC s1 σ H1 _ I1 q1) λu s2 ⟨x,H2,I2,rx,q2⟩=>AM (hi zC s2 σ H2 _ I2 q2) ?_) hs
 rintro iv s3 ⟨y,H3,I3,ry,a,H4,ex,g,q3⟩
 subst ex
 obtain rfl:u=Value.ref a:=rx
 exact FQ hu I3 g ry rv λs4 I4=>⟨σ,H4,I4,q3⟩
end
theorem yP (h:Heap)(hb:sysModules < h.objs.size):AF P w K H (h.push { cls:=.type "dict",data:=.dict #[] }) h.objs.size (.dK []):=
 ⟨cq _,fF.mpr (fT (bg hb)),[],.nil,Heap.DictOf.new h⟩
theorem yQ (h:Heap)(hb:sysModules < h.objs.size):AF P w K H (h.push { cls:=.type "dict",data:=.dict #[] }) h.objs.size (.dT []):=
 ⟨cq _,fF.mpr (fT (bg hb)),[],.nil,_,#[],0,ar _ rfl,⟨rfl,rfl,rfl⟩,rfl,rfl,List.nodup_nil,rfl⟩
def yR:TE:=λ_ H Q=>∀p,H p=none->Q (.ref p) (upd H p (.dK []))
def Ot:TE:=λ_ H Q=>∀p,H p=none->Q (.ref p) (upd H p (.dT []))
section
variable {X:Cx}{pos:Pos}
theorem yS:PE X (.Dict [] [] pos) yR:=λzC s σ H Q I h=>
 wpAny_Dict_empty ⟨.ref s.heap.objs.size,_,I.laid (a:=s.heap.objs.size) (o:=.dK []) (t':=s.toks) (λ_ _ q=>ac _ q) (aE _) (yP s.heap I.big),rfl,h _ (I.AK.fresh (aE _))⟩
theorem HX:PE X (.Dict [] [] pos) Ot:=λzC s σ H Q I h=>
 wpAny_Dict_empty ⟨.ref s.heap.objs.size,_,I.laid (a:=s.heap.objs.size) (o:=.dT []) (t':=s.toks) (λ_ _ q=>ac _ q) (aE _) (yQ s.heap I.big),rfl,h _ (I.AK.fresh (aE _))⟩
end
structure M1 (X:Cx)(o:Expr)(m:Str)(apos:Pos)(e:Expr)(AG:Pos):Prop where
 base:attributeBase o m X.env (eval o X.env)=eval o X.env
 TL:((backTo AG (starEach [e] X.env)).all (λx=>!x.1)&&(backToKw AG (keywordEach [] X.env)).all (λx=>x.1.isSome)
  && decide (([e]:qk).length+([]:List Keyword).length+(if ([]:List Keyword).isEmpty then 0 else 1) < 30))=true
 line:(apos.endLine == AG.line)=true
 trees:backTo AG (starEach [e] X.env)=[(false,eval e X.env)]
structure M2 (X:Cx)(o:Expr)(m:Str)(apos:Pos)(e f:Expr)(AG:Pos):Prop where
 base:attributeBase o m X.env (eval o X.env)=eval o X.env
 TL:((backTo AG (starEach [e,f] X.env)).all (λx=>!x.1)&&(backToKw AG (keywordEach [] X.env)).all (λx=>x.1.isSome)
  && decide (([e,f]:qk).length+([]:List Keyword).length+(if ([]:List Keyword).isEmpty then 0 else 1) < 30))=true
 line:(apos.endLine == AG.line)=true
 trees:backTo AG (starEach [e,f] X.env)=[(false,eval e X.env),(false,eval f X.env)]
def IsD (H:Hp)(a:Addr):Prop:=(∃kvs,Rd H a (.dK kvs))\/∃kvs,Rd H a (.dT kvs)
theorem FT {X:Cx}(I:Inv X zC σ H s)(d:IsD H a):
  s.TypeIs (.ref a) "dict" /\ (∀b,Value.ref a=.ref b->∃ob,s.heap.get? b=some ob/\ob.dict=none)/\(a == sysModules)=false:=by
 rcases d with ⟨kvs,e⟩ | ⟨kvs,e⟩
 ·obtain⟨_,hd,vs,_,dd⟩:=n6 I.AK e
  refine⟨dd.typeIs,λb q=>?_,hd⟩
  cases q
  obtain⟨ob,_,_,h1,h2,_⟩:=dd
  exact⟨ob,h1,h2.2.1⟩
 ·obtain⟨_,hd,xs,_,dd⟩:=ur I.B8 I.AK e
  refine⟨dd.typeIs,λb q=>?_,hd⟩
  cases q
  obtain⟨ob,_,_,h1,h2,_⟩:=dd
  exact⟨ob,h1,h2.2.1⟩
section
variable {X:Cx}{zC:p9}{σ:St}{H:Hp}{s:Shared}{a:Addr}{y d:V}{u r:Value}{o:Option V}{A:Around}{E:oT}
theorem Ou {Q:oT}(hu:A.units+9 < cLine)(I:Inv X zC σ H s)(g:A5 X.K H a y o)(ry:RelV y u)(rd:RelV d r)(h:∀w' s',Inv X zC σ H s'->RelV (o.getD d) w'->Q w' s'):
  wpAny (model X.prog X.w) A (call (.builtin "dict.get") [.ref a,u,r]) Q E s:=by
 rcases g with ⟨kvs,k,e,ey,l⟩ | ⟨kvs,k,b,e,ey,eb,l⟩
 ·subst ey
  obtain⟨z,hd,vs,rel,dd⟩:=n6 I.AK e
  refine call_meetsIn k6 dd.typeIs oC (om _ _ _) (meets_dict_get_default (dX X.prog X.w) a (uq ry) hd r) ⟨_,dd.mapOf,h _ _ (I.tok _) ?_⟩
  rw[l]
  exact(rel.val k).getD rd
 ·subst ey
  cases (show u=Value.ref b from ry)
  obtain⟨z,hd,xs,rel,dd⟩:=ur I.B8 I.AK e
  refine call_meetsIn k6 dd.typeIs oC (om _ _ _) (meetsH_dict_get_default (cY X.prog X.w) a b hd r) ⟨C9 hu,k,xs,jf I.B8 I.AK eb,dd,h _ _ (I.tok _) ?_⟩
  rw[l]
  exact(rel.val k).getD rd
end
def yU (K:W.Frag)(td ty tx:TE):TE:=fun σ H Q=>td σ H λx H1=>∃a,x=.ref a/\IsD H1 a/\ty σ H1 λy H2=>tx σ H2 λz H3=>∃o,A5 K H3 a y o/\Q (o.getD z) H3
section
variable {X:Cx}{o e f:Expr}{apos AG:Pos}{td ty tx:TE}
theorem su (hu:X.A.units+9 < cLine)(ho:PE X o td)(he:PE X e ty)(hf:PE X f tx)(m:M2 X o "get" apos e f AG):PE X (.Call (.Attribute o "get" apos) [e,f] [] AG) (yU X.K td ty tx):=by
 intro zC s σ H Q I h
 refine wpAny_Call_method m.base m.TL m.line PySem.F.plainAttrs_dict k6 PySem.F.type_dict_get (AM (ho zC s σ H _ I h) ?_)
 rintro u s1 ⟨x,H1,I1,rx,a,ex,d,q1⟩
 subst ex
 obtain rfl:u=Value.ref a:=rx
 obtain⟨t1,t2,_⟩:=FT I1 d
 refine⟨t1,t2,?_⟩
 rw[m.trees]
 refine Calls.callWith_builtin rfl (Calls.evalArgs_plain (iL (AM (he zC s1 σ H1 _ I1 q1) λiv s2 ⟨y,H2,I2,ry,q2⟩=>
  iL (AM (hf zC s2 σ H2 _ I2 q2) λfv s3 ⟨z,H3,I3,rz,ov,g,q3⟩=>kF ?_))))
 exact Ou hu I3 g ry rz λw' s4 I4 HU=>⟨_,H3,I4,HU,q3⟩
end
end Lake.L2
namespace Lake.HT
open PySem PyProof.Rows
section
variable {prog:Program}{w:World}{A:Around}{E:oT}{s:Shared}
theorem OV {t b:Addr}{vs ws:qf}{Q:oT}(ht:IsTup s.heap t vs.toArray)(hb:IsTup s.heap b ws.toArray)(hv:vs≠[])
  (h1:ws=[]->Q (.ref t) s) (h2:ws≠[]->Q (.ref s.heap.objs.size) { s with heap:=s.heap.push { cls:=.type "tuple",data:=.seq (vs++ws).toArray } })
  (hsz:vs.length+ws.length<=sizeLine):wpAny (model prog w) A (binaryOp .Add (.ref t) (.ref b)) Q E s:=by
 obtain⟨⟨cls,dd,data,sl⟩,ho,hc,n,hd⟩:=id ht
 obtain⟨⟨VW,RH,data2,RI⟩,Oy,Ki,n2,hd2⟩:=id hb
 simp only at hc hd Ki hd2
 subst hc hd Ki hd2
 have e:vs.toArray++ws.toArray=(vs++ws).toArray:=by simp
 by_cases hw:ws=[]
 ·exact concat_meets ⟨_,ho,rfl⟩ ⟨_,Oy,rfl⟩ oq pV kG kB (jI _ _)
   (tuple_addW1 t b vs.toArray ws.toArray n n2 dd RH sl RI (by simpa using hv) (by simp[hw])) ⟨ho,Oy,h1 hw⟩
 ·refine concat_meets ⟨_,ho,rfl⟩ ⟨_,Oy,rfl⟩ oq pV kG kB (jI _ _)
   (tuple_addW2 t b vs.toArray ws.toArray n n2 dd RH sl RI (by simpa using hv) (by simpa using hw) (by rw[aI,aI];exact hsz)) ⟨ho,Oy,?_⟩
  rw[e]
  exact h2 hw
noncomputable def AS (n d:Nat):Option Int->Nat
 | none=>d
 | some v=>if v < 0 then (v+(n:Int)).toNat else min v.toNat n
theorem L9 (n d:Nat)(hd:d<=n)(o:Option Int):AS n d o<=n:=by
 cases o with
 | none=>exact hd
 | some v=>
  show (if v < 0 then (v+(n:Int)).toNat else min v.toNat n)<=n
  by_cases hv:v < 0
  ·rw[a0 hv];omega
  ·rw[ax hv];exact Nat.min_le_right _ _
theorem BJ (v:Int)(n d:Nat):(if v < 0 then max (v+(n:Int)) 0 else min v (n:Int))=((AS n d (some v):Nat):Int):=by
 show (if v < 0 then max (v+(n:Int)) 0 else min v (n:Int))=(((if v < 0 then (v+(n:Int)).toNat else min v.toNat n):Nat):Int)
 by_cases hv:v < 0
 ·simp only[a0 hv];omega
 ·simp only[ax hv];omega
theorem Dj (lo hi:Option Int)(n:Nat):Builtin.Slice.sliceAdjust lo hi 1 (n:Int)=(((AS n 0 lo:Nat):Int),((AS n n hi:Nat):Int)):=by
 have h1:¬ ((1:Int) < 0):=by omega
 unfold Builtin.Slice.sliceAdjust
 simp only[h1,fm]
 refine Prod.ext ?_ ?_
 ·cases lo with
  | none=>rfl
  | some v=>exact BJ v n 0
 ·cases hi with
  | none=>rfl
  | some v=>exact BJ v n n
theorem Dk (i j:Nat):Builtin.Slice.slicePlaces (i:Int) (j:Int) 1=j - i:=by
 unfold Builtin.Slice.slicePlaces
 have h1:(1:Int) > 0:=by omega
 simp only[h1,fw,Int.ediv_one]
 split <;> omega
theorem ut {v:Value}{o:Option Int}{Q:Option Int->Shared->Prop}(p:IsPart v o)(h:Q o s):wpAny (model prog w) A (Builtin.Slice.slicePartIndex v) Q E s:=by
 cases p with
 | none=>exact slicePart_none h
 | int i t=>exact slicePart_int h
theorem j9 {sl:Addr}{vl vu:Value}{lo hi:Option Int}{n:Nat}{Q:Int×Int×Nat->Shared->Prop}(hs:s.heap.IsSliceOf sl vl vu .none)(pl:IsPart vl lo)(pu:IsPart vu hi)
  (h:Q (((AS n 0 lo:Nat):Int),1,AS n n hi - AS n 0 lo) s):wpAny (model prog w) A (Builtin.Slice.sliceApplied (.ref sl) (pure (n:Int))) Q E s:=by
 obtain⟨os,TM,Vm,VX⟩:=id hs
 unfold Builtin.Slice.sliceApplied Builtin.Slice.sliceFields
 refine ab (ab (dL TM VX (x:=vl) rfl (ab (dL TM VX (x:=vu) rfl (ab (dL TM VX (x:=.none) rfl (ae ?_)))))))
 refine ab (slicePart_none ?_)
 show wpAny _ _ (if ((1:Int) == 0)=true then _ else _) _ _ s
 rw[ax (by decide)]
 refine ab (ut pl (ab (ut pu (ab (ae ?_)))))
 show wpAny _ _ (match Builtin.Slice.sliceAdjust lo hi 1 (n:Int) with | (lo,hi)=>pure (lo,(1:Int),Builtin.Slice.slicePlaces lo hi 1)) _ _ s
 rw[Dj lo hi n]
 show wpAny _ _ (pure (((AS n 0 lo:Nat):Int),(1:Int),Builtin.Slice.slicePlaces ((AS n 0 lo:Nat):Int) ((AS n n hi:Nat):Int) 1)) _ _ s
 rw[Dk]
 exact ae h
theorem HY (xs:qv)(i k:Nat):((List.range k).filterMap λ(m:Nat)=>xs[((i:Int)+(m:Int)*1).toNat]?).toArray=((xs.toList.drop i).take k).toArray:=by
 have e:(λ(m:Nat)=>xs[((i:Int)+(m:Int)*1).toNat]?)=λm=>xs[i+m]?:=by
  funext m
  have:((i:Int)+(m:Int)*1).toNat=i+m:=by omega
  rw[this]
 rw[e]
 have:=pick_run xs i k
 rw[List.filterMap_map] at this
 have e2:((λx=>xs[x]?)∘λx=>i+x)=λm=>xs[i+m]?:=rfl
 rw[e2] at this
 rw[this]
theorem DV {t sl:Addr}{items:qv}{vl vu:Value}{lo hi:Option Int}{Q:oT}(ht:IsTup s.heap t items)(hs:s.heap.IsSliceOf sl vl vu .none)(pl:IsPart vl lo)(pu:IsPart vu hi)
  (hw:¬ (AS items.size 0 lo=0/\AS items.size items.size hi=items.size))
  (h:Q (.ref s.heap.objs.size) { s with heap:=s.heap.push { cls:=.type "tuple",data:=.seq ((items.toList.drop (AS items.size 0 lo)).take (AS items.size items.size hi - AS items.size 0 lo)).toArray } })
  (hsz:items.size<=sizeLine):wpAny (model prog w) A (getItem (.ref t) (.ref sl)) Q E s:=by
 have Kj:sizeOk (.seq ((items.toList.drop (AS items.size 0 lo)).take (AS items.size items.size hi - AS items.size 0 lo)).toArray):=by
  show ((items.toList.drop (AS items.size 0 lo)).take (AS items.size items.size hi - AS items.size 0 lo)).toArray.size<=sizeLine
  rw[aI,gX,g6,gy]
  omega
 have hj:AS items.size items.size hi<=items.size:=L9 _ _ (aE _) hi
 obtain⟨os,TM,Vm,VX⟩:=id hs
 have YC:s.TypeIs (.ref sl) "slice" := ⟨os,TM,Vm⟩
 unfold getItem
 try with_reducible refine ef ?_
 first | refine ab (ae ?_) | skip
 refine ab (nh ht.typeIs (by decide) ?_)
 refine ab (cx (name:=Str.ofString "__getitem__") ht.typeIs eB
  (db eB ht.typeIs entry_tuple_getitem ?_ (args_tuple_getitem _ _)))
 show wpAny _ _ (Builtin.Tuple.tupleItemsOf (.ref t) >>= _) _ _ s
 refine ab (tupleItemsOf_ ht ?_)
 refine ab (i9 YC ?_)
 rw[a0 (by decide)]
 refine ab (j9 hs pl pu ?_)
 have OA:¬ ((((AS items.size 0 lo:Nat):Int) == 0&&(1:Int) == 1&&(AS items.size items.size hi - AS items.size 0 lo) == items.size)=true):=by
  intro q
  rw[b6,b6] at q
  have q1:((AS items.size 0 lo:Nat):Int)=0:=eq_of_beq q.1.1
  have q2:AS items.size items.size hi - AS items.size 0 lo=items.size:=eq_of_beq q.2
  exact hw ⟨by omega,by omega⟩
 show wpAny _ _ (if (((AS items.size 0 lo:Nat):Int) == 0&&(1:Int) == 1&&(AS items.size items.size hi - AS items.size 0 lo) == items.size)=true then _ else _) _ _ s
 rw[ax OA,HY]
 first
  | exact ab (m:=Builtin.Tuple.tupleExact _) (cS (ae ⟨_,rfl,ae h⟩) Kj)
  | exact ab (m:=Builtin.Tuple.tupleExact _) (cS (ab (ae (ae ⟨_,rfl,ae h⟩))) Kj)
  | exact ab (ab (m:=Builtin.Tuple.tupleExact _) (cS (ae (ae ⟨_,rfl,ae h⟩)) Kj))
  | exact ab (ab (m:=Builtin.Tuple.tupleExact _) (cS (ae ⟨_,rfl,ae h⟩) Kj))
end
end Lake.HT
namespace Lake.L2
open PySem PySem.Spec PyProof.Rows
abbrev TO:=St->Hp->(Option Int->Hp->Prop)->Prop
def PO (X:Cx)(e:Option Expr)(t:TO):Prop:=
 ∀(zC:p9) (s:Shared) (σ:St) (H:Hp) (Q:Option Int->Hp->Prop),Inv X zC σ H s->t σ H Q->
  wpAny (model X.prog X.w) X.A (evalPart e X.env) (λu s'=>∃o H',Inv X zC σ H' s'/\IsPart u o/\Q o H') X.xe s
def K5:TO:=λ_ H Q=>Q none H
def RC (t:TE):TO:=fun σ H Q=>t σ H λx H1=>∃i,x=.int i/\Q (some i) H1
variable {r:V->Option Int->Option Int->Hp->VK->Prop}
section
variable {X:Cx}{e:Expr}{te:TE}{lo hi:Option Expr}{tl th:TO}{pos p2:Pos}
theorem K6:PO X none K5:=by
 intro zC s σ H Q I h
 rw[evalPart_none]
 exact ae ⟨none,H,I,.none,h⟩
theorem K7 (h:PE X e te):PO X (some e) (RC te):=by
 intro zC s σ H Q I hw
 rw[evalPart_some]
 refine AM (h zC s σ H _ I hw) ?_
 rintro u s1 ⟨x,H1,I1,r1,q1⟩
 obtain⟨i,rfl,q⟩:=q1
 obtain⟨t,rfl⟩:=r1
 exact⟨some i,H1,I1,.int i t,q⟩
def Mb (X:Cx)(r:V->Option Int->Option Int->Hp->VK->Prop):Prop:=
 ∀(zC:p9) (s:Shared) (σ:St) (H:Hp) (x:V) (v vl vu:Value) (lo hi:Option Int) (sl:Addr) (Q:VK),Inv X zC σ H s->RelV x v->s.heap.IsSliceOf sl vl vu .none->IsPart vl lo->IsPart vu hi->r x lo hi H Q->
  ∃T id,typeLookup (.type T) "__getitem__" = pure (some (.builtin id))/\s.TypeIs v T/\wpAny (model X.prog X.w) X.A (getItem v (.ref sl)) (EP X zC σ Q) X.xe s
theorem Mb.or {r':V->Option Int->Option Int->Hp->VK->Prop}(h:Mb X r)(h':Mb X r'):Mb X (λx lo hi H Q=>r x lo hi H Q\/r' x lo hi H Q):=by
 intro zC s σ H x v vl vu lo hi sl Q I rx hs pl pu q
 rcases q with q | q
 ·exact h zC s σ H x v vl vu lo hi sl Q I rx hs pl pu q
 ·exact h' zC s σ H x v vl vu lo hi sl Q I rx hs pl pu q
def tSl (r:V->Option Int->Option Int->Hp->VK->Prop)(te:TE)(tl th:TO):TE:=fun σ H Q=>te σ H λx H1=>tl σ H1 λl H2=>th σ H2 λu H3=>r x l u H3 Q
theorem yV (hr:Mb X r)(he:PE X e te)(hl:PO X lo tl)(hu:PO X hi th):PE X (.Subscript e (.Slice lo hi none p2) pos) (tSl r te tl th):=by
 intro zC s σ H Q I h
 refine Subscript_ (AM (he zC s σ H _ I h) ?_)
 rintro v s1 ⟨x,H1,I1,r1,q1⟩
 refine wpAny_Slice (AM (hl zC s1 σ H1 _ I1 q1) λvl s2 ⟨l,H2,I2,pl,q2⟩=>AM (hu zC s2 σ H2 _ I2 q2) ?_)
 rintro vu s3 ⟨u,H3,I3,pu,q3⟩
 rw[evalPart_none]
 refine ae ?_
 have I4:Inv X zC σ H3 { s3 with heap:=s3.heap.push { cls:=.type "slice",data:=.fields #[vl,vu,.none] } }:=I3.kept (t':=s3.toks) λb ob q=>ac _ q
 obtain⟨T,id,hT,ht,hg⟩:=hr zC { s3 with heap:=s3.heap.push { cls:=.type "slice",data:=.fields #[vl,vu,.none] } } σ H3 x v vl vu l u s3.heap.objs.size Q I4 r1 (Heap.IsSliceOf.new ..) pl pu q3
 show wpAny (model X.prog X.w) X.A (subscriptTail e (.Slice lo hi none p2) v (.ref s3.heap.objs.size)) (EP X zC σ Q) X.xe { s3 with heap:=s3.heap.push { cls:=.type "slice",data:=.fields #[vl,vu,.none] } }
 exact tail_any (ops:=[.ref s3.heap.objs.size,v]) ht hT hg (by with_unfolding_all rfl)
noncomputable def pY (xs:List V)(lo hi:Option Int):List V:=(xs.drop (HT.AS xs.length 0 lo)).take (HT.AS xs.length xs.length hi - HT.AS xs.length 0 lo)
theorem rO (xs:List V)(lo hi:Option Int):(pY xs lo hi).length<=xs.length:=by
 unfold pY
 rw[gX,g6]
 omega
def Ov (K:W.Frag):V->Option Int->Option Int->Hp->VK->Prop:=λx lo hi H Q=>∃a xs,x=.ref a/\B6 K H a xs /\
 ¬ (HT.AS xs.length 0 lo=0/\HT.AS xs.length xs.length hi=xs.length)/\∀p,H p=none->Q (.ref p) (upd H p (.tup (pY xs lo hi)))
theorem Ox:Mb X (Ov X.K):=by
 intro zC s σ H x v vl vu lo hi sl Q I rx hs pl pu h
 obtain⟨a,xs,rfl,hx,hw,q⟩:=h
 cases rx
 obtain⟨As,r,ht,hz⟩:=I.tuple hx
 have hlen:As.toArray.size=xs.length:=by rw[aI];exact r.length.symm
 refine⟨"tuple",_,eB.lookup,ht.typeIs,?_⟩
 refine HT.DV ht hs pl pu (by rw[hlen];exact hw) ?_ (by rw[hlen];exact hz)
 rw[hlen]
 refine⟨.ref s.heap.objs.size,_,I.laid (t':=s.toks) (o:=.tup (pY xs lo hi)) (λb ob q=>ac _ q) (aE _) ?_,rfl,q _ (I.AK.fresh (aE _))⟩
 exact⟨d5 (rO xs lo hi) hz,_,(r.drop (HT.AS xs.length 0 lo)).take (HT.AS xs.length xs.length hi - HT.AS xs.length 0 lo),⟨_,ar _ rfl,rfl,0,rfl,rfl⟩⟩
def uv (K:W.Frag):R2:=λx y H Q=>∃a b xs ys,x=.ref a/\y=.ref b/\B6 K H a xs/\B6 K H b ys/\xs≠[]/\xs.length+ys.length<=sizeLine /\
 (ys=[]->Q (.ref a) H)/\(ys≠[]->∀p,H p=none->Q (.ref p) (upd H p (.tup (xs++ys))))
theorem Vals.GN {xs:List V}{us:qf}(r:Vals xs us):us=[]↔xs=[]:=by
 cases r with
 | nil=>simp
 | cons _ _=>simp
theorem K8:BN X (binaryOp .Add) (uv X.K):=by
 intro zC s σ H x y v u Q I rx ry h
 obtain⟨a,b,xs,ys,rfl,rfl,ha,hb,hx,hz,q1,q2⟩:=h
 cases rx
 cases ry
 obtain⟨As,r1,p1,_⟩:=I.tuple ha
 obtain⟨CU,r2,p2,_⟩:=I.tuple hb
 refine HT.OV p1 p2 (λz=>hx (r1.GN.mp z)) (λz=>⟨.ref a,H,I,rfl,q1 (r2.GN.mp z)⟩) (λz=>?_) (by rw[← r1.length,← r2.length];exact hz)
 refine⟨.ref s.heap.objs.size,_,I.laid (t':=s.toks) (o:=.tup (xs++ys)) (λb ob q=>ac _ q) (aE _) ?_,rfl,q2 (λw=>z (r2.GN.mpr w)) _ (I.AK.fresh (aE _))⟩
 exact⟨by rw[bp];exact hz,_,r1.append r2,⟨_,ar _ rfl,rfl,0,rfl,rfl⟩⟩
end
noncomputable def Kk (n:Nat)(i:Int):Option Nat:=if 0<=i then (if i < n then some i.toNat else none) else if -(n:Int)<=i then some (i+n).toNat else none
noncomputable def B5 {α:Type}(xs:List α)(i:Int):Option α:=(Kk xs.length i).bind λj=>xs[j]?
theorem BK {n:Nat}{i:Int}{j:Nat}(h:Kk n i=some j):seqIndex? i n=some j/\j < n/\-(n:Int)<=i/\i < n:=by
 unfold Kk at h
 by_cases h0:0<=i
 ·rw[a0 h0] at h
  by_cases h1:i < n
  ·rw[a0 h1] at h
   have e:i.toNat=j:=be h
   exact⟨by rw[seqIndex_of h0 h1,e],by omega,by omega,h1⟩
  ·rw[ax h1] at h;cases h
 ·rw[ax h0] at h
  by_cases h1:-(n:Int)<=i
  ·rw[a0 h1] at h
   have e:(i+n).toNat=j:=be h
   exact⟨by rw[seqIndex_neg (by omega) h1,e],by omega,h1,by omega⟩
  ·rw[ax h1] at h;cases h
theorem vG {α:Type}{xs:List α}{i:Int}{v:α}(h:B5 xs i=some v):∃j,seqIndex? i xs.length=some j/\xs[j]?=some v/\j < xs.length/\-(xs.length:Int)<=i/\i < xs.length:=by
 unfold B5 at h
 cases e:Kk xs.length i with
 | none=>rw[e] at h;cases h
 | some j=>
  rw[e] at h
  obtain⟨h1,h2,h3,h4⟩:=BK e
  exact⟨j,h1,h,h2,h3,h4⟩
theorem K9 {α:Type}{xs:List α}{j:Nat}{v:α}(h:xs[j]?=some v):B5 xs (j:Int)=some v:=by
 have hj:j < xs.length:=(ag.mp h).1
 have e:Kk xs.length (j:Int)=some j:=by
  unfold Kk
  rw[a0 (by omega),a0 (by omega)];simp
 unfold B5;rw[e];exact h
def BL (b:Expr):Prop:=∀o i,subscripted b false o i=operate [o,i] (getItem o i)
def Mc (X:Cx)(r:R2):Prop:=
 ∀(value slice:Expr) (zC:p9) (s:Shared) (σ:St) (H:Hp) (x y:V) (v u:Value) (Q:VK),Inv X zC σ H s->RelV x v->RelV y u->r x y H Q->
  subscripted slice false v u=operate [v,u] (getItem v u)->wpAny (model X.prog X.w) X.A (subscriptTail value slice v u) (EP X zC σ Q) X.xe s
def XD (X:Cx)(id:String)(r:V->List V->Hp->VK->Prop):Prop:=
 ∀(zC:p9) (s:Shared) (σ:St) (H:Hp) (x:V) (xs:List V) (v:Value) (us:qf) (Q:VK),Inv X zC σ H s->RelV x v->Vals xs us->r x xs H Q->
  wpAny (model X.prog X.w) X.A (call (.builtin id) (v::us)) (EP X zC σ Q) X.xe s
section
variable {X:Cx}{a b:Expr}{ta tb:TE}{pos:Pos}
theorem Mc.or {r r':R2}(h:Mc X r)(h':Mc X r'):Mc X (λx y H Q=>r x y H Q\/r' x y H Q):=by
 intro value slice zC s σ H x y v u Q I rx ry q hs
 rcases q with q | q
 ·exact h value slice zC s σ H x y v u Q I rx ry q hs
 ·exact h' value slice zC s σ H x y v u Q I rx ry q hs
theorem uw {r:R2}(hr:Mc X r)(ha:PE X a ta)(hb:PE X b tb)(hs:BL b):PE X (.Subscript a b pos) (L6 r ta tb):=by
 intro zC s σ H Q I h
 exact Subscript_ (HJ ha hb I h λv u s2 x y H2 I2 rx ry q=>hr a b zC s2 σ H2 x y v u Q I2 rx ry q (hs _ _))
def vH (K:W.Frag):R2:=λx y H Q=>∃p xs i v,x=.ref p/\y=.int i/\A0 K H p xs/\B5 xs i=some v/\Q v H
def Dl (K:W.Frag):R2:=λx y H Q=>∃p xs i v,x=.ref p/\y=.int i/\B6 K H p xs/\B5 xs i=some v/\Q v H
def Oz:R2:=λx y H Q=>∃z i c,x=.str z/\y=.int i/\z.length<=sizeLine/\B5 z.cps.toList i=some c/\Q (.str ⟨#[c]⟩) H
theorem Kn:Mc X (vH X.K):=by
 intro value slice zC s σ H x y v u Q I rx ry h hs
 obtain⟨p,xs,i,z,rfl,rfl,hq,he,q⟩:=h
 cases rx
 obtain⟨t,rfl⟩:=ry
 obtain⟨As,r,pl,hz⟩:=I.list hq
 obtain⟨j,h1,h2,h3,h4,h5⟩:=vG he
 obtain⟨w,ew,HU⟩:=r.get h2
 have hl:=r.length
 have hn:=mU
 have fin:EP X zC σ Q w s:=⟨z,H,I,HU,q⟩
 by_cases h0:0<=i
 ·have hj:i.toNat=j:=by
   rw[seqIndex_of h0 h5] at h1
   exact be h1
  exact item_listR pl.isList h0 (by omega) (by rw[hj];simpa using ew) fin hs
 ·have hj:(i+(As.toArray.size:Int)).toNat=j:=by
   rw[seqIndex_neg (by omega) h4] at h1
   rw[aI,← hl]
   exact be h1
  exact subscriptTail_builtinR (x:=w) pl.isList.typeIs slot_list_getitem.lookup
   (wpAny_getItem_list_neg (Q:=λr s'=>r=w/\EP X zC σ Q r s') pl.isList (by omega) (by rw[aI] <;> omega) (by omega) (by rw[hj];simpa using ew) ⟨rfl,fin⟩) hs
theorem Me:Mc X (Dl X.K):=by
 intro value slice zC s σ H x y v u Q I rx ry h hs
 obtain⟨p,xs,i,z,rfl,rfl,hq,he,q⟩:=h
 cases rx
 obtain⟨t,rfl⟩:=ry
 obtain⟨As,r,pl,hz⟩:=I.tuple hq
 obtain⟨j,h1,h2,h3,h4,h5⟩:=vG he
 obtain⟨w,ew,HU⟩:=r.get h2
 have hl:=r.length
 have hn:=mU
 have fin:EP X zC σ Q w s:=⟨z,H,I,HU,q⟩
 exact subscriptTail_builtinR (x:=w) pl.typeIs slot_tuple_getitem.lookup
  (getItem_tuple (j:=j) (Q:=λr s'=>r=w/\EP X zC σ Q r s') pl (by omega) (by omega) (by rw[aI,← hl];exact h1) (by simpa using ew) ⟨rfl,fin⟩) hs
theorem OD:Mc X Oz:=by
 intro value slice zC s σ H x y v u Q I rx ry h hs
 obtain⟨z,i,c,rfl,rfl,hz,he,q⟩:=h
 obtain⟨t,rfl⟩:=rx
 obtain⟨t',rfl⟩:=ry
 obtain⟨j,h1,h2,h3,h4,h5⟩:=vG he
 have hl:z.cps.toList.length=z.length:=by simp[Str.length]
 rw[hl] at h1 h4 h5
 have hn:=mU
 exact tail_any (typeIs_str s z t) slot_str_getitem.lookup (getItem_str (c:=c) (by
  have e1:decide (i < -(2 ^ 63:Int))=false:=dy (by omega)
  have e2:decide (i ≥ 2 ^ 63)=false:=dy (by omega)
  rw[e1,e2,Bool.or_false]) (by rw[h1];simpa using h2) ⟨.str ⟨#[c]⟩,H,I.tok _,⟨_,rfl⟩,q⟩) hs
def rIx (K:W.Frag):R2:=λx y H Q=>vH K x y H Q\/Dl K x y H Q\/Oz x y H Q
theorem OJ:Mc X (rIx X.K):=Kn.or (Me.or OD)
theorem Dm (As:qf)(n j:Nat)(u:Value):Obj.mapSeq (·.setIfInBounds j u) { cls:=.type "list",data:=.seq As.toArray n }={ cls:=.type "list",data:=.seq (As.set j u).toArray n }:=by
 simp[Obj.mapSeq]
theorem Inv.lst {zC:p9}{σ:St}{H:Hp}{s:Shared}{p:Addr}{xs:List V}(I:Inv X zC σ H s)(h:H p=some (.lst xs)):
  ∃(As:qf) (n:Nat),Vals xs As/\s.heap.get? p=some { cls:=.type "list",data:=.seq As.toArray n }/\xs.length<=sizeLine:=by
 obtain⟨z,As,n,r,e⟩:=I.AK p _ h
 exact⟨As,n,r,e,z⟩
theorem Inv.TN {zC:p9}{σ:St}{H:Hp}{s:Shared}{p:Addr}{xs ys:List V}{As its':qf}{n n':Nat}{f:Obj->Obj}(I:Inv X zC σ H s)(h:H p=some (.lst xs))
  (ho:s.heap.get? p=some { cls:=.type "list",data:=.seq As.toArray n }) (hf:f { cls:=.type "list",data:=.seq As.toArray n }={ cls:=.type "list",data:=.seq its'.toArray n' }) (r:Vals ys its') (hz:ys.length<=sizeLine) (t:Nat):
  Inv X zC σ (upd H p (.lst ys)) { s with heap:=s.heap.update p f,toks:=t }:=by
 have e:(s.heap.update p f).get? p=some { cls:=.type "list",data:=.seq its'.toArray n' }:=by
  rw[eK f ho (by rw[hf] <;> rfl),hf]
 refine I.write (x:=p) (e:=p) (by rw[h];trivial) (.inl rfl) (λb u hb q=>(eS _ _ (fT hb)).trans q) ⟨_,e⟩ ?_
 exact⟨hz,its',n',r,e⟩
def RD:V->V->V->Hp->(Hp->Prop)->Prop:=λo i v H Q=>∃p xs k j,o=.ref p/\i=.int k/\H p=some (.lst xs)/\Kk xs.length k=some j/\Q (upd H p (.lst (xs.set j v)))
theorem set_list:Oa X RD:=by
 intro zC s σ H o i v ov iv u Q I ro ri rv h
 obtain⟨p,xs,k,j,rfl,rfl,hp,hj,q⟩:=h
 cases ro
 obtain⟨t,rfl⟩:=ri
 obtain⟨As,n,r,ho,hz⟩:=I.lst hp
 obtain⟨h1,h2,h3,h4⟩:=BK hj
 have hl:=r.length
 have hn:=mU
 have I':Inv X zC σ (upd H p (.lst (xs.set j v))) { s with heap:=s.heap.update p (Obj.mapSeq (·.setIfInBounds j u)) }:=
  I.TN hp ho (Dm As n j u) (r.set rv j) (by rw[d0];exact hz) s.toks
 by_cases h0:0<=k
 ·have hk:k.toNat=j:=by
   rw[seqIndex_of h0 h4] at h1
   exact be h1
  exact W.ki_setAt ho h0 (by omega) (by rw[aI,← hl];exact h4) (by rw[hk];exact⟨_,I',q⟩)
 ·have hk:(k+(As.toArray.size:Int)).toNat=j:=by
   rw[seqIndex_neg (by omega) h3] at h1
   rw[aI,← hl]
   exact be h1
  exact W.ki_setBack ho (by omega) (by rw[aI,← hl];exact h3) (by omega) (by rw[hk];exact⟨_,I',q⟩)
theorem yW (lo hi:Option Int)(n:Nat):(sliceBounds lo hi none n).1=((HT.AS n 0 lo:Nat):Int)/\(sliceBounds lo hi none n).2.1=((HT.AS n n hi:Nat):Int)/\(sliceBounds lo hi none n).2.2=1:=by
 refine⟨?_,?_,rfl⟩
 ·cases lo with
  | none=>simp[sliceBounds,HT.AS]
  | some i=>
   simp only[sliceBounds,HT.AS,Option.getD_none,show (1:Int) > 0 by decide,fw]
   by_cases h:i < 0
   ·simp only[h,fw] <;> omega
   ·simp only[h,fm] <;> omega
 ·cases hi with
  | none=>simp[sliceBounds,HT.AS]
  | some i=>
   simp only[sliceBounds,HT.AS,Option.getD_none,show (1:Int) > 0 by decide,fw]
   by_cases h:i < 0
   ·simp only[h,fw] <;> omega
   ·simp only[h,fm] <;> omega
theorem xN (As:qf)(lo hi:Option Int):slicePick As.toArray lo hi none=((As.drop (HT.AS As.length 0 lo)).take (HT.AS As.length As.length hi - HT.AS As.length 0 lo)).toArray:=by
 obtain⟨h1,h2,h3⟩:=yW lo hi As.toArray.size
 unfold slicePick
 rw[h1,h2,h3]
 simp only[sliceRange_one,pick_run,aI] <;> rfl
def O1 (K:W.Frag):V->Option Int->Option Int->Hp->VK->Prop:=λx lo hi H Q=>∃a xs,x=.ref a/\A0 K H a xs/\∀p,H p=none->Q (.ref p) (upd H p (.lst (pY xs lo hi)))
theorem OW:Mb X (O1 X.K):=by
 intro zC s σ H x v vl vu lo hi sl Q I rx hs pl pu h
 obtain⟨a,xs,rfl,hx,q⟩:=h
 cases rx
 obtain⟨As,r,ht,hz⟩:=I.list hx
 have hlen:=r.length
 refine⟨"list",_,slot_list_getitem.lookup,ht.isList.typeIs,?_⟩
 refine wpAny_getItem_list_slice ht.isList hs pl pu .none (by simp) ?_ (by rw[aI] <;> omega)
 rw[xN,← hlen]
 refine⟨.ref s.heap.objs.size,_,I.laid (t':=s.toks) (o:=.lst (pY xs lo hi)) (λb ob q=>ac _ q) (aE _) ?_,rfl,q _ (I.AK.fresh (aE _))⟩
 exact⟨d5 (rO xs lo hi) hz,_,0,(r.drop (HT.AS xs.length 0 lo)).take (HT.AS xs.length xs.length hi - HT.AS xs.length 0 lo),ar _ rfl⟩
def gq:V->Bool
 | .Au=>true
 | .bl _=>true
 | .int _=>true
 | .str _=>true
 | _=>false
noncomputable def OX:V->V->Bool
 | .Au,.Au=>true
 | .bl a,.bl b=>a == b
 | .bl a,.int b=>(if a then 1 else 0) == b
 | .int a,.bl b=>a == (if b then 1 else 0)
 | .int a,.int b=>a == b
 | .str a,.str b=>a == b
 | _,_=>false
theorem O2 {A:Around}{s:Shared}{y x:V}{u v:Value}(ry:RelV y u)(rx:RelV x v)(fy:gq y=true)(fx:gq x=true):SeqAt.EqAt A s u v (OX y x):=by
 cases y with
 | Au=>
  cases ry
  cases x with
  | Au=>cases rx;exact SeqAt.EqAt.same _
  | bl b=>cases rx;exact SeqAt.EqAt.none_bool b
  | int b=>obtain⟨t,rfl⟩:=rx;exact SeqAt.EqAt.none_int b t
  | str b=>obtain⟨t,rfl⟩:=rx;exact SeqAt.EqAt.none_str b t
  | _=>exact absurd (show false=true from fx) bd
 | bl a=>
  cases ry
  cases x with
  | Au=>cases rx;exact SeqAt.EqAt.bool_none a
  | bl b=>cases rx;exact SeqAt.EqAt.bool_bool a b
  | int b=>obtain⟨t,rfl⟩:=rx;exact SeqAt.EqAt.bool_int a b t
  | str b=>obtain⟨t,rfl⟩:=rx;exact SeqAt.EqAt.bool_str a b t
  | _=>exact absurd (show false=true from fx) bd
 | int a=>
  obtain⟨t',rfl⟩:=ry
  cases x with
  | Au=>cases rx;exact SeqAt.EqAt.int_none a t'
  | bl b=>cases rx;exact SeqAt.EqAt.int_bool a t' b
  | int b=>obtain⟨t,rfl⟩:=rx;exact mw a t' b t
  | str b=>obtain⟨t,rfl⟩:=rx;exact mm a t' b t
  | _=>exact absurd (show false=true from fx) bd
 | str a=>
  obtain⟨t',rfl⟩:=ry
  cases x with
  | Au=>cases rx;exact SeqAt.EqAt.str_none a t'
  | bl b=>cases rx;exact SeqAt.EqAt.str_bool a t' b
  | int b=>obtain⟨t,rfl⟩:=rx;exact mr a t' b t
  | str b=>obtain⟨t,rfl⟩:=rx;exact SeqAt.EqAt.str_str a t' b t
  | _=>exact absurd (show false=true from fx) bd
 | _=>exact absurd (show false=true from fy) bd
noncomputable def OY (x:V)(u:Value):Bool:=match u with
 | .none=>OX .Au x
 | .bool b=>OX (.bl b) x
 | .int i _=>OX (.int i) x
 | .str z _=>OX (.str z) x
 | _=>false
theorem FW {x y:V}{u:Value}(r:RelV y u)(f:gq y=true):OY x u=OX y x:=by
 cases y with
 | Au=>cases r;rfl
 | bl b=>cases r;rfl
 | int i=>obtain⟨t,rfl⟩:=r;rfl
 | str z=>obtain⟨t,rfl⟩:=r;rfl
 | _=>exact absurd (show false=true from f) bd
theorem vI {x:V}:∀{xs:List V}{us:qf},Vals xs us->xs.all gq=true->us.any (OY x)=xs.any λy=>OX y x
 | _,_,.nil,_=>rfl
 | y::xs,u::us,.cons r t,f=>by
  rw[jv,b6] at f
  rw[eR,eR,FW r f.1,vI t f.2]
theorem sE {A:Around}{s:Shared}{x:V}{v:Value}(rx:RelV x v)(fx:gq x=true):∀{xs:List V}{us:qf},Vals xs us->xs.all gq=true->∀u∈us,SeqAt.EqAt A s u v (OY x u)
 | _,_,.nil,_=>λu hu=>by cases hu
 | y::xs,u::us,.cons r t,f=>λu' hu=>by
  rw[jv,b6] at f
  rcases bm.mp hu with rfl | hu
  ·rw[FW r f.1];exact O2 r rx f.1 fx
  ·exact sE rx fx t f.2 u' hu
noncomputable def VY (x:V)(xs:List V):Bool:=xs.any λy=>OX y x
def rIn (K:W.Frag)(neg:Bool):R2:=λx y H Q=>∃p xs,y=.ref p/\(A0 K H p xs\/B6 K H p xs)/\gq x=true/\xs.all gq=true/\Q (.bl (if neg then !VY x xs else VY x xs)) H
theorem yX:BN X (compareOp .NotIn) (rIn X.K true):=by
 intro zC s σ H x y v u Q I rx ry h
 obtain⟨p,xs,rfl,hq,fx,fs,q⟩:=h
 cases ry
 rcases hq with hq | hq
 ·obtain⟨As,r,pl,hz⟩:=I.list hq
  refine SeqAt.notIn_listAt (OY x) pl.isList (λw hw=>sE rx fx r fs w (by simpa using hw)) ⟨.bl _,H,I,rfl,?_⟩
  rw[show As.toArray.any (OY x)=As.any (OY x) by simp,vI r fs]
  exact q
 ·obtain⟨As,r,pl,hz⟩:=I.tuple hq
  refine SeqAt.notIn_tupleAt (OY x) pl (λw hw=>sE rx fx r fs w (by simpa using hw)) ⟨.bl _,H,I,rfl,?_⟩
  rw[show As.toArray.any (OY x)=As.any (OY x) by simp,vI r fs]
  exact q
theorem yZ:BN X (compareOp .NotIn) (λx y H Q=>∃i j,x=.str i/\y=.str j/\Q (.bl (!(!(Builtin.Str.occurrences j i 0 j.length 1).isEmpty))) H):=by
 intro zC s σ H x y v u Q I rx ry h
 obtain⟨i,j,rfl,rfl,q⟩:=h
 obtain⟨t,rfl⟩:=rx
 obtain⟨t',rfl⟩:=ry
 exact notIn_str ⟨.bl _,H,I,rfl,q⟩
theorem pZ:A7 X (.builtin "len") (λxs H Q=>∃p ys,xs=[.ref p]/\(A0 X.K H p ys\/B6 X.K H p ys)/\Q (.int ys.length) H):=by
 intro zC s σ H xs us Q I r h
 obtain⟨p,ys,rfl,hq,q⟩:=h
 obtain⟨u,rfl,rx⟩:=vals1 r
 cases rx
 have hn:=mU
 rcases hq with hq | hq
 ·obtain⟨As,r',pl,hz⟩:=I.list hq
  have hlen:=r'.length
  exact Calls.call_len_list pl.isList (by simp only[aI] <;> omega) ⟨.int ys.length,H,I.tok _,⟨s.toks+1,by rw[aI,hlen]⟩,q⟩
 ·obtain⟨As,r',pl,hz⟩:=I.tuple hq
  have hlen:=r'.length
  exact len_tuple pl (by simp only[aI] <;> omega) ⟨.int ys.length,H,I.tok _,⟨s.toks+1,by rw[aI,hlen]⟩,q⟩
theorem j_:A7 X (.builtin "len") (λxs H Q=>∃z,xs=[.str z]/\z.length<=sizeLine/\Q (.int z.length) H):=by
 intro zC s σ H xs us Q I r h
 obtain⟨z,rfl,hz,q⟩:=h
 obtain⟨u,rfl,t,rfl⟩:=vals1 r
 have hn:=mU
 exact len_str (by omega) ⟨.int z.length,H,I.tok _,⟨_,rfl⟩,q⟩
theorem A7.or {f:Value}{r r':List V->Hp->VK->Prop}(h:A7 X f r)(h':A7 X f r'):A7 X f (λxs H Q=>r xs H Q\/r' xs H Q):=by
 intro zC s σ H xs us Q I rs q
 rcases q with q | q
 ·exact h zC s σ H xs us Q I rs q
 ·exact h' zC s σ H xs us Q I rs q
theorem pG:A7 X (.type "tuple") (λxs H Q=>∃p ys,xs=[.ref p]/\((A0 X.K H p ys/\∀l,H l=none->Q (.ref l) (upd H l (.tup ys)))\/(B6 X.K H p ys/\Q (.ref p) H))):=by
 intro zC s σ H xs us Q I r h
 obtain⟨p,ys,rfl,h⟩:=h
 obtain⟨u,rfl,rx⟩:=vals1 r
 cases rx
 rcases h with ⟨hq,q⟩ | ⟨hq,q⟩
 ·obtain⟨As,r',pl,hz⟩:=I.list hq
  have hlen:=r'.length
  refine call_tuple_list pl.isList (λh' kp=>?_) (by simp only[aI] <;> omega)
  have I1:Inv X zC σ H { s with heap:=h' }:=I.kept (t':=s.toks) kp
  have I2:Inv X zC σ (upd H h'.objs.size (.tup ys)) { s with heap:=h'.push { cls:=.type "tuple",data:=.seq As.toArray } }:=
   I1.laid (t':=s.toks) (λb o e=>ac _ e) (aE _) (show AF X.prog X.w X.K _ _ _ (.tup ys) from ⟨hz,As,r',⟨_,ar _ rfl,rfl,0,rfl,rfl⟩⟩)
  exact⟨.ref h'.objs.size,_,I2,rfl,q _ (I1.AK.fresh (aE _))⟩
 ·obtain⟨As,r',pl,hz⟩:=I.tuple hq
  exact call_tuple_same pl ⟨.ref p,H,I,rfl,q⟩
def tyV (K:W.Frag)(T:String)(x:V)(H:Hp):Prop:=match x with
 | .str _=>T = "str"
 | .int _=>T = "int"
 | .ref p=>(T = "list" /\ ∃xs,A0 K H p xs)\/(T = "tuple" /\ ∃o,K.lookup p=some o/\o.cls=.type "tuple" /\ o.dict=none) \/
   (T = "dict" /\ ((∃kvs,H p=some (.dK kvs))\/∃kvs,H p=some (.dT kvs)))\/(T = "set" /\ ∃S n,H p=some (.set S n))
 | _=>False
theorem O3 {zC:p9}{σ:St}{H:Hp}{s:Shared}{T:String}{x:V}{v:Value}(I:Inv X zC σ H s)(r:RelV x v)(ty:tyV X.K T x H):
  s.TypeIs v T/\∀a,v=.ref a->∃ob,s.heap.get? a=some ob/\ob.dict=none:=by
 cases x with
 | str z=>
  obtain⟨t,rfl⟩:=r
  cases (show T = "str" from ty)
  exact⟨typeIs_str s z t,λ_ e=>nomatch e⟩
 | int i=>
  obtain⟨t,rfl⟩:=r
  cases (show T = "int" from ty)
  exact⟨oI s i t,λ_ e=>nomatch e⟩
 | ref p=>
  cases r
  rcases ty with ⟨rfl,xs,hq⟩ | ⟨rfl,o,hk,hc,hd⟩ | ⟨rfl,hk⟩ | ⟨rfl,S,n,hk⟩
  ·obtain⟨As,_,pl,_⟩:=I.list hq
   refine⟨pl.isList.typeIs,λa e=>?_⟩
   cases e
   obtain⟨o,n,e,c,hd,_⟩:=pl
   exact⟨o,e,hd⟩
  ·refine⟨⟨o,I.B8 p o hk,hc⟩,λa e=>?_⟩
   cases e
   exact⟨o,I.B8 _ o hk,hd⟩
  ·have z:∃o,s.heap.get? p=some o/\o.ExactDict:=by
    rcases hk with ⟨kvs,hk⟩ | ⟨kvs,hk⟩
    ·obtain⟨_,_,_,_,o,_,_,e,ex,_⟩:=I.AK p _ hk
     exact⟨o,e,ex⟩
    ·obtain⟨_,_,_,_,o,_,_,e,ex,_⟩:=I.AK p _ hk
     exact⟨o,e,ex⟩
   obtain⟨o,e,ex⟩:=z
   refine⟨⟨o,e,ex.1⟩,λa e2=>?_⟩
   cases e2
   exact⟨o,e,ex.2.1⟩
  ·obtain⟨o,_,_,_,e,ex,_⟩:=I.AK p _ hk
   refine⟨⟨o,e,ex.1⟩,λa e2=>?_⟩
   cases e2
   exact⟨o,e,ex.2.1⟩
 | _=>exact False.elim ty
def Vn (K:W.Frag)(T:String)(r:V->List V->Hp->VK->Prop)(to:TE)(t:TA):TE:=fun σ H Q=>to σ H λx H1=>tyV K T x H1/\t σ H1 λxs H2=>r x xs H2 Q
variable {o e:Expr}{es:qk}{to:TE}{t:TA}{name:Str}{apos AG:Pos}{T id:String}{r:V->List V->Hp->VK->Prop}
theorem xZ (pa:PlainAttrs T)(slot:Slot T name id)(TR:typeOf (.builtin id)=pure (.type "method_descriptor"))(hm:XD X id r)(ho:PE X o to)(ha:PA X (e::es) t)
  (BO:attributeBase o name X.env (eval o X.env)=eval o X.env:=by rfl)
  (EZ:((backTo AG (starEach (e::es) X.env)).all (λx=>!x.1)&&(backToKw AG (keywordEach [] X.env)).all (λx=>x.1.isSome)
   && decide ((e::es).length+([]:List Keyword).length+(if ([]:List Keyword).isEmpty then 0 else 1) < 30))=true:=by rfl)
  (BQ:(apos.endLine == AG.line)=true:=by rfl) (hs:starEach (e::es) X.env=(false,eval e X.env)::starEach es X.env:=by rfl) (IT:(backTo AG (starEach es X.env)).any (·.1)=false:=by rfl):
  PE X (.Call (.Attribute o name apos) (e::es) [] AG) (Vn X.K T r to t):=by
 intro zC s σ H Q I h
 refine wpAny_Call_method_late BO EZ BQ rfl (AM (ho zC s σ H _ I h) ?_)
 rintro v s1 ⟨x,H1,I1,r1,ty,q1⟩
 obtain⟨h1,h2⟩:=O3 I1 r1 ty
 refine⟨T,id,pa,slot,TR,h1,h2,?_⟩
 have hA:=ha AG zC s1 σ H1 _ I1 q1
 rw[hs] at hA ⊢
 refine Calls.callWith_builtin (by show (false||(backTo AG (starEach es X.env)).any (·.1))=false;rw[IT] <;> rfl) (Calls.evalArgs_plain ?_)
 exact AM hA λus s2 ⟨vs,H2,I2,r2,q2⟩=>hm zC s2 σ H2 x vs v us Q I2 r1 r2 q2
end
def MtM (X:Cx)(id:String)(r:V->List V->Hp->VK->Prop):Prop:=
 ∀(zC:p9) (s:Shared) (σ:St) (H:Hp) (x:V) (xs:List V) (v:Value) (us:qf) (Q:VK),Inv X zC σ H s->RelV x v->Vals xs us->r x xs H Q->
  wpAny (model X.prog X.w) X.A (call (.builtin id) (v::us)) (EP X zC σ Q) X.xe s
theorem Vals.one {x:V}{us:qf}(h:Vals [x] us):∃u,us=[u]/\RelV x u:=by
 cases h with
 | cons r t=>cases t;exact⟨_,rfl,r⟩
theorem Vals.reverse {xs:List V}{us:qf}(h:Vals xs us):Vals xs.reverse us.reverse:=by
 induction h with
 | nil=>exact .nil
 | cons r t ih=>rw[kH,kH];exact Vals.append ih (.cons r .nil)
section
variable {X:Cx}{zC:p9}{σ:St}{H:Hp}{s:Shared}{l b:Addr}{xs ys zs:List V}
theorem Inv.VZ {As its':qf}{n:Nat}{f:Array Value->Array Value}{t':Nat}(I:Inv X zC σ H s)(hH:H l=some (.lst xs))
  (e:s.heap.get? l=some { cls:=.type "list",data:=.seq As.toArray n }) (hf:f As.toArray=its'.toArray) (hv:Vals ys its') (hz:ys.length<=sizeLine):
  Inv X zC σ (upd H l (.lst ys)) { s with heap:=s.heap.update l (Obj.mapSeq f),toks:=t' }:=by
 have q:=PySem.IsL.update e f
 rw[hf] at q
 refine I.write (x:=l) (e:=l) (by rw[hH];exact trivial) (.inl rfl) (λb' u hb hu=>(eS s.heap (Obj.mapSeq f) (fT hb)).trans hu) ⟨_,q⟩ ?_
 exact⟨hz,its',_,hv,q⟩
theorem Inv.YD {As:qf}{t':Nat}(I:Inv X zC σ H s)(hv:Vals ys As)(hz:ys.length<=sizeLine):
  Inv X zC σ (upd H s.heap.objs.size (.lst ys)) { s with heap:=s.heap.push { cls:=.type "list",data:=.seq As.toArray },toks:=t' }:=
 I.laid (λ_ _ q=>ac _ q) (aE _) ⟨hz,As,0,hv,ar _ rfl⟩
theorem Inv.fresh (I:Inv X zC σ H s):H s.heap.objs.size=none:=I.AK.fresh (aE _)
theorem Inv.Mn (I:Inv X zC σ H s)(hH:H l=some (.lst xs)):xs.length<=sizeLine/\∃(As:qf) (n:Nat),Vals xs As/\xs.length=As.length/\s.heap.get? l=some { cls:=.type "list",data:=.seq As.toArray n }:=by
 obtain⟨z,As,n,r,e⟩:=I.AK l _ hH
 exact⟨z,As,n,r,r.length,e⟩
theorem H_ {n:Nat}(h:n<=sizeLine):Builtin.List.listTooLong n=false:=by
 unfold Builtin.List.listTooLong
 exact dy (by omega)
end
section
variable {X:Cx}
def vJ:V->List V->Hp->VK->Prop:=λx vs H Q=>∃l xs y,x=.ref l/\vs=[y]/\H l=some (.lst xs)/\xs.length < sizeLine/\Q .Au (upd H l (.lst (xs++[y])))
theorem jH:MtM X "list.append" vJ:=by
 intro zC s σ H x vs v us Q I rx rv h
 obtain⟨l,xs,y,rfl,rfl,hH,hz,q⟩:=h
 cases rx
 obtain⟨u,rfl,ru⟩:=rv.one
 obtain⟨z,As,n,r,hl,e⟩:=I.Mn hH
 refine k9 F.slot_list_append ⟨_,e,rfl⟩ F.entry_list_append (F.args_list_append_2 _ _) (PySem.list_append l As.toArray n u (by rw[aI];omega)) ⟨e,?_⟩
 refine⟨.Au,_,I.VZ (its':=As++[u]) hH e (by simp) (r.append (.cons ru .nil)) ?_,rfl,q⟩
 rw[bp,fe]
 omega
def K_:V->List V->Hp->VK->Prop:=λx vs H Q=>∃l b xs zs,x=.ref l/\vs=[.ref b]/\H l=some (.lst xs)/\H b=some (.lst zs)/\xs.length+zs.length<=sizeLine/\Q .Au (upd H l (.lst (xs++zs)))
theorem FZ:MtM X "list.extend" K_:=by
 intro zC s σ H x vs v us Q I rx rv h
 obtain⟨l,b,xs,zs,rfl,rfl,hH,hB,hz,q⟩:=h
 cases rx
 obtain⟨u,rfl,ru⟩:=rv.one
 cases ru
 obtain⟨z,As,n,r,hl,e⟩:=I.Mn hH
 obtain⟨z2,CU,n2,r2,RO,e2⟩:=I.Mn hB
 have hsz:As.toArray.size+CU.toArray.size<=sizeLine:=by rw[aI,aI];omega
 have V0:¬ (!As.toArray.isEmpty&&Builtin.List.listTooLong (As.toArray.size+CU.toArray.size))=true:=by
  rw[H_ hsz,Bool.and_false]
  exact bd
 refine k9 F.slot_list_extend ⟨_,e,rfl⟩ F.entry_list_extend (F.args_list_extend_2 _ _)
  (AutoSeq1.list_extend_list_list_0 l As.toArray n b CU.toArray n2 V0 (by rw[aI];omega) (by omega)) ⟨e,e2,?_⟩
 refine⟨.Au,_,I.VZ (its':=As++CU) hH e (by simp) (r.append r2) ?_,rfl,q⟩
 rw[bp]
 omega
def O4:R2:=λx y H Q=>∃l b xs zs,x=.ref l/\y=.ref b/\H l=some (.lst xs)/\H b=some (.lst zs)/\xs.length+zs.length<=sizeLine/\∀p,H p=none->Q (.ref p) (upd H p (.lst (xs++zs)))
theorem O5:BN X (binaryOp .Add) O4:=by
 intro zC s σ H x y v u Q I rx ry h
 obtain⟨l,b,xs,zs,rfl,rfl,hH,hB,hz,q⟩:=h
 cases rx
 cases ry
 obtain⟨z,As,n,r,hl,e⟩:=I.Mn hH
 obtain⟨z2,CU,n2,r2,RO,e2⟩:=I.Mn hB
 refine PySem.P.add_list e e2 ?_ (by rw[aI,aI];omega)
 have ea:As.toArray++CU.toArray=(As++CU).toArray:=by simp
 rw[ea]
 exact⟨.ref _,_,I.YD (t':=s.toks) (r.append r2) (by rw[bp];omega),rfl,q _ I.fresh⟩
end
end Lake.L2
namespace Lake.Att
open PySem PySem.W PySem.Calls PyProof.Rows
theorem ux {P:Params}{h:Heap}:∀(ns:qq) (vs:qf),WellAll P h vs (ns.map WData.int)->IntsAre vs ns:=by
 intro ns
 induction ns with
 | nil=>
  intro vs w
  rw[gE] at w
  cases w
  exact .nil
 | cons n ns ih=>
  intro vs w
  rw[ap] at w
  cases w with
  | cons a b=>
   cases a
   exact .cons _ _ (ih _ b)
theorem F_ {l:OpenLaw}{n:Nat}(hn:l.most=some n){P:Params}{h:Heap}{args:List WData}{vals:qf}
  (OZ:l.row.toRowW.claim.pre args=true) (Ee:WellAll P h vals args):
  ∃a vs ns,vals=[Value.ref a]/\args=[WData.list (ns.map WData.int)]/\h.get? a=some { cls:=.type "list",data:=.seq vs.toArray }/\IntsAre vs ns/\ns.length<=n:=by
 have hsh:WShape.hasAll [] args [.list .int]=true:=(pre_splitW OZ).1
 have hc:l.pre.holds [] { args:=args }=true:=(pre_splitW OZ).2
 obtain⟨d,r,rfl,h1,h2⟩:=hasAllW_cons hsh
 obtain rfl:=hasAllW_nil h2
 obtain⟨xs,rfl,h3⟩:=hasW_list h1
 obtain⟨ns,rfl⟩:=items_int h3
 have hlen:ns.length<=n:=by
  unfold OpenLaw.pre at hc
  have h4:(WTm.not (.lt (.lit (.int (n:Int))) (.len (.arg 0)))).holds [] { args:=[.list (ns.map .int)] }=true:=by
   have h4:=(holds_andW hc).1
   rw[hn] at h4
   exact h4
  have h5:=condW_of h4 (w_not (w_lt w_lit (w_len_list (w_arg rfl))))
  rw[ba] at h5
  refine Nat.le_of_not_lt λq=>?_
  have q':(n:Int) < ((ns.length:Nat):Int):=by omega
  first
   | (rw[g9 q'] at h5;exact absurd h5 (by decide))
   | (simp at h5;omega)
 cases Ee with
 | cons w1 w2=>
  cases w2
  cases w1 with
  | list ho Mo=>exact⟨_,_,ns,rfl,rfl,ho,ux ns _ Mo,hlen⟩
theorem Ga (l:OpenLaw)(args:List WData):l.row.toRowW.claim.post args (.bool true) args=true:=
 postW_of (r:=l.row.toRowW) (X:=(true == true))
  (show WShape.has [] (.bool true) .bool=true by first | rfl | decide | simp[WShape.has,WShape.arms,WShape.armsAll])
  (show (WTm.eq .res (.lit (.bool true))).value [] { args:=args,res:=some (.bool true),after:=args }=some (.bool (true == true)) from w_eq_bool (w_res rfl) w_lit) rfl
theorem HV {l:OpenLaw}{n:Nat}{q:Program}{loose:qo}{XP:(Str->Option Value)->Heap->Prop}{YP:World->Heap->Prop}{d:DefRec}
  (hn:l.most=some n) (V1:d.params.defaults=[])
  (call:∀(w:World) (s₀ s₁:Shared) (mg mb:Str->Option Value) (fa:Addr) (o:Obj) (pm cd doc:Value) (a:Addr) (vs:qf) (ns:qq),
   Ground q loose [] XP w s₀ mg mb s₁.heap->YP w s₁.heap->
   s₁.heap.get? fa=some o->o.data=.func (docDef d.name d.params d.body d.scope pm cd doc)->s₁.heap.CodeRec cd d.name->mg d.name=some (.ref fa)->
   s₁.heap.get? a=some { cls:=.type "list",data:=.seq vs.toArray }->IntsAre vs ns->ns.length<=n->s₁.gens=#[]->
   codeAny (model l.prog w) callerA (.call (.ref fa) ⟨[.ref a],[]⟩) (λr s'=>r=.ok (.ret (.bool true))/\OldK s₁.heap s'.heap/\s'.os=s₁.os/\AllBare s'.gens) s₁):
  WalkO q loose XP YP l.row.toRowW d [] (λf vs=>PySem.call f vs):=by
 intro w s₀ s₁ mg mb G Y fa o pm cd doc dV kV ho hd D9 hD V2 hg args vals as OZ hlay hrd Ee TU
 obtain rfl:dV=.none:=Dflts.none hD V1
 obtain rfl:kV=.none:=Dflts.noKw hD
 obtain⟨a,vs,ns,rfl,rfl,TZ,hints,hlen⟩:=F_ hn OZ Ee
 refine enter_call (mf (call w s₀ s₁ mg mb fa o pm cd doc a vs ns G Y ho (fd_plain hd) D9 V2 TZ hints hlen hg) λr s' hq=>?_)
 obtain⟨rfl,h2,h3,h4⟩:=hq
 exact⟨.inl ⟨.bool true,.bool true,[],rfl,λ_=>rfl,.bool true,Ga l _,λ_=>⟨List.Pairwise.nil,λ_ hm=>(nomatch hm)⟩⟩,h2,h3,h4⟩
end Lake.Att
namespace Lake.L2
open PySem PySem.Spec PyProof.Rows
theorem wX:∀{vs:qf}{ns:qq},IntsAre vs ns->Vals (ns.map V.int) vs
 | _,_,.nil=>.nil
 | _,_,.cons n t h=>.cons ⟨t,rfl⟩ (wX h)
def O0 (H:Hp):Prop:=∀b,H b=none\/∃o xs,H b=some (.frz o (.lst xs))
variable {w:World}{K:W.Frag}{a:Addr}{fd:FuncData}{x:Str}
theorem Ia {P:Program}{mg mb:Str->Option Value}{CX:L7}{k:Nat}{fa:Addr}{sp:Sp}{s₁:Shared}{vs:qf}{ns:qq}
  (KX:K.In s₁.heap) (T1:s₁.heap.Ns mainGlobals mg) (hb:s₁.heap.Ns builtinsNs mb) (hbb:∀x:Str,x ≠ "__name__" -> mb x=bootBuiltins x) (YE:s₁.heap.NoLimit) (hg:s₁.gens=#[])
  (ha:s₁.heap.get? a=some { cls:=.type "list",data:=.seq vs.toArray }) (hi:IntsAre vs ns) (hl:ns.length<=sizeLine) (hr:AR k callerA)
  (F:∀base:Heap,K.In base->base.Ns mainGlobals mg->A4 P w K mg base CX k fa fd [x] sp) (V3:∀(s:Shared) (u:Value),BindsTo s fd ⟨[u],[]⟩ [(x,u)])
  (RF:∀H:Hp,O0 H->A0 K H a (ns.map V.int)->sp [.ref a] H (λv _=>v=.bl true) λ_ _ _=>False)
  (YF:∀H e s',CX [] H s₁ (λ_ _ _=>False) e s'->False):
  codeAny (model P w) callerA (.call (.ref fa) ⟨[.ref a],[]⟩) (λr s'=>r=.ok (.ret (.bool true))/\OldK s₁.heap s'.heap/\s'.os=s₁.os/\AllBare s'.gens) s₁:=by
 have rv:=wX hi
 have BC:=hi.length
 have core:∀H:Hp,O0 H->A0 K H a (ns.map V.int)->CY P w K H s₁.heap->(∀b,H b≠none->b=a)->(H a≠none->K.lookup a=none)->
   codeAny (model P w) callerA (.call (.ref fa) ⟨[.ref a],[]⟩) (λr s'=>r=.ok (.ret (.bool true))/\OldK s₁.heap s'.heap/\s'.os=s₁.os/\AllBare s'.gens) s₁:=by
  intro H hO hS AK hA hK
  have Kt:∀{b:Addr}{o:Obj},s₁.heap.get? b=some o->H b=none->(nY s₁.heap H).get? b=some o:=λe n=>Hw e n
  have VU:∀{b:Addr}{o:Obj}{es:Array DictEntry}{ep:Nat},s₁.heap.get? b=some o->o.data=.dict es ep->H b=none:=λ{b o es ep} e d=>by
   cases q:H b with
   | none=>rfl
   | some u=>
    have e':b=a:=hA b (by rw[q];simp)
    subst e'
    rw[ha] at e;cases e
    have d':Data.seq vs.toArray _=Data.dict es ep:=d
    cases d'
  have XE:∀{b:Addr}{m:Str->Option Value},s₁.heap.Ns b m->(nY s₁.heap H).Ns b m:=λ{b m} ⟨o,es,ep,e,d,r⟩=>⟨o,es,ep,Kt e (VU e d),d,r⟩
  have hKb:K.In (nY s₁.heap H):=λb o e=>Kt (KX b o e) (by
   cases q:H b with
   | none=>rfl
   | some u=>
    have e':b=a:=hA b (by rw[q];simp)
    subst e'
    rw[hK (by rw[q];simp)] at e;cases e)
  have hM:Mod K mg (nY s₁.heap H):=⟨hKb,XE T1,⟨mb,XE hb,hbb⟩,let ⟨mc,h1,h2⟩:=YE;⟨mc,XE h1,h2⟩⟩
  have e0:IS P w K mg (nY s₁.heap H) callerA [] s₁ H:=⟨rfl,hM,λb o e=>KC e,Nat.le_of_eq (Fd _ _),trivial,λb hb=>absurd (show b∈([]:qr) from hb) (by simp),AK,.of_eq hg⟩
  refine mf ((F _ hKb (XE T1)).run callerA [] s₁ H ⟨[.ref a],[]⟩ [.ref a] [.ref a] _ _ hr e0 (V3 s₁ (.ref a)) (.cons rfl .nil) (RF H hO hS)) λr s' h=>?_
  cases r with
  | error e=>exact(YF H e s' h).elim
  | ok fl=>
   cases fl with
   | next=>exact False.elim h
   | brk=>exact False.elim h
   | cont=>exact False.elim h
   | ret u=>
    obtain⟨v,H',os,bare,un,YG,r',q⟩:=h
    have q':v=.bl true:=q
    subst q'
    obtain rfl:u=Value.bool true:=r'
    refine⟨rfl,OldK.of_keep λb o e=>?_,os,bare⟩
    cases q:H b with
    | none=>exact un.keep b o e q (by intro z;exact absurd (show b∈([]:qr) from z) (by simp)) (by simp)
    | some u=>
     rcases hO b with z | ⟨ob,xs,z⟩
     ·rw[q] at z;cases z
     ·have z2:=un.GG b ob _ z
      obtain⟨e1,_⟩:=AK b _ z
      obtain⟨e2,_⟩:=YG b _ z2
      rw[e] at e1;cases e1
      exact e2
 cases hk:K.lookup a with
 | some o=>
  have e:=KX a o hk
  rw[ha] at e
  cases e
  refine core (λ_=>none) (λ_=>.inl rfl) (.inr ⟨_,vs.toArray,_,hk,rfl,rfl,rfl,by rw[aI,BC];exact hl,by simpa using rv⟩) (λb u z=>by have z':(none:Option HO)=some u:=z;cases z') (λb z=>absurd rfl z) λz=>absurd rfl z
 | none=>
  refine core (λb=>if b=a then some (.frz { cls:=.type "list",data:=.seq vs.toArray } (.lst (ns.map V.int))) else none) (λb=>?_) (.inl (.inr ⟨{ cls:=.type "list",data:=.seq vs.toArray },a0 rfl⟩)) (λb u z=>?_) (λb z=>?_) λ_=>hk
  ·by_cases hb:b=a
   ·exact .inr ⟨_,_,a0 hb⟩
   ·exact .inl (ax hb)
  ·by_cases hb:b=a
   ·have z':=(a0 hb).symm.trans z
    cases z'
    subst hb
    exact⟨ha,by rw[ba];exact hl,vs,_,rv,ha⟩
   ·have z':=(ax hb).symm.trans z
    cases z'
  ·by_cases hb:b=a
   ·exact hb
   ·exact absurd (ax hb) z
theorem Pc {l:W.OpenLaw}{n k:Nat}{q:Program}{loose:qo}{XP:(Str->Option Value)->Heap->Prop}{YP:World->Heap->Prop}{d:DefRec}{K:Params->W.Frag}{CX:World->L7}{sp:World->Sp}
  (hn:l.most=some n) (XC:n<=sizeLine) (V1:d.params.defaults=[]) (hr:AR k callerA)
  (hY:∀(w:World) (h:Heap),YP w h->(K w.params).In h)
  (F:∀(w:World) (mg:Str->Option Value) (fa:Addr) (h:Heap),(K w.params).In h->h.Ns mainGlobals mg->mg d.name=some (.ref fa)->
   ∃fd:FuncData,(∀(s:Shared) (u:Value),BindsTo s fd ⟨[u],[]⟩ [(x,u)]) /\
    ∀base:Heap,(K w.params).In base->base.Ns mainGlobals mg->A4 l.prog w (K w.params) mg base (CX w) k fa fd [x] (sp w))
  (RF:∀(w:World) (H:Hp) (a:Addr) (ns:qq),ns.length<=n->O0 H->A0 (K w.params) H a (ns.map V.int)->sp w [.ref a] H (λv _=>v=.bl true) λ_ _ _=>False)
  (YF:∀(w:World) (H:Hp) (s:Shared) (e:Value) (s':Shared),CX w [] H s (λ_ _ _=>False) e s'->False):
  W.WalkO q loose XP YP l.row.toRowW d [] (λf vs=>PySem.call f vs):=by
 refine Att.HV hn V1 λw s₀ s₁ mg mb fa o pm cd doc a vs ns G Y ho hd D9 V2 TZ hints hlen hg=>?_
 have KX:=hY w _ Y
 obtain⟨fd,hb,hF⟩:=F w mg fa _ KX G.T.g V2
 exact Ia KX G.T.g G.T.b G.T.builtins G.T.nolimit hg TZ hints (d5 hlen XC) hr hF hb (λH hO hS=>RF w H a ns hlen hO hS) λH e s'=>YF w H s₁ e s'
noncomputable def inClass (s:Stmt)(j:Nat):Stmt:=match s with
 | .ClassDef _ _ _ body _ _ _ _ _ _ _=>body.getD j (.Pass ⟨0,0,0,0⟩)
 | _=>.Pass ⟨0,0,0,0⟩
def gw (s:Stmt):Arguments:=match s with
 | .FunctionDef _ a _ _ _ _ _ _ _ _=>a
 | _=>{ posonlyargs:=[],args:=[],vararg:=none,kwonlyargs:=[],kw_defaults:=[],kwarg:=none,defaults:=[] }
noncomputable def d7 (s:Stmt):List Stmt:=match s with
 | .FunctionDef _ _ b _ _ _ _ _ _ _=>b
 | _=>[]
def aC (s:Stmt):Scope:=match s with
 | .FunctionDef _ _ _ _ _ _ sc _ _ _=>sc
 | _=>{ kind:=.function,names:=[],isGenerator:=false,isCoroutine:=false }
abbrev EJ:L7:=λ_ _ _ _ _ _=>False
abbrev E0:XK:=λ_ _ _=>False
theorem uy {X:Cx}:mW EJ X E0:=λ_ _ _ _ _ _ _ h=>h.elim
structure DI (K:W.Frag)(x qual:Str)(st:Stmt)(f:Addr)(fd:FuncData):Prop where
 ex:∃(oc:Value) (od:Option Addr) (kV doc pm:Value) (an:Option Addr) (C1 ct:Value) (RE:Array (Option Value)),
  fd=W.fnOf x qual (gw st) (d7 st) (aC st) .none kV doc pm an C1 ct/\K.lookup f=some ⟨oc,od,.func fd,RE⟩/\W.codeIn K C1 qual=true
 kp:W.keepIn K (.ref f)=true
section
variable {P:Program}{w:World}{K:W.Frag}{mg:Str->Option Value}{base:Heap}
theorem DI.ok {qual:Str}{st:Stmt}{f:Addr}{N ps:qo}{k:Nat}{sp:Sp}(F:DI K x qual st f fd)(S:AA N ps (aC st))(len:∀vs H Q E,sp vs H Q E->vs.length=ps.length)
  (L8:∀(C1:Value) (A:Around) (outer:List Env) (s:Shared) (H:Hp) (vs:List V) (Q:VK) (E:XK),AR k (A.deeper (envOfC qual (aC st) s.heap.objs.size f C1))->sp vs H Q E->
   ∃t,Fh (sr EJ P w K mg base N qual (aC st) f C1 A outer s H E).K0 (d7 st) t/\t { nx:=λ_ H'=>Q .Au H',rt:=Q } (start N vs) H):A4 P w K mg base EJ (k+1) f fd ps sp:=by
 obtain⟨oc,od,kV,doc,pm,an,C1,ct,RE,rfl,lk,D9⟩:=F.ex
 refine Rz lk D9 S len λA outer s H vs Q E hr RF=>?_
 obtain⟨t,h,q⟩:=L8 C1 A outer s H vs Q E hr RF
 exact⟨t,h.K0,q⟩
theorem DI.binds {qual:Str}{st:Stmt}{f:Addr}{ps:qo}(F:DI K x qual st f fd)
  (h:∀(kV doc pm:Value) (an:Option Addr) (C1 ct:Value) (us:qf),us.length=ps.length->bindArgs (W.fnOf x qual (gw st) (d7 st) (aC st) .none kV doc pm an C1 ct) ⟨us,[]⟩=pure (ps.zip us)):Binds K fd ps []:=by
 obtain⟨oc,od,kV,doc,pm,an,C1,ct,RE,rfl,lk,D9⟩:=F.ex
 exact .all (h kV doc pm an C1 ct)
theorem MA {qual:Str}{st:Stmt}{f:Addr}{oc:Value}{od an:Option Addr}{RE:Array (Option Value)}{kV doc pm C1 ct:Value}(l:K.lookup f=some ⟨oc,od,.func (W.fnOf x qual (gw st) (d7 st) (aC st) .none kV doc pm an C1 ct),RE⟩)
  (c:W.codeIn K C1 qual=true) (k:W.keepIn K (.ref f)=true):DI K x qual st f (W.fnOf x qual (gw st) (d7 st) (aC st) .none kV doc pm an C1 ct):=⟨⟨oc,od,kV,doc,pm,an,C1,ct,RE,rfl,l,c⟩,k⟩
end
theorem dh {A:Around}{k:Nat}(hr:AR k A):A.units+9 < cLine:=kq (pE (by decide:9<=64) _) hr.units
variable {pos:Pos}
section
variable {X:Cx}
theorem pv (i:Nat)(hN:X.N[i]?=some x:=by rfl)(hv:LZ X.env.scope x:=by first | exact eT rfl | exact e9 (eT rfl) | exact e9 (e9 rfl))(hd:(x == ("__debug__" : Str))=false:=by decide)
  (D9:(x == ("__classdict__" : Str))=false:=by decide):PE X (.Name x pos) (aG i):=iD hN hv hd D9
end
theorem lY {A B:Prop}(h:B):if false=true then A else B:=by
 rw[ax bd]
 exact h
theorem jh {A B:Prop}(h:A):if true=true then A else B:=by
 rw[a0 rfl]
 exact h
def zS (H H':Hp):Prop:=∀b o,H b=some o->H' b=some o
theorem zS.refl (H:Hp):zS H H:=λ_ _ h=>h
theorem zS.trans {H H1 H2:Hp}(a:zS H H1)(b:zS H1 H2):zS H H2:=λc o h=>b c o (a c o h)
theorem zS.free {H H':Hp}(e:zS H H'){l:Addr}(h:H' l=Option.none):H l=Option.none:=by
 cases q:H l with
 | none=>rfl
 | some o=>
  rw[e l o q] at h
  cases h
section
variable {X:Cx}
theorem Gb:A7 X (.builtin "len") (λxs H Q=>∃a kvs,xs=[V.ref a]/\H a=some (.dK kvs)/\Q (.int kvs.length) H):=by
 intro zC s σ H xs us Q I r h
 obtain⟨a,kvs,rfl,ha,q⟩:=h
 obtain⟨u,rfl,ru⟩:=vals1 r
 cases ru
 exact RB I (.inl ha) λt s' I'=>⟨.int kvs.length,H,I',⟨t,rfl⟩,q⟩
end
theorem sG {α β:Type}{l:List α}{f:α->β->Sem (ForInStep β)}(g:α->β->β):∀(c:β),(∀x∈l,∀c,f x c=pure (.yield (g x c)))->
  forIn l c f=pure (l.foldl (λc x=>g x c) c):=by
 induction l with
 | nil=>intro c _;rfl
 | cons x l ih=>
  intro c h
  rw[kf,h x am,pure_bind]
  exact ih _ λy hy=>h y (af _ hy)
noncomputable def fX (env:Env)(x:Str×NameKind)(c:List (Str×Addr)):List (Str×Addr):=if x.2=.free then (x.1,(env.cells.lookup x.1).getD 0)::c else c
noncomputable def jM (env:Env)(names:List (Str×NameKind)):List (Str×Addr):=names.foldl (λc x=>fX env x c) []
theorem pH {scope:Scope}{env:Env}(h:∀x∈scope.names,x.2=.free->∃c,env.cells.lookup x.1=some c):closureFor scope env=pure (jM env scope.names):=by
 simp only[closureFor]
 rw[sG (fX env) [] (λx hx c=>by
  obtain⟨n,kind⟩:=x
  by_cases e:kind=.free
  ·subst e
   obtain⟨a,ha⟩:=h _ hx rfl
   have XF:env.cells.lookup n=some a:=ha
   simp[fX,cellOf,XF]
  ·have:(kind == NameKind.free)=false:=by simpa using e
   simp[fX,e,this])]
 rfl
theorem uz {env:Env}:∀(l:List (Str×NameKind)) (cs:List (Str×Addr)),(∀x∈l,x.2=.free->∃c,env.cells.lookup x.1=some c)->(∀y c,cs.lookup y=some c->env.cells.lookup y=some c)->
  ∀y c,(l.foldl (λc x=>fX env x c) cs).lookup y=some c->env.cells.lookup y=some c
 | [],cs,_,h2,y,c,e=>h2 y c e
 | x::r,cs,h1,h2,y,c,e=>by
  refine uz r (fX env x cs) (λz hz=>h1 z (af _ hz)) (λz d q=>?_) y c e
  unfold fX at q
  by_cases k:x.2=.free
  ·rw[a0 k] at q
   obtain⟨a,ha⟩:=h1 x am k
   rw[b9] at q
   cases hb:z == x.1 with
   | true=>
    rw[hb] at q
    have ez:z=x.1:=by simpa using hb
    rw[ha] at q
    have q':a=d:=by simpa using q
    rw[ez,ha,q']
   | false=>
    rw[hb] at q
    exact h2 z d q
  ·rw[ax k] at q
   exact h2 z d q
variable {names:List (Str×NameKind)}
theorem dG {env:Env}(h:∀x∈names,x.2=.free->∃c,env.cells.lookup x.1=some c){y:Str}{c:Addr}(e:(jM env names).lookup y=some c):env.cells.lookup y=some c:=
 uz names [] h (λy c q=>by simp at q) y c e
theorem uA {env:Env}{y:Str}:∀(l:List (Str×NameKind)) (cs:List (Str×Addr)),((y,.free)∈l\/∃c,cs.lookup y=some c)->∃c,(l.foldl (λc x=>fX env x c) cs).lookup y=some c
 | [],cs,h=>by
  rcases h with h | h
  ·simp at h
  ·exact h
 | x::r,cs,h=>by
  refine uA r (fX env x cs) ?_
  rcases h with h | ⟨c,h⟩
  ·rcases bm.mp h with e | e
   ·refine .inr ⟨(env.cells.lookup y).getD 0,?_⟩
    rw[← e]
    simp[fX]
   ·exact .inl e
  ·refine .inr ?_
   unfold fX
   split
   ·rw[b9]
    split
    ·exact⟨_,rfl⟩
    ·exact⟨c,h⟩
   ·exact⟨c,h⟩
theorem uB {env:Env}{y:Str}(h:(y,.free)∈names):∃c,(jM env names).lookup y=some c:=uA names [] (.inl h)
theorem mem_of_lookup {x:Str}{k:NameKind}:∀{l:List (Str×NameKind)},l.lookup x=some k->(x,k)∈l
 | [],h=>by simp at h
 | (n,j)::r,h=>by
  rw[b9] at h
  cases hb:x == n with
  | true=>
   rw[hb] at h
   have e:x=n:=by simpa using hb
   have e2:j=k:=by simpa using h
   rw[e,e2]
   exact am
  | false=>
   rw[hb] at h
   exact af _ (mem_of_lookup h)
theorem kh {env:Env}:∀{names:List (Str×NameKind)}{x:Str},names.lookup x=some .free->
  (names.map λ(n,k)=>if (k == NameKind.free&&env.scope.kind == .function&&env.kindOf n == some .cell) then (n,NameKind.cell) else (n,k)).lookup x=some .cell \/
  (names.map λ(n,k)=>if (k == NameKind.free&&env.scope.kind == .function&&env.kindOf n == some .cell) then (n,NameKind.cell) else (n,k)).lookup x=some .free
 | [],_,h=>by simp at h
 | (n,k)::r,x,h=>by
  have ih:=@kh env r x
  cases hx:x == n with
  | true=>
   simp only[b9,hx] at h
   cases h
   by_cases hc:(NameKind.free == NameKind.free&&env.scope.kind == .function&&env.kindOf n == some .cell)=true
   ·refine .inl ?_
    simp only[ap,a0 hc,b9,hx]
   ·refine .inr ?_
    simp only[ap,ax hc,b9,hx]
  | false=>
   simp only[b9,hx] at h
   have ih:=ih h
   by_cases hc:(k == NameKind.free&&env.scope.kind == .function&&env.kindOf n == some .cell)=true
   ·simp only[ap,a0 hc,b9,hx]
    exact ih
   ·simp only[ap,ax hc,b9,hx]
    exact ih
theorem n_ {env:Env}:∀{names:List (Str×NameKind)}{x:Str}{j:NameKind},(∀y∈names,y.2≠.cell)->(j=.cell\/j=.free)->
  (names.map λ(n,k)=>if (k == NameKind.free&&env.scope.kind == .function&&env.kindOf n == some .cell) then (n,NameKind.cell) else (n,k)).lookup x=some j->(x,.free)∈names
 | [],_,_,_,_,h=>by simp at h
 | (n,k)::r,x,j,hn,hj,h=>by
  have ih:=@n_ env r x j (λy hy=>hn y (af _ hy)) hj
  cases hx:x == n with
  | true=>
   have e:x=n:=by simpa using hx
   subst e
   by_cases hc:(k == NameKind.free&&env.scope.kind == .function&&env.kindOf x == some .cell)=true
   ·have hk:k=.free:=by
     simp only[b6,hJ] at hc
     exact hc.1.1
    subst hk
    exact am
   ·simp only[ap,ax hc,b9,hx] at h
    have hk:k=j:=by simpa using h
    rcases hj with z | z
    ·exact absurd (hk.trans z) (hn (x,k) am)
    ·rw[hk,z]
     exact am
  | false=>
   by_cases hc:(k == NameKind.free&&env.scope.kind == .function&&env.kindOf n == some .cell)=true
   ·simp only[ap,a0 hc,b9,hx] at h
    exact af _ (ih h)
   ·simp only[ap,ax hc,b9,hx] at h
    exact af _ (ih h)
abbrev Cx.comp (X:Cx)(N:qo)(scope:Scope)(C:Addr)(s:Shared)(H:Hp)(fp:qr):Cx where
 prog:=X.prog
 w:=X.w
 K:=X.K
 mg:=X.mg
 base:=X.base
 A:=X.A
 N:=N
 s₀:=s
 H₀:=H
 env:=compEnvC scope (jM X.env scope.names) C X.env
 outer:=X.stack
 stack:=X.stack
 ex:=fp
 fn:=λ_=>false
 calm:=X.calm
 pn:=[]
 xe:=λ_ _=>False
noncomputable def oh (scope:Scope)(ON N:qo)(AB:List (Option Nat)):Bool:=
 AB.length == N.length&&(List.range N.length).all λj=>match AB[j]? with
  | some (some i)=>(match N[j]?,ON[i]? with
   | some x,some y=>x == y&&(scope.names.lookup x == some NameKind.free)
   | _,_=>false)
  | _=>true
structure OB (BS scope:Scope)(ON N:qo)(AB:List (Option Nat)):Prop where
 kind:scope.kind=.function
 YH:∀y∈scope.names,y.2≠.cell
 loc:∀y∈scope.names,y.2=.local->scope.names.lookup y.1=some .local
 fr:∀y∈scope.names,y.2=.free->BS.names.lookup y.1=some .cell\/BS.names.lookup y.1=some .free
 AB:oh scope ON N AB=true
theorem OB.at {BS scope:Scope}{ON N:qo}{AB:List (Option Nat)}(S:OB BS scope ON N AB){j i:Nat}{x:Str}(h:AB[j]?=some (some i))(hx:N[j]?=some x):ON[i]?=some x/\scope.names.lookup x=some .free:=by
 have h0:=S.AB
 unfold oh at h0
 rw[b6] at h0
 have hj:j < N.length:=(ag.mp hx).1
 have h1:=gc.mp h0.2 j (b0.mpr hj)
 rw[h] at h1
 dsimp only at h1
 rw[hx] at h1
 cases hy:ON[i]? with
 | none=>rw[hy] at h1;simp at h1
 | some y=>
  rw[hy] at h1
  simp only[b6,hJ] at h1
  exact⟨by rw[h1.1],h1.2⟩
theorem OB.len {BS scope:Scope}{ON N:qo}{AB:List (Option Nat)}(S:OB BS scope ON N AB):AB.length=N.length:=by
 have h0:=S.AB
 unfold oh at h0
 rw[b6,hJ] at h0
 exact h0.1
noncomputable def p6 (σ:St):Option Nat->Option V
 | some i=>(σ[i]?).getD none
 | none=>none
def bO (AB:List (Option Nat))(σ:St):St:=AB.map (p6 σ)
def p_ (X:Cx)(ifs:qk)(t:TT):Prop:=
 ∀(zC:p9) (s:Shared) (σ:St) (H:Hp) (Q:Bool->Hp->Prop),Inv X zC σ H s->t σ H Q->
  wpAny (model X.prog X.w) X.A (forIn ifs true λc r=>if r=true then do let ok ← isTrue c X.env (eval c X.env);pure (ForInStep.yield ok) else pure (ForInStep.yield r)) (TP X zC σ Q) X.xe s
def ou:TT:=λ_ H Q=>Q true H
theorem kJ {X:Cx}:p_ X [] ou:=λ_ _ _ H _ I h=>wpAny_tests_nil ⟨H,I,h⟩
theorem Ib {X:Cx}{c:Expr}{t:TT}(h:PT X c t):p_ X [c] t:=λzC s σ H Q I q=>wpAny_tests_one (h zC s σ H Q I q)
variable {R:Result->Shared->Prop}
theorem gM {prog:Program}{A:Around}{s:Shared}{elt target iter:Expr}{ifs:qk}{scope:Scope}{it acc:Value}{env:Env}(I:Nat->Shared->Prop)
  (turn:∀n s,I n s->wpAny (model prog w) A (pyNext it) (λr s₁=>match r with
   | none=>R (.ok .next) s₁
   | some v=>wpAny (model prog w) A (letOwnedTupleGo target it v) (λ_ s₁'=>wpAny (model prog w) A (assign target env v) (λ_ s₂=>
     wpAny (model prog w) A (forIn ifs true λc r=>if r=true then do let ok ← isTrue c env (eval c env);pure (ForInStep.yield ok) else pure (ForInStep.yield r)) (λok s₃=>
      if ok=true then wpAny (model prog w) A (eval elt env) (λx s₄=>
       wpAny (model prog w) A (call (.builtin "list.append") [acc,x]) (λ_ s₅=>∃m,m < n/\I m s₅) (λ_ _=>False) s₄) (λ_ _=>False) s₃
      else ∃m,m < n/\I m s₃) (λ_ _=>False) s₂) (λ_ _=>False) s₁') (λ_ _=>False) s₁) (λ_ _=>False) s)
  (n:Nat) (h:I n s):
  codeAny (model prog w) A (.compLoop (.ListComp elt [⟨target,iter,ifs,0⟩] scope pos) 0 it acc env) R s:=by
 refine codeAny_loop rfl I (λn s hI=>?_) n h
 show wpAny _ A ((compTurn (.ListComp elt [⟨target,iter,ifs,0⟩] scope pos) 0 it acc env).onRaise (λx=>do noteFrame x env;theTreesLotGoes x)) _ _ s
 refine wpAny_noted ?_
 rw[compTurn_list]
 refine ab (wpAny_standAt (ab (fg (turn n s hI) (λr s₁ h₁=>?_) λ_ _ h'=>h'.elim)))
 cases r with
 | none=>exact ae h₁
 | some v=>
  refine ab (fg h₁ (λ_ s₁' h₁'=>?_) λ_ _ h'=>h'.elim)
  refine ab (fg h₁' (λ_ s₂ h₂=>ab (fg h₂ (λok s₃ h₃=>?_) λ_ _ h'=>h'.elim)) λ_ _ h'=>h'.elim)
  cases ok with
  | false=>exact ae ⟨rfl,h₃⟩
  | true=>
   exact ab (ab (fg h₃ (λx s₄ h₄=>ab (fg h₄ (λ_ s₅ h₅=>ae (ae ⟨rfl,h₅⟩)) λ_ _ h'=>h'.elim)) λ_ _ h'=>h'.elim))
def Kp (σ σ2:St):Prop:=σ.length=σ2.length/\∀(i:Nat) (v:V),σ[i]?=some (some v)->σ2[i]?=some (some v)
theorem vK {rest:St}{x:V}:Kp (none::rest) (some x::rest):=⟨rfl,λi v e=>by
 cases i with
 | zero=>cases e
 | succ i=>exact e⟩
structure V4 (wi:TI)(AB:List (Option Nat))(g:TG)(tt:TT)(te:TE)(σ:St)(H:Hp)(Q:VK):Prop where
 ex:wi σ H λJ H1=>∀D,H1 D=none->∃W:Nat->Nat->List V->Hp->Prop,
 (∃m,W 0 m [] (upd H1 D (.lst [])))/\∀i m ys H,W i m ys H->H D=some (.lst ys)/\((J.stop i H/\Q (.ref D) H) \/
  (J.go i H/\∃N:List V->Hp->Prop,(∀EK H',N EK H'->∃m',m' < m/\W (i+1) m' EK H')/\∀x H',J.L4 i H x H'->g x (bO AB σ) H' fun σ2 H2=>Kp (bO AB σ) σ2/\tt σ2 H2 λb H3=>
   if b=true then te σ2 H3 λy H4=>H4 D=some (.lst ys)/\ys.length < sizeLine/\N (ys++[y]) (upd H4 D (.lst (ys++[y]))) else N ys H3))
def gA (wi:TI)(AB:List (Option Nat))(g:TG)(tt:TT)(te:TE):TE:=fun σ H Q=>V4 wi AB g tt te σ H Q
section
variable {X:Cx}{tg iter elt:Expr}{ifs:qk}{scope BS:Scope}{ON N:qo}{AB:List (Option Nat)}{wi:TI}{g:TG}{tt:TT}{te:TE}{pos:Pos}
theorem La {zC:p9}{σ:St}{H2:Hp}{s2:Shared}{fp:qr}{C:Addr}(I2:Inv X zC σ H2 s2)(S:OB BS scope ON N AB)(DJ:X.env.scope=BS)(f2:∀b∈fp,gP X zC H2 b)
  (Lc:∀b∈fp,b < s2.heap.objs.size) (hC:s2.heap.objs.size<=C):(X.comp N scope C s2 H2 fp).Ok:=by
 have HG:∀x∈scope.names,x.2=.free->∃c,X.env.cells.lookup x.1=some c:=λx hx e=>I2.ok.has x.1 (by
  rcases S.fr x hx e with z | z
  ·exact .inl (by rw[Env.kindOf,DJ];exact z)
  ·exact .inr (by rw[Env.kindOf,DJ];exact z))
 refine⟨I2.mod,S.kind,I2.ok.glob,I2.ok.blt,hC,λx y c h1 h2=>I2.ok.inj x y c (dG HG h1) (dG HG h2),λx h=>?_,λx c h=>by simp at h,I2.ok.hd,I2.ok.frames,.inl rfl,λb hb=>⟨?_,λx c e=>?_⟩,λb o e=>I2.bs b o e,?_,λb o e hb=>?_,λb hb hz=>?_,I2.stack,I2.GH⟩
 ·have hm:(x,NameKind.free)∈scope.names:=by
   rcases h with h | h
   ·exact n_ (env:=X.env) S.YH (.inl rfl) h
   ·exact n_ (env:=X.env) S.YH (.inr rfl) h
  exact uB hm
 ·exact bg (bi (Lc b hb) hC)
 ·exact(f2 b hb).2.2.2.2.1 x c (dG HG e)
 ·exact d5 I2.ok.L1 I2.sz
 ·rcases(f2 b hb).2.2.2.1 with z | z
  ·exact I2.ok.KU b o e z
  ·exact absurd (bi (av e) (d5 I2.ok.L1 z)) (fz _)
 ·obtain⟨_,f1,f3,_⟩:=f2 b hb
  rcases bm.mp (I2.EE b hz) with z | z
  ·exact f1 z
  ·exact f3 z
theorem Gd {zC:p9}{s:Shared}{σ:St}{H:Hp}{Q:VK}{RR:Value->Addr->Result->Shared->Prop}{MB:Str}(hc:X.calm=true)(S:OB BS scope ON N AB)(DJ:X.env.scope=BS)(hN:X.N=ON)
  (hi:PI X tg iter wi) (hg:∀C s H fp,PG (X.comp N scope C s H fp) tg g) (ht:∀C s H fp,p_ (X.comp N scope C s H fp) ifs tt) (he:∀C s H fp,PE (X.comp N scope C s H fp) elt te)
  (I:Inv X zC σ H s) (h:gA wi AB g tt te σ H Q)
  (fin:∀D C H' s',Inv X zC σ H' s'->gP X zC H' C->(∃m,s'.heap.Ns C m)->Q (.ref D) H'->RR (.ref D) C (.ok .next) s'):
  wpAny (model X.prog X.w) X.A (eval iter X.env) (λx s₁=>wpAny (model X.prog X.w) X.A (pyIter x) (λQ2 s₂=>wpAny (model X.prog X.w) X.A (newList []) (λacc s₃=>
   wpAny (model X.prog X.w) X.A (newFunctionEnv scope X.env.globals (jM X.env scope.names) [] X.env.qual none .none (some X.env)) (λMD s₄=>
    codeAny (model X.prog X.w) X.A (.compStart (.ListComp elt [⟨tg,iter,ifs,0⟩] scope pos) 0 Q2 acc { MD with scope:=relabel scope X.env }) (RR acc MD.locals) s₄) X.xe s₃) X.xe s₂) X.xe s₁) X.xe s:=by
 refine AM (hi zC s σ H _ I h.ex) λv s1 h1=>AM h1 λQ2 s2 h2=>?_
 obtain⟨it,fp,tn,J,H2,e,I2,T,TB,f2,q2⟩:=h2
 subst e
 refine cS (wpAny_newFunctionEnv S.YH (by intro y hy;simp at hy) (λh₁ Pd ME=>?_) S.kind)
 dsimp only at Pd ME ⊢
 generalize T2:s2.heap.push { cls:=.type "list",dict:=none,data:=.seq ([]:qf).toArray }=P2 at Pd ME ⊢
 generalize hD:s2.heap.objs.size=D
 generalize V5:P2.objs.size=C at Pd ME ⊢
 have V6:C=D+1:=by rw[← V5,← T2,cy,hD]
 have FO:s2.heap.objs.size<=C:=by rw[V6,hD];exact ip _
 have Lc:∀b∈fp,b < s2.heap.objs.size:=λb hb=>by
  obtain⟨o,e,_⟩:=T.obj 0 _ TB b hb
  exact av e
 have below:∀b,b < s2.heap.objs.size->b≠C:=λb hb=>bg (bi hb FO)
 have k1:∀b o,s2.heap.get? b=some o->h₁.get? b=some o:=λb o e=>ME.extBut b o (below b (av e)) (ac _ (T2▸ac _ e))
 have XG:D≠C:=by rw[V6];exact bg (f8 _)
 have gD:h₁.get? D=some { cls:=.type "list",dict:=none,data:=.seq ([]:qf).toArray }:=by
  refine ME.extBut D _ XG (ac _ ?_)
  rw[← T2,← hD]
  exact ar _ rfl
 have nD:H2 D=none:=I2.AK.fresh (by rw[hD];exact aE _)
 have nC:H2 C=none:=I2.AK.fresh FO
 have HG:∀x∈scope.names,x.2=.free->∃c,X.env.cells.lookup x.1=some c:=λx hx e=>I2.ok.has x.1 (by
  rcases S.fr x hx e with z | z
  ·exact .inl (by rw[Env.kindOf,DJ];exact z)
  ·exact .inr (by rw[Env.kindOf,DJ];exact z))
 obtain⟨W,⟨m0,w0⟩,turn⟩:=q2 D nD
 have IY:Inv (X.comp N scope C s2 H2 fp) [] (bO AB σ) (upd H2 D (.lst [])) { s2 with heap:=h₁,toks:=s2.toks+([]:List (Str×Value)).length }:=by
  have hp:s2.heap.objs.size<=D:=by rw[hD];exact aE _
  refine⟨La I2 S DJ f2 Lc FO,rfl,I2.bare,Un.laid k1 hp nD,⟨_,Pd,λj x v e1 e2 e3=>?_⟩,λx c e=>?_,?_,λx c e=>?_,λp hp=>by simp at hp,I2.AK.laid k1 hp ⟨cq _,[],_,.nil,gD⟩,?_⟩
  ·have Ll:(AB.map (p6 σ))[j]?=some (some v):=e2
   rw[cm] at Ll
   cases q:AB[j]? with
   | none=>rw[q] at Ll;cases Ll
   | some o=>
    rw[q] at Ll
    have e4:p6 σ o=some v:=be Ll
    cases o with
    | none=>cases e4
    | some i=>
     have hσ:σ[i]?=some (some v):=by
      have e5:(σ[i]?).getD none=some v:=e4
      cases z:σ[i]? with
      | none=>rw[z] at e5;cases e5
      | some w=>rw[z] at e5;exact dP some e5
     obtain⟨RS,IJ⟩:=S.at q e1
     have hk:X.env.kindOf x=some .cell\/X.env.kindOf x=some .free:=by
      rcases S.fr _ (mem_of_lookup IJ) rfl with z | z
      ·exact .inl (by rw[Env.kindOf,DJ];exact z)
      ·exact .inr (by rw[Env.kindOf,DJ];exact z)
     obtain⟨m,hn,hl⟩:=I2.loc
     obtain⟨u,r,l⟩:=hl i x v (by rw[hN];exact RS) hσ (by
      rcases hk with z | z
      ·exact .inr (.inl z)
      ·exact .inr (.inr z))
     refine⟨u,r,?_⟩
     rcases l with ⟨z,_⟩ | ⟨_,c,Vk,FY⟩
     ·rcases hk with y | y
      ·rw[y] at z;cases z
      ·rw[y] at z;cases z
     ·obtain⟨c',Ki⟩:=uB (env:=X.env) (mem_of_lookup IJ)
      have e6:=dG HG Ki
      rw[Vk] at e6
      have e7:c=c':=be e6
      subst e7
      obtain⟨oc,ho,hd⟩:=FY
      exact .inr ⟨kh (env:=X.env) IJ,c,Ki,⟨oc,k1 c oc ho,hd⟩⟩
  ·obtain⟨v,oc,ho,hd⟩:=I2.cell x c (dG HG e)
   exact⟨v,oc,k1 c oc ho,hd⟩
  ·show upd H2 D (.lst []) C=none
   rw[ao (fT XG)]
   exact nC
  ·have e':=dG HG e
   obtain⟨v,oc,ho,hd⟩:=I2.cell x c e'
   show upd H2 D (.lst []) c=none
   rw[ao (λz=>absurd (av ho) (by rw[z,hD];exact fz _))]
   exact I2.CI x c e'
  ·show (AB.map (p6 σ)).length=N.length
   rw[ba]
   exact S.len
 have Fm:∀{H':Hp},(∀b∈fp,H' b=none)->∀b∈fp,gP (X.comp N scope C s2 H2 fp) [] H' b:=λhn b hb=>by
  obtain⟨_,f1,f3,f4,f5,f6⟩:=f2 b hb
  refine⟨hn b hb,below b (Lc b hb),λhz=>?_,.inl hb,λx c e=>f5 x c (dG HG e),λp hp=>by simp at hp⟩
  rcases bm.mp (I2.EE b hz) with z | z
  ·exact f1 z
  ·exact f3 z
 have back:∀{σ':St}{H':Hp}{s':Shared},Inv (X.comp N scope C s2 H2 fp) [] σ' H' s'->Inv X zC σ H' s':=λ{σ' H' s'} I'=>
  I2.Q1 (ch:=fp) I'.os I'.base I'.AK I'.bare λb hb=>let ⟨_,f1,_,f4,f5,f6⟩:=f2 b hb;⟨f4,f1,f5,f6⟩
 have V7:tn 0 h₁:=T.keep 0 _ _ TB λb _ o e=>k1 b o e
 have YI:∀b∈fp,upd H2 D (.lst []) b=none:=λb hb=>by
  rw[ao (λz=>absurd (Lc b hb) (by rw[z,hD];exact fz _))]
  exact(f2 b hb).1
 have loop:codeAny (model X.prog X.w) X.A (.compLoop (.ListComp elt [⟨tg,iter,ifs,0⟩] scope pos) 0 (.ref it) (.ref D) (compEnvC scope (jM X.env scope.names) C X.env)) (RR (.ref D) C) { s2 with heap:=h₁,toks:=s2.toks+([]:List (Str×Value)).length }:=by
  refine gM (λn s'=>∃i ys H',Inv (X.comp N scope C s2 H2 fp) [] (bO AB σ) H' s'/\tn i s'.heap/\(∀b∈fp,H' b=none)/\W i n ys H') ?_ m0 ⟨0,[],_,IY,V7,YI,w0⟩
  rintro n s3 ⟨i,ys,H3,I3,Rl,RA,w3⟩
  obtain⟨hDy,MG⟩:=turn i n ys H3 w3
  rcases MG with ⟨stop,qn⟩ | ⟨go,Nx,YJ,step⟩
  ·refine AM (T.done (X.comp N scope C s2 H2 fp) rfl rfl rfl hc i [] s3 (bO AB σ) H3 _ I3 (Fm RA) Rl stop) ?_
   rintro r s4 ⟨hr,I4⟩
   subst hr
   obtain⟨m,hm,_⟩:=I4.loc
   exact fin D C H3 s4 (back I4) (I2.GI FO I4.free) ⟨m,hm⟩ qn
  ·refine AM (T.item (X.comp N scope C s2 H2 fp) rfl rfl rfl hc i [] s3 (bO AB σ) H3 _ I3 (Fm RA) Rl go) ?_
   rintro r s4 ⟨u,hr,h4⟩
   subst hr
   refine AM h4 ?_
   rintro _ s5 ⟨x,H5,I5,r5,y5,L5,VQ⟩
   have VR:=I5.pinned (Fm VQ) (T.obj _ _ L5)
   refine AM (hg C s2 H2 fp _ s5 (bO AB σ) H5 x u _ VR r5 (step x H5 y5)) ?_
   rintro _ s6 ⟨σ6,H6,I6,V8,q6⟩
   refine AM (ht C s2 H2 fp _ s6 σ6 H6 _ I6 q6) ?_
   rintro b s7 ⟨H7,I7,q7⟩
   have again:∀{EK:List V}{H7:Hp}{s7:Shared},Inv (X.comp N scope C s2 H2 fp) ([]++mQ fp s5.heap) σ6 H7 s7->Nx EK H7->∃m,m < n/\∃i ys H',Inv (X.comp N scope C s2 H2 fp) [] (bO AB σ) H' s7/\tn i s7.heap/\(∀b∈fp,H' b=none)/\W i m ys H':=λ{EK H7 s7} I7 n7=>by
    obtain⟨m',hm,w7⟩:=YJ EK H7 n7
    refine⟨m',hm,i+1,EK,H7,I7.C0.weak V8.1 V8.2,T.keep _ _ _ L5 λb hb o e=>(I7.pin (b,o) (bS _ (bS _ (gn hb e)))).1,λb hb=>?_,w7⟩
    obtain⟨o,e,d⟩:=T.obj _ _ L5 b hb
    exact(I7.pin (b,o) (bS _ (bS _ (gn hb e)))).2.1
   cases b with
   | false=>
    rw[ax bd] at q7 ⊢
    exact again I7 q7
   | true=>
    rw[a0 rfl] at q7 ⊢
    refine AM (he C s2 H2 fp _ s7 σ6 H7 _ I7 q7) ?_
    rintro xv s8 ⟨y,H8,I8,r8,YK,YL,n8⟩
    refine AM (jH (X:=X.comp N scope C s2 H2 fp) _ s8 σ6 H8 (.ref D) [y] (.ref D) [xv] (λ_ H9=>Nx (ys++[y]) H9) I8 rfl (.cons r8 .nil) ⟨D,ys,y,rfl,rfl,YK,YL,n8⟩) ?_
    rintro _ s9 ⟨_,H9,I9,_,n9⟩
    exact again I9 n9
 subst hD V5
 exact codeAny_compStart_list loop (T.self _ 0 _ _ _ V7 loop)
theorem Ie {zC:p9}{s:Shared}{σ:St}{H:Hp}(S:OB BS scope ON N AB)(DJ:X.env.scope=BS)(I:Inv X zC σ H s):closureFor scope X.env=pure (jM X.env scope.names):=
 pH λx hx e=>I.ok.has x.1 (by
  rcases S.fr x hx e with z | z
  ·exact .inl (by rw[Env.kindOf,DJ];exact z)
  ·exact .inr (by rw[Env.kindOf,DJ];exact z))
theorem Inv.RU {zC:p9}{s':Shared}{σ:St}{H':Hp}{C:Addr}{h':Heap}(I:Inv X zC σ H' s')(f:gP X zC H' C)(hs:Heap.SameBut C s'.heap h'):Inv X zC σ H' { s' with heap:=h' }:=
 I.turned (t':=s'.toks) (it:=C) (λb o hb e=>(hs.2 b hb).trans e) f.1 f.2.1 f.2.2.2.1 f.2.2.2.2.1 f.2.2.2.2.2
theorem qO (S:OB BS scope ON N AB)(hi:PI X tg iter wi)(hg:∀C s H fp,PG (X.comp N scope C s H fp) tg g)(ht:∀C s H fp,p_ (X.comp N scope C s H fp) ifs tt)(he:∀C s H fp,PE (X.comp N scope C s H fp) elt te)
  (hc:X.calm=true:=by rfl) (DJ:X.env.scope=BS:=by rfl) (hN:X.N=ON:=by rfl) (hs:∀x,foldedSetIterable iter X.env x=pure x:=by intro _;rfl):PE X (.ListComp elt [⟨tg,iter,ifs,0⟩] scope pos) (gA wi AB g tt te):=by
 intro zC s σ H Q I h
 rw[eval_ListComp]
 refine nS (use:=none) rfl hs (Ie S DJ I) S.kind S.loc ?_
 refine Gd (RR:=λacc C=>compPost (model X.prog X.w) X.A X.xe none (EP X zC σ Q) acc C) (MB := "") hc S DJ hN hi hg ht he I h λD C H' s' I' f hm q=>?_
 obtain⟨m,hm⟩:=hm
 exact⟨m,hm,λh' DU=>⟨.ref D,H',I'.RU f DU,rfl,q⟩⟩
end
variable {xs:List V}
section
variable {tt:TT}{te:TE}{Q:VK}{σ0 rest:St}{H:Hp}{D:Addr}
theorem Ge (hσ:σ0=none::rest)(Pv:Nat->List V->Hp->Prop)(h0:Pv 0 [] (upd H D (.lst [])))
  (hl:∀i ys H,i<=xs.length->Pv i ys H->A0 K H a xs/\H D=some (.lst ys))
  (hs:∀i x ys H,xs[i]?=some x->Pv i ys H->tt (some x::rest) H λb H3=>if b=true then te (some x::rest) H3 λy H4=>H4 D=some (.lst ys)/\ys.length < sizeLine/\Pv (i+1) (ys++[y]) (upd H4 D (.lst (ys++[y]))) else Pv (i+1) ys H3)
  (hd:∀ys H,Pv xs.length ys H->Q (.ref D) H):
  ∃W:Nat->Nat->List V->Hp->Prop,(∃m,W 0 m [] (upd H D (.lst [])))/\∀i m ys H,W i m ys H->H D=some (.lst ys)/\(((OQ K a).stop i H/\Q (.ref D) H) \/
   ((OQ K a).go i H/\∃N:List V->Hp->Prop,(∀EK H',N EK H'->∃m',m' < m/\W (i+1) m' EK H')/\∀x H',(OQ K a).L4 i H x H'->aX 0 x σ0 H' fun σ2 H2=>Kp σ0 σ2/\tt σ2 H2 λb H3=>
    if b=true then te σ2 H3 λy H4=>H4 D=some (.lst ys)/\ys.length < sizeLine/\N (ys++[y]) (upd H4 D (.lst (ys++[y]))) else N ys H3)):=by
 subst hσ
 refine⟨λi m ys H=>m=xs.length - i/\i<=xs.length/\Pv i ys H,⟨xs.length,by simp,cq _,h0⟩,?_⟩
 rintro i m ys H ⟨rfl,hi,p⟩
 obtain⟨q,qD⟩:=hl i ys H hi p
 refine⟨qD,?_⟩
 by_cases A6:i < xs.length
 ·refine .inr ⟨⟨xs,xs[i],q,by simp[A6]⟩,Pv (i+1),λEK H' p'=>⟨xs.length - (i+1),by omega,rfl,A6,p'⟩,λx H' y=>?_⟩
  obtain⟨e,y⟩:=y
  subst e
  exact⟨vK,hs i x ys _ (y xs q) p⟩
 ·have e:i=xs.length:=by omega
  subst e
  exact .inl ⟨⟨xs,q,aE _⟩,hd ys H p⟩
theorem Ig (hσ:σ0=none::rest)(Pv:Nat->List V->Hp->Prop)(h0:Pv 0 [] (upd H D (.lst [])))
  (hl:∀i ys H,i<=xs.length->Pv i ys H->B6 K H a xs/\H D=some (.lst ys))
  (hs:∀i x ys H,xs[i]?=some x->Pv i ys H->tt (some x::rest) H λb H3=>if b=true then te (some x::rest) H3 λy H4=>H4 D=some (.lst ys)/\ys.length < sizeLine/\Pv (i+1) (ys++[y]) (upd H4 D (.lst (ys++[y]))) else Pv (i+1) ys H3)
  (hd:∀ys H,Pv xs.length ys H->Q (.ref D) H):
  ∃W:Nat->Nat->List V->Hp->Prop,(∃m,W 0 m [] (upd H D (.lst [])))/\∀i m ys H,W i m ys H->H D=some (.lst ys)/\(((OR K a).stop i H/\Q (.ref D) H) \/
   ((OR K a).go i H/\∃N:List V->Hp->Prop,(∀EK H',N EK H'->∃m',m' < m/\W (i+1) m' EK H')/\∀x H',(OR K a).L4 i H x H'->aX 0 x σ0 H' fun σ2 H2=>Kp σ0 σ2/\tt σ2 H2 λb H3=>
    if b=true then te σ2 H3 λy H4=>H4 D=some (.lst ys)/\ys.length < sizeLine/\N (ys++[y]) (upd H4 D (.lst (ys++[y]))) else N ys H3)):=by
 subst hσ
 refine⟨λi m ys H=>m=xs.length - i/\i<=xs.length/\Pv i ys H,⟨xs.length,by simp,cq _,h0⟩,?_⟩
 rintro i m ys H ⟨rfl,hi,p⟩
 obtain⟨q,qD⟩:=hl i ys H hi p
 refine⟨qD,?_⟩
 by_cases A6:i < xs.length
 ·refine .inr ⟨⟨xs,xs[i],q,by simp[A6]⟩,Pv (i+1),λEK H' p'=>⟨xs.length - (i+1),by omega,rfl,A6,p'⟩,λx H' y=>?_⟩
  obtain⟨e,y⟩:=y
  subst e
  exact⟨vK,hs i x ys _ (y xs q) p⟩
 ·have e:i=xs.length:=by omega
  subst e
  exact .inl ⟨⟨xs,q,aE _⟩,hd ys H p⟩
theorem Do {lo:Int}{n:Nat}(hσ:σ0=none::rest)(Pv:Nat->List V->Hp->Prop)(h0:Pv 0 [] (upd H D (.lst [])))
  (hl:∀i ys H,i<=n->Pv i ys H->H D=some (.lst ys))
  (hs:∀i ys H,i < n->Pv i ys H->tt (some (.int (lo+i))::rest) H λb H3=>if b=true then te (some (.int (lo+i))::rest) H3 λy H4=>H4 D=some (.lst ys)/\ys.length < sizeLine/\Pv (i+1) (ys++[y]) (upd H4 D (.lst (ys++[y]))) else Pv (i+1) ys H3)
  (hd:∀ys H,Pv n ys H->Q (.ref D) H):
  ∃W:Nat->Nat->List V->Hp->Prop,(∃m,W 0 m [] (upd H D (.lst [])))/\∀i m ys H,W i m ys H->H D=some (.lst ys)/\(((OS lo n).stop i H/\Q (.ref D) H) \/
   ((OS lo n).go i H/\∃N:List V->Hp->Prop,(∀EK H',N EK H'->∃m',m' < m/\W (i+1) m' EK H')/\∀x H',(OS lo n).L4 i H x H'->aX 0 x σ0 H' fun σ2 H2=>Kp σ0 σ2/\tt σ2 H2 λb H3=>
    if b=true then te σ2 H3 λy H4=>H4 D=some (.lst ys)/\ys.length < sizeLine/\N (ys++[y]) (upd H4 D (.lst (ys++[y]))) else N ys H3)):=by
 subst hσ
 refine⟨λi m ys H=>m=n - i/\i<=n/\Pv i ys H,⟨n,by simp,cq _,h0⟩,?_⟩
 rintro i m ys H ⟨rfl,hi,p⟩
 refine⟨hl i ys H hi p,?_⟩
 by_cases A6:i < n
 ·refine .inr ⟨A6,Pv (i+1),λEK H' p'=>⟨n - (i+1),by omega,rfl,A6,p'⟩,λx H' y=>?_⟩
  obtain⟨e,y⟩:=y
  subst e y
  exact⟨vK,hs i ys _ A6 p⟩
 ·have e:i=n:=by omega
  subst e
  exact .inl ⟨aE _,hd ys H p⟩
end
section
variable {X:Cx}{zC:p9}{σ:St}{H H':Hp}{s:Shared}{h':Heap}
theorem Inv.Kx {t':Nat}{ch:qr}{o:HO}(I:Inv X zC σ H s)(k:∀b u,b∉ch->s.heap.get? b=some u->h'.get? b=some u)(ht:∀b u,s.heap.get? b=some u->∃u',h'.get? b=some u')(hf:∀b∈ch,gP X zC H b)
  (hp:s.heap.objs.size<=a) (new:AF X.prog X.w X.K (upd H a o) h' a o):Inv X zC σ (upd H a o) { s with heap:=h',toks:=t' }:=by
 have hn:H a=none:=I.AK.fresh hp
 have L3:∀b u,H b=some u->b∉ch:=λb u e hb=>by
  rw[(hf b hb).1] at e;cases e
 have na:∀b u,s.heap.get? b=some u->b≠a:=λb u e=>bg (bi (av e) hp)
 have YM:CY X.prog X.w X.K (upd H a o) h':=λb u e=>by
  by_cases hb:b=a
  ·subst hb;rw[az] at e;cases e;exact new
  ·rw[ao hb] at e
   refine(I.AK b u e).HK (λc v hc q=>k c v ?_ q) (λc q=>by rw[ao (aq q hn)];exact q) λc xs q=>by rw[ao (aq q hn)];exact q
   rcases hc with rfl | hc
   ·exact L3 c u e
   ·exact L3 c _ hc
 refine I.step (g':=s.gens) (d':=s.drawn) (ch:=ch) (λb hb=>let ⟨_,f1,_,f4,f5,f6⟩:=hf b hb;⟨f4,f1,f5,f6⟩) (λb o _ _ hc e _=>k b o hc e) (λb o _ _ hc e _=>⟨o.slots,k b o hc e⟩)
  (λb o _ e n=>by rw[ao (na b o e)];exact n) (λb o _ e=>ht b o e) (λb xs q=>by rw[ao (aq q hn)];exact q) (λb u xs q=>by rw[ao (aq q hn)];exact q)
  (λb ps q=>⟨#[],by rw[ao (aq q hn),q];simp⟩) (λm hm=>?_) YM I.bare
 obtain⟨oL,es,ep,ho,r⟩:=hm
 have nL:X.env.locals∉ch:=λhb=>(hf _ hb).2.1 rfl
 exact⟨oL,es,ep,k _ oL nL ho,r⟩
end
def YN (x:Str):It:=⟨λi _=>i < x.cps.size,λi H v H'=>H'=H/\∃c,x.cps[i]?=some c/\v=.str ⟨#[c]⟩,λi _=>i=x.cps.size⟩
theorem y_ {P:Program}{tg:Expr}(it:Addr)(x:Str)(t:Tok)(ty:String)(TR:["enumerate","zip","dict_itemiterator","dict_reverseitemiterator","odict_iterator","itertools.zip_longest","itertools.pairwise"].contains ty=false)
  (W:∀A:Around,A.handled=none->Walks P w A it [it] [it] x.cps.size (SignAt x) (λi h=>h.IsStrIter it ty x t i))
  (slf:∀(A:Around) (i:Nat) (s:Shared) (Q:oT) (E:oT),s.heap.IsStrIter it ty x t i->Q (.ref it) s->wpAny (model P w) A (pyIter (.ref it)) Q E s):
  Turn P w K tg (YN x) [it] it (λi h=>h.IsStrIter it ty x t i) where
 mem:=by simp
 obj:=λi h st b hb=>by
  have e:b=it:=by simpa using hb
  subst e
  obtain⟨o,e,c,d⟩:=st
  exact⟨o,e,λv z=>by rw[d] at z;cases z⟩
 keep:=λi h h' st k=>by
  obtain⟨o,e,r⟩:=st
  exact⟨o,k it (by simp) o e,r⟩
 item:=by
  intro X hP hw hK hc i zC s σ H E I hf st hg
  subst hP hw hK
  obtain⟨f0,f1,f2,f3,f4,f5⟩:=hf it (by simp)
  refine(W X.A (I.ok.hd hc)).item i s _ _ hg st λv h' tk hv BA kk=>?_
  obtain⟨c,u,hx,rfl⟩:=hv
  have I1:Inv X zC σ H { s with heap:=h',toks:=tk }:=I.turned (λb o hb e=>kk b o (by simpa using hb) e) f0 f1 f3 f4 f5
  obtain⟨o,e,cc,d⟩:=id BA
  exact⟨_,rfl,um (s:={ s with heap:=h',toks:=tk }) e cc d TR ⟨.str ⟨#[c]⟩,H,I1,⟨u,rfl⟩,⟨rfl,c,hx,rfl⟩,BA,λb hb=>(hf b hb).1⟩⟩
 done:=by
  intro X hP hw hK hc i zC s σ H E I hf st hg
  subst hP hw hK
  obtain⟨f0,f1,f2,f3,f4,f5⟩:=hf it (by simp)
  have hg':i=x.cps.size:=hg
  subst hg'
  exact(W X.A (I.ok.hd hc)).done s _ _ st λh' tk kk=>⟨rfl,I.turned (λb o hb e=>kk b o (by simpa using hb) e) f0 f1 f3 f4 f5⟩
 self:=slf
section
variable {X:Cx}{tg:Expr}
def SX (tl:TE):TI:=fun σ H R=>tl σ H λx H1=>∃z,x=.str z/\R (YN z) H1
theorem O6 {l:Expr}{tl:TE}(hl:PE X l tl):PI X tg l (SX tl):=by
 intro zC s σ H R I h
 refine AM (hl zC s σ H _ I h) ?_
 rintro v s1 ⟨x,H1,I1,r1,q1⟩
 obtain⟨z,e,q⟩:=q1
 subst e
 obtain⟨t,rfl⟩:=r1
 have fp:∀b∈[s1.heap.objs.size],gP X zC H1 b:=λb hb=>by
  have e:b=s1.heap.objs.size:=by simpa using hb
  subst e
  exact I1.GI (aE _) (I1.AK.fresh (aE _))
 cases ha:z.cps.all (· < 128)
 ·exact wpAny_pyIter_wide ha ⟨s1.heap.objs.size,[s1.heap.objs.size],_,_,H1,rfl,I1.kept (t':=s1.toks) λb o e=>ac _ e,y_ _ z t "str_iterator" (by decide) (λA hA=>Walks.strWide hA _ z t) (λA i s Q E st h=>wpAny_pyIter_striter_wide st h),⟨_,ar _ rfl,rfl,rfl⟩,fp,q⟩
 ·exact wpAny_pyIter_ascii ha ⟨s1.heap.objs.size,[s1.heap.objs.size],_,_,H1,rfl,I1.kept (t':=s1.toks) λb o e=>ac _ e,y_ _ z t "str_ascii_iterator" (by decide) (λA hA=>Walks.strAscii hA _ z t) (λA i s Q E st h=>wpAny_pyIter_striter_ascii st h),⟨_,ar _ rfl,rfl,rfl⟩,fp,q⟩
end
section
variable {X:Cx}
theorem qb:∀{zs:qo}{us:qf},Vals (zs.map V.str) us->∃l:List (Str×Tok),us=strValues l/\l.map (·.1)=zs
 | [],_,r=>by cases r;exact⟨[],rfl,rfl⟩
 | z::zs,_,r=>by
  cases r with
  | cons r1 r2=>
   obtain⟨t,rfl⟩:=r1
   obtain⟨l,rfl,e⟩:=qb r2
   exact⟨(z,t)::l,rfl,by rw[ap,e]⟩
def rJoin (K:W.Frag):V->List V->Hp->VK->Prop:=λx vs H Q=>∃z l zs,x=.str z/\vs=[.ref l]/\A0 K H l (zs.map V.str)/\JoinOk z zs=true/\Q (.str (Str.join z zs)) H
theorem Lb:XD X "str.join" (rJoin X.K):=by
 intro zC s σ H x vs v us Q I rx rv h
 obtain⟨z,l,zs,rfl,rfl,hl,ok,q⟩:=h
 obtain⟨t,rfl⟩:=rx
 obtain⟨u,rfl,ru⟩:=rv.one
 cases ru
 obtain⟨As,r,p,_⟩:=I.list hl
 obtain⟨l',e,e2⟩:=qb r
 subst e
 refine SC.join p.isList e2 ok λt' k=>⟨.str (Str.join z zs),H,I.tok _,⟨t',?_⟩,q⟩
 unfold Txt.join
 rw[StrLaws.glued_eq_join]
mutual
inductive Dt (K:W.Frag) (H:Hp):V->PyData->Prop
 | Au:Dt K H .Au .none
 | bl (b:Bool):Dt K H (.bl b) (.bool b)
 | int (i:Int):Dt K H (.int i) (.int i)
 | str (x:Str):Dt K H (.str x) (.str x)
 | lst {a:Addr}{xs:List V}{ds:List PyData}:A0 K H a xs->KA K H xs ds->Dt K H (.ref a) (.list ds)
 | tup {a:Addr}{xs:List V}{ds:List PyData}:B6 K H a xs->KA K H xs ds->Dt K H (.ref a) (.tuple ds)
inductive KA (K:W.Frag) (H:Hp):List V->List PyData->Prop
 | nil:KA K H [] []
 | cons {x:V}{xs:List V}{d:PyData}{ds:List PyData}:Dt K H x d->KA K H xs ds->KA K H (x::xs) (d::ds)
end
mutual
theorem Dt.reads {zC:p9}{σ:St}{H:Hp}{s:Shared}(I:Inv X zC σ H s):∀{x:V}{d:PyData}{u:Value},Dt X.K H x d->RelV x u->∃as,Reads s.heap u d as
 | _,_,_,.Au,r=>by cases r;exact⟨[],.none⟩
 | _,_,_,.bl b,r=>by cases r;exact⟨[],.bool b⟩
 | _,_,_,.int i,r=>by obtain⟨t,rfl⟩:=r;exact⟨[],.int i t⟩
 | _,_,_,.str x,r=>by obtain⟨t,rfl⟩:=r;exact⟨[],.str x t⟩
 | _,_,_,.lst hq hs,r=>by
  cases r
  obtain⟨As,rv,pl,_⟩:=I.list hq
  obtain⟨o,e,c,n,d⟩:=pl.isList
  obtain⟨as,ra⟩:=KA.reads I hs rv
  exact⟨_,.list e c d (by simpa using ra)⟩
 | _,_,_,.tup hq hs,r=>by
  cases r
  obtain⟨As,rv,pl,_⟩:=I.tuple hq
  obtain⟨o,e,c,n,d⟩:=pl
  obtain⟨as,ra⟩:=KA.reads I hs rv
  exact⟨_,.tuple e c d (by simpa using ra)⟩
theorem KA.reads {zC:p9}{σ:St}{H:Hp}{s:Shared}(I:Inv X zC σ H s):∀{xs:List V}{ds:List PyData}{us:qf},KA X.K H xs ds->Vals xs us->∃as,ReadsAll s.heap us ds as
 | _,_,_,.nil,r=>by cases r;exact⟨[],.nil⟩
 | _,_,_,.cons h hs,r=>by
  cases r with
  | cons r1 r2=>
   obtain⟨as,ra⟩:=Dt.reads I h r1
   obtain⟨bs,rb⟩:=KA.reads I hs r2
   exact⟨_,.cons ra rb⟩
end
theorem O7 (hu:X.A.units+64 < cLine):BN X (compareOp .Eq) (λx y H Q=>∃d e,Dt X.K H x d/\Dt X.K H y e/\SeqAt.shaped d=true/\SeqAt.shaped e=true/\Q (.bl (PyData.eqv d e)) H):=by
 intro zC s σ H x y v u Q I rx ry h
 obtain⟨d,e,h1,h2,s1,s2,q⟩:=h
 obtain⟨as,ra⟩:=h1.reads I rx
 obtain⟨bs,rb⟩:=h2.reads I ry
 exact eq_dataH ra rb s1 s2 hu ⟨.bl _,H,I,rfl,q⟩
theorem O8 (hu:X.A.units+64 < cLine):BN X (compareOp .NotEq) (λx y H Q=>∃d e,Dt X.K H x d/\Dt X.K H y e/\SeqAt.shaped d=true/\SeqAt.shaped e=true/\Q (.bl (!PyData.eqv d e)) H):=by
 intro zC s σ H x y v u Q I rx ry h
 obtain⟨d,e,h1,h2,s1,s2,q⟩:=h
 obtain⟨as,ra⟩:=h1.reads I rx
 obtain⟨bs,rb⟩:=h2.reads I ry
 exact ne_dataH ra rb s1 s2 hu ⟨.bl _,H,I,rfl,q⟩
theorem Bc:A7 X (.builtin "isinstance") (λxs H Q=>∃x n t b,xs=[x,.ty n]/\DH X.K H x t/\W.kitOne X.K t (.type n)=some b/\Q (.bl b) H):=by
 intro zC s σ H xs us Q I r h
 obtain⟨x,n,t,b,rfl,ty,e,q⟩:=h
 obtain⟨u,w',rfl,r1,r2⟩:=vals2 r
 cases r2
 exact Fz I r1 ty e λtk=>⟨.bl b,H,I.tok _,rfl,q⟩
end
structure IL (P:Program)(w:World)(K:W.Frag)(mg:Str->Option Value)(base:Heap)(k:Nat)(x:Str)(ps:qo)(sp:Sp):Prop where
 ex:∃f fd,A4 P w K mg base EJ k f fd ps sp/\Binds K fd ps []/\W.keepIn K (.ref f)=true/\mg x=some (.ref f)
theorem O9 {P:Program}{mg:Str->Option Value}{base:Heap}{k:Nat}{ps:qo}{sp:Sp}{st:Stmt}{f:Addr}(F:DI K x x st f fd)
  (hm:mg x=some (.ref f)) (hb:Binds K fd ps []) (G:A4 P w K mg base EJ k f fd ps sp):IL P w K mg base k x ps sp:=⟨f,fd,G,hb,F.kp,hm⟩
theorem fC {X:Cx}{k j:Nat}{ps:qo}{sp:Sp}{p:Pos}{e:Expr}{es:qk}{t:TA}(c:IL X.prog X.w X.K X.mg X.base k x ps sp)(hr:AR j X.A)(ha:PA X (e::es) t)(hle:k<=j:=by decide)(hg:Gl X x:=by rfl)
  (Fn:(x == ("__debug__" : Str))=false:=by decide) (he:starEach (e::es) X.env=(false,eval e X.env)::starEach es X.env:=by rfl) (A8:(backTo pos (starEach es X.env)).any (·.1)=false:=by rfl):
  PE X (.Call (.Name x p) (e::es) [] pos) (fP sp [] E0 t):=by
 obtain⟨f,fd,G,hb,kp,hm⟩:=c.ex
 exact K1 G (hr.mono hle) hg hm kp hb .nil uy ha Fn he A8
theorem aL {H:Hp}{p:Addr}(h:H p=none)(o:HO):zS H (upd H p o):=λb u q=>by rw[ao (aq q h)];exact q
theorem zS.new {H H':Hp}{p:Addr}(s:zS H H')(h:H' p=none)(o:HO):zS H (upd H' p o):=s.trans (aL h o)
theorem zS.over {H H':Hp}{p:Addr}(s:zS H H')(h:H p=none)(o:HO):zS H (upd H' p o):=λb u q=>by rw[ao (aq q h)];exact s b u q
theorem bY {n:Nat}(h:n<=1000000):n < sizeLine:=kq h (by decide)
section
variable (K:W.Frag){X:Cx}
theorem sH (h:X.K=K:=by rfl):Mc X (vH K):=by subst h;exact Kn
theorem Ld (h:X.K=K:=by rfl):Mc X (Dl K):=by subst h;exact Me
theorem jJ (h:X.K=K:=by rfl):A7 X (.builtin "len") (λxs H Q=>∃p ys,xs=[.ref p]/\(A0 K H p ys\/B6 K H p ys)/\Q (.int ys.length) H):=by subst h;exact pZ
theorem gB {e:Expr}{f:Str}{ta:TE}(he:PE X e ta)(hb:attributeBase e f X.env (eval e X.env)=eval e X.env:=by rfl)(h:X.K=K:=by rfl):PE X (.Attribute e f pos) (je K ta f):=by subst h;exact Fy he hb
theorem Gg {o e:Expr}{es:qk}{to:TE}{t:TA}{name:Str}{apos AG:Pos}{T id:String}{r:V->List V->Hp->VK->Prop}(pa:PlainAttrs T)(slot:Slot T name id)(TR:typeOf (.builtin id)=pure (.type "method_descriptor"))(hm:XD X id r)(ho:PE X o to)(ha:PA X (e::es) t)
  (BO:attributeBase o name X.env (eval o X.env)=eval o X.env:=by rfl)
  (EZ:((backTo AG (starEach (e::es) X.env)).all (λx=>!x.1)&&(backToKw AG (keywordEach [] X.env)).all (λx=>x.1.isSome)
   && decide ((e::es).length+([]:List Keyword).length+(if ([]:List Keyword).isEmpty then 0 else 1) < 30))=true:=by rfl)
  (BQ:(apos.endLine == AG.line)=true:=by rfl) (hs:starEach (e::es) X.env=(false,eval e X.env)::starEach es X.env:=by rfl) (IT:(backTo AG (starEach es X.env)).any (·.1)=false:=by rfl) (h:X.K=K:=by rfl):
  PE X (.Call (.Attribute o name apos) (e::es) [] AG) (Vn K T r to t):=by subst h;exact xZ pa slot TR hm ho ha BO EZ BQ hs IT
end
noncomputable def lZ (x:Str)(lo hi:Option Int):Str:=⟨((x.cps.toList.drop (HT.AS x.length 0 lo)).take (HT.AS x.length x.length hi - HT.AS x.length 0 lo)).toArray⟩
theorem Le (lo hi:Option Int)(n:Nat):Builtin.Str.strSliceIndices lo hi 1 n=(List.range (HT.AS n n hi - HT.AS n 0 lo)).map (HT.AS n 0 lo+·):=by
 rw[← sliceRange_one]
 unfold Builtin.Str.strSliceIndices
 have cl:∀(o:Option Int) (d:Nat),d<=n->(match o with | none=>(d:Int) | some i=>let i:=if i < 0 then i+(n:Int) else i;if (1:Int) > 0 then max 0 (min i (n:Int)) else max (-1) (min i ((n:Int) - 1)))=((HT.AS n d o:Nat):Int):=λo d hd=>by
  cases o with
  | none=>rfl
  | some i=>
   simp only[HT.AS,show (1:Int) > 0 by decide,fw]
   by_cases h:i < 0
   ·simp only[h,fw] <;> omega
   ·simp only[h,fm] <;> omega
 have c1:=cl lo 0 (cq _)
 have c2:=cl hi n (aE _)
 simp only[show (1:Int) > 0 by decide,fw] at c1 c2 ⊢
 exact congr (dP sliceRange c1) c2▸rfl
theorem Ih (x:Str)(t:Tok)(l u:Option (Int×Tok)){Q:oT}{s:Shared}(hl:x.length<=sizeLine)
  (h:∀t' s',(s'=s\/s'={ s with toks:=s.toks+1 })->Q (.str (lZ x (l.map (·.1)) (u.map (·.1))) t') s'):(sliceMade x t l u none).post Q s:=by
 unfold sliceMade slicePicked
 have e:Builtin.Str.strSliceIndices (l.map (·.1)) (u.map (·.1)) ((((none:Option (Int×Tok)).map (·.1)).getD 1)) x.length=_:=Le (l.map (·.1)) (u.map (·.1)) x.length
 rw[e]
 have hp:=pick_run x.cps (HT.AS x.length 0 (l.map (·.1))) (HT.AS x.length x.length (u.map (·.1)) - HT.AS x.length 0 (l.map (·.1)))
 have hs:HT.AS x.length x.length (u.map (·.1))<=x.length:=HT.L9 _ _ (aE _) _
 have hc:x.length=x.cps.toList.length:=by simp[Str.length]
 by_cases hw:((((none:Option (Int×Tok)).map (·.1)).getD 1 == 1&&((List.range (HT.AS x.length x.length (u.map (·.1)) - HT.AS x.length 0 (l.map (·.1)))).map (HT.AS x.length 0 (l.map (·.1))+·)).length == x.length)=true)
 ·rw[a0 hw]
  show Q (.str x t) s
  have hn:HT.AS x.length x.length (u.map (·.1)) - HT.AS x.length 0 (l.map (·.1))=x.length:=by
   have:=(b6 _ _▸hw).2
   simpa using this
  have e2:lZ x (l.map (·.1)) (u.map (·.1))=x:=by
   unfold lZ
   rw[hn]
   by_cases h0:x.length=0
   ·have:x.cps.toList=[]:=li (by omega)
    cases x with | mk c=>simp at this;subst this;simp
   ·have h1:HT.AS x.length 0 (l.map (·.1))=0:=by omega
    rw[h1,mx,hc,ow]
  have:=h t s (.inl rfl)
  rw[e2] at this
  exact this
 ·rw[ax hw,hp]
  refine⟨?_,h _ _ (.inr rfl)⟩
  show ((x.cps.toList.drop _).take _).toArray.size<=sizeLine
  rw[aI,gX,g6,← hc]
  omega
section
variable {X:Cx}
def O_:V->Option Int->Option Int->Hp->VK->Prop:=λx lo hi H Q=>∃z,x=.str z/\z.length<=sizeLine/\Q (.str (lZ z lo hi)) H
theorem Pa:Mb X O_:=by
 intro zC s σ H x v vl vu lo hi sl Q I rx hs pl pu h
 obtain⟨z,rfl,hz,q⟩:=h
 obtain⟨t,rfl⟩:=rx
 refine⟨"str",_,slot_str_getitem.lookup,typeIs_str s z t,?_⟩
 have part:∀{v:Value}{o:Option Int},IsPart v o->∃p:Option (Int×Tok),v=partValue p/\p.map (·.1)=o:=λp=>by
  cases p with
  | none=>exact⟨none,rfl,rfl⟩
  | int i t=>exact⟨some (i,t),rfl,rfl⟩
 obtain⟨l,rfl,rfl⟩:=part pl
 obtain⟨u,rfl,rfl⟩:=part pu
 refine wpAny_getItem_str_slice (l:=l) (u:=u) (st:=none) hs rfl (Ih z t l u hz λt' s' DU=>?_)
 rcases DU with rfl | rfl
 ·exact⟨.str (lZ z (l.map (·.1)) (u.map (·.1))),H,I,⟨t',rfl⟩,q⟩
 ·exact⟨.str (lZ z (l.map (·.1)) (u.map (·.1))),H,I.tok _,⟨t',rfl⟩,q⟩
def Pb (K:W.Frag):V->Option Int->Option Int->Hp->VK->Prop:=λx lo hi H Q=>O1 K x lo hi H Q\/O_ x lo hi H Q
theorem Pg:Mb X (Pb X.K):=OW.or Pa
end
section
variable {X:Cx}{zC:p9}{σ:St}{H H':Hp}{s:Shared}{h':Heap}
theorem Inv.Pe {t':Nat}{ch:qr}(I:Inv X zC σ H s)(k:∀b u,b∉ch->s.heap.get? b=some u->h'.get? b=some u)(hf:∀b∈ch,gP X zC H b):Inv X zC σ H { s with heap:=h',toks:=t' }:=by
 have L3:∀b u,H b=some u->b∉ch:=λb u e hb=>by
  rw[(hf b hb).1] at e;cases e
 refine I.step (g':=s.gens) (d':=s.drawn) (ch:=ch) (λb hb=>let ⟨_,f1,_,f4,f5,f6⟩:=hf b hb;⟨f4,f1,f5,f6⟩) (λb o _ _ hc e _=>k b o hc e) (λb o _ _ hc e _=>⟨o.slots,k b o hc e⟩)
  (λ_ _ _ _ n=>n) (λb o hc e=>⟨o,k b o hc e⟩) (λ_ _ e=>e) (λ_ _ _ e=>e) (λb ps e=>⟨#[],by rw[e];simp⟩) (λm hm=>?_) (λb u e=>?_) I.bare
 ·obtain⟨oL,es,ep,ho,r⟩:=hm
  have nL:X.env.locals∉ch:=λhb=>(hf _ hb).2.1 rfl
  exact⟨oL,es,ep,k _ oL nL ho,r⟩
 ·refine(I.AK b u e).HK (λc v hc q=>k c v ?_ q) (λ_ q=>q) λ_ _ q=>q
  rcases hc with z | z
  ·rw[z];exact L3 b u e
  ·exact L3 c _ z
end
section
variable {X:Cx}
noncomputable def vL (n:Nat):List V:=(List.range n).map λi=>.int (i:Nat)
theorem za:∀(n k:Nat) (l:qf),l.length=n->(∀(j:Nat) v,l[j]?=some v->∃t,v=.int ((k+j:Nat):Int) t)->Vals ((List.range' k n).map λi=>V.int (i:Nat)) l
 | 0,k,l,h,_=>by
  have:=li h
  subst this
  exact .nil
 | n+1,k,l,h,hv=>by
  cases l with
  | nil=>cases h
  | cons v l=>
   rw[ox,ap]
   refine .cons ?_ (za n (k+1) l (by simpa using h) λj u hu=>?_)
   ·obtain⟨t,e⟩:=hv 0 v rfl
    exact⟨t,e⟩
   ·obtain⟨t,e⟩:=hv (j+1) u (by simpa using hu)
    exact⟨t,by rw[e];congr 1;omega⟩
def Ph (ta:TA):TE:=fun σ H Q=>ta σ H λvs H1=>∃n:Nat,vs=[.int (n:Nat)]/\n<=1000000/\∀l,H1 l=none->Q (.ref l) (upd H1 l (.lst (vL n)))
theorem Ii {a:Expr}{ta:TA}{p p2 Cs:Pos}(hg:Gl X "list")(hm:X.mg "list" = none)(UA:Gl X "range")(UB:X.mg "range" = none)(hc:X.calm=true)(ha:PA X [a] ta)(hs:starEach [a] X.env=[(false,eval a X.env)]:=by rfl)
  (EX:starEach [.Call (.Name "range" p2) [a] [] Cs] X.env=(false,eval (.Call (.Name "range" p2) [a] [] Cs) X.env)::starEach [] X.env:=by rfl) (A8:(backTo pos (starEach [] X.env)).any (·.1)=false:=by rfl):
  PE X (.Call (.Name "list" p) [.Call (.Name "range" p2) [a] [] Cs] [] pos) (Ph ta):=by
 intro zC s σ H Q I h
 refine ga (fW I hg hm kK ?_ (by decide) (by decide))
 refine cK ?_ EX A8
 rw[EX]
 show wpAny _ _ (spliced ((false,eval (.Call (.Name "range" p2) [a] [] Cs) X.env)::backTo pos (starEach [] X.env))) _ _ s
 refine iL ?_
 refine Call_ (fW I UA UB PyProof.Rows.boot_range (cK (AM (ha Cs zC s σ H _ I h) ?_) hs rfl))
 rintro us s1 ⟨vs,H1,I1,r1,q1⟩
 obtain⟨n,e,hn,q⟩:=q1
 subst e
 cases r1 with
 | cons r rr=>
  cases rr
  obtain⟨t,rfl⟩:=r
  refine call_range_1 (kF ?_)
  have Vo:(2 ^ 62:Int)=4611686018427387904:=by decide
  refine call_list_range (n:=n) (I1.ok.hd hc) (IsRange.new ..) (small_one (by omega) (by omega) (by omega) (by omega)) (by rw[rangeSize_one];split <;> omega) (by omega) λh' tk UC c' kp e it=>?_
  obtain⟨i1,i2⟩:=it
  have hv:Vals (vL n) UC.toList:=by
   have:=za n 0 UC.toList (by simpa using i1) λj v hj=>by
    obtain⟨t,e⟩:=i2 j v (by simpa using hj)
    exact⟨t,by rw[e];congr 1;omega⟩
   unfold vL
   rw[lI]
   exact this
  have I2:=I1.laid (a:=s1.heap.objs.size+1) (o:=.lst (vL n)) (h':=h') (t':=tk) (λb o eb=>kp b o (ac _ eb)) (by omega)
   (show AF X.prog X.w X.K _ h' _ (.lst (vL n)) from ⟨(by unfold vL;rw[ba,fb];exact gI (bY hn)),UC.toList,c',hv,by
    have:=e
    rw[cy] at this
    simpa using this⟩)
  refine⟨.ref (s1.heap.objs.size+1),_,I2,?_,q _ (I1.AK.fresh (by omega))⟩
  show Value.ref _=Value.ref _
  rw[cy]
end
theorem Gh:typeLookup (.type "list_reverseiterator") "__len__" = pure none:=by rw[kg,h9];kernel_rfl
theorem Ik:typeLookup (.type "list_reverseiterator") "__length_hint__" = pure (some (.builtin "list_reverseiterator.__length_hint__")):=by rw[kg,h9];kernel_rfl
variable {items:qv}
section
variable {prog:Program}{w:World}{A:Around}{E:oT}{s:Shared}
theorem Dp {J l N:Addr}{c₀:Nat}(hh:A.handled=none)(hit:s.heap.IsRevIter J l ((items.size:Int) - 1))(hl:s.heap.IsList l items)(YO:l≠J)(hNJ:N≠J)(hNl:N≠l)(hn:items.size<=sizeLine)
  (hN:s.heap.get? N=some { cls:=.type "list",data:=.seq #[] c₀ })
  (hR:∀h' tk acc c,(∀b o,b≠J->b≠N->s.heap.get? b=some o->h'.get? b=some o)->h'.get? N=some { cls:=.type "list",dict:=none,data:=.seq acc c,slots:=#[] }->ItemsOf (λi v=>items[items.size - 1 - i]?=some v) acc items.size->R (.ok (.ret .none)) { s with heap:=h',toks:=tk }):
  wpAny (model prog w) A.in1 (Builtin.List.listExtendWith (.ref N) (.ref J) .none)
   (λfin s'=>match fin with | .done f=>R (.ok f) s' | .again c'=>c'.quiet=true/\codeAny (model prog w) A c' R s') (λe s'=>R (.error e) s') s:=by
 have W:=(Walks.listRev (prog:=prog) (w:=w) (A:=A.in1) hh J l YO items).toS
 have st0:(0:Nat)<=items.size/\s.heap.IsRevIter J l ((items.size:Int) - 1 - ((0:Nat):Int))/\s.heap.IsList l items:=⟨cq _,by simpa using hit,hl⟩
 unfold Builtin.List.listExtendWith
 have hr:Builtin.List.listSameRef (.ref N) (.ref J)=false:=by simp[Builtin.List.listSameRef,hNJ]
 refine ab (i9 hit.typeIs ?_);rw[ax (by rw[hr];decide)]
 refine ab (wpAny_pyIter_revIter hit (ab (ef ?_)))
 unfold Builtin.List.listLengthHint
 refine ab (iO hit.typeIs Gh ?_)
 show wpAny _ A.in1 (specialOf (Value.ref J) (Str.ofString "__length_hint__") >>= _) _ _ _
 refine ab (iO hit.typeIs Ik ?_)
 (generalize XH:("list_reverseiterator.__length_hint__" : String)=nm;(fail_if_success (clear XH nm));wp_delta;rw[show splitId nm=some ("list_reverseiterator","__length_hint__") from by subst XH;decide +kernel];subst XH)
 refine ab (i8 (b:=true) hit.typeIs (by rw[isSubtype_type];kernel_rfl) (ae ?_))
 rw[ax (by decide)]
 have hNf:N∉[J,l]:=by simp[hNJ,hNl]
 refine ae ⟨lh F.plain_extend_loop _,codeAny_extend_loopS W hn N hNf .none items.size 0 _ _ _ rfl (cq _) st0 hN (ItemsOf.nil _) λs' acc c hm hN' it=>?_⟩
 rw[Moved.eq_with hm]
 exact hR s'.heap s'.toks acc c (λb o h1 h2 e=>hm.heap b o (by simp[h1,h2]) e) hN' it
theorem xO {J l:Addr}{Q:oT}(hh:A.handled=none)(hit:s.heap.IsRevIter J l ((items.size:Int) - 1))(hl:s.heap.IsList l items)(YO:l≠J)(hn:items.size<=sizeLine)
  (hQ:∀h' tk acc c,(∀b o,b≠J->s.heap.get? b=some o->h'.get? b=some o)->h'.get? s.heap.objs.size=some { cls:=.type "list",dict:=none,data:=.seq acc c,slots:=#[] }->ItemsOf (λi v=>items[items.size - 1 - i]?=some v) acc items.size->Q (.ref s.heap.objs.size) { s with heap:=h',toks:=tk }):
  wpAny (model prog w) A (call (.type "list") [.ref J]) Q E s:=by
 have lt:∀{b:Addr}{o:Obj},s.heap.get? b=some o->b≠s.heap.objs.size:=λe=>bg (av e)
 have nJ:J≠s.heap.objs.size:=let ⟨_,e,_⟩:=hit;lt e
 have nl:l≠s.heap.objs.size:=let ⟨_,e,_⟩:=hl;lt e
 refine callType_codes (Q₁:=λx t=>x=.ref s.heap.objs.size/\t={ s with heap:=s.heap.push { cls:=.type "list",data:=.seq #[] } }) F.called_list (F.typeCall_list_1 _) F.entry_list_init (code_list_new _ ⟨rfl,rfl⟩) λx t ht=>?_
 obtain⟨rfl,rfl⟩:=ht
 have hN:(s.heap.push { cls:=.type "list",data:=.seq #[] }).get? s.heap.objs.size=some { cls:=.type "list",data:=.seq #[] }:=ar _ rfl
 refine⟨⟨_,hN,rfl⟩,F.args_list_init_2 _ _,?_⟩
 generalize hS:s.heap.objs.size=N at *
 have up:∀b o,b≠N->s.heap.get? b=some o->((s.heap.push { cls:=.type "list",data:=.seq #[] }).update N (Obj.mapSeq (λ_=>(#[]:qv)))).get? b=some o:=λb o hb e=>(eS _ _ (fT hb)).trans (ac _ e)
 show wpAny _ A.in1.in1 (do let old ← Builtin.List.listItems (.ref N);Builtin.List.listUpdate (.ref N) (λ_=>#[]);letGo old.toList.reverse;Builtin.List.listExtendWith (.ref N) (.ref J) .none) _ _ _
 refine ab ?_;unfold Builtin.List.listItems
 refine ab (ff hN rfl (ae ?_))
 show wpAny _ A.in1.in1 (updateSeq N (λ_=>#[]) >>= λ_=>letGo (#[]:qv).toList.reverse >>= λ_=>Builtin.List.listExtendWith (.ref N) (.ref J) .none) _ _ _
 refine ab (l4 hN rfl (ab (ny ?_)))
 have hN2:=eK (Obj.mapSeq (λ_=>(#[]:qv))) hN rfl
 refine Dp (A:=A.in1) hh (hit.at λo e=>up J o nJ e) (hl.at λo e=>up l o nl e) YO (fT nJ) (fT nl) hn hN2 λh' tk acc c k e it=>⟨rfl,hQ h' tk acc c (λb o hb eb=>k b o hb (hS▸lt eb) (up b o (hS▸lt eb) eb)) e it⟩
end
section
variable {X:Cx}{tg:Expr}
theorem Gi {As:qf}(r:Vals xs As)(acc:qf)(hl:acc.length=As.length)(h:∀(i:Nat) v,acc[i]?=some v->As[As.length - 1 - i]?=some v):Vals xs.reverse acc:=by
 have e:acc=As.reverse:=by
  refine List.ext_getElem? λi=>?_
  rcases gL i acc.length with hi | hi
  ·have:=h i acc[i] (ai hi)
   rw[ai hi,List.getElem?_reverse (by omega),this]
  ·rw[cE hi,cE (by rw[pS];omega)]
 rw[e]
 exact r.reverse
def Pj (K:W.Frag)(ta:TA):TE:=fun σ H Q=>ta σ H λvs H1=>∃a xs,vs=[.ref a]/\A0 K H1 a xs/\∀l,H1 l=none->Q (.ref l) (upd H1 l (.lst xs.reverse))
theorem Il {a:Expr}{ta:TA}{p p2 Cs:Pos}(hg:Gl X "list")(hm:X.mg "list" = none)(UA:Gl X "reversed")(UB:X.mg "reversed" = none)(hb:bootBuiltins "reversed" = some (.type "reversed"))(hc:X.calm=true)(ha:PA X [a] ta)(hs:starEach [a] X.env=(false,eval a X.env)::starEach [] X.env:=by rfl)(K2:(backTo Cs (starEach [] X.env)).any (·.1)=false:=by rfl)
  (EX:starEach [.Call (.Name "reversed" p2) [a] [] Cs] X.env=(false,eval (.Call (.Name "reversed" p2) [a] [] Cs) X.env)::starEach [] X.env:=by rfl) (A8:(backTo pos (starEach [] X.env)).any (·.1)=false:=by rfl):
  PE X (.Call (.Name "list" p) [.Call (.Name "reversed" p2) [a] [] Cs] [] pos) (Pj X.K ta):=by
 intro zC s σ H Q I h
 refine ga (fW I hg hm kK (cK ?_ EX A8) (by decide) (by decide))
 rw[EX]
 show wpAny _ _ (spliced ((false,eval (.Call (.Name "reversed" p2) [a] [] Cs) X.env)::backTo pos (starEach [] X.env))) _ _ s
 refine iL (Call_ (fW I UA UB hb (cK (AM (ha Cs zC s σ H _ I h) ?_) hs K2)))
 rintro us s1 ⟨vs,H1,I1,r1,q1⟩
 obtain⟨a,xs,e,hq,q⟩:=q1
 subst e
 obtain⟨u,rfl,ru⟩:=vals1 r1
 cases ru
 obtain⟨As,rv,pl,hz⟩:=I1.list hq
 have hlen:=rv.length
 have A6:a≠s1.heap.objs.size:=let ⟨_,e,_⟩:=pl.isList;bg (av e)
 refine call_reversed_list pl.isList (kF ?_)
 refine xO (I1.ok.hd hc) ⟨_,ar _ rfl,rfl,rfl⟩ (pl.isList.at λo e=>ac _ e) A6 (by rw[aI];omega) λh' tk acc c k e it=>?_
 obtain⟨i1,i2⟩:=it
 rw[aI] at i1
 have hv:Vals xs.reverse acc.toList:=Gi rv acc.toList (by simpa using i1) λi v hi=>by
  have:=i2 i v (by simpa using hi)
  simpa using this
 have I2:=I1.laid (a:=s1.heap.objs.size+1) (o:=.lst xs.reverse) (h':=h') (t':=tk) (λb o eb=>k b o (bg (av eb)) (ac _ eb)) (by omega)
  (show AF X.prog X.w X.K _ h' _ (.lst xs.reverse) from ⟨(by rw[pS];exact hz),acc.toList,c,hv,by
   have:=e
   rw[cy] at this
   simpa using this⟩)
 refine⟨.ref (s1.heap.objs.size+1),_,I2,?_,q _ (I1.AK.fresh (by omega))⟩
 show Value.ref _=Value.ref _
 rw[cy]
end
variable {i:Nat}
section
variable {prog:Program}{w:World}{A:Around}{E:oT}{s:Shared}
theorem nextT {it t:Addr}{x:Value}{Q:oT}(hit:s.heap.IsTupleIter it t i)(ht:s.heap.IsTuple t items)(hx:items[i]?=some x)
  (hQ:∀h',h'.IsTupleIter it t (i+1)->Heap.SameBut it s.heap h'->Q x { s with heap:=h' }):wpAny (model prog w) A (Builtin.SmallTypes.nextOf (.ref it)) Q E s:=by
 obtain⟨o,eo,co,fo⟩:=id hit
 obtain⟨p,ep,_,np,dp⟩:=ht
 unfold Builtin.SmallTypes.nextOf
 refine ab (cx (name:=Str.ofString "__next__") hit.typeIs hV (db hV hit.typeIs ml ?_ (l5 _)))
 show wpAny _ _ (field (.ref it) 0 >>= _) _ _ _
 refine ab (dL eo fo (x:=.ref t) rfl ?_)
 show wpAny _ _ (if (Value.ref t == Value.none)=true then _ else _) _ _ _
 rw[ax (λz:(Value.ref t == Value.none)=true=>bd z)]
 show wpAny _ _ (field (.ref it) 1 >>= _) _ _ _
 refine ab (dL eo fo (x:=.int i 0) rfl ?_)
 show wpAny _ _ (seqItems? (.ref t) >>= _) _ _ _
 refine ab (ff ep dp ?_);simp only[gp,hx]
 refine ab (mB eo fo (by simp) (ae ⟨x,rfl,ae (hQ _ ⟨_,eK _ eo (Obj.isFreed_of_fields (Obj.data_mapFields fo _)),(Obj.cls_mapFields ..).trans co,?_⟩ (eJ ..))⟩))
 rw[Obj.data_mapFields fo]
 simp[rawInt]
theorem Gj {it t:Addr}{Q:oT}(hh:A.handled=none)(hit:s.heap.IsTupleIter it t i)(ht:s.heap.IsTuple t items)(hx:items[i]?=none)
  (hE:∀h' e,Heap.ExtBut it s.heap h'->(∃o,h'.get? e=some o/\o.cls=.type "StopIteration")->E (.ref e) { s with heap:=h' }):wpAny (model prog w) A (Builtin.SmallTypes.nextOf (.ref it)) Q E s:=by
 obtain⟨o,eo,co,fo⟩:=id hit
 obtain⟨p,ep,_,np,dp⟩:=ht
 unfold Builtin.SmallTypes.nextOf
 refine ab (cx (name:=Str.ofString "__next__") hit.typeIs hV (db hV hit.typeIs ml ?_ (l5 _)))
 show wpAny _ _ (field (.ref it) 0 >>= _) _ _ _
 refine ab (dL eo fo (x:=.ref t) rfl ?_)
 show wpAny _ _ (if (Value.ref t == Value.none)=true then _ else _) _ _ _
 rw[ax (λz:(Value.ref t == Value.none)=true=>bd z)]
 show wpAny _ _ (field (.ref it) 1 >>= _) _ _ _
 refine ab (dL eo fo (x:=.int i 0) rfl ?_)
 show wpAny _ _ (seqItems? (.ref t) >>= _) _ _ _
 refine ab (ff ep dp ?_);simp only[gp,hx]
 refine ab (iX (ab (mB eo fo (by simp) ?_)))
 show wpAny _ _ (newExc (.type "StopIteration") [] >>= _) _ _ _
 refine ab ?_;simp only[newExc,newTuple]
 refine ab (cS (ab (m:=firstArgMember _ _) (wpAny_of_eq (a:=Value.none) (by first | rfl | (simp only[firstArgMember];rfl)) (cS ?_ (by size_fits)))) (by size_fits))
 simp only[raiseNew]
 refine ab (p0 ?_);rw[hh]
 refine ab (ae (wpAny_throw ?_))
 exact hE _ _ (((eJ ..).extBut.push _).push _) ⟨_,ar _ rfl,rfl⟩
theorem Pk (hh:A.handled=none)(it t:Addr)(AU:t≠it)(items:qv):Draws prog w A it [it,t] items.size (λi v=>items[i]?=some v) (λi h=>h.IsTupleIter it t i/\h.IsTuple t items) where
 live:=λi h st=>let ⟨o,e,_⟩:=st.1;⟨o,e⟩
 frame:=λi h h' st k=>⟨st.1.at λo e=>k it (by simp) o e,let ⟨o,e,c⟩:=st.2;⟨o,k t (by simp) o e,c⟩⟩
 item:=λi s Q E hi st hQ=>nextT st.1 st.2 (e8 hi) λh' a b=>hQ _ h' s.toks (e8 hi) ⟨a,let ⟨o,e,c⟩:=st.2;⟨o,(b.2 t AU).trans e,c⟩⟩ b
 done:=λs Q E st hE=>Gj hh st.1 st.2 (kL (aE _)) hE
structure ZA (z TI TO i1 i2:Addr)(Lm Lo:qr):Prop where
 TIz:TI≠z
 TOz:TO≠z
 TIO:TI≠TO
 m1:i1∈Lm
 m2:i2∈Lo
 z1:z∉Lm
 z2:z∉Lo
 o1:TO∉Lm
 o2:TO∉Lo
 YQ:i1∉Lo
 x21:i2∉Lm
variable {z TI TO i1 i2:Addr}{Lm Lo:qr}{n1 n2:Nat}{P1 P2:Nat->Value->Prop}{UD RY:Nat->Heap->Prop}
theorem ZA.i1z (D:ZA z TI TO i1 i2 Lm Lo):i1≠z:=λe=>D.z1 (e▸D.m1)
theorem ZA.i2z (D:ZA z TI TO i1 i2 Lm Lo):i2≠z:=λe=>D.z2 (e▸D.m2)
theorem ZA.i1o (D:ZA z TI TO i1 i2 Lm Lo):i1≠TO:=λe=>D.o1 (e▸D.m1)
theorem ZA.i2o (D:ZA z TI TO i1 i2 Lm Lo):i2≠TO:=λe=>D.o2 (e▸D.m2)
theorem dJ {b:Addr}{h h':Heap}{fp:qr}(hs:Heap.SameBut b h h')(hb:b∉fp):∀c∈fp,∀o,h.get? c=some o->h'.get? c=some o:=λc hc o e=>(hs.2 c (λq=>hb (q▸hc))).trans e
theorem Gk {k:Nat}{a b:Value}{Q:oT}(D:ZA z TI TO i1 i2 Lm Lo)(D1:Draws prog w A i1 Lm n1 P1 UD)(D2:Draws prog w A i2 Lo n2 P2 RY)(hz:IsZip s.heap z TI TO .none)(IU:IsPair s.heap TI (.ref i1) (.ref i2))(KG:IsPair s.heap TO a b)
  (t1:UD k s.heap) (t2:RY k s.heap) (k1:k < n1) (k2:k < n2)
  (hQ:∀h' tk x y,P1 k x->P2 k y->IsZip h' z TI TO (rawInt s.heap.objs.size)->IsPair h' TO x y->UD (k+1) h'->RY (k+1) h'->IsPair h' s.heap.objs.size x y->h'.objs.size=s.heap.objs.size+1->
   (∀c o,c≠z->c≠TO->c≠i1->c≠i2->s.heap.get? c=some o->h'.get? c=some o)->Q (.ref s.heap.objs.size) { s with heap:=h',toks:=tk }):
  wpAny (model prog w) A (Builtin.«zip.__next__» ⟨[.ref z],[]⟩) (λfin s'=>∃v,fin=.done (.ret v)/\Q v s') E s:=by
 show wpAny _ _ (field (.ref z) 2 >>= _) _ _ _
 refine ab (dL hz rfl (x:=.bool false) rfl ?_)
 show wpAny _ _ (field (.ref z) 3 >>= _) _ _ _
 refine ab (dL hz rfl (x:=.ref TI) rfl (ab (ff IU rfl ?_)))
 show wpAny _ _ (Builtin.SmallTypes.ownedTupleIsFree (.ref z) >>= _) _ _ _
 refine ab ?_;unfold Builtin.SmallTypes.ownedTupleIsFree
 refine ab (dL hz rfl (x:=.none) rfl (ae ?_));simp only[fw]
 refine ab (iX (ab (dL hz rfl (x:=.ref TO) rfl (ab (de hz (by simp) λg1 z1 s1=>?_)))))
 replace z1:IsZip g1 z TI TO .ellipsis:=z1
 refine ab ?_;simp only[List.zipIdx_cons,List.zipIdx_nil,kf,kM]
 refine ab (ab (nV ?_))
 show wpAny _ _ (Builtin.SmallTypes.nextOf (.ref i1) >>= _) _ _ _
 refine ab (D1.item k _ _ _ k1 (D1.frame k _ _ t1 (dJ s1 D.z1)) λx g2 tk2 px u2 s2=>ae ?_)
 have o2:IsPair g2 TO a b:=s2.extBut _ _ D.i1o.symm (s1.extBut _ _ D.TOz KG)
 refine ab (ff o2 rfl (ab (lP o2 λg3 o3 s3=>ab (ny (ae ?_)))))
 replace o3:IsPair g3 TO x b:=o3
 refine ab (ab (nV ?_))
 show wpAny _ _ (Builtin.SmallTypes.nextOf (.ref i2) >>= _) _ _ _
 have v3:RY k g3:=D2.frame k _ _ (D2.frame k _ _ (D2.frame k _ _ t2 (dJ s1 D.z2)) (dJ s2 D.YQ)) (dJ s3 D.o2)
 refine ab (D2.item k _ _ _ k2 v3 λy g4 tk4 py u4 s4=>ae ?_)
 have o4:IsPair g4 TO x b:=s4.extBut _ _ D.i2o.symm o3
 refine ab (ff o4 rfl (ab (lP o4 λg5 o5 s5=>ab (ny (ae (ae ?_))))))
 replace o5:IsPair g5 TO x y:=o5
 refine ab (ff o5 rfl (ab (mE ?_)))
 have sz:g5.objs.size=s.heap.objs.size:=by rw[s5.1,s4.1,s3.1,s2.1,s1.1]
 have z5:IsZip g5 z TI TO .ellipsis:=s5.extBut _ _ D.TOz.symm (s4.extBut _ _ D.i2z.symm (s3.extBut _ _ D.TOz.symm (s2.extBut _ _ D.i1z.symm z1)))
 have k5:∀c o,c≠z->c≠TO->c≠i1->c≠i2->s.heap.get? c=some o->g5.get? c=some o:=λc o c1 c2 c3 c4 e=>s5.extBut _ _ c2 (s4.extBut _ _ c4 (s3.extBut _ _ c2 (s2.extBut _ _ c3 (s1.extBut _ _ c1 e))))
 have w1:UD (k+1) g5:=D1.frame _ _ _ (D1.frame _ _ _ (D1.frame _ _ _ u2 (dJ s3 D.o1)) (dJ s4 D.x21)) (dJ s5 D.o1)
 have w2:RY (k+1) g5:=D2.frame _ _ _ u4 (dJ s5 D.o2)
 have lz:z < g5.objs.size:=av z5
 show wpAny _ _ (Builtin.SmallTypes.ownedTupleHandOut (.ref z) (.ref g5.objs.size) >>= _) _ _ _
 refine ab ?_;unfold Builtin.SmallTypes.ownedTupleHandOut
 have z6:IsZip (g5.push { cls:=.type "tuple",data:=.seq #[x,y] }) z TI TO .ellipsis:=ac _ z5
 refine ab (de z6 (by simp) λg7 z7 s7=>?_)
 replace z7:IsZip g7 z TI TO (rawInt g5.objs.size):=z7
 refine de z7 (by simp) λg8 z8 s8=>?_
 replace z8:IsZip g8 z TI TO (rawInt g5.objs.size):=z8
 have up:∀c o,c≠z->g5.get? c=some o->g8.get? c=some o:=λc o c1 e=>s8.extBut _ _ c1 (s7.extBut _ _ c1 (ac _ e))
 have p8:IsPair g8 g5.objs.size x y:=s8.extBut _ _ (df lz) (s7.extBut _ _ (df lz) (ar _ rfl))
 have y8:g8.objs.size=g5.objs.size+1:=by rw[s8.1,s7.1,cy]
 have fr:∀{fp:qr},z∉fp->∀c∈fp,∀o,g5.get? c=some o->g8.get? c=some o:=λhz' c hc o e=>up c o (λq=>hz' (q▸hc)) e
 rw[sz] at z8 p8 y8
 refine ae ⟨_,rfl,?_⟩
 show Q (.ref g5.objs.size) _
 rw[sz]
 exact hQ g8 _ x y px py z8 (up _ _ D.TOz o5) (D1.frame _ _ _ w1 (fr D.z1)) (D2.frame _ _ _ w2 (fr D.z2)) p8 y8 λc o c1 c2 c3 c4 e=>up c o c1 (k5 c o c1 c2 c3 c4 e)
theorem Im {k:Nat}{a b:Value}{Q:Fin->Shared->Prop}(D:ZA z TI TO i1 i2 Lm Lo)(D1:Draws prog w A i1 Lm n1 P1 UD)(D2:Draws prog w A i2 Lo n2 P2 RY)(hz:IsZip s.heap z TI TO .none)(IU:IsPair s.heap TI (.ref i1) (.ref i2))(KG:IsPair s.heap TO a b)
  (t1:UD k s.heap) (t2:RY k s.heap) (hk:k=n1\/(k < n1/\k=n2))
  (hE:∀h' tk e,(∀c o,c≠z->c≠TO->c≠i1->c≠i2->s.heap.get? c=some o->h'.get? c=some o)->(∃o,h'.get? e=some o/\o.cls=.type "StopIteration")->E (.ref e) { s with heap:=h',toks:=tk }):
  wpAny (model prog w) A (Builtin.«zip.__next__» ⟨[.ref z],[]⟩) Q E s:=by
 show wpAny _ _ (field (.ref z) 2 >>= _) _ _ _
 refine ab (dL hz rfl (x:=.bool false) rfl ?_)
 show wpAny _ _ (field (.ref z) 3 >>= _) _ _ _
 refine ab (dL hz rfl (x:=.ref TI) rfl (ab (ff IU rfl ?_)))
 show wpAny _ _ (Builtin.SmallTypes.ownedTupleIsFree (.ref z) >>= _) _ _ _
 refine ab ?_;unfold Builtin.SmallTypes.ownedTupleIsFree
 refine ab (dL hz rfl (x:=.none) rfl (ae ?_));simp only[fw]
 refine ab (iX (ab (dL hz rfl (x:=.ref TO) rfl (ab (de hz (by simp) λg1 z1 s1=>?_)))))
 replace z1:IsZip g1 z TI TO .ellipsis:=z1
 refine ab ?_;simp only[List.zipIdx_cons,List.zipIdx_nil,kf,kM]
 refine ab (ab (nV ?_))
 show wpAny _ _ (Builtin.SmallTypes.nextOf (.ref i1) >>= _) _ _ _
 have v1:UD k g1:=D1.frame k _ _ t1 (dJ s1 D.z1)
 rcases hk with rfl | ⟨YR,rfl⟩
 ·refine ab (D1.done _ _ _ v1 λg2 e s2 he=>?_)
  obtain⟨oe,UE,V9⟩:=he
  have z2:IsZip g2 z TI TO .ellipsis:=s2 _ _ D.i1z.symm z1
  have YS:e≠z:=λq=>by subst q;rw[z2] at UE;cases UE;simp at V9
  exact de z2 (by simp) λg3 _ s3=>hE g3 _ e (λc o c1 _ c3 _ q=>s3.extBut _ _ c1 (s2 _ _ c3 (s1.extBut _ _ c1 q))) ⟨oe,s3.extBut _ _ YS UE,V9⟩
 ·refine ab (D1.item k _ _ _ YR v1 λx g2 tk2 px u2 s2=>ae ?_)
  have o2:IsPair g2 TO a b:=s2.extBut _ _ D.i1o.symm (s1.extBut _ _ D.TOz KG)
  refine ab (ff o2 rfl (ab (lP o2 λg3 o3 s3=>ab (ny (ae ?_)))))
  refine ab (ab (nV ?_))
  show wpAny _ _ (Builtin.SmallTypes.nextOf (.ref i2) >>= _) _ _ _
  have v3:RY k g3:=D2.frame k _ _ (D2.frame k _ _ (D2.frame k _ _ t2 (dJ s1 D.z2)) (dJ s2 D.YQ)) (dJ s3 D.o2)
  refine ab (D2.done _ _ _ v3 λg4 e s4 he=>?_)
  obtain⟨oe,UE,V9⟩:=he
  have z4:IsZip g4 z TI TO .ellipsis:=s4 _ _ D.i2z.symm (s3.extBut _ _ D.TOz.symm (s2.extBut _ _ D.i1z.symm z1))
  have YS:e≠z:=λq=>by subst q;rw[z4] at UE;cases UE;simp at V9
  exact de z4 (by simp) λg5 _ s5=>hE g5 _ e (λc o c1 c2 c3 c4 q=>s5.extBut _ _ c1 (s4 _ _ c4 (s3.extBut _ _ c2 (s2.extBut _ _ c3 (s1.extBut _ _ c1 q))))) ⟨oe,s5.extBut _ _ YS UE,V9⟩
end
inductive SK where | L | T
def SK.ty:SK->String
 | .L => "list_iterator"
 | .T => "tuple_iterator"
def SK.is (k:SK)(h:Heap)(a:Addr)(items:qv):Prop:=match k with
 | .L=>h.IsList a items
 | .T=>h.IsTuple a items
def SK.at (k:SK)(h:Heap)(it a:Addr)(i:Nat):Prop:=match k with
 | .L=>h.IsListIter it a i
 | .T=>h.IsTupleIter it a i
theorem SK.at_of {k:SK}{h:Heap}{it:Addr}(e:h.get? it=some { cls:=.type k.ty,data:=.fields #[.ref a,.int 0 0] }):k.at h it a 0:=by
 cases k with
 | L=>exact⟨_,e,rfl,rfl⟩
 | T=>exact⟨_,e,rfl,rfl⟩
theorem SK.CC {k:SK}{h:Heap}{it:Addr}(st:k.at h it a i):∃o,h.get? it=some o/\∀v,o.data≠.cell v:=by
 cases k with
 | L=>obtain⟨o,e,c,d⟩:=st;exact⟨o,e,λv y=>by rw[d] at y;cases y⟩
 | T=>obtain⟨o,e,c,d⟩:=st;exact⟨o,e,λv y=>by rw[d] at y;cases y⟩
theorem SK.Dx {k:SK}{h h':Heap}{it:Addr}(st:k.at h it a i)(q:∀o,h.get? it=some o->h'.get? it=some o):k.at h' it a i:=by
 cases k with
 | L=>exact Heap.IsListIter.at st q
 | T=>exact Heap.IsTupleIter.at st q
theorem SK.is_lt {k:SK}{h:Heap}(p:k.is h a items):a < h.objs.size:=by
 cases k with
 | L=>obtain⟨o,e,_⟩:=p;exact av e
 | T=>obtain⟨o,e,_⟩:=p;exact av e
theorem SK.draws {prog:Program}{A:Around}(k:SK)(hh:A.handled=none)(it a:Addr)(AU:a≠it)(items:qv):Draws prog w A it [it,a] items.size (λi v=>items[i]?=some v) (λi h=>k.at h it a i/\k.is h a items):=by
 cases k with
 | L=>exact Draws.list hh it a AU items
 | T=>exact Pk hh it a AU items
noncomputable def Wa (k1:SK)(h:Heap)(l1:Addr):Heap:=h.push { cls:=.type k1.ty,data:=.fields #[.ref l1,.int 0 0] }
noncomputable def Wb (k1 k2:SK)(h:Heap)(l1 l2:Addr):Heap:=(Wa k1 h l1).push { cls:=.type k2.ty,data:=.fields #[.ref l2,.int 0 0] }
noncomputable def We (k1 k2:SK)(h:Heap)(l1 l2:Addr):Heap:=(Wb k1 k2 h l1 l2).push { cls:=.type "tuple",data:=.seq #[.ref h.objs.size,.ref (Wa k1 h l1).objs.size] }
noncomputable def XI (k1 k2:SK)(h:Heap)(l1 l2:Addr):Heap:=(We k1 k2 h l1 l2).push { cls:=.type "tuple",data:=.seq #[.none,.none] }
noncomputable def UG (k1 k2:SK)(h:Heap)(l1 l2:Addr):Heap:=(XI k1 k2 h l1 l2).push { cls:=.type "zip",data:=.fields #[.none,.bool false,.bool false,.ref (Wb k1 k2 h l1 l2).objs.size,.ref (We k1 k2 h l1 l2).objs.size] }
theorem Pn (k1 k2:SK)(l1 l2:Addr)(xs ys:qv):Meets (Builtin.«zip.__new__» ⟨[.type "zip",.ref l1,.ref l2],[]⟩) (λ_ R s=>k1.is s.heap l1 xs/\k2.is s.heap l2 ys /\
   R (.ok (.ret (.ref (XI k1 k2 s.heap l1 l2).objs.size))) { s with heap:=UG k1 k2 s.heap l1 l2 }):=
 .of_wp λprog w A R s h=>by
  obtain⟨hp,g,d,tk,os⟩:=s
  obtain⟨q1,q2,h⟩:=h
  have MH:=sub_zip
  cases k1 with
  | L=>
   have e1:Heap.IsList (Shared.heap ⟨hp,g,d,tk,os⟩) l1 xs:=q1
   cases k2 with
   | L=>
    have e2:Heap.IsList (Shared.heap ⟨hp.push { cls:=.type "list_iterator",data:=.fields #[.ref l1,.int 0 0] },g,d,tk,os⟩) l2 ys:=Heap.IsList.push q2 _
    wp_walk using fA e1,fA e2
    exact⟨_,rfl,h⟩
   | T=>
    have e2:Heap.IsTuple (Shared.heap ⟨hp.push { cls:=.type "list_iterator",data:=.fields #[.ref l1,.int 0 0] },g,d,tk,os⟩) l2 ys:=let ⟨o,e,c⟩:=q2;⟨o,ac _ e,c⟩
    wp_walk using fA e1,eP e2
    exact⟨_,rfl,h⟩
  | T=>
   have e1:Heap.IsTuple (Shared.heap ⟨hp,g,d,tk,os⟩) l1 xs:=q1
   cases k2 with
   | L=>
    have e2:Heap.IsList (Shared.heap ⟨hp.push { cls:=.type "tuple_iterator",data:=.fields #[.ref l1,.int 0 0] },g,d,tk,os⟩) l2 ys:=Heap.IsList.push q2 _
    wp_walk using eP e1,fA e2
    exact⟨_,rfl,h⟩
   | T=>
    have e2:Heap.IsTuple (Shared.heap ⟨hp.push { cls:=.type "tuple_iterator",data:=.fields #[.ref l1,.int 0 0] },g,d,tk,os⟩) l2 ys:=let ⟨o,e,c⟩:=q2;⟨o,ac _ e,c⟩
    wp_walk using eP e1,eP e2
    exact⟨_,rfl,h⟩
section
variable {prog:Program}{w:World}{A:Around}{E:oT}{s:Shared}
theorem Gm {k1 k2:SK}{l1 l2:Addr}{xs ys:qv}{Q:oT}(q1:k1.is s.heap l1 xs)(q2:k2.is s.heap l2 ys)
  (h:∀h',IsZip h' (s.heap.objs.size+4) (s.heap.objs.size+2) (s.heap.objs.size+3) .none->IsPair h' (s.heap.objs.size+2) (.ref s.heap.objs.size) (.ref (s.heap.objs.size+1))->
   IsPair h' (s.heap.objs.size+3) .none .none->k1.at h' s.heap.objs.size l1 0->k2.at h' (s.heap.objs.size+1) l2 0->h'.objs.size=s.heap.objs.size+5->
   (∀c o,s.heap.get? c=some o->h'.get? c=some o)->Q (.ref (s.heap.objs.size+4)) { s with heap:=h' }):
  wpAny (model prog w) A (call (.type "zip") [.ref l1,.ref l2]) Q E s:=by
 refine callType_new F.called_zip (by decide) (F.typeCall_zip_2 _ _) (F.newCall_zip_2 _ _) (λobj=>F.args_object_init_3 obj _ _) F.entry_zip_new (Pn k1 k2 l1 l2 xs ys) ⟨q1,q2,?_⟩
 have a1:(Wa k1 s.heap l1).objs.size=s.heap.objs.size+1:=cy ..
 have a2:(Wb k1 k2 s.heap l1 l2).objs.size=s.heap.objs.size+2:=(cy ..).trans (by rw[a1])
 have a3:(We k1 k2 s.heap l1 l2).objs.size=s.heap.objs.size+3:=(cy ..).trans (by rw[a2])
 have a4:(XI k1 k2 s.heap l1 l2).objs.size=s.heap.objs.size+4:=(cy ..).trans (by rw[a3])
 have a5:(UG k1 k2 s.heap l1 l2).objs.size=s.heap.objs.size+5:=(cy ..).trans (by rw[a4])
 have b5:(UG k1 k2 s.heap l1 l2).get? (XI k1 k2 s.heap l1 l2).objs.size=some { cls:=.type "zip",data:=.fields #[.none,.bool false,.bool false,.ref (Wb k1 k2 s.heap l1 l2).objs.size,.ref (We k1 k2 s.heap l1 l2).objs.size] }:=ar _ rfl
 have b4:(UG k1 k2 s.heap l1 l2).get? (We k1 k2 s.heap l1 l2).objs.size=some { cls:=.type "tuple",data:=.seq #[.none,.none] }:=ac _ (ar _ rfl)
 have b3:(UG k1 k2 s.heap l1 l2).get? (Wb k1 k2 s.heap l1 l2).objs.size=some { cls:=.type "tuple",data:=.seq #[.ref s.heap.objs.size,.ref (Wa k1 s.heap l1).objs.size] }:=ac _ (ac _ (ar _ rfl))
 have b2:(UG k1 k2 s.heap l1 l2).get? (Wa k1 s.heap l1).objs.size=some { cls:=.type k2.ty,data:=.fields #[.ref l2,.int 0 0] }:=ac _ (ac _ (ac _ (ar _ rfl)))
 have b1:(UG k1 k2 s.heap l1 l2).get? s.heap.objs.size=some { cls:=.type k1.ty,data:=.fields #[.ref l1,.int 0 0] }:=ac _ (ac _ (ac _ (ac _ (ar _ rfl))))
 rw[a2,a3,a4] at b5
 rw[a3] at b4
 rw[a1,a2] at b3
 rw[a1] at b2
 show _/\_
 rw[a4]
 exact⟨⟨_,b5,rfl⟩,h _ b5 b3 b4 (SK.at_of b1) (SK.at_of b2) a5 λc o x=>ac _ (ac _ (ac _ (ac _ (ac _ x))))⟩
end
def SK.sq (k:SK)(K:W.Frag)(H:Hp)(a:Addr)(xs:List V):Prop:=match k with
 | .L=>A0 K H a xs
 | .T=>B6 K H a xs
section
variable {X:Cx}{zC:p9}{σ:St}{H:Hp}{s:Shared}
theorem Inv.sk (I:Inv X zC σ H s){k:SK}(h:k.sq X.K H a xs):∃As:List Value,Vals xs As/\k.is s.heap a As.toArray:=by
 cases k with
 | L=>obtain⟨As,r,p,_⟩:=I.list h;exact⟨As,r,p.isList⟩
 | T=>obtain⟨As,r,p,_⟩:=I.tuple h;exact⟨As,r,p⟩
theorem Inv.IX (I:Inv X zC σ H s){k:SK}{ys:List V}(h:k.sq X.K H a xs)(h':k.sq X.K H a ys):xs=ys:=by
 cases k with
 | L=>exact I.HP h h'
 | T=>exact I.F0 h h'
end
def Wf (K:W.Frag)(k1 k2:SK)(a b:Addr):It:=
  ⟨λi H=>∃xs x ys y,k1.sq K H a xs/\xs[i]?=some x/\k2.sq K H b ys/\ys[i]?=some y,
   λi H v H'=>∃t x y,H t=none/\v=.ref t/\H'=upd H t (.tup [x,y])/\(∀xs,k1.sq K H a xs->xs[i]?=some x)/\∀ys,k2.sq K H b ys->ys[i]?=some y,
   λi H=>∃xs ys,k1.sq K H a xs/\k2.sq K H b ys/\(xs.length=i\/(i < xs.length/\ys.length=i))⟩
def ZAt (k1 k2:SK)(z TI TO i1 i2 l1 l2:Addr)(i:Nat)(h:Heap):Prop:=IsZip h z TI TO .none/\IsPair h TI (.ref i1) (.ref i2)/\(∃a b,IsPair h TO a b)/\k1.at h i1 l1 i/\k2.at h i2 l2 i
theorem Km {z TI TO i1 i2 l1 l2:Addr}(D:ZipApart z TI TO i1 i2 l1 l2):ZA z TI TO i1 i2 [i1,l1] [i2,l2] where
 TIz:=D.TIz
 TOz:=D.TOz
 TIO:=D.TITO
 m1:=by simp
 m2:=by simp
 z1:=by simp[D.i1z.symm,D.l1z.symm]
 z2:=by simp[D.i2z.symm,D.l2z.symm]
 o1:=by simp[D.TOi1,D.l1TO.symm]
 o2:=by simp[D.TOi2,D.l2TO.symm]
 YQ:=by simp[D.i12,D.l2i1.symm]
 x21:=by simp[D.i12.symm,D.l1i2.symm]
theorem wY {P:Program}{es:qk}{x1:Nat}{tpos:Pos}{k1 k2:SK}{z TI TO i1 i2 l1 l2:Addr}(D:ZipApart z TI TO i1 i2 l1 l2):Turn P w K (.Tuple es x1 tpos) (Wf K k1 k2 l1 l2) [z,TI,TO,i1,i2] z (ZAt k1 k2 z TI TO i1 i2 l1 l2) where
 mem:=by simp
 obj:=λi h st b hb=>by
  obtain⟨hz,IU,⟨a,c,KG⟩,s1,s2⟩:=st
  simp only[bm,dc,ix] at hb
  rcases hb with rfl | rfl | rfl | rfl | rfl
  ·exact⟨_,hz,λv y=>by have y':Data.fields _=Data.cell v:=y;cases y'⟩
  ·exact⟨_,IU,λv y=>by have y':Data.seq _ _=Data.cell v:=y;cases y'⟩
  ·exact⟨_,KG,λv y=>by have y':Data.seq _ _=Data.cell v:=y;cases y'⟩
  ·exact(SK.CC s1)
  ·exact(SK.CC s2)
 keep:=λi h h' st k=>by
  obtain⟨hz,IU,⟨a,c,KG⟩,s1,s2⟩:=st
  exact⟨k z (by simp) _ hz,k TI (by simp) _ IU,⟨a,c,k TO (by simp) _ KG⟩,SK.Dx s1 λo q=>k i1 (by simp) o q,SK.Dx s2 λo q=>k i2 (by simp) o q⟩
 item:=by
  intro X hP hw hK hc i zC s σ H E I hf st hg
  subst hP hw hK
  obtain⟨xs,x,ys,y,Vp,hx,Pf,hy⟩:=hg
  obtain⟨hz,IU,⟨a,b,KG⟩,s1,s2⟩:=st
  obtain⟨HZ,XJ,p1⟩:=I.sk Vp
  obtain⟨CU,XM,p2⟩:=I.sk Pf
  obtain⟨u,hu,ru⟩:=XJ.get hx
  obtain⟨v,hv,rv⟩:=XM.get hy
  have hh:=I.ok.hd hc
  have hT:s.TypeIs (.ref z) "zip" := ⟨_,hz,rfl⟩
  have Wg:i < HZ.toArray.size:=by
   rcases gL i HZ.length with q | q
   ·simpa using q
   ·rw[cE q] at hu;cases hu
  have YT:i < CU.toArray.size:=by
   rcases gL i CU.length with q | q
   ·simpa using q
   ·rw[cE q] at hv;cases hv
  unfold pyNext
  refine ab (jS (cx (name:=Str.ofString "__next__") hT l6 (db l6 hT F.entry_zip_next
   (Gk (Km D) (SK.draws (prog:=X.prog) (w:=X.w) (A:=X.A.in1) k1 hh i1 l1 D.l1i1 HZ.toArray) (SK.draws (prog:=X.prog) (w:=X.w) (A:=X.A.in1) k2 hh i2 l2 D.l2i2 CU.toArray) hz IU KG ⟨s1,p1⟩ ⟨s2,p2⟩ Wg YT λh' tk x' y' ex ey z1 t1 j1 j2 tp hsz hk=>ae ⟨_,rfl,?_⟩) (F.args_zip_next_1 _))))
  have eu:x'=u:=be (by rw[← ex,← hu];simp)
  have ev:y'=v:=be (by rw[← ey,← hv];simp)
  subst eu ev
  refine wpAny_letOwnedTupleGo_zip (s:={ s with heap:=h',toks:=tk }) z1 λh2 z2 sb=>?_
  have lz:z < s.heap.objs.size:=av hz
  have g2:h2.get? s.heap.objs.size=some { cls:=.type "tuple",data:=.seq #[x',y'] }:=(sb.2 _ (df lz)).trans tp
  have kp:∀c o,c∉[z,TO,i1,i2]->s.heap.get? c=some o->h2.get? c=some o:=λc o hb q=>by
   simp only[bm,dc,ix,not_or] at hb
   exact(sb.2 c hb.1).trans (hk c o hb.1 hb.2.1 hb.2.2.1 hb.2.2.2 q)
  have gTO:IsPair h2 TO x' y':=(sb.2 _ D.TOz).trans t1
  have g1:k1.at h2 i1 l1 (i+1):=SK.Dx j1.1 λo e=>(sb.2 i1 D.i1z).trans e
  have g2':k2.at h2 i2 l2 (i+1):=SK.Dx j2.1 λo e=>(sb.2 i2 D.i2z).trans e
  have UH:∀c o,s.heap.get? c=some o->∃o',h2.get? c=some o':=λc o q=>by
   by_cases n1:c=z
   ·subst n1;exact⟨_,z2⟩
   ·by_cases n2:c=TO
    ·subst n2;exact⟨_,gTO⟩
    ·by_cases n3:c=i1
     ·subst n3;obtain⟨o',e',_⟩:=(SK.CC g1);exact⟨o',e'⟩
     ·by_cases n4:c=i2
      ·subst n4;obtain⟨o',e',_⟩:=(SK.CC g2');exact⟨o',e'⟩
      ·exact⟨o,kp c o (by simp[n1,n2,n3,n4]) q⟩
  have I2:Inv X zC σ (upd H s.heap.objs.size (.tup [x,y])) { s with heap:=h2,toks:=tk }:=
   I.Kx (ch:=[z,TO,i1,i2]) kp UH (λb hb=>hf b (by simp only[bm,dc,ix] at hb ⊢;rcases hb with e | e | e | e <;> simp[e])) (aE _)
    ⟨by show 2<=sizeLine;decide,[x',y'],.cons ru (.cons rv .nil),⟨_,g2,rfl,_,rfl,rfl⟩⟩
  refine⟨.ref s.heap.objs.size,_,I2,rfl,⟨s.heap.objs.size,x,y,I.fresh,rfl,rfl,λzs hy=>by rw[I.IX hy Vp];exact hx,λzs YU=>by rw[I.IX YU Pf];exact hy⟩,⟨z2,?_,⟨x',y',gTO⟩,g1,g2'⟩,λb hb=>?_⟩
  ·exact kp TI _ (by simp[D.TIz,D.TITO,D.TIi1,D.TIi2]) IU
  ·have YV:=(hf b hb).1
   rw[ao ?_]
   ·exact YV
   ·have A6:b < s.heap.objs.size:=by
     simp only[bm,dc,ix] at hb
     rcases hb with rfl | rfl | rfl | rfl | rfl
     ·exact lz
     ·exact av IU
     ·exact av KG
     ·obtain⟨o,e1,_⟩:=(SK.CC s1);exact av e1
     ·obtain⟨o,e1,_⟩:=(SK.CC s2);exact av e1
    exact bg A6
 done:=by
  intro X hP hw hK hc i zC s σ H E I hf st hg
  subst hP hw hK
  obtain⟨xs,ys,Vp,Pf,hl⟩:=hg
  obtain⟨hz,IU,⟨a,b,KG⟩,s1,s2⟩:=st
  obtain⟨HZ,XJ,p1⟩:=I.sk Vp
  obtain⟨CU,XM,p2⟩:=I.sk Pf
  have l1':=XJ.length
  have l2':=XM.length
  have hh:=I.ok.hd hc
  have hT:s.TypeIs (.ref z) "zip" := ⟨_,hz,rfl⟩
  have hk:i=HZ.toArray.size\/(i < HZ.toArray.size/\i=CU.toArray.size):=by
   rw[aI,aI]
   omega
  unfold pyNext
  refine ab (jS (cx (name:=Str.ofString "__next__") hT l6 (db l6 hT F.entry_zip_next
   (Im (Km D) (SK.draws (prog:=X.prog) (w:=X.w) (A:=X.A.in1) k1 hh i1 l1 D.l1i1 HZ.toArray) (SK.draws (prog:=X.prog) (w:=X.w) (A:=X.A.in1) k2 hh i2 l2 D.l2i2 CU.toArray) hz IU KG ⟨s1,p1⟩ ⟨s2,p2⟩ hk λh' tk e kp he=>?_) (F.args_zip_next_1 _))))
  obtain⟨o,ho,LJ⟩:=he
  refine ab (i8 (T := "StopIteration") (b:=true) ⟨o,ho,LJ⟩ pj (ae ⟨rfl,?_⟩))
  refine I.Pe (ch:=[z,TO,i1,i2]) (λc o hb q=>?_) (λb hb=>hf b (by simp only[bm,dc,ix] at hb ⊢;rcases hb with e | e | e | e <;> simp[e]))
  simp only[bm,dc,ix,not_or] at hb
  exact kp c o hb.1 hb.2.1 hb.2.2.1 hb.2.2.2 q
 self:=λA i s Q E st h=>wpAny_pyIter_zip st.1 h
section
variable {X:Cx}
def x_ (K:W.Frag)(k1 k2:SK)(ta:TA):TI:=fun σ H R=>ta σ H λvs H1=>∃a b,vs=[.ref a,.ref b]/\(∃xs,k1.sq K H1 a xs)/\(∃ys,k2.sq K H1 b ys)/\R (Wf K k1 k2 a b) H1
theorem BP {k1 k2:SK}{l r:Expr}{ta:TA}{es:qk}{x1:Nat}{tpos p:Pos}(hg:Gl X "zip")(hm:X.mg "zip" = none)(ha:PA X [l,r] ta)(hs:starEach [l,r] X.env=(false,eval l X.env)::starEach [r] X.env:=by rfl)(hp:(backTo pos (starEach [r] X.env)).any (·.1)=false:=by rfl):
  PI X (.Tuple es x1 tpos) (.Call (.Name "zip" p) [l,r] [] pos) (x_ X.K k1 k2 ta):=by
 intro zC s σ H R I h
 refine Call_ (fW I hg hm PyProof.Rows.boot_zip (cK (AM (ha pos zC s σ H _ I h) ?_) hs hp))
 rintro us s1 ⟨vs,H1,I1,r1,q1⟩
 obtain⟨a,b,e,⟨xs,Vp⟩,⟨ys,Pf⟩,q⟩:=q1
 subst e
 obtain⟨u,v,rfl,ru,rv⟩:=vals2 r1
 cases ru
 cases rv
 obtain⟨HZ,XJ,p1⟩:=I1.sk Vp
 obtain⟨CU,XM,p2⟩:=I1.sk Pf
 refine Gm p1 p2 λh' hz IU KG Wg YT hsz hk=>?_
 have I2:Inv X zC σ H1 { s1 with heap:=h' }:=I1.kept (t':=s1.toks) hk
 have D:=zipApart_new (SK.is_lt p1) (SK.is_lt p2)
 have st:ZAt k1 k2 (s1.heap.objs.size+4) (s1.heap.objs.size+2) (s1.heap.objs.size+3) s1.heap.objs.size (s1.heap.objs.size+1) a b 0 h':=⟨hz,IU,⟨_,_,KG⟩,Wg,YT⟩
 refine(wY (P:=X.prog) (w:=X.w) (K:=X.K) (es:=es) (x1:=x1) (tpos:=tpos) D).self X.A 0 { s1 with heap:=h' } _ _ st ?_
 refine⟨s1.heap.objs.size+4,_,_,_,H1,rfl,I2,wY D,st,λc hb=>?_,q⟩
 have Pm:s1.heap.objs.size<=c:=by
  simp only[bm,dc,ix] at hb
  rcases hb with e | e | e | e | e <;> rw[e] <;> omega
 exact I1.GI Pm (I1.AK.fresh Pm)
end
theorem eV {L:List (Addr×HO)}{o:HO}(h:L.lookup a=some o):(a,o)∈L:=by
 induction L with
 | nil=>cases h
 | cons p L ih=>
  rw[b9] at h
  split at h
  ·rename_i e
   cases h
   rw[hJ] at e
   subst e
   exact am
  ·exact af _ (ih h)
section
variable {X:Cx}{tg:Expr}{zC:p9}{σ:St}{H:Hp}{s:Shared}{apos AG pos:Pos}{td ty tx tv:TE}{o e f:Expr}
def Dq (K:W.Frag)(tk tv:TE):TE:=fun σ H Q=>∀p,H p=none->tk σ (upd H p (.dT [])) λy H1=>tv σ H1 λz H2=>H2 p=some (.dT [])/\∃b ks,y=.ref b/\Cc K H2 b ks/\Q (.ref p) (upd H2 p (.dT [(ks,z)]))
theorem BR (hu:X.A.units+9 < cLine)(hk:PE X e ty)(hv:PE X f tv):PE X (.Dict [some e] [f] pos) (Dq X.K ty tv):=by
 intro zC s σ H Q I q
 have hn:=I.AK.fresh (aE s.heap.objs.size)
 have I1:=I.laid (a:=s.heap.objs.size) (o:=.dT []) (h':=s.heap.push { cls:=.type "dict",data:=.dict #[] }) (t':=s.toks) (λ_ _ q=>ac _ q) (aE _) (yQ s.heap I.big)
 refine wpAny_Dict_any rfl rfl (λz=>nomatch z) (show (1:Nat)<=15 by decide) ?_
 refine pairTrees_cons_walk (AM (hk zC _ σ _ _ I1 (q _ hn)) λu s1 ⟨y,H1,I2,ry,q1⟩=>AM (hv zC s1 σ H1 _ I2 q1) λw2 s2 ⟨z,H2,I3,rz,e1,b,ks,e2,dk,q2⟩=>pairTrees_nil_walk ?_)
 subst e2
 cases (show u=Value.ref b from ry)
 obtain⟨_,hd,xs,rel,dd⟩:=yO I3.B8 I3.AK (.inl e1)
 cases rel
 unfold storeAll
 rw[kf]
 refine ab (ab (rY (show X.A.units+3 < cLine from by omega) (jf I3.B8 I3.AK dk) dd (cq _) λh' OU hs=>ae ?_))
 show wpAny _ _ (forIn [] _ _) _ _ _
 rw[kM]
 refine ae ?_
 obtain⟨o,es,hq,h2,h3,h4,_,h5⟩:=OU
 have new:AF X.prog X.w X.K (upd H2 s.heap.objs.size (.dT [(ks,z)])) h' s.heap.objs.size (.dT [(ks,z)]):=⟨by show (1:Nat)<=sizeLine;decide,hd,_,((KT.put (H:=H2) (kvs:=[]) .nil ks dk rz)).keeps λc ys ec=>by rw[ao (bN ec e1 (λz=>nomatch z))];exact ec,o,es,_,hq,h2,h3,h4,h5,rfl⟩
 exact⟨.ref s.heap.objs.size,_,mX (t':=s2.toks+(cY X.prog X.w).draws ks) I3 (by rw[e1];exact fk) hs ⟨o,hq⟩ new,rfl,q2⟩
end
variable {Q:Option Value->Shared->Prop}
section
variable {prog:Program}{w:World}{κ:Type}[DecidableEq κ]{kd:HeapKind prog w κ}{A:Around}{E:oT}{s:Shared}{d a it vw:Addr}{xs:List (κ×Addr×Value)}{k:κ}{v ok ov:Value}
theorem zb (kd:HeapKind prog w κ)(d:Addr)(hd:(d == sysModules)=false):
  MeetsIn prog w (Builtin.«dict.items» ⟨[.ref d],[]⟩) (λ_ R s=>(∃xs,AQ kd s.heap d xs) /\
   R (.ok (.ret (.ref s.heap.objs.size))) { s with heap:=s.heap.push { cls:=.type "dict_items",data:=.fields #[.ref d] } }):=
 .of_wp<|by
  rintro A R s ⟨⟨xs,m⟩,h⟩
  unfold Builtin.«dict.items»
  refine ab ?_
  unfold Builtin.Dict.noArgs
  refine ab (kX m.of.typeIs ?_)
  show wpAny _ _ (pure d) _ _ s
  refine ae ?_
  show wpAny _ _ (Builtin.Dict.showsAll d >>= _) _ _ s
  unfold Builtin.Dict.showsAll
  rw[ax (by rw[hd];decide)]
  exact ab (ae (ab (cS (ae ⟨_,rfl,h⟩))))
theorem Pq {Q:oT}(hv:s.heap.IsItemsView vw d)(m:AQ kd s.heap d xs)
  (q:∀h',h'=s.heap.push { cls:=.type "dict_itemiterator",data:=.fields #[.none,.bool false,.ref d,.int 0 0,.int xs.length 0,.int xs.length 0,.none,.none] }->Q (.ref s.heap.objs.size) { s with heap:=h' }):wpAny (model prog w) A (pyIter (.ref vw)) Q E s:=by
 obtain⟨u,u1,u2,u3⟩:=id hv
 obtain⟨o,es,o1,o2,o3,o4,o5,o6⟩:=id m
 have sz:=iN o4
 refine wpAny_pyIter_slot hv.typeIs F.slot_dict_items_iter (db F.slot_dict_items_iter hv.typeIs F.entry_dict_items_iter ?_ (F.args_dict_items_iter_1 _))
 unfold Builtin.«dict_items.__iter__»
 refine ab (ae (ab ?_))
 unfold Builtin.Dict_items.dictOf
 refine ab (dL u1 u3 (x:=.ref d) rfl (ae (ab ?_)))
 unfold Builtin.Dict_items.newIterator
 refine ab (iS o1 o3 (ab (kl o1 o3 ?_)))
 have own:Builtin.Dict_items.ownsTuple "dict_itemiterator" = true:=by decide
 simp only[own,fw]
 refine cS (ae ⟨_,rfl, "dict_itemiterator",_,⟨_,ar _ rfl,rfl⟩,cw.lookup,?_⟩)
  (by simp only[sizeOk,Builtin.Dict_items.ownedTupleFields,aI,bp,bv,l0,iF];omega)
 simpa [rawInt,sz,Builtin.Dict_items.ownedTupleFields] using q _ rfl
theorem Pr {b:Addr}(hi:IsItemIter s.heap it d i xs.length xs.length ok ov)(m:AQ kd s.heap d xs)(hx:xs[i]?=some (k,b,v))
  (q:∀h',IsItemIterOut h' it d (i+1) xs.length xs.length (.ref b) v s.heap.objs.size->h'.get? s.heap.objs.size=some { cls:=.type "tuple",data:=.seq #[.ref b,v] }->h'.objs.size=s.heap.objs.size+1->
   (∀c o,c≠it->s.heap.get? c=some o->h'.get? c=some o)->Q (some (.ref s.heap.objs.size)) { s with heap:=h' }):wpAny (model prog w) A (pyNext (.ref it)) Q E s:=by
 obtain⟨hp,g,dr,tk,os⟩:=s
 obtain⟨o,es,o1,o2,o3,o4,o5,o6⟩:=id m
 have ty:Shared.TypeIs ⟨hp,g,dr,tk,os⟩ (.ref it) "dict_itemiterator" := ⟨_,hi,rfl⟩
 have sz:=iN o4
 unfold pyNext
 refine ab (jS (cx (name:=Str.ofString "__next__") ty cw (db cw ty gd ?_ (fR _))))
 refine ab (ae (ab (ab ?_)))
 first | refine ab (c9 ty (ae ?_)) | refine ab (dS ty (ae ?_))
 refine ab (mI hi rfl ?_)
 have own:Builtin.Dict_items.ownsTuple "dict_itemiterator" = true:=by decide
 simp only[own,fw]
 show wpAny _ _ (if (Value.ref d == Value.none)=true then _ else _) _ _ _
 rw[ax (by intro z;cases z)]
 refine ab (ae (ab (iS o1 o3 ?_)))
 rw[ax (by rw[sz];simp)]
 refine ab (ae (ab (kl o1 o3 ?_)))
 rw[ax (by simp)]
 refine ae ?_
 have lt:i < es.size:=by rw[sz];exact(ag.mp hx).1
 have ee:es[i]=entryOfKey kd (k,b,v):=by
  have z:=entry_at o4 i
  rw[hx,e8 lt] at z
  exact be z
 have ek:es[i].key=.ref b:=by rw[ee];rfl
 have ev:es[i].val=v:=by rw[ee];rfl
 simp only[show ¬ ((i:Int) < 0) by omega,fm,gp,e8 lt]
 refine ab ?_
 first | refine ab (c9 ty (ae ?_)) | refine ab (dS ty (ae ?_))
 refine ab (fE ty ?_)
 show wpAny _ _ (setField (.ref it) 3 (rawInt ((i:Int)+1)) >>= _) _ _ ⟨hp,g,dr,tk,os⟩
 refine ab (de hi (by simp) λh1 e1 s1=>?_)
 have s1:Heap.SameBut it hp h1:=s1
 have e1:IsItemIter h1 it d (i+1) xs.length xs.length ok ov:=by
  have e:((i+1:Nat):Int)=(i:Int)+1:=by omega
  unfold IsItemIter;rw[e];simpa [rawInt] using e1
 have t1:Shared.TypeIs ⟨h1,g,dr,tk,os⟩ (.ref it) "dict_itemiterator" := ⟨_,e1,rfl⟩
 refine ab (ef (ab (fE t1 (ab (fE t1 ?_)))))
 show wpAny _ _ (Builtin.Dict_items.pairFromOwner (.ref it) 6 es[i].key es[i].val) _ _ ⟨h1,g,dr,tk,os⟩
 rw[ek,ev]
 unfold Builtin.Dict_items.pairFromOwner
 refine ab (mE ?_)
 have z1:h1.objs.size=hp.objs.size:=s1.1
 have il:it < hp.objs.size:=av hi
 have e2:IsItemIter (h1.push { cls:=.type "tuple",data:=.seq #[.ref b,v] }) it d (i+1) xs.length xs.length ok ov:=ac _ e1
 have t2:(h1.push { cls:=.type "tuple",data:=.seq #[.ref b,v] }).get? hp.objs.size=some { cls:=.type "tuple",data:=.seq #[.ref b,v] }:=by rw[← z1];exact ar _ rfl
 have z2:(h1.push { cls:=.type "tuple",data:=.seq #[.ref b,v] }).objs.size=hp.objs.size+1:=by rw[cy,z1]
 have k2:∀c o,c≠it->hp.get? c=some o->(h1.push { cls:=.type "tuple",data:=.seq #[.ref b,v] }).get? c=some o:=λc o hc e=>ac _ (s1.extBut c o hc e)
 generalize h1.push { cls:=.type "tuple",data:=.seq #[.ref b,v] }=h2 at e2 t2 z2 k2 ⊢
 show wpAny _ _ (Builtin.Dict_items.ownedTupleIsFree (.ref it) >>= _) _ _ ⟨h2,g,dr,tk,os⟩
 rw[z1]
 refine ab ?_
 unfold Builtin.Dict_items.ownedTupleIsFree
 refine ab (dL e2 rfl (x:=.none) rfl (ae ?_))
 simp only[fw]
 refine ab (dL e2 rfl (x:=ok) rfl (ab (dL e2 rfl (x:=ov) rfl ?_)))
 refine ab (de e2 (by simp) λh3 e3 s3=>?_)
 have s3:Heap.SameBut it h2 h3:=s3
 have e3:IsItemIter h3 it d (i+1) xs.length xs.length (.ref b) ov:=e3
 refine ab (de e3 (by simp) λh4 e4 s4=>?_)
 have s4:Heap.SameBut it h3 h4:=s4
 have e4:IsItemIter h4 it d (i+1) xs.length xs.length (.ref b) v:=e4
 refine ab (de e4 (by simp) λh5 e5 s5=>?_)
 have s5:Heap.SameBut it h4 h5:=s5
 have e5:IsItemIterOut h5 it d (i+1) xs.length xs.length (.ref b) v hp.objs.size:=e5
 refine ab (de e5 (by simp) λh6 e6 s6=>?_)
 have s6:Heap.SameBut it h5 h6:=s6
 have e6:IsItemIterOut h6 it d (i+1) xs.length xs.length (.ref b) v hp.objs.size:=e6
 have kk:∀c o,c≠it->h2.get? c=some o->h6.get? c=some o:=λc o hc e=>s6.extBut c o hc (s5.extBut c o hc (s4.extBut c o hc (s3.extBut c o hc e)))
 refine ab (ny (ae (ae ⟨_,rfl,ae (q h6 e6 (kk _ _ (df il) t2) ?_ λc o hc e=>kk c o hc (k2 c o hc e))⟩)))
 show h6.objs.size=hp.objs.size+1
 rw[s6.1,s5.1,s4.1,s3.1,z2]
theorem RG (hh:A.handled=none)(hi:IsItemIter s.heap it d i xs.length xs.length ok ov)(m:AQ kd s.heap d xs)(hx:xs.length<=i)
  (q:∀h',Heap.ExtBut it s.heap h'->Q none { s with heap:=h' }):wpAny (model prog w) A (pyNext (.ref it)) Q E s:=by
 obtain⟨o,es,o1,o2,o3,o4,o5,o6⟩:=id m
 have ty:s.TypeIs (.ref it) "dict_itemiterator" := ⟨_,hi,rfl⟩
 have sz:=iN o4
 unfold pyNext
 refine ab (jS (cx (name:=Str.ofString "__next__") ty cw (db cw ty gd ?_ (fR _))))
 refine ab (ae (ab (ab ?_)))
 first | refine ab (c9 ty (ae ?_)) | refine ab (dS ty (ae ?_))
 refine ab (mI hi rfl ?_)
 have own:Builtin.Dict_items.ownsTuple "dict_itemiterator" = true:=by decide
 simp only[own,fw]
 show wpAny _ _ (if (Value.ref d == Value.none)=true then _ else _) (λ_ _=>_) _ s
 rw[ax (by intro z;cases z)]
 refine ab (ae (ab (iS o1 o3 ?_)))
 rw[ax (by rw[sz];simp)]
 refine ab (ae (ab (kl o1 o3 ?_)))
 rw[ax (by simp)]
 refine ae ?_
 simp only[show ¬ ((i:Int) < 0) by omega,fm,gp,kL (show es.size<=i by omega)]
 refine ab ?_
 first | refine ab (c9 ty (ae ?_)) | refine ab (dS ty (ae ?_))
 show wpAny _ _ (setField (.ref it) 2 .none >>= λ_=>_) _ _ s
 refine ab (mB hi rfl (by simp) ?_)
 show wpAny _ _ (newExc (.type "StopIteration") [] >>= λ_=>_) _ _ _
 refine ab ?_
 simp only[newExc,newTuple]
 refine ab (cS (ab (m:=firstArgMember _ _) (wpAny_of_eq (a:=Value.none) (by first | rfl | (simp only[firstArgMember];rfl)) (cS ?_ (by size_fits)))) (by size_fits))
 simp only[raiseNew]
 refine ab (p0 ?_)
 rw[show A.in1.handled=none by exact hh]
 refine ab (ae (wpAny_throw ?_))
 refine ab (i8 (b:=true) (T := "StopIteration") ⟨_,ar _ rfl,rfl⟩ pj ?_)
 exact ae (q _ (((eJ ..).extBut.push _).push _))
end
open PySem.W (KdxIt kdx_alive kdx_hint)
section
variable {prog:Program}{w:World}{κ:Type}[DecidableEq κ]{kd:HeapKind prog w κ}{A:Around}{E:oT}{s:Shared}{d a it vw S:Addr}{xs:List (κ×Addr×Value)}{k:κ}{v ok ov:Value}{fl:Bool}
theorem Pu {b:Addr}{oa:Obj}(hi:KdxIt s.heap it d i xs.length xs.length ok ov a fl)(ha:s.heap.get? a=some oa)(ne:a≠it)(m:AQ kd s.heap d xs)(hx:xs[i]?=some (k,b,v))
  (q:∀h',KdxIt h' it d (i+1) xs.length xs.length ok ov a true->h'.get? s.heap.objs.size=some { cls:=.type "tuple",data:=.seq #[.ref b,v] }->h'.objs.size=s.heap.objs.size+1->
   (∀c o,c≠it->s.heap.get? c=some o->h'.get? c=some o)->Q (some (.ref s.heap.objs.size)) { s with heap:=h' }):wpAny (model prog w) A (pyNext (.ref it)) Q E s:=by
 obtain⟨hp,g,dr,tk,os⟩:=s
 obtain⟨o,es,o1,o2,o3,o4,o5,o6⟩:=id m
 have ty:Shared.TypeIs ⟨hp,g,dr,tk,os⟩ (.ref it) "dict_itemiterator" := ⟨_,hi,rfl⟩
 have sz:=iN o4
 unfold pyNext
 refine ab (jS (cx (name:=Str.ofString "__next__") ty cw (db cw ty gd ?_ (fR _))))
 refine ab (ae (ab (ab ?_)))
 first | refine ab (c9 ty (ae ?_)) | refine ab (dS ty (ae ?_))
 refine ab (mI hi rfl ?_)
 have own:Builtin.Dict_items.ownsTuple "dict_itemiterator" = true:=by decide
 simp only[own,fw]
 show wpAny _ _ (if (Value.ref d == Value.none)=true then _ else _) _ _ _
 rw[ax (by intro z;cases z)]
 refine ab (ae (ab (iS o1 o3 ?_)))
 rw[ax (by rw[sz];simp)]
 refine ab (ae (ab (kl o1 o3 ?_)))
 rw[ax (by simp)]
 refine ae ?_
 have lt:i < es.size:=by rw[sz];exact(ag.mp hx).1
 have ee:es[i]=entryOfKey kd (k,b,v):=by
  have z:=entry_at o4 i
  rw[hx,e8 lt] at z
  exact be z
 have ek:es[i].key=.ref b:=by rw[ee];rfl
 have ev:es[i].val=v:=by rw[ee];rfl
 simp only[show ¬ ((i:Int) < 0) by omega,fm,gp,e8 lt]
 refine ab ?_
 first | refine ab (c9 ty (ae ?_)) | refine ab (dS ty (ae ?_))
 refine ab (fE ty ?_)
 show wpAny _ _ (setField (.ref it) 3 (rawInt ((i:Int)+1)) >>= _) _ _ ⟨hp,g,dr,tk,os⟩
 refine ab (de hi (by simp) λh1 e1 s1=>?_)
 have s1:Heap.SameBut it hp h1:=s1
 have e1:KdxIt h1 it d (i+1) xs.length xs.length ok ov a fl:=by
  have e:((i+1:Nat):Int)=(i:Int)+1:=by omega
  unfold KdxIt;rw[e];simpa [rawInt] using e1
 have t1:Shared.TypeIs ⟨h1,g,dr,tk,os⟩ (.ref it) "dict_itemiterator" := ⟨_,e1,rfl⟩
 refine ab (ef (ab (fE t1 (ab (fE t1 ?_)))))
 show wpAny _ _ (Builtin.Dict_items.pairFromOwner (.ref it) 6 es[i].key es[i].val) _ _ ⟨h1,g,dr,tk,os⟩
 rw[ek,ev]
 unfold Builtin.Dict_items.pairFromOwner
 refine ab (mE ?_)
 have z1:h1.objs.size=hp.objs.size:=s1.1
 have il:it < hp.objs.size:=av hi
 have e2:KdxIt (h1.push { cls:=.type "tuple",data:=.seq #[.ref b,v] }) it d (i+1) xs.length xs.length ok ov a fl:=ac _ e1
 have t2:(h1.push { cls:=.type "tuple",data:=.seq #[.ref b,v] }).get? hp.objs.size=some { cls:=.type "tuple",data:=.seq #[.ref b,v] }:=by rw[← z1];exact ar _ rfl
 have z2:(h1.push { cls:=.type "tuple",data:=.seq #[.ref b,v] }).objs.size=hp.objs.size+1:=by rw[cy,z1]
 have k2:∀c o,c≠it->hp.get? c=some o->(h1.push { cls:=.type "tuple",data:=.seq #[.ref b,v] }).get? c=some o:=λc o hc e=>ac _ (s1.extBut c o hc e)
 generalize h1.push { cls:=.type "tuple",data:=.seq #[.ref b,v] }=h2 at e2 t2 z2 k2 ⊢
 show wpAny _ _ (Builtin.Dict_items.ownedTupleIsFree (.ref it) >>= _) _ _ ⟨h2,g,dr,tk,os⟩
 rw[z1]
 have a2:h2.get? a=some oa:=k2 a oa ne ha
 refine ab ?_
 unfold Builtin.Dict_items.ownedTupleIsFree
 refine ab (dL e2 rfl (x:=rawInt a) rfl ?_)
 show wpAny _ _ (loadIfAlive ((a:Int).toNat) >>= _) _ _ _
 rw[gp]
 refine ab (kdx_alive a2 ?_)
 simp only[Option.isNone_some,eg,fm]
 refine ab (dL e2 rfl (x:=.bool fl) rfl ?_)
 have fin:∀h3:Heap,KdxIt h3 it d (i+1) xs.length xs.length ok ov a true->Heap.SameBut it h2 h3->Q (some (.ref hp.objs.size)) ⟨h3,g,dr,tk,os⟩:=λh3 e3 s3=>
  q h3 e3 (s3.extBut _ _ (df il) t2) (by show h3.objs.size=hp.objs.size+1;rw[s3.1,z2]) λc o hc e=>s3.extBut c o hc (k2 c o hc e)
 cases fl with
 | true=>
  rw[ax (show ¬ ((Value.bool true != Value.bool true)=true) from bd)]
  refine ae ?_
  simp only[eg,fm]
  exact ae (ae ⟨_,rfl,ae (fin h2 e2 (Heap.SameBut.refl _ _))⟩)
 | false=>
  rw[a0 (show (Value.bool false != Value.bool true)=true from rfl)]
  refine ab (de e2 (by simp) λh3 e3 s3=>?_)
  have s3:Heap.SameBut it h2 h3:=s3
  have e3:KdxIt h3 it d (i+1) xs.length xs.length ok ov a true:=e3
  refine ae ?_
  simp only[eg,fm]
  exact ae (ae ⟨_,rfl,ae (fin h3 e3 s3)⟩)
theorem RJ (hh:A.handled=none)(hi:KdxIt s.heap it d i xs.length xs.length ok ov a fl)(m:AQ kd s.heap d xs)(hx:xs.length<=i)
  (q:∀h',Heap.ExtBut it s.heap h'->Q none { s with heap:=h' }):wpAny (model prog w) A (pyNext (.ref it)) Q E s:=by
 obtain⟨o,es,o1,o2,o3,o4,o5,o6⟩:=id m
 have ty:s.TypeIs (.ref it) "dict_itemiterator" := ⟨_,hi,rfl⟩
 have sz:=iN o4
 unfold pyNext
 refine ab (jS (cx (name:=Str.ofString "__next__") ty cw (db cw ty gd ?_ (fR _))))
 refine ab (ae (ab (ab ?_)))
 first | refine ab (c9 ty (ae ?_)) | refine ab (dS ty (ae ?_))
 refine ab (mI hi rfl ?_)
 have own:Builtin.Dict_items.ownsTuple "dict_itemiterator" = true:=by decide
 simp only[own,fw]
 show wpAny _ _ (if (Value.ref d == Value.none)=true then _ else _) (λ_ _=>_) _ s
 rw[ax (by intro z;cases z)]
 refine ab (ae (ab (iS o1 o3 ?_)))
 rw[ax (by rw[sz];simp)]
 refine ab (ae (ab (kl o1 o3 ?_)))
 rw[ax (by simp)]
 refine ae ?_
 simp only[show ¬ ((i:Int) < 0) by omega,fm,gp,kL (show es.size<=i by omega)]
 refine ab ?_
 first | refine ab (c9 ty (ae ?_)) | refine ab (dS ty (ae ?_))
 show wpAny _ _ (setField (.ref it) 2 .none >>= λ_=>_) _ _ s
 refine ab (mB hi rfl (by simp) ?_)
 show wpAny _ _ (newExc (.type "StopIteration") [] >>= λ_=>_) _ _ _
 refine ab ?_
 simp only[newExc,newTuple]
 refine ab (cS (ab (m:=firstArgMember _ _) (wpAny_of_eq (a:=Value.none) (by first | rfl | (simp only[firstArgMember];rfl)) (cS ?_ (by size_fits)))) (by size_fits))
 simp only[raiseNew]
 refine ab (p0 ?_)
 rw[show A.in1.handled=none by exact hh]
 refine ab (ae (wpAny_throw ?_))
 refine ab (i8 (b:=true) (T := "StopIteration") ⟨_,ar _ rfl,rfl⟩ pj ?_)
 exact ae (q _ (((eJ ..).extBut.push _).push _))
def UI (h:Heap)(it d S:Addr)(i n:Nat):Prop:=(i=0/\∃ok ov,IsItemIter h it d 0 n n ok ov)\/∃ok ov a fl oa,KdxIt h it d i n n ok ov a fl/\h.get? a=some oa/\a≠it/\a≠S
theorem UI.keep {h h':Heap}{n:Nat}(x:UI h it d S i n)(hk:∀b o,b≠S->h.get? b=some o->h'.get? b=some o)(hI:it≠S):UI h' it d S i n:=by
 rcases x with ⟨e,ok,ov,q⟩ | ⟨ok,ov,a,fl,oa,q,ha,n1,n2⟩
 ·exact .inl ⟨e,ok,ov,hk _ _ hI q⟩
 ·exact .inr ⟨ok,ov,a,fl,oa,hk _ _ hI q,hk _ _ n2 ha,n1,n2⟩
theorem RK {b:Addr}(st:UI s.heap it d S i xs.length)(hS:S < s.heap.objs.size)(m:AQ kd s.heap d xs)(hx:xs[i]?=some (k,b,v))
  (q:∀h',UI h' it d S (i+1) xs.length->h'.get? s.heap.objs.size=some { cls:=.type "tuple",data:=.seq #[.ref b,v] }->h'.objs.size=s.heap.objs.size+1->
   (∀c o,c≠it->s.heap.get? c=some o->h'.get? c=some o)->Q (some (.ref s.heap.objs.size)) { s with heap:=h' }):wpAny (model prog w) A (pyNext (.ref it)) Q E s:=by
 rcases st with ⟨rfl,ok,ov,hi⟩ | ⟨ok,ov,a,fl,oa,hi,ha,n1,n2⟩
 ·exact Pr hi m hx λh' e1 e2 e3 e4=>q h' (.inr ⟨_,_,_,false,_,e1,e2,df (av hi),df hS⟩) e2 e3 e4
 ·exact Pu hi ha n1 m hx λh' e1 e2 e3 e4=>q h' (.inr ⟨ok,ov,a,true,oa,e1,e4 a oa n1 ha,n1,n2⟩) e2 e3 e4
theorem RL (hh:A.handled=none)(st:UI s.heap it d S i xs.length)(m:AQ kd s.heap d xs)(hx:xs.length<=i)
  (q:∀h',Heap.ExtBut it s.heap h'->Q none { s with heap:=h' }):wpAny (model prog w) A (pyNext (.ref it)) Q E s:=by
 rcases st with ⟨rfl,ok,ov,hi⟩ | ⟨ok,ov,a,fl,oa,hi,ha,n1,n2⟩
 ·exact RG hh hi m hx q
 ·exact RJ hh hi m hx q
def Vq (h:Heap)(lo:Addr)(xs:List (κ×Addr×Value))(as:qr):Prop:=∀(j:Nat) (c:Addr),as[j]?=some c->lo < c/\∃k b v,xs[j]?=some (k,b,v)/\h.get? c=some { cls:=.type "tuple",data:=.seq #[.ref b,v] }
theorem sI {h h':Heap}(m:AQ kd h d xs)(kp:∀(x:κ) (b:Addr),kd.is h x b->kd.is h' x b)(hd:∀o,h.get? d=some o->h'.get? d=some o):AQ kd h' d xs:=by
 obtain⟨o,es,o1,o2,o3,o4,o5,o6⟩:=m
 exact⟨o,es,hd o o1,o2,o3,o4,λx hx=>kp _ _ (o5 x hx),o6⟩
theorem RM {I:Addr}(hh:A.handled=none)(Wh:S < I)(XN:d≠S)(hId:d≠I)(hn:xs.length<=sizeLine)(res:Value){h₁:Heap}
  (kp:∀h h':Heap,(∀b o,h.get? b=some o->o.cls=.type "tuple" -> h'.get? b=some o)->∀(x:κ) (b:Addr),kd.is h x b->kd.is h' x b)
  (hR:∀h' tk acc c as,(∀b o,b≠S->b≠I->h₁.get? b=some o->h'.get? b=some o)->h'.get? S=some { cls:=.type "list",dict:=none,data:=.seq acc c,slots:=#[] }->as.length=xs.length->Vq h' I xs as->
   acc.toList=as.map Value.ref->R (.ok (.ret res)) { s with heap:=h',toks:=tk }):
  ∀(j i:Nat) (h:Heap) (tk c:Nat) (acc:qv) (as:qr),xs.length - i=j->i<=xs.length->UI h I d S i xs.length->AQ kd h d xs->(∀b o,b≠S->b≠I->h₁.get? b=some o->h.get? b=some o)->
   h.get? S=some { cls:=.type "list",dict:=none,data:=.seq acc c,slots:=#[] }->acc.toList=as.map Value.ref->as.length=i->Vq h I xs as->I < h.objs.size->
   codeAny (model prog w) A (.builtin "list.extend.loop" ⟨[.ref S,.ref I,res],[]⟩) R { s with heap:=h,toks:=tk }:=by
 have AU:S≠I:=bg Wh
 intro j
 induction j with
 | zero=>
  intro i h tk c acc as hk hi CL hD keep hS E5 IZ hG YW
  refine iP mN ?_
  rw[i6 f7 _]
  show wpAny _ A.in1 (pyNext (.ref I) >>= _) _ _ _
  refine ab (RL (s:={ s with heap:=h,toks:=tk }) (A:=A.in1) hh CL hD (by omega) λh' he=>?_)
  refine ae (hR h' tk acc c as (λb o n1 n2 e=>he b o n2 (keep b o n1 n2 e)) (he S _ AU hS) (by omega) (λj c hj=>?_) E5)
  obtain⟨e0,k,b,v,e1,e2⟩:=hG j c hj
  exact⟨e0,k,b,v,e1,he c _ (df e0) e2⟩
 | succ j ih=>
  intro i h tk c acc as hk hi CL hD keep hS E5 IZ hG YW
  have A6:i < xs.length:=by omega
  obtain⟨⟨kk,b,x⟩,hx⟩:∃p,xs[i]?=some p:=⟨xs[i],ai A6⟩
  have hsz:acc.size=i:=by rw[← gy,E5,ba,IZ]
  refine iP mN ?_
  rw[i6 f7 _]
  show wpAny _ A.in1 (pyNext (.ref I) >>= _) _ _ _
  refine ab (RK (s:={ s with heap:=h,toks:=tk }) (S:=S) CL (av hS) hD hx λh' BA ht hz Vr=>?_)
  dsimp only at ht hz Vr ⊢
  have LP:=Vr S _ AU hS
  have up:∀b o,b≠S->h'.get? b=some o->(h'.update S (Obj.mapSeq (·.push (Value.ref h.objs.size)))).get? b=some o:=λb o hb e=>(eS _ _ (fT hb)).trans e
  have hSl:S < h.objs.size:=av hS
  have tS:∀b o,h.get? b=some o->o.cls=.type "tuple" -> b≠S:=λb o e q z=>by rw[z,hS] at e;cases e;exact absurd (i7 q) (by decide)
  have tI:∀b o,h.get? b=some o->o.cls=.type "tuple" -> b≠I:=λb o e q z=>by
   rcases CL with ⟨_,ok,ov,y⟩ | ⟨ok,ov,a,fl,oa,y,_⟩ <;> (rw[z,y] at e;cases e;exact absurd (i7 q) (by decide))
  show wpAny _ A.in1 (updateSeq S (·.push (Value.ref h.objs.size)) >>= _) _ _ _
  refine ab ?_
  refine l4 LP rfl (ae ⟨lh f7 _,ih (i+1) _ tk _ (acc.push (Value.ref h.objs.size)) (as++[h.objs.size]) (by omega) A6 (BA.keep up (fT AU))
   (sI hD (kp _ _ λb o e q=>up b o (tS b o e q) (Vr b o (tI b o e q) e)) λo e=>up d o XN (Vr d o hId e))
   (λb o n1 n2 e=>up b o n1 (Vr b o n2 (keep b o n1 n2 e))) (eK _ LP rfl) (by rw[Array.toList_push,E5,cf];rfl) (by rw[bp,IZ];rfl) ?_ ?_⟩) (by rw[hsz];omega) (by rw[Array.size_push,hsz];omega)
  ·intro j c hj
   rcases Nat.lt_trichotomy j as.length with h1 | h1 | h1
   ·rw[dQ h1] at hj
    obtain⟨e0,k',b',v',e1,e2⟩:=hG j c hj
    exact⟨e0,k',b',v',e1,up c _ (df (mh Wh e0)) (Vr c _ (df e0) e2)⟩
   ·subst h1
    have hb:h.objs.size=c:=by simpa using hj
    subst hb
    exact⟨YW,kk,b,x,by rw[IZ];exact hx,up _ _ (df hSl) ht⟩
   ·rw[cE (by rw[bp,fe];omega)] at hj;cases hj
  ·have e:(h'.update S (Obj.mapSeq (·.push (Value.ref h.objs.size)))).get? h.objs.size=_:=up _ _ (df hSl) ht
   exact mh YW (av e)
end
end Lake.L2
namespace Lake.MR
open PySem L2
inductive PV where
 | Au | bl (b:Bool) | int (i:Int) | str (x:Str)
 | lst (xs:List PV) | frz (xs:List PV) | tup (xs:List PV) | ktp (xs:List PV)
 | dK (kvs:List (Key×PV)) | dT (kvs:List (List zD×PV))
 | obj (c:Nat) (fs:List (Str×PV))
structure MC where
 K:W.Frag
 cl:Nat->Addr
mutual
inductive Rep (C:MC) (A:Addr->Prop) (H:Hp):V->PV->Prop
 | Au:Rep C A H .Au .Au
 | bl (b:Bool):Rep C A H (.bl b) (.bl b)
 | int (i:Int):Rep C A H (.int i) (.int i)
 | str (x:Str):Rep C A H (.str x) (.str x)
 | lst {a:Addr}{vs:List V}{xs:List PV}:H a=some (.lst vs)->A a->zI C A H vs xs->Rep C A H (.ref a) (.lst xs)
 | Lu {a:Addr}{o:Obj}{vs:List V}{xs:List PV}:H a=some (.frz o (.lst vs))->zI C A H vs xs->Rep C A H (.ref a) (.frz xs)
 | lstK {a:Addr}{vs:List V}{xs:List PV}:A0 C.K (λ_=>none) a vs->zI C A H vs xs->Rep C A H (.ref a) (.frz xs)
 | tup {a:Addr}{vs:List V}{xs:List PV}:H a=some (.tup vs)->zI C A H vs xs->Rep C A H (.ref a) (.tup xs)
 | Cf {a:Addr}{vs:List V}{xs:List PV}:EV C.K a vs->zI C A H vs xs->Rep C A H (.ref a) (.tup xs)
 | tupK {a:Addr}{vs:List V}{xs:List PV}:B6 C.K (λ_=>none) a vs->zI C A H vs xs->Rep C A H (.ref a) (.ktp xs)
 | dK {a:Addr}{kv:List (Key×V)}{kvs:List (Key×PV)}:H a=some (.dK kv)->A a->AJ C A H kv kvs->Rep C A H (.ref a) (.dK kvs)
 | dT {a:Addr}{kv:List (List zD×V)}{kvs:List (List zD×PV)}:H a=some (.dT kv)->A a->AN C A H kv kvs->Rep C A H (.ref a) (.dT kvs)
 | obj {a dx:Addr}{c:Nat}{f:List (Str×V)}{fs:List (Str×PV)}:H a=some (.ins (C.cl c) dx f)->A a->BU C A H f fs->Rep C A H (.ref a) (.obj c fs)
inductive zI (C:MC) (A:Addr->Prop) (H:Hp):List V->List PV->Prop
 | nil:zI C A H [] []
 | cons {v:V}{p:PV}{vs:List V}{ps:List PV}:Rep C A H v p->zI C A H vs ps->zI C A H (v::vs) (p::ps)
inductive AJ (C:MC) (A:Addr->Prop) (H:Hp):List (Key×V)->List (Key×PV)->Prop
 | nil:AJ C A H [] []
 | cons {k:Key}{v:V}{p:PV}{vs:List (Key×V)}{ps:List (Key×PV)}:Rep C A H v p->AJ C A H vs ps->AJ C A H ((k,v)::vs) ((k,p)::ps)
inductive AN (C:MC) (A:Addr->Prop) (H:Hp):List (List zD×V)->List (List zD×PV)->Prop
 | nil:AN C A H [] []
 | cons {k:List zD}{v:V}{p:PV}{vs:List (List zD×V)}{ps:List (List zD×PV)}:Rep C A H v p->AN C A H vs ps->AN C A H ((k,v)::vs) ((k,p)::ps)
inductive BU (C:MC) (A:Addr->Prop) (H:Hp):List (Str×V)->List (Str×PV)->Prop
 | nil:BU C A H [] []
 | cons {k:Str}{v:V}{p:PV}{vs:List (Str×V)}{ps:List (Str×PV)}:Rep C A H v p->BU C A H vs ps->BU C A H ((k,v)::vs) ((k,p)::ps)
end
def gW:HO->Bool
 | .lst _=>true
 | .dK _=>true
 | .dT _=>true
 | .ins _ _ _=>true
 | _=>false
def Ex (A:Addr->Prop)(H:Hp)(A':Addr->Prop)(H':Hp):Prop:=∀a o,H a=some o->(A a->H' a=some o/\A' a)/\(gW o=false->H' a=some o)
theorem Ex.refl (A:Addr->Prop)(H:Hp):Ex A H A H:=λa o h=>⟨λq=>⟨h,q⟩,λ_=>h⟩
variable {A:Addr->Prop}{H:Hp}
theorem Ex.trans {B C:Addr->Prop}{I J:Hp}(e:Ex A H B I)(f:Ex B I C J):Ex A H C J:=λa o h=>⟨λq=>by
 obtain⟨h1,q1⟩:=(e a o h).1 q
 exact(f a o h1).1 q1,λm=>(f a o ((e a o h).2 m)).2 m⟩
variable {H':Hp}
theorem Ex.of_same (s:zS H H'):Ex A H A H':=λa o h=>⟨λq=>⟨s a o h,q⟩,λ_=>s a o h⟩
variable {C:MC}{M4:List (List zD×V)->List (List zD×PV)->Prop}
theorem Rep.nd {M1:V->PV->Prop}{M2:List V->List PV->Prop}{M3:List (Key×V)->List (Key×PV)->Prop}{M5:List (Str×V)->List (Str×PV)->Prop}(a1:M1 .Au .Au)(a2:∀b,M1 (.bl b) (.bl b))(a3:∀i,M1 (.int i) (.int i))(a4:∀x,M1 (.str x) (.str x))
  (a5:∀{a vs xs},H a=some (.lst vs)->A a->zI C A H vs xs->M2 vs xs->M1 (.ref a) (.lst xs))(a6:∀{a o vs xs},H a=some (.frz o (.lst vs))->zI C A H vs xs->M2 vs xs->M1 (.ref a) (.frz xs))(a7:∀{a vs xs},A0 C.K (λ_=>none) a vs->zI C A H vs xs->M2 vs xs->M1 (.ref a) (.frz xs))
  (a8:∀{a vs xs},H a=some (.tup vs)->zI C A H vs xs->M2 vs xs->M1 (.ref a) (.tup xs))(a9:∀{a vs xs},EV C.K a vs->zI C A H vs xs->M2 vs xs->M1 (.ref a) (.tup xs))(b1:∀{a vs xs},B6 C.K (λ_=>none) a vs->zI C A H vs xs->M2 vs xs->M1 (.ref a) (.ktp xs))
  (b2:∀{a kv kvs},H a=some (.dK kv)->A a->AJ C A H kv kvs->M3 kv kvs->M1 (.ref a) (.dK kvs))(b3:∀{a kv kvs},H a=some (.dT kv)->A a->AN C A H kv kvs->M4 kv kvs->M1 (.ref a) (.dT kvs))(b4:∀{a dx c f fs},H a=some (.ins (C.cl c) dx f)->A a->BU C A H f fs->M5 f fs->M1 (.ref a) (.obj c fs))
  (c1:M2 [] [])(c2:∀{v p vs ps},Rep C A H v p->zI C A H vs ps->M1 v p->M2 vs ps->M2 (v::vs) (p::ps))(c3:M3 [] [])(c4:∀{k v p vs ps},Rep C A H v p->AJ C A H vs ps->M1 v p->M3 vs ps->M3 ((k,v)::vs) ((k,p)::ps))
  (c5:M4 [] [])(c6:∀{k v p vs ps},Rep C A H v p->AN C A H vs ps->M1 v p->M4 vs ps->M4 ((k,v)::vs) ((k,p)::ps))(c7:M5 [] [])(c8:∀{k v p vs ps},Rep C A H v p->BU C A H vs ps->M1 v p->M5 vs ps->M5 ((k,v)::vs) ((k,p)::ps)):
  (∀{v p},Rep C A H v p->M1 v p)/\(∀{v p},zI C A H v p->M2 v p)/\(∀{v p},AJ C A H v p->M3 v p)/\(∀{v p},AN C A H v p->M4 v p)/\(∀{v p},BU C A H v p->M5 v p):=
 ⟨λ{v p} h=>@Rep.rec C A H (λv p _=>M1 v p) (λv p _=>M2 v p) (λv p _=>M3 v p) (λv p _=>M4 v p) (λv p _=>M5 v p) a1 a2 a3 a4 @a5 @a6 @a7 @a8 @a9 @b1 @b2 @b3 @b4 c1 @c2 c3 @c4 c5 @c6 c7 @c8 v p h,
  λ{v p} h=>@zI.rec C A H (λv p _=>M1 v p) (λv p _=>M2 v p) (λv p _=>M3 v p) (λv p _=>M4 v p) (λv p _=>M5 v p) a1 a2 a3 a4 @a5 @a6 @a7 @a8 @a9 @b1 @b2 @b3 @b4 c1 @c2 c3 @c4 c5 @c6 c7 @c8 v p h,
  λ{v p} h=>@AJ.rec C A H (λv p _=>M1 v p) (λv p _=>M2 v p) (λv p _=>M3 v p) (λv p _=>M4 v p) (λv p _=>M5 v p) a1 a2 a3 a4 @a5 @a6 @a7 @a8 @a9 @b1 @b2 @b3 @b4 c1 @c2 c3 @c4 c5 @c6 c7 @c8 v p h,
  λ{v p} h=>@AN.rec C A H (λv p _=>M1 v p) (λv p _=>M2 v p) (λv p _=>M3 v p) (λv p _=>M4 v p) (λv p _=>M5 v p) a1 a2 a3 a4 @a5 @a6 @a7 @a8 @a9 @b1 @b2 @b3 @b4 c1 @c2 c3 @c4 c5 @c6 c7 @c8 v p h,
  λ{v p} h=>@BU.rec C A H (λv p _=>M1 v p) (λv p _=>M2 v p) (λv p _=>M3 v p) (λv p _=>M4 v p) (λv p _=>M5 v p) a1 a2 a3 a4 @a5 @a6 @a7 @a8 @a9 @b1 @b2 @b3 @b4 c1 @c2 c3 @c4 c5 @c6 c7 @c8 v p h⟩
variable {A':Addr->Prop}
theorem Rep.Wk (e:Ex A H A' H'):(∀{v p},Rep C A H v p->Rep C A' H' v p)/\(∀{v p},zI C A H v p->zI C A' H' v p)/\(∀{v p},AJ C A H v p->AJ C A' H' v p)/\(∀{v p},AN C A H v p->AN C A' H' v p)/\(∀{v p},BU C A H v p->BU C A' H' v p):=
 Rep.nd .Au .bl .int .str (λh q _ r=>.lst ((e _ _ h).1 q).1 ((e _ _ h).1 q).2 r) (λh _ r=>.Lu ((e _ _ h).2 rfl) r) (λh _ r=>.lstK h r) (λh _ r=>.tup ((e _ _ h).2 rfl) r) (λh _ r=>.Cf h r) (λh _ r=>.tupK h r)
  (λh q _ r=>.dK ((e _ _ h).1 q).1 ((e _ _ h).1 q).2 r) (λh q _ r=>.dT ((e _ _ h).1 q).1 ((e _ _ h).1 q).2 r) (λh q _ r=>.obj ((e _ _ h).1 q).1 ((e _ _ h).1 q).2 r) .nil (λ_ _ h t=>.cons h t) .nil (λ_ _ h t=>.cons h t) .nil (λ_ _ h t=>.cons h t) .nil (λ_ _ h t=>.cons h t)
variable {v:V}
theorem Rep.ex (e:Ex A H A' H'){p:PV}:Rep C A H v p->Rep C A' H' v p:=(Rep.Wk e).1
theorem zI.ex (e:Ex A H A' H'){v:List V}{p:List PV}:zI C A H v p->zI C A' H' v p:=(Rep.Wk e).2.1
theorem AJ.ex (e:Ex A H A' H'){v:List (Key×V)}{p:List (Key×PV)}:AJ C A H v p->AJ C A' H' v p:=(Rep.Wk e).2.2.1
theorem AN.ex (e:Ex A H A' H'){v:List (List zD×V)}{p:List (List zD×PV)}:AN C A H v p->AN C A' H' v p:=(Rep.Wk e).2.2.2.1
theorem BU.ex (e:Ex A H A' H'){v:List (Str×V)}{p:List (Str×PV)}:BU C A H v p->BU C A' H' v p:=(Rep.Wk e).2.2.2.2
theorem aV (h:∀a o,H a=some o->A a->A' a):Ex A H A' H:=λa o e=>⟨λq=>⟨e,h a o e q⟩,λ_=>e⟩
theorem zI.length {C:MC}{A:Addr->Prop}{H:Hp}:∀{vs:List V}{ps:List PV},zI C A H vs ps->vs.length=ps.length
 | _,_,.nil=>rfl
 | _,_,.cons _ t=>by simp[zI.length t]
theorem zI.append {C:MC}{A:Addr->Prop}{H:Hp}:∀{vs us:List V}{ps qs:List PV},zI C A H vs ps->zI C A H us qs->zI C A H (vs++us) (ps++qs)
 | _,_,_,_,.nil,h=>h
 | _,_,_,_,.cons h t,r=>.cons h (zI.append t r)
theorem zI.get {C:MC}{A:Addr->Prop}{H:Hp}:∀{vs:List V}{ps:List PV}{i:Nat}{p:PV},zI C A H vs ps->ps[i]?=some p->∃v,vs[i]?=some v/\Rep C A H v p
 | _,_,_,_,.nil,e=>by simp at e
 | _,_,0,_,.cons h t,e=>by simp at e;subst e;exact⟨_,rfl,h⟩
 | _,_,i+1,p,.cons h t,e=>by
  obtain⟨v,e1,r⟩:=zI.get (i:=i) (p:=p) t (by simpa using e)
  exact⟨v,by simpa using e1,r⟩
theorem zI.get' {C:MC}{A:Addr->Prop}{H:Hp}:∀{vs:List V}{ps:List PV}{i:Nat}{v:V},zI C A H vs ps->vs[i]?=some v->∃p,ps[i]?=some p/\Rep C A H v p
 | _,_,_,_,.nil,e=>by simp at e
 | _,_,0,_,.cons h t,e=>by simp at e;subst e;exact⟨_,rfl,h⟩
 | _,_,i+1,v,.cons h t,e=>by
  obtain⟨p,e1,r⟩:=zI.get' (i:=i) (v:=v) t (by simpa using e)
  exact⟨p,by simpa using e1,r⟩
theorem zI.drop {C:MC}{A:Addr->Prop}{H:Hp}:∀{vs:List V}{ps:List PV}(n:Nat),zI C A H vs ps->zI C A H (vs.drop n) (ps.drop n)
 | _,_,0,h=>by simpa using h
 | _,_,n+1,.nil=>by simpa using zI.nil
 | _,_,n+1,.cons _ t=>by simpa using zI.drop n t
theorem zI.take {C:MC}{A:Addr->Prop}{H:Hp}:∀{vs:List V}{ps:List PV}(n:Nat),zI C A H vs ps->zI C A H (vs.take n) (ps.take n)
 | _,_,0,h=>by simpa using zI.nil
 | _,_,n+1,.nil=>by simpa using zI.nil
 | _,_,n+1,.cons h t=>by simpa using zI.cons h (zI.take n t)
theorem zI.set {C:MC}{A:Addr->Prop}{H:Hp}{v:V}{p:PV}(r:Rep C A H v p):∀{vs:List V}{ps:List PV}(n:Nat),zI C A H vs ps->zI C A H (vs.set n v) (ps.set n p)
 | _,_,_,.nil=>.nil
 | _,_,0,.cons _ t=>.cons r t
 | _,_,n+1,.cons h t=>.cons h (zI.set r n t)
theorem zI.reverse {C:MC}{A:Addr->Prop}{H:Hp}:∀{vs:List V}{ps:List PV},zI C A H vs ps->zI C A H vs.reverse ps.reverse
 | _,_,.nil=>.nil
 | _,_,.cons h t=>by
  rw[kH,kH]
  exact(zI.reverse t).append (.cons h .nil)
theorem j5 {C:MC}{A:Addr->Prop}{H:Hp}{α:Type}(f:α->V)(g:α->PV)(h:∀x,Rep C A H (f x) (g x)):∀l:List α,zI C A H (l.map f) (l.map g)
 | []=>.nil
 | x::l=>.cons (h x) (j5 f g h l)
theorem AJ.val {C:MC}{A:Addr->Prop}{H:Hp}{k:Key}:∀{kv:List (Key×V)}{kvs:List (Key×PV)},AJ C A H kv kvs->(∃v p,cz kv k=some v/\(kvs.find? λx=>decide (x.1=k)).map (·.2)=some p/\Rep C A H v p)\/(cz kv k=none/\(kvs.find? λx=>decide (x.1=k)).map (·.2)=none)
 | _,_,.nil=>.inr ⟨rfl,rfl⟩
 | _,_,.cons (k:=k') (v:=v) (p:=p) h t=>by
  by_cases e:k'=k
  ·subst e
   exact .inl ⟨v,p,cJ rfl,by simp,h⟩
  ·rw[cL e,oP (by simpa using e)]
   exact AJ.val t
theorem AN.val {C:MC}{A:Addr->Prop}{H:Hp}{k:List zD}:∀{kv:List (List zD×V)}{kvs:List (List zD×PV)},AN C A H kv kvs->(∃v p,cz kv k=some v/\(kvs.find? λx=>decide (x.1=k)).map (·.2)=some p/\Rep C A H v p)\/(cz kv k=none/\(kvs.find? λx=>decide (x.1=k)).map (·.2)=none)
 | _,_,.nil=>.inr ⟨rfl,rfl⟩
 | _,_,.cons (k:=k') (v:=v) (p:=p) h t=>by
  by_cases e:k'=k
  ·subst e
   exact .inl ⟨v,p,cJ rfl,by simp,h⟩
  ·rw[cL e,oP (by simpa using e)]
   exact AN.val t
theorem BU.look {C:MC}{A:Addr->Prop}{H:Hp}{k:Str}{p:PV}:∀{f:List (Str×V)}{fs:List (Str×PV)},BU C A H f fs->fs.lookup k=some p->∃v,f.lookup k=some v/\Rep C A H v p
 | _,_,.nil,e=>by cases e
 | _,_,.cons (k:=k') (v:=v) (p:=p') h t,e=>by
  rw[b9] at e ⊢
  cases q:k == k' with
  | true=>rw[q] at e;cases e;exact⟨v,rfl,h⟩
  | false=>rw[q] at e;exact BU.look t e
theorem BU.Sa {C:MC}{A:Addr->Prop}{H:Hp}{k:Str}:∀{f:List (Str×V)}{fs:List (Str×PV)},BU C A H f fs->fs.lookup k=none->f.lookup k=none
 | _,_,.nil,e=>rfl
 | _,_,.cons (k:=k') (v:=v) (p:=p') h t,e=>by
  rw[b9] at e ⊢
  cases q:k == k' with
  | true=>rw[q] at e;cases e
  | false=>rw[q] at e;exact BU.Sa t e
def Top (C:MC)(A:Addr->Prop)(H:Hp)(a:Addr):PV->Prop
 | .lst xs=>∃vs,H a=some (.lst vs)/\zI C A H vs xs
 | .dK kvs=>∃kv,H a=some (.dK kv)/\AJ C A H kv kvs
 | .dT kvs=>∃kv,H a=some (.dT kv)/\AN C A H kv kvs
 | .obj c fs=>∃dx f,H a=some (.ins (C.cl c) dx f)/\BU C A H f fs
 | _=>False
theorem Top.ex {C:MC}{A A':Addr->Prop}{H H':Hp}{a:Addr}{p:PV}(e:Ex A H A' H')(h:∀o,H a=some o->H' a=some o)(t:Top C A H a p):Top C A' H' a p:=by
 cases p with
 | lst xs=>obtain⟨vs,q,r⟩:=t;exact⟨vs,h _ q,r.ex e⟩
 | dK kvs=>obtain⟨vs,q,r⟩:=t;exact⟨vs,h _ q,r.ex e⟩
 | dT kvs=>obtain⟨vs,q,r⟩:=t;exact⟨vs,h _ q,r.ex e⟩
 | obj c fs=>obtain⟨dx,f,q,r⟩:=t;exact⟨dx,f,h _ q,r.ex e⟩
 | _=>exact t
variable {a:Addr}
theorem Top.live {p:PV}(t:Top C A H a p):∃o,H a=some o/\gW o=true:=by
 cases p with
 | lst xs=>obtain⟨vs,q,r⟩:=t;exact⟨_,q,rfl⟩
 | dK kvs=>obtain⟨vs,q,r⟩:=t;exact⟨_,q,rfl⟩
 | dT kvs=>obtain⟨vs,q,r⟩:=t;exact⟨_,q,rfl⟩
 | obj c fs=>obtain⟨dx,f,q,r⟩:=t;exact⟨_,q,rfl⟩
 | _=>exact t.elim
theorem Top.rep {p:PV}(t:Top C A H a p)(h:A a):Rep C A H (.ref a) p:=by
 cases p with
 | lst xs=>obtain⟨vs,q,r⟩:=t;exact .lst q h r
 | dK kvs=>obtain⟨vs,q,r⟩:=t;exact .dK q h r
 | dT kvs=>obtain⟨vs,q,r⟩:=t;exact .dT q h r
 | obj c fs=>obtain⟨dx,f,q,r⟩:=t;exact .obj q h r
 | _=>exact t.elim
def Ap (C:MC)(A:Addr->Prop)(H:Hp)(v:V)(p:PV):Prop:=Rep C A H v p\/∃a,v=.ref a/\Top C A H a p
theorem Ap.ex {C:MC}{A A':Addr->Prop}{H H':Hp}{v:V}{p:PV}(e:Ex A H A' H')(s:zS H H')(h:Ap C A H v p):Ap C A' H' v p:=by
 rcases h with h | ⟨a,q,t⟩
 ·exact .inl (h.ex e)
 ·exact .inr ⟨a,q,t.ex e λo z=>s _ _ z⟩
variable {K:W.Frag}{vs:List V}
section
variable {C:MC}{A:Addr->Prop}{H:Hp}{v:V}
theorem Vs (h:A0 K (λ_=>none) a vs):A0 K H a vs:=by
 rcases h with (h | ⟨o,h⟩) | h
 ·cases h
 ·cases h
 ·exact .inr h
theorem kO (h:B6 K (λ_=>none) a vs):B6 K H a vs:=by
 rcases h with (h | ⟨o,h⟩) | h
 ·cases h
 ·cases h
 ·exact .inr h
theorem Ap.lst {xs:List PV}(h:Ap C A H v (.lst xs)):∃a vs,v=.ref a/\H a=some (.lst vs)/\zI C A H vs xs:=by
 rcases h with h | ⟨a,rfl,vs,q,r⟩
 ·cases h with
  | lst q _ r=>exact⟨_,_,rfl,q,r⟩
 ·exact⟨a,vs,rfl,q,r⟩
theorem Ap.frz {xs:List PV}(h:Ap C A H v (.frz xs)):∃a vs,v=.ref a/\A0 C.K H a vs/\zI C A H vs xs:=by
 rcases h with h | ⟨a,rfl,t⟩
 ·cases h with
  | Lu q r=>exact⟨_,_,rfl,.inl (.inr ⟨_,q⟩),r⟩
  | lstK q r=>exact⟨_,_,rfl,Vs q,r⟩
 ·exact t.elim
def DL (K:W.Frag)(H:Hp)(a:Addr)(vs:List V):Prop:=H a=some (.tup vs)\/EV K a vs
theorem DL.sq {H:Hp}(h:DL K H a vs):B6 K H a vs:=h.elim (λq=>B6.of q) e9
theorem DL.rep {C:MC}{A:Addr->Prop}{H:Hp}{xs:List PV}(h:DL C.K H a vs)(r:zI C A H vs xs):Rep C A H (.ref a) (.tup xs):=h.elim (λq=>.tup q r) λq=>.Cf q r
theorem DL.ex {A:Addr->Prop}{H:Hp}(h:DL K H a vs)(e:Ex A H A' H'):DL K H' a vs:=h.imp (λq=>(e _ _ q).2 rfl) id
theorem DL.up {H:Hp}(h:DL K H a vs)(s:zS H H'):DL K H' a vs:=h.imp (λq=>s _ _ q) id
theorem DL.key {H:Hp}{ks:List zD}(h:DL K H a vs)(k:GB K H ks vs):Cc K H a ks:=h.imp (λq=>⟨vs,q,k⟩) λq=>⟨vs,q,k⟩
theorem Ap.tup {xs:List PV}(h:Ap C A H v (.tup xs)):∃a vs,v=.ref a/\DL C.K H a vs/\zI C A H vs xs:=by
 rcases h with h | ⟨a,rfl,t⟩
 ·cases h with
  | tup q r=>exact⟨_,_,rfl,.inl q,r⟩
  | Cf q r=>exact⟨_,_,rfl,.inr q,r⟩
 ·exact t.elim
theorem Ap.ktp {xs:List PV}(h:Ap C A H v (.ktp xs)):∃a vs,v=.ref a/\B6 C.K H a vs/\zI C A H vs xs:=by
 rcases h with h | ⟨a,rfl,t⟩
 ·cases h with
  | tupK q r=>exact⟨_,_,rfl,kO q,r⟩
 ·exact t.elim
theorem Ap.dK {kvs:List (Key×PV)}(h:Ap C A H v (.dK kvs)):∃a kv,v=.ref a/\H a=some (.dK kv)/\AJ C A H kv kvs:=by
 rcases h with h | ⟨a,rfl,vs,q,r⟩
 ·cases h with
  | dK q _ r=>exact⟨_,_,rfl,q,r⟩
 ·exact⟨a,vs,rfl,q,r⟩
theorem Ap.dT {kvs:List (List zD×PV)}(h:Ap C A H v (.dT kvs)):∃a kv,v=.ref a/\H a=some (.dT kv)/\AN C A H kv kvs:=by
 rcases h with h | ⟨a,rfl,vs,q,r⟩
 ·cases h with
  | dT q _ r=>exact⟨_,_,rfl,q,r⟩
 ·exact⟨a,vs,rfl,q,r⟩
theorem Ap.obj {c:Nat}{fs:List (Str×PV)}(h:Ap C A H v (.obj c fs)):∃a dx f,v=.ref a/\H a=some (.ins (C.cl c) dx f)/\BU C A H f fs:=by
 rcases h with h | ⟨a,rfl,dx,vs,q,r⟩
 ·cases h with
  | obj q _ r=>exact⟨_,_,_,rfl,q,r⟩
 ·exact⟨a,dx,vs,rfl,q,r⟩
theorem Ap.int {i:Int}(h:Ap C A H v (.int i)):v=.int i:=by
 rcases h with h | ⟨a,rfl,t⟩
 ·cases h;rfl
 ·exact t.elim
theorem Ap.str {x:Str}(h:Ap C A H v (.str x)):v=.str x:=by
 rcases h with h | ⟨a,rfl,t⟩
 ·cases h;rfl
 ·exact t.elim
theorem Ap.bl {x:Bool}(h:Ap C A H v (.bl x)):v=.bl x:=by
 rcases h with h | ⟨a,rfl,t⟩
 ·cases h;rfl
 ·exact t.elim
theorem Ap.Au (h:Ap C A H v .Au):v=.Au:=by
 rcases h with h | ⟨a,rfl,t⟩
 ·cases h;rfl
 ·exact t.elim
end
structure BX where
 C:MC
 A:Addr->Prop
 H0:Hp
 fx:Nat->Option V
abbrev Env:=List (Option PV)
abbrev qB:=Env->Option PV
def Bs (b:BX)(Ow:Addr->Prop)(a:Addr):Prop:=¬ Ow a/\(b.A a\/b.H0 a=none)
structure ER (b:BX)(Ow:Addr->Prop)(G:qc)(σ:St)(env:Env)(H:Hp):Prop where
 len:σ.length=env.length
 same:zS b.H0 H
 live:∀a,Ow a->∃o,H a=some o
 new:∀a,Ow a->b.H0 a=none
 val:∀i p,env[i]?=some (some p)->i∉G->∃v,σ[i]?=some (some v)/\Rep b.C (Bs b Ow) H v p
 own:∀i p,env[i]?=some (some p)->i∈G->∃a,σ[i]?=some (some (.ref a))/\Ow a/\Top b.C (Bs b Ow) H a p
 sep:∀i j a p q,env[i]?=some (some p)->i∈G->σ[i]?=some (some (.ref a))->env[j]?=some (some q)->j∈G->σ[j]?=some (some (.ref a))->i=j
 fix:∀i v,b.fx i=some v->σ[i]?=some (some v)
inductive Md where | val | own | bor
def Res (b:BX)(Ow:Addr->Prop)(H H':Hp)(m:Md)(v:V)(p:PV):Prop:=match m with
 | .val=>Rep b.C (Bs b Ow) H' v p
 | .own=>∃a,v=.ref a/\H a=none/\Top b.C (λc=>Bs b Ow c/\c≠a) H' a p
 | .bor=>Ap b.C (Bs b Ow) H' v p
def tM (b:BX)(G:qc)(m:Md)(f:qB):TE:=fun σ H Q=>∃Ow env p,ER b Ow G σ env H/\f env=some p/\∀v H',zS H H'->Res b Ow H H' m v p->Q v H'
def Wl (b:BX)(G:qc)(f:Env->Option Bool):TT:=fun σ H Q=>∃Ow env k,ER b Ow G σ env H/\f env=some k/\∀H',zS H H'->Q k H'
section
variable {b:BX}{Ow:Addr->Prop}{G:qc}{σ:St}{env:Env}{H H':Hp}
theorem ER.up (E:ER b Ow G σ env H)(s:zS H H'):ER b Ow G σ env H':=
 ⟨E.len,E.same.trans s,λa h=>let ⟨o,e⟩:=E.live a h;⟨o,s _ _ e⟩,E.new,λi p h n=>let ⟨v,e,r⟩:=E.val i p h n;⟨v,e,r.ex (.of_same s)⟩,
  λi p h n=>let ⟨a,e,w,t⟩:=E.own i p h n;⟨a,e,w,t.ex (.of_same s) λo z=>s _ _ z⟩,E.sep,E.fix⟩
theorem ER.fresh (E:ER b Ow G σ env H)(h:H a=none):Bs b Ow a:=
 ⟨λw=>(by obtain⟨o,e⟩:=E.live a w;rw[h] at e;cases e),.inr (E.same.free h)⟩
theorem Res.val {m:Md}{v:V}{p:PV}(E:ER b Ow G σ env H)(hm:m≠.bor)(r:Res b Ow H H' m v p):Res b Ow H H' .val v p:=by
 cases m with
 | val=>exact r
 | bor=>exact absurd rfl hm
 | own=>
  obtain⟨a,rfl,h,t⟩:=r
  have hw:Ex (λc=>Bs b Ow c/\c≠a) H' (Bs b Ow) H':=aV λ_ _ _ z=>z.1
  exact(t.ex hw λo z=>z).rep (E.fresh h)
theorem Res.bor {m:Md}{v:V}{p:PV}(r:Res b Ow H H' m v p):Res b Ow H H' .bor v p:=by
 cases m with
 | val=>exact .inl r
 | bor=>exact r
 | own=>
  obtain⟨a,rfl,h,t⟩:=r
  have hw:Ex (λc=>Bs b Ow c/\c≠a) H' (Bs b Ow) H':=aV λ_ _ _ z=>z.1
  exact .inr ⟨a,rfl,t.ex hw λo z=>z⟩
theorem Res.up {m:Md}{p:PV}{Lv:Hp}(r:Res b Ow H H' m v p)(s:zS H' Lv):Res b Ow H Lv m v p:=by
 cases m with
 | val=>exact Rep.ex (.of_same s) r
 | bor=>exact Ap.ex (.of_same s) s r
 | own=>
  obtain⟨a,e,h,t⟩:=r
  exact⟨a,e,h,t.ex (.of_same s) λo z=>s _ _ z⟩
theorem Res.down {m:Md}{p:PV}{Lv:Hp}(s:zS H H')(r:Res b Ow H' Lv m v p):Res b Ow H Lv m v p:=by
 cases m with
 | val=>exact r
 | bor=>exact r
 | own=>
  obtain⟨a,e,h,t⟩:=r
  exact⟨a,e,s.free h,t⟩
end
variable {X:Cx}
theorem PE.imp {e:Expr}{t u:TE}(h:PE X e t)(i:∀ σ H Q,u σ H Q->t σ H Q):PE X e u:=λzC s σ H Q I q=>h zC s σ H Q I (i σ H Q q)
theorem PT.imp {e:Expr}{t u:TT}(h:PT X e t)(i:∀ σ H Q,u σ H Q->t σ H Q):PT X e u:=λzC s σ H Q I q=>h zC s σ H Q I (i σ H Q q)
theorem PS.imp {e:Stmt}{t u:TS}(h:PS X e t)(i:∀D σ H,u D σ H->t D σ H):PS X e u:=λzC s σ H D I q=>h zC s σ H D I (i D σ H q)
theorem PE.or {e:Expr}{t u:TE}(h:PE X e t)(h':PE X e u):PE X e (fun σ H Q=>t σ H Q\/u σ H Q):=λzC s σ H Q I q=>q.elim (h zC s σ H Q I) (h' zC s σ H Q I)
theorem BN.or {op:Value->Value->Sem Value}{r r':R2}(h:BN X op r)(h':BN X op r'):BN X op (λx y H Q=>r x y H Q\/r' x y H Q):=λzC s σ H x y v u Q I rx ry q=>q.elim (h zC s σ H x y v u Q I rx ry) (h' zC s σ H x y v u Q I rx ry)
abbrev SE (X:Cx)(b:BX)(G:qc)(m:Md)(e:Expr)(f:qB):Prop:=PE X e (tM b G m f)
abbrev ST (X:Cx)(b:BX)(G:qc)(e:Expr)(f:Env->Option Bool):Prop:=PT X e (Wl b G f)
theorem SE.bor {X:Cx}{b:BX}{G:qc}{m:Md}{e:Expr}{f:qB}(h:SE X b G m e f):SE X b G .bor e f:=
 PE.imp h fun σ H Q ⟨Ow,env,p,E,hf,k⟩=>⟨Ow,env,p,E,hf,λv H' s r=>k v H' s r.bor⟩
theorem SE.val {X:Cx}{b:BX}{G:qc}{e:Expr}{f:qB}(h:SE X b G .own e f):SE X b G .val e f:=
 PE.imp h fun σ H Q ⟨Ow,env,p,E,hf,k⟩=>⟨Ow,env,p,E,hf,λv H' s r=>k v H' s (r.val E (by intro z;cases z))⟩
noncomputable def bC (p:PV)(env:Env):Option PV:=some p
@[simp] theorem Uk (p:PV)(env:Env):bC p env=(some p):=id rfl
noncomputable def bV (i:Nat)(env:Env):Option PV:=match env[i]? with | some o=>o | none=>none
@[simp] theorem Ul (i:Nat)(env:Env):bV i env=(match env[i]? with | some o=>o | none=>none):=id rfl
noncomputable def b1 (g:PV->Option PV)(f:qB)(env:Env):Option PV:=(f env).bind g
@[simp] theorem Um (g:PV->Option PV)(f:qB)(env:Env):b1 g f env=((f env).bind g):=id rfl
noncomputable def b2 (g:PV->PV->Option PV)(f h:qB)(env:Env):Option PV:=(f env).bind λx=>(h env).bind λy=>g x y
@[simp] theorem Uo (g:PV->PV->Option PV)(f h:qB)(env:Env):b2 g f h env=((f env).bind λx=>(h env).bind λy=>g x y):=id rfl
noncomputable def b3 (g:PV->PV->PV->Option PV)(f h k:qB)(env:Env):Option PV:=(f env).bind λx=>(h env).bind λy=>(k env).bind λz=>g x y z
@[simp] theorem Up (g:PV->PV->PV->Option PV)(f h k:qB)(env:Env):b3 g f h k env=((f env).bind λx=>(h env).bind λy=>(k env).bind λz=>g x y z):=id rfl
noncomputable def zf (f g:qB)(env:Env):Option PV:=(f env).bind λx=>match x with | .bl true=>g env | .bl false=>some (.bl false) | _=>none
@[simp] theorem Tu (f g:qB)(env:Env):zf f g env=((f env).bind λx=>match x with | .bl true=>g env | .bl false=>some (.bl false) | _=>none):=id rfl
noncomputable def Vt (f g:qB)(env:Env):Option PV:=(f env).bind λx=>match x with | .bl true=>some (.bl true) | .bl false=>g env | _=>none
@[simp] theorem T7 (f g:qB)(env:Env):Vt f g env=((f env).bind λx=>match x with | .bl true=>some (.bl true) | .bl false=>g env | _=>none):=id rfl
noncomputable def Dr (f:qB)(env:Env):Option PV:=(f env).bind λx=>match x with | .bl c=>some (.bl (!c)) | _=>none
@[simp] theorem Tv (f:qB)(env:Env):Dr f env=((f env).bind λx=>match x with | .bl c=>some (.bl (!c)) | _=>none):=id rfl
noncomputable def Wm (c:Env->Option Bool)(f g:qB)(env:Env):Option PV:=(c env).bind λx=>if x=true then f env else g env
@[simp] theorem T8 (c:Env->Option Bool)(f g:qB)(env:Env):Wm c f g env=((c env).bind λx=>if x=true then f env else g env):=id rfl
noncomputable def tV (f:qB)(env:Env):Option Bool:=(f env).bind λx=>match x with | .bl c=>some c | _=>none
@[simp] theorem Uq (f:qB)(env:Env):tV f env=((f env).bind λx=>match x with | .bl c=>some c | _=>none):=id rfl
noncomputable def tA (f g:Env->Option Bool)(env:Env):Option Bool:=(f env).bind λx=>if x=true then g env else some false
@[simp] theorem Ur (f g:Env->Option Bool)(env:Env):tA f g env=((f env).bind λx=>if x=true then g env else some false):=id rfl
noncomputable def tO (f g:Env->Option Bool)(env:Env):Option Bool:=(f env).bind λx=>if x=true then some true else g env
@[simp] theorem Us (f g:Env->Option Bool)(env:Env):tO f g env=((f env).bind λx=>if x=true then some true else g env):=id rfl
noncomputable def tN (f:Env->Option Bool)(env:Env):Option Bool:=(f env).bind λx=>some (!x)
@[simp] theorem Ut (f:Env->Option Bool)(env:Env):tN f env=((f env).bind λx=>some (!x)):=id rfl
noncomputable def aQ (env:Env):Option (List PV):=some []
@[simp] theorem Tw (env:Env):aQ env=(some []):=id rfl
noncomputable def au (f:qB)(g:Env->Option (List PV))(env:Env):Option (List PV):=(f env).bind λx=>(g env).bind λxs=>some (x::xs)
abbrev zv (n:Int):=bC (.int n)
abbrev zw (i:Nat):=au (bV i)
@[simp] theorem S5 (f:qB)(g:Env->Option (List PV))(env:Env):au f g env=((f env).bind λx=>(g env).bind λxs=>some (x::xs)):=id rfl
noncomputable def fY (g:Env->Option (List PV))(env:Env):Option PV:=(g env).bind λxs=>if xs.length<=1000000 then some (.lst xs) else none
@[simp] theorem Tz (g:Env->Option (List PV))(env:Env):fY g env=((g env).bind λxs=>if xs.length<=1000000 then some (.lst xs) else none):=id rfl
noncomputable def d8 (g:Env->Option (List PV))(env:Env):Option PV:=(g env).bind λxs=>if xs.length<=1000000 then some (.tup xs) else none
@[simp] theorem TF (g:Env->Option (List PV))(env:Env):d8 g env=((g env).bind λxs=>if xs.length<=1000000 then some (.tup xs) else none):=id rfl
noncomputable def bH (m:List PV->Option PV)(g:Env->Option (List PV))(env:Env):Option PV:=(g env).bind m
variable {g:PV->PV->Option PV}
@[simp] theorem S6 (m:List PV->Option PV)(g:Env->Option (List PV))(env:Env):bH m g env=((g env).bind m):=id rfl
section
variable {b:BX}{G:qc}{m:Md}{σ:St}{H:Hp}{Q:VK}
def F3 (b:BX)(m:Md)(r:R2)(g:PV->PV->Option PV):Prop:=∀(Ow:Addr->Prop) (H:Hp) (v1 v2:V) (p1 p2 p:PV) (Q:VK),(∀a,H a=none->Bs b Ow a)->Ap b.C (Bs b Ow) H v1 p1->Ap b.C (Bs b Ow) H v2 p2->g p1 p2=some p->
 (∀v H',zS H H'->Res b Ow H H' m v p->Q v H')->r v1 v2 H Q
theorem Ds {r:R2}{f1 f2:qB}(hr:F3 b m r g)(h:tM b G m (b2 g f1 f2) σ H Q):L6 r (tM b G .bor f1) (tM b G .bor f2) σ H Q:=by
 obtain⟨Ow,env,p,E,hf,k⟩:=h
 unfold b2 at hf
 cases h1:f1 env with
 | none=>rw[h1] at hf;cases hf
 | some p1=>
  rw[h1] at hf
  cases h2:f2 env with
  | none=>rw[h2] at hf;cases hf
  | some p2=>
   rw[h2] at hf
   exact⟨Ow,env,p1,E,h1,λv1 H1 s1 r1=>⟨Ow,env,p2,E.up s1,h2,λv2 H2 s2 r2=>hr Ow H2 v1 v2 p1 p2 p Q (λa=>(E.up (s1.trans s2)).fresh) (r1.up s2) r2 hf λv H' s r=>k v H' (s1.trans (s2.trans s)) (r.down (s1.trans s2))⟩⟩
def YX (b:BX)(m:Md)(r:V->Hp->VK->Prop)(g:PV->Option PV):Prop:=∀(Ow:Addr->Prop) (H:Hp) (v1:V) (p1 p:PV) (Q:VK),(∀a,H a=none->Bs b Ow a)->Ap b.C (Bs b Ow) H v1 p1->g p1=some p->
 (∀v H',zS H H'->Res b Ow H H' m v p->Q v H')->r v1 H Q
theorem Du {r:V->Hp->VK->Prop}{g:PV->Option PV}{f1:qB}(hr:YX b m r g)(h:tM b G m (b1 g f1) σ H Q):tM b G .bor f1 σ H λx H1=>r x H1 Q:=by
 obtain⟨Ow,env,p,E,hf,k⟩:=h
 unfold b1 at hf
 cases h1:f1 env with
 | none=>rw[h1] at hf;cases hf
 | some p1=>
  rw[h1] at hf
  exact⟨Ow,env,p1,E,h1,λv1 H1 s1 r1=>hr Ow H1 v1 p1 p Q (λa=>(E.up s1).fresh) r1 hf λv H' s r=>k v H' (s1.trans s) (r.down s1)⟩
end
@[simp] noncomputable def fZ:PV->PV->Option PV
 | .int i,.int j=>some (.int (i+j))
 | .str x,.str y=>if x.length+y.length<=1000000 then some (.str (x++y)) else none
 | .lst xs,.lst ys=>if xs.length+ys.length<=1000000 then some (.lst (xs++ys)) else none
 | _,_=>none
noncomputable def Px:PV->PV->Option PV
 | .tup xs,.tup ys=>if xs≠[]/\xs.length+ys.length<=1000000 then some (.tup (xs++ys)) else none
 | _,_=>none
@[simp] noncomputable def Po:PV->PV->Option PV
 | .int i,.int j=>some (.int (i - j))
 | _,_=>none
noncomputable def Pp (i:Int):Bool:=@decide (-18446744073709551616 < i/\i < 18446744073709551616) (Classical.propDecidable _)
@[simp] noncomputable def sJ:PV->PV->Option PV
 | .int i,.int j=>if (Pp i||Pp j)=true then some (.int (i*j)) else none
 | _,_=>none
@[simp] noncomputable def l_:PV->PV->Option PV
 | .int i,.int j=>if 0 < j/\j < 1073741824 then some (.int (i / j)) else none
 | _,_=>none
@[simp] noncomputable def ie:PV->PV->Option PV
 | .int i,.int j=>if 0 < j then some (.int (i % j)) else none
 | _,_=>none
@[simp] noncomputable def jN (g:Int->Int->Bool):PV->PV->Option PV
 | .int i,.int j=>some (.bl (g i j))
 | _,_=>none
theorem gC {n:Nat}(h:n<=1000000):n<=sizeLine:=gI (bY h)
section
variable {b:BX}
theorem Lf {g:Int->Int->Int}{f:PV->PV->Option PV}(hf:∀x y p,f x y=some p->∃i j,x=.int i/\y=.int j/\p=.int (g i j)):F3 b .val (Of λi j=>.int (g i j)) f:=by
 intro Ow H v1 v2 p1 p2 p Q hn r1 r2 e k
 obtain⟨i,j,rfl,rfl,rfl⟩:=hf _ _ _ e
 rw[r1.int,r2.int]
 exact⟨i,j,rfl,rfl,k _ H (zS.refl _) (.int _)⟩
theorem Gn {g:Int->Int->Bool}:F3 b .val (Of λi j=>.bl (g i j)) (jN g):=by
 intro Ow H v1 v2 p1 p2 p Q hn r1 r2 e k
 unfold jN at e
 split at e
 ·cases e
  rw[r1.int,r2.int]
  exact⟨_,_,rfl,rfl,k _ H (zS.refl _) (.bl _)⟩
 ·cases e
theorem Py:F3 b .val (Of λi j=>.int (i - j)) Po:=Lf λx y p e=>by
 unfold Po at e
 split at e
 ·cases e;exact⟨_,_,rfl,rfl,rfl⟩
 ·cases e
theorem Pz:F3 b .val (rI OT λi j=>.int (i*j)) sJ:=by
 intro Ow H v1 v2 p1 p2 p Q hn r1 r2 e k
 unfold sJ at e
 split at e
 ·split at e
  ·rename_i h
   cases e
   rw[r1.int,r2.int]
   refine⟨_,_,rfl,rfl,?_,k _ H (zS.refl _) (.int _)⟩
   simp only[Pp,Bool.or_eq_true,ed] at h
   exact h
  ·cases e
 ·cases e
theorem uC {i:Int}(h:-18446744073709551616 < i)(h':i < 18446744073709551616):Pp i=true:=@g9 _ (Classical.propDecidable _) ⟨h,h'⟩
theorem PB:F3 b .val (rI Og λi j=>.int (i / j)) l_:=by
 intro Ow H v1 v2 p1 p2 p Q hn r1 r2 e k
 unfold l_ at e
 split at e
 ·split at e
  ·rename_i h
   cases e
   rw[r1.int,r2.int]
   exact⟨_,_,rfl,rfl,h,k _ H (zS.refl _) (.int _)⟩
  ·cases e
 ·cases e
theorem PJ:F3 b .val (rI (λ_ j=>0 < j) λi j=>.int (i % j)) ie:=by
 intro Ow H v1 v2 p1 p2 p Q hn r1 r2 e k
 unfold ie at e
 split at e
 ·split at e
  ·rename_i h
   cases e
   rw[r1.int,r2.int]
   exact⟨_,_,rfl,rfl,h,k _ H (zS.refl _) (.int _)⟩
  ·cases e
 ·cases e
end
variable {Ow:Addr->Prop}
theorem mZ {b:BX}{xs:List PV}(h:H a=none)(r:zI b.C (Bs b Ow) H vs xs):Res b Ow H (upd H a (.lst vs)) .own (.ref a) (.lst xs):=by
 refine⟨a,rfl,h,vs,az,r.ex λc o e=>?_⟩
 have hc:c≠a:=aq e h
 exact⟨λq=>⟨by rw[ao hc];exact e,q,hc⟩,λ_=>by rw[ao hc];exact e⟩
theorem m6 {b:BX}{H0:Hp}{xs:List PV}(h:H a=none)(r:zI b.C (Bs b Ow) H vs xs):Res b Ow H0 (upd H a (.tup vs)) .val (.ref a) (.tup xs):=
 Rep.tup az (r.ex (.of_same (aL h _)))
section
variable {b:BX}
theorem PK:F3 b .val (λx y H Q=>(Of (λi j=>.int (i+j)) x y H Q\/∃i j,x=.str i/\y=.str j/\i.length+j.length<=sizeLine/\Q (.str (i++j)) H)\/O4 x y H Q) fZ:=by
 intro Ow H v1 v2 p1 p2 p Q hn r1 r2 e k
 unfold fZ at e
 split at e
 ·cases e
  rw[r1.int,r2.int]
  exact .inl (.inl ⟨_,_,rfl,rfl,k _ H (zS.refl _) (.int _)⟩)
 ·split at e
  ·rename_i h
   cases e
   rw[r1.str,r2.str]
   exact .inl (.inr ⟨_,_,rfl,rfl,gC h,k _ H (zS.refl _) (.str _)⟩)
  ·cases e
 ·split at e
  ·rename_i h
   cases e
   obtain⟨a,vs,rfl,ha,ra⟩:=r1.lst
   obtain⟨c,us,rfl,hc,rc⟩:=r2.lst
   exact .inr ⟨a,c,vs,us,rfl,rfl,ha,hc,gC (by rw[ra.length,rc.length];exact h),λq hq=>k _ _ (aL hq _) (.lst az (hn q hq) ((ra.append rc).ex (.of_same (aL hq _))))⟩
  ·cases e
 ·cases e
theorem Lg:F3 b .val (uv b.C.K) Px:=by
 intro Ow H v1 v2 p1 p2 p Q hn r1 r2 e k
 unfold Px at e
 split at e
 ·split at e
  ·rename_i h
   cases e
   obtain⟨a,vs,rfl,ha,ra⟩:=r1.tup
   obtain⟨c,us,rfl,hc,rc⟩:=r2.tup
   refine⟨a,c,vs,us,rfl,rfl,ha.sq,hc.sq,?_,gC (by rw[ra.length,rc.length];exact h.2),λhu=>?_,λ_ q hq=>k _ _ (aL hq _) (m6 hq (ra.append rc))⟩
   rotate_left
   ·subst hu
    cases rc
    rw[br] at k
    exact k _ H (zS.refl _) (ha.rep ra)
   intro z
   have:=ra.length
   rw[z] at this
   exact h.1 (gs.mp this.symm)
  ·cases e
 ·cases e
end
variable {env:Env}{x:Str}
section
variable {X:Cx}{b:BX}{G:qc}{m:Md}{e e1 e2:Expr}{f f1 f2:qB}{pos:Pos}
theorem ak {i j pos}:SE X b G .val (.Constant (.int i) j pos) (zv i):=PE.imp dY<|by rintro σ H Q ⟨Ow,env,p,E,hf,k⟩;cases hf;exact k _ H (zS.refl _) (.int i)
theorem gY {i j pos}:SE X b G .val (.Constant (.bool i) j pos) (bC (.bl i)):=PE.imp Rj<|by rintro σ H Q ⟨Ow,env,p,E,hf,k⟩;cases hf;exact k _ H (zS.refl _) (.bl i)
theorem f9 {i j pos}:SE X b G .val (.Constant (.str i) j pos) (bC (.str i)):=PE.imp NP<|by rintro σ H Q ⟨Ow,env,p,E,hf,k⟩;cases hf;exact k _ H (zS.refl _) (.str i)
theorem gb {j pos}:SE X b G .val (.Constant .none j pos) (bC .Au):=PE.imp yC<|by rintro σ H Q ⟨Ow,env,p,E,hf,k⟩;cases hf;exact k _ H (zS.refl _) .Au
theorem fK {i:Nat}{p:PV}(h:bV i env=some p):env[i]?=some (some p):=by
 unfold bV at h
 split at h
 ·rename_i o e;rw[e,h]
 ·cases h
theorem aa (i:Nat){pos:Pos}(hN:X.N[i]?=some x:=by rfl)(hv:LZ X.env.scope x:=by first | exact eT rfl | exact e9 (eT rfl) | exact e9 (e9 rfl))(hG:i∉G:=by decide)(hd:(x == ("__debug__" : Str))=false:=by decide)
  (D9:(x == ("__classdict__" : Str))=false:=by decide):SE X b G .val (.Name x pos) (bV i):=PE.imp (iD hN hv hd D9)<|by
 rintro σ H Q ⟨Ow,env,p,E,hf,k⟩
 obtain⟨v,e,r⟩:=E.val i p (fK hf) hG
 exact⟨v,e,k v H (zS.refl _) r⟩
theorem jO (i:Nat){pos:Pos}(hN:X.N[i]?=some x:=by rfl)(hv:LZ X.env.scope x:=by first | exact eT rfl | exact e9 (eT rfl) | exact e9 (e9 rfl))(hd:(x == ("__debug__" : Str))=false:=by decide)
  (D9:(x == ("__classdict__" : Str))=false:=by decide):SE X b G .bor (.Name x pos) (bV i):=PE.imp (iD hN hv hd D9)<|by
 rintro σ H Q ⟨Ow,env,p,E,hf,k⟩
 by_cases hG:i∈G
 ·obtain⟨a,e,_,t⟩:=E.own i p (fK hf) hG
  exact⟨_,e,k _ H (zS.refl _) (.inr ⟨a,rfl,t⟩)⟩
 ·obtain⟨v,e,r⟩:=E.val i p (fK hf) hG
  exact⟨v,e,k v H (zS.refl _) (.inl r)⟩
theorem RN {q:PV}{pos:Pos}(hm:X.mg x=some (.ref a))(hr:∀A H,Rep b.C A H (.ref a) q)(hg:Gl X x:=by rfl)(hd:(x == ("__debug__" : Str))=false:=by decide):SE X b G .val (.Name x pos) (bC q):=
 PE.imp (j0 hg hm (v:=.ref a) rfl hd)<|by rintro σ H Q ⟨Ow,env,p,E,hf,k⟩;cases hf;exact k _ H (zS.refl _) (hr _ _)
theorem qP {op:Operator}{r:R2}(ho:BN X (binaryOp op) r)(hr:F3 b m r g){m1 m2:Md}(h1:SE X b G m1 e1 f1)(h2:SE X b G m2 e2 f2):SE X b G m (.BinOp e1 op e2 pos) (b2 g f1 f2):=
 PE.imp (Kf ho h1.bor h2.bor) fun σ H Q h=>Ds hr h
theorem dM {m1 m2:Md}(h1:SE X b G m1 e1 f1)(h2:SE X b G m2 e2 f2):SE X b G .val (.BinOp e1 .Add e2 pos) (b2 fZ f1 f2):=qP (BN.or (BN.or Oh Dc) O5) PK h1 h2
theorem PL {m1 m2:Md}(h1:SE X b G m1 e1 f1)(h2:SE X b G m2 e2 f2):SE X b G .val (.BinOp e1 .Sub e2 pos) (b2 Po f1 f2):=qP Oi Py h1 h2
theorem uD {m1 m2:Md}(h1:SE X b G m1 e1 f1)(h2:SE X b G m2 e2 f2):SE X b G .val (.BinOp e1 .Mult e2 pos) (b2 sJ f1 f2):=qP Oj Pz h1 h2
theorem m7 {m1 m2:Md}(h1:SE X b G m1 e1 f1)(h2:SE X b G m2 e2 f2):SE X b G .val (.BinOp e1 .FloorDiv e2 pos) (b2 l_ f1 f2):=qP KJ PB h1 h2
theorem gf {m1 m2:Md}(h1:SE X b G m1 e1 f1)(h2:SE X b G m2 e2 f2):SE X b G .val (.BinOp e1 .Mod e2 pos) (b2 ie f1 f2):=qP Ol PJ h1 h2
end
@[simp] noncomputable def OC:PV->PV->Option Bool
 | .Au,.Au=>some true
 | .Au,.int _=>some false | .int _,.Au=>some false | .Au,.bl _=>some false | .bl _,.Au=>some false | .Au,.str _=>some false | .str _,.Au=>some false
 | .int i,.int j=>some (decide (i=j))
 | .bl i,.bl j=>some (decide (i=j))
 | .str i,.str j=>some (decide (i=j))
 | .int _,.str _=>some false | .str _,.int _=>some false | .bl _,.str _=>some false | .str _,.bl _=>some false
 | _,_=>none
mutual
noncomputable def toD:PV->Option PyData
 | .Au=>some .none
 | .bl b=>some (.bool b)
 | .int i=>some (.int i)
 | .str x=>some (.str x)
 | .lst xs=>(dO xs).map .list
 | .frz xs=>(dO xs).map .list
 | .tup xs=>(dO xs).map .tuple
 | .ktp xs=>(dO xs).map .tuple
 | _=>none
noncomputable def dO:List PV->Option (List PyData)
 | []=>some []
 | x::xs=>match toD x,dO xs with
  | some d,some ds=>some (d::ds)
  | _,_=>none
end
noncomputable def Sb (x y:PV):Option Bool:=match toD x,toD y with
 | some d,some e=>if SeqAt.shaped d=true/\SeqAt.shaped e=true then some (PyData.eqv d e) else none
 | _,_=>none
noncomputable def F4 (x y:PV):Option Bool:=match OC x y with
 | some k=>some k
 | none=>Sb x y
noncomputable def eqQ (x y:PV):Option PV:=(F4 x y).map .bl
@[simp] theorem T9 (x y:PV):eqQ x y=((F4 x y).map .bl):=id rfl
noncomputable def OE (x y:PV):Option PV:=(F4 x y).map λk=>.bl (!k)
@[simp] theorem T_ (x y:PV):OE x y=((F4 x y).map λk=>.bl (!k)):=id rfl
theorem Rep.dt2:(∀{v p},Rep C A H v p->∀d,toD p=some d->Dt C.K H v d)/\(∀{v p},zI C A H v p->∀d,dO p=some d->KA C.K H v d):=by
 have l:∀{a vs xs},A0 C.K H a vs->(∀d,dO xs=some d->KA C.K H vs d)->∀d,(dO xs).map .list=some d->Dt C.K H (.ref a) d:=by
  intro a vs xs h r d e
  obtain⟨x,hx,rfl⟩:=bX.mp e
  exact .lst h (r x hx)
 have t:∀{a vs xs},B6 C.K H a vs->(∀d,dO xs=some d->KA C.K H vs d)->∀d,(dO xs).map .tuple=some d->Dt C.K H (.ref a) d:=by
  intro a vs xs h r d e
  obtain⟨x,hx,rfl⟩:=bX.mp e
  exact .tup h (r x hx)
 have nd:=Rep.nd (C:=C) (A:=A) (H:=H) (M1:=λv p=>∀d,toD p=some d->Dt C.K H v d) (M2:=λv p=>∀d,dO p=some d->KA C.K H v d) (M3:=λ_ _=>True) (M4:=λ_ _=>True) (M5:=λ_ _=>True)
  ?_ ?_ ?_ ?_ ?_ ?_ ?_ ?_ ?_ ?_ ?_ ?_ ?_ ?_ ?_ trivial (λ_ _ _ _=>trivial) trivial (λ_ _ _ _=>trivial) trivial (λ_ _ _ _=>trivial)
 ·exact⟨nd.1,nd.2.1⟩
 ·intro d e;simp only[toD] at e;cases e;exact .Au
 ·intro b d e;simp only[toD] at e;cases e;exact .bl b
 ·intro b d e;simp only[toD] at e;cases e;exact .int b
 ·intro b d e;simp only[toD] at e;cases e;exact .str b
 ·intro a vs xs h _ _ r d e;simp only[toD] at e;exact l (A0.of h) r d e
 ·intro a o vs xs h _ r d e;simp only[toD] at e;exact l (.inl (.inr ⟨_,h⟩)) r d e
 ·intro a vs xs h _ r d e;simp only[toD] at e;exact l (Vs h) r d e
 ·intro a vs xs h _ r d e;simp only[toD] at e;exact t (B6.of h) r d e
 ·intro a vs xs h _ r d e;simp only[toD] at e;exact t (.inr h) r d e
 ·intro a vs xs h _ r d e;simp only[toD] at e;exact t (kO h) r d e
 ·intro a vs xs h _ _ _ d e;simp only[toD] at e;cases e
 ·intro a vs xs h _ _ _ d e;simp only[toD] at e;cases e
 ·intro a dx c f fs h _ _ _ d e;simp only[toD] at e;cases e
 ·intro d e;simp only[dO] at e;cases e;exact .nil
 ·intro v p vs ps _ _ h t d e
  simp only[dO] at e
  cases q:toD p with
  | none=>rw[q] at e;cases e
  | some d=>
   cases q2:dO ps with
   | none=>rw[q,q2] at e;cases e
   | some ds=>rw[q,q2] at e;cases e;exact .cons (h _ q) (t _ q2)
theorem Rep.dt {p:PV}{d:PyData}(h:Rep C A H v p)(e:toD p=some d):Dt C.K H v d:=Rep.dt2.1 h d e
theorem Ap.dt {C:MC}{A:Addr->Prop}{H:Hp}{v:V}{p:PV}{d:PyData}(h:Ap C A H v p)(e:toD p=some d):Dt C.K H v d:=by
 rcases h with h | ⟨a,rfl,t⟩
 ·exact h.dt e
 ·cases p with
  | lst xs=>
   obtain⟨vs,q,r⟩:=t
   exact(Rep.lst (A:=λ_=>True) q fk (r.ex (aV λ_ _ _ _=>fk))).dt e
  | dK kvs=>simp only[toD] at e;cases e
  | dT kvs=>simp only[toD] at e;cases e
  | obj c fs=>simp only[toD] at e;cases e
  | _=>exact t.elim
theorem zg {u:V}{p q:PV}{k:Bool}(h:Ap C A H v p)(h':Ap C A H u q)(e:OC p q=some k):HN v u=true/\decide (v=u)=k:=by
 unfold OC at e
 split at e <;> first | cases e | skip
 ·rw[h.Au,h'.Au];exact⟨rfl,rfl⟩
 ·rw[h.Au,h'.int];exact⟨rfl,rfl⟩
 ·rw[h.int,h'.Au];exact⟨rfl,rfl⟩
 ·rw[h.Au,h'.bl];exact⟨rfl,rfl⟩
 ·rw[h.bl,h'.Au];exact⟨rfl,rfl⟩
 ·rw[h.Au,h'.str];exact⟨rfl,rfl⟩
 ·rw[h.str,h'.Au];exact⟨rfl,rfl⟩
 ·rw[h.int,h'.int];exact⟨rfl,by simp⟩
 ·rw[h.bl,h'.bl];exact⟨rfl,by simp⟩
 ·rw[h.str,h'.str];exact⟨rfl,by simp⟩
 ·rw[h.int,h'.str];exact⟨rfl,rfl⟩
 ·rw[h.str,h'.int];exact⟨rfl,rfl⟩
 ·rw[h.bl,h'.str];exact⟨rfl,rfl⟩
 ·rw[h.str,h'.bl];exact⟨rfl,rfl⟩
def PN (K:W.Frag):R2:=λx y H Q=>rEq x y H Q\/∃d e,Dt K H x d/\Dt K H y e/\SeqAt.shaped d=true/\SeqAt.shaped e=true/\Q (.bl (PyData.eqv d e)) H
def PP (K:W.Frag):R2:=λx y H Q=>rNe x y H Q\/∃d e,Dt K H x d/\Dt K H y e/\SeqAt.shaped d=true/\SeqAt.shaped e=true/\Q (.bl (!PyData.eqv d e)) H
section
variable {b:BX}
theorem RP:F3 b .val (PN b.C.K) eqQ:=by
 intro Ow H v1 v2 p1 p2 p Q hn r1 r2 e k
 unfold eqQ F4 at e
 cases q:OC p1 p2 with
 | some c=>
  rw[q] at e
  cases e
  obtain⟨h1,h2⟩:=zg r1 r2 q
  exact .inl ⟨h1,by rw[h2];exact k _ H (zS.refl _) (.bl c)⟩
 | none=>
  rw[q] at e
  simp only[Sb] at e
  cases q1:toD p1 with
  | none=>rw[q1] at e;cases e
  | some d=>
   cases q2:toD p2 with
   | none=>rw[q1,q2] at e;cases e
   | some d'=>
    rw[q1,q2] at e
    simp only at e
    split at e
    ·rename_i hs
     cases e
     exact .inr ⟨d,d',r1.dt q1,r2.dt q2,hs.1,hs.2,k _ H (zS.refl _) (.bl _)⟩
    ·cases e
theorem RQ:F3 b .val (PP b.C.K) OE:=by
 intro Ow H v1 v2 p1 p2 p Q hn r1 r2 e k
 unfold OE F4 at e
 cases q:OC p1 p2 with
 | some c=>
  rw[q] at e
  cases e
  obtain⟨h1,h2⟩:=zg r1 r2 q
  exact .inl ⟨h1,by rw[h2];exact k _ H (zS.refl _) (.bl _)⟩
 | none=>
  rw[q] at e
  simp only[Sb] at e
  cases q1:toD p1 with
  | none=>rw[q1] at e;cases e
  | some d=>
   cases q2:toD p2 with
   | none=>rw[q1,q2] at e;cases e
   | some d'=>
    rw[q1,q2] at e
    simp only at e
    split at e
    ·rename_i hs
     cases e
     exact .inr ⟨d,d',r1.dt q1,r2.dt q2,hs.1,hs.2,k _ H (zS.refl _) (.bl _)⟩
    ·cases e
end
@[simp] noncomputable def keyOf:PV->Option Key
 | .int i=>some (.inl i)
 | .str x=>some (.inr x)
 | _=>none
@[simp] noncomputable def Dv:PV->Option zD
 | .int i=>some (.k (.inl i))
 | .str x=>some (.k (.inr x))
 | _=>none
@[simp] noncomputable def qd (f:PV->Option zD):List PV->Option (List zD)
 | []=>some []
 | x::xs=>(f x).bind λk=>(qd f xs).bind λks=>some (k::ks)
@[simp] noncomputable def ig (f:PV->Option zD):List PV->Option (List zD)
 | [.str x,.bl b]=>some [.k (.inr x),.k (.inl (if b=true then 1 else 0))]
 | xs=>qd f xs
@[simp] noncomputable def Dw (f:PV->Option zD):PV->Option zD
 | .tup xs=>(ig f xs).map .tp
 | .ktp xs=>(ig f xs).map .tp
 | x=>Dv x
@[simp] noncomputable def AD (xs:List PV):Option (List zD):=ig (Dw (Dw Dv)) xs
@[simp] def dH:PV->Bool
 | .Au=>true
 | .bl _=>true
 | .int _=>true
 | .str _=>true
 | _=>false
noncomputable def Pt:PV->PV->Bool
 | .Au,.Au=>true
 | .bl a,.bl b=>a == b
 | .bl a,.int b=>(if a then 1 else 0) == b
 | .int a,.bl b=>a == (if b then 1 else 0)
 | .int a,.int b=>a == b
 | .str a,.str b=>a == b
 | _,_=>false
noncomputable def aJ {κ:Type}[DecidableEq κ](kvs:List (κ×PV))(k:κ):Option PV:=(kvs.find? λx=>decide (x.1=k)).map (·.2)
noncomputable def inD (x:PV)(ys:List PV):Option Bool:=match toD x,dO ys with
 | some d,some ds=>if PyData.canLayAll0 ds=true/\d.canLay0=true/\d.depth<=32 then some (ds.any λy=>PyData.eqv y d) else none
 | _,_=>none
theorem oA {x:PV}{ys:List PV}{k:Bool}(h:inD x ys=some k):∃d ds,toD x=some d/\dO ys=some ds/\PyData.canLayAll0 ds=true/\d.canLay0=true/\d.depth<=32/\(ds.any λy=>PyData.eqv y d)=k:=by
 unfold inD at h
 split at h
 ·rename_i d ds h1 h2
  split at h
  ·rename_i hc
   exact⟨d,ds,h1,h2,hc.1,hc.2.1,hc.2.2,be h⟩
  ·cases h
 ·cases h
noncomputable def ML:PV->PV->Option Bool
 | x,.lst ys=>if dH x=true/\ys.all dH=true then some (ys.any λy=>Pt y x) else inD x ys
 | x,.frz ys=>if dH x=true/\ys.all dH=true then some (ys.any λy=>Pt y x) else inD x ys
 | x,.ktp ys=>if dH x=true/\ys.all dH=true then some (ys.any λy=>Pt y x) else inD x ys
 | x,.tup ys=>if dH x=true/\ys.all dH=true then some (ys.any λy=>Pt y x) else inD x ys
 | .str x,.str y=>some (!(Builtin.Str.occurrences y x 0 y.length 1).isEmpty)
 | x,.dK kvs=>(keyOf x).map λk=>(aJ kvs k).isSome
 | .tup xs,.dT kvs=>(AD xs).map λk=>(aJ kvs k).isSome
 | _,_=>none
theorem vM {p:PV}{k:zD}(r:Rep C A H v p)(e:Dv p=some k):∃x,k=.k x/\v=kV x:=by
 cases r with
 | int i=>cases e;exact⟨_,rfl,rfl⟩
 | str x=>cases e;exact⟨_,rfl,rfl⟩
 | _=>cases e
theorem BV {C:MC}{A:Addr->Prop}{H:Hp}{f:PV->Option zD}{R:zD->V->Prop}(hf:∀v p k,Rep C A H v p->f p=some k->R k v):∀{vs:List V}{ps:List PV}{ks:List zD},zI C A H vs ps->qd f ps=some ks->Paired R ks vs
 | _,_,_,.nil,e=>by cases e;exact .nil
 | _,_,_,.cons (p:=p) (ps:=ps) h t,e=>by
  unfold qd at e
  obtain⟨k,hk,e⟩:=al.mp e
  obtain⟨ks,YY,e⟩:=al.mp e
  cases e
  exact .cons (hf _ _ _ h hk) (BV hf t YY)
variable {ps:List PV}
theorem qQ {f:PV->Option zD}{R:zD->V->Prop}(hf:∀v p k,Rep C A H v p->f p=some k->R k v){ks:List zD}(r:zI C A H vs ps)(e:ig f ps=some ks):Paired R ks vs\/KB ks vs:=by
 unfold ig at e
 split at e
 ·cases e
  cases r with
  | cons h1 t=>cases t with
   | cons h2 t=>cases t;cases h1;cases h2;exact .inr ⟨_,_,rfl,rfl⟩
 ·exact .inl (BV hf r e)
theorem BW {f:PV->Option zD}{d:Nat}(hf:∀v p k,Rep C A H v p->f p=some k->NV C.K H d k v)(v:V)(p:PV)(k:zD)(r:Rep C A H v p)(e:Dw f p=some k):NV C.K H (d+1) k v:=by
 cases r with
 | tup h q=>
  obtain⟨ks,hk,e⟩:=bX.mp (show (ig f _).map zD.tp=some k from e)
  exact .inr ⟨ks,_,_,e.symm,rfl,.inl h,qQ hf q hk⟩
 | Cf h q=>
  obtain⟨ks,hk,e⟩:=bX.mp (show (ig f _).map zD.tp=some k from e)
  exact .inr ⟨ks,_,_,e.symm,rfl,.inr h,qQ hf q hk⟩
 | tupK h q=>
  obtain⟨ks,hk,e⟩:=bX.mp (show (ig f _).map zD.tp=some k from e)
  refine .inr ⟨ks,_,_,e.symm,rfl,.inr ?_,qQ hf q hk⟩
  rcases h with (h | ⟨o,h⟩) | h
  ·cases h
  ·cases h
  ·exact h
 | int i=>exact .inl (vM (Rep.int (C:=C) (A:=A) (H:=H) i) e)
 | str x=>exact .inl (vM (Rep.str (C:=C) (A:=A) (H:=H) x) e)
 | _=>cases e
theorem zI.AD {C:MC}{A:Addr->Prop}{H:Hp}{vs:List V}{ps:List PV}{ks:List zD}(r:zI C A H vs ps)(e:AD ps=some ks):GB C.K H ks vs:=
 qQ (BW (d:=1) (BW (d:=0) λv p k r e=>show ∃x,k=.k x/\v=kV x from vM r e)) r e
theorem Ap.key {p:PV}{k:Key}(h:Ap C A H v p)(e:keyOf p=some k):v=kV k:=by
 unfold keyOf at e
 split at e
 ·cases e;exact h.int
 ·cases e;exact h.str
 ·cases e
theorem Ap.flat {p:PV}(h:Ap C A H v p)(e:dH p=true):gq v=true:=by
 unfold dH at e
 split at e
 ·rw[h.Au];rfl
 ·rw[h.bl];rfl
 ·rw[h.int];rfl
 ·rw[h.str];rfl
 ·cases e
noncomputable def fV:PV->V
 | .bl b=>.bl b
 | .int i=>.int i
 | .str x=>.str x
 | _=>.Au
theorem Ap.fV {C:MC}{A:Addr->Prop}{H:Hp}{v:V}{p:PV}(h:Ap C A H v p)(e:dH p=true):v=fV p:=by
 cases p with
 | Au=>exact h.Au
 | bl b=>exact h.bl
 | int i=>exact h.int
 | str x=>exact h.str
 | _=>cases e
theorem RT (p q:PV)(hp:dH p=true)(hq:dH q=true):L2.OX (fV p) (fV q)=Pt p q:=by
 cases p <;> cases q <;> first | rfl | (cases hp;done) | (cases hq;done)
theorem zI.flat {C:MC}{A:Addr->Prop}{H:Hp}{v:V}{p:PV}(h:Ap C A H v p)(e:dH p=true):∀{vs:List V}{ps:List PV},zI C A H vs ps->ps.all dH=true->vs.all gq=true/\VY v vs=ps.any λy=>Pt y p
 | _,_,.nil,_=>⟨rfl,rfl⟩
 | _,_,.cons (v:=v') (p:=p') (vs:=vs) (ps:=ps) q t,e'=>by
  rw[jv,b6] at e'
  obtain⟨h1,h2⟩:=zI.flat h e t e'.2
  have hf:gq v'=true:=Ap.flat (.inl q) e'.1
  refine⟨by rw[jv,hf,h1];rfl,?_⟩
  unfold VY at h2 ⊢
  rw[eR,eR,h2]
  have q1:=h.fV e
  have q2:=Ap.fV (.inl q) e'.1
  rw[q1,q2,RT _ _ e'.1 e]
section
variable {X:Cx}
def PQ (K:W.Frag)(neg:Bool):R2:=λx y H Q=>∃d ds,(Dt K H y (.list ds)\/Dt K H y (.tuple ds))/\Dt K H x d/\PyData.canLayAll0 ds=true/\d.canLay0=true/\d.depth<=32/\Q (.bl (if neg then !(ds.any λy=>PyData.eqv y d) else ds.any λy=>PyData.eqv y d)) H
theorem Gp (hu:X.A.units+64 < cLine):BN X (compareOp .NotIn) (PQ X.K true):=by
 intro zC s σ H x y v u Q I rx ry h
 obtain⟨d,ds,h1,h2,c1,c2,c3,q⟩:=h
 have hm:min (PyData.depthAll ds) d.depth<=d.depth:=Nat.min_le_right _ _
 obtain⟨as,ra⟩:=h2.reads I rx
 rcases h1 with h1 | h1
 ·obtain⟨bs,rb⟩:=h1.reads I ry
  exact PySem.SeqAt.notIn_list_reads rb ra c1 c2 (by omega) ⟨.bl _,H,I,rfl,q⟩
 ·obtain⟨bs,rb⟩:=h1.reads I ry
  exact PySem.SeqAt.notIn_tuple_reads rb ra c1 c2 (by omega) ⟨.bl _,H,I,rfl,q⟩
theorem Gq (hu:X.A.units+9 < cLine):BN X (compareOp .NotIn) (λx y H Q=>∃a o,y=.ref a/\A5 X.K H a x o/\Q (.bl (!o.isSome)) H):=by
 intro zC s σ H x y v u Q I rx ry h
 obtain⟨a,o,rfl,g,q⟩:=h
 obtain rfl:u=Value.ref a:=ry
 exact By hu I g rx λs3 I3=>⟨.bl (!o.isSome),H,I3,rfl,q⟩
end
def BZ (K:W.Frag):R2:=λx y H Q=>(rIn K true x y H Q\/∃i j,x=.str i/\y=.str j/\Q (.bl (!(!(Builtin.Str.occurrences j i 0 j.length 1).isEmpty))) H)\/(∃a o,y=.ref a/\A5 K H a x o/\Q (.bl (!o.isSome)) H)\/PQ K true x y H Q
noncomputable def kW (x y:PV):Option PV:=(ML x y).map λk=>.bl (!k)
@[simp] theorem Sv (x y:PV):kW x y=((ML x y).map λk=>.bl (!k)):=id rfl
theorem PX {v1 v2:V}{p1 p2:PV}{k:Bool}(r1:Ap C A H v1 p1)(r2:Ap C A H v2 p2)(e:ML p1 p2=some k):
  (∃p xs,v2=.ref p/\(A0 C.K H p xs\/B6 C.K H p xs)/\gq v1=true/\xs.all gq=true/\VY v1 xs=k)\/(∃i j,v1=.str i/\v2=.str j/\(!(Builtin.Str.occurrences j i 0 j.length 1).isEmpty)=k)\/(∃a o,v2=.ref a/\A5 C.K H a v1 o/\o.isSome=k)\/∃d ds,(Dt C.K H v2 (.list ds)\/Dt C.K H v2 (.tuple ds))/\Dt C.K H v1 d/\PyData.canLayAll0 ds=true/\d.canLay0=true/\d.depth<=32/\(ds.any λy=>PyData.eqv y d)=k:=by
 unfold ML at e
 split at e
 ·split at e
  ·rename_i h
   cases e
   obtain⟨a,vs,rfl,ha,ra⟩:=r2.lst
   obtain⟨h1,h2⟩:=zI.flat r1 h.1 ra h.2
   exact .inl ⟨a,vs,rfl,.inl (A0.of ha),r1.flat h.1,h1,h2⟩
  ·obtain⟨d,ds,t1,t2,c1,c2,c3,c4⟩:=oA e
   exact .inr (.inr (.inr ⟨d,ds,.inl (r2.dt (by simp[toD,t2])),r1.dt t1,c1,c2,c3,c4⟩))
 ·split at e
  ·rename_i h
   cases e
   obtain⟨a,vs,rfl,ha,ra⟩:=r2.frz
   obtain⟨h1,h2⟩:=zI.flat r1 h.1 ra h.2
   exact .inl ⟨a,vs,rfl,.inl ha,r1.flat h.1,h1,h2⟩
  ·obtain⟨d,ds,t1,t2,c1,c2,c3,c4⟩:=oA e
   exact .inr (.inr (.inr ⟨d,ds,.inl (r2.dt (by simp[toD,t2])),r1.dt t1,c1,c2,c3,c4⟩))
 ·split at e
  ·rename_i h
   cases e
   obtain⟨a,vs,rfl,ha,ra⟩:=r2.ktp
   obtain⟨h1,h2⟩:=zI.flat r1 h.1 ra h.2
   exact .inl ⟨a,vs,rfl,.inr ha,r1.flat h.1,h1,h2⟩
  ·obtain⟨d,ds,t1,t2,c1,c2,c3,c4⟩:=oA e
   exact .inr (.inr (.inr ⟨d,ds,.inr (r2.dt (by simp[toD,t2])),r1.dt t1,c1,c2,c3,c4⟩))
 ·split at e
  ·rename_i h
   cases e
   obtain⟨a,vs,rfl,ha,ra⟩:=r2.tup
   obtain⟨h1,h2⟩:=zI.flat r1 h.1 ra h.2
   exact .inl ⟨a,vs,rfl,.inr ha.sq,r1.flat h.1,h1,h2⟩
  ·obtain⟨d,ds,t1,t2,c1,c2,c3,c4⟩:=oA e
   exact .inr (.inr (.inr ⟨d,ds,.inr (r2.dt (by simp[toD,t2])),r1.dt t1,c1,c2,c3,c4⟩))
 ·cases e
  exact .inr (.inl ⟨_,_,r1.str,r2.str,rfl⟩)
 ·obtain⟨a,kv,rfl,ha,ra⟩:=r2.dK
  cases q:keyOf p1 with
  | none=>rw[q] at e;cases e
  | some ky=>
   rw[q] at e
   cases e
   rw[r1.key q]
   refine .inr (.inr (.inl ⟨a,_,rfl,A5.k ha,?_⟩))
   unfold aJ
   dsimp only
   rcases AJ.val (k:=ky) ra with ⟨v,p,h1,h2,_⟩ | ⟨h1,h2⟩
   ·rw[h1,h2];rfl
   ·rw[h1,h2];rfl
 ·rename_i xs kvs
  obtain⟨a,kv,rfl,ha,ra⟩:=r2.dT
  obtain⟨c,vs,rfl,hc,rc⟩:=r1.tup
  cases q:AD xs with
  | none=>rw[q] at e;cases e
  | some ky=>
   rw[q] at e
   cases e
   refine .inr (.inr (.inl ⟨a,_,rfl,A5.t ha (hc.key (rc.AD q)),?_⟩))
   unfold aJ
   dsimp only
   rcases AN.val (k:=ky) ra with ⟨v,p,h1,h2,_⟩ | ⟨h1,h2⟩
   ·rw[h1,h2];rfl
   ·rw[h1,h2];rfl
 ·cases e
section
variable {b:BX}
theorem Io:F3 b .val (BZ b.C.K) kW:=by
 intro Ow H v1 v2 p1 p2 p Q hn r1 r2 e k
 unfold kW at e
 cases q:ML p1 p2 with
 | none=>rw[q] at e;cases e
 | some c=>
  rw[q] at e
  cases e
  have fin:=k (.bl (!c)) H (zS.refl _) (.bl _)
  rcases PX r1 r2 q with ⟨a,xs,rfl,h1,h2,h3,h4⟩ | ⟨i,j,rfl,rfl,h1⟩ | ⟨a,o,rfl,h1,h2⟩ | ⟨d,ds,h1,h2,c1,c2,c3,h4⟩
  ·subst h4;exact .inl (.inl ⟨a,xs,rfl,h1,h2,h3,fin⟩)
  ·subst h1;exact .inl (.inr ⟨i,j,rfl,rfl,fin⟩)
  ·subst h2;exact .inr (.inl ⟨a,o,rfl,h1,fin⟩)
  ·subst h4;exact .inr (.inr ⟨d,ds,h1,h2,c1,c2,c3,fin⟩)
end
@[simp] noncomputable def sO:PV->Bool
 | .Au=>true
 | _=>false
noncomputable def Jn (x y:PV):Option PV:=match y with
 | .Au=>some (.bl (sO x))
 | _=>none
@[simp] theorem Ua (x y:PV):Jn x y=(match y with
 | .Au=>some (.bl (sO x))
 | _=>none):=id rfl
noncomputable def iG (x y:PV):Option PV:=match y with
 | .Au=>some (.bl (!sO x))
 | _=>none
@[simp] theorem Sw (x y:PV):iG x y=(match y with
 | .Au=>some (.bl (!sO x))
 | _=>none):=id rfl
theorem Ap.Jn {p:PV}(h:Ap C A H v p):decide (v=.Au)=sO p:=by
 cases p with
 | Au=>rw[h.Au];rfl
 | bl b=>rw[h.bl];rfl
 | int b=>rw[h.int];rfl
 | str b=>rw[h.str];rfl
 | lst b=>obtain⟨a,_,rfl,_⟩:=h.lst;rfl
 | frz b=>obtain⟨a,_,rfl,_⟩:=h.frz;rfl
 | tup b=>obtain⟨a,_,rfl,_⟩:=h.tup;rfl
 | ktp b=>obtain⟨a,_,rfl,_⟩:=h.ktp;rfl
 | dK b=>obtain⟨a,_,rfl,_⟩:=h.dK;rfl
 | dT b=>obtain⟨a,_,rfl,_⟩:=h.dT;rfl
 | obj c b=>obtain⟨a,_,_,rfl,_⟩:=h.obj;rfl
section
variable {b:BX}
theorem P0:F3 b .val (λx y H Q=>y=.Au/\Q (.bl (decide (x=.Au))) H) Jn:=by
 intro Ow H v1 v2 p1 p2 p Q hn r1 r2 e k
 cases p2 with
 | Au=>
  simp only[Jn] at e
  cases e
  exact⟨r2.Au,by rw[r1.Jn];exact k _ H (zS.refl _) (.bl _)⟩
 | _=>simp only[Jn] at e;cases e
theorem Gr:F3 b .val (λx y H Q=>y=.Au/\Q (.bl (!decide (x=.Au))) H) iG:=by
 intro Ow H v1 v2 p1 p2 p Q hn r1 r2 e k
 cases p2 with
 | Au=>
  simp only[iG] at e
  cases e
  exact⟨r2.Au,by rw[r1.Jn];exact k _ H (zS.refl _) (.bl _)⟩
 | _=>simp only[iG] at e;cases e
end
section
variable {X:Cx}{b:BX}{G:qc}{m:Md}{e e1 e2 e3:Expr}{f f1 f2 f3:qB}{pos:Pos}{m1 m2 m3:Md}
structure SC (X:Cx)(b:BX)(G:qc)(op:CmpOp)(e1 e2:Expr)(f:qB):Prop where
 pe:∀pos,SE X b G .val (.Compare e1 [op] [e2] pos) f
 pt:∀pos,ST X b G (.Compare e1 [op] [e2] pos) (tV f)
theorem lO {op:CmpOp}{r:R2}(ho:BN X (compareOp op) r)(hr:F3 b .val r g)(h1:SE X b G m1 e1 f1)(h2:SE X b G m2 e2 f2)(hm:behindInMarks op e2=false):SC X b G op e1 e2 (b2 g f1 f2):=by
 refine⟨λpos=>PE.imp (KN ho h1.bor h2.bor hm) fun σ H Q h=>Ds hr h,λpos=>PT.imp (KQ ho h1.bor h2.bor hm) fun σ H Q h=>?_⟩
 obtain⟨Ow,env,c,E,hf,k⟩:=h
 unfold tV at hf
 cases q:b2 g f1 f2 env with
 | none=>rw[q] at hf;cases hf
 | some p=>
  rw[q] at hf
  refine Ds (Q:=λx H'=>∃k,x=.bl k/\_) hr ⟨Ow,env,p,E,q,λv H' s r=>?_⟩
  cases p with
  | bl d=>
   cases hf
   cases r
   exact⟨_,rfl,k H' s⟩
  | _=>cases hf
theorem dW {j:Nat}(hr:AR j X.A)(h1:SE X b G m1 e1 f1)(h2:SE X b G m2 e2 f2)(hK:X.K=b.C.K:=by rfl):SC X b G .Eq e1 e2 (b2 eqQ f1 f2):=lO (r:=PN b.C.K) (by rw[← hK];exact BN.or Rt (O7 hr.units)) RP h1 h2 (j8 _)
theorem qR {j:Nat}(hr:AR j X.A)(h1:SE X b G m1 e1 f1)(h2:SE X b G m2 e2 f2)(hK:X.K=b.C.K:=by rfl):SC X b G .NotEq e1 e2 (b2 OE f1 f2):=lO (r:=PP b.C.K) (by rw[← hK];exact BN.or Ru (O8 hr.units)) RQ h1 h2 (j8 _)
theorem uE (h1:SE X b G m1 e1 f1)(h2:SE X b G m2 e2 f2):SC X b G .Lt e1 e2 (b2 (jN λi j=>decide (i < j)) f1 f2):=lO Rv Gn h1 h2 (j8 _)
theorem Dy (h1:SE X b G m1 e1 f1)(h2:SE X b G m2 e2 f2):SC X b G .Gt e1 e2 (b2 (jN λi j=>decide (j < i)) f1 f2):=lO Rx Gn h1 h2 (j8 _)
theorem sS {j:Nat}(hr:AR j X.A)(h1:SE X b G m1 e1 f1)(h2:SE X b G m2 e2 f2)(hm:behindInMarks .NotIn e2=false:=by rfl)(hK:X.K=b.C.K:=by rfl):SC X b G .NotIn e1 e2 (b2 kW f1 f2):=
 lO (r:=BZ b.C.K) (by rw[← hK];exact BN.or (BN.or yX yZ) (BN.or (Gq (dh hr)) (Gp hr.units))) Io h1 h2 hm
theorem qT (h1:SE X b G m1 e1 f1)(h2:SE X b G m2 e2 f2):SC X b G .Is e1 e2 (b2 Jn f1 f2):=lO Oo P0 h1 h2 (j8 _)
theorem oE (h1:SE X b G m1 e1 f1)(h2:SE X b G m2 e2 f2):SC X b G .IsNot e1 e2 (b2 iG f1 f2):=lO Bw Gr h1 h2 (j8 _)
theorem dg {op:CmpOp}(h:SC X b G op e1 e2 f):SE X b G .val (.Compare e1 [op] [e2] pos) f:=h.pe pos
theorem bz {op:CmpOp}(h:SC X b G op e1 e2 f):ST X b G (.Compare e1 [op] [e2] pos) (tV f):=h.pt pos
theorem qe {op}(h:SE X b G m e f):SE X b G m (.BoolOp op [e] pos) f:=N5 h
theorem Gs {rest:qk}(h1:SE X b G .val e1 f1)(h2:SE X b G .val (.BoolOp .And (e2::rest) pos) f2):SE X b G .val (.BoolOp .And (e1::e2::rest) pos) (zf f1 f2):=
 PE.imp (N6 h1 h2)<|by
  rintro σ H Q ⟨Ow,env,p,E,hf,k⟩
  unfold zf at hf
  cases q1:f1 env with
  | none=>rw[q1] at hf;cases hf
  | some p1=>
   rw[q1] at hf
   refine⟨Ow,env,p1,E,q1,λv1 H1 s1 r1=>?_⟩
   cases p1 with
   | bl c=>
    cases r1
    refine⟨c,rfl,?_⟩
    cases c with
    | true=>exact⟨Ow,env,p,E.up s1,hf,λv H' s r=>k v H' (s1.trans s) r⟩
    | false=>cases hf;exact k _ H1 s1 (.bl false)
   | _=>cases hf
theorem Dz {rest:qk}(h1:SE X b G .val e1 f1)(h2:SE X b G .val (.BoolOp .Or (e2::rest) pos) f2):SE X b G .val (.BoolOp .Or (e1::e2::rest) pos) (Vt f1 f2):=
 PE.imp (Rp h1 h2)<|by
  rintro σ H Q ⟨Ow,env,p,E,hf,k⟩
  unfold Vt at hf
  cases q1:f1 env with
  | none=>rw[q1] at hf;cases hf
  | some p1=>
   rw[q1] at hf
   refine⟨Ow,env,p1,E,q1,λv1 H1 s1 r1=>?_⟩
   cases p1 with
   | bl c=>
    cases r1
    refine⟨c,rfl,?_⟩
    cases c with
    | false=>exact⟨Ow,env,p,E.up s1,hf,λv H' s r=>k v H' (s1.trans s) r⟩
    | true=>cases hf;exact k _ H1 s1 (.bl true)
   | _=>cases hf
theorem P_ (h1:SE X b G .val e1 f1):SE X b G .val (.UnaryOp .Not e1 pos) (Dr f1):=
 PE.imp (N7 h1)<|by
  rintro σ H Q ⟨Ow,env,p,E,hf,k⟩
  unfold Dr at hf
  cases q1:f1 env with
  | none=>rw[q1] at hf;cases hf
  | some p1=>
   rw[q1] at hf
   refine⟨Ow,env,p1,E,q1,λv1 H1 s1 r1=>?_⟩
   cases p1 with
   | bl c=>cases r1;cases hf;exact⟨c,rfl,k _ H1 s1 (.bl _)⟩
   | _=>cases hf
@[simp] noncomputable def sU:PV->Option PV
 | .int i=>some (.int (-i))
 | _=>none
theorem qg (h1:SE X b G m e1 f1):SE X b G .val (.UnaryOp .USub e1 pos) (b1 sU f1):=
 PE.imp (Rr Om h1.bor) fun σ H Q h=>Du (r:=rU λi=>.int (-i)) (λOw H v1 p1 p Q hn r1 e k=>by
  cases p1 <;> simp only[sU] at e <;> cases e
  exact⟨_,r1.int,k _ H (zS.refl _) (.int _)⟩) h
theorem fG (h:SE X b G .val e f)(he:∀whole,isTrue e X.env whole=(do let v ← whole;standAt e.pos;holding [v] (truthy v)):=by intro _;rfl):ST X b G e (tV f):=
 PT.imp (uh h he)<|by
  rintro σ H Q ⟨Ow,env,c,E,hf,k⟩
  unfold tV at hf
  cases q1:f env with
  | none=>rw[q1] at hf;cases hf
  | some p1=>
   rw[q1] at hf
   refine⟨Ow,env,p1,E,q1,λv1 H1 s1 r1=>?_⟩
   cases p1 with
   | bl d=>cases r1;cases hf;exact⟨_,rfl,k H1 s1⟩
   | _=>cases hf
theorem kY {g:Env->Option Bool}(h:ST X b G e g):ST X b G (.UnaryOp .Not e pos) (tN g):=
 PT.imp (Fg h)<|by
  rintro σ H Q ⟨Ow,env,c,E,hf,k⟩
  unfold tN at hf
  cases q1:g env with
  | none=>rw[q1] at hf;cases hf
  | some p1=>rw[q1] at hf;cases hf;exact⟨Ow,env,p1,E,q1,λH' s=>k H' s⟩
abbrev SW (X:Cx)(b:BX)(G:qc)(e:Expr)(g:Env->Option Bool):Prop:=PW X e (Wl b G g)
theorem PW.imp {t u:TT}(h:PW X e t)(i:∀ σ H Q,u σ H Q->t σ H Q):PW X e u:=λwh zC s σ H Q I q=>h wh zC s σ H Q I (i σ H Q q)
variable {g1 g2:Env->Option Bool}
theorem m8 (h:ST X b G e g1):SW X b G (.BoolOp .And [e] pos) g1:=Bq h
theorem kZ (h:ST X b G e g1):SW X b G (.BoolOp .Or [e] pos) g1:=NZ h
theorem qi {rest:qk}(h1:ST X b G e1 g1)(h2:SW X b G (.BoolOp .And (e2::rest) pos) g2):SW X b G (.BoolOp .And (e1::e2::rest) pos) (tA g1 g2):=
 PW.imp (Ff h1 h2)<|by
  rintro σ H Q ⟨Ow,env,c,E,hf,k⟩
  unfold tA at hf
  cases q1:g1 env with
  | none=>rw[q1] at hf;cases hf
  | some p1=>
   rw[q1] at hf
   refine⟨Ow,env,p1,E,q1,λH1 s1=>?_⟩
   cases p1 with
   | true=>exact⟨Ow,env,c,E.up s1,hf,λH' s=>k H' (s1.trans s)⟩
   | false=>cases hf;exact k H1 s1
theorem jz {rest:qk}(h1:ST X b G e1 g1)(h2:SW X b G (.BoolOp .Or (e2::rest) pos) g2):SW X b G (.BoolOp .Or (e1::e2::rest) pos) (tO g1 g2):=
 PW.imp (Rm h1 h2)<|by
  rintro σ H Q ⟨Ow,env,c,E,hf,k⟩
  unfold tO at hf
  cases q1:g1 env with
  | none=>rw[q1] at hf;cases hf
  | some p1=>
   rw[q1] at hf
   refine⟨Ow,env,p1,E,q1,λH1 s1=>?_⟩
   cases p1 with
   | false=>exact⟨Ow,env,c,E.up s1,hf,λH' s=>k H' (s1.trans s)⟩
   | true=>cases hf;exact k H1 s1
theorem SW.st (h:SW X b G e g1):ST X b G e g1:=h _
theorem Ko {c:Expr}(hc:ST X b G c g1)(h1:SE X b G m e1 f1)(h2:SE X b G m e2 f2):SE X b G m (.IfExp c e1 e2 pos) (Wm g1 f1 f2):=
 PE.imp (HB hc h1 h2)<|by
  rintro σ H Q ⟨Ow,env,p,E,hf,k⟩
  unfold Wm at hf
  cases q1:g1 env with
  | none=>rw[q1] at hf;cases hf
  | some c=>
   rw[q1] at hf
   refine⟨Ow,env,c,E,q1,λH1 s1=>?_⟩
   cases c with
   | true=>exact⟨Ow,env,p,E.up s1,hf,λv H' s r=>k v H' (s1.trans s) (r.down s1)⟩
   | false=>exact⟨Ow,env,p,E.up s1,hf,λv H' s r=>k v H' (s1.trans s) (r.down s1)⟩
end
def XO (b:BX)(Ow:Addr->Prop)(L:Bool)(H:Hp)(a:Addr):Prop:=Bs b Ow a\/(L=true/\∃vs,H a=some (.lst vs))
def tMA (b:BX)(G:qc)(L:Bool)(g:Env->Option (List PV)):TA:=fun σ H Q=>∃Ow env ps,ER b Ow G σ env H/\g env=some ps/\∀vs H',zS H H'->zI b.C (XO b Ow L H') H' vs ps->Q vs H'
abbrev SA (X:Cx)(b:BX)(G:qc)(L:Bool)(es:qk)(g:Env->Option (List PV)):Prop:=PA X es (tMA b G L g)
theorem PA.imp {es:qk}{t u:TA}(h:PA X es t)(i:∀ σ H Q,u σ H Q->t σ H Q):PA X es u:=λpos zC s σ H Q I q=>h pos zC s σ H Q I (i σ H Q q)
variable {r:List V->Hp->VK->Prop}{apos:Pos}{σ:St}{ro:Bool}{mi:List PV->Option PV}
section
variable {X:Cx}{b:BX}{G:qc}{m m1 m2:Md}{L:Bool}{e e1 e2:Expr}{es:qk}{f f1 f2:qB}{g:Env->Option (List PV)}{pos p:Pos}
theorem aK:SA X b G L [] aQ:=PA.imp aN<|by rintro σ H Q ⟨Ow,env,ps,E,hg,k⟩;cases hg;exact k [] H (zS.refl _) .nil
theorem aj (h1:SE X b G .val e f)(h2:SA X b G L es g)(hs:starEach (e::es) X.env=(false,eval e X.env)::starEach es X.env:=by rfl):SA X b G L (e::es) (au f g):=
 PA.imp (aB h1 h2 hs)<|by
  rintro σ H Q ⟨Ow,env,ps,E,hg,k⟩
  unfold au at hg
  cases q1:f env with
  | none=>rw[q1] at hg;cases hg
  | some p1=>
   rw[q1] at hg
   cases q2:g env with
   | none=>rw[q2] at hg;cases hg
   | some Wn=>
    rw[q2] at hg
    cases hg
    exact⟨Ow,env,p1,E,q1,λv H1 s1 r1=>⟨Ow,env,Wn,E.up s1,q2,λvs H2 s2 r2=>k (v::vs) H2 (s1.trans s2) (.cons (Rep.ex (λa o h=>⟨λq=>⟨s2 _ _ h,.inl q⟩,λ_=>s2 _ _ h⟩) r1) r2)⟩⟩
noncomputable def bL (f:qB)(env:Env):Option PV:=(f env).bind λp=>match p with | .lst xs=>some (.lst xs) | _=>none
@[simp] theorem Uu (f:qB)(env:Env):bL f env=((f env).bind λp=>match p with | .lst xs=>some (.lst xs) | _=>none):=id rfl
theorem sV (h1:SE X b G m e f)(h2:SA X b G true es g)(hs:starEach (e::es) X.env=(false,eval e X.env)::starEach es X.env:=by rfl):SA X b G true (e::es) (au (bL f) g):=
 PA.imp (aB h1.bor h2 hs)<|by
  rintro σ H Q ⟨Ow,env,ps,E,hg,k⟩
  unfold au bL at hg
  cases q1:f env with
  | none=>rw[q1] at hg;cases hg
  | some p1=>
   rw[q1] at hg
   cases p1 with
   | lst xs=>
    simp only[ay] at hg
    cases q2:g env with
    | none=>rw[q2] at hg;cases hg
    | some Wn=>
     rw[q2] at hg
     cases hg
     refine⟨Ow,env,_,E,q1,λv H1 s1 r1=>⟨Ow,env,Wn,E.up s1,q2,λvs H2 s2 r2=>k (v::vs) H2 (s1.trans s2) (.cons ?_ r2)⟩⟩
     have F5:Ap b.C (Bs b Ow) H1 v (.lst xs):=r1
     obtain⟨a,us,rfl,ha,ra⟩:=F5.lst
     exact .lst (s2 _ _ ha) (.inr ⟨rfl,us,s2 _ _ ha⟩) (ra.ex λa o h=>⟨λq=>⟨s2 _ _ h,.inl q⟩,λ_=>s2 _ _ h⟩)
   | _=>cases hg
theorem uF {b:BX}(h:zI b.C (XO b Ow false H) H vs ps):zI b.C (Bs b Ow) H vs ps:=h.ex (aV λa o _ q=>q.elim id λz=>by cases z.1)
theorem d9 (h:SA X b G false es g):SE X b G .own (.List es pos) (fY g):=PE.imp (pW h)<|by
 rintro σ H Q ⟨Ow,env,p,E,hf,k⟩
 unfold fY at hf
 cases q1:g env with
 | none=>rw[q1] at hf;cases hf
 | some ps=>
  rw[q1] at hf
  simp only[ay] at hf
  split at hf
  ·rename_i hl
   cases hf
   refine⟨Ow,env,ps,E,q1,λvs H1 s1 r=>⟨gC (by rw[r.length];exact hl),λq hq=>k _ _ (s1.trans (aL hq _)) (Res.down s1 (mZ hq (uF r)))⟩⟩
  ·cases hf
theorem cR {x1}(h:SA X b G false es g):SE X b G .val (.Tuple es x1 pos) (d8 g):=PE.imp (pU h)<|by
 rintro σ H Q ⟨Ow,env,p,E,hf,k⟩
 unfold d8 at hf
 cases q1:g env with
 | none=>rw[q1] at hf;cases hf
 | some ps=>
  rw[q1] at hf
  simp only[ay] at hf
  split at hf
  ·rename_i hl
   cases hf
   refine⟨Ow,env,ps,E,q1,λvs H1 s1 r=>⟨gC (by rw[r.length];exact hl),λq hq=>k _ _ (s1.trans (aL hq _)) (m6 hq (uF r))⟩⟩
  ·cases hf
theorem Kq:SE X b G .own (.Dict [] [] pos) (bC (.dT [])):=PE.imp HX<|by
 rintro σ H Q ⟨Ow,env,p,E,hf,k⟩ q hq
 cases hf
 exact k _ _ (aL hq _) ⟨q,rfl,hq,[],az,.nil⟩
@[simp] noncomputable def AX:PV->PV->Option PV
 | .lst xs,.int i=>B5 xs i
 | .frz xs,.int i=>B5 xs i
 | .tup xs,.int i=>B5 xs i
 | .ktp xs,.int i=>B5 xs i
 | .str x,.int i=>if x.length<=1000000 then (B5 x.cps.toList i).map λc=>.str ⟨#[c]⟩ else none
 | .dK kvs,y=>(keyOf y).bind λk=>aJ kvs k
 | .dT kvs,.tup ys=>(AD ys).bind λk=>aJ kvs k
 | _,_=>none
theorem zI.B5 {C:MC}{A:Addr->Prop}{H:Hp}{vs:List V}{ps:List PV}{i:Int}{p:PV}(h:zI C A H vs ps)(e:B5 ps i=some p):∃v,L2.B5 vs i=some v/\Rep C A H v p:=by
 unfold L2.B5 at e ⊢
 rw[h.length]
 cases q:Kk ps.length i with
 | none=>rw[q] at e;cases e
 | some j=>rw[q] at e;exact h.get e
theorem aM {j:Nat}(hr:AR j X.A)(h1:SE X b G m1 e1 f1)(h2:SE X b G m2 e2 f2)(hs:BL e2:=by intro _ _;rfl)(DU:HW e2:=by intro _ _;rfl)(hK:X.K=b.C.K:=by rfl):SE X b G .val (.Subscript e1 e2 pos) (b2 AX f1 f2):=by
 refine PE.imp (PE.or (uw (r:=rIx b.C.K) (by rw[← hK];exact OJ) h1.bor h2.bor hs) (qN (dh hr) h1.bor h2.bor DU)) fun σ H Q h=>?_
 obtain⟨Ow,env,p,E,hf,k⟩:=h
 unfold b2 at hf
 cases q1:f1 env with
 | none=>rw[q1] at hf;cases hf
 | some p1=>
  rw[q1] at hf
  cases q2:f2 env with
  | none=>rw[q2] at hf;cases hf
  | some p2=>
   rw[q2] at hf
   simp only[ay] at hf
   have step:∀(R:V->V->Hp->VK->Prop),(∀H2 v1 v2,Ap b.C (Bs b Ow) H2 v1 p1->Ap b.C (Bs b Ow) H2 v2 p2->zS H H2->R v1 v2 H2 Q)->tM b G .bor f1 σ H λx H1=>tM b G .bor f2 σ H1 λy H2=>R x y H2 Q:=λR hR=>
    ⟨Ow,env,p1,E,q1,λv1 H1 s1 r1=>⟨Ow,env,p2,E.up s1,q2,λv2 H2 s2 r2=>hR H2 v1 v2 (Res.up (m:=.bor) r1 s2) r2 (s1.trans s2)⟩⟩
   unfold AX at hf
   split at hf
   ·refine .inl (step _ λH2 v1 v2 r1 r2 s=>?_)
    obtain⟨a,vs,rfl,ha,ra⟩:=r1.lst
    obtain⟨v,hv,rv⟩:=ra.B5 hf
    rw[r2.int]
    exact .inl ⟨a,vs,_,v,rfl,rfl,A0.of ha,hv,k v H2 s rv⟩
   ·refine .inl (step _ λH2 v1 v2 r1 r2 s=>?_)
    obtain⟨a,vs,rfl,ha,ra⟩:=r1.frz
    obtain⟨v,hv,rv⟩:=ra.B5 hf
    rw[r2.int]
    exact .inl ⟨a,vs,_,v,rfl,rfl,ha,hv,k v H2 s rv⟩
   ·refine .inl (step _ λH2 v1 v2 r1 r2 s=>?_)
    obtain⟨a,vs,rfl,ha,ra⟩:=r1.tup
    obtain⟨v,hv,rv⟩:=ra.B5 hf
    rw[r2.int]
    exact .inr (.inl ⟨a,vs,_,v,rfl,rfl,ha.sq,hv,k v H2 s rv⟩)
   ·refine .inl (step _ λH2 v1 v2 r1 r2 s=>?_)
    obtain⟨a,vs,rfl,ha,ra⟩:=r1.ktp
    obtain⟨v,hv,rv⟩:=ra.B5 hf
    rw[r2.int]
    exact .inr (.inl ⟨a,vs,_,v,rfl,rfl,ha,hv,k v H2 s rv⟩)
   ·split at hf
    ·rename_i x i hx
     cases q3:B5 x.cps.toList i with
     | none=>rw[q3] at hf;cases hf
     | some c=>
      rw[q3] at hf
      cases hf
      refine .inl (step _ λH2 v1 v2 r1 r2 s=>?_)
      rw[r1.str,r2.int]
      exact .inr (.inr ⟨x,i,c,rfl,rfl,gC hx,q3,k _ H2 s (.str _)⟩)
    ·cases hf
   ·rename_i kvs
    cases q3:keyOf p2 with
    | none=>rw[q3] at hf;cases hf
    | some ky=>
     rw[q3] at hf
     simp only[ay] at hf
     refine .inr (step (λx y H2 Q=>∃a v,x=.ref a/\A5 X.K H2 a y (some v)/\Q v H2) λH2 v1 v2 r1 r2 s=>?_)
     obtain⟨a,kv,rfl,ha,ra⟩:=r1.dK
     rw[r2.key q3]
     unfold aJ at hf
     rcases AJ.val (k:=ky) ra with ⟨v,p',h1,h2,rv⟩ | ⟨h1,h2⟩
     ·rw[h2] at hf
      cases hf
      exact⟨a,v,rfl,by rw[← h1];exact A5.k ha,k v H2 s rv⟩
     ·rw[h2] at hf;cases hf
   ·rename_i kvs ys
    cases q3:AD ys with
    | none=>rw[q3] at hf;cases hf
    | some ky=>
     rw[q3] at hf
     simp only[ay] at hf
     refine .inr (step (λx y H2 Q=>∃a v,x=.ref a/\A5 X.K H2 a y (some v)/\Q v H2) λH2 v1 v2 r1 r2 s=>?_)
     obtain⟨a,kv,rfl,ha,ra⟩:=r1.dT
     obtain⟨c,vs,rfl,hc,rc⟩:=r2.tup
     unfold aJ at hf
     rcases AN.val (k:=ky) ra with ⟨v,p',h1,h2,rv⟩ | ⟨h1,h2⟩
     ·rw[h2] at hf
      cases hf
      exact⟨a,v,rfl,by rw[← h1,hK];exact A5.t ha (hc.key (rc.AD q3)),k v H2 s rv⟩
     ·rw[h2] at hf;cases hf
   ·cases hf
noncomputable def iH (xs:List PV)(lo hi:Option Int):List PV:=(xs.drop (HT.AS xs.length 0 lo)).take (HT.AS xs.length xs.length hi - HT.AS xs.length 0 lo)
theorem zI.cut (h:zI C A H vs ps)(lo hi:Option Int):zI C A H (pY vs lo hi) (iH ps lo hi):=by
 unfold pY iH
 rw[h.length]
 exact(h.drop _).take _
noncomputable def oN (env:Env):Option (Option Int):=some none
@[simp] theorem Uv (env:Env):oN env=(some none):=id rfl
noncomputable def oS (f:qB)(env:Env):Option (Option Int):=(f env).bind λp=>match p with | .int i=>some (some i) | _=>none
@[simp] theorem Uw (f:qB)(env:Env):oS f env=((f env).bind λp=>match p with | .int i=>some (some i) | _=>none):=id rfl
def tMO (b:BX)(G:qc)(f:Env->Option (Option Int)):TO:=fun σ H Q=>∃Ow env o,ER b Ow G σ env H/\f env=some o/\∀H',zS H H'->Q o H'
theorem PO.imp {x:Option Expr}{t u:TO}(h:PO X x t)(i:∀ σ H Q,u σ H Q->t σ H Q):PO X x u:=by
 intro zC s σ H Q I q
 exact h zC s σ H Q I (i σ H Q q)
abbrev SO (X:Cx)(b:BX)(G:qc)(e:Option Expr)(f:Env->Option (Option Int)):Prop:=PO X e (tMO b G f)
theorem qU:SO X b G none oN:=PO.imp K6<|by rintro σ H Q ⟨Ow,env,o,E,hf,k⟩;cases hf;exact k H (zS.refl _)
theorem iz (h:SE X b G m e f):SO X b G (some e) (oS f):=PO.imp (K7 h.bor)<|by
 rintro σ H Q ⟨Ow,env,o,E,hf,k⟩
 unfold oS at hf
 cases q1:f env with
 | none=>rw[q1] at hf;cases hf
 | some p1=>
  rw[q1] at hf
  refine⟨Ow,env,p1,E,q1,λv H1 s1 r1=>?_⟩
  have F5:Ap b.C (Bs b Ow) H1 v p1:=r1
  cases p1 <;> simp only[ay] at hf <;> cases hf
  exact⟨_,F5.int,k H1 s1⟩
noncomputable def Pw (f:qB)(lo hi:Env->Option (Option Int))(env:Env):Option PV:=(f env).bind λx=>(lo env).bind λl=>(hi env).bind λh=>match x with
 | .lst xs=>some (.lst (iH xs l h))
 | .frz xs=>some (.lst (iH xs l h))
 | .str x=>if x.length<=1000000 then some (.str (lZ x l h)) else none
 | _=>none
@[simp] theorem Ub (f:qB)(lo hi:Env->Option (Option Int))(env:Env):Pw f lo hi env=((f env).bind λx=>(lo env).bind λl=>(hi env).bind λh=>match x with
 | .lst xs=>some (.lst (iH xs l h))
 | .frz xs=>some (.lst (iH xs l h))
 | .str x=>if x.length<=1000000 then some (.str (lZ x l h)) else none
 | _=>none):=id rfl
theorem uG {lo hi:Option Expr}{p2:Pos}{fl fh:Env->Option (Option Int)}(h1:SE X b G m e f)(hl:SO X b G lo fl)(hh:SO X b G hi fh)(hK:X.K=b.C.K:=by rfl):SE X b G .val (.Subscript e (.Slice lo hi none p2) pos) (Pw f fl fh):=by
 refine PE.imp (yV (r:=Pb b.C.K) (by rw[← hK];exact Pg) h1.bor hl hh) fun σ H Q ⟨Ow,env,p,E,hf,k⟩=>?_
 unfold Pw at hf
 cases q1:f env with
 | none=>rw[q1] at hf;cases hf
 | some p1=>
  rw[q1] at hf
  cases q2:fl env with
  | none=>rw[q2] at hf;cases hf
  | some l=>
   rw[q2] at hf
   cases q3:fh env with
   | none=>rw[q3] at hf;cases hf
   | some h=>
    rw[q3] at hf
    refine⟨Ow,env,p1,E,q1,λv H1 s1 r1=>⟨Ow,env,l,E.up s1,q2,λH2 s2=>⟨Ow,env,h,E.up (s1.trans s2),q3,λH3 s3=>?_⟩⟩⟩
    have F5:Ap b.C (Bs b Ow) H3 v p1:=Res.up (m:=.bor) r1 (s2.trans s3)
    cases p1 <;> simp only[ay] at hf
    case lst xs=>
     cases hf
     obtain⟨a,vs,rfl,ha,ra⟩:=F5.lst
     exact .inl ⟨a,vs,rfl,A0.of ha,λq hq=>k _ _ (s1.trans (s2.trans (s3.trans (aL hq _)))) (Res.val (m:=.own) E (λz=>nomatch z) (Res.down (s1.trans (s2.trans s3)) (mZ hq (ra.cut l h))))⟩
    case frz xs=>
     cases hf
     obtain⟨a,vs,rfl,ha,ra⟩:=F5.frz
     exact .inl ⟨a,vs,rfl,ha,λq hq=>k _ _ (s1.trans (s2.trans (s3.trans (aL hq _)))) (Res.val (m:=.own) E (λz=>nomatch z) (Res.down (s1.trans (s2.trans s3)) (mZ hq (ra.cut l h))))⟩
    case str x=>
     split at hf
     ·rename_i hx
      cases hf
      exact .inr ⟨x,F5.str,gC hx,k _ _ (s1.trans (s2.trans s3)) (.str _)⟩
     ·cases hf
    all_goals cases hf
theorem Qa {id:String}{g:PV->Option PV}(hc:A7 X (.builtin id) r)(hr:YX b m (λv H Q=>r [v] H Q) g)(hm:X.mg x=none)(hv:bootBuiltins x=some (.builtin id))(h:SE X b G m1 e f)
  (hg:Gl X x:=by rfl) (hn:x ≠ "__name__" := by decide) (Fn:(x == ("__debug__" : Str))=false:=by decide) (he:starEach [e] X.env=(false,eval e X.env)::starEach [] X.env:=by rfl):
  SE X b G m (.Call (.Name x p) [e] [] pos) (b1 g f):=
 PE.imp (dC hc hg hm hv (aB h.bor aN he) hn Fn he rfl) fun σ H Q h=>Du hr h
theorem B_ {id:String}{g:PV->Option PV}(hc:A7 X (.type id) r)(hr:YX b m (λv H Q=>r [v] H Q) g)(hm:X.mg x=none)(hv:bootBuiltins x=some (.type id))(h:SE X b G m1 e f)
  (hg:Gl X x:=by rfl) (hn:x ≠ "__name__" := by decide) (Fn:(x == ("__debug__" : Str))=false:=by decide) (he:starEach [e] X.env=(false,eval e X.env)::starEach [] X.env:=by rfl):
  SE X b G m (.Call (.Name x p) [e] [] pos) (b1 g f):=
 PE.imp (wU hc hg hm hv (aB h.bor aN he) hn Fn he rfl) fun σ H Q h=>Du hr h
@[simp] noncomputable def BC:PV->Option PV
 | .lst xs=>some (.int xs.length)
 | .frz xs=>some (.int xs.length)
 | .tup xs=>some (.int xs.length)
 | .ktp xs=>some (.int xs.length)
 | .str x=>if x.length<=1000000 then some (.int x.length) else none
 | .dK kvs=>some (.int kvs.length)
 | _=>none
theorem AJ.length {C:MC}{A:Addr->Prop}{H:Hp}:∀{vs:List (Key×V)}{ps:List (Key×PV)},AJ C A H vs ps->vs.length=ps.length
 | _,_,.nil=>rfl
 | _,_,.cons _ t=>by simp[AJ.length t]
theorem b_ (hm:X.mg "len" = none)(h:SE X b G m1 e f)(hK:X.K=b.C.K:=by rfl)(hg:Gl X "len" := by rfl)(he:starEach [e] X.env=(false,eval e X.env)::starEach [] X.env:=by rfl):SE X b G .val (.Call (.Name "len" p) [e] [] pos) (b1 BC f):=by
 refine Qa (A7.or (A7.or pZ j_) Gb) (λOw H v1 p1 p Q hn r1 e k=>?_) hm hW h hg (by decide) (by decide) he
 rw[hK]
 cases p1 <;> simp only[BC] at e
 case lst xs=>cases e;obtain⟨a,vs,rfl,ha,ra⟩:=r1.lst;exact .inl (.inl ⟨a,vs,rfl,.inl (A0.of ha),by rw[ra.length];exact k _ H (zS.refl _) (.int _)⟩)
 case frz xs=>cases e;obtain⟨a,vs,rfl,ha,ra⟩:=r1.frz;exact .inl (.inl ⟨a,vs,rfl,.inl ha,by rw[ra.length];exact k _ H (zS.refl _) (.int _)⟩)
 case tup xs=>cases e;obtain⟨a,vs,rfl,ha,ra⟩:=r1.tup;exact .inl (.inl ⟨a,vs,rfl,.inr ha.sq,by rw[ra.length];exact k _ H (zS.refl _) (.int _)⟩)
 case ktp xs=>cases e;obtain⟨a,vs,rfl,ha,ra⟩:=r1.ktp;exact .inl (.inl ⟨a,vs,rfl,.inr ha,by rw[ra.length];exact k _ H (zS.refl _) (.int _)⟩)
 case str x=>
  split at e
  ·rename_i hx
   cases e
   rw[r1.str]
   exact .inl (.inr ⟨x,rfl,gC hx,k _ H (zS.refl _) (.int _)⟩)
  ·cases e
 case dK kvs=>cases e;obtain⟨a,vs,rfl,ha,ra⟩:=r1.dK;exact .inr ⟨a,vs,rfl,ha,by rw[ra.length];exact k _ H (zS.refl _) (.int _)⟩
 all_goals cases e
@[simp] noncomputable def CO:List PV->Option (List Str)
 | []=>some []
 | .str c::r=>(CO r).map (c::·)
 | _::_=>none
theorem zI.CO {C:MC}{A:Addr->Prop}{H:Hp}:∀{vs:List V}{ps:List PV}{bs:qo},zI C A H vs ps->CO ps=some bs->vs=bs.map V.str
 | _,_,_,.nil,e=>by cases e;rfl
 | _,_,_,.cons (p:=p) (ps:=ps) h t,e=>by
  cases p <;> simp only[MR.CO] at e <;> first | cases e | skip
  rename_i c
  cases q:MR.CO ps with
  | none=>rw[q] at e;cases e
  | some bs=>rw[q] at e;cases e;cases h;rw[zI.CO t q];rfl
@[simp] noncomputable def uH:PV->PV->Option PV
 | .str z,.lst xs=>(CO xs).bind λzs=>if JoinOk z zs=true then some (.str (Str.join z zs)) else none
 | _,_=>none
theorem RV {id:String}{name:Str}{AG:Pos}{o:Expr}{fo:qB}{r:V->List V->Hp->VK->Prop}{g:PV->PV->Option PV}(slot:Slot "str" name id)(TR:typeOf (.builtin id)=pure (.type "method_descriptor"))(pa:PlainAttrs "str")(hm:XD X id r)
  (hr:F3 b m (λx y H Q=>(∃z,x=.str z)->r x [y] H Q) g) (hgs:∀x y p,g x y=some p->∃z,x=.str z) (ho:SE X b G m1 o fo) (h:SE X b G m2 e f)
  (BO:attributeBase o name X.env (eval o X.env)=eval o X.env:=by rfl)
  (EZ:((backTo AG (starEach [e] X.env)).all (λx=>!x.1)&&(backToKw AG (keywordEach [] X.env)).all (λx=>x.1.isSome)
   && decide ([e].length+([]:List Keyword).length+(if ([]:List Keyword).isEmpty then 0 else 1) < 30))=true:=by rfl)
  (BQ:(apos.endLine == AG.line)=true:=by rfl) (hs:starEach [e] X.env=(false,eval e X.env)::starEach [] X.env:=by rfl):
  SE X b G m (.Call (.Attribute o name apos) [e] [] AG) (b2 g fo f):=by
 refine PE.imp (xZ pa slot TR hm ho.bor (aB h.bor aN hs) BO EZ BQ hs rfl) fun σ H Q h=>?_
 obtain⟨Ow,env,p,E,hf,k⟩:=h
 unfold b2 at hf
 cases q1:fo env with
 | none=>rw[q1] at hf;cases hf
 | some p1=>
  rw[q1] at hf
  cases q2:f env with
  | none=>rw[q2] at hf;cases hf
  | some p2=>
   rw[q2] at hf
   simp only[ay] at hf
   obtain⟨z,rfl⟩:=hgs _ _ _ hf
   refine⟨Ow,env,_,E,q1,λv1 H1 s1 r1=>?_⟩
   have F5:Ap b.C (Bs b Ow) H1 v1 (.str z):=r1
   have ev:=F5.str
   subst ev
   refine⟨rfl,Ow,env,p2,E.up s1,q2,λv2 H2 s2 r2=>?_⟩
   exact hr Ow H2 _ v2 _ p2 p Q (λa=>(E.up (s1.trans s2)).fresh) (Ap.ex (.of_same s2) s2 F5) r2 hf (λv H' s r=>k v H' (s1.trans (s2.trans s)) (r.down (s1.trans s2))) ⟨z,rfl⟩
theorem Lh:F3 b .val (λx y H Q=>(∃z,x=.str z)->rJoin b.C.K x [y] H Q) uH:=by
 intro Ow H v1 v2 p1 p2 p Q hn r1 r2 e k _
 unfold uH at e
 split at e
 ·rename_i z xs
  cases q:CO xs with
  | none=>rw[q] at e;cases e
  | some zs=>
   rw[q] at e
   simp only[ay] at e
   split at e
   ·rename_i hj
    cases e
    obtain⟨a,vs,rfl,ha,ra⟩:=r2.lst
    have hv:=ra.CO q
    subst hv
    exact⟨z,a,zs,r1.str,rfl,A0.of ha,hj,k _ H (zS.refl _) (.str _)⟩
   ·cases e
 ·cases e
theorem Li {AG:Pos}{o:Expr}{fo:qB}(ho:SE X b G m1 o fo)(h:SE X b G m2 e f)(hK:X.K=b.C.K:=by rfl)(BO:attributeBase o "join" X.env (eval o X.env)=eval o X.env:=by rfl)
  (EZ:((backTo AG (starEach [e] X.env)).all (λx=>!x.1)&&(backToKw AG (keywordEach [] X.env)).all (λx=>x.1.isSome)
   && decide ([e].length+([]:List Keyword).length+(if ([]:List Keyword).isEmpty then 0 else 1) < 30))=true:=by rfl)
  (BQ:(apos.endLine == AG.line)=true:=by rfl) (hs:starEach [e] X.env=(false,eval e X.env)::starEach [] X.env:=by rfl):
  SE X b G .val (.Call (.Attribute o "join" apos) [e] [] AG) (b2 uH fo f):=
 RV PySem.F.slot_str_join PySem.F.type_str_join PySem.F.plainAttrs_str (r:=rJoin b.C.K) (by rw[← hK];exact Lb) Lh (λx y p e=>by
  unfold uH at e
  split at e
  ·exact⟨_,rfl⟩
  ·cases e) ho h BO EZ BQ hs
def Se (C:MC)(A:Addr->Prop)(H:Hp)(ro:Bool)(H':Hp)(v:V)(p:PV):Prop:=match ro with
 | true=>∃a,v=.ref a/\H a=none/\Top C (λc=>(A c\/H c=none)/\c≠a) H' a p
 | false=>Rep C (λc=>A c\/H c=none) H' v p
def C2 (C:MC)(m:List PV->Option PV)(ro:Bool):Sp:=λvs H Q _=>∃A ps p,zI C A H vs ps/\m ps=some p/\∀v H',zS H H'->Se C A H ro H' v p->Q v H'
def Ip:Bool->Md
 | true=>.own
 | false=>.val
theorem Se.res {H1:Hp}{q:PV}(E:ER b Ow G σ env H)(s:zS H H1)(r:Se b.C (Bs b Ow) H1 ro H' v q):Res b Ow H H' (Ip ro) v q:=by
 cases ro with
 | true=>
  obtain⟨a,rfl,h,t⟩:=r
  exact⟨a,rfl,s.free h,t.ex (aV λc o _ z=>⟨z.1.elim id λw=>(E.up s).fresh w,z.2⟩) λo z=>z⟩
 | false=>exact Rep.ex (aV λc o _ z=>z.elim id λw=>(E.up s).fresh w) r
theorem Lj {k j:Nat}{ps:qo}(c:IL X.prog X.w X.K X.mg X.base k x ps (C2 b.C mi ro))(hr:AR j X.A)(ha:SA X b G false (e::es) g)(hle:k<=j:=by decide)(hg:Gl X x:=by rfl)
  (Fn:(x == ("__debug__" : Str))=false:=by decide) (he:starEach (e::es) X.env=(false,eval e X.env)::starEach es X.env:=by rfl) (A8:(backTo pos (starEach es X.env)).any (·.1)=false:=by rfl):
  SE X b G (Ip ro) (.Call (.Name x p) (e::es) [] pos) (bH mi g):=by
 refine PE.imp (fC c hr ha hle hg Fn he A8) ?_
 rintro σ H Q ⟨Ow,env,q,E,hf,kk⟩
 unfold bH at hf
 cases q1:g env with
 | none=>rw[q1] at hf;cases hf
 | some qs=>
  rw[q1] at hf
  refine⟨Ow,env,qs,E,q1,λvs H1 s1 r=>?_⟩
  dsimp only
  rw[br]
  exact⟨Bs b Ow,qs,q,uF r,hf,λv H' s' rr=>kk v H' (s1.trans s') (Se.res E s1 rr)⟩
mutual
noncomputable def F6:PV->Bool
 | .lst _=>false
 | .tup xs=>vN xs
 | .ktp xs=>vN xs
 | .frz xs=>vN xs
 | .dK kvs=>DG kvs
 | .dT kvs=>DK kvs
 | .obj _ fs=>DN fs
 | _=>true
noncomputable def vN:List PV->Bool
 | []=>true
 | x::xs=>F6 x&&vN xs
noncomputable def DG:List (Key×PV)->Bool
 | []=>true
 | x::xs=>F6 x.2&&DG xs
noncomputable def DK:List (List zD×PV)->Bool
 | []=>true
 | x::xs=>F6 x.2&&DK xs
noncomputable def DN:List (Str×PV)->Bool
 | []=>true
 | x::xs=>F6 x.2&&DN xs
end
def NL (A A':Addr->Prop)(H:Hp):Prop:=∀a o,H a=some o->A a->A' a\/∃vs,o=.lst vs
theorem Rep.nl5 (e:NL A A' H):(∀{v p},Rep C A H v p->F6 p=true->Rep C A' H v p)/\(∀{v p},zI C A H v p->vN p=true->zI C A' H v p)/\(∀{v p},AJ C A H v p->DG p=true->AJ C A' H v p)/\(∀{v p},AN C A H v p->DK p=true->AN C A' H v p)/\(∀{v p},BU C A H v p->DN p=true->BU C A' H v p):=by
 refine Rep.nd (λ_=>.Au) (λb _=>.bl b) (λb _=>.int b) (λb _=>.str b) ?_ ?_ ?_ ?_ ?_ ?_ ?_ ?_ ?_ (λ_=>.nil) ?_ (λ_=>.nil) ?_ (λ_=>.nil) ?_ (λ_=>.nil) ?_
 ·intro a vs xs h q _ _ n;simp only[F6] at n;cases n
 ·intro a o vs xs h _ r n;simp only[F6] at n;exact .Lu h (r n)
 ·intro a vs xs h _ r n;simp only[F6] at n;exact .lstK h (r n)
 ·intro a vs xs h _ r n;simp only[F6] at n;exact .tup h (r n)
 ·intro a vs xs h _ r n;simp only[F6] at n;exact .Cf h (r n)
 ·intro a vs xs h _ r n;simp only[F6] at n;exact .tupK h (r n)
 ·intro a vs xs h q _ r n;simp only[F6] at n;exact .dK h ((e _ _ h q).elim id λz=>nomatch z.choose_spec) (r n)
 ·intro a vs xs h q _ r n;simp only[F6] at n;exact .dT h ((e _ _ h q).elim id λz=>nomatch z.choose_spec) (r n)
 ·intro a dx c f fs h q _ r n;simp only[F6] at n;exact .obj h ((e _ _ h q).elim id λz=>nomatch z.choose_spec) (r n)
 ·intro v p vs ps _ _ h t n;simp only[vN,b6] at n;exact .cons (h n.1) (t n.2)
 ·intro k v p vs ps _ _ h t n;simp only[DG,b6] at n;exact .cons (h n.1) (t n.2)
 ·intro k v p vs ps _ _ h t n;simp only[DK,b6] at n;exact .cons (h n.1) (t n.2)
 ·intro k v p vs ps _ _ h t n;simp only[DN,b6] at n;exact .cons (h n.1) (t n.2)
theorem Rep.nl (e:NL A A' H){p:PV}:Rep C A H v p->F6 p=true->Rep C A' H v p:=(Rep.nl5 e).1
noncomputable def m9 (mi:List PV->Option PV)(g:Env->Option (List PV))(env:Env):Option PV:=((g env).bind mi).bind λp=>if F6 p=true then some p else none
@[simp] theorem Sx (mi:List PV->Option PV)(g:Env->Option (List PV))(env:Env):m9 mi g env=(((g env).bind mi).bind λp=>if F6 p=true then some p else none):=id rfl
theorem sW {k j:Nat}{ps:qo}(c:IL X.prog X.w X.K X.mg X.base k x ps (C2 b.C mi false))(hr:AR j X.A)(ha:SA X b G true (e::es) g)(hle:k<=j:=by decide)(hg:Gl X x:=by rfl)
  (Fn:(x == ("__debug__" : Str))=false:=by decide) (he:starEach (e::es) X.env=(false,eval e X.env)::starEach es X.env:=by rfl) (A8:(backTo pos (starEach es X.env)).any (·.1)=false:=by rfl):
  SE X b G .val (.Call (.Name x p) (e::es) [] pos) (m9 mi g):=by
 refine PE.imp (fC c hr ha hle hg Fn he A8) ?_
 rintro σ H Q ⟨Ow,env,q,E,hf,kk⟩
 unfold m9 at hf
 cases q1:g env with
 | none=>rw[q1] at hf;cases hf
 | some qs=>
  rw[q1] at hf
  simp only[ay] at hf
  cases q2:mi qs with
  | none=>rw[q2] at hf;cases hf
  | some q'=>
   rw[q2] at hf
   simp only[ay] at hf
   split at hf
   ·rename_i hl
    cases hf
    refine⟨Ow,env,qs,E,q1,λvs H1 s1 r=>?_⟩
    dsimp only
    rw[br]
    refine⟨XO b Ow true H1,qs,q,r,q2,λv H' s' rr=>kk v H' (s1.trans s') ?_⟩
    have XQ:Rep b.C (λc=>XO b Ow true H1 c\/H1 c=none) H' v q:=rr
    refine XQ.nl (λa o ha z=>?_) hl
    rcases z with (z | ⟨_,us,z⟩) | z
    ·exact .inl z
    ·have:=s' _ _ z
     rw[this] at ha
     exact .inr ⟨us,(be ha).symm⟩
    ·exact .inl ((E.up s1).fresh z)
   ·cases hf
noncomputable def ji (c:Nat)(x:Str)(f:qB)(env:Env):Option PV:=(f env).bind λp=>match p with
 | .obj c' fs=>if c'=c then fs.lookup x else none
 | _=>none
@[simp] theorem gF (c:Nat)(x:Str)(f:qB)(env:Env):ji c x f env=((f env).bind λp=>match p with
 | .obj c' fs=>if c'=c then fs.lookup x else none
 | _=>none):=id rfl
theorem m_ {c:Nat}(hc:II b.C.K (b.C.cl c))(hn:AV b.C.K (b.C.cl c) x)(h:SE X b G m e f)(hb:attributeBase e x X.env (eval e X.env)=eval e X.env:=by rfl)(hK:X.K=b.C.K:=by rfl):SE X b G .val (.Attribute e x pos) (ji c x f):=
 PE.imp (Fy h.bor hb)<|by
  rintro σ H Q ⟨Ow,env,p,E,hf,k⟩
  unfold ji at hf
  cases q1:f env with
  | none=>rw[q1] at hf;cases hf
  | some p1=>
   rw[q1] at hf
   refine⟨Ow,env,p1,E,q1,λv H1 s1 r1=>?_⟩
   have F5:Ap b.C (Bs b Ow) H1 v p1:=r1
   cases p1 <;> simp only[ay] at hf <;> first | cases hf | skip
   rename_i c' fs
   split at hf
   ·rename_i Vl
    subst Vl
    obtain⟨a,dx,fv,rfl,ha,ra⟩:=F5.obj
    obtain⟨v',hv,rv⟩:=ra.look hf
    rw[hK]
    exact⟨a,_,dx,fv,v',rfl,ha,hc,hn,hv,k v' H1 s1 rv⟩
   ·cases hf
structure EG (P:Program)(w:World)(K:W.Frag)(mg:Str->Option Value)(base:Heap)(C:Addr)(k:Nat)(x:Str)(ps:qo)(sp:Sp):Prop where
 ex:∃f fd,A4 P w K mg base EJ k f fd ps sp/\Binds K fd ps []/\Meth K C x f
noncomputable def uI (c:Nat)(x:Str)(mi:List PV->Option PV)(f:qB)(g:Env->Option (List PV))(env:Env):Option PV:=(f env).bind λp=>match p with
 | .obj c' fs=>if c'=c/\fs.lookup x=none then (g env).bind λps=>mi (p::ps) else none
 | _=>none
@[simp] theorem S7 (c:Nat)(x:Str)(mi:List PV->Option PV)(f:qB)(g:Env->Option (List PV))(env:Env):uI c x mi f g env=((f env).bind λp=>match p with
 | .obj c' fs=>if c'=c/\fs.lookup x=none then (g env).bind λps=>mi (p::ps) else none
 | _=>none):=id rfl
theorem Lk {c k j:Nat}{o:Expr}{fo:qB}{ps:qo}(cM:EG X.prog X.w X.K X.mg X.base (b.C.cl c) k x ps (C2 b.C mi ro))(hc:II X.K (b.C.cl c))(hr:AR j X.A)(ho:SE X b G .val o fo)(ha:SA X b G false (e::es) g)(hle:k<=j:=by decide)
  (CL:starEach (e::es) X.env=(false,eval e X.env)::starEach es X.env:=by rfl) (A8:(backTo pos (starEach es X.env)).any (·.1)=false:=by rfl){pl:Sem Bool}
  (ht:eval (.Call (.Attribute o x apos) (e::es) [] pos) X.env=(do
   let ov ← eval o X.env
   standAt apos.atName
   let (f,first) ← holding [ov] (getMethod ov x pl)
   callWith pos f first (backTo pos (starEach (e::es) X.env)) (backToKw pos (keywordEach [] X.env))):=by rfl):
  SE X b G (Ip ro) (.Call (.Attribute o x apos) (e::es) [] pos) (uI c x mi fo g):=by
 obtain⟨f,fd,F,hb,hM⟩:=cM.ex
 refine PE.imp (Bx (pl:=pl) ho hc hM F (hr.mono hle) hb .nil uy ha CL A8 ht) ?_
 rintro σ H Q ⟨Ow,env,q,E,hf,kk⟩
 unfold uI at hf
 cases q1:fo env with
 | none=>rw[q1] at hf;cases hf
 | some p1=>
  rw[q1] at hf
  refine⟨Ow,env,p1,E,q1,λv H1 s1 r1=>?_⟩
  have r1v:Rep b.C (Bs b Ow) H1 v p1:=r1
  cases p1 <;> simp only[ay] at hf <;> first | cases hf | skip
  rename_i c' fs
  split at hf
  ·rename_i Vl
   obtain⟨rfl,OA⟩:=Vl
   cases q2:g env with
   | none=>rw[q2] at hf;cases hf
   | some qs=>
    rw[q2] at hf
    obtain⟨a,dx,fv,rfl,hha,ra⟩:=Ap.obj (.inl r1v)
    refine⟨a,dx,fv,rfl,hha,ra.Sa OA,Ow,env,qs,E.up s1,q2,λvs H2 s2 r2=>?_⟩
    dsimp only
    rw[br]
    exact⟨Bs b Ow,_::qs,q,.cons (r1v.ex (.of_same s2)) (uF r2),hf,λv' H' s' rr=>kk v' H' (s1.trans (s2.trans s')) (Se.res E (s1.trans s2) rr)⟩
  ·cases hf
theorem bc {k j:Nat}{ps:qo}(c:IL X.prog X.w X.K X.mg X.base k x ps (C2 b.C mi false))(hr:AR j X.A)(ha:SA X b G false (e::es) g)(hle:k<=j:=by decide)(hg:Gl X x:=by rfl)
  (Fn:(x == ("__debug__" : Str))=false:=by decide) (he:starEach (e::es) X.env=(false,eval e X.env)::starEach es X.env:=by rfl) (A8:(backTo pos (starEach es X.env)).any (·.1)=false:=by rfl):
  SE X b G .val (.Call (.Name x p) (e::es) [] pos) (bH mi g):=Lj c hr ha hle hg Fn he A8
theorem Ir {c k j:Nat}{o:Expr}{fo:qB}{ps:qo}(cM:EG X.prog X.w X.K X.mg X.base (b.C.cl c) k x ps (C2 b.C mi false))(hc:II X.K (b.C.cl c))(hr:AR j X.A)(ho:SE X b G .val o fo)(ha:SA X b G false (e::es) g)(hle:k<=j:=by decide)
  (CL:starEach (e::es) X.env=(false,eval e X.env)::starEach es X.env:=by rfl) (A8:(backTo pos (starEach es X.env)).any (·.1)=false:=by rfl){pl:Sem Bool}
  (ht:eval (.Call (.Attribute o x apos) (e::es) [] pos) X.env=(do
   let ov ← eval o X.env
   standAt apos.atName
   let (f,first) ← holding [ov] (getMethod ov x pl)
   callWith pos f first (backTo pos (starEach (e::es) X.env)) (backToKw pos (keywordEach [] X.env))):=by rfl):
  SE X b G .val (.Call (.Attribute o x apos) (e::es) [] pos) (uI c x mi fo g):=Lk (pl:=pl) cM hc hr ho ha hle CL A8 ht
end
section
variable {b:BX}{Ow:Addr->Prop}{G:qc}{σ:St}{env:Env}{H H':Hp}
theorem ER.set (E:ER b Ow G σ env H){i:Nat}{v:V}{p:PV}(hi:i∉G)(r:Rep b.C (Bs b Ow) H v p)(hx:b.fx i=none):ER b Ow G (σ.set i (some v)) (env.set i (some p)) H:=by
 refine⟨by rw[d0,d0];exact E.len,E.same,E.live,E.new,λj q e n=>?_,λj q e n=>?_,λj k a q q' e1 n1 s1 e2 n2 s2=>?_,λk w hw=>?_⟩
 ·by_cases hj:i=j
  ·subst hj
   rw[kP] at e
   split at e
   ·split at e
    ·rename_i hl
     have:=be (be e)
     subst this
     exact⟨v,by rw[d6 (by rw[E.len];exact hl)],r⟩
    ·cases e
   ·exact absurd rfl ‹_›
  ·rw[bo hj] at e ⊢
   exact E.val j q e n
 ·have hj:i≠j:=λz=>hi (z▸n)
  rw[bo hj] at e ⊢
  exact E.own j q e n
 ·have hj:i≠j:=λz=>hi (z▸n1)
  have hk:i≠k:=λz=>hi (z▸n2)
  rw[bo hj] at e1 s1
  rw[bo hk] at e2 s2
  exact E.sep j k a q q' e1 n1 s1 e2 n2 s2
 ·by_cases hk:i=k
  ·subst hk;rw[hx] at hw;cases hw
  ·rw[bo hk];exact E.fix k w hw
theorem ER.Wo (E:ER b Ow G σ env H){i:Nat}{p:PV}{H0:Hp}{G':qc}(hG:∀j,j∈G'↔(j∈G\/j=i))(s0:zS H0 H)(hn:H0 a=none)(XR:ER b Ow G σ env H0)(t:Top b.C (λc=>Bs b Ow c/\c≠a) H a p)(hx:b.fx i=none):
  ER b (λc=>Ow c\/c=a) G' (σ.set i (some (.ref a))) (env.set i (some p)) H/\Ex (Bs b Ow) H0 (Bs b λc=>Ow c\/c=a) H:=by
 have YZ:Ex (Bs b Ow) H0 (Bs b λc=>Ow c\/c=a) H:=λc o h=>⟨λq=>⟨s0 _ _ h,λz=>z.elim q.1 (aq h hn),q.2⟩,λ_=>s0 _ _ h⟩
 have ht:Top b.C (Bs b λc=>Ow c\/c=a) H a p:=t.ex (aV λc o _ q=>⟨λz=>z.elim q.1.1 q.2,q.1.2⟩) λo z=>z
 refine⟨⟨by rw[d0,d0];exact E.len,E.same,λc w=>w.elim (E.live c) λz=>by subst z;obtain⟨o,h,_⟩:=t.live;exact⟨o,h⟩,λc w=>w.elim (E.new c) λz=>by subst z;exact XR.same.free hn,λj q e n=>?_,λj q e n=>?_,λj k c q q' e1 n1 s1 e2 n2 s2=>?_,λk w hw=>?_⟩,YZ⟩
 ·have hj:i≠j:=λz=>n ((hG j).mpr (.inr z.symm))
  rw[bo hj] at e ⊢
  obtain⟨v,h1,h2⟩:=XR.val j q e λz=>n ((hG j).mpr (.inl z))
  exact⟨v,h1,h2.ex YZ⟩
 ·by_cases hj:i=j
  ·subst hj
   rw[kP] at e
   split at e
   ·split at e
    ·rename_i hl
     have:=be (be e)
     subst this
     exact⟨a,by rw[d6 (by rw[E.len];exact hl)],.inr rfl,ht⟩
    ·cases e
   ·exact absurd rfl ‹_›
  ·rw[bo hj] at e ⊢
   have nG:j∈G:=((hG j).mp n).elim id λz=>absurd z.symm hj
   obtain⟨c,h1,h2,h3⟩:=XR.own j q e nG
   exact⟨c,h1,.inl h2,h3.ex YZ λo z=>s0 _ _ z⟩
 ·have old:∀{j:Nat}{q:PV},i≠j->j∈G'->env[j]?=some (some q)->σ[j]?=some (some (.ref c))->c≠a:=λ{j q} hj n e s=>by
   have nG:j∈G:=((hG j).mp n).elim id λz=>absurd z.symm hj
   obtain⟨c',h1,h2,h3⟩:=XR.own j q e nG
   rw[s] at h1
   cases h1
   obtain⟨o,h4,_⟩:=h3.live
   exact aq h4 hn
  by_cases hj:i=j
  ·by_cases hk:i=k
   ·exact hj.symm.trans hk
   ·subst hj
    rw[bo hk] at e2 s2
    have hl:i < σ.length:=by
     by_cases hl:i < σ.length
     ·exact hl
     ·rw[cE (by rw[d0];omega)] at s1;cases s1
    rw[d6 hl] at s1
    cases s1
    exact absurd rfl (old hk n2 e2 s2)
  ·by_cases hk:i=k
   ·subst hk
    rw[bo hj] at e1 s1
    have hl:i < σ.length:=by
     by_cases hl:i < σ.length
     ·exact hl
     ·rw[cE (by rw[d0];omega)] at s2;cases s2
    rw[d6 hl] at s2
    cases s2
    exact absurd rfl (old hj n1 e1 s1)
   ·rw[bo hj] at e1 s1
    rw[bo hk] at e2 s2
    have g1:j∈G:=((hG j).mp n1).elim id λz=>absurd z.symm hj
    have g2:k∈G:=((hG k).mp n2).elim id λz=>absurd z.symm hk
    exact E.sep j k c q q' e1 g1 s1 e2 g2 s2
 ·by_cases hk:i=k
  ·subst hk;rw[hx] at hw;cases hw
  ·rw[bo hk];exact E.fix k w hw
theorem ER.write (E:ER b Ow G σ env H){i:Nat}{p p':PV}{o':HO}(hi:i∈G)(hσ:σ[i]?=some (some (.ref a)))(he:env[i]?=some (some p))(hw:Ow a)(t:Top b.C (Bs b Ow) H a p)(t':Top b.C (Bs b Ow) (upd H a o') a p'):
  ER b Ow G σ (env.set i (some p')) (upd H a o')/\Ex (Bs b Ow) H (Bs b Ow) (upd H a o'):=by
 obtain⟨o,ho,hm⟩:=t.live
 have hx:Ex (Bs b Ow) H (Bs b Ow) (upd H a o'):=λc u h=>⟨λq=>⟨by rw[ao (λz:c=a=>q.1 (z▸hw))];exact h,q⟩,λm=>by
  have hc:c≠a:=λz=>by subst z;rw[ho] at h;cases h;rw[hm] at m;cases m
  rw[ao hc];exact h⟩
 refine⟨⟨by rw[d0];exact E.len,λc u h=>?_,λc w=>?_,E.new,λj q e n=>?_,λj q e n=>?_,λj k c q q' e1 n1 s1 e2 n2 s2=>?_,E.fix⟩,hx⟩
 ·have hc:c≠a:=aq h (E.new a hw)
  rw[ao hc];exact E.same c u h
 ·by_cases hc:c=a
  ·subst hc;exact⟨o',az⟩
  ·obtain⟨u,h⟩:=E.live c w
   exact⟨u,by rw[ao hc];exact h⟩
 ·have hj:i≠j:=λz=>n (z▸hi)
  rw[bo hj] at e
  obtain⟨v,h1,h2⟩:=E.val j q e n
  exact⟨v,h1,h2.ex hx⟩
 ·by_cases hj:i=j
  ·subst hj
   rw[kP] at e
   split at e
   ·split at e
    ·have:=be (be e)
     subst this
     exact⟨a,hσ,hw,t'⟩
    ·cases e
   ·exact absurd rfl ‹_›
  ·rw[bo hj] at e
   obtain⟨c,h1,h2,h3⟩:=E.own j q e n
   have hc:c≠a:=λz=>by subst z;exact hj (E.sep i j c p q he hi hσ e n h1)
   exact⟨c,h1,h2,h3.ex hx λu z=>by rw[ao hc];exact z⟩
 ·have back:∀{j:Nat}{q:PV},(env.set i (some p'))[j]?=some (some q)->∃q,env[j]?=some (some q):=λ{j q} e=>by
   by_cases hj:i=j
   ·subst hj;exact⟨p,he⟩
   ·rw[bo hj] at e;exact⟨q,e⟩
  obtain⟨r1,Yp⟩:=back e1
  obtain⟨r2,Ll⟩:=back e2
  exact E.sep j k c r1 r2 Yp n1 s1 Ll n2 s2
theorem ER.weak {G':qc}(E:ER b Ow G σ env H)(h:∀j,j∈G'->j∈G):∃A2,ER b A2 G' σ env H/\Ex (Bs b Ow) H (Bs b A2) H:=by
 refine⟨λa=>Ow a/\∃j q,j∈G'/\env[j]?=some (some q)/\σ[j]?=some (some (.ref a)),?_⟩
 have hx:Ex (Bs b Ow) H (Bs b λa=>Ow a/\∃j q,j∈G'/\env[j]?=some (some q)/\σ[j]?=some (some (.ref a))) H:=aV λc o _ q=>⟨λz=>q.1 z.1,q.2⟩
 refine⟨⟨E.len,E.same,λa w=>E.live a w.1,λa w=>E.new a w.1,λi p e n=>?_,λi p e n=>?_,λi j a p q e1 n1 s1 e2 n2 s2=>E.sep i j a p q e1 (h i n1) s1 e2 (h j n2) s2,E.fix⟩,hx⟩
 ·by_cases hi:i∈G
  ·obtain⟨a,h1,h2,h3⟩:=E.own i p e hi
   refine⟨_,h1,(h3.ex hx λo z=>z).rep ⟨λz=>?_,.inr (E.new a h2)⟩⟩
   obtain⟨_,j,q,hj,e',s'⟩:=z
   have:=E.sep i j a p q e hi h1 e' (h j hj) s'
   subst this
   exact n hj
  ·obtain⟨v,h1,h2⟩:=E.val i p e hi
   exact⟨v,h1,h2.ex hx⟩
 ·obtain⟨a,h1,h2,h3⟩:=E.own i p e (h i n)
  exact⟨a,h1,⟨h2,i,p,n,e,h1⟩,h3.ex hx λo z=>z⟩
theorem ER.forget (E:ER b Ow G σ env H)(i:Nat):ER b Ow G σ (env.set i none) H:=by
 have back:∀{j:Nat}{q:PV},(env.set i none)[j]?=some (some q)->env[j]?=some (some q):=λ{j q} e=>by
  by_cases hj:i=j
  ·subst hj
   rw[kP] at e
   split at e
   ·split at e <;> cases e
   ·exact absurd rfl ‹_›
  ·rw[bo hj] at e;exact e
 exact⟨by rw[d0];exact E.len,E.same,E.live,E.new,λj q e n=>E.val j q (back e) n,λj q e n=>E.own j q (back e) n,λj k a q q' e1 n1 s1 e2 n2 s2=>E.sep j k a q q' (back e1) n1 s1 (back e2) n2 s2,E.fix⟩
@[simp] noncomputable def EL:List Nat->Env->Env
 | [],env=>env
 | i::r,env=>EL r (env.set i none)
theorem ER.EL:∀{ds:qc}{env:Env},ER b Ow G σ env H->ER b Ow G σ (EL ds env) H
 | [],_,E=>E
 | i::r,env,E=>ER.EL (ds:=r) (E.forget i)
end
inductive Out where
 | nx (e:Env) | bk (e:Env) | ct (e:Env) | rt (p:PV)
def PD (b:BX)(Ow:Addr->Prop)(H:Hp)(G L:qc)(ro:Bool)(D:Ends):Out->Prop
 | .nx e=>∀A2 σ' H',ER b A2 G σ' e H'->Ex (Bs b Ow) H (Bs b A2) H'->D.nx σ' H'
 | .bk e=>∀A2 σ' H',ER b A2 L σ' e H'->Ex (Bs b Ow) H (Bs b A2) H'->D.bk σ' H'
 | .ct e=>∀A2 σ' H',ER b A2 L σ' e H'->Ex (Bs b Ow) H (Bs b A2) H'->D.ct σ' H'
 | .rt p=>∀v H',zS b.H0 H'->Se b.C b.A b.H0 ro H' v p->D.rt v H'
def tS (b:BX)(G G' L:qc)(ro:Bool)(f:Env->Option Out):TS:=λD σ H=>∃Ow env out,ER b Ow G σ env H/\f env=some out/\PD b Ow H G' L ro D out
abbrev SS (X:Cx)(b:BX)(G G' L:qc)(ro:Bool)(st:Stmt)(f:Env->Option Out):Prop:=PS X st (tS b G G' L ro f)
abbrev JA (X:Cx)(b:BX)(G G' L:qc)(ro:Bool)(st:qh)(f:Env->Option Out):Prop:=Fh X st (tS b G G' L ro f)
theorem Fh.imp {e:qh}{t u:TS}(h:Fh X e t)(i:∀D σ H,u D σ H->t D σ H):Fh X e u:=λzC s σ H D I q=>h zC s σ H D I (i D σ H q)
theorem PS.or {e:Stmt}{t u:TS}(h:PS X e t)(h':PS X e u):PS X e (λD σ H=>t D σ H\/u D σ H):=λzC s σ H D I q=>q.elim (h zC s σ H D I) (h' zC s σ H D I)
theorem PD.ex {b:BX}{Ow1:Addr->Prop}{H1:Hp}{G L:qc}{D:Ends}{o:Out}(e:Ex (Bs b Ow) H (Bs b Ow1) H1)(h:PD b Ow H G L ro D o):PD b Ow1 H1 G L ro D o:=by
 cases o with
 | nx e'=>exact λA2 σ' H' E x=>h A2 σ' H' E (e.trans x)
 | bk e'=>exact λA2 σ' H' E x=>h A2 σ' H' E (e.trans x)
 | ct e'=>exact λA2 σ' H' E x=>h A2 σ' H' E (e.trans x)
 | rt p=>exact h
noncomputable def E8 (env:Env):Option Out:=some (.nx env)
@[simp] theorem Uc (env:Env):E8 env=(some (.nx env)):=id rfl
noncomputable def XS (env:Env):Option Out:=none
@[simp] theorem Ud (env:Env):XS env=(none):=id rfl
noncomputable def aP (f g:Env->Option Out)(env:Env):Option Out:=(f env).bind λo=>match o with | .nx e=>g e | o=>some o
@[simp] theorem TJ (f g:Env->Option Out)(env:Env):aP f g env=((f env).bind λo=>match o with | .nx e=>g e | o=>some o):=id rfl
noncomputable def bM (i:Nat)(f:qB)(env:Env):Option Out:=(f env).bind λp=>some (.nx (env.set i (some p)))
@[simp] theorem TQ (i:Nat)(f:qB)(env:Env):bM i f env=((f env).bind λp=>some (.nx (env.set i (some p)))):=id rfl
noncomputable def bw (f:qB)(env:Env):Option Out:=(f env).bind λp=>some (.rt p)
@[simp] theorem TV (f:qB)(env:Env):bw f env=((f env).bind λp=>some (.rt p)):=id rfl
noncomputable def E9 (c:Env->Option Bool)(f g:Env->Option Out)(env:Env):Option Out:=(c env).bind λk=>if k=true then f env else g env
@[simp] theorem Ue (c:Env->Option Bool)(f g:Env->Option Out)(env:Env):E9 c f g env=((c env).bind λk=>if k=true then f env else g env):=id rfl
noncomputable def jA (g:PV->PV->Option PV)(i:Nat)(f:qB)(env:Env):Option Out:=(bV i env).bind λx=>(f env).bind λp=>(g x p).bind λy=>some (.nx (env.set i (some y)))
@[simp] theorem S8 (g:PV->PV->Option PV)(i:Nat)(f:qB)(env:Env):jA g i f env=((bV i env).bind λx=>(f env).bind λp=>(g x p).bind λy=>some (.nx (env.set i (some y)))):=id rfl
noncomputable def yc (g:PV->PV->PV->Option PV)(i:Nat)(f h:qB)(env:Env):Option Out:=(bV i env).bind λx=>(f env).bind λp=>(h env).bind λq=>(g x p q).bind λy=>some (.nx (env.set i (some y)))
@[simp] theorem S9 (g:PV->PV->PV->Option PV)(i:Nat)(f h:qB)(env:Env):yc g i f h env=((bV i env).bind λx=>(f env).bind λp=>(h env).bind λq=>(g x p q).bind λy=>some (.nx (env.set i (some y)))):=id rfl
@[simp] noncomputable def qj:PV->PV->Option PV
 | .lst xs,p=>if xs.length < 1000000 then some (.lst (xs++[p])) else none
 | _,_=>none
noncomputable def bD {κ:Type}[DecidableEq κ](kvs:List (κ×PV))(k:κ)(v:PV):List (κ×PV):=
 if (kvs.any λkv=>decide (kv.1=k))=true then kvs.map (λkv=>if kv.1=k then (kv.1,v) else kv) else kvs++[(k,v)]
@[simp] noncomputable def DP:PV->PV->PV->Option PV
 | .dK kvs,k,v=>(keyOf k).bind λk=>if kvs.length < 1000000 then some (.dK (bD kvs k v)) else none
 | .dT kvs,.tup ks,v=>(AD ks).bind λk=>if kvs.length < 1000000 then some (.dT (bD kvs k v)) else none
 | .lst xs,.int i,v=>(Kk xs.length i).map λj=>.lst (xs.set j v)
 | _,_,_=>none
variable {tg:Expr}{fr:Bool}
section
variable {X:Cx}{b:BX}{G G' G1 L:qc}{ro:Bool}{st:Stmt}{rest:qh}{f g:Env->Option Out}{e e1 e2:Expr}{h h1 h2:qB}{m m1 m2:Md}{pos:Pos}
theorem cg:JA X b G G L ro [] E8:=Fh.imp j4<|by rintro D σ H ⟨Ow,env,o,E,hf,k⟩;cases hf;exact k Ow σ H E (Ex.refl _ _)
theorem aD (a:SS X b G G1 L ro st f)(c:JA X b G1 G' L ro rest g):JA X b G G' L ro (st::rest) (aP f g):=Fh.imp (aW a c)<|by
 rintro D σ H ⟨Ow,env,o,E,hf,k⟩
 unfold aP at hf
 cases q:f env with
 | none=>rw[q] at hf;cases hf
 | some o1=>
  rw[q] at hf
  refine⟨Ow,env,o1,E,q,?_⟩
  cases o1 with
  | nx e'=>exact λA2 σ' H' E' x=>⟨A2,e',o,E',hf,k.ex x⟩
  | bk e'=>cases hf;exact k
  | ct e'=>cases hf;exact k
  | rt p=>cases hf;exact k
theorem aH (a:SS X b G G' L ro st f):JA X b G G' L ro [st] f:=bR a
theorem zj (c:JA X b G1 G' L ro rest g)(hs:∀j,j∈G1->j∈G:=by decide):JA X b G G' L ro rest g:=Fh.imp c<|by
 rintro D σ H ⟨Ow,env,o,E,hf,k⟩
 obtain⟨A2,E',x⟩:=E.weak hs
 exact⟨A2,env,o,E',hf,k.ex x⟩
theorem S_:SS X b G G' L ro st XS:=PS.imp HD<|by rintro D σ H ⟨Ow,env,o,E,hf,k⟩;cases hf
theorem aA {α β:Type}{x:Option α}{k:α->Option β}{y:β}(h:x.bind k=some y):∃a,x=some a/\k a=some y:=by
 cases x with
 | none=>cases h
 | some a=>exact⟨a,rfl,h⟩
theorem Tc {i:Nat}{D:Ends}(hi:i∉G)(hx:b.fx i=none)(q:tS b G G L ro (bM i h) D σ H):tM b G .val h σ H λv H1=>D.nx (σ.set i (some v)) H1:=by
 obtain⟨Ow,env,o,E,hf,k⟩:=q
 obtain⟨p,hp,e⟩:=aA hf
 cases e
 exact⟨Ow,env,p,E,hp,λv H' s r=>k Ow _ H' ((E.up s).set hi r hx) (.of_same s)⟩
theorem RW {i:Nat}{D:Ends}(hG:∀j,j∈G'↔(j∈G\/j=i))(hx:b.fx i=none)(q:tS b G G' L ro (bM i h) D σ H):tM b G .own h σ H λv H1=>D.nx (σ.set i (some v)) H1:=by
 obtain⟨Ow,env,o,E,hf,k⟩:=q
 obtain⟨p,hp,e⟩:=aA hf
 cases e
 refine⟨Ow,env,p,E,hp,?_⟩
 rintro v H' s ⟨a,ev,hn,t⟩
 subst ev
 obtain⟨E',x⟩:=(E.up s).Wo hG s hn E t hx
 exact k _ _ H' E' x
theorem cP (i:Nat){pos':Pos}(nd:X.N.Nodup)(he:SE X b G .val e h)(hG:i∉G:=by decide)(hx:b.fx i=none:=by first | rfl | assumption)(hi:X.N[i]?=some x:=by rfl)(hl:Loc X.env.scope x:=by first | exact eT rfl | exact e9 rfl)
  (hs:swapsWith e (some (.Name x pos')) pos.line X.env=pure false:=by rfl) (hf:X.fn x=true\/X.env.scope.names.lookup x=some .local:=by first | exact .inl rfl | exact .inr rfl | assumption):SS X b G G L ro (.Assign [.Name x pos'] e pos) (bM i h):=
 PS.imp (dZ nd hi hl he hs hf) λD σ H q=>Tc hG hx q
theorem k_ (i:Nat){pos':Pos}(nd:X.N.Nodup)(he:SE X b G .own e h)(hG:i∈G:=by decide)(hx:b.fx i=none:=by first | rfl | assumption)(hi:X.N[i]?=some x:=by rfl)(hl:Loc X.env.scope x:=by first | exact eT rfl | exact e9 rfl)
  (hs:swapsWith e (some (.Name x pos')) pos.line X.env=pure false:=by rfl) (hf:X.fn x=true\/X.env.scope.names.lookup x=some .local:=by first | exact .inl rfl | exact .inr rfl | assumption):SS X b G G L ro (.Assign [.Name x pos'] e pos) (bM i h):=
 PS.imp (dZ nd hi hl he hs hf) λD σ H q=>RW (λj=>⟨.inl,λz=>z.elim id λy=>y▸hG⟩) hx q
theorem aZ (he:SE X b G .val e h):SS X b G G' L false (.Return (some e) pos) (bw h):=PS.imp (gR he)<|by
 rintro D σ H ⟨Ow,env,o,E,hf,k⟩
 obtain⟨p,hp,z1⟩:=aA hf
 clear hf
 cases z1
 exact⟨Ow,env,p,E,hp,λv H' s r=>k v H' (E.same.trans s) (Rep.ex (aV λc o _ q=>q.2) r)⟩
theorem Qc (he:SE X b G .own e h):SS X b G G' L true (.Return (some e) pos) (bw h):=PS.imp (gR he)<|by
 rintro D σ H ⟨Ow,env,o,E,hf,k⟩
 obtain⟨p,hp,z1⟩:=aA hf
 clear hf
 cases z1
 exact⟨Ow,env,p,E,hp,λv H' s ⟨a,ev,hn,t⟩=>k v H' (E.same.trans s) ⟨a,ev,E.same.free hn,t.ex (aV λc o _ q=>⟨q.1.2,q.2⟩) λo z=>z⟩⟩
theorem Qd (i:Nat){p1:Pos}(hi:i∈G:=by decide)(hN:X.N[i]?=some x:=by rfl)(hv:LZ X.env.scope x:=by first | exact eT rfl | exact e9 (eT rfl) | exact e9 (e9 rfl))(hd:(x == ("__debug__" : Str))=false:=by decide)
  (D9:(x == ("__classdict__" : Str))=false:=by decide):SS X b G G' L true (.Return (some (.Name x p1)) pos) (bw (bV i)):=PS.imp (gR (iD hN hv hd D9))<|by
 rintro D σ H ⟨Ow,env,o,E,hf,k⟩
 obtain⟨p,hp,z1⟩:=aA hf
 clear hf
 cases z1
 obtain⟨a,e,w,t⟩:=E.own i p (fK hp) hi
 exact⟨_,e,k _ H E.same ⟨a,rfl,E.new a w,t.ex (aV λc o _ q=>⟨q.2,λz=>q.1 (z▸w)⟩) λo z=>z⟩⟩
theorem dR {c:Expr}{k:Env->Option Bool}{sa sb:qh}(hc:ST X b G c k)(ha:JA X b G G' L ro sa f)(hb:JA X b G G' L ro sb g):SS X b G G' L ro (.If c sa sb pos) (E9 k f g):=PS.imp (qK hc ha hb)<|by
 rintro D σ H ⟨Ow,env,o,E,hf,kk⟩
 obtain⟨p,hp,z1⟩:=aA hf
 clear hf
 refine⟨Ow,env,p,E,hp,λH' s=>?_⟩
 cases p with
 | true=>exact jh ⟨Ow,env,o,E.up s,z1,kk.ex (.of_same s)⟩
 | false=>exact lY ⟨Ow,env,o,E.up s,z1,kk.ex (.of_same s)⟩
theorem qW (i:Nat){p1 AG:Pos}(he:SE X b G .val e h)(hi:i∈G:=by decide)(hN:X.N[i]?=some x:=by rfl)(hv:LZ X.env.scope x:=by first | exact eT rfl | exact e9 (eT rfl) | exact e9 (e9 rfl))(hd:(x == ("__debug__" : Str))=false:=by decide)
  (D9:(x == ("__classdict__" : Str))=false:=by decide) (BO:attributeBase (.Name x p1) "append" X.env (eval (.Name x p1) X.env)=eval (.Name x p1) X.env:=by rfl)
  (EZ:((backTo AG (starEach [e] X.env)).all (λx=>!x.1)&&(backToKw AG (keywordEach [] X.env)).all (λx=>x.1.isSome)
   && decide ([e].length+([]:List Keyword).length+(if ([]:List Keyword).isEmpty then 0 else 1) < 30))=true:=by rfl)
  (BQ:(apos.endLine == AG.line)=true:=by rfl) (hs:starEach [e] X.env=(false,eval e X.env)::starEach [] X.env:=by rfl):
  SS X b G G L ro (.Expr (.Call (.Attribute (.Name x p1) "append" apos) [e] [] AG) pos) (jA qj i h):=
 PS.imp (qJ (xZ iA j3 kc jH (iD hN hv hd D9) (aB he aN hs) BO EZ BQ hs rfl))<|by
  rintro D σ H ⟨Ow,env,o,E,hf,k⟩
  obtain⟨px,Sf,z1⟩:=aA hf
  clear hf
  obtain⟨p,hp,z2⟩:=aA z1
  clear z1
  obtain⟨y,hy,z3⟩:=aA z2
  clear z2
  cases z3
  obtain⟨a,ea,w,t⟩:=E.own i px (fK Sf) hi
  cases px <;> simp only[qj] at hy <;> first | cases hy | skip
  rename_i xs
  split at hy
  ·rename_i hl
   cases hy
   obtain⟨vs,ha,ra⟩:=id t
   refine⟨_,ea,.inl ⟨rfl,_,A0.of ha⟩,Ow,env,p,E,hp,λv H' s r=>?_⟩
   refine⟨a,vs,v,rfl,rfl,s _ _ ha,bY (by rw[ra.length];omega),?_⟩
   have Si:zI b.C (Bs b Ow) (upd H' a (.lst (vs++[v]))) (vs++[v]) (xs++[p]):=by
    refine(ra.ex (.of_same s)).append (.cons r .nil) |>.ex λc o h=>⟨λq=>⟨by rw[ao (λz:c=a=>q.1 (z▸w))];exact h,q⟩,λm=>?_⟩
    have hc:c≠a:=λz=>by subst z;rw[s _ _ ha] at h;cases h;cases m
    rw[ao hc];exact h
   obtain⟨E',x⟩:=(E.up s).write hi ea (fK Sf) w (t.ex (.of_same s) λo z=>s _ _ z) (o':=.lst (vs++[v])) (p':=.lst (xs++[p])) ⟨_,az,Si⟩
   exact k Ow σ _ E' ((Ex.of_same s).trans x)
  ·cases hy
theorem AJ.put {k:Key}{p:PV}(r:Rep C A H v p){kv:List (Key×V)}{kvs:List (Key×PV)}(t:AJ C A H kv kvs):AJ C A H (putK kv k v) (bD kvs k p):=by
 have UJ:∀{kv:List (Key×V)}{kvs:List (Key×PV)},AJ C A H kv kvs->(kv.any λx=>decide (x.1=k))=(kvs.any λx=>decide (x.1=k)):=by
  intro kv kvs t
  induction kv generalizing kvs with
  | nil=>cases t;rfl
  | cons x l ih=>cases t with | cons h t=>rw[eR,eR,ih t]
 have UK:∀{kv:List (Key×V)}{kvs:List (Key×PV)},AJ C A H kv kvs->AJ C A H (kv.map λx=>if x.1=k then (x.1,v) else x) (kvs.map λx=>if x.1=k then (x.1,p) else x):=by
  intro kv kvs t
  induction kv generalizing kvs with
  | nil=>cases t;exact .nil
  | cons x l ih=>
   cases t with
   | cons h t=>
    rw[ap,ap]
    rename_i k' v' p' Wn
    by_cases e:k'=k
    ·simp only[e,fw];exact .cons r (ih t)
    ·simp only[e,fm];exact .cons h (ih t)
 have UL:∀{kv:List (Key×V)}{kvs:List (Key×PV)},AJ C A H kv kvs->AJ C A H (kv++[(k,v)]) (kvs++[(k,p)]):=by
  intro kv kvs t
  induction kv generalizing kvs with
  | nil=>cases t;exact .cons r .nil
  | cons x l ih=>cases t with | cons h t=>exact .cons h (ih t)
 unfold putK bD
 rw[UJ t]
 split
 ·exact UK t
 ·exact UL t
theorem AN.put {k:List zD}{p:PV}(r:Rep C A H v p){kv:List (List zD×V)}{kvs:List (List zD×PV)}(t:AN C A H kv kvs):AN C A H (putK kv k v) (bD kvs k p):=by
 have UJ:∀{kv:List (List zD×V)}{kvs:List (List zD×PV)},AN C A H kv kvs->(kv.any λx=>decide (x.1=k))=(kvs.any λx=>decide (x.1=k)):=by
  intro kv kvs t
  induction kv generalizing kvs with
  | nil=>cases t;rfl
  | cons x l ih=>cases t with | cons h t=>rw[eR,eR,ih t]
 have UK:∀{kv:List (List zD×V)}{kvs:List (List zD×PV)},AN C A H kv kvs->AN C A H (kv.map λx=>if x.1=k then (x.1,v) else x) (kvs.map λx=>if x.1=k then (x.1,p) else x):=by
  intro kv kvs t
  induction kv generalizing kvs with
  | nil=>cases t;exact .nil
  | cons x l ih=>
   cases t with
   | cons h t=>
    rw[ap,ap]
    rename_i k' v' p' Wn
    by_cases e:k'=k
    ·simp only[e,fw];exact .cons r (ih t)
    ·simp only[e,fm];exact .cons h (ih t)
 have UL:∀{kv:List (List zD×V)}{kvs:List (List zD×PV)},AN C A H kv kvs->AN C A H (kv++[(k,v)]) (kvs++[(k,p)]):=by
  intro kv kvs t
  induction kv generalizing kvs with
  | nil=>cases t;exact .cons r .nil
  | cons x l ih=>cases t with | cons h t=>exact .cons h (ih t)
 unfold putK bD
 rw[UJ t]
 split
 ·exact UK t
 ·exact UL t
theorem AN.length {C:MC}{A:Addr->Prop}{H:Hp}:∀{vs:List (List zD×V)}{ps:List (List zD×PV)},AN C A H vs ps->vs.length=ps.length
 | _,_,.nil=>rfl
 | _,_,.cons _ t=>by simp[AN.length t]
theorem oF {o o':HO}(w:Ow a)(ha:H a=some o)(hm:gW o=true):Ex (Bs b Ow) H (Bs b Ow) (upd H a o'):=λc u h=>⟨λq=>⟨by rw[ao (λz:c=a=>q.1 (z▸w))];exact h,q⟩,λm=>by
 have hc:c≠a:=λz=>by subst z;rw[ha] at h;cases h;rw[hm] at m;cases m
 rw[ao hc];exact h⟩
theorem Kr (i:Nat){p1 p2:Pos}{j:Nat}(hr:AR j X.A)(hk:SE X b G .val e1 h1)(XB:SE X b G .val e2 h2)(hi:i∈G:=by decide)(hN:X.N[i]?=some x:=by rfl)(hv:LZ X.env.scope x:=by first | exact eT rfl | exact e9 (eT rfl) | exact e9 (e9 rfl))(hd:(x == ("__debug__" : Str))=false:=by decide)
  (D9:(x == ("__classdict__" : Str))=false:=by decide) (hs:swapsWith e2 (some (.Subscript (.Name x p1) e1 p2)) pos.line X.env=pure false:=by rfl) (EX:swapsWithSole [.Subscript (.Name x p1) e1 p2] e2 pos.line X.env=pure false:=by rfl) (hw:swappedStores [.Subscript (.Name x p1) e1 p2] e2 X.env=pure none:=by rfl)
  (Y0:(assignEach [.Subscript (.Name x p1) e1 p2] X.env).map (·.2)=[assign (.Subscript (.Name x p1) e1 p2) X.env]:=by rfl)
  (ha:∀v,assign (.Subscript (.Name x p1) e1 p2) X.env v=(do
   let ov ← holding [v] (eval (.Name x p1) X.env)
   let iv ← holding [v,ov] (eval e1 X.env)
   standAt p2
   holding [v,ov,iv] (setItem ov iv v)
   release [v,ov,iv] []):=by intro _;rfl) (hK:X.K=b.C.K:=by rfl):SS X b G G L ro (.Assign [.Subscript (.Name x p1) e1 p2] e2 pos) (yc DP i h1 h2):=by
 refine PS.imp (PS.or (mY (dh hr) (iD hN hv hd D9) hk XB hs) (Oc XB (Ob (iD hN hv hd D9) hk set_list ha) EX hw Y0)) ?_
 rintro D σ H ⟨Ow,env,o,E,hf,k⟩
 obtain⟨px,Sf,z1⟩:=aA hf
 clear hf
 obtain⟨pk,Y1,z2⟩:=aA z1
 clear z1
 obtain⟨pv,Y2,z3⟩:=aA z2
 clear z2
 obtain⟨y,hy,z4⟩:=aA z3
 clear z3
 cases z4
 obtain⟨a,ea,w,t⟩:=E.own i px (fK Sf) hi
 have fin:∀{H2:Hp}{o':HO},zS H H2->Top b.C (Bs b Ow) (upd H2 a o') a y->D.nx σ (upd H2 a o'):=λ{H2 o'} s t'=>by
  obtain⟨E',x⟩:=(E.up s).write hi ea (fK Sf) w (t.ex (.of_same s) λo z=>s _ _ z) t'
  exact k Ow σ _ E' ((Ex.of_same s).trans x)
 unfold DP at hy
 split at hy
 ·obtain⟨ky,Y3,hy⟩:=aA hy
  split at hy
  ·rename_i hl
   cases hy
   obtain⟨kv,ha,ra⟩:=id t
   refine .inl ⟨Ow,env,pv,E,Y2,λv H1 s1 r1=>⟨_,ea,Ow,env,pk,E.up s1,Y1,λu H2 s2 r2=>?_⟩⟩
   have s:=s1.trans s2
   have eu:=Ap.key (.inl r2) Y3
   subst eu
   refine⟨a,_,rfl,Fs.k (s _ _ ha) (bY (by rw[ra.length];omega)),fin s ⟨_,az,?_⟩⟩
   exact(AJ.put (k:=ky) (Rep.ex (.of_same s2) r1) (ra.ex (.of_same s))).ex (oF w (s _ _ ha) rfl)
  ·cases hy
 ·obtain⟨ky,Y3,hy⟩:=aA hy
  split at hy
  ·rename_i hl
   cases hy
   obtain⟨kv,ha,ra⟩:=id t
   refine .inl ⟨Ow,env,pv,E,Y2,λv H1 s1 r1=>⟨_,ea,Ow,env,_,E.up s1,Y1,λu H2 s2 r2=>?_⟩⟩
   have s:=s1.trans s2
   obtain⟨c,us,rfl,hc,rc⟩:=Ap.tup (.inl r2)
   refine⟨a,_,rfl,Fs.t (s _ _ ha) (by rw[hK];exact hc.key (rc.AD Y3)) (bY (by rw[ra.length];omega)),fin s ⟨_,az,?_⟩⟩
   exact(AN.put (k:=ky) (Rep.ex (.of_same s2) r1) (ra.ex (.of_same s))).ex (oF w (s _ _ ha) rfl)
  ·cases hy
 ·rename_i xs n
  cases q:Kk xs.length n with
  | none=>rw[q] at hy;cases hy
  | some jj=>
   rw[q] at hy
   cases hy
   obtain⟨vs,ha,ra⟩:=id t
   refine .inr ⟨Ow,env,pv,E,Y2,λv H1 s1 r1=>⟨_,ea,Ow,env,_,E.up s1,Y1,λu H2 s2 r2=>?_⟩⟩
   have s:=s1.trans s2
   have eu:=Ap.int (.inl r2)
   subst eu
   refine⟨a,vs,n,jj,rfl,rfl,s _ _ ha,by rw[ra.length];exact q,fin s ⟨_,az,?_⟩⟩
   exact(zI.set (Rep.ex (.of_same s2) r1) jj (ra.ex (.of_same s))).ex (oF w (s _ _ ha) rfl)
 ·cases hy
def IW (b:BX)(Ow:Addr->Prop)(fr:Bool)(H1:Hp)(J:It)(ps:List PV):Prop:=∀A2 H,(fr=false->zS H1 H)->Ex (Bs b Ow) H1 (Bs b A2) H->(∀a,H a=none->Bs b A2 a)->
 (∀i p,ps[i]?=some p->J.go i H/\∀x H',J.L4 i H x H'->zS H H'/\Rep b.C (Bs b A2) H' x p)/\J.stop ps.length H
def tMI (b:BX)(G:qc)(fr:Bool)(g:Env->Option (List PV)):TI:=fun σ H R=>∃Ow env ps,ER b Ow G σ env H/\g env=some ps/\∀J H1,zS H H1->IW b Ow fr H1 J ps->R J H1
abbrev SI (X:Cx)(b:BX)(G:qc)(fr:Bool)(tg it:Expr)(g:Env->Option (List PV)):Prop:=PI X tg it (tMI b G fr g)
theorem PI.imp {it:Expr}{t u:TI}(h:PI X tg it t)(i:∀ σ H R,u σ H R->t σ H R):PI X tg it u:=λzC s σ H R I q=>h zC s σ H R I (i σ H R q)
theorem PI.or {it:Expr}{t u:TI}(h:PI X tg it t)(h':PI X tg it u):PI X tg it (fun σ H R=>t σ H R\/u σ H R):=λzC s σ H R I q=>q.elim (h zC s σ H R I) (h' zC s σ H R I)
noncomputable def Wq (x:Str):List PV:=x.cps.toList.map λc=>.str ⟨#[c]⟩
@[simp] noncomputable def PF:PV->Option (List PV)
 | .lst xs=>some xs
 | .frz xs=>some xs
 | .tup xs=>some xs
 | .ktp xs=>some xs
 | .str x=>some (Wq x)
 | _=>none
noncomputable def iV (f:qB)(env:Env):Option (List PV):=(f env).bind PF
@[simp] theorem Ux (f:qB)(env:Env):iV f env=((f env).bind PF):=id rfl
theorem vO {H1:Hp}{xs:List PV}(hq:∀A2 H,(fr=false->zS H1 H)->Ex (Bs b Ow) H1 (Bs b A2) H->A0 b.C.K H a vs/\zI b.C (Bs b A2) H vs xs):IW b Ow fr H1 (OQ b.C.K a) xs:=by
 intro A2 H h0 h1 hn
 obtain⟨q,r⟩:=hq A2 H h0 h1
 refine⟨λi p hp=>?_,⟨vs,q,by rw[r.length];exact aE _⟩⟩
 obtain⟨v,hv,rv⟩:=r.get hp
 refine⟨⟨vs,v,q,hv⟩,λx H' y=>?_⟩
 obtain⟨e,y⟩:=y
 subst e
 have e2:=y vs q
 rw[hv] at e2
 cases e2
 exact⟨zS.refl _,rv⟩
theorem Gu {H1:Hp}{xs:List PV}(hq:∀A2 H,(fr=false->zS H1 H)->Ex (Bs b Ow) H1 (Bs b A2) H->B6 b.C.K H a vs/\zI b.C (Bs b A2) H vs xs):IW b Ow fr H1 (OR b.C.K a) xs:=by
 intro A2 H h0 h1 hn
 obtain⟨q,r⟩:=hq A2 H h0 h1
 refine⟨λi p hp=>?_,⟨vs,q,by rw[r.length];exact aE _⟩⟩
 obtain⟨v,hv,rv⟩:=r.get hp
 refine⟨⟨vs,v,q,hv⟩,λx H' y=>?_⟩
 obtain⟨e,y⟩:=y
 subst e
 have e2:=y vs q
 rw[hv] at e2
 cases e2
 exact⟨zS.refl _,rv⟩
theorem Qe {H1:Hp}:IW b Ow fr H1 (YN x) (Wq x):=by
 intro A2 H h0 h1 hn
 refine⟨λi p hp=>?_,by show (Wq x).length=x.cps.size;unfold Wq;rw[ba,gy]⟩
 unfold Wq at hp
 rw[cm] at hp
 cases q:x.cps.toList[i]? with
 | none=>rw[q] at hp;cases hp
 | some c=>
  rw[q] at hp
  cases hp
  have hc:x.cps[i]?=some c:=by rw[← Array.getElem?_toList];exact q
  refine⟨(Array.getElem?_eq_some_iff.mp hc).1,λv H' y=>?_⟩
  obtain⟨e,c',h',ev⟩:=y
  subst e
  rw[hc] at h'
  cases h'
  subst ev
  exact⟨zS.refl _,.str _⟩
theorem oG (he:SE X b G m e h)(hm:fr=true->m≠.bor:=by simp)(hK:X.K=b.C.K:=by rfl):SI X b G fr tg e (iV h):=by
 have hPI:=PI.or (tg:=tg) (PI.or (vB he) (uo he)) (O6 he)
 refine PI.imp hPI ?_
 rintro σ H R ⟨Ow,env,ps,E,hg,k⟩
 rw[hK]
 obtain⟨p,hp,Fc⟩:=aA hg
 have keep:∀{H1 A2 H2}{v:V},zS H H1->Res b Ow H H1 m v p->(fr=false->zS H1 H2)->Ex (Bs b Ow) H1 (Bs b A2) H2->Ap b.C (Bs b A2) H2 v p:=λ{H1 A2 H2 v} s r h0 h1=>by
  cases fr with
  | false=>exact Ap.ex h1 (h0 rfl) r.bor
  | true=>exact .inl (Rep.ex h1 (r.val E (hm rfl)))
 unfold PF at Fc
 split at Fc
 ·cases Fc
  refine .inl (.inl ⟨Ow,env,_,E,hp,λv H1 s r=>?_⟩)
  have r1:Ap b.C (Bs b Ow) H1 v (.lst _):=r.bor
  obtain⟨a,vs,rfl,ha,ra⟩:=r1.lst
  refine⟨a,rfl,⟨vs,A0.of ha⟩,k _ _ s (vO (vs:=vs) λA2 H2 h0 h1=>?_)⟩
  obtain⟨a',Ic,e',XF,Si⟩:=(keep s r h0 h1).lst
  cases e'
  have:H2 a=some (.lst vs):=by
   cases fr with
   | false=>exact h0 rfl _ _ ha
   | true=>
    have rv:Rep b.C (Bs b Ow) H1 (.ref a) (.lst _):=r.val E (hm rfl)
    cases rv with
    | lst q1 q2 q3=>rw[ha] at q1;cases q1;exact((h1 _ _ ha).1 q2).1
  rw[XF] at this
  cases this
  exact⟨A0.of XF,Si⟩
 ·cases Fc
  refine .inl (.inl ⟨Ow,env,_,E,hp,λv H1 s r=>?_⟩)
  have r1:Rep b.C (Bs b Ow) H1 v (.frz _):=(by rcases r.bor with z | ⟨_,_,z⟩;exact z;exact z.elim)
  cases r1 with
  | Lu q1 q3=>exact⟨_,rfl,⟨_,.inl (.inr ⟨_,q1⟩)⟩,k _ _ s (vO λA2 H2 h0 h1=>⟨.inl (.inr ⟨_,(h1 _ _ q1).2 rfl⟩),q3.ex h1⟩)⟩
  | lstK q1 q3=>exact⟨_,rfl,⟨_,Vs q1⟩,k _ _ s (vO λA2 H2 h0 h1=>⟨Vs q1,q3.ex h1⟩)⟩
 ·cases Fc
  refine .inl (.inr ⟨Ow,env,_,E,hp,λv H1 s r=>?_⟩)
  have r1:Ap b.C (Bs b Ow) H1 v (.tup _):=r.bor
  obtain⟨a,vs,rfl,ha,ra⟩:=r1.tup
  exact⟨a,rfl,⟨vs,ha.sq⟩,k _ _ s (Gu (vs:=vs) λA2 H2 h0 h1=>⟨(ha.ex h1).sq,ra.ex h1⟩)⟩
 ·cases Fc
  refine .inl (.inr ⟨Ow,env,_,E,hp,λv H1 s r=>?_⟩)
  have r1:Ap b.C (Bs b Ow) H1 v (.ktp _):=r.bor
  rcases r1 with r1 | ⟨_,_,t⟩
  ·cases r1 with
   | tupK q1 q3=>exact⟨_,rfl,⟨_,kO q1⟩,k _ _ s (Gu λA2 H2 h0 h1=>⟨kO q1,q3.ex h1⟩)⟩
  ·exact t.elim
 ·cases Fc
  refine .inr ⟨Ow,env,_,E,hp,λv H1 s r=>?_⟩
  have r1:Ap b.C (Bs b Ow) H1 v (.str _):=r.bor
  exact⟨_,r1.str,k _ _ s Qe⟩
 ·cases Fc
noncomputable def F7 (i:Int):Bool:=@decide (-4611686018427387904<=i/\i < 4611686018427387904) (Classical.propDecidable _)
theorem jK {i:Int}(h:-4611686018427387904<=i)(h':i < 4611686018427387904):F7 i=true:=@g9 _ (Classical.propDecidable _) ⟨h,h'⟩
theorem nj {i:Int}(h:F7 i=true):-(2 ^ 62)<=i/\i < 2 ^ 62:=by
 simp only[F7,ed] at h
 exact h
noncomputable def cT (lo hi:Int):List PV:=(List.range (hi - lo).toNat).map λi=>.int (lo+(i:Nat))
noncomputable def Sj (f:qB)(env:Env):Option (List PV):=(f env).bind λp=>match p with
 | .int j=>if F7 j=true then some (cT 0 j) else none
 | _=>none
@[simp] theorem Ug (f:qB)(env:Env):Sj f env=((f env).bind λp=>match p with
 | .int j=>if F7 j=true then some (cT 0 j) else none
 | _=>none):=id rfl
noncomputable def Y4 (f g:qB)(env:Env):Option (List PV):=(f env).bind λp=>(g env).bind λq=>match p,q with
 | .int i,.int j=>if (F7 i&&F7 j)=true then some (cT i j) else none
 | _,_=>none
@[simp] theorem Uh (f g:qB)(env:Env):Y4 f g env=((f env).bind λp=>(g env).bind λq=>match p,q with
 | .int i,.int j=>if (F7 i&&F7 j)=true then some (cT i j) else none
 | _,_=>none):=id rfl
theorem Gv {H1:Hp}{lo hi:Int}:IW b Ow fr H1 (OS lo (hi - lo).toNat) (cT lo hi):=by
 intro A2 H h0 h1 hn
 have hl:(cT lo hi).length=(hi - lo).toNat:=by unfold cT;rw[ba,fb]
 refine⟨λi p hp=>?_,by show (hi - lo).toNat<=(cT lo hi).length;rw[hl];exact aE _⟩
 have LS:i < (hi - lo).toNat:=by rw[← hl];exact(ag.mp hp).1
 refine⟨LS,λx H' y=>?_⟩
 obtain⟨e,ex⟩:=y
 subst e ex
 unfold cT at hp
 rw[cm,me LS] at hp
 cases hp
 exact⟨zS.refl _,.int _⟩
theorem qX {p pos:Pos}(hm:X.mg "range" = none)(he:SE X b G m e h)(hg:Gl X "range" := by rfl)(hs:starEach [e] X.env=[(false,eval e X.env)]:=by rfl)(DU:starEach [e] X.env=(false,eval e X.env)::starEach [] X.env:=by rfl):SI X b G fr tg (.Call (.Name "range" p) [e] [] pos) (Sj h):=by
 refine PI.imp (wM hg hm (aB he.bor aN DU) hs) ?_
 rintro σ H R ⟨Ow,env,ps,E,hf,k⟩
 obtain⟨p1,hp,Fc⟩:=aA hf
 refine⟨Ow,env,p1,E,hp,λv H1 s r=>?_⟩
 have r1:Ap b.C (Bs b Ow) H1 v p1:=r
 cases p1 <;> simp only at Fc <;> first | cases Fc | skip
 rename_i j
 split at Fc
 ·rename_i hj
  cases Fc
  have hw:IW b Ow fr H1 (OS 0 (j - 0).toNat) (cT 0 j):=Gv
  rw[Int.sub_zero] at hw
  exact⟨j,by rw[r1.int],(nj hj).1,(nj hj).2,k _ _ s hw⟩
 ·cases Fc
theorem RX {p pos:Pos}(hm:X.mg "range" = none)(he:SE X b G m1 e1 h1)(OF:SE X b G m2 e2 h2)(hg:Gl X "range" := by rfl)(hs:starEach [e1,e2] X.env=[(false,eval e1 X.env),(false,eval e2 X.env)]:=by rfl)(EX:starEach [e2] X.env=[(false,eval e2 X.env)]:=by rfl)
  (DU:starEach [e1,e2] X.env=(false,eval e1 X.env)::starEach [e2] X.env:=by rfl) (Y5:starEach [e2] X.env=(false,eval e2 X.env)::starEach [] X.env:=by rfl):SI X b G fr tg (.Call (.Name "range" p) [e1,e2] [] pos) (Y4 h1 h2):=by
 refine PI.imp (Fp hg hm (aB he.bor (aB OF.bor aN Y5) DU) hs EX) ?_
 rintro σ H R ⟨Ow,env,ps,E,hf,k⟩
 obtain⟨p1,hp,Wr⟩:=aA hf
 clear hf
 obtain⟨p2,K2,Fc⟩:=aA Wr
 clear Wr
 refine⟨Ow,env,p1,E,hp,λv H1 s r=>⟨Ow,env,p2,E.up s,K2,λv2 H2 s2 r2=>?_⟩⟩
 have r1:Ap b.C (Bs b Ow) H1 v p1:=r
 have UM:Ap b.C (Bs b Ow) H2 v2 p2:=r2
 cases p1 <;> cases p2 <;> simp only at Fc <;> first | cases Fc | skip
 rename_i i j
 split at Fc
 ·rename_i hj
  cases Fc
  exact⟨i,j,by rw[r1.int,UM.int],(by rw[b6] at hj;exact⟨(nj hj.1).1,(nj hj.1).2,(nj hj.2).1,(nj hj.2).2⟩),k _ _ (s.trans s2) Gv⟩
 ·cases Fc
noncomputable def eX (n:Nat):List PV->List PV
 | []=>[]
 | x::xs=>.tup [.int (n:Nat),x]::eX (n+1) xs
theorem wZ {p:PV}:∀{xs:List PV}{n i:Nat},(eX n xs)[i]?=some p->∃x,xs[i]?=some x/\p=.tup [.int ((n+i:Nat):Int),x]
 | [],n,i,e=>by simp[eX] at e
 | x::xs,n,0,e=>by
  simp[eX] at e
  exact⟨x,rfl,by rw[← e];rfl⟩
 | x::xs,n,i+1,e=>by
  simp only[eX,List.getElem?_cons_succ] at e
  obtain⟨y,h1,h2⟩:=wZ e
  exact⟨y,by simpa using h1,by rw[h2,Nat.add_right_comm,pT]⟩
theorem ql:∀{xs:List PV}{n:Nat},(eX n xs).length=xs.length
 | [],_=>rfl
 | x::xs,n=>by simp[eX,ql (xs:=xs)]
end
noncomputable def gN (i:Nat)(p:PV)(env:Env):Option Env:=some (env.set i (some p))
@[simp] theorem Uy (i:Nat)(p:PV)(env:Env):gN i p env=(some (env.set i (some p))):=id rfl
@[simp] noncomputable def Vu:List Nat->List PV->Env->Option Env
 | [],[],env=>some env
 | i::is,p::ps,env=>Vu is ps (env.set i (some p))
 | _,_,_=>none
noncomputable def gT (is:qc)(p:PV)(env:Env):Option Env:=match p with
 | .tup xs=>Vu is xs env
 | _=>none
@[simp] theorem Uz (is:qc)(p:PV)(env:Env):gT is p env=(match p with
 | .tup xs=>Vu is xs env
 | _=>none):=id rfl
def tMG (b:BX)(G:qc)(g:PV->Env->Option Env):TG:=λv σ H Q=>∃Ow env p C3,ER b Ow G σ env H/\Rep b.C (Bs b Ow) H v p/\g p env=some C3/\∀ σ',ER b Ow G σ' C3 H->Q σ' H
def Td (b:BX)(G:qc)(is:qc):N4:=λvs σ H Q=>∃Ow env ps C3,ER b Ow G σ env H/\zI b.C (Bs b Ow) H vs ps/\Vu is ps env=some C3/\∀ σ',ER b Ow G σ' C3 H->Q σ' H
abbrev SG (X:Cx)(b:BX)(G:qc)(tg:Expr)(g:PV->Env->Option Env):Prop:=PG X tg (tMG b G g)
abbrev XT (X:Cx)(b:BX)(G:qc)(tgs:qk)(is:qc):Prop:=N9 X tgs (Td b G is)
theorem PG.imp {t u:TG}(h:PG X tg t)(i:∀v σ H Q,u v σ H Q->t v σ H Q):PG X tg u:=λzC s σ H v w Q I r q=>h zC s σ H v w Q I r (i v σ H Q q)
theorem N9.imp {tg:qk}{t u:N4}(h:N9 X tg t)(i:∀v σ H Q,u v σ H Q->t v σ H Q):N9 X tg u:=λzC s σ H v w Q I r q=>h zC s σ H v w Q I r (i v σ H Q q)
variable {f:Env->Option Out}
section
variable {X:Cx}{b:BX}{G G' L:qc}{ro:Bool}{pos:Pos}
theorem mq (i:Nat)(nd:X.N.Nodup)(hG:i∉G:=by decide)(hx:b.fx i=none:=by first | rfl | assumption)(hi:X.N[i]?=some x:=by rfl)(hl:Loc X.env.scope x:=by first | exact eT rfl | exact e9 rfl)
  (hf:X.fn x=true\/X.env.scope.names.lookup x=some .local:=by first | exact .inl rfl | exact .inr rfl | assumption):SG X b G (.Name x pos) (gN i):=
 PG.imp (cI nd hi hl hf)<|by rintro v σ H Q ⟨Ow,env,p,C3,E,r,e,k⟩;cases e;exact k _ (E.set hG r hx)
theorem qY:XT X b G [] []:=N9.imp mO<|by
 rintro vs σ H Q ⟨Ow,env,ps,C3,E,r,e,k⟩
 cases ps with
 | nil=>cases r;cases e;exact⟨rfl,k σ E⟩
 | cons p ps=>cases e
theorem gh (i:Nat){es:qk}{is:qc}{p1:Pos}(nd:X.N.Nodup)(h2:XT X b G es is)(hG:i∉G:=by decide)(hx:b.fx i=none:=by first | rfl | assumption)(hi:X.N[i]?=some x:=by rfl)(hl:Loc X.env.scope x:=by first | exact eT rfl | exact e9 rfl)
  (hf:X.fn x=true\/X.env.scope.names.lookup x=some .local:=by first | exact .inl rfl | exact .inr rfl | assumption) (hs:(assignEach (.Name x p1::es) X.env).map (·.2)=assign (.Name x p1) X.env::(assignEach es X.env).map (·.2):=by rfl):XT X b G (.Name x p1::es) (i::is):=
 N9.imp (eU (cI nd hi hl hf) h2 hs)<|by
  rintro vs σ H Q ⟨Ow,env,ps,C3,E,r,e,k⟩
  cases ps with
  | nil=>cases e
  | cons p ps=>
   cases r with
   | cons r1 r2=>exact⟨_,_,rfl,Ow,env.set i (some p),ps,C3,E.set hG r1 hx,r2,e,k⟩
theorem vP:∀{is:qc}{ps:List PV}{env C3:Env},Vu is ps env=some C3->ps.length=is.length
 | [],[],_,_,_=>rfl
 | i::is,p::ps,env,C3,e=>by simp[vP (is:=is) (ps:=ps) e]
 | [],_::_,_,_,e=>by cases e
 | _::_,[],_,_,e=>by cases e
theorem DQ {es:qk}{k:Nat}{is:qc}(h:XT X b G es is)(hc:X.calm=true:=by rfl)(hn:(assignEach es X.env).length=is.length:=by rfl)(CL:(assignEach es X.env).findIdx? (·.1)=none:=by rfl)(hK:X.K=b.C.K:=by rfl):SG X b G (.Tuple es k pos) (gT is):=
 PG.imp (pP hc h hn CL)<|by
  rintro v σ H Q ⟨Ow,env,p,C3,E,r,e,k⟩
  cases p <;> simp only[gT] at e <;> first | cases e | skip
  rename_i xs
  obtain⟨a,vs,rfl,ha,ra⟩:=Ap.tup (.inl r)
  rw[hK]
  exact⟨a,vs,rfl,ha.sq,by rw[ra.length];exact vP e,Ow,env,xs,C3,E,ra,e,k⟩
noncomputable def cV (g:PV->Env->Option Env)(ds:qc)(body:Env->Option Out):List PV->Env->Option Out
 | [],env=>some (.nx env)
 | x::xs,env=>(g x env).bind λe1=>(body e1).bind λo=>match o with
  | .nx e=>cV g ds body xs (EL ds e)
  | .ct e=>cV g ds body xs (EL ds e)
  | .bk e=>some (.nx (EL ds e))
  | .rt p=>some (.rt p)
noncomputable def gQ (g:PV->Env->Option Env)(src:Env->Option (List PV))(ds:qc)(body:Env->Option Out)(env:Env):Option Out:=(src env).bind λxs=>cV g ds body xs (EL ds env)
@[simp] theorem Ca (g:PV->Env->Option Env)(src:Env->Option (List PV))(ds:qc)(body:Env->Option Out)(env:Env):gQ g src ds body env=((src env).bind λxs=>cV g ds body xs (EL ds env)):=id rfl
theorem fQ {it:Expr}{body:qh}{g:PV->Env->Option Env}{src:Env->Option (List PV)}(ds:qc)(hi:SI X b G true tg it src)(hg:SG X b G tg g)(hb:JA X b G G G ro body f)(hp:PassesOwn (model X.prog X.w) X.A X.env X.xe)(hc:X.calm=true:=by rfl)
  (hs:∀x,foldedSetIterable it X.env x=pure x:=by intro _;rfl):SS X b G G L ro (.For tg it body [] pos) (gQ g src ds f):=by
 refine PS.imp (mR hp hc hi hg hb hs) ?_
 rintro D σ H ⟨Ow,env,out,E,hf,k⟩
 obtain⟨ps,Fc,hl⟩:=aA hf
 refine⟨Ow,env,ps,E,Fc,λJ H1 s1 iw=>?_⟩
 refine⟨λi m σ2 H2=>m=ps.length - i/\i<=ps.length/\∃FU DE,ER b FU G σ2 DE H2/\Ex (Bs b Ow) H1 (Bs b FU) H2/\cV g ds f (ps.drop i) DE=some out,⟨ps.length,by simp,cq _,Ow,EL ds env,(E.up s1).EL,Ex.refl _ _,by simpa using hl⟩,?_⟩
 rintro i m σ2 H2 ⟨rfl,hi,FU,DE,E2,x2,l2⟩
 obtain⟨w1,w2⟩:=iw FU H2 (λz=>by cases z) x2 λa=>E2.fresh
 have xk:Ex (Bs b Ow) H (Bs b FU) H2:=(Ex.of_same s1).trans x2
 by_cases A6:i < ps.length
 ·rw[cb A6] at l2
  obtain⟨e1,Sk,l2⟩:=aA l2
  obtain⟨o,ho,l2⟩:=aA l2
  obtain⟨g1,g2⟩:=w1 i ps[i] (ai A6)
  refine .inr ⟨g1,fun σ' H'=>i+1<=ps.length/\∃FU DE,ER b FU G σ' DE H'/\Ex (Bs b Ow) H1 (Bs b FU) H'/\cV g ds f (ps.drop (i+1)) DE=some out,fun σ' H' q=>⟨ps.length - (i+1),by omega,rfl,q⟩,λx H' y=>?_⟩
  obtain⟨s3,r3⟩:=g2 x H' y
  refine⟨FU,DE,_,e1,E2.up s3,r3,Sk,fun σ3 E3=>⟨FU,e1,o,E3,ho,?_⟩⟩
  cases o with
  | nx e'=>exact λA2 σ' Lv E' x'=>⟨A6,A2,_,E'.EL,x2.trans ((Ex.of_same s3).trans x'),l2⟩
  | ct e'=>exact λA2 σ' Lv E' x'=>⟨A6,A2,_,E'.EL,x2.trans ((Ex.of_same s3).trans x'),l2⟩
  | bk e'=>cases l2;exact λA2 σ' Lv E' x'=>k A2 σ' Lv E'.EL (xk.trans ((Ex.of_same s3).trans x'))
  | rt p=>cases l2;exact k
 ·have e:i=ps.length:=by omega
  subst e
  rw[List.drop_length] at l2
  cases l2
  exact .inl ⟨w2,k FU σ2 H2 E2 xk⟩
noncomputable def gG (c:Env->Option Bool)(ds:qc)(body:Env->Option Out):Nat->Env->Option Out
 | 0,_=>none
 | n+1,env=>(c env).bind λk=>if k=true then (body env).bind λo=>match o with
   | .nx e=>gG c ds body n (EL ds e)
   | .ct e=>gG c ds body n (EL ds e)
   | .bk e=>some (.nx (EL ds e))
   | .rt p=>some (.rt p)
  else some (.nx env)
noncomputable def zm (n:Nat)(c:Env->Option Bool)(ds:qc)(body:Env->Option Out)(env:Env):Option Out:=gG c ds body n (EL ds env)
@[simp] theorem Sy (n:Nat)(c:Env->Option Bool)(ds:qc)(body:Env->Option Out)(env:Env):zm n c ds body env=(gG c ds body n (EL ds env)):=id rfl
theorem Ln {c:Expr}{body:qh}{t:Env->Option Bool}(n:Nat)(ds:qc)(hc:ST X b G c t)(hb:JA X b G G G ro body f)(hp:PassesOwn (model X.prog X.w) X.A X.env X.xe):SS X b G G L ro (.While c body [] pos) (zm n t ds f):=by
 refine PS.imp (yF hp hc hb) ?_
 rintro D σ H ⟨Ow,env,out,E,hf,k⟩
 refine⟨λm σ2 H2=>∃FU DE,ER b FU G σ2 DE H2/\Ex (Bs b Ow) H (Bs b FU) H2/\gG t ds f m DE=some out,⟨n,Ow,EL ds env,E.EL,Ex.refl _ _,hf⟩,?_⟩
 rintro m σ2 H2 ⟨FU,DE,E2,x2,l2⟩
 cases m with
 | zero=>cases l2
 | succ m=>
  obtain⟨kk,hk,l2⟩:=aA l2
  refine⟨FU,DE,kk,E2,hk,λH3 s3=>?_⟩
  cases kk with
  | false=>cases l2;exact lY (k FU σ2 H3 (E2.up s3) (x2.trans (.of_same s3)))
  | true=>
   refine jh ⟨fun σ' H'=>∃FU DE,ER b FU G σ' DE H'/\Ex (Bs b Ow) H (Bs b FU) H'/\gG t ds f m DE=some out,fun σ' H' q=>⟨m,f8 m,q⟩,?_⟩
   obtain⟨o,ho,l2⟩:=aA l2
   refine⟨FU,DE,o,E2.up s3,ho,?_⟩
   cases o with
   | nx e'=>exact λA2 σ' Lv E' x'=>⟨A2,_,E'.EL,x2.trans ((Ex.of_same s3).trans x'),l2⟩
   | ct e'=>exact λA2 σ' Lv E' x'=>⟨A2,_,E'.EL,x2.trans ((Ex.of_same s3).trans x'),l2⟩
   | bk e'=>cases l2;exact λA2 σ' Lv E' x'=>k A2 σ' Lv E'.EL (x2.trans ((Ex.of_same s3).trans x'))
   | rt p=>cases l2;exact k
end
noncomputable def jk (AB:List (Option Nat))(env:Env):Env:=AB.map λo=>match o with | some i=>(env[i]?).getD none | none=>none
@[simp] theorem TX (AB:List (Option Nat))(env:Env):jk AB env=(AB.map λo=>match o with | some i=>(env[i]?).getD none | none=>none):=id rfl
noncomputable def lg (AB:List (Option Nat))(G:qc):List Nat:=(List.range AB.length).filter λj=>match AB[j]? with | some (some i)=>decide (i∈G) | _=>false
def BX.in (b:BX):BX:={ b with fx:=λ_=>none }
noncomputable def dq (env:Env)(g:PV->Env->Option Env)(t:Env->Option Bool)(f:qB):List PV->Option (List PV)
 | []=>some []
 | x::xs=>(g x env).bind λe=>(t e).bind λk=>if k=true then (f e).bind λy=>(dq env g t f xs).bind λys=>some (y::ys) else dq env g t f xs
noncomputable def lQ (AB:List (Option Nat))(src:Env->Option (List PV))(g:PV->Env->Option Env)(t:Env->Option Bool)(f:qB)(env:Env):Option PV:=(src env).bind λxs=>if xs.length<=1000000 then (dq (jk AB env) g t f xs).bind λys=>some (.lst ys) else none
@[simp] theorem Te (AB:List (Option Nat))(src:Env->Option (List PV))(g:PV->Env->Option Env)(t:Env->Option Bool)(f:qB)(env:Env):lQ AB src g t f env=((src env).bind λxs=>if xs.length<=1000000 then (dq (jk AB env) g t f xs).bind λys=>some (.lst ys) else none):=id rfl
noncomputable def jB (env:Env):Option Bool:=some true
@[simp] theorem Tf (env:Env):jB env=(some true):=id rfl
theorem C5 {AB:List (Option Nat)}{G:qc}{j:Nat}:j∈lg AB G↔∃i,AB[j]?=some (some i)/\i∈G:=by
 unfold lg
 rw[ke,b0]
 constructor
 ·rintro ⟨h1,h2⟩
  split at h2
  ·rename_i i e;exact⟨i,e,by simpa using h2⟩
  ·cases h2
 ·rintro ⟨i,e,h⟩
  refine⟨(ag.mp e).1,?_⟩
  rw[e];simpa using h
theorem oH {AB:List (Option Nat)}{j:Nat}{p:PV}(h:(jk AB env)[j]?=some (some p)):∃i,AB[j]?=some (some i)/\env[i]?=some (some p):=by
 unfold jk at h
 rw[cm] at h
 cases q:AB[j]? with
 | none=>rw[q] at h;cases h
 | some o=>
  rw[q] at h
  cases o with
  | none=>cases h
  | some i=>
   refine⟨i,rfl,?_⟩
   have h':(env[i]?).getD none=some p:=by simpa using h
   cases q2:env[i]? with
   | none=>rw[q2] at h';cases h'
   | some o=>rw[q2] at h';simp at h';rw[h']
theorem lR {AB:List (Option Nat)}{j i:Nat}(h:AB[j]?=some (some i))(e:σ[i]?=some (some v)):(bO AB σ)[j]?=some (some v):=by
 unfold bO
 rw[cm,h]
 simp[p6,e]
noncomputable def uJ (AB:List (Option Nat)):Bool:=(List.range AB.length).all λj=>(List.range AB.length).all λk=>match AB[j]?,AB[k]? with
 | some (some i),some (some i')=>decide (i=i'->j=k)
 | _,_=>true
theorem Gw {AB:List (Option Nat)}(h:uJ AB=true){j k i:Nat}(h1:AB[j]?=some (some i))(h2:AB[k]?=some (some i)):j=k:=by
 have a:=gc.mp h j (b0.mpr (ag.mp h1).1)
 have c:=gc.mp a k (b0.mpr (ag.mp h2).1)
 rw[h1,h2] at c
 simpa using c
theorem ER.AB {b:BX}{Ow:Addr->Prop}{G:qc}{σ:St}{env:Env}{H:Hp}{AB:List (Option Nat)}(E:ER b Ow G σ env H)(hc:uJ AB=true):ER b.in Ow (lg AB G) (bO AB σ) (jk AB env) H:=by
 refine⟨by unfold bO jk;rw[ba,ba],E.same,E.live,E.new,λj p e n=>?_,λj p e n=>?_,λj k a p q e1 n1 s1 e2 n2 s2=>?_,λk v z=>by cases z⟩
 ·obtain⟨i,h1,h2⟩:=oH e
  obtain⟨v,h3,h4⟩:=E.val i p h2 λz=>n (C5.mpr ⟨i,h1,z⟩)
  exact⟨v,lR h1 h3,h4⟩
 ·obtain⟨i,h1,h2⟩:=oH e
  obtain⟨i',UN,hG⟩:=C5.mp n
  rw[h1] at UN;cases UN
  obtain⟨a,h3,h4,h5⟩:=E.own i p h2 hG
  exact⟨a,lR h1 h3,h4,h5⟩
 ·obtain⟨i,h1,h2⟩:=oH e1
  obtain⟨i',UN,hG⟩:=C5.mp n1
  rw[h1] at UN;cases UN
  obtain⟨k',h3,h4⟩:=oH e2
  obtain⟨k'',XU,hG2⟩:=C5.mp n2
  rw[h3] at XU;cases XU
  obtain⟨c,g1,_,_⟩:=E.own i p h2 hG
  obtain⟨c2,g2,_,_⟩:=E.own k' q h4 hG2
  have t1:=lR (AB:=AB) h1 g1
  have t2:=lR (AB:=AB) h3 g2
  rw[s1] at t1;cases t1
  rw[s2] at t2;cases t2
  have:=E.sep i k' _ p q h2 hG g1 h4 hG2 g2
  subst this
  exact Gw hc h1 h3
theorem ER.more {b:BX}{G:qc}{D:Addr}(E:ER b Ow G σ env H)(hD:H D=none)(s:zS H H')(hl:∃o,H' D=some o):ER b (λc=>Ow c\/c=D) G σ env H'/\Ex (Bs b Ow) H (Bs b λc=>Ow c\/c=D) H':=by
 have hx:Ex (Bs b Ow) H (Bs b λc=>Ow c\/c=D) H':=λc o h=>⟨λq=>⟨s _ _ h,λz=>z.elim q.1 (aq h hD),q.2⟩,λ_=>s _ _ h⟩
 exact⟨⟨E.len,E.same.trans s,λc w=>w.elim (λz=>let ⟨o,h⟩:=E.live c z;⟨o,s _ _ h⟩) λz=>by subst z;exact hl,λc w=>w.elim (E.new c) λz=>by subst z;exact E.same.free hD,λi p e n=>let ⟨v,h1,h2⟩:=E.val i p e n;⟨v,h1,h2.ex hx⟩,
  λi p e n=>let ⟨a,h1,h2,h3⟩:=E.own i p e n;⟨a,h1,.inl h2,h3.ex hx λo z=>s _ _ z⟩,E.sep,E.fix⟩,hx⟩
structure PH (K:W.Frag)(AB:List (Option Nat))(g:TG)(gm:PV->Env->Option Env):Prop where
 go:∀(b:BX) (Ow:Addr->Prop) (G:qc) (σ:St) (env e:Env) (H:Hp) (v:V) (p:PV) (Q:St->Hp->Prop),b.C.K=K->(∀i,b.fx i=none)->ER b Ow (lg AB G) (bO AB σ) (jk AB env) H->Rep b.C (Bs b Ow) H v p->gm p (jk AB env)=some e->
  (∀ σ',Kp (bO AB σ) σ'->ER b Ow (lg AB G) σ' e H->Q σ' H)->g v (bO AB σ) H Q
theorem Gx {σ':St}{i:Nat}(h:Kp σ σ')(hn:∀w,σ[i]?≠some (some w)):Kp σ (σ'.set i (some v)):=by
 refine⟨by rw[d0];exact h.1,λj w e=>?_⟩
 by_cases hj:i=j
 ·subst hj;exact absurd e (hn w)
 ·rw[bo hj];exact h.2 j w e
theorem Cd (σ:St):Kp σ σ:=⟨rfl,λ_ _ e=>e⟩
theorem uK {AB:List (Option Nat)}{i:Nat}(h:AB[i]?=some none)(w:V):(bO AB σ)[i]?≠some (some w):=by
 unfold bO
 rw[cm,h]
 intro z;cases z
theorem w5 {AB:List (Option Nat)}{G:qc}{i:Nat}(h:AB[i]?=some none):i∉lg AB G:=λz=>by
 obtain⟨k,e,_⟩:=C5.mp z
 rw[h] at e;cases e
theorem DR {AB:List (Option Nat)}(i:Nat)(h:AB[i]?=some none:=by rfl):PH K AB (aX i) (gN i):=
 ⟨λb Ow G σ env e H v p Q hK hx E r he k=>by
  cases he
  exact k _ (Gx (Cd _) (uK h)) (E.set (w5 h) r (hx _))⟩
def zp:List Nat->N4
 | []=>vz
 | i::is=>jy (aX i) (zp is)
theorem Tg {AB:List (Option Nat)}(is:qc)(h:(is.all λi=>decide (AB[i]?=some none))=true:=by rfl):PH K AB (vA K is.length (zp is)) (gT is):=
 ⟨λb Ow G σ env e H v p Q hK hx E r he k=>by
  subst hK
  cases p <;> simp only[gT] at he <;> first | cases he | skip
  rename_i xs
  obtain⟨a,vs,rfl,ha,ra⟩:=Ap.tup (.inl r)
  refine⟨a,vs,rfl,ha.sq,by rw[ra.length];exact vP he,?_⟩
  have gen:∀(is:qc) (vs:List V) (xs:List PV) (σ1:St) (PM:Env),(is.all λi=>decide (AB[i]?=some none))=true->Kp (bO AB σ) σ1->ER b Ow (lg AB G) σ1 PM H->zI b.C (Bs b Ow) H vs xs->Vu is xs PM=some e->zp is vs σ1 H Q:=by
   intro is
   induction is with
   | nil=>
    intro vs xs σ1 PM _ kp E1 r1 e1
    cases xs with
    | nil=>cases r1;cases e1;exact⟨rfl,k σ1 kp E1⟩
    | cons x xs=>cases e1
   | cons i is ih=>
    intro vs xs σ1 PM Mo kp E1 r1 e1
    cases xs with
    | nil=>cases e1
    | cons x xs=>
     cases r1 with
     | cons r2 r3=>
      rw[jv,b6] at Mo
      have hi:AB[i]?=some none:=by simpa using Mo.1
      exact⟨_,_,rfl,ih _ xs _ _ Mo.2 (Gx kp (uK hi)) (E1.set (w5 hi) r2 (hx _)) r3 e1⟩
  exact gen is vs xs _ _ h (Cd _) E ra he⟩
section
variable {X:Cx}{b:BX}{G L:qc}{ro:Bool}{pos:Pos}{tg iter elt:Expr}{ifs:qk}{scope BS:Scope}{ON N:qo}{AB:List (Option Nat)}{src:Env->Option (List PV)}{g:TG}{gm:PV->Env->Option Env}{t:Env->Option Bool}{f:qB}
theorem RZ {Q:VK}(Y6:PH b.C.K AB g gm)(hc:uJ AB=true)(h:tM b G .own (lQ AB src gm t f) σ H Q):
  gA (tMI b G false src) AB g (Wl b.in (lg AB G) t) (tM b.in (lg AB G) .val f) σ H Q:=by
 obtain⟨Ow,env,p,E,hf,k⟩:=h
 obtain⟨xs,Y7,hf⟩:=aA hf
 split at hf
 ·rename_i hlen
  obtain⟨ys,hys,hf⟩:=aA hf
  cases hf
  refine⟨Ow,env,xs,E,Y7,λJ H1 s1 iw D hD=>?_⟩
  have E1:=E.up s1
  have nD:H D=none:=s1.free hD
  refine⟨λi m vs H2=>m=xs.length - i/\i<=xs.length/\zS H1 H2/\H2 D=some (.lst vs)/\vs.length<=i/\∃done rest,zI b.C (Bs b λc=>Ow c\/c=D) H2 vs done/\dq (jk AB env) gm t f (xs.drop i)=some rest/\done++rest=ys,
   ⟨xs.length,by simp,cq _,aL hD _,az,aE _,[],ys,.nil,by simpa using hys,rfl⟩,?_⟩
  rintro i m vs H2 ⟨rfl,hi,s2,d2,hv,done,rest,rd,cl,KI⟩
  refine⟨d2,?_⟩
  obtain⟨E2,x2⟩:=E1.more hD s2 ⟨_,d2⟩
  obtain⟨w1,w2⟩:=iw _ H2 (λ_=>s2) x2 λa=>E2.fresh
  by_cases A6:i < xs.length
  ·rw[cb A6] at cl
   obtain⟨e1,Sk,cl⟩:=aA cl
   obtain⟨kk,hk,cl⟩:=aA cl
   obtain⟨g1,g2⟩:=w1 i xs[i] (ai A6)
   refine .inr ⟨g1,λIc H'=>i+1<=xs.length/\zS H1 H'/\H' D=some (.lst Ic)/\Ic.length<=i+1/\∃done rest,zI b.C (Bs b λc=>Ow c\/c=D) H' Ic done/\dq (jk AB env) gm t f (xs.drop (i+1))=some rest/\done++rest=ys,λIc H' q=>⟨xs.length - (i+1),by omega,rfl,q⟩,λx H' y=>?_⟩
   obtain⟨s3,r3⟩:=g2 x H' y
   have E3:=(E2.up s3).AB hc
   refine Y6.go b.in _ G σ env e1 H' x _ _ rfl (λ_=>rfl) E3 r3 Sk fun σ3 kp E4=>⟨kp,_,e1,kk,E4,hk,λH4 s4=>?_⟩
   have d4:H4 D=some (.lst vs):=s4 _ _ (s3 _ _ d2)
   have XW:zS H2 H4:=s3.trans s4
   cases kk with
   | false=>
    refine lY ⟨A6,s2.trans XW,d4,nE hv,done,rest,rd.ex (.of_same XW),?_,KI⟩
    simpa using cl
   | true=>
    simp only[fw] at cl
    obtain⟨y1,hy1,cl⟩:=aA cl
    obtain⟨ys1,Y8,cl⟩:=aA cl
    cases cl
    refine jh ⟨_,e1,y1,E4.up s4,hy1,λv5 H5 s5 r5=>⟨s5 _ _ d4,bY (by omega),A6,?_,az,by rw[bp];show vs.length+1<=i+1;omega,done++[y1],ys1,?_,Y8,by rw[eM];exact KI⟩⟩
    ·exact λc o h=>by rw[ao (aq h hD)];exact s5 _ _ (XW _ _ (s2 _ _ h))
    ·have Y9:Rep b.C (Bs b λc=>Ow c\/c=D) H5 v5 y1:=r5
     refine((rd.ex (.of_same (XW.trans s5))).append (.cons Y9 .nil)).ex ?_
     exact oF (b:=b) (Ow:=λc=>Ow c\/c=D) (.inr rfl) (s5 _ _ d4) rfl
  ·have e:i=xs.length:=by omega
   subst e
   rw[List.drop_length] at cl
   cases cl
   rw[br] at KI
   subst KI
   refine .inl ⟨w2,k _ H2 (s1.trans s2) ⟨D,rfl,nD,vs,d2,rd.ex (aV λc o _ q=>⟨⟨λz=>q.1 (.inl z),q.2⟩,λz=>q.1 (.inr z)⟩)⟩⟩
 ·cases hf
theorem oJ {X:Cx}:p_ X [] (Wl b G jB):=by rintro zC s σ H Q I ⟨Ow,env,k,E,hf,kk⟩;cases hf;exact kJ zC s σ H Q I (kk H (zS.refl _))
theorem nq (S:OB BS scope ON N AB)(Y6:PH b.C.K AB g gm)(hi:SI X b G false tg iter src)(hg:∀C s H fp,PG (X.comp N scope C s H fp) tg g)(ht:∀C s H fp,p_ (X.comp N scope C s H fp) ifs (Wl b.in (lg AB G) t))(he:∀C s H fp,SE (X.comp N scope C s H fp) b.in (lg AB G) .val elt f)
  (UO:uJ AB=true:=by rfl) (hc:X.calm=true:=by rfl) (DJ:X.env.scope=BS:=by rfl) (hN:X.N=ON:=by rfl) (hs:∀x,foldedSetIterable iter X.env x=pure x:=by intro _;rfl):SE X b G .own (.ListComp elt [⟨tg,iter,ifs,0⟩] scope pos) (lQ AB src gm t f):=
 PE.imp (qO S hi hg ht he hc DJ hN hs) fun σ H Q h=>RZ Y6 UO h
end
noncomputable def cD (n k:Nat)(ro:Bool)(f:Env->Option Out)(ps:List PV):Option PV:=if ps.length=k then (f (ps.map some++List.replicate (n - k) none)).bind λo=>match o with
 | .nx _=>if ro=true then none else some .Au
 | .rt p=>some p
 | _=>none
 else none
@[simp] theorem TY (n k:Nat)(ro:Bool)(f:Env->Option Out)(ps:List PV):cD n k ro f ps=(if ps.length=k then (f (ps.map some++List.replicate (n - k) none)).bind λo=>match o with
 | .nx _=>if ro=true then none else some .Au
 | .rt p=>some p
 | _=>none
 else none):=id rfl
theorem Iu {N:qo}{G:qc}(r:zI C A H vs ps)(hG:∀i,i∈G->ps.length<=i)(hn:ps.length<=N.length):ER ⟨C,A,H,λ_=>none⟩ (λ_=>False) G (L2.start N vs) (ps.map some++List.replicate (N.length - ps.length) none) H:=by
 have hl:=r.length
 have old:∀i p,(ps.map some++List.replicate (N.length - ps.length) none)[i]?=some (some p)->ps[i]?=some p:=λi p e=>by
  by_cases hi:i < ps.length
  ·rw[dQ (by rw[ba];exact hi),cm] at e
   cases q:ps[i]? with
   | none=>rw[q] at e;cases e
   | some p'=>rw[q] at e;cases e;rfl
  ·rw[hU (by rw[ba];omega),oj] at e
   split at e <;> cases e
 refine⟨?_,zS.refl _,λa w=>w.elim,λa w=>w.elim,λi p e n=>?_,λi p e n=>?_,λi j a p q e1 n1 s1 e2 n2 s2=>?_,λk v z=>by cases z⟩
 ·unfold L2.start
  simp only[bp,ba,pf]
  omega
 ·obtain⟨v,hv,rv⟩:=r.get (old i p e)
  refine⟨v,?_,rv.ex (aV λa o _ q=>⟨λz=>z,.inl q⟩)⟩
  unfold L2.start
  have hi:i < vs.length:=(ag.mp hv).1
  rw[dQ (by rw[ba];exact hi),cm,hv]
  rfl
 ·have h1:=(ag.mp (old i p e)).1
  have h2:=hG i n
  omega
 ·have h1:=(ag.mp (old i p e1)).1
  have h2:=hG i n1
  omega
theorem Lp {N:qo}{n k:Nat}{G G' L:qc}{body:qh}(hN:N.length=n)(hk:k<=n)(hG:(G.all λi=>decide (k<=i))=true)(hb:∀A H,JA X ⟨C,A,H,λ_=>none⟩ G G' L ro body f)
  {vs:List V}{H:Hp}{Q:VK}{E:XK}(h:C2 C (cD n k ro f) ro vs H Q E):∃t,Fh X body t/\t { nx:=λ_ H'=>Q .Au H',rt:=Q } (L2.start N vs) H:=by
 obtain⟨A,ps,p,r,hm,kk⟩:=h
 refine⟨_,hb A H,?_⟩
 unfold cD at hm
 split at hm
 ·rename_i hl
  obtain⟨o,ho,hm⟩:=aA hm
  refine⟨_,_,o,Iu (N:=N) (G:=G) r (λi hi=>by rw[hl];simpa using gc.mp hG i hi) (by omega),by rw[hN,hl];exact ho,?_⟩
  cases o with
  | nx e=>
   cases ro with
   | true=>cases hm
   | false=>cases hm;exact λA2 σ' H' E' _=>kk .Au H' E'.same .Au
  | rt q=>cases hm;exact λv H' s rr=>kk v H' s rr
  | bk e=>cases hm
  | ct e=>cases hm
 ·cases hm
theorem Lq {n k:Nat}{ro':Bool}{Q:VK}{E:XK}(h:C2 C (cD n k ro' f) ro vs H Q E):vs.length=k:=by
 obtain⟨A,ps,p,r,hm,kk⟩:=h
 unfold cD at hm
 split at hm
 ·rename_i hl;rw[r.length];exact hl
 ·cases hm
structure UP (P:Program)(w:World)(K:W.Frag)(mg:Str->Option Value)(base:Heap)(C:Addr)(k:Nat)(x:Str)(ps:qo)(sp:Sp):Prop where
 ex:∃f fd,A4 P w K mg base EJ k f fd ps sp/\Binds K fd ps []/\Mk K C f/\mg x=some (.ref C)
section
variable {X:Cx}{b:BX}{G:qc}{pos p:Pos}{e:Expr}{es:qk}{g:Env->Option (List PV)}
@[simp] noncomputable def XX:PV->Option String
 | .Au=>some "NoneType"
 | .bl _=>some "bool"
 | .int _=>some "int"
 | .str _=>some "str"
 | .lst _=>some "list"
 | .tup _=>some "tuple"
 | .dK _=>some "dict"
 | .dT _=>some "dict"
 | _=>none
noncomputable def sX (tb:List (String×Bool))(p:PV):Option PV:=(XX p).bind λt=>(tb.lookup t).bind λk=>some (.bl k)
@[simp] theorem T3 (tb:List (String×Bool))(p:PV):sX tb p=((XX p).bind λt=>(tb.lookup t).bind λk=>some (.bl k)):=id rfl
theorem Ap.ty {p:PV}{t:String}(r:Ap C A H v p)(h:XX p=some t):DH C.K H v (.type t):=by
 cases p <;> simp only[XX] at h <;> cases h
 ·rw[r.Au];exact .Au
 ·rw[r.bl];exact .bl _
 ·rw[r.int];exact .int _
 ·rw[r.str];exact .str _
 ·obtain⟨a,vs,rfl,ha,_⟩:=r.lst;exact .lst ha
 ·obtain⟨a,vs,rfl,ha,_⟩:=r.tup;exact ha.elim (λq=>.tup q) λq=>.Cf q
 ·obtain⟨a,vs,rfl,ha,_⟩:=r.dK;exact .dK ha
 ·obtain⟨a,vs,rfl,ha,_⟩:=r.dT;exact .dT ha
theorem eV {α β:Type}[BEq α][LawfulBEq α]{x:α}{y:β}:∀{l:List (α×β)},l.lookup x=some y->(x,y)∈l
 | [],h=>by cases h
 | (a,c)::r,h=>by
  rw[b9] at h
  cases q:x == a with
  | true=>rw[q] at h;cases h;have:=eq_of_beq q;subst this;exact am
  | false=>rw[q] at h;exact af _ (eV h)
theorem zq {m:Md}{f:qB}{n:Str}{n':String}{p1:Pos}(tb:List (String×Bool))(hk:∀t k,(t,k)∈tb->W.kitOne X.K (.type t) (.type n')=some k)(hm:X.mg "isinstance" = none)(Za:X.mg n=none)(hbn:bootBuiltins n=some (.type n'))(h:SE X b G m e f)(hK:X.K=b.C.K:=by rfl)(hg:Gl X "isinstance" := by rfl)(hgn:Gl X n:=by rfl)
  (Zb:bootBuiltins "isinstance" = some (.builtin "isinstance"):=by decide +kernel) (hn1:n ≠ "__name__" := by decide) (hd:(n == ("__debug__" : Str))=false:=by decide)
  (he:starEach [e,.Name n p1] X.env=(false,eval e X.env)::starEach [.Name n p1] X.env:=by rfl) (OF:starEach [.Name n p1] X.env=(false,eval (.Name n p1) X.env)::starEach [] X.env:=by rfl) (A8:(backTo pos (starEach [.Name n p1] X.env)).any (·.1)=false:=by rfl):
  SE X b G .val (.Call (.Name "isinstance" p) [e,.Name n p1] [] pos) (b1 (sX tb) f):=by
 refine PE.imp (dC Bc hg hm Zb (aB h.bor (aB (KH (v:=.ty n') hgn Za hbn rfl hn1 hd) aN OF) he) (by decide) (by decide) he A8) ?_
 rintro σ H Q ⟨Ow,env,q,E,hf,kk⟩
 obtain⟨p1,OG,hf⟩:=aA hf
 obtain⟨t,ht,hf⟩:=aA hf
 obtain⟨k,F8,hf⟩:=aA hf
 cases hf
 refine⟨Ow,env,p1,E,OG,λv H1 s r=>?_⟩
 have r1:Ap b.C (Bs b Ow) H1 v p1:=r
 exact⟨v,n',.type t,k,rfl,by rw[hK];exact r1.ty ht,hk t k (eV F8),kk _ H1 s (.bl k)⟩
end
section
variable {X:Cx}{b:BX}{G G' L:qc}{ro:Bool}{pos p:Pos}{m m1 m2:Md}{e e1 e2:Expr}{f f1 f2:qB}
@[simp] noncomputable def Iv:PV->PV->Option PV
 | .int i,.int j=>some (.int (if j < i then j else i))
 | _,_=>none
theorem Qf (hm:X.mg "min" = none)(h1:SE X b G m1 e1 f1)(h2:SE X b G m2 e2 f2)(hc:X.calm=true:=by rfl)(hg:Gl X "min" := by rfl)(Zb:bootBuiltins "min" = some (.builtin "min"):=by decide +kernel)
  (he:starEach [e1,e2] X.env=(false,eval e1 X.env)::starEach [e2] X.env:=by rfl) (OF:starEach [e2] X.env=(false,eval e2 X.env)::starEach [] X.env:=by rfl) (A8:(backTo pos (starEach [e2] X.env)).any (·.1)=false:=by rfl):
  SE X b G .val (.Call (.Name "min" p) [e1,e2] [] pos) (b2 Iv f1 f2):=by
 refine PE.imp (dC (Fv hc) hg hm Zb (aB h1.bor (aB h2.bor aN OF) he) (by decide) (by decide) he A8) ?_
 rintro σ H Q ⟨Ow,env,q,E,hf,kk⟩
 obtain⟨p1,OG,hf⟩:=aA hf
 obtain⟨p2,K2,hf⟩:=aA hf
 refine⟨Ow,env,p1,E,OG,λv H1 s r=>⟨Ow,env,p2,E.up s,K2,λv2 H2 s2 r2=>?_⟩⟩
 have r1:Ap b.C (Bs b Ow) H1 v p1:=r
 have UM:Ap b.C (Bs b Ow) H2 v2 p2:=r2
 cases p1 <;> cases p2 <;> simp only[Iv] at hf <;> cases hf
 exact⟨_,_,by rw[r1.int,UM.int],kk _ H2 (s.trans s2) (.int _)⟩
end
section
variable {X:Cx}{b:BX}{G G' L:qc}{ro:Bool}{pos p:Pos}{m m1 m2:Md}{e e1 e2:Expr}{f f1 f2 h:qB}
@[simp] noncomputable def DW:PV->PV->Option PV
 | .lst xs,.lst ys=>if xs.length+ys.length<=1000000 then some (.lst (xs++ys)) else none
 | _,_=>none
theorem Gy {x y z:PV}(e:DW x y=some z):∃xs ys,x=.lst xs/\y=.lst ys/\xs.length+ys.length<=1000000/\z=.lst (xs++ys):=by
 unfold DW at e
 split at e
 ·split at e
  ·cases e;exact⟨_,_,rfl,rfl,‹_›,rfl⟩
  ·cases e
 ·cases e
theorem R1 (i:Nat){p1 AG:Pos}(he:SE X b G .val e h)(hi:i∈G:=by decide)(hN:X.N[i]?=some x:=by rfl)(hv:LZ X.env.scope x:=by first | exact eT rfl | exact e9 (eT rfl) | exact e9 (e9 rfl))(hd:(x == ("__debug__" : Str))=false:=by decide)
  (D9:(x == ("__classdict__" : Str))=false:=by decide) (BO:attributeBase (.Name x p1) "extend" X.env (eval (.Name x p1) X.env)=eval (.Name x p1) X.env:=by rfl)
  (EZ:((backTo AG (starEach [e] X.env)).all (λx=>!x.1)&&(backToKw AG (keywordEach [] X.env)).all (λx=>x.1.isSome)
   && decide ([e].length+([]:List Keyword).length+(if ([]:List Keyword).isEmpty then 0 else 1) < 30))=true:=by rfl)
  (BQ:(apos.endLine == AG.line)=true:=by rfl) (hs:starEach [e] X.env=(false,eval e X.env)::starEach [] X.env:=by rfl):
  SS X b G G L ro (.Expr (.Call (.Attribute (.Name x p1) "extend" apos) [e] [] AG) pos) (jA DW i h):=
 PS.imp (qJ (xZ iA PySem.F.slot_list_extend PySem.F.type_list_extend FZ (iD hN hv hd D9) (aB he aN hs) BO EZ BQ hs rfl))<|by
  rintro D σ H ⟨Ow,env,o,E,hf,k⟩
  obtain⟨px,Sf,z1⟩:=aA hf
  clear hf
  obtain⟨p,hp,z2⟩:=aA z1
  clear z1
  obtain⟨y,hy,z3⟩:=aA z2
  clear z2
  cases z3
  obtain⟨xs,ys,rfl,rfl,hl,rfl⟩:=Gy hy
  obtain⟨a,ea,w,t⟩:=E.own i _ (fK Sf) hi
  obtain⟨vs,ha,ra⟩:=id t
  refine⟨_,ea,.inl ⟨rfl,_,A0.of ha⟩,Ow,env,_,E,hp,λv H' s r=>?_⟩
  cases r with
  | @lst c us _ q1 q2 q3=>
   refine⟨a,c,vs,us,rfl,rfl,s _ _ ha,q1,gC (by rw[ra.length,q3.length];exact hl),?_⟩
   have Si:zI b.C (Bs b Ow) (upd H' a (.lst (vs++us))) (vs++us) (xs++ys):=by
    refine(ra.ex (.of_same s)).append q3 |>.ex λc o h=>⟨λq=>⟨by rw[ao (λz:c=a=>q.1 (z▸w))];exact h,q⟩,λm=>?_⟩
    have hc:c≠a:=λz=>by subst z;rw[s _ _ ha] at h;cases h;cases m
    rw[ao hc];exact h
   obtain⟨E',x⟩:=(E.up s).write hi ea (fK Sf) w (t.ex (.of_same s) λo z=>s _ _ z) (o':=.lst (vs++us)) (p':=.lst (xs++ys)) ⟨_,az,Si⟩
   exact k Ow σ _ E' ((Ex.of_same s).trans x)
@[simp] noncomputable def qm:PV->Option PV
 | .lst xs=>some (.tup xs)
 | .frz xs=>some (.tup xs)
 | .tup xs=>some (.tup xs)
 | _=>none
theorem sY (hm:X.mg "tuple" = none)(h:SE X b G m1 e f)(hK:X.K=b.C.K:=by rfl)(hg:Gl X "tuple" := by rfl)(he:starEach [e] X.env=(false,eval e X.env)::starEach [] X.env:=by rfl):SE X b G .val (.Call (.Name "tuple" p) [e] [] pos) (b1 qm f):=by
 refine B_ pG (λOw H v1 p1 p Q hn r1 e k=>?_) hm kC h hg (by decide) (by decide) he
 rw[hK]
 cases p1 <;> simp only[qm] at e <;> cases e
 case lst xs=>obtain⟨a,vs,rfl,ha,ra⟩:=r1.lst;exact⟨a,vs,rfl,.inl ⟨A0.of ha,λl hl=>k _ _ (aL hl _) (m6 hl ra)⟩⟩
 case frz xs=>obtain⟨a,vs,rfl,ha,ra⟩:=r1.frz;exact⟨a,vs,rfl,.inl ⟨ha,λl hl=>k _ _ (aL hl _) (m6 hl ra)⟩⟩
 case tup xs=>obtain⟨a,vs,rfl,ha,ra⟩:=r1.tup;exact⟨a,vs,rfl,.inr ⟨ha.sq,k _ _ (zS.refl _) (ha.rep ra)⟩⟩
@[simp] noncomputable def ye:PV->Option PV
 | .int j=>if 0<=j/\j<=1000000 then some (.lst (cT 0 j)) else none
 | _=>none
@[simp] noncomputable def yf:PV->Option PV
 | .lst xs=>some (.lst xs.reverse)
 | _=>none
end
section
variable {X:Cx}{b:BX}{G G' L:qc}{ro:Bool}{pos p p2 Cs:Pos}{m m1 m2:Md}{e e1 e2:Expr}{f f1 f2 h:qB}
theorem DX {x q:PV}(e:ye x=some q):∃n:Nat,x=.int (n:Nat)/\n<=1000000/\q=.lst (cT 0 (n:Nat)):=by
 unfold ye at e
 split at e
 ·split at e
  ·rename_i j hj
   cases e
   have ej:j=((j.toNat:Nat):Int):=by omega
   exact⟨j.toNat,by rw[← ej],by omega,by rw[← ej]⟩
  ·cases e
 ·cases e
theorem Iw (hm:X.mg "list" = none)(UB:X.mg "range" = none)(h:SE X b G m1 e f)(hc:X.calm=true:=by rfl)(hg:Gl X "list" := by rfl)(UA:Gl X "range" := by rfl)(hs:starEach [e] X.env=[(false,eval e X.env)]:=by rfl)(DU:starEach [e] X.env=(false,eval e X.env)::starEach [] X.env:=by rfl)
  (EX:starEach [.Call (.Name "range" p2) [e] [] Cs] X.env=(false,eval (.Call (.Name "range" p2) [e] [] Cs) X.env)::starEach [] X.env:=by rfl) (A8:(backTo pos (starEach [] X.env)).any (·.1)=false:=by rfl):
  SE X b G .own (.Call (.Name "list" p) [.Call (.Name "range" p2) [e] [] Cs] [] pos) (b1 ye f):=by
 refine PE.imp (Ii hg hm UA UB hc (aB h.bor aN DU) hs EX A8) ?_
 rintro σ H Q ⟨Ow,env,q,E,hf,k⟩
 obtain⟨x,hx,hf⟩:=aA hf
 obtain⟨n,rfl,hn,rfl⟩:=DX hf
 refine⟨Ow,env,_,E,hx,λv H1 s r=>?_⟩
 have r1:Ap b.C (Bs b Ow) H1 v (.int (n:Nat)):=r
 refine⟨n,by rw[r1.int],hn,λl hl=>k _ _ (s.new hl _) (Res.down s (mZ hl ?_))⟩
 have rr:zI b.C (Bs b Ow) H1 ((List.range n).map λi=>V.int (i:Nat)) ((List.range n).map λi=>PV.int (i:Nat)):=j5 _ _ (λi=>.int _) _
 have e1:cT 0 (n:Nat)=(List.range n).map λi=>PV.int (i:Nat):=by unfold cT;simp
 rw[e1]
 exact rr
theorem DY {x q:PV}(e:yf x=some q):∃xs,x=.lst xs/\q=.lst xs.reverse:=by
 unfold yf at e
 split at e
 ·cases e;exact⟨_,rfl,rfl⟩
 ·cases e
theorem Iz (hm:X.mg "list" = none)(UB:X.mg "reversed" = none)(h:SE X b G m1 e f)(hb:bootBuiltins "reversed" = some (.type "reversed"):=by decide +kernel)(hK:X.K=b.C.K:=by rfl)(hc:X.calm=true:=by rfl)(hg:Gl X "list" := by rfl)(UA:Gl X "reversed" := by rfl)(DU:starEach [e] X.env=(false,eval e X.env)::starEach [] X.env:=by rfl)(K2:(backTo Cs (starEach [] X.env)).any (·.1)=false:=by rfl)
  (EX:starEach [.Call (.Name "reversed" p2) [e] [] Cs] X.env=(false,eval (.Call (.Name "reversed" p2) [e] [] Cs) X.env)::starEach [] X.env:=by rfl) (A8:(backTo pos (starEach [] X.env)).any (·.1)=false:=by rfl):
  SE X b G .own (.Call (.Name "list" p) [.Call (.Name "reversed" p2) [e] [] Cs] [] pos) (b1 yf f):=by
 refine PE.imp (Il hg hm UA UB hb hc (aB h.bor aN DU) DU K2 EX A8) ?_
 rintro σ H Q ⟨Ow,env,q,E,hf,k⟩
 rw[hK]
 obtain⟨x,hx,hf⟩:=aA hf
 obtain⟨xs,rfl,rfl⟩:=DY hf
 refine⟨Ow,env,_,E,hx,λv H1 s r=>?_⟩
 have r1:Ap b.C (Bs b Ow) H1 v (.lst xs):=r
 obtain⟨a,vs,rfl,ha,ra⟩:=r1.lst
 exact⟨a,vs,rfl,A0.of ha,λl hl=>k _ _ (s.new hl _) (Res.down s (mZ hl ra.reverse))⟩
end
theorem oK {α:Type}{n:Nat}{us:List α}(hl:us.length=n+1):∃a r,us=a::r/\r.length=n:=by
 cases us with
 | nil=>cases hl
 | cons a r=>exact⟨a,r,rfl,Nat.succ.inj hl⟩
@[elab_as_elim] theorem len0 {α:Type}{P:List α->Prop}(us:List α)(hl:us.length=0)(h:P []):P us:=by
 cases us with
 | nil=>exact h
 | cons a r=>cases hl
@[elab_as_elim] theorem Qg {α:Type}{P:List α->Prop}(us:List α)(hl:us.length=1)(h:∀a,P [a]):P us:=by
 obtain⟨a,r,rfl,hr⟩:=oK hl
 exact len0 (P:=λr=>P (a::r)) r hr (h a)
@[elab_as_elim] theorem Qh {α:Type}{P:List α->Prop}(us:List α)(hl:us.length=2)(h:∀a b,P [a,b]):P us:=by
 obtain⟨a,r,rfl,hr⟩:=oK hl
 exact Qg (P:=λr=>P (a::r)) r hr (h a)
@[elab_as_elim] theorem Qi {α:Type}{P:List α->Prop}(us:List α)(hl:us.length=3)(h:∀a b c,P [a,b,c]):P us:=by
 obtain⟨a,r,rfl,hr⟩:=oK hl
 exact Qh (P:=λr=>P (a::r)) r hr (h a)
@[elab_as_elim] theorem Th {α:Type}{P:List α->Prop}(us:List α)(hl:us.length=4)(h:∀a b c d,P [a,b,c,d]):P us:=by
 obtain⟨a,r,rfl,hr⟩:=oK hl
 exact Qi (P:=λr=>P (a::r)) r hr (h a)
@[simp] def D_:PV->Option (List PV)
 | .lst xs=>some xs
 | .frz xs=>some xs
 | .tup xs=>some xs
 | .ktp xs=>some xs
 | _=>none
def kd:PV->SK
 | .tup _=>.T
 | .ktp _=>.T
 | _=>.L
section
variable {X:Cx}{b:BX}{G G' L:qc}{ro:Bool}{pos p:Pos}{m m1 m2:Md}{e e1 e2:Expr}
theorem IK {H2:Hp}{p:PV}{xs:List PV}(E:ER b Ow G σ env H)(r:Res b Ow H H2 m v p)(Zc:fr=true->m≠.bor)(hs:D_ p=some xs):
  ∃a vs,v=.ref a/\SK.sq (kd p) b.C.K H2 a vs/\zI b.C (Bs b Ow) H2 vs xs/\∀A2 H3,(fr=false->zS H2 H3)->Ex (Bs b Ow) H2 (Bs b A2) H3->SK.sq (kd p) b.C.K H3 a vs/\zI b.C (Bs b A2) H3 vs xs:=by
 have b1:Ap b.C (Bs b Ow) H2 v p:=r.bor
 unfold D_ at hs
 split at hs
 ·cases hs
  obtain⟨a,vs,rfl,ha,ra⟩:=b1.lst
  refine⟨a,vs,rfl,A0.of ha,ra,λA2 H3 h0 hx=>?_⟩
  have hq:H3 a=some (.lst vs):=by
   cases fr with
   | false=>exact h0 rfl _ _ ha
   | true=>
    have rv:Rep b.C (Bs b Ow) H2 (.ref a) (.lst _):=r.val E (Zc rfl)
    cases rv with
    | lst q1 q2 q3=>rw[ha] at q1;cases q1;exact((hx _ _ ha).1 q2).1
  exact⟨A0.of hq,ra.ex hx⟩
 ·cases hs
  have r1:Rep b.C (Bs b Ow) H2 v (.frz _):=(by rcases b1 with z | ⟨_,_,z⟩;exact z;exact z.elim)
  cases r1 with
  | Lu q1 q3=>exact⟨_,_,rfl,.inl (.inr ⟨_,q1⟩),q3,λA2 H3 h0 hx=>⟨.inl (.inr ⟨_,(hx _ _ q1).2 rfl⟩),q3.ex hx⟩⟩
  | lstK q1 q3=>exact⟨_,_,rfl,Vs q1,q3,λA2 H3 h0 hx=>⟨Vs q1,q3.ex hx⟩⟩
 ·cases hs
  obtain⟨a,vs,rfl,ha,ra⟩:=b1.tup
  exact⟨a,vs,rfl,ha.sq,ra,λA2 H3 h0 hx=>⟨(ha.ex hx).sq,ra.ex hx⟩⟩
 ·cases hs
  have r1:Rep b.C (Bs b Ow) H2 v (.ktp _):=(by rcases b1 with z | ⟨_,_,z⟩;exact z;exact z.elim)
  cases r1 with
  | tupK q1 q3=>exact⟨_,_,rfl,kO q1,q3,λA2 H3 h0 hx=>⟨kO q1,q3.ex hx⟩⟩
 ·cases hs
theorem PI.all {α:Type}{iter:Expr}{wi:α->TI}(h:∀a,PI X tg iter (wi a)):PI X tg iter (fun σ H R=>∃a,wi a σ H R):=λzC s σ H R I ⟨a,q⟩=>h a zC s σ H R I q
end
end Lake.MR
namespace Lake.L2
open PySem PySem.Spec PyProof.Rows
noncomputable def XY (k:SK)(h:Heap)(l:Addr):Heap:=h.push { cls:=.type k.ty,data:=.fields #[.ref l,.int 0 0] }
noncomputable def en2 (k:SK)(h:Heap)(l:Addr):Heap:=(XY k h l).push { cls:=.type "enumerate",data:=.fields #[.none,.bool false,.ref h.objs.size,rawInt 0,.none,.none] }
theorem Lw (k:SK)(l:Addr)(xs:qv):Meets (Builtin.«enumerate.__new__» ⟨[.type "enumerate",.ref l],[]⟩) (λ_ R s=>k.is s.heap l xs/\R (.ok (.ret (.ref (XY k s.heap l).objs.size))) { s with heap:=en2 k s.heap l }):=
 .of_wp λprog w A R s h=>by
  obtain⟨hp,g,d,tk,os⟩:=s
  obtain⟨q1,h⟩:=h
  have MH:=sub_enumerate
  cases k with
  | L=>
   have e1:Heap.IsList (Shared.heap ⟨hp,g,d,tk,os⟩) l xs:=q1
   wp_walk using fA e1
   refine wpAny_stack_any λst=>ae ?_
   split
   ·rename_i c _ _ _ _ _
    cases (c == Value.type "enumerate") <;> (wp_walk using fA e1;exact⟨_,rfl,h⟩)
   ·wp_walk using fA e1
    exact⟨_,rfl,h⟩
  | T=>
   have e1:Heap.IsTuple (Shared.heap ⟨hp,g,d,tk,os⟩) l xs:=q1
   wp_walk using eP e1
   refine wpAny_stack_any λst=>ae ?_
   split
   ·rename_i c _ _ _ _ _
    cases (c == Value.type "enumerate") <;> (wp_walk using eP e1;exact⟨_,rfl,h⟩)
   ·wp_walk using eP e1
    exact⟨_,rfl,h⟩
theorem Ea {prog:Program}{w:World}{A:Around}{E:oT}{s:Shared}{k:SK}{l:Addr}{xs:qv}{Q:oT}(q1:k.is s.heap l xs)
  (h:∀h',IsEnum h' (s.heap.objs.size+1) s.heap.objs.size 0 .none->k.at h' s.heap.objs.size l 0->(∀b o,s.heap.get? b=some o->h'.get? b=some o)->Q (.ref (s.heap.objs.size+1)) { s with heap:=h' }):
  wpAny (model prog w) A (call (.type "enumerate") [.ref l]) Q E s:=by
 refine callType_new F.called_enumerate (by decide) (F.typeCall_enumerate_1 _) (F.newCall_enumerate_1 _) (λobj=>F.args_object_init_2 obj _) F.entry_enumerate_new (Lw k l xs) ⟨q1,?_⟩
 have hz:(XY k s.heap l).objs.size=s.heap.objs.size+1:=cy ..
 show _/\_
 rw[hz]
 have he:IsEnum (en2 k s.heap l) (s.heap.objs.size+1) s.heap.objs.size 0 .none:=by
  have z:=ar (XY k s.heap l) (o:={ cls:=.type "enumerate",data:=.fields #[.none,.bool false,.ref s.heap.objs.size,rawInt 0,.none,.none] }) rfl
  rw[hz] at z
  exact z
 exact⟨⟨_,he,rfl⟩,h _ he (SK.at_of (ac _ (ar _ rfl))) λb o x=>ac _ (ac _ x)⟩
def Qj (K:W.Frag)(k:SK)(a:Addr):It:=
 ⟨λi H=>∃xs x,k.sq K H a xs/\xs[i]?=some x,λi H v H'=>∃t x,H t=none/\v=.ref t/\H'=upd H t (.tup [.int (i:Nat),x])/\∀xs,k.sq K H a xs->xs[i]?=some x,λi H=>∃xs,k.sq K H a xs/\xs.length=i⟩
def EAt (k:SK)(e it a:Addr)(i:Nat)(h:Heap):Prop:=(∃old,IsEnum h e it (i:Nat) old)/\k.at h it a i
theorem Eb {P:Program}{w:World}{K:W.Frag}{es:qk}{x1:Nat}{tpos:Pos}(k:SK)(a e it:Addr)(AU:e≠it)(hae:a≠e)(hai:a≠it):Turn P w K (.Tuple es x1 tpos) (Qj K k a) [it,e] e (EAt k e it a) where
 mem:=by simp
 obj:=λi h st b hb=>by
  obtain⟨⟨old,he⟩,s1⟩:=st
  simp only[bm,dc,ix] at hb
  rcases hb with rfl | rfl
  ·exact SK.CC s1
  ·exact⟨_,he,λv y=>by have y':Data.fields _=Data.cell v:=y;cases y'⟩
 keep:=λi h h' st kk=>by
  obtain⟨⟨old,he⟩,s1⟩:=st
  exact⟨⟨old,kk e (by simp) _ he⟩,SK.Dx s1 λo q=>kk it (by simp) o q⟩
 item:=by
  intro X hP hw hK hc i zC s σ H E I hf st hg
  subst hP hw hK
  obtain⟨xs,x,hq,hx⟩:=hg
  obtain⟨⟨old,he⟩,s1⟩:=st
  obtain⟨As,rv,p1⟩:=I.sk hq
  obtain⟨u,hu,ru⟩:=rv.get hx
  have hh:=I.ok.hd hc
  have Wg:i < As.toArray.size:=by
   rcases gL i As.length with q | q
   ·simpa using q
   ·rw[cE q] at hu;cases hu
  refine wpAny_pyNext_enum_itemD (SK.draws (prog:=X.prog) (w:=X.w) (A:=X.A.in1) k hh it a hai As.toArray) he ⟨s1,p1⟩ Wg AU (by simp[AU,hae.symm]) λx' h' tk ex QP j1 UQ hsz hk=>⟨_,rfl,?_⟩
  have eu:x'=u:=be (by rw[← ex,← hu];simp)
  subst eu
  refine wpAny_letOwnedTupleGo_enum (s:={ s with heap:=h',toks:=tk+1 }) QP λh2 OF EX=>?_
  have hel:e < s.heap.objs.size:=av he
  have g2:h2.get? s.heap.objs.size=some { cls:=.type "tuple",data:=.seq #[.int i tk,x'] }:=(EX.2 _ (df hel)).trans UQ
  have k2:∀b o,b∉[it,e]->s.heap.get? b=some o->h2.get? b=some o:=λb o hb q=>by
   simp only[bm,dc,ix,not_or] at hb
   exact(EX.2 b hb.2).trans (hk b o hb.2 hb.1 q)
  have g1:k.at h2 it a (i+1):=SK.Dx j1.1 λo q=>(EX.2 it (fT AU)).trans q
  have UH:∀b o,s.heap.get? b=some o->∃o',h2.get? b=some o':=λb o q=>by
   by_cases n1:b=it
   ·subst n1;obtain⟨o',e',_⟩:=SK.CC g1;exact⟨o',e'⟩
   ·by_cases n2:b=e
    ·subst n2;exact⟨_,OF⟩
    ·exact⟨o,k2 b o (by simp[n1,n2]) q⟩
  have I2:Inv X zC σ (upd H s.heap.objs.size (.tup [.int (i:Nat),x])) { s with heap:=h2,toks:=tk+1 }:=
   I.Kx (ch:=[it,e]) k2 UH hf (aE _) ⟨by show 2<=sizeLine;decide,[.int i tk,x'],.cons ⟨_,rfl⟩ (.cons ru .nil),⟨_,g2,rfl,_,rfl,rfl⟩⟩
  refine⟨.ref s.heap.objs.size,_,I2,rfl,⟨s.heap.objs.size,x,I.fresh,rfl,rfl,λys hy=>by rw[I.IX hy hq];exact hx⟩,⟨⟨x',OF⟩,g1⟩,λb hb=>?_⟩
  have YV:=(hf b hb).1
  rw[ao ?_]
  ·exact YV
  ·simp only[bm,dc,ix] at hb
   rcases hb with rfl | rfl
   ·obtain⟨o,e1,_⟩:=SK.CC s1;exact bg (av e1)
   ·exact bg hel
 done:=by
  intro X hP hw hK hc i zC s σ H E I hf st hg
  subst hP hw hK
  obtain⟨xs,hq,hx⟩:=hg
  obtain⟨⟨old,he⟩,s1⟩:=st
  obtain⟨As,rv,p1⟩:=I.sk hq
  obtain⟨f0,f1,f2,f3,f4,f5⟩:=hf it (by simp)
  have hl:=rv.length
  have hi:i=As.toArray.size:=by rw[aI];omega
  rw[hi] at s1
  exact wpAny_pyNext_enum_endD (SK.draws (prog:=X.prog) (w:=X.w) (A:=X.A.in1) k (I.ok.hd hc) it a hai As.toArray) he ⟨s1,p1⟩ λh' eb=>⟨rfl,I.turned (t':=s.toks) (λb o hb q=>eb b o hb q) f0 f1 f3 f4 f5⟩
 self:=λA i s Q E st h=>by
  obtain⟨⟨old,he⟩,s1⟩:=st
  have hT:s.TypeIs (.ref e) "enumerate" := ⟨_,he,rfl⟩
  refine wpAny_pyIter_slot hT F.slot_enumerate_iter (db F.slot_enumerate_iter hT F.entry_enumerate_iter ?_ (F.args_enumerate_iter_1 _))
  show wpAny _ _ (ret (.ref e)) _ _ s
  exact ae ⟨_,rfl, "enumerate",_,hT,F.slot_enumerate_next.lookup,h⟩
section
variable {X:Cx}
def Qk (K:W.Frag)(k:SK)(ta:TA):TI:=fun σ H R=>ta σ H λvs H1=>∃a,vs=[.ref a]/\(∃xs,k.sq K H1 a xs)/\R (Qj K k a) H1
theorem IV {k:SK}{l:Expr}{ta:TA}{es:qk}{x1:Nat}{tpos p pos:Pos}(hg:Gl X "enumerate")(hm:X.mg "enumerate" = none)(ha:PA X [l] ta)(hs:starEach [l] X.env=[(false,eval l X.env)]:=by rfl):
  PI X (.Tuple es x1 tpos) (.Call (.Name "enumerate" p) [l] [] pos) (Qk X.K k ta):=by
 intro zC s σ H R I h
 refine Call_ (fW I hg hm PyProof.Rows.boot_enumerate (cK (AM (ha pos zC s σ H _ I h) ?_) hs rfl))
 rintro us s1 ⟨vs,H1,I1,r1,q1⟩
 obtain⟨a,e,⟨xs,hq⟩,q⟩:=q1
 subst e
 obtain⟨u,rfl,ru⟩:=vals1 r1
 cases ru
 obtain⟨As,rv,p1⟩:=I1.sk hq
 refine Ea p1 λh' he hit hk=>?_
 have I2:Inv X zC σ H1 { s1 with heap:=h' }:=I1.kept (t':=s1.toks) hk
 have la:=SK.is_lt p1
 have st:EAt k (s1.heap.objs.size+1) s1.heap.objs.size a 0 h':=⟨⟨.none,he⟩,hit⟩
 have T:=Eb (P:=X.prog) (w:=X.w) (K:=X.K) (es:=es) (x1:=x1) (tpos:=tpos) k a (s1.heap.objs.size+1) s1.heap.objs.size (Nat.succ_ne_self _) (bg (Nat.lt_succ_of_lt la)) (bg la)
 refine T.self X.A 0 { s1 with heap:=h' } _ _ st ?_
 refine⟨s1.heap.objs.size+1,[s1.heap.objs.size,s1.heap.objs.size+1],_,_,H1,rfl,I2,T,st,λb hb=>?_,q⟩
 have Pm:s1.heap.objs.size<=b:=by
  simp only[bm,dc,ix] at hb
  rcases hb with z | z
  ·rw[z];exact aE _
  ·rw[z];exact ip _
 exact I1.GI Pm (I1.AK.fresh Pm)
end
end Lake.L2
namespace Lake.MR
open PySem L2
noncomputable def Wu (f:qB)(env:Env):Option (List PV):=(f env).bind λp=>(D_ p).bind λxs=>some (eX 0 xs)
@[simp] theorem Ui (f:qB)(env:Env):Wu f env=((f env).bind λp=>(D_ p).bind λxs=>some (eX 0 xs)):=id rfl
section
variable {X:Cx}{b:BX}{G G' L:qc}{ro:Bool}{pos p:Pos}{m m1 m2:Md}{e e1 e2:Expr}
theorem sZ {fr:Bool}{h:qB}{es:qk}{x1:Nat}{tpos:Pos}(hm:X.mg "enumerate" = none)(he:SE X b G m e h)(Zc:fr=true->m≠.bor:=by simp)(hK:X.K=b.C.K:=by rfl)(hg:Gl X "enumerate" := by rfl)(hs:starEach [e] X.env=[(false,eval e X.env)]:=by rfl)(DU:starEach [e] X.env=(false,eval e X.env)::starEach [] X.env:=by rfl):
  SI X b G fr (.Tuple es x1 tpos) (.Call (.Name "enumerate" p) [e] [] pos) (Wu h):=by
 refine PI.imp (PI.all λk:SK=>IV (k:=k) hg hm (aB he aN DU) hs) ?_
 rintro σ H R ⟨Ow,env,ps,E,hf,k⟩
 rw[hK]
 obtain⟨p1,OG,z1⟩:=aA hf
 clear hf
 obtain⟨xs,Y7,z4⟩:=aA z1
 clear z1
 cases z4
 refine⟨kd p1,Ow,env,p1,E,OG,λv H1 s r=>?_⟩
 obtain⟨a,vs,rfl,qa,ra,ka⟩:=IK (fr:=fr) E r Zc Y7
 refine⟨a,rfl,⟨vs,qa⟩,k _ _ s λA2 H3 h0 hx hn=>?_⟩
 obtain⟨Zd,Si⟩:=ka A2 H3 h0 hx
 refine⟨λi p PR=>?_,⟨vs,Zd,by rw[ql,Si.length]⟩⟩
 obtain⟨x,MM,rfl⟩:=wZ PR
 obtain⟨v,hv,rv⟩:=Si.get MM
 refine⟨⟨vs,v,Zd,hv⟩,λy H' yl=>?_⟩
 obtain⟨t,x',ht,e1,e2,yl⟩:=yl
 subst e1 e2
 have e3:=yl vs Zd
 rw[hv] at e3
 cases e3
 refine⟨aL ht _,.tup az (.cons ?_ (.cons (rv.ex (.of_same (aL ht _))) .nil))⟩
 rw[Nat.zero_add]
 exact .int _
end
end Lake.MR
namespace Lake.HT
open PySem PyProof.Rows
def Ql (A:Around)(s:Shared)(x y:Value)(r:Bool):Prop:=∀(prog:Program) (w:World) (E Q:oT),Q (.bool r) s->wpAny (model prog w) A (richCompare .Lt x y) Q E s
section
open PySem.SeqAt
open PySem.AutoSeq1 (wpAny_loadPart')
open PySem.MeetsSeq PySem.MeetsSeq2 PySem.MeetsSeq3
theorem GO (l b:Addr)(x1 x2 y1 y2:Value)(n n2:Nat)(dd RH:Option Addr)(sl RI:Array (Option Value))(e1 e2 r1 r2:Bool):
  Meets (Builtin.«tuple.__lt__» ⟨[.ref l,.ref b],[]⟩)
   (λA R s=>s.heap.get? l=some { cls:=.type "tuple",dict:=dd,data:=.seq #[x1,x2] n,slots:=sl }/\s.heap.get? b=some { cls:=.type "tuple",dict:=RH,data:=.seq #[y1,y2] n2,slots:=RI } /\
    EqAt A.in1 s x1 y1 e1/\(e1=true->EqAt A.in1 s x2 y2 e2)/\(e1=false->Ql A.in1 s x1 y1 r1)/\(e1=true->e2=false->Ql A.in1 s x2 y2 r2) /\
    R (.ok (.ret (.bool (if e1=true then (if e2=true then false else r2) else r1)))) s):=
 .of_wp λprog w A R s h=>by
  obtain⟨hp,g,d,tk,os⟩:=s;obtain⟨hl,hb,q1,q2,q3,q4,h⟩:=h
  have f2:=AutoSeq1.sub_tuple_tuple
  wp_walk using ic hl,ic hb,nX _ (λrest b s'=>b.1=none/\s'=⟨hp,g,d,tk,os⟩/\(rest=[(x1,y1),(x2,y2)]\/(rest=[(x2,y2)]/\e1=true)\/(rest=[]/\e1=true/\e2=true))) _
  case turn=>
   rintro ⟨y,x⟩ rest b s' ⟨Pm,rfl,hz⟩
   rcases hz with hz | ⟨hz,Sk⟩ | ⟨hz,_⟩
   ·injection hz with Ze MO
    injection Ze with hy hx
    subst hy hx
    refine ab (q1 prog w _ _ ?_)
    cases e1 with
    | true=>
     wp_walk
     exact⟨rfl,rfl,.inr (.inl ⟨MO,rfl⟩)⟩
    | false=>
     have Zf:=q3 rfl prog w
     wp_walk using Zf
     exact⟨_,rfl,by simpa using h⟩
   ·injection hz with Ze MO
    injection Ze with hy hx
    subst hy hx Sk
    refine ab (q2 rfl prog w _ _ ?_)
    cases e2 with
    | true=>
     wp_walk
     exact⟨rfl,rfl,.inr (.inr ⟨MO,rfl,rfl⟩)⟩
    | false=>
     have Zf:=q4 rfl rfl prog w
     wp_walk using Zf
     exact⟨_,rfl,by simpa using h⟩
   ·cases hz
  case fin=>
   rintro ⟨b1,b2⟩ s' ⟨Pm,rfl,hz⟩
   simp only at Pm
   subst Pm
   rcases hz with hz | ⟨hz,Sk⟩ | ⟨_,Sk,OF⟩
   ·cases hz
   ·cases hz
   ·subst Sk OF
    wp_walk
    exact⟨_,rfl,by simpa [Builtin.Tuple.tupleCompareSizes] using h⟩
  case h=>
   exact⟨rfl,rfl,.inl rfl⟩
end
end Lake.HT
namespace Lake.L2
open PySem PySem.Spec PyProof.Rows
open PySem.W (KasT kas_asc kas_desc kas_tail3 kas_descPart kas_count kas_place kas_bin kas_sort kas_rev)
def vQ {α:Type}(lt:Nat->Nat->Bool):KasT α->α
 | .ret a=>a
 | .ask i j k=>vQ lt (k (lt i j))
def EH {α:Type}(n:Nat)(P:α->Prop):KasT α->Prop
 | .ret a=>P a
 | .ask i j k=>i < n/\j < n/\∀b,EH n P (k b)
variable {p:Array Nat}
section
variable {α β:Type}{n:Nat}
theorem EH.bind {P:α->Prop}{R:β->Prop}{f:α->KasT β}(hf:∀a,P a->EH n R (f a)):∀t:KasT α,EH n P t->EH n R (t.bind f)
 | .ret a,h=>hf a h
 | .ask i j k,h=>⟨h.1,h.2.1,λb=>EH.bind hf (k b) (h.2.2 b)⟩
theorem EH.run {P:α->Prop}(lt:Nat->Nat->Bool):∀t:KasT α,EH n P t->P (vQ lt t)
 | .ret _,h=>h
 | .ask _ _ k,h=>EH.run lt (k _) (h.2.2 _)
theorem EH.wp {P:α->Prop}{lt:Nat->Nat->Bool}{s:Shared}{cmp:Nat->Nat->(Bool->Shared->Prop)->Shared->Prop}(hc:∀i j (C:Bool->Shared->Prop),i < n->j < n->C (lt i j) s->cmp i j C s){Q:α->Shared->Prop}:∀t:KasT α,EH n P t->Q (vQ lt t) s->t.kasWp cmp Q s
 | .ret _,_,q=>q
 | .ask i j k,h,q=>hc i j _ h.1 h.2.1 (EH.wp hc (k _) (h.2.2 _) q)
def Rw (n:Nat)(p:Array Nat):Prop:=p.Perm (List.range n).toArray
theorem Rw.at (h:Rw n p)(hn:0 < n)(i:Nat):p.getD i 0 < n:=by
 by_cases hi:i < p.size
 ·have e:p.getD i 0=p[i]:=by simp[Array.getD,hi]
  rw[e]
  have m:p[i]∈(List.range n).toArray:=(Array.Perm.mem_iff h).mp (Array.getElem_mem hi)
  simpa using m
 ·have e:p.getD i 0=0:=by simp[Array.getD,hi]
  rw[e];exact hn
theorem Rw.rev (h:Rw n p)(i j:Nat):Rw n (kas_rev p i j):=(mirror_perm _ _ _ _).trans h
theorem Rw.bub (h:Rw n p)(i j:Nat):Rw n (bubble p i j):=(bubble_perm _ _ _).trans h
theorem zr {p:Array Nat}(h:Rw n p)(hn:0 < n):∀f m,EH n (λ_=>True) (kas_asc p f m)
 | 0,_=>trivial
 | f+1,m=>⟨h.at hn _,h.at hn _,λc=>by
  cases c with
  | true=>exact trivial
  | false=>exact zr h hn f (m+1)⟩
theorem qZ (hn:0 < n):∀f (p:Array Nat) m q,Rw n p->EH n (λr=>Rw n r.1) (kas_desc f p m q)
 | 0,p,_,_,h=>h
 | f+1,p,m,q,h=>⟨h.at hn _,h.at hn _,λc=>by
  cases c with
  | true=>
   show EH n _ (if q > 0 then kas_desc f (kas_rev p (m - (q+1)) m) (m+1) 0 else kas_desc f p (m+1) 0)
   split
   ·exact qZ hn f _ _ _ (h.rev _ _)
   ·exact qZ hn f _ _ _ h
  | false=>
   refine⟨h.at hn _,h.at hn _,λd=>?_⟩
   cases d with
   | true=>exact h
   | false=>exact qZ hn f _ _ _ h⟩
theorem zu (h:Rw n p)(hn:0 < n)(m r:Nat):EH n (λr=>Rw n r.2) (kas_tail3 m r p):=by
 unfold kas_tail3
 refine EH.bind (P:=λ_=>True) (λ_ _=>?_) _ (zr (h.rev 0 m) hn _ _)
 exact h.rev 0 m
theorem rQ (h:Rw n p)(hn:0 < n)(m r:Nat):EH n (λr=>Rw n r.2) (kas_descPart m r p):=EH.bind (λa ha=>by
 split
 ·exact zu (ha.rev _ _) hn _ _
 ·exact zu ha hn _ _) _ (qZ hn _ _ _ _ h)
theorem I_ (h:Rw n p)(hn:0 < n)(r:Nat):EH n (λr=>Rw n r.2) (kas_count r p):=EH.bind (λa _=>by
 split
 ·exact h
 ·split
  ·refine⟨h.at hn _,h.at hn _,λc=>?_⟩
   cases c with
   | true=>exact h
   | false=>exact rQ (h.rev _ _) hn _ _
  ·exact rQ h hn _ _) _ (zr h hn _ _)
theorem tu {p:Array Nat}(h:Rw n p)(hn:0 < n)(k:Nat):∀f l r,EH n (λ_=>True) (kas_place p k f l r)
 | 0,_,_=>trivial
 | f+1,l,r=>by
  unfold kas_place
  split
  ·exact trivial
  ·refine⟨h.at hn _,h.at hn _,λc=>?_⟩
   cases c with
   | true=>exact tu h hn k f _ _
   | false=>exact tu h hn k f _ _
theorem Gz (hn:0 < n):∀f (p:Array Nat) k,Rw n p->EH n (Rw n) (kas_bin f p k)
 | 0,_,_,h=>h
 | f+1,p,k,h=>EH.bind (λ_ _=>Gz hn f _ _ (h.bub _ _)) _ (tu h hn k _ _ _)
theorem Ce (hn:0 < n):EH n (Rw n) (kas_sort n):=EH.bind (λr h=>by
 split
 ·exact Gz hn _ _ _ h
 ·exact h) _ (I_ (Array.Perm.refl _) hn n)
end
noncomputable def my (lt:Nat->Nat->Bool)(n:Nat):List Nat:=if n < 2 then List.range n else (vQ lt (kas_sort n)).toList
theorem lq (lt:Nat->Nat->Bool)(n:Nat):(my lt n).Perm (List.range n):=by
 unfold my
 split
 ·exact List.Perm.refl _
 ·have:=(Ce (n:=n) (by omega)).run lt
  have h:((vQ lt (kas_sort n)).toList).Perm ((List.range n).toArray.toList):=Array.perm_iff_toList_perm.mp this
  simpa using h
noncomputable def XZ (p q:Int×Str):Bool:=if decide (p.1=q.1)=true then (if decide (p.2=q.2)=true then false else decide (p.2.cps.toList < q.2.cps.toList)) else decide (p.1 < q.1)
noncomputable def ltI (p q:(Int×Str)×Int):Bool:=if decide (p.1=q.1)=true then (if decide (p.2=q.2)=true then false else decide (p.2 < q.2)) else XZ p.1 q.1
def MQ (h:Heap)(p:Int×Str)(b:Addr):Prop:=∃t u,IsTup h b #[.int p.1 t,.str p.2 u]
def X0 (h:Heap)(p:(Int×Str)×Int)(c:Addr):Prop:=∃b t,IsTup h c #[.ref b,.int p.2 t]/\MQ h p.1 b
section
variable {prog:Program}{w:World}{A:Around}{E:oT}{s:Shared}
theorem GC {p:Int×Str}{b:Addr}(h:MQ s.heap p b):Cb (Co 0 s.heap) s.heap [.k (.inl p.1),.k (.inr p.2)] b:=by
 obtain⟨t,u,o,h1,h2,n,h3⟩:=h
 exact⟨o,_,n,h1,h2,h3,.cons ⟨_,rfl,lL (pL _ _)⟩ (.cons ⟨_,rfl,lL (pM _ _)⟩ .nil)⟩
theorem Qm {p q:Int×Str}{b d:Addr}(hu:A.units+1 < cLine)(hx:MQ s.heap p b)(hy:MQ s.heap q d):SeqAt.EqAt A s (.ref b) (.ref d) (decide (p=q)):=by
 have h:=CV (A:=A) (R:=Co 0 s.heap) (λx y v=>Co.inj x y v) (by omega) (GC hx) (GC hy) λp q u v h1 h2=>Co.eq p q u v (by rw[in1_units];omega) h1 h2
 have e:decide (([.k (.inl p.1),.k (.inr p.2)]:List zD)=[.k (.inl q.1),.k (.inr q.2)])=decide (p=q):=by
  obtain⟨p1,p2⟩:=p
  obtain⟨q1,q2⟩:=q
  by_cases z:p1=q1 <;> by_cases z2:p2=q2 <;> simp[z,z2]
 rw[← e];exact h
theorem Qn {p q:Int×Str}{b d:Addr}(hu:A.units+1 < cLine)(hx:MQ s.heap p b)(hy:MQ s.heap q d){Q:oT}(h:Q (.bool (XZ p q)) s):wpAny (model prog w) A (compareOp .Lt (.ref b) (.ref d)) Q E s:=by
 obtain⟨t,u,⟨cls,dd,data,sl⟩,ho,hc,n,hd⟩:=hx
 obtain⟨t',u',⟨VW,RH,data2,RI⟩,Oy,Ki,n2,hd2⟩:=hy
 simp only at hc hd Ki hd2
 subst hc hd Ki hd2
 refine richCompare_meets_room (op:=.Lt) ⟨_,ho,rfl⟩ ⟨_,Oy,rfl⟩ PySem.F.slot_tuple_lt PySem.F.entry_tuple_lt (PySem.F.args_tuple_lt_2 _ _) (HT.GO b d _ _ _ _ n n2 dd RH sl RI (decide (p.1=q.1)) (decide (p.2=q.2)) (decide (p.1 < q.1)) (decide (p.2.cps.toList < q.2.cps.toList)))
  ⟨ho,Oy,?_,λ_=>?_,λ_ prog w E Q q=>?_,λ_ _ prog w E Q q=>?_,?_⟩ (by omega)
 ·have:=mw (A:=A.in1) (s:=s) p.1 t q.1 t'
  rw[pi] at this
  exact this
 ·have:=SeqAt.EqAt.str_str (A:=A.in1) (s:=s) p.2 u q.2 u'
  rw[show (p.2 == q.2)=decide (p.2=q.2) by by_cases z:p.2=q.2 <;> simp[z]] at this
  exact this
 ·exact lt_int q
 ·exact lt_str q
 ·exact(show Value.bool (XZ p q)≠Value.notImplemented/\Q (.bool (XZ p q)) s from ⟨(λx=>nomatch x),h⟩)
theorem Qo {p q:(Int×Str)×Int}{c d:Addr}(hu:A.units+1 < cLine)(hx:X0 s.heap p c)(hy:X0 s.heap q d){Q:Bool->Shared->Prop}(h:Q (ltI p q) s):wpAny (model prog w) A (keyLt' (tuples' false) (.ref c) (.ref d)) Q E s:=by
 obtain⟨b,t,⟨o,h1,h2,n,h3⟩,kb⟩:=hx
 obtain⟨b',t',⟨o',UN,Wv,n',XU⟩,kb'⟩:=hy
 refine W.kat_lt h1 h3 UN XU ?_
 refine W.kat_cons ((Qm hu kb kb') _ _ _ _ ?_)
 unfold ltI at h
 refine W.kat_go (λe=>W.kat_yes ?_) λe=>W.kat_no ?_
 ·rw[e] at h
  simp only[fw] at h
  refine W.kat_cons ?_
  have key:=mw (A:=A) (s:=s) p.2 t q.2 t'
  rw[pi] at key
  refine key _ _ _ _ ?_
  refine W.kat_go (λe2=>W.kat_yes (W.kat_nil ?_)) λe2=>W.kat_no ?_
  ·rw[e2] at h
   simpa using h
  ·rw[e2] at h
   simp only[eg,fm] at h
   exact W.kat_one _ _ (lt_int h)
 ·rw[e] at h
  simp only[eg,fm] at h
  exact W.kat_one _ _ (Qn hu kb kb' h)
variable {κ:Type}[DecidableEq κ]{kd:HeapKind prog w κ}{d r S:Addr}{xs:List (κ×Addr×Value)}
theorem Lx {R:Result->Shared->Prop}(hh:A.handled=none)(hv:s.heap.IsItemsView r d)(m:AQ kd s.heap d xs)
  (kp:∀h h':Heap,(∀b o,h.get? b=some o->o.cls=.type "tuple" -> h'.get? b=some o)->∀(x:κ) (b:Addr),kd.is h x b->kd.is h' x b)
  (hSr:S≠r) (XN:d≠S) (res:Value) (c₀:Nat) (hS:s.heap.get? S=some { cls:=.type "list",data:=.seq #[] c₀ })
  (hR:∀h' tk acc c as,(∀b o,b≠S->s.heap.get? b=some o->h'.get? b=some o)->h'.get? S=some { cls:=.type "list",dict:=none,data:=.seq acc c,slots:=#[] }->as.length=xs.length->Vq h' s.heap.objs.size xs as->
   acc.toList=as.map Value.ref->R (.ok (.ret res)) { s with heap:=h',toks:=tk }) (hn:xs.length<=sizeLine):
  wpAny (model prog w) A.in1 (Builtin.List.listExtendWith (.ref S) (.ref r) res)
   (λfin s'=>match fin with | .done f=>R (.ok f) s' | .again c'=>c'.quiet=true/\codeAny (model prog w) A c' R s') (λe s'=>R (.error e) s') s:=by
 have Wh:S < s.heap.objs.size:=av hS
 have hdI:d < s.heap.objs.size:=by obtain⟨o,es,o1,_⟩:=m;exact av o1
 have key:∀(h:Heap) (c₁ tk:Nat),(∀b o,b≠S->(s.heap.push { cls:=.type "dict_itemiterator",data:=.fields #[.none,.bool false,.ref d,.int 0 0,.int xs.length 0,.int xs.length 0,.none,.none] }).get? b=some o->h.get? b=some o)->
   h.get? S=some { cls:=.type "list",data:=.seq #[] c₁ }->codeAny (model prog w) A (.builtin "list.extend.loop" ⟨[.ref S,.ref s.heap.objs.size,res],[]⟩) R { s with heap:=h,toks:=tk }:=by
  intro h c₁ tk hk UR
  have hI:=hk s.heap.objs.size _ (df Wh) (ar _ rfl)
  have tS:∀b o,s.heap.get? b=some o->o.cls=.type "tuple" -> b≠S:=λb o e q z=>by rw[z,hS] at e;cases e;exact absurd (i7 q) (by decide)
  refine RM (kd:=kd) (xs:=xs) (s:=s) (h₁:=s.heap) hh Wh XN (bg hdI) hn res kp (λh' X1 acc c as F8 LP hl hG E5=>hR h' X1 acc c as (λb o hb e=>F8 b o hb (bg (av e)) e) LP hl hG E5)
   xs.length 0 h tk c₁ #[] [] (Nat.sub_zero _) (cq _) (.inl ⟨rfl,.none,.none,hI⟩) (sI m (kp _ _ λb o e q=>hk b o (tS b o e q) (ac _ e)) λo e=>hk d o XN (ac _ e)) (λb o hb _ e=>hk b o hb (ac _ e)) UR rfl rfl
   (λj a hj=>by simp at hj) (av hI)
 unfold Builtin.List.listExtendWith
 refine ab (i9 (T := "dict_items") hv.typeIs ?_)
 have g1:Builtin.List.listSameRef (.ref S) (.ref r)=false:=by simp[Builtin.List.listSameRef,hSr]
 have g2:(Value.type "dict_items" == Value.type "list")=false:=by decide
 have g3:(Value.type "dict_items" == Value.type "tuple")=false:=by decide
 simp only[g1,g2,g3,Bool.or_false,eg,fm]
 refine ab (Pq hv m λh' eh=>?_)
 subst eh
 have UR:=ac { cls:=.type "dict_itemiterator",data:=.fields #[.none,.bool false,.ref d,.int 0 0,.int xs.length 0,.int xs.length 0,.none,.none] } hS
 refine ab (ef (W.kdx_hint (let ⟨o,ho,hc,_⟩:=hv;⟨o,ac _ ho,hc⟩) ?_))
 refine wpAny_ite_split (λ_=>?_) (λ_=>ae ⟨lh f7 _,key _ c₀ _ (λb o _ e=>e) UR⟩)
 refine ab (iX ?_)
 refine ab ?_
 show wpAny _ _ (updateSeq S (·.push .none) >>= λ_=>updateSeq S (·.pop)) _ _ _
 refine ab (l4 UR rfl ?_)
 have hS₂:=eK (Obj.mapSeq (·.push Value.none)) UR rfl
 refine l4 (hz:=by seq_fits) hS₂ rfl ?_
 have hS₃:=eK (Obj.mapSeq (·.pop)) hS₂ rfl
 refine ae ⟨lh f7 _,key _ _ _ (λb o hb e=>?_) hS₃⟩
 exact(eS _ _ (fT hb)).trans ((eS _ _ (fT hb)).trans e)
theorem Ja {R:List Value->Shared->Prop}(hh:A.handled=none)(hv:s.heap.IsItemsView r d)(m:AQ kd s.heap d xs)
  (kp:∀h h':Heap,(∀b o,h.get? b=some o->o.cls=.type "tuple" -> h'.get? b=some o)->∀(x:κ) (b:Addr),kd.is h x b->kd.is h' x b) (hn:xs.length<=sizeLine)
  (q:∀h' tk as,(∀b o,s.heap.get? b=some o->h'.get? b=some o)->s.heap.objs.size < h'.objs.size->as.length=xs.length->Vq h' s.heap.objs.size xs as->R (as.map Value.ref) { s with heap:=h',toks:=tk }):wpAny (model prog w) A (collect (.ref r)) R E s:=by
 have lr:r < s.heap.objs.size:=by obtain⟨o,ho,_⟩:=hv;exact av ho
 have ld:d < s.heap.objs.size:=by obtain⟨o,es,o1,_⟩:=m;exact av o1
 unfold collect
 refine ab (wpAny_runValue (iP entry_proto_collect' ?_))
 rw[i6 PySem.F.plain_proto_collect _]
 show wpAny _ A.in1 (newList [] >>= λl=>again (.builtin "list.__iadd__" ⟨[l,.ref r],[]⟩)) _ _ s
 refine ab (cS ?_)
 refine ae ⟨lh oy _,iP entry_list_iadd' ?_⟩
 rw[i6 oy _]
 have UR:(s.heap.push { cls:=.type "list",data:=.seq ([]:qf).toArray }).get? s.heap.objs.size=some { cls:=.type "list",data:=.seq #[] }:=ar _ rfl
 show wpAny _ A.in1 (Builtin.List.listExtendWith (.ref s.heap.objs.size) (.ref r) (.ref s.heap.objs.size)) _ _ _
 have hv1:(s.heap.push { cls:=.type "list",data:=.seq ([]:qf).toArray }).IsItemsView r d:=by obtain⟨o,ho,e⟩:=hv;exact⟨o,ac _ ho,e⟩
 have m1:AQ kd (s.heap.push { cls:=.type "list",data:=.seq ([]:qf).toArray }) d xs:=sI m (kp _ _ λb o e _=>ac _ e) λo e=>ac _ e
 have key:=Lx (A:=A) (s:={ s with heap:=s.heap.push { cls:=.type "list",data:=.seq ([]:qf).toArray } }) (S:=s.heap.objs.size)
  (R:=λ(z:Result) (s':Shared)=>∃(h':Heap) (tk:Nat) (acc:qv) (c:Nat) (as:qr),z=.ok (.ret (.ref s.heap.objs.size))/\s'={ s with heap:=h',toks:=tk } /\
   (∀b o,s.heap.get? b=some o->h'.get? b=some o)/\h'.get? s.heap.objs.size=some { cls:=.type "list",dict:=none,data:=.seq acc c,slots:=#[] }/\as.length=xs.length/\Vq h' s.heap.objs.size xs as/\acc.toList=as.map Value.ref)
  hh hv1 m1 kp (df lr) (bg ld) (.ref s.heap.objs.size) 0 UR
  (λh' tk acc c as hk LP hl hG E5=>⟨h',tk,acc,c,as,rfl,rfl,λb o e=>hk b o (bg (av e)) (ac _ e),LP,hl,λj c hj=>by
   obtain⟨e0,e1⟩:=hG j c hj
   have e0:(s.heap.push { cls:=.type "list",data:=.seq ([]:qf).toArray }).objs.size < c:=e0
   rw[size_push'] at e0
   exact⟨mh (f8 _) e0,e1⟩,E5⟩) hn
 refine fg key (λfin s' x=>?_) λe s' x=>?_
 ·cases fin with
  | done f=>
   obtain⟨h',tk,acc,c,as,e,rfl,hk,LP,hl,hG,E5⟩:=x
   cases e
   show wpAny _ A (load s.heap.objs.size >>= _) _ _ _
   refine ab (wpAny_load LP (ae ?_))
   show R acc.toList _
   rw[E5]
   exact q h' tk as hk (av LP) hl hG
  | again c₁=>
   refine⟨x.1,mf x.2 λz s₂ y=>?_⟩
   obtain⟨h',tk,acc,c,as,rfl,rfl,hk,LP,hl,hG,E5⟩:=y
   show wpAny _ A (load s.heap.objs.size >>= _) _ _ _
   refine ab (wpAny_load LP (ae ?_))
   show R acc.toList _
   rw[E5]
   exact q h' tk as hk (av LP) hl hG
 ·obtain⟨_,_,_,_,_,e',_⟩:=x
  cases e'
end
open PySem.W (kas_sort kas_ask kat_run kat_snds kat_kind KatTups)
section
variable {prog:Program}{w:World}{A:Around}{E:oT}{s:Shared}
noncomputable def jP (lt:Nat->Nat->Bool)(vs:qf):List Value:=(my lt vs.length).map λi=>vs.getD i Value.none
theorem Jb (lt:Nat->Nat->Bool)(vs:qf):(jP lt vs).length=vs.length:=by
 unfold jP
 rw[ba,(lq lt vs.length).length_eq,fb]
theorem Ec {lt:Nat->Nat->Bool}{vs:qf}(h:vs.length < 2):jP lt vs=vs:=by
 unfold jP my
 rw[a0 h]
 match vs,h with
 | [],_=>rfl
 | [v],_=>rfl
 | _::_::_,h=>exact absurd h (by simp only[bv];omega)
theorem Ly (vs:qf):(vs.toArray.zip vs.toArray).map (·.2)=vs.toArray:=by
 apply Array.toList_inj.mp
 simp[List.map_snd_zip]
noncomputable def iI (h:Heap)(a:Addr)(vs:qf):Heap:=((h.update a (Obj.mapSeq λ_=>(#[]:qv))).push (seqObj "tuple" vs.toArray 0)).push (seqObj "list" #[] 0)
theorem Jc {h:Heap}{a b:Addr}{vs:qf}{o:Obj}(hb:b≠a)(e:h.get? b=some o):(iI h a vs).get? b=some o:=
 ac _ (ac _ ((eS _ _ (fT hb)).trans e))
theorem Qp {a:Addr}{vs:qf}{n:Nat}{P:PySem.Fin->Shared->Prop}(lt:Nat->Nat->Bool)(ho:s.heap.get? a=some (seqObj "list" vs.toArray n))(Vo:vs.length < 64)
  (hk:2<=vs.length->∀Q:SortKind->Shared->Prop,Q (tuples' false) { s with heap:=iI s.heap a vs }->wpAny (model prog w) A (keyKind' vs.toArray) Q (λ_ _=>False) { s with heap:=iI s.heap a vs })
  (hc:∀i j (C:Bool->Shared->Prop),i < vs.length->j < vs.length->C (lt i j) { s with heap:=iI s.heap a vs }->kas_ask prog w A (tuples' false) vs i j C { s with heap:=iI s.heap a vs })
  (h:P (.done (.ret .none)) { s with heap:=sortedHeap s.heap a vs (jP lt vs).toArray }):
  wpAny (model prog w) A (Builtin.«list.sort» ⟨[.ref a],[]⟩) P E s:=by
 rw[list_sort_plain]
 have ha:a < s.heap.objs.size:=av ho
 have hz:vs.length<=sizeLine:=by rw[iF];omega
 refine ab (listItems_at ho rfl ?_)
 refine ab (listUpdate_at ho rfl ?_ (by rw[aI,iF];omega) (cq _))
 obtain⟨e1,Vv⟩:∃e1,(s.heap.update a (Obj.mapSeq λ_=>#[])).get? a=some (seqObj "list" #[] e1):=⟨_,get?_update_seq ho (λ_=>#[])⟩
 refine ab (seqEpoch_at Vv rfl ?_)
 refine ab (mE ?_ (by show vs.length<=_;exact hz))
 refine ab (wpAny_newList ?_ (cq _))
 refine ef ?_
 have X2:(iI s.heap a vs).get? a=some (seqObj "list" #[] e1):=by
  unfold iI
  rw[Heap.get?_push_ne _ _ _ (by rw[size_push',Heap.size_update];exact bg (Nat.lt_succ_of_lt ha)),Heap.get?_push_ne _ _ _ (by rw[Heap.size_update];exact bg ha)]
  exact Vv
 show wpAny (model prog w) A _ P E { s with heap:=iI s.heap a vs }
 dsimp only
 by_cases h2:vs.toArray.size < 2
 ·rw[a0 h2,a0 h2]
  have Wv:vs.length < 2:=by rwa [aI] at h2
  refine ab (ae ?_)
  rw[StateT.run_pure]
  refine ab (ae ?_)
  dsimp only
  refine ab (seqEpoch_at X2 rfl ?_)
  have eo:(arrOf (SortSt.mk' general' (vs.toArray.zip vs.toArray) #[] 7 none)).map (·.2)=vs.toArray:=by
   exact Ly vs
  rw[eo]
  refine ab (listUpdate_at X2 rfl ?_ (cq _) (by show vs.toArray.size<=_;rw[aI];exact nE hz))
  simp only[bne_self_eq_false,eg,fm]
  rw[Ec Wv] at h
  exact ae h
 ·rw[ax h2,ax h2]
  have Wv:2<=vs.length:=by rw[aI] at h2;omega
  refine ab (fg (hk Wv (fun κ s'=>κ=tuples' false/\s'={ s with heap:=iI s.heap a vs }) ⟨rfl,rfl⟩) (fun κ s0 hκ=>?_) λ_ _ x=>x.elim)
  obtain⟨rfl,rfl⟩:=hκ
  refine ab (fg (kat_run (A:=A) (κ:=tuples' false) (ks:=vs) (vs:=vs) (Q:=λBA s'=>s'={ s with heap:=iI s.heap a vs }/\(arrOf BA).map (·.2)=(jP lt vs).toArray/\failedOf BA=none)
   (G:=λp s'=>s'={ s with heap:=iI s.heap a vs }/\p=vQ lt (kas_sort vs.length)) rfl Wv Vo (λp BA s' a1 a2 a3 a4=>⟨a4.1,?_,a3⟩) (EH.wp (s:={ s with heap:=iI s.heap a vs }) hc _ (Ce (by omega)) ⟨rfl,rfl⟩)) ?_ λ_ _ e=>e)
  ·rw[kat_snds rfl a2,a4.2]
   unfold jP my
   rw[ax (by omega)]
  ·rintro ⟨⟨⟩,BA⟩ s' ⟨rfl,Zg,hf⟩
   dsimp only
   rw[Zg]
   refine ab (seqEpoch_at X2 rfl ?_)
   refine ab (listUpdate_at X2 rfl ?_ (cq _) (by show (jP lt vs).toArray.size<=_;rw[aI,Jb];exact nE hz))
   rw[hf]
   simp only[bne_self_eq_false,eg,fm]
   exact ae h
variable {κ:Type}[DecidableEq κ]{kd:HeapKind prog w κ}{d r:Addr}{xs:List (κ×Addr×Value)}
noncomputable def ltAt (L:List ((Int×Str)×Int))(i j:Nat):Bool:=match L[i]?,L[j]? with
 | some p,some q=>ltI p q
 | _,_=>false
theorem Jd {h h':Heap}{p:Int×Str}{b:Addr}(x:MQ h p b)(k:∀o,h.get? b=some o->h'.get? b=some o):MQ h' p b:=by
 obtain⟨t,u,o,h1,h2⟩:=x
 exact⟨t,u,o,k o h1,h2⟩
theorem Cg {h:Heap}:∀as:List Addr,(∀c∈as,∃p,X0 h p c)->∃fs:List Value,fs.length=as.length/\KatTups h (as.map Value.ref) fs/\∀f∈fs,∃b o,f=.ref b/\h.get? b=some o/\o.cls=.type "tuple"
 | [],_=>⟨[],rfl,.nil,λf hf=>nomatch hf⟩
 | c::as,hp=>by
  obtain⟨fs,h1,h2,h3⟩:=Cg as λc hc=>hp c (af _ hc)
  obtain⟨p,b,t,⟨o,e1,e2,n,e3⟩,t1,t2,ob,b1,b2,_⟩:=hp c am
  refine⟨.ref b::fs,by simp[h1],.cons e1 e2 e3 rfl h2,λf hf=>?_⟩
  rcases bm.mp hf with rfl | hf
  ·exact⟨b,ob,rfl,b1,b2⟩
  ·exact h3 f hf
theorem Lz {Q:oT}(L:List ((Int×Str)×Int))(hh:A.handled=none)(hu:A.units+9 < cLine)(hv:s.heap.IsItemsView r d)(m:AQ kd s.heap d xs)
  (kp:∀h h':Heap,(∀b o,h.get? b=some o->o.cls=.type "tuple" -> h'.get? b=some o)->∀(x:κ) (b:Addr),kd.is h x b->kd.is h' x b) (hlen:L.length=xs.length) (Vo:xs.length < 64)
  (hL:∀(j:Nat) (k:κ) (b:Addr) (v:Value),xs[j]?=some (k,b,v)->∃p:(Int×Str)×Int,L[j]?=some p/\MQ s.heap p.1 b/\∃t,v=Value.int p.2 t)
  (q:∀h' tk D e as,s.heap.objs.size<=D->(∀b o,s.heap.get? b=some o->h'.get? b=some o)->as.length=xs.length->(∀c∈as,s.heap.objs.size<=c/\c≠D)->Vq h' s.heap.objs.size xs as->
   h'.get? D=some (seqObj "list" ((my (ltAt L) L.length).map λi=>Value.ref (as.getD i 0)).toArray e)->Q (.ref D) { s with heap:=h',toks:=tk }):
  wpAny (model prog w) A (call (.builtin "sorted") [.ref r]) Q E s:=by
 refine Calls.call_function_entry kind_sorted plain_sorted entry_sorted (args_sorted1 _) ?_
 unfold Builtin.«sorted»
 refine ab (m:=checkCount "sorted" 1 1 _) (ae ?_)
 refine ab (Ja (A:=A.in1) (kd:=kd) hh hv m kp (by rw[iF];omega) λh1 tk as k1 sz1 IZ hG=>?_)
 have hvl:(as.map Value.ref).length=xs.length:=by rw[ba,IZ]
 refine ab (wpAny_newList ?_ (by rw[hvl,iF];omega))
 have hD:(h1.push (seqObj "list" (as.map Value.ref).toArray 0)).get? h1.objs.size=some (seqObj "list" (as.map Value.ref).toArray 0):=ar _ rfl
 have szl:(as.map Value.ref).length < 64:=by omega
 have pr:∀(j:Nat) (c:Addr),as[j]?=some c->c < h1.objs.size/\s.heap.objs.size < c/\∃p,L[j]?=some p/\∀h2:Heap,(∀b o,b < h1.objs.size->h1.get? b=some o->h2.get? b=some o)->X0 h2 p c:=λj c hj=>by
  obtain⟨e0,k,b,v,e1,e2⟩:=hG j c hj
  obtain⟨p,hp,pk,t,rfl⟩:=hL j k b v e1
  refine⟨av e2,e0,p,hp,λh2 k2=>⟨b,t,⟨_,k2 c _ (av e2) e2,rfl,0,rfl⟩,Jd pk λo e=>?_⟩⟩
  have e':=k1 b o e
  exact k2 b o (av e') e'
 have kS:∀b o,b < h1.objs.size->h1.get? b=some o->(iI (h1.push (seqObj "list" (as.map Value.ref).toArray 0)) h1.objs.size (as.map Value.ref)).get? b=some o:=λb o hb e=>Jc (bg hb) (ac _ e)
 refine ab (ef (db slot_list_sort ⟨_,hD,rfl⟩ entry_list_sort ?body (args_list_sort _)))
 case body=>
  refine Qp (A:=A.in1.in1) (s:={ s with heap:=h1.push (seqObj "list" (as.map Value.ref).toArray 0),toks:=tk }) (ltAt L) hD szl (λh2 Q hq=>?_) (λi j C hi hj hq=>?_) ?_
  ·obtain⟨fs,f1,f2,f3⟩:=Cg (h:=iI (h1.push (seqObj "list" (as.map Value.ref).toArray 0)) h1.objs.size (as.map Value.ref)) as λc hc=>by
    obtain⟨j,hj⟩:=eC.mp hc
    obtain⟨_,_,p,_,e⟩:=pr j c hj
    exact⟨p,e _ kS⟩
   refine kat_kind (T:=.type "tuple") f2 (by rw[f1];simp at h2;omega) (λv hv=>?_) (by decide) hq
   obtain⟨b,o,rfl,e1,e2⟩:=f3 v hv
   rw[← e2]
   exact(W.Looks.ld e1).andThen .now
  ·rw[ba] at hi hj
   obtain⟨_,_,p,hp,e1⟩:=pr i as[i] (ai hi)
   obtain⟨_,_,q',LN,e2⟩:=pr j as[j] (ai hj)
   have g1:(as.map Value.ref).getD i Value.none=.ref as[i]:=by simp[hi]
   have g2:(as.map Value.ref).getD j Value.none=.ref as[j]:=by simp[hj]
   unfold kas_ask
   rw[g1,g2]
   unfold ltAt at hq
   rw[hp,LN] at hq
   exact Qo (by rw[in1_units,in1_units];omega) (e1 _ kS) (e2 _ kS) hq
  ·refine⟨_,rfl,ae ⟨_,rfl,?_⟩⟩
   have old:∀b o,b < h1.objs.size->h1.get? b=some o->(sortedHeap (h1.push (seqObj "list" (as.map Value.ref).toArray 0)) h1.objs.size (as.map Value.ref) (jP (ltAt L) (as.map Value.ref)).toArray).get? b=some o:=λb o hb e=>by
    rw[sortedHeap_old (bg hb) (bi hb (by rw[size_push'];exact ip _))]
    exact ac _ e
   obtain⟨e,he⟩:=sortedHeap_at (out:=(jP (ltAt L) (as.map Value.ref)).toArray) hD
   refine q _ tk h1.objs.size e as (gI sz1) (λb o eb=>old b o (av (k1 b o eb)) (k1 b o eb)) IZ (λc hc=>?_) (λj c hj=>?_) ?_
   ·obtain⟨j,hj⟩:=eC.mp hc
    obtain⟨a1,a2,_⟩:=pr j c hj
    exact⟨gI a2,bg a1⟩
   ·obtain⟨e0,k,b,v,e1,e2⟩:=hG j c hj
    exact⟨e0,k,b,v,e1,old c _ (av e2) e2⟩
   ·rw[he]
    have eo:jP (ltAt L) (as.map Value.ref)=(my (ltAt L) L.length).map λi=>Value.ref (as.getD i 0):=by
     unfold jP
     rw[hvl,hlen]
     refine bE λi hi=>?_
     have LS:i < as.length:=by
      have:=(lq _ _).mem_iff.mp hi
      rw[b0] at this
      omega
     simp[LS]
    rw[eo]
end
noncomputable def tD (L:List ((Int×Str)×Int)):List ((Int×Str)×Int):=(my (ltAt L) L.length).map λi=>L.getD i ((0, ""),0)
theorem w6 (L:List ((Int×Str)×Int)):(tD L).Perm L:=by
 unfold tD
 have h:=(lq (ltAt L) L.length).map λi=>L.getD i ((0, ""),0)
 have e:(List.range L.length).map (λi=>L.getD i ((0, ""),0))=L:=by
  apply List.ext_getElem
  ·simp
  ·intro i h1 h2
   simp[h2]
 rw[e] at h
 exact h
def DM (p a:Addr)(h:Heap):Prop:=h.get? p=some { cls:=.type "dict_items",data:=.fields #[.ref a] }
noncomputable def kI (p:(Int×Str)×Int):List zD×V:=([.k (.inl p.1.1),.k (.inr p.1.2)],.int p.2)
def vR (K:W.Frag)(H:Hp)(p:(Int×Str)×Int)(v:V):Prop:=∃c b,v=.ref c/\H c=some (.tup [.ref b,.int p.2])/\(H b=some (.tup [.int p.1.1,.str p.1.2])\/EV K b [.int p.1.1,.str p.1.2])
section
variable {X:Cx}{zC:p9}{σ:St}{H:Hp}{s:Shared}{apos AG:Pos}{td:TE}{o:Expr}
def Qq (td:TE):TE:=fun σ H Q=>td σ H λx H1=>∃a kvs,x=.ref a/\Rd H1 a (.dT kvs)/\∀p,H1 p=none->Q (.ref p) (upd H1 p (.ext (DM p a)))
theorem Je (ho:PE X o td)(BO:attributeBase o "items" X.env (eval o X.env)=eval o X.env:=by rfl)(BQ:(apos.endLine == AG.line)=true:=by rfl):
  PE X (.Call (.Attribute o "items" apos) [] [] AG) (Qq td):=by
 intro zC s σ H Q I h
 refine wpAny_Call_method (T := "dict") (id := "dict.items") BO rfl BQ F.plainAttrs_dict F.slot_dict_items F.type_dict_items (AM (ho zC s σ H _ I h) ?_)
 rintro u s1 ⟨x,H1,I1,rx,a,kvs,ex,hq,q⟩
 subst ex
 cases (show u=Value.ref a from rx)
 obtain⟨t1,t2,_⟩:=FT I1 (.inr ⟨kvs,hq⟩)
 refine⟨t1,t2,?_⟩
 obtain⟨_,hd,xs,rel,dd⟩:=yO I1.B8 I1.AK hq
 have at':DM s1.heap.objs.size a (s1.heap.push { cls:=.type "dict_items",data:=.fields #[.ref a] }):=ar _ rfl
 have I2:Inv X zC σ (upd H1 s1.heap.objs.size (.ext (DM s1.heap.objs.size a))) { s1 with heap:=s1.heap.push { cls:=.type "dict_items",data:=.fields #[.ref a] },toks:=s1.toks }:=
  I1.laid (λb o e=>ac _ e) (aE _) ⟨at',⟨_,at'⟩,λh1 h2 e k=>k _ e⟩
 refine method_meetsIn F.slot_dict_items F.entry_dict_items rfl (PySem.evalArgs_none ⟨rfl,t1,F.args_dict_items_1 _,_,zb (cY X.prog X.w) a hd,⟨xs,dd⟩,?_⟩)
 exact⟨.ref s1.heap.objs.size,_,I2,rfl,q _ (I1.AK.fresh (aE _))⟩
theorem Qs {K:W.Frag}{h:Heap}{b:Addr}{p:Int×Str}{P:Program}{w:World}(ED:K.In h)(ok:CY P w K H h)(c:Cc K H b [.k (.inl p.1),.k (.inr p.2)]):(H b=some (.tup [.int p.1,.str p.2])\/EV K b [.int p.1,.str p.2])/\MQ h p b:=by
 have kt:∀vs,GB K H [.k (.inl p.1),.k (.inr p.2)] vs->vs=[.int p.1,.str p.2]:=λvs k=>by
  rcases k with k | ⟨x,b,e,_⟩
  ·cases k with
   | cons a k=>cases k with
    | cons b k=>
     cases k
     rcases a with ⟨x,e,rfl⟩ | ⟨ns,_,_,e,_⟩
     ·cases e
      rcases b with ⟨y,e,rfl⟩ | ⟨ns,_,_,e,_⟩
      ·cases e;rfl
      ·exact(zD.OM e.symm).elim
     ·exact(zD.OM e.symm).elim
  ·cases e
 have v2:∀us:List Value,Vals [.int p.1,.str p.2] us->∃t u,us=[.int p.1 t,.str p.2 u]:=λus r=>by
  cases r with
  | cons a r=>cases r with
   | cons b r=>
    cases r
    obtain⟨t,rfl⟩:=a
    obtain⟨u,rfl⟩:=b
    exact⟨t,u,rfl⟩
 rcases c with ⟨vs,e,k⟩ | ⟨vs,e,k⟩
 ·cases kt vs k
  refine⟨.inl e,?_⟩
  obtain⟨_,As,r,it⟩:=(show AF P w K H h b (.tup [.int p.1,.str p.2]) from ok b _ e)
  have it:=it.tup
  obtain⟨t,u,rfl⟩:=v2 _ r
  exact⟨t,u,it⟩
 ·cases kt vs k
  refine⟨.inr e,?_⟩
  obtain⟨o,As,n,e1,e2,e3,_,r⟩:=e
  obtain⟨t,u,eu⟩:=v2 _ r
  refine⟨t,u,o,ED b o e1,e2,n,?_⟩
  rw[e3]
  congr 1
  exact Array.toList_inj.mp eu
noncomputable def PF (o:Obj):List V:=match o.data with
 | .seq As _=>As.toList.filterMap N8
 | _=>[]
theorem Ed (hc:X.calm=true)(hu:X.A.units+9 < cLine):A7 X (.builtin "sorted") (λxs H Q=>∃p a L,xs=[.ref p]/\H p=some (.ext (DM p a))/\Rd H a (.dT (L.map kI))/\L.length < 64 /\
  ∀H2 l vs,zS H H2->H l=none->H2 l=none->Paired (vR X.K H2) (tD L) vs->Q (.ref l) (upd H2 l (.lst vs))):=by
 intro zC s σ H xs us Q I r h
 obtain⟨p,a,L,rfl,hp,ha,Vo,q⟩:=h
 obtain⟨u,rfl,ru⟩:=Vals.one r
 cases (show u=Value.ref p from ru)
 have vw:DM p a s.heap:=(show AF X.prog X.w X.K H s.heap p (.ext (DM p a)) from I.AK p _ hp).1
 obtain⟨_,hd,ys,rel,dd⟩:=yO I.B8 I.AK ha
 have hlen:L.length=ys.length:=by rw[← iq rel,ba]
 have at':∀(j:Nat) (k:List zD) (b:Addr) (v:Value),ys[j]?=some (k,b,v)->∃p:(Int×Str)×Int,L[j]?=some p/\(H b=some (.tup [.int p.1.1,.str p.1.2])\/EV X.K b [.int p.1.1,.str p.1.2])/\MQ s.heap p.1 b/\∃t,v=Value.int p.2 t:=λj k b v e=>by
  obtain⟨⟨k',v'⟩,e1,e2,e3,e4⟩:=lM rel e
  rw[cm] at e1
  obtain⟨p,hp,ep⟩:=bX.mp e1
  cases ep
  obtain⟨g1,g2⟩:=Qs I.B8 I.AK e3
  exact⟨p,hp,g1,g2,e4⟩
 refine Lz (kd:=cY X.prog X.w) L (I.ok.hd hc) hu ⟨_,vw,rfl,rfl⟩ dd (λh h' k x b e=>?_) hlen (by omega) (λj k b v e=>let ⟨p,h1,_,h3⟩:=at' j k b v e;⟨p,h1,h3⟩) λh' tk D e as hD kp IZ has lie hL=>?_
 ·obtain⟨o,As,n,h1,h2,h3,r⟩:=e
  have go:∀(n:Nat) (x:zD) (v:Value),Co n h x v->Co n h' x v:=by
   intro n
   induction n with
   | zero=>exact λ_ _ z=>z
   | succ n ih=>exact λx v z=>z.imp id λ⟨ns,a,e,ev,o,As,m,h1,h2,h3,p⟩=>⟨ns,a,e,ev,o,As,m,k a o h1 h2,h2,h3,eQ p ih⟩
  exact⟨o,As,n,k b o h1 h2,h2,h3,eQ r (go 2)⟩
 ·have new:∀c,s.heap.objs.size<=c->H c=none:=λc hc=>I.AK.fresh hc
  have old:∀b o,s.heap.get? b=some o->b≠D/\b∉as:=λb o e=>⟨bg (bi (av e) hD),λhb=>absurd (av e) (Nat.not_lt.mpr (has b hb).1)⟩
  have tp:∀(j:Nat) (c:Addr),as[j]?=some c->∃(p:(Int×Str)×Int) (b:Addr) (t:Tok),L[j]?=some p/\(H b=some (.tup [.int p.1.1,.str p.1.2])\/EV X.K b [.int p.1.1,.str p.1.2])/\h'.get? c=some { cls:=.type "tuple",data:=.seq #[.ref b,.int p.2 t] }:=λj c hj=>by
   obtain⟨_,k,b,v,e1,e2⟩:=lie j c hj
   obtain⟨p,h1,h2,_,t,rfl⟩:=at' j k b v e1
   exact⟨p,b,t,h1,h2,e2⟩
  have HTd:∃HT:Hp,(∀c,c∉as->HT c=H c)/\∀(j:Nat) (c:Addr),as[j]?=some c->∀(p:(Int×Str)×Int) (b:Addr) (t:Tok),h'.get? c=some { cls:=.type "tuple",data:=.seq #[.ref b,.int p.2 t] }->HT c=some (.tup [.ref b,.int p.2]):=by
   refine⟨λc=>if c∈as then some (.tup (PF ((h'.get? c).getD { cls:=.none,data:=.fields #[] }))) else H c,λc hc=>ax hc,λj c hj p b t e=>?_⟩
   show (if c∈as then _ else _)=_
   rw[a0 (dn hj),e]
   rfl
  obtain⟨HT,t1,t2⟩:=HTd
  have sm:zS H HT:=λb o e=>by rw[t1 b λhb=>by rw[new b (has b hb).1] at e;cases e];exact e
  have fD:HT D=none:=by rw[t1 D λhb=>(has D hb).2 rfl];exact new D hD
  have out:∃vs:List V,Paired (vR X.K HT) (tD L) vs/\Vals vs ((my (ltAt L) L.length).map λi=>Value.ref (as.getD i 0))/\vs.length=L.length:=by
   refine⟨(my (ltAt L) L.length).map λi=>V.ref (as.getD i 0),?_,?_,?_⟩
   ·unfold tD
    have go:∀l:List Nat,(∀i∈l,i < L.length)->Paired (vR X.K HT) (l.map λi=>L.getD i ((0, ""),0)) (l.map λi=>V.ref (as.getD i 0)):=by
     intro l
     induction l with
     | nil=>exact λ_=>.nil
     | cons i l ih=>
      intro hl
      refine .cons ?_ (ih λj hj=>hl j (af _ hj))
      have hi:i < L.length:=hl i am
      have LS:i < as.length:=by omega
      obtain⟨p,b,t,h1,h2,h3⟩:=tp i as[i] (ai LS)
      have eL:L.getD i ((0, ""),0)=p:=by rw[bb,h1];rfl
      have eA:as.getD i 0=as[i]:=by simp[LS]
      show vR X.K HT (L.getD i ((0, ""),0)) (V.ref (as.getD i 0))
      rw[eL,eA]
      exact⟨as[i],b,rfl,t2 i _ (ai LS) p b t h3,h2.imp (λz=>sm _ _ z) id⟩
    exact go _ λi hi=>by
     have:=(lq _ _).mem_iff.mp hi
     exact b0.mp this
   ·have go:∀l:List Nat,Vals (l.map λi=>V.ref (as.getD i 0)) (l.map λi=>Value.ref (as.getD i 0)):=by
     intro l
     induction l with
     | nil=>exact .nil
     | cons i l ih=>exact .cons rfl ih
    exact go _
   ·rw[ba,(lq _ _).length_eq,fb]
  obtain⟨vs,p1,p2,p3⟩:=out
  refine⟨.ref D,upd HT D (.lst vs),I.step (g':=s.gens) (d':=s.drawn) (ch:=[]) (λ_ z=>nomatch z) (λb o _ _ _ e _=>kp b o e) (λb o _ _ _ e _=>⟨o.slots,kp b o e⟩)
   (λb o _ e z=>?_) (λb o _ e=>⟨o,kp b o e⟩) (λb xs z=>?_) (λb o u z=>?_) (λb ps z=>⟨#[],?_⟩) (λm ⟨o,es,ep,ho,r⟩=>⟨o,es,ep,kp _ _ ho,r⟩) (λb u z=>?_) I.bare,rfl,q HT D vs sm (new D hD) fD p1⟩
  ·rw[ao (old b o e).1,t1 b (old b o e).2];exact z
  ·rw[ao (aq z (new D hD))];exact sm _ _ z
  ·rw[ao (aq z (new D hD))];exact sm _ _ z
  ·rw[ao (aq z (new D hD)),sm _ _ z];simp
  ·by_cases hb:b=D
   ·rw[hb,az] at z
    cases z
    rw[hb]
    exact⟨by rw[p3,iF];omega,_,e,p2,hL⟩
   ·rw[ao hb] at z
    by_cases hb2:b∈as
    ·obtain⟨j,hj⟩:=eC.mp hb2
     obtain⟨p,c,t,_,_,h3⟩:=tp j b hj
     rw[t2 j b hj p c t h3] at z
     cases z
     exact⟨by show (2:Nat)<=sizeLine;decide,[.ref c,.int p.2 t],.cons rfl (.cons ⟨t,rfl⟩ .nil),_,h3,rfl,0,rfl,rfl⟩
    ·rw[t1 b hb2] at z
     exact(I.AK b u z).HK (λa v _ w=>kp a v w) (λa w=>by rw[ao (aq w (new D hD))];exact sm _ _ w) λa xs w=>by rw[ao (aq w (new D hD))];exact sm _ _ w
end
end Lake.L2
namespace Lake.MR
open PySem L2
noncomputable def vU:List (List zD×PV)->Option (List ((Int×Str)×Int))
 | []=>some []
 | ([.k (.inl i),.k (.inr x)],.int n)::r=>(vU r).bind λl=>some (((i,x),n)::l)
 | _=>none
noncomputable def JE (p:(Int×Str)×Int):PV:=.tup [.tup [.int p.1.1,.str p.1.2],.int p.2]
@[simp] noncomputable def zx:PV->Option PV
 | .dT kvs=>(vU kvs).bind λL=>if L.length < 64 then some (.lst ((tD L).map JE)) else none
 | _=>none
theorem zy {C:MC}{A:Addr->Prop}{H:Hp}:∀{kv:List (List zD×V)}{kvs:List (List zD×PV)}{L:List ((Int×Str)×Int)},AN C A H kv kvs->vU kvs=some L->kv=L.map kI
 | _,_,_,.nil,e=>by cases e;rfl
 | _,_,_,.cons (k:=k) (v:=v) (p:=p) r t,e=>by
  unfold vU at e
  split at e
  ·rename_i h;cases h
  ·rename_i h
   cases h
   obtain⟨l,hl,e⟩:=al.mp e
   cases e
   cases r
   rw[zy t hl]
   rfl
  ·cases e
variable {C:MC}{H:Hp}
section
variable {X:Cx}{b:BX}{G:qc}{apos AG p pos:Pos}{m:Md}{e:Expr}{f:qB}
theorem Jf {A:Addr->Prop}{p:(Int×Str)×Int}{v:V}(h:vR C.K H p v):Rep C A H v (JE p):=by
 obtain⟨c,b,rfl,h1,h2⟩:=h
 refine .tup h1 (.cons ?_ (.cons (.int _) .nil))
 have r:zI C A H [.int p.1.1,.str p.1.2] [.int p.1.1,.str p.1.2]:=.cons (.int _) (.cons (.str _) .nil)
 rcases h2 with h2 | h2
 ·exact .tup h2 r
 ·exact .Cf h2 r
theorem xf {C:MC}{A:Addr->Prop}{H:Hp}:∀{L:List ((Int×Str)×Int)}{vs:List V},Paired (vR C.K H) L vs->zI C A H vs (L.map JE)
 | _,_,.nil=>.nil
 | _,_,.cons h t=>.cons (Jf h) (xf t)
theorem Jg {k:Nat}(hr:AR k X.A)(hm:X.mg "sorted" = none)(h:SE X b G m e f)(Zh:X.calm=true:=by rfl)(hK:X.K=b.C.K:=by rfl)(hg:Gl X "sorted" := by rfl)(BO:attributeBase e "items" X.env (eval e X.env)=eval e X.env:=by rfl)(BQ:(apos.endLine == AG.line)=true:=by rfl)
  (hs:starEach [.Call (.Attribute e "items" apos) [] [] AG] X.env=(false,eval (.Call (.Attribute e "items" apos) [] [] AG) X.env)::starEach [] X.env:=by rfl) (A8:(backTo pos (starEach [] X.env)).any (·.1)=false:=by rfl):
  SE X b G .own (.Call (.Name "sorted" p) [.Call (.Attribute e "items" apos) [] [] AG] [] pos) (b1 zx f):=by
 refine PE.imp (dC (Ed Zh (dh hr)) hg hm PyProof.Rows.boot_sorted (aB (Je h.bor BO BQ) aN hs) (by decide) (by decide) hs A8) ?_
 rintro σ H Q ⟨Ow,env,q,E,hf,k⟩
 obtain⟨x,hx,hf⟩:=aA hf
 unfold zx at hf
 split at hf
 ·rename_i kvs
  obtain⟨L,hL,hf⟩:=al.mp hf
  split at hf
  ·rename_i Vo
   cases hf
   refine⟨Ow,env,_,E,hx,λv H1 s r=>?_⟩
   have r1:Ap b.C (Bs b Ow) H1 v (.dT kvs):=r
   obtain⟨a,kv,rfl,ha,ra⟩:=r1.dT
   have ek:=zy ra hL
   subst ek
   refine⟨a,_,rfl,.inl ha,λp hp=>?_⟩
   have nap:a≠p:=aq ha hp
   have s1:=aL hp (.ext (DM p a))
   refine⟨p,a,L,rfl,az,.inl (s1 _ _ ha),Vo,λH2 l vs s2 hl RO pr=>?_⟩
   have PU:H1 l=none:=s1.free hl
   refine k _ _ (((s.trans s1).trans s2).over (s.free PU) _) ⟨l,rfl,s.free PU,vs,az,?_⟩
   rw[hK] at pr
   exact(xf (A:=λ_=>False) pr).ex λc o e=>⟨λz=>z.elim,λ_=>by rw[ao (aq e RO)];exact e⟩
  ·cases hf
 ·cases hf
end
structure WS where
 B4:List (List zD×PV)
 most:Int
 fin:PV
 CB:List PV
 nums:List (List zD×PV)
 D8:List (Key×PV)
structure WC where
 n:Nat
 a:Addr
 dx:Addr
 ah:Addr
 lp:Addr
 ln:Addr
 lo:Addr
 fin:V
noncomputable def WC.fs (c:WC)(m:Int):List (Str×V):=[("ahead",.ref c.ah),("most",.int m),("end",c.fin),("places",.ref c.lp),("numbers",.ref c.ln),("onward",.ref c.lo)]
structure WR (C:MC)(F:Addr->Prop)(H:Hp)(c:WC)(w:WS):Prop where
 ob:H c.a=some (.ins (C.cl c.n) c.dx (c.fs w.most))
 ah:∃kv,H c.ah=some (.dT kv)/\AN C F H kv w.B4
 fn:Rep C F H c.fin w.fin
 lp:∃vs,H c.lp=some (.lst vs)/\zI C F H vs w.CB
 ln:∃kv,H c.ln=some (.dT kv)/\AN C F H kv w.nums
 lo:∃kv,H c.lo=some (.dK kv)/\AJ C F H kv w.D8
 ne:c.ah≠c.ln
 dm:∀b,F b->∃o,H b=some o
 nF:¬ F c.a/\¬ F c.ah/\¬ F c.lp/\¬ F c.ln/\¬ F c.lo
structure WT (K:W.Frag)(Cl:Addr):Prop where
 cl:II K Cl
 PY:AV K Cl "ahead"
 US:AV K Cl "most"
 Ww:AV K Cl "end"
 DZ:AV K Cl "places"
 Ct:AV K Cl "numbers"
 Iq:AV K Cl "onward"
section
variable {C:MC}{F F':Addr->Prop}{H H':Hp}{c:WC}{w:WS}
theorem WR.ex (W:WR C F H c w)(e:Ex F H F' H')(k:∀b o,(b=c.a\/b=c.ah\/b=c.lp\/b=c.ln\/b=c.lo)->H b=some o->H' b=some o)(dm:∀b,F' b->∃o,H' b=some o)(n:¬ F' c.a/\¬ F' c.ah/\¬ F' c.lp/\¬ F' c.ln/\¬ F' c.lo):WR C F' H' c w where
 ob:=k _ _ (.inl rfl) W.ob
 ah:=let ⟨kv,h,r⟩:=W.ah;⟨kv,k _ _ (.inr (.inl rfl)) h,r.ex e⟩
 fn:=W.fn.ex e
 lp:=let ⟨kv,h,r⟩:=W.lp;⟨kv,k _ _ (.inr (.inr (.inl rfl))) h,r.ex e⟩
 ln:=let ⟨kv,h,r⟩:=W.ln;⟨kv,k _ _ (.inr (.inr (.inr (.inl rfl)))) h,r.ex e⟩
 lo:=let ⟨kv,h,r⟩:=W.lo;⟨kv,k _ _ (.inr (.inr (.inr (.inr rfl)))) h,r.ex e⟩
 ne:=W.ne
 dm:=dm
 nF:=n
theorem WR.same (W:WR C F H c w)(s:zS H H'):WR C F H' c w:=W.ex (.of_same s) (λb o _ e=>s b o e) (λb f=>let ⟨o,e⟩:=W.dm b f;⟨o,s b o e⟩) W.nF
noncomputable def WS.pv (w:WS)(n:Nat):PV:=.obj n [("ahead",.dT w.B4),("most",.int w.most),("end",w.fin),("places",.lst w.CB),("numbers",.dT w.nums),("onward",.dK w.D8)]
theorem WR.rep (W:WR C F H c w):Rep C (λb=>F b\/b=c.a\/b=c.ah\/b=c.lp\/b=c.ln\/b=c.lo) H (.ref c.a) (w.pv c.n):=by
 have e:Ex F H (λb=>F b\/b=c.a\/b=c.ah\/b=c.lp\/b=c.ln\/b=c.lo) H:=aV λ_ _ _ z=>.inl z
 obtain⟨k1,h1,r1⟩:=W.ah
 obtain⟨k2,h2,r2⟩:=W.lp
 obtain⟨k3,h3,r3⟩:=W.ln
 obtain⟨k4,h4,r4⟩:=W.lo
 exact .obj W.ob (.inr (.inl rfl)) (.cons (.dT h1 (.inr (.inr (.inl rfl))) (r1.ex e)) (.cons (.int _) (.cons (W.fn.ex e) (.cons (.lst h2 (.inr (.inr (.inr (.inl rfl)))) (r2.ex e)) (.cons (.dT h3 (.inr (.inr (.inr (.inr (.inl rfl))))) (r3.ex e)) (.cons (.dK h4 (.inr (.inr (.inr (.inr (.inr rfl))))) (r4.ex e)) .nil))))))
end
noncomputable def tE (w:WS)(p:PV):Option (Int×WS):=match p with
 | .tup xs=>(AD xs).bind λk=>match aJ w.nums k with
  | some (.int n)=>some (n,w)
  | none=>if w.CB.length < 1000000/\w.nums.length < 1000000 then some ((w.CB.length:Nat),{ w with nums:=bD w.nums k (.int (w.CB.length:Nat)),CB:=w.CB++[.tup xs] }) else none
  | _=>none
 | _=>none
def Kept (c:WC)(F:Addr->Prop)(H H':Hp):Prop:=∀b o,H b=some o->b≠c.lp->b≠c.ln->b≠c.lo->H' b=some o
def q8 (C:MC):Sp:=λvs H Q _=>∃F c w v p n w',vs=[.ref c.a,v]/\WT C.K (C.cl c.n)/\WR C F H c w/\Rep C F H v p/\tE w p=some (n,w')/\∀H',Kept c F H H'->WR C F H' c w'->Q (.int n) H'
variable {vs:List V}{Q:VK}
theorem GD {E:XK}(h:q8 C vs H Q E):vs.length=2:=by
 obtain⟨F,c,w,v,p,n,w',e,_⟩:=h
 rw[e];rfl
abbrev zz (K:PySem.W.Frag):List V->Hp->VK->Prop:=λxs H Q=>∃p ys,xs=[.ref p]/\(A0 K H p ys\/B6 K H p ys)/\Q (.int ys.length) H
def Jh (K:W.Frag):TS:=
 cu (lW (tB (jg K (aG 1) (je K (aG 0) "numbers")))
   (cu (jW K (je K (aG 0) "numbers") (aG 1) (LO (zz K) (aO (je K (aG 0) "places") bx)))
    (ul (Vn K "list" vJ (je K (aG 0) "places") (aO (aG 1) bx))))
   jx)
  (jd (qM K (je K (aG 0) "numbers") (aG 1)))
theorem LC {E:XK}(h:q8 C vs H Q E):Jh C.K { nx:=λ_ H'=>Q .Au H',rt:=Q } (L2.start ["self","place"] vs) H:=by
 obtain⟨F,c,w,v,p,n,w',rfl,T,W,rp,hn,q⟩:=h
 obtain⟨kn,JI,rn⟩:=W.ln
 obtain⟨pl,MS,rl⟩:=W.lp
 cases p <;> first | (cases hn;done) | skip
 rename_i xs
 obtain⟨k,hk,hn⟩:=al.mp (show ((AD xs).bind _)=_ from hn)
 obtain⟨b,us,rfl,hb,rb⟩:=Ap.tup (.inl rp)
 have ck:Cc C.K H b k:=hb.key (rb.AD hk)
 have e0:(L2.start ["self","place"] [V.ref c.a,V.ref b])[0]?=some (some (.ref c.a)):=rfl
 have e1:(L2.start ["self","place"] [V.ref c.a,V.ref b])[1]?=some (some (.ref b)):=rfl
 have fld:∀(f:Str) (x:V) (H1:Hp),AV C.K (C.cl c.n) f->(c.fs w.most).lookup f=some x->H1 c.a=some (.ins (C.cl c.n) c.dx (c.fs w.most))->∀R:VK,R x H1->je C.K (aG 0) f (L2.start ["self","place"] [V.ref c.a,V.ref b]) H1 R:=λf x H1 na lk ho R r=>⟨_,e0,c.a,_,_,_,x,rfl,ho,T.cl,na,lk,r⟩
 unfold Jh
 dsimp only [cu,lW,tB,jg,jW,LO,ul,Vn,jd,qM,jx,aO,bx]
 refine⟨_,e1,fld "numbers" _ _ T.Ct rfl W.ob _ ⟨c.ln,_,rfl,A5.t JI ck,_,rfl,?_⟩⟩
 rcases AN.val (k:=k) rn with ⟨y,py,g1,g2,ry⟩ | ⟨g1,g2⟩
 ·have KW:(match aJ w.nums k with | some (.int n)=>some (n,w) | none=>if w.CB.length < 1000000/\w.nums.length < 1000000 then some (((w.CB.length:Nat):Int),{ w with nums:=bD w.nums k (.int (w.CB.length:Nat)),CB:=w.CB++[.tup xs] }) else none | _=>none)=some (n,w'):=hn
  have eL:aJ w.nums k=some py:=g2
  rw[eL] at KW
  cases py <;> first | (cases KW;done) | skip
  cases KW
  cases ry
  rw[g1]
  refine lY ?_
  refine fld "numbers" _ _ T.Ct rfl W.ob _ ?_
  refine⟨_,e1,c.ln,_,rfl,by rw[← g1];exact A5.t JI ck,?_⟩
  exact q H (λb o e _ _ _=>e) W
 ·have KW:(match aJ w.nums k with | some (.int n)=>some (n,w) | none=>if w.CB.length < 1000000/\w.nums.length < 1000000 then some (((w.CB.length:Nat):Int),{ w with nums:=bD w.nums k (.int (w.CB.length:Nat)),CB:=w.CB++[.tup xs] }) else none | _=>none)=some (n,w'):=hn
  have eL:aJ w.nums k=none:=g2
  rw[eL] at KW
  dsimp only at KW
  split at KW
  ·rename_i hz
   cases KW
   rw[g1]
   refine jh ?_
   have lpl:pl.length=w.CB.length:=rl.length
   have nlp:c.lp≠c.ln:=bN MS JI (λz=>nomatch z)
   have Zi:c.a≠c.ln:=bN W.ob JI (λz=>nomatch z)
   have nap:c.a≠c.lp:=bN W.ob MS (λz=>nomatch z)
   refine fld "places" _ _ T.DZ rfl W.ob _ ?_
   refine⟨c.lp,pl,rfl,.inl (A0.of MS),?_⟩
   refine fld "numbers" _ _ T.Ct rfl W.ob _ ?_
   refine⟨_,e1,c.ln,_,rfl,Fs.t JI ck (bY (by rw[rn.length];omega)),?_⟩
   have W1:upd H c.ln (.dT (putK kn k (.int (pl.length:Nat)))) c.a=some (.ins (C.cl c.n) c.dx (c.fs w.most)):=by rw[ao Zi];exact W.ob
   have P1:upd H c.ln (.dT (putK kn k (.int (pl.length:Nat)))) c.lp=some (.lst pl):=by rw[ao nlp];exact MS
   refine fld "places" _ _ T.DZ rfl W1 _ ?_
   refine⟨.inl ⟨rfl,pl,A0.of P1⟩,_,e1,c.lp,pl,.ref b,rfl,rfl,P1,bY (by omega),?_⟩
   have W2:upd (upd H c.ln (.dT (putK kn k (.int (pl.length:Nat))))) c.lp (.lst (pl++[.ref b])) c.a=some (.ins (C.cl c.n) c.dx (c.fs w.most)):=by rw[ao nap];exact W1
   refine fld "numbers" _ _ T.Ct rfl W2 _ ?_
   have L2:upd (upd H c.ln (.dT (putK kn k (.int (pl.length:Nat))))) c.lp (.lst (pl++[.ref b])) c.ln=some (.dT (putK kn k (.int (pl.length:Nat)))):=by rw[ao nlp.symm,az]
   have kp:∀x o,H x=some o->x≠c.lp->x≠c.ln->upd (upd H c.ln (.dT (putK kn k (.int (pl.length:Nat))))) c.lp (.lst (pl++[.ref b])) x=some o:=λx o e n1 n2=>by rw[ao n1,ao n2];exact e
   have ex:Ex F H F (upd (upd H c.ln (.dT (putK kn k (.int (pl.length:Nat))))) c.lp (.lst (pl++[.ref b]))):=λx o e=>⟨λf=>⟨kp x o e (λz=>W.nF.2.2.1 (z▸f)) (λz=>W.nF.2.2.2.1 (z▸f)),f⟩,λm=>kp x o e (λz=>by rw[z,MS] at e;cases e;cases m) λz=>by rw[z,JI] at e;cases e;cases m⟩
   have Zj:Cc C.K _ b k:=ck.keeps (H':=upd (upd H c.ln (.dT (putK kn k (.int (pl.length:Nat))))) c.lp (.lst (pl++[.ref b]))) λx ys e=>(ex x _ e).2 rfl
   have g3:cz (putK kn k (.int (pl.length:Nat))) k=some (.int (pl.length:Nat)):=by rw[yM,a0 rfl]
   refine⟨_,e1,c.ln,_,rfl,by rw[← g3];exact A5.t L2 Zj,?_⟩
   rw[lpl] at *
   obtain⟨ka,ha,ra⟩:=W.ah
   obtain⟨ko,ho,ro⟩:=W.lo
   refine q _ (λx o e n1 n2 _=>kp x o e n1 n2) ⟨W2,⟨ka,kp _ _ ha (bN ha MS (λz=>nomatch z)) W.ne,ra.ex ex⟩,W.fn.ex ex,⟨_,az,(rl.ex ex).append (.cons (rp.ex ex) .nil)⟩,⟨_,L2,AN.put (.int _) (rn.ex ex)⟩,⟨ko,kp _ _ ho (bN ho MS (λz=>nomatch z)) (bN ho JI (λz=>nomatch z)),ro.ex ex⟩,W.ne,λx f=>(let ⟨o,e⟩:=W.dm x f;⟨o,((ex x o e).1 f).1⟩),W.nF⟩
  ·cases KW
section
variable {C:MC}{A F:Addr->Prop}{H:Hp}
theorem zA {f:PV->Option zD}(hf:∀v p k,Rep C A H v p->f p=some k->Rep C F H v p):∀{vs:List V}{ps:List PV}{ks:List zD},zI C A H vs ps->qd f ps=some ks->zI C F H vs ps
 | _,_,_,.nil,_=>.nil
 | _,_,_,.cons (p:=p) (ps:=ps) h t,e=>by
  unfold qd at e
  obtain⟨k,hk,e⟩:=al.mp e
  obtain⟨ks,YY,e⟩:=al.mp e
  exact .cons (hf _ _ _ h hk) (zA hf t YY)
theorem lu {f:PV->Option zD}(hf:∀v p k,Rep C A H v p->f p=some k->Rep C F H v p){ps:List PV}{ks:List zD}(r:zI C A H vs ps)(e:ig f ps=some ks):zI C F H vs ps:=by
 unfold ig at e
 split at e
 ·cases r with
  | cons h1 t=>cases t with
   | cons h2 t=>cases t;cases h1;cases h2;exact .cons (.str _) (.cons (.bl _) .nil)
 ·exact zA hf r e
theorem zB (v:V)(p:PV)(k:zD)(r:Rep C A H v p)(e:Dv p=some k):Rep C F H v p:=by
 cases r with
 | int i=>exact .int i
 | str x=>exact .str x
 | _=>cases e
theorem oM {f:PV->Option zD}(hf:∀v p k,Rep C A H v p->f p=some k->Rep C F H v p)(v:V)(p:PV)(k:zD)(r:Rep C A H v p)(e:Dw f p=some k):Rep C F H v p:=by
 cases r with
 | tup h q=>
  obtain⟨ks,hk,e⟩:=bX.mp (show (ig f _).map zD.tp=some k from e)
  exact .tup h (lu hf q hk)
 | Cf h q=>
  obtain⟨ks,hk,e⟩:=bX.mp (show (ig f _).map zD.tp=some k from e)
  exact .Cf h (lu hf q hk)
 | tupK h q=>
  obtain⟨ks,hk,e⟩:=bX.mp (show (ig f _).map zD.tp=some k from e)
  exact .tupK h (lu hf q hk)
 | int i=>exact .int i
 | str x=>exact .str x
 | _=>cases e
theorem Ci {v:V}{xs:List PV}{ks:List zD}(r:Rep C A H v (.tup xs))(e:AD xs=some ks):Rep C F H v (.tup xs):=by
 cases r with
 | tup h q=>exact .tup h (lu (oM (oM zB)) q e)
 | Cf h q=>exact .Cf h (lu (oM (oM zB)) q e)
end
noncomputable def GS (pb:List PV->Option PV)(cn:Nat)(num:Int):List PV->WS->Option (List PV×WS)
 | [],w=>some ([],w)
 | s::S,w=>(pb [w.pv cn,.int num,s]).bind λp=>(tE w p).bind λr=>(GS pb cn num S r.2).bind λq=>some (.int r.1::q.1,q.2)
noncomputable def tG (pb:List PV->Option PV)(cn:Nat)(S:List PV)(w:WS)(num:Int):Option (PV×WS):=match aJ w.D8 (.inl num) with
 | some l=>some (l,w)
 | none=>(GS pb cn num S w).bind λr=>if r.2.D8.length < 1000000/\r.1.length < 1000000 then some (.lst r.1,{ r.2 with D8:=bD r.2.D8 (.inl num) (.lst r.1) }) else none
def FV (F F':Addr->Prop)(H:Hp):Prop:=(∀b,F b->F' b)/\∀b,F' b->F b\/H b=none
def uL (C:MC)(cn:Nat)(pb:List PV->Option PV)(S:List PV):Sp:=λvs H Q _=>∃F c w n l w',vs=[.ref c.a,.int n]/\c.n=cn/\WT C.K (C.cl c.n)/\WR C F H c w/\tG pb c.n S w n=some (l,w') /\
 ∀H' F' v,Kept c F H H'->FV F F' H->WR C F' H' c w'->Rep C F' H' v l->Q v H'
def qp (C:MC)(aS:Addr)(S:List PV):Prop:=∃us,B6 C.K (λ_=>none) aS us/\∀B H,zI C B H us S
def Ji (C:MC)(cn:Nat)(pb:List PV->Option PV)(aS:Addr):TS:=
 cu (lW (tB (jg C.K (aG 1) (je C.K (aG 0) "onward")))
   (jW C.K (je C.K (aG 0) "onward") (aG 1) (gA (yG C.K (tC (.ref aS))) [none,some 0,some 1] (aX 0) ou
    (jV (C.cl cn) "number_of_place" (q8 C) [] E0 (aG 1) (aO (jV (C.cl cn) "place_behind" (C2 C pb false) [] E0 (aG 1) (aO (aG 2) (aO (aG 0) bx))) bx))))
   jx)
  (jd (qM C.K (je C.K (aG 0) "onward") (aG 1)))
theorem GF {w w':WS}{p:PV}{n:Int}(h:tE w p=some (n,w')):∃xs ks,p=.tup xs/\AD xs=some ks/\w'.most=w.most:=by
 cases p <;> first | (cases h;done) | skip
 rename_i xs
 obtain⟨k,hk,h⟩:=al.mp (show ((AD xs).bind _)=_ from h)
 refine⟨xs,k,rfl,hk,?_⟩
 split at h
 ·cases h;rfl
 ·split at h
  ·cases h;rfl
  ·cases h
 ·cases h
variable {F:Addr->Prop}{pb:List PV->Option PV}
theorem Jj {c:WC}{w w1:WS}{num k:Int}{s p:PV}{x:V}{D:Addr}{ys:List V}{R:VK}(T:WT C.K (C.cl c.n))(W:WR C F H c w)(rs:∀B H,Rep C B H x s)(hp:pb [w.pv c.n,.int num,s]=some p)(hn:tE w p=some (k,w1))
  (q:∀H',Kept c F H H'->WR C F H' c w1->R (.int k) H'):
  jV (C.cl c.n) "number_of_place" (q8 C) [] E0 (aG 1) (aO (jV (C.cl c.n) "place_behind" (C2 C pb false) [] E0 (aG 1) (aO (aG 2) (aO (aG 0) bx))) bx) [some x,some (.ref c.a),some (.int num)] H R:=by
 obtain⟨xs,ks,rfl,hk,_⟩:=GF hn
 refine⟨_,rfl,c.a,c.dx,_,rfl,W.ob,rfl,?_⟩
 refine⟨_,rfl,c.a,c.dx,_,rfl,W.ob,rfl,?_⟩
 refine⟨_,rfl,_,rfl,?_⟩
 refine⟨_,[w.pv c.n,.int num,s],_,.cons W.rep (.cons (.int _) (.cons (rs _ _) .nil)),hp,λv H1 s1 r1=>?_⟩
 have F5:Rep C F H1 v (.tup xs):=Ci (show Rep C _ H1 v (.tup xs) from r1) hk
 exact⟨F,c,w,v,.tup xs,k,w1,rfl,T,W.same s1,F5,hn,λH' kp W'=>q H' (λb o e n1 n2 n3=>kp b o (s1 _ _ e) n1 n2 n3) W'⟩
variable {cn:Nat}
theorem GJ {S:List PV}{E:XK}(h:uL C cn pb S vs H Q E):vs.length=2:=by
 obtain⟨F,c,w,n,l,w',e,_⟩:=h
 rw[e];rfl
theorem Ef {K:W.Frag}{aS:Addr}{us:List V}{AB:List (Option Nat)}{tt:TT}{te:TE}{σ rest:St}(hσ:bO AB σ=none::rest)(ha:B6 K H aS us)
  (k:∀D,H D=none->∃Pv:Nat->List V->Hp->Prop,Pv 0 [] (upd H D (.lst []))/\(∀i ys H,i<=us.length->Pv i ys H->B6 K H aS us/\H D=some (.lst ys)) /\
   (∀i x ys H,us[i]?=some x->Pv i ys H->tt (some x::rest) H λb H3=>if b=true then te (some x::rest) H3 λy H4=>H4 D=some (.lst ys)/\ys.length < sizeLine/\Pv (i+1) (ys++[y]) (upd H4 D (.lst (ys++[y]))) else Pv (i+1) ys H3) /\
   ∀ys H,Pv us.length ys H->Q (.ref D) H):gA (yG K (tC (.ref aS))) AB (aX 0) tt te σ H Q:=
 ⟨⟨aS,rfl,⟨us,ha⟩,λD hD=>let ⟨Pv,h0,h1,h2,h3⟩:=k D hD;Ig hσ Pv h0 h1 h2 h3⟩⟩
theorem LK {S:List PV}{aS:Addr}{E:XK}(hS:qp C aS S)(h:uL C cn pb S vs H Q E):Ji C cn pb aS { nx:=λ_ H'=>Q .Au H',rt:=Q } (L2.start ["self","number"] vs) H:=by
 obtain⟨F,c,w,num,l,w',rfl,rfl,T,W,hl,q⟩:=h
 obtain⟨us,PZ,UT⟩:=hS
 obtain⟨ko,TU,ro⟩:=W.lo
 have e0:(L2.start ["self","number"] [V.ref c.a,V.int num])[0]?=some (some (.ref c.a)):=rfl
 have e1:(L2.start ["self","number"] [V.ref c.a,V.int num])[1]?=some (some (.int num)):=rfl
 have fld:∀(x:V) (H1:Hp) (m:Int),(c.fs m).lookup ("onward" : Str)=some x->H1 c.a=some (.ins (C.cl c.n) c.dx (c.fs m))->∀R:VK,R x H1->je C.K (aG 0) "onward" (L2.start ["self","number"] [V.ref c.a,V.int num]) H1 R:=λx H1 m lk ho R r=>⟨_,e0,c.a,_,_,_,x,rfl,ho,T.cl,T.Iq,lk,r⟩
 unfold Ji
 dsimp only [cu,lW,tB,jg,jW,jd,qM,jx]
 refine⟨_,e1,fld _ _ _ rfl W.ob _ ⟨c.lo,_,rfl,A5.k (k:=.inl num) TU,_,rfl,?_⟩⟩
 unfold tG at hl
 rcases AJ.val (k:=(.inl num:Key)) ro with ⟨y,py,g1,g2,ry⟩ | ⟨g1,g2⟩
 ·have eL:aJ w.D8 (.inl num)=some py:=g2
  rw[eL] at hl
  cases hl
  rw[g1]
  refine lY ?_
  refine fld _ _ _ rfl W.ob _ ?_
  refine⟨_,e1,c.lo,_,rfl,by rw[← g1];exact A5.k (k:=.inl num) TU,?_⟩
  exact q H F _ (λb o e _ _ _=>e) ⟨λ_ z=>z,λ_ z=>.inl z⟩ W ry
 ·have eL:aJ w.D8 (.inl num)=none:=g2
  rw[eL] at hl
  obtain⟨⟨ls,w1⟩,hF,hl⟩:=al.mp hl
  split at hl
  ·rename_i hz
   cases hl
   rw[g1]
   refine jh ?_
   refine Ef (us:=us) (rest:=[some (.ref c.a),some (.int num)]) rfl (kO PZ) λD hD=>?_
   have cells:∀b,b=c.a\/b=c.ah\/b=c.lp\/b=c.ln\/b=c.lo->b≠D:=λb hb z=>by
    subst z
    obtain⟨_,h1,_⟩:=W.ah
    obtain⟨_,h2,_⟩:=W.lp
    obtain⟨_,h3,_⟩:=W.ln
    rcases hb with rfl | rfl | rfl | rfl | rfl
    ·rw[W.ob] at hD;cases hD
    ·rw[h1] at hD;cases hD
    ·rw[h2] at hD;cases hD
    ·rw[h3] at hD;cases hD
    ·rw[TU] at hD;cases hD
   have nFD:¬ F D:=λz=>by obtain⟨o,e⟩:=W.dm D z;rw[hD] at e;cases e
   have oK:us.length=S.length:=(UT F H).length
   refine⟨λi ys Hi=>∃wi rest ns,GS pb c.n num (S.drop i) wi=some (rest,w1)/\ls=ns.map PV.int++rest/\ys=ns.map V.int/\ns.length=i/\WR C F Hi c wi/\Hi D=some (.lst ys)/\∀b o,H b=some o->b≠c.lp->b≠c.ln->b≠c.lo->Hi b=some o,
    ⟨w,ls,[],hF,rfl,rfl,rfl,W.same (aL hD _),az,λb o e _ _ _=>aL hD _ b o e⟩,λi ys Hi _ ⟨wi,rest,ns,_,_,_,_,_,d,_⟩=>⟨kO PZ,d⟩,λi x ys Hi hx ⟨wi,rest,ns,h1,h2,h3,h4,Wi,d,kp⟩=>?_,λys Hi ⟨wi,rest,ns,h1,h2,h3,h4,Wi,d,kp⟩=>?_⟩
   ·dsimp only [ou]
    refine jh ?_
    have hi:i < us.length:=(ag.mp hx).1
    have hs:S[i]?=some (S[i]'(by omega)):=ai (by omega)
    generalize S[i]'(by omega)=s at hs
    have rs:∀B H,Rep C B H x s:=λB H=>by
     obtain⟨p,e,r⟩:=(UT B H).get' hx
     rw[hs] at e
     cases e
     exact r
    have EA:S.drop i=s::S.drop (i+1):=by
     rw[cb (by omega)]
     congr 1
     exact(ag.mp hs).2
    rw[EA] at h1
    obtain⟨p,hp,h1⟩:=al.mp (show ((pb [wi.pv c.n,.int num,s]).bind _)=_ from h1)
    obtain⟨⟨k,w2⟩,hn,h1⟩:=al.mp h1
    obtain⟨⟨r2,w3⟩,h5,he⟩:=al.mp h1
    cases he
    refine Jj (D:=D) (ys:=ys) T Wi rs hp hn λH4 k4 W4=>?_
    have d4:H4 D=some (.lst ys):=k4 D _ d (cells c.lp (.inr (.inr (.inl rfl)))).symm (cells c.ln (.inr (.inr (.inr (.inl rfl))))).symm (cells c.lo (.inr (.inr (.inr (.inr rfl))))).symm
    refine⟨d4,bY (by rw[h3,ba,h4];have:=hz.2;rw[h2] at this;simp at this;omega),w2,r2,ns++[k],h5,by rw[h2];simp,by rw[h3];simp,by simp[h4],?_,az,λb o e n1 n2 n3=>?_⟩
    ·have nD:∀b,F b->b≠D:=λb f z=>nFD (z▸f)
     refine W4.ex (λb o e=>⟨λf=>⟨by rw[ao (nD b f)];exact e,f⟩,λm=>?_⟩) (λb o hb e=>by rw[ao (cells b hb)];exact e) (λb f=>?_) W4.nF
     ·rw[ao ?_]
      ·exact e
      ·intro z;rw[z,d4] at e;cases e;cases m
     ·obtain⟨o,e⟩:=W4.dm b f
      exact⟨o,by rw[ao (nD b f)];exact e⟩
    ·have nb:b≠D:=aq e hD
     rw[ao nb]
     exact k4 b o (kp b o e n1 n2 n3) n1 n2 n3
   ·have EA:S.drop us.length=[]:=by rw[oK];simp
    rw[EA] at h1
    cases h1
    rw[br] at h2
    obtain⟨k2,LB,ro2⟩:=Wi.lo
    refine fld _ _ _ rfl Wi.ob _ ?_
    refine⟨_,e1,c.lo,_,rfl,Fs.k (k:=.inl num) LB (bY (by rw[ro2.length];exact gI hz.1)),?_⟩
    have Zi:c.a≠c.lo:=bN Wi.ob LB (λz=>nomatch z)
    have nDl:D≠c.lo:=(cells c.lo (.inr (.inr (.inr (.inr rfl))))).symm
    have ob4:upd Hi c.lo (.dK (putK k2 (.inl num) (.ref D))) c.a=some (.ins (C.cl c.n) c.dx (c.fs w1.most)):=by rw[ao Zi];exact Wi.ob
    refine fld _ _ _ rfl ob4 _ ?_
    have g3:cz (putK k2 (.inl num) (.ref D)) (.inl num)=some (.ref D):=by rw[yM,a0 rfl]
    refine⟨_,e1,c.lo,_,rfl,by rw[← g3];exact A5.k (k:=.inl num) az,?_⟩
    have Sl:∀b o,Hi b=some o->b≠c.lo->upd Hi c.lo (.dK (putK k2 (.inl num) (.ref D))) b=some o:=λb o e n=>by rw[ao n];exact e
    have ex:Ex F Hi (λb=>F b\/b=D) (upd Hi c.lo (.dK (putK k2 (.inl num) (.ref D)))):=λb o e=>⟨λf=>⟨Sl b o e (λz=>Wi.nF.2.2.2.2 (z▸f)),.inl f⟩,λm=>Sl b o e λz=>by rw[z,LB] at e;cases e;cases m⟩
    have rD:Rep C (λb=>F b\/b=D) (upd Hi c.lo (.dK (putK k2 (.inl num) (.ref D)))) (.ref D) (.lst ls):=by
     refine .lst (Sl D _ d nDl) (.inr rfl) ?_
     rw[h2,h3]
     exact j5 _ _ (λi=>.int i) ns
    refine q _ (λb=>F b\/b=D) _ (λb o e n1 n2 n3=>Sl b o (kp b o e n1 n2 n3) n3) ⟨λb z=>.inl z,λb z=>z.imp id λz=>by rw[z];exact hD⟩ ⟨ob4,?_,Wi.fn.ex ex,?_,?_,⟨_,az,AJ.put rD (ro2.ex ex)⟩,Wi.ne,λb f=>?_,?_⟩ rD
    ·obtain⟨kv,e,r⟩:=Wi.ah
     exact⟨kv,Sl _ _ e (bN e LB (λz=>nomatch z)),r.ex ex⟩
    ·obtain⟨kv,e,r⟩:=Wi.lp
     exact⟨kv,Sl _ _ e (bN e LB (λz=>nomatch z)),r.ex ex⟩
    ·obtain⟨kv,e,r⟩:=Wi.ln
     exact⟨kv,Sl _ _ e (bN e LB (λz=>nomatch z)),r.ex ex⟩
    ·rcases f with f | f
     ·obtain⟨o,e⟩:=Wi.dm b f
      exact⟨o,((ex b o e).1 f).1⟩
     ·exact⟨_,by rw[f];exact Sl D _ d nDl⟩
    ·obtain⟨n1,n2,n3,n4,n5⟩:=Wi.nF
     exact⟨λz=>z.elim n1 (cells _ (.inl rfl)),λz=>z.elim n2 (cells _ (.inr (.inl rfl))),λz=>z.elim n3 (cells _ (.inr (.inr (.inl rfl)))),λz=>z.elim n4 (cells _ (.inr (.inr (.inr (.inl rfl))))),λz=>z.elim n5 (cells _ (.inr (.inr (.inr (.inr rfl)))))⟩
  ·cases hl
theorem Qt {rest:St}{x y:V}:Kp (none::none::rest) (some x::some y::rest):=⟨rfl,λi v e=>by
 cases i with
 | zero=>cases e
 | succ i=>cases i with
  | zero=>cases e
  | succ i=>exact e⟩
theorem Eg {K:W.Frag}{k1 k2:SK}{a b:Addr}{xs ys:List V}{ta:TA}{AB:List (Option Nat)}{tt:TT}{te:TE}{σ rest:St}(hw:∀R:List V->Hp->Prop,R [.ref a,.ref b] H->ta σ H R)(hσ:bO AB σ=none::none::rest)(hlen:ys.length=xs.length)(ha:k1.sq K H a xs)(hb:k2.sq K H b ys)
  (k:∀D,H D=none->∃Pv:Nat->List V->Hp->Prop,Pv 0 [] (upd H D (.lst []))/\(∀i zs Hi,i<=xs.length->Pv i zs Hi->k1.sq K Hi a xs/\k2.sq K Hi b ys/\Hi D=some (.lst zs)) /\
   (∀i x y zs Hi,xs[i]?=some x->ys[i]?=some y->Pv i zs Hi->∀t,Hi t=none->tt (some x::some y::rest) (upd Hi t (.tup [x,y])) λb H3=>if b=true then te (some x::some y::rest) H3 λz H4=>H4 D=some (.lst zs)/\zs.length < sizeLine/\Pv (i+1) (zs++[z]) (upd H4 D (.lst (zs++[z]))) else Pv (i+1) zs H3) /\
   ∀zs Hi,Pv xs.length zs Hi->Q (.ref D) Hi):gA (x_ K k1 k2 ta) AB (vA K 2 (jy (aX 0) (jy (aX 1) vz))) tt te σ H Q:=by
 refine⟨hw _ ⟨a,b,rfl,⟨xs,ha⟩,⟨ys,hb⟩,λD hD=>?_⟩⟩
 obtain⟨Pv,h0,h1,h2,h3⟩:=k D hD
 refine⟨λi m zs Hi=>m=xs.length - i/\i<=xs.length/\Pv i zs Hi,⟨xs.length,by simp,cq _,h0⟩,?_⟩
 rintro i m zs Hi ⟨rfl,hi,p⟩
 obtain⟨q1,q2,qD⟩:=h1 i zs Hi hi p
 refine⟨qD,?_⟩
 by_cases A6:i < xs.length
 ·refine .inr ⟨⟨xs,xs[i],ys,ys[i]'(by omega),q1,by simp[A6],q2,ai (by omega)⟩,Pv (i+1),λEK H' p'=>⟨xs.length - (i+1),by omega,rfl,A6,p'⟩,λv H' yd=>?_⟩
  obtain⟨t,x,y,ht,rfl,rfl,e1,e2⟩:=yd
  rw[hσ]
  refine⟨t,[x,y],rfl,B6.of az,rfl,x,[y],rfl,?_⟩
  refine⟨y,[],rfl,rfl,Qt,?_⟩
  exact h2 i x y zs Hi (e1 xs q1) (e2 ys q2) p t ht
 ·have e:i=xs.length:=by omega
  subst e
  exact .inl ⟨⟨xs,ys,q1,q2,.inl rfl⟩,h3 zs Hi p⟩
theorem Jk {K:W.Frag}{k1 k2:SK}{a b:Addr}{xs ys:List V}{g:TG}{tb:TS}{D:Ends}{σ:St}(hlen:ys.length=xs.length)(Pv:Nat->St->Hp->Prop)(h0:Pv 0 σ H)(hl:∀i σ H,i<=xs.length->Pv i σ H->k1.sq K H a xs/\k2.sq K H b ys)
  (hs:∀i x y σ H,xs[i]?=some x->ys[i]?=some y->Pv i σ H->∀t,H t=none->g (.ref t) σ (upd H t (.tup [x,y])) fun σ2 H2=>tb { D with nx:=Pv (i+1),ct:=Pv (i+1),bk:=D.nx } σ2 H2) (hd:∀ σ H,Pv xs.length σ H->D.nx σ H):
  ∃W:Nat->Nat->St->Hp->Prop,(∃m,W 0 m σ H)/\∀i m σ H,W i m σ H->
   ((Wf K k1 k2 a b).stop i H/\D.nx σ H)\/((Wf K k1 k2 a b).go i H/\∃N:St->Hp->Prop,(∀ σ' H',N σ' H'->∃m',m' < m/\W (i+1) m' σ' H')/\∀x H',(Wf K k1 k2 a b).L4 i H x H'->g x σ H' fun σ2 H2=>tb { D with nx:=N,ct:=N,bk:=D.nx } σ2 H2):=by
 refine⟨λi m σ H=>m=xs.length - i/\i<=xs.length/\Pv i σ H,⟨xs.length,by simp,cq _,h0⟩,?_⟩
 rintro i m σ H ⟨rfl,hi,p⟩
 obtain⟨q1,q2⟩:=hl i σ H hi p
 by_cases A6:i < xs.length
 ·refine .inr ⟨⟨xs,xs[i],ys,ys[i]'(by omega),q1,by simp[A6],q2,ai (by omega)⟩,Pv (i+1),λEK H' p'=>⟨xs.length - (i+1),by omega,rfl,A6,p'⟩,λv H' yd=>?_⟩
  obtain⟨t,x,y,ht,rfl,rfl,e1,e2⟩:=yd
  exact hs i x y σ H (e1 xs q1) (e2 ys q2) p t ht
 ·have e:i=xs.length:=by omega
  subst e
  exact .inl ⟨⟨xs,ys,q1,q2,.inl rfl⟩,hd σ H p⟩
structure EM (C:MC)(cn:Nat)(F:Addr->Prop)(H:Hp)(cs:List WC)(ws:List WS):Prop where
 len:cs.length=ws.length
 all:∀(i:Nat) (c:WC) (w:WS),cs[i]?=some c->ws[i]?=some w->c.n=cn/\WR C F H c w
 sep:∀(i j:Nat) (c d:WC),cs[i]?=some c->cs[j]?=some d->i≠j->d.lp≠c.lp/\d.ln≠c.ln/\d.lo≠c.lo/\d.ah≠c.ln
def AY (cs:List WC)(H H':Hp):Prop:=∀b o,H b=some o->(∀c∈cs,b≠c.lp/\b≠c.ln/\b≠c.lo)->H' b=some o
variable {cs:List WC}
theorem AY.trans {H1 H2:Hp}(a:AY cs H H1)(b:AY cs H1 H2):AY cs H H2:=λx o e n=>b x o (a x o e n) n
theorem FV.trans {F1 F2:Addr->Prop}{H1:Hp}(a:FV F F1 H)(b:FV F1 F2 H1)(s:∀x,H1 x=none->H x=none):FV F F2 H:=⟨λx z=>b.1 x (a.1 x z),λx z=>(b.2 x z).elim (a.2 x) λn=>.inr (s x n)⟩
theorem EM.same {C:MC}{cn:Nat}{F:Addr->Prop}{H H':Hp}{cs:List WC}{ws:List WS}(W:EM C cn F H cs ws)(s:zS H H'):EM C cn F H' cs ws:=⟨W.len,λi c w e1 e2=>⟨(W.all i c w e1 e2).1,(W.all i c w e1 e2).2.same s⟩,W.sep⟩
theorem EM.set {C:MC}{cn:Nat}{F F':Addr->Prop}{H H':Hp}{cs:List WC}{ws:List WS}{i:Nat}{c:WC}{w':WS}(W:EM C cn F H cs ws)(hi:cs[i]?=some c)(kp:Kept c F H H')(gr:FV F F' H)(Wi:WR C F' H' c w')(hcn:c.n=cn):EM C cn F' H' cs (ws.set i w'):=by
 have LD:i < ws.length:=by rw[← W.len];exact(ag.mp hi).1
 obtain⟨_,MS,_⟩:=id Wi.lp
 refine⟨by rw[d0];exact W.len,λj d v e1 e2=>?_,W.sep⟩
 by_cases Zk:i=j
 ·subst Zk
  rw[hi] at e1
  cases e1
  rw[d6 LD] at e2
  cases e2
  exact⟨hcn,Wi⟩
 ·rw[bo Zk] at e2
  obtain⟨n0,Wj⟩:=W.all j d v e1 e2
  have Vw:∃w,WR C F H c w:=⟨_,(W.all i c _ hi (ai LD)).2⟩
  obtain⟨w0,Vw⟩:=Vw
  obtain⟨s1,s2,s3,s4⟩:=W.sep i j c d hi e1 Zk
  obtain⟨_,a1,_⟩:=Vw.lp
  obtain⟨_,a2,_⟩:=Vw.ln
  obtain⟨_,a3,_⟩:=Vw.lo
  obtain⟨_,b1,_⟩:=Wj.ah
  obtain⟨_,b2,_⟩:=Wj.lp
  obtain⟨_,b3,_⟩:=Wj.ln
  obtain⟨_,b4,_⟩:=Wj.lo
  have UU:∀b,(b=d.a\/b=d.ah\/b=d.lp\/b=d.ln\/b=d.lo)->∃o,H b=some o:=λb hb=>by
   rcases hb with rfl | rfl | rfl | rfl | rfl
   ·exact⟨_,Wj.ob⟩
   ·exact⟨_,b1⟩
   ·exact⟨_,b2⟩
   ·exact⟨_,b3⟩
   ·exact⟨_,b4⟩
  have keep:∀b o,(b=d.a\/b=d.ah\/b=d.lp\/b=d.ln\/b=d.lo)->H b=some o->H' b=some o:=λb o hb e=>by
   refine kp b o e ?_ ?_ ?_
   ·rcases hb with rfl | rfl | rfl | rfl | rfl
    ·exact bN Wj.ob a1 (λz=>nomatch z)
    ·exact bN b1 a1 (λz=>nomatch z)
    ·exact s1
    ·exact bN b3 a1 (λz=>nomatch z)
    ·exact bN b4 a1 (λz=>nomatch z)
   ·rcases hb with rfl | rfl | rfl | rfl | rfl
    ·exact bN Wj.ob a2 (λz=>nomatch z)
    ·exact s4
    ·exact bN b2 a2 (λz=>nomatch z)
    ·exact s2
    ·exact bN b4 a2 (λz=>nomatch z)
   ·rcases hb with rfl | rfl | rfl | rfl | rfl
    ·exact bN Wj.ob a3 (λz=>nomatch z)
    ·exact bN b1 a3 (λz=>nomatch z)
    ·exact bN b2 a3 (λz=>nomatch z)
    ·exact bN b3 a3 (λz=>nomatch z)
    ·exact s3
  have P4:∀b,(b=d.a\/b=d.ah\/b=d.lp\/b=d.ln\/b=d.lo)->¬ F b->¬ F' b:=λb hb n z=>(gr.2 b z).elim n λe=>by obtain⟨o,e'⟩:=UU b hb;rw[e] at e';cases e'
  obtain⟨n1,n2,n3,n4,n5⟩:=Vw.nF
  have ex:Ex F H F' H':=λb o e=>⟨λf=>⟨kp b o e (λz=>n3 (z▸f)) (λz=>n4 (z▸f)) (λz=>n5 (z▸f)),gr.1 b f⟩,λm=>kp b o e (λz=>by rw[z,a1] at e;cases e;cases m) (λz=>by rw[z,a2] at e;cases e;cases m) λz=>by rw[z,a3] at e;cases e;cases m⟩
  obtain⟨m1,m2,m3,m4,m5⟩:=Wj.nF
  exact⟨n0,Wj.ex ex keep Wi.dm ⟨P4 _ (.inl rfl) m1,P4 _ (.inr (.inl rfl)) m2,P4 _ (.inr (.inr (.inl rfl))) m3,P4 _ (.inr (.inr (.inr (.inl rfl)))) m4,P4 _ (.inr (.inr (.inr (.inr rfl)))) m5⟩⟩
theorem EM.own {ws:List WS}{D:Addr}{u o:HO}(W:EM C cn F H cs ws)(hD:H D=some u)(m:gW u=true)(nF:¬ F D)(nc:∀c∈cs,D≠c.a/\D≠c.ah/\D≠c.lp/\D≠c.ln/\D≠c.lo):EM C cn F (upd H D o) cs ws:=by
 have nD:∀b,F b->b≠D:=λb f z=>nF (z▸f)
 refine⟨W.len,λi c w e1 e2=>?_,W.sep⟩
 obtain⟨n0,Wi⟩:=W.all i c w e1 e2
 obtain⟨n1,n2,n3,n4,n5⟩:=nc c (dn e1)
 refine⟨n0,Wi.ex (λb o e=>⟨λf=>⟨by rw[ao (nD b f)];exact e,f⟩,λq=>?_⟩) (λb o hb e=>?_) (λb f=>?_) Wi.nF⟩
 ·rw[ao ?_]
  ·exact e
  ·intro z;rw[z,hD] at e;cases e;rw[m] at q;cases q
 ·rw[ao ?_]
  ·exact e
  ·rcases hb with rfl | rfl | rfl | rfl | rfl
   ·exact n1.symm
   ·exact n2.symm
   ·exact n3.symm
   ·exact n4.symm
   ·exact n5.symm
 ·obtain⟨o,e⟩:=Wi.dm b f
  exact⟨o,by rw[ao (nD b f)];exact e⟩
theorem EM.nc {ws:List WS}{D:Addr}(W:EM C cn F H cs ws)(hD:H D=none):∀c∈cs,D≠c.a/\D≠c.ah/\D≠c.lp/\D≠c.ln/\D≠c.lo:=λc hc=>by
 obtain⟨i,hi⟩:=eC.mp hc
 have LD:i < ws.length:=by rw[← W.len];exact(ag.mp hi).1
 obtain⟨_,Wi⟩:=W.all i c _ hi (ai LD)
 obtain⟨_,b1,_⟩:=Wi.ah
 obtain⟨_,b2,_⟩:=Wi.lp
 obtain⟨_,b3,_⟩:=Wi.ln
 obtain⟨_,b4,_⟩:=Wi.lo
 exact⟨(aq Wi.ob hD).symm,(aq b1 hD).symm,(aq b2 hD).symm,(aq b3 hD).symm,(aq b4 hD).symm⟩
noncomputable def Vx (pb:List PV->Option PV)(cn:Nat)(S:List PV):List WS->List Int->Option (List PV×List WS)
 | [],[]=>some ([],[])
 | w::ws,n::ns=>(tG pb cn S w n).bind λr=>(Vx pb cn S ws ns).bind λq=>some (r.1::q.1,r.2::q.2)
 | _,_=>none
noncomputable def oO:List PV->Option (List Int)
 | []=>some []
 | .int i::r=>(oO r).bind λl=>some (i::l)
 | _=>none
noncomputable def uM (m:Nat):List PV->Option (List (List Int))
 | []=>some []
 | .lst l::r=>(oO l).bind λk=>(uM m r).bind λq=>if k.length=m then some (k::q) else none
 | _=>none
noncomputable def Vy (pb:List PV->Option PV)(cn:Nat)(S:List PV)(ws:List WS)(ns:qq):Option (List (List Int)×List WS):=
 (Vx pb cn S ws ns).bind λr=>(uM S.length r.1).bind λrows=>some ((List.range S.length).map λi=>rows.map λk=>k.getD i 0,r.2)
noncomputable def A9 (n:qq):PV:=.tup (n.map PV.int)
def zE (C:MC)(cn:Nat)(pb:List PV->Option PV)(S:List PV):Sp:=λvs H Q _=>∃F cs ws ns nodes EN wl vn,vs=[.ref wl,vn]/\cs≠[]/\WT C.K (C.cl cn)/\EM C cn F H cs ws/\H wl=some (.lst (cs.map λc=>V.ref c.a))/\¬ F wl/\(∀c∈cs,wl≠c.lp)/\cs.length<=1000/\Rep C F H vn (A9 ns)/\Vy pb cn S ws ns=some (nodes,EN) /\
 ∀H' F' l Ic,AY cs H H'->FV F F' H->EM C cn F' H' cs EN->H l=none->¬ F' l->H' l=some (.lst Ic)->zI C F' H' Ic (nodes.map A9)->Q (.ref l) H'
theorem Jl {S:List PV}{E:XK}(h:zE C cn pb S vs H Q E):vs.length=2:=by
 obtain⟨F,cs,ws,ns,nodes,EN,wl,vn,e,_⟩:=h
 rw[e];rfl
def Qu (C:MC)(cn:Nat)(pb:List PV->Option PV)(S:List PV):TE:=gA (x_ C.K .L .T (aO (aG 0) (aO (aG 1) bx))) [none,none] (vA C.K 2 (jy (aX 0) (jy (aX 1) vz))) ou (jV (C.cl cn) "later" (uL C cn pb S) [] E0 (aG 0) (aO (aG 1) bx))
theorem qt {C:MC}{A:Addr->Prop}{H:Hp}:∀{ns:qq}{vs:List V},zI C A H vs (ns.map PV.int)->vs=ns.map V.int
 | [],_,r=>by cases r;rfl
 | n::ns,_,r=>by
  cases r with
  | cons h t=>
   cases h
   rw[qt t]
   rfl
theorem vV {pb:List PV->Option PV}{cn:Nat}{S:List PV}:∀{ws EN:List WS}{ns:qq}{ls:List PV},Vx pb cn S ws ns=some (ls,EN)->ws.length=ns.length/\ls.length=ws.length/\EN.length=ws.length
 | [],_,[],_,h=>by cases h;exact⟨rfl,rfl,rfl⟩
 | [],_,_::_,_,h=>by cases h
 | _::_,_,[],_,h=>by cases h
 | w::ws,EN,n::ns,ls,h=>by
  obtain⟨r,_,h2⟩:=al.mp (show ((tG pb cn S w n).bind _)=_ from h)
  obtain⟨⟨q1,q2⟩,h3,h4⟩:=al.mp h2
  cases h4
  obtain⟨a1,a2,a3⟩:=vV h3
  exact⟨by simp[a1],by simp[a2],by simp[a3]⟩
theorem AY.tup {C:MC}{cn:Nat}{F:Addr->Prop}{H H':Hp}{cs:List WC}{ws:List WS}(W:EM C cn F H cs ws)(kp:AY cs H H'){b:Addr}{o:HO}(e:H b=some o)(m:gW o=false):H' b=some o:=by
 refine kp b o e λc hc=>?_
 obtain⟨i,hi⟩:=eC.mp hc
 have LD:i < ws.length:=by rw[← W.len];exact(ag.mp hi).1
 obtain⟨_,Wi⟩:=W.all i c _ hi (ai LD)
 obtain⟨_,b2,_⟩:=Wi.lp
 obtain⟨_,b3,_⟩:=Wi.ln
 obtain⟨_,b4,_⟩:=Wi.lo
 exact⟨λz=>(by rw[z,b2] at e;cases e;cases m),λz=>(by rw[z,b3] at e;cases e;cases m),λz=>(by rw[z,b4] at e;cases e;cases m)⟩
theorem AY.lst {C:MC}{cn:Nat}{F:Addr->Prop}{H H':Hp}{cs:List WC}{ws:List WS}(W:EM C cn F H cs ws)(kp:AY cs H H'){b:Addr}{xs:List V}(e:H b=some (.lst xs))(n:∀c∈cs,b≠c.lp):H' b=some (.lst xs):=by
 refine kp b _ e λc hc=>?_
 obtain⟨i,hi⟩:=eC.mp hc
 have LD:i < ws.length:=by rw[← W.len];exact(ag.mp hi).1
 obtain⟨_,Wi⟩:=W.all i c _ hi (ai LD)
 obtain⟨_,b3,_⟩:=Wi.ln
 obtain⟨_,b4,_⟩:=Wi.lo
 exact⟨n c hc,bN e b3 (λz=>nomatch z),bN e b4 (λz=>nomatch z)⟩
theorem AY.UU {H':Hp}{ws:List WS}(kp:AY cs H H')(W:EM C cn F H' cs ws){x:Addr}(e:H' x=none):H x=none:=by
 cases q:H x with
 | none=>rfl
 | some o=>
  have nc:=W.nc e
  rw[kp x o q λc hc=>⟨(nc c hc).2.2.1,(nc c hc).2.2.2.1,(nc c hc).2.2.2.2⟩] at e
  cases e
theorem Kept.S {c:WC}{H':Hp}(k:Kept c F H H')(hc:c∈cs):AY cs H H':=λb o e n=>k b o e (n c hc).1 (n c hc).2.1 (n c hc).2.2
theorem nb1 {S:List PV}{ws EN:List WS}{ns:qq}{ls:List PV}{wl b:Addr}{rest:St}{R:VK}(T:WT C.K (C.cl cn))(W:EM C cn F H cs ws)(Ee:H wl=some (.lst (cs.map λc=>V.ref c.a)))(F9:∀c∈cs,wl≠c.lp)(hz:cs.length<=1000)
  (hb:DL C.K H b (ns.map V.int)) (hn:Vx pb cn S ws ns=some (ls,EN)) (dF:∀D,H D=none->¬ F D)
  (q:∀H' F' D zs,AY cs H H'->FV F F' H->EM C cn F' H' cs EN->H D=none->¬ F' D->H' D=some (.lst zs)->zI C F' H' zs ls->R (.ref D) H'):
  Qu C cn pb S (some (.ref wl)::some (.ref b)::rest) H R:=by
 obtain⟨l1,l2,l3⟩:=vV hn
 have lc:=W.len
 refine Eg (a:=wl) (b:=b) (xs:=cs.map λc=>V.ref c.a) (ys:=ns.map V.int) (rest:=[]) (λR r=>⟨_,rfl,_,rfl,r⟩) rfl (by simp;omega) (A0.of Ee) hb.sq λD hD=>?_
 have wD:wl≠D:=aq Ee hD
 refine⟨λi zs Hi=>∃Fi Wx Wy Sm OH,Vx pb cn S (ws.drop i) (ns.drop i)=some (Wx,Wy)/\ls=Sm++Wx/\EN=OH++Wy/\Sm.length=i/\OH.length=i/\EM C cn Fi Hi cs (OH++ws.drop i)/\zI C Fi Hi zs Sm/\FV F Fi H/\AY cs H Hi/\Hi D=some (.lst zs)/\¬ Fi D,
  ⟨F,ls,EN,[],[],hn,rfl,rfl,rfl,rfl,W.same (aL hD _),.nil,⟨λ_ z=>z,λ_ z=>.inl z⟩,λx o e _=>aL hD _ x o e,az,dF D hD⟩,
  λi zs Hi _ ⟨Fi,Wx,Wy,Sm,OH,h1,h2,h3,h4,h5,Wi,ri,gi,ki,di,ni⟩=>⟨A0.of (ki.lst W Ee F9),DL.sq (hb.imp (λz=>ki.tup W z rfl) id),di⟩,λi x y zs Hi hx hy ⟨Fi,Wx,Wy,Sm,OH,h1,h2,h3,h4,h5,Wi,ri,gi,ki,di,ni⟩ t ht=>?_,
  λzs Hi ⟨Fi,Wx,Wy,Sm,OH,h1,h2,h3,h4,h5,Wi,ri,gi,ki,di,ni⟩=>?_⟩
 ·dsimp only [ou]
  refine jh ?_
  rw[cm] at hx hy
  obtain⟨c,hc,rfl⟩:=bX.mp hx
  obtain⟨n,KW,rfl⟩:=bX.mp hy
  have hi:i < cs.length:=(ag.mp hc).1
  have hw:ws.drop i=ws[i]'(by omega)::ws.drop (i+1):=cb (by omega)
  have T1:ns.drop i=n::ns.drop (i+1):=by
   rw[cb (by omega)]
   congr 1
   exact(ag.mp KW).2
  generalize ws[i]'(by omega)=w at hw
  rw[hw,T1] at h1
  obtain⟨⟨l,w1⟩,hl,h1⟩:=al.mp (show ((tG pb cn S w n).bind _)=_ from h1)
  obtain⟨⟨q1,q2⟩,hr,he⟩:=al.mp h1
  cases he
  have cur:(OH++ws.drop i)[i]?=some w:=by rw[hw,hU (by omega),h5];simp
  have s1:=aL ht (.tup [V.ref c.a,V.int n])
  have Wt:=Wi.same s1
  obtain⟨Sn,Wc⟩:=Wt.all i c w hc cur
  have dt:upd Hi t (.tup [V.ref c.a,V.int n]) D=some (.lst zs):=s1 _ _ di
  refine⟨_,rfl,c.a,c.dx,_,rfl,by rw[← Sn];exact Wc.ob,rfl,_,rfl,?_⟩
  refine⟨Fi,c,w,n,l,w1,rfl,Sn,by rw[Sn];exact T,Wc,by rw[Sn];exact hl,λH' F' v kp gr W' rv=>?_⟩
  have mc:=dn hc
  have Zl:=W.nc hD c mc
  have dD:H' D=some (.lst zs):=kp D _ dt Zl.2.2.1 Zl.2.2.2.1 Zl.2.2.2.2
  have P4:¬ F' D:=λz=>(gr.2 D z).elim ni λe=>by rw[dt] at e;cases e
  have Ws:=Wt.set hc kp gr W' Sn
  have es:(OH++ws.drop i).set i w1=(OH++[w1])++ws.drop (i+1):=by
   rw[hw,List.set_append_right _ _ (by omega),h5]
   simp
  rw[es] at Ws
  have kS:AY cs Hi H':=AY.trans (λx o e _=>s1 x o e) (kp.S mc)
  have exz:Ex Fi Hi F' H':=λx o e=>by
   have e':=s1 x o e
   obtain⟨m1,m2,m3,m4,m5⟩:=Wc.nF
   obtain⟨_,a1,_⟩:=Wc.lp
   obtain⟨_,a2,_⟩:=Wc.ln
   obtain⟨_,a3,_⟩:=Wc.lo
   exact⟨λf=>⟨kp x o e' (λz=>m3 (z▸f)) (λz=>m4 (z▸f)) (λz=>m5 (z▸f)),gr.1 x f⟩,λm=>kp x o e' (λz=>by rw[z,a1] at e';cases e';cases m) (λz=>by rw[z,a2] at e';cases e';cases m) λz=>by rw[z,a3] at e';cases e';cases m⟩
  have exD:Ex F' H' F' (upd H' D (.lst (zs++[v]))):=λx o e=>⟨λf=>⟨by rw[ao (show x≠D from λz=>P4 (z▸f))];exact e,f⟩,λm=>by
   rw[ao (show x≠D from λz=>by rw[z,dD] at e;cases e;cases m)]
   exact e⟩
  have lz:zs.length=Sm.length:=ri.length
  refine⟨dD,bY (by omega),F',q1,q2,Sm++[l],OH++[w1],hr,by rw[h2];simp,by rw[h3];simp,by simp[h4],by simp[h5],Ws.own dD rfl P4 (λd hd=>W.nc hD d hd),((ri.ex exz).ex exD).append (.cons (rv.ex exD) .nil),gi.trans gr (λx e=>ki.UU Wi (s1.free e)),λx o e n=>?_,az,P4⟩
  rw[ao (aq e hD)]
  exact(ki.trans kS) x o e n
 ·have hdw:ws.drop (cs.map λc=>V.ref c.a).length=[]:=by rw[ba,lc];simp
  have hdn:ns.drop (cs.map λc=>V.ref c.a).length=[]:=by rw[ba,lc,l1];simp
  rw[hdw,hdn] at h1
  cases h1
  rw[br] at h2 h3
  rw[hdw,br] at Wi
  subst h2 h3
  exact q Hi Fi D zs ki gi Wi hD ni di ri
theorem Bd {K:W.Frag}{a:Addr}{us:List V}{tl:TE}{AB:List (Option Nat)}{tt:TT}{te:TE}{σ rest:St}(hw:∀R:VK,R (.ref a) H->tl σ H R)(hσ:bO AB σ=none::rest)(ha:A0 K H a us)
  (k:∀D,H D=none->∃Pv:Nat->List V->Hp->Prop,Pv 0 [] (upd H D (.lst []))/\(∀i ys H,i<=us.length->Pv i ys H->A0 K H a us/\H D=some (.lst ys)) /\
   (∀i x ys H,us[i]?=some x->Pv i ys H->tt (some x::rest) H λb H3=>if b=true then te (some x::rest) H3 λy H4=>H4 D=some (.lst ys)/\ys.length < sizeLine/\Pv (i+1) (ys++[y]) (upd H4 D (.lst (ys++[y]))) else Pv (i+1) ys H3) /\
   ∀ys H,Pv us.length ys H->Q (.ref D) H):gA (xX K tl) AB (aX 0) tt te σ H Q:=
 ⟨hw _ ⟨a,rfl,⟨us,ha⟩,λD hD=>let ⟨Pv,h0,h1,h2,h3⟩:=k D hD;Ge hσ Pv h0 h1 h2 h3⟩⟩
theorem Eh {n:Nat}{ta:TA}{AB:List (Option Nat)}{tt:TT}{te:TE}{σ rest:St}(hw:∀R:List V->Hp->Prop,R [.int (n:Nat)] H->ta σ H R)(hn:n<=1000000)(hσ:bO AB σ=none::rest)
  (k:∀D,H D=none->∃Pv:Nat->List V->Hp->Prop,Pv 0 [] (upd H D (.lst []))/\(∀i ys H,i<=n->Pv i ys H->H D=some (.lst ys)) /\
   (∀i ys H,i < n->Pv i ys H->tt (some (.int (0+(i:Nat)))::rest) H λb H3=>if b=true then te (some (.int (0+(i:Nat)))::rest) H3 λy H4=>H4 D=some (.lst ys)/\ys.length < sizeLine/\Pv (i+1) (ys++[y]) (upd H4 D (.lst (ys++[y]))) else Pv (i+1) ys H3) /\
   ∀ys H,Pv n ys H->Q (.ref D) H):gA (C_ ta) AB (aX 0) tt te σ H Q:=by
 refine⟨hw _ ⟨(n:Nat),rfl,by omega,by omega,λD hD=>?_⟩⟩
 obtain⟨Pv,h0,h1,h2,h3⟩:=k D hD
 have e:((n:Nat):Int).toNat=n:=rfl
 rw[e]
 exact Do hσ Pv h0 h1 h2 h3
abbrev Ti (K:PySem.W.Frag):List V->Hp->VK->Prop:=λxs H Q=>∃p ys,xs=[.ref p]/\((A0 K H p ys/\∀l,H l=none->Q (.ref l) (upd H l (.tup ys)))\/(B6 K H p ys/\Q (.ref p) H))
def Qv (K:W.Frag)(aS:Addr):TE:=gA (C_ (aO (LO (zz K) (aO (tC (.ref aS)) bx)) bx)) [none,some 2] (aX 0) ou
 (LO (Ti K) (aO (gA (xX K (aG 1)) [none,some 0] (aX 0) ou (L6 (vH K) (aG 0) (aG 1))) bx))
theorem xg {C:MC}{A:Addr->Prop}{H:Hp}:∀{l:List PV}{k:qq}{vs:List V},zI C A H vs l->oO l=some k->vs=k.map V.int
 | [],_,_,r,e=>by cases e;cases r;rfl
 | p::l,k,_,r,e=>by
  cases p <;> first | (cases e;done) | skip
  obtain⟨k2,h2,e⟩:=al.mp (show ((oO l).bind _)=_ from e)
  cases e
  cases r with
  | cons h t=>cases h;rw[xg t h2];rfl
theorem xj {C:MC}{A:Addr->Prop}{H:Hp}{m:Nat}:∀{ls:List PV}{rows:List (List Int)}{zs:List V},zI C A H zs ls->uM m ls=some rows->zs.length=rows.length/\∀(j:Nat) (z:V),zs[j]?=some z->∃a row,z=.ref a/\H a=some (.lst (row.map V.int))/\rows[j]?=some row/\row.length=m
 | [],_,_,r,e=>by cases e;cases r;exact⟨rfl,λj z h=>by simp at h⟩
 | p::ls,rows,_,r,e=>by
  cases p <;> first | (cases e;done) | skip
  rename_i l
  obtain⟨k,h1,e⟩:=al.mp (show ((oO l).bind _)=_ from e)
  obtain⟨q,h2,e⟩:=al.mp e
  split at e
  ·rename_i hk
   cases e
   cases r with
   | cons h t=>
    obtain⟨l1,l2⟩:=xj t h2
    refine⟨by simp[l1],λj z hz=>?_⟩
    cases j with
    | zero=>
     simp at hz
     subst hz
     cases h with
     | lst e _ r=>exact⟨_,k,rfl,by rw[← xg r h1];exact e,rfl,hk⟩
    | succ j=>exact l2 j z (by simpa using hz)
  ·cases e
theorem nb2 {m:Nat}{aS lv:Addr}{us zs:List V}{ls:List PV}{rows:List (List Int)}{v0 v1:Option V}{R:VK}(hS:B6 C.K (λ_=>none) aS us)(hu:us.length=m)(hm:m<=1000)(hlv:H lv=some (.lst zs))(hz:zs.length<=1000)(rz:zI C F H zs ls)(hr:uM m ls=some rows)
  (q:∀H' D Ic,zS H H'->H D=none->H' D=some (.lst Ic)->zI C F H' Ic (((List.range m).map λi=>rows.map λk=>k.getD i 0).map A9)->R (.ref D) H'):Qv C.K aS [v0,v1,some (.ref lv)] H R:=by
 obtain⟨lz,rowAt⟩:=xj rz hr
 refine Eh (n:=m) (rest:=[some (.ref lv)]) (λR r=>?_) (by omega) rfl λD hD=>?_
 ·exact⟨aS,us,rfl,.inr (kO hS),by rw[hu];exact r⟩
 ·refine⟨λi ys Hi=>zS H Hi/\Hi D=some (.lst ys)/\ys.length=i/\zI C (λ_=>False) Hi ys (((List.range i).map λi=>rows.map λk=>k.getD i 0).map A9),⟨aL hD _,az,rfl,.nil⟩,λi ys Hi _ h=>h.2.1,?_,λys Hi ⟨s,d,l,r⟩=>q Hi D ys s hD d (r.ex (aV λ_ _ _ z=>z.elim))⟩
  rintro i ys Hi hi ⟨s,d,l,r⟩
  dsimp only [ou]
  refine jh ?_
  have Wz:=s _ _ hlv
  refine Bd (a:=lv) (us:=zs) (rest:=[some (.int (0+(i:Nat)))]) (λR r=>⟨_,rfl,r⟩) rfl (A0.of Wz) λD2 WA=>?_
  refine⟨λj P5 Hj=>zS Hi Hj/\Hj D2=some (.lst P5)/\P5=(rows.take j).map λk=>V.int (k.getD i 0),⟨aL WA _,az,by simp⟩,λj P5 Hj _ h=>⟨A0.of (h.1 _ _ Wz),h.2.1⟩,λj z P5 Hj hz2 ⟨s2,d2,l2⟩=>?_,λP5 Hj ⟨s2,d2,l2⟩=>?_⟩
  ·dsimp only [ou]
   refine jh ?_
   obtain⟨a,row,rfl,ha,WB,hlen⟩:=rowAt j z hz2
   have hj:j < rows.length:=(ag.mp WB).1
   refine⟨_,rfl,_,rfl,a,row.map V.int,_,.int (row.getD i 0),rfl,rfl,A0.of (s2 _ _ (s _ _ ha)),?_,d2,bY ?_,s2.over WA _,az,?_⟩
   ·unfold B5 Kk
    have LD:i < row.length:=by omega
    have e1:(0:Int)<=0+(i:Nat):=by omega
    simp[LD]
   ·rw[l2,ba,gX];omega
   ·rw[l2,List.take_add_one,WB];simp
  ·refine⟨D2,P5,rfl,.inl ⟨A0.of d2,λt ht=>?_⟩⟩
   rw[lz,ow] at l2
   have dj:Hj D=some (.lst ys):=s2 _ _ d
   have st:=aL ht (.tup P5)
   have nDt:D≠t:=aq dj ht
   refine⟨st _ _ dj,bY (by omega),((s.trans s2).trans st).over hD _,az,by simp[l],?_⟩
   have ex:Ex (λ_=>False) Hi (λ_=>False) (upd (upd Hj t (.tup P5)) D (.lst (ys++[.ref t]))):=λx o e=>⟨λz=>z.elim,λm=>by
    rw[ao (show x≠D from λz=>by rw[z,d] at e;cases e;cases m)]
    exact st x o (s2 x o e)⟩
   have er:(List.range (i+1)).map (λi=>rows.map λk=>k.getD i 0)=(List.range i).map (λi=>rows.map λk=>k.getD i 0)++[rows.map λk=>k.getD i 0]:=by rw[List.range_succ,cf];rfl
   rw[er,cf]
   refine(r.ex ex).append (.cons (.tup (vs:=P5) (by rw[ao nDt.symm,az]) ?_) .nil)
   rw[l2,gg]
   exact j5 _ _ (λk=>.int _) rows
def Zm (C:MC)(cn:Nat)(pb:List PV->Option PV)(S:List PV)(aS:Addr):TS:=cu (gO (Qu C cn pb S) (aX 2)) (jd (Qv C.K aS))
theorem Qw {S:List PV}{aS:Addr}{E:XK}(hS:qp C aS S)(hm:S.length<=1000)(h:zE C cn pb S vs H Q E):Zm C cn pb S aS { nx:=λ_ H'=>Q .Au H',rt:=Q } (L2.start ["walks","node","later"] vs) H:=by
 obtain⟨F,cs,ws,ns,nodes,EN,wl,vn,rfl,ne,T,W,Ee,nwF,F9,hz,rn,hn,q⟩:=h
 obtain⟨us,PZ,UT⟩:=hS
 have oK:us.length=S.length:=(UT F H).length
 obtain⟨⟨ls,w2⟩,hF,hn⟩:=al.mp hn
 obtain⟨rows,hr,hn⟩:=al.mp hn
 cases hn
 obtain⟨b,vs,rfl,hb,rb⟩:=Ap.tup (.inl rn)
 have ev:=qt rb
 subst ev
 unfold Zm
 dsimp only [cu,gO,jd,aX]
 obtain⟨c,hc⟩:=ja _ ne
 obtain⟨i,hi⟩:=eC.mp hc
 have LD:i < ws.length:=by rw[← W.len];exact(ag.mp hi).1
 have dm:=(W.all i c _ hi (ai LD)).2.dm
 refine nb1 (rest:=[none]) T W Ee F9 hz hb hF (λD e z=>by obtain⟨o,e'⟩:=dm D z;rw[e] at e';cases e') λH1 F1 D zs k1 g1 W1 hD nD d1 r1=>?_
 obtain⟨l1,l2,l3⟩:=vV hF
 have lz:zs.length=ls.length:=r1.length
 have lc:=W.len
 refine nb2 (C:=C) (F:=F1) (us:=us) (zs:=zs) (ls:=ls) PZ oK hm d1 (by omega) r1 hr λH' D2 Ic s WA d2 r2=>?_
 have Zn:∀b,F1 b->∃o,H1 b=some o:=(W1.all i c _ hi (ai (by have:=W1.len;omega))).2.dm
 exact q H' F1 D2 Ic (λx o e n=>s x o (k1 x o e n)) g1 (W1.same s) (k1.UU W1 WA) (λz=>by obtain⟨o,e⟩:=Zn D2 z;rw[WA] at e;cases e) d2 r2
end Lake.MR
namespace Lake.L2
open PySem PySem.Spec PyProof.Rows
theorem nM:fillsNumberSlot (.type "tuple") "mul" = pure false:=
 PySem.fillsNumberSlot_seq (id := "tuple.__mul__") (r:=some (.builtin "tuple.__rmul__")) lf.lookup (by decide +kernel) (by rw[kg,h9];kernel_rfl) (by decide +kernel)
theorem Be:typeLookup (.type "tuple") "__rmul__" = pure (some (.builtin "tuple.__rmul__")):=by rw[kg,h9];kernel_rfl
theorem uN:seqRepeat? (.type "tuple")=pure (some (.builtin "tuple.__mul__")):=by
 unfold seqRepeat?
 rw[PySem.seqSlot_of (T := "tuple") (name := "__mul__") (id := "tuple.__mul__") lf.lookup (by decide +kernel),PySem.seqSlot_of (T := "tuple") (name := "__rmul__") (id := "tuple.__rmul__") Be (by decide +kernel)]
 rfl
theorem zF (a:Int)(t:Tok)(l:Addr)(items:qv)(n:Nat)(sl:Array (Option Value)):Meets (Builtin.«int.__rmul__» ⟨[.int a t,.ref l],[]⟩) (λ_ R s=>s.heap.get? l=some { cls:=.type "tuple",dict:=none,data:=.seq items n,slots:=sl }/\R (.ok (.ret Value.notImplemented)) s):=
 .of_wp λprog w A R s h=>by
  obtain⟨hp,g,d,tk,os⟩:=s
  obtain⟨h1,h⟩:=h
  wp_walk
  exact⟨_,rfl,h⟩
theorem Bf (l:Addr)(t:Tok)(items:qv)(n:Nat)(sl:Array (Option Value)):Meets (Builtin.«tuple.__mul__» ⟨[.ref l,.int 1 t],[]⟩) (λ_ R s=>s.heap.get? l=some { cls:=.type "tuple",dict:=none,data:=.seq items n,slots:=sl }/\R (.ok (.ret (.ref l))) s):=
 .of_wp λprog w A R s h=>by
  obtain⟨hp,g,d,tk,os⟩:=s
  obtain⟨h1,h⟩:=h
  unfold Builtin.«tuple.__mul__»
  wp_walk
  exact⟨_,rfl,h⟩
theorem Bg (l:Addr)(t:Tok)(u:Value)(n:Nat)(sl:Array (Option Value)):Meets (Builtin.«tuple.__mul__» ⟨[.ref l,.int 2 t],[]⟩) (λ_ R s=>s.heap.get? l=some { cls:=.type "tuple",dict:=none,data:=.seq #[u] n,slots:=sl }/\R (.ok (.ret (.ref s.heap.objs.size))) { s with heap:=s.heap.push { cls:=.type "tuple",data:=.seq #[u,u] } }):=
 .of_wp λprog w A R s h=>by
  obtain⟨hp,g,d,tk,os⟩:=s
  obtain⟨h1,h⟩:=h
  unfold Builtin.«tuple.__mul__»
  wp_walk
  exact⟨_,rfl,h⟩
section
variable {X:Cx}
def Ks:R2:=λx y H Q=>∃t u,x=.ref t/\H t=some (.tup [u])/\((y=.int 1/\Q (.ref t) H)\/(y=.int 2/\∀l,H l=none->Q (.ref l) (upd H l (.tup [u,u]))))
theorem LQ:BN X (binaryOp .Mult) Ks:=by
 intro zC s σ H x y v u Q I rx ry h
 obtain⟨t,a,rfl,ht,h⟩:=h
 cases rx
 obtain⟨_,As,r,⟨c,dd,da,sl⟩,e1,e2,n,e3,e4⟩:=(show AF X.prog X.w X.K H s.heap t (.tup [a]) from I.AK t _ ht)
 simp only at e2 e3 e4
 subst e2 e3 e4
 obtain⟨w,rfl,rw1⟩:=Vals.one r
 have T:s.TypeIs (.ref t) "tuple" := ⟨_,e1,rfl⟩
 rcases h with ⟨rfl,q⟩ | ⟨rfl,q⟩
 ·obtain⟨tk,rfl⟩:=ry
  exact mS (T := "tuple") (U := "int") (by decide) T (λs'=>oI s' 1 tk) nM F.fills_int_mul l7 uN F.slot_int_index.lookup
   (k9 l7 (oI s 1 tk) F.entry_int_rmul (F.args_int_rmul_2 _ _) (zF 1 tk t _ n sl) ⟨e1,rfl,T,k9 lf T F.entry_tuple_mul (F.args_tuple_mul_2 _ _) (Bf t tk _ n sl) ⟨e1,.ref t,H,I,rfl,q⟩⟩)
 ·obtain⟨tk,rfl⟩:=ry
  refine mS (T := "tuple") (U := "int") (by decide) T (λs'=>oI s' 2 tk) nM F.fills_int_mul l7 uN F.slot_int_index.lookup
   (k9 l7 (oI s 2 tk) F.entry_int_rmul (F.args_int_rmul_2 _ _) (zF 2 tk t _ n sl) ⟨e1,rfl,T,k9 lf T F.entry_tuple_mul (F.args_tuple_mul_2 _ _) (Bg t tk w n sl) ⟨e1,?_⟩⟩)
  exact⟨.ref s.heap.objs.size,_,I.laid (t':=s.toks) (λb o e=>ac _ e) (aE _) (show AF X.prog X.w X.K _ _ _ (.tup [a,a]) from ⟨by show (2:Nat)<=sizeLine;decide,[w,w],.cons rw1 (.cons rw1 .nil),⟨_,ar _ rfl,rfl,0,rfl,rfl⟩⟩),rfl,q _ I.fresh⟩
def uO (i:Nat)(f:Addr)(sp:Sp)(t:TA):TE:=fun σ H Q=>σ[i]?=some (some (.ref f))/\t σ H λvs H1=>sp vs H1 Q E0
theorem Jm {k i:Nat}{f:Addr}{fd:FuncData}{ps:qo}{sp:Sp}{x:Str}{p pos:Pos}{e:Expr}{es:qk}{t:TA}(F:A4 X.prog X.w X.K X.mg X.base EJ k f fd ps sp)(hr:AR k X.A)(hk:W.keepIn X.K (.ref f)=true)(hb:Binds X.K fd ps [])(ha:PA X (e::es) t)
  (hN:X.N[i]?=some x:=by rfl) (hv:LZ X.env.scope x:=by first | exact eT rfl | exact e9 (eT rfl) | exact e9 (e9 rfl)) (hd:(x == ("__debug__" : Str))=false:=by decide) (D9:(x == ("__classdict__" : Str))=false:=by decide)
  (he:starEach (e::es) X.env=(false,eval e X.env)::starEach es X.env:=by rfl) (A8:(backTo pos (starEach es X.env)).any (·.1)=false:=by rfl):PE X (.Call (.Name x p) (e::es) [] pos) (uO i f sp t):=by
 intro zC s σ H Q I ⟨hσ,h⟩
 refine ga (AM ((iD hN hv hd D9) zC s σ H (λv H1=>v=.ref f/\t σ H1 λvs H2=>sp vs H2 Q E0) I ⟨_,hσ,rfl,h⟩) ?_)
 rintro u s1 ⟨v,H1,I1,r1,e1,h1⟩
 subst e1
 cases (show u=Value.ref f from r1)
 refine kr (h₀:=X.base) I.ok.mod.ED hk (AM (ha pos zC s1 σ H1 _ I1 h1) λus s2 ⟨vs,H2,I2,r,q⟩=>⟨I2.B8,?_⟩) he A8
 exact yJ F hr hb .nil uy I2 r (by rw[br];exact q)
end
end Lake.L2
namespace Lake.MR
open PySem L2
inductive Zo (C:MC) (A:Addr->Prop) (H:Hp):List Addr->List (List PV)->Prop
 | nil:Zo C A H [] []
 | cons {c:Addr}{cs:qr}{us:List V}{ys:List PV}{yss:List (List PV)}:H c=some (.lst us)->zI C A H us ys->Zo C A H cs yss->Zo C A H (c::cs) (ys::yss)
noncomputable def XH (i:Nat)(f:Env->Option Out)(env:Env):Option Out:=(f (env.set i none)).bind λo=>match o with
 | .nx e=>some (.nx (e.set i (env.getD i none)))
 | _=>none
@[simp] noncomputable def uP:PV->PV->PV->Option PV
 | .dK kvs,y,z=>(keyOf y).map λk=>(aJ kvs k).getD z
 | .dT kvs,.tup ys,z=>(AD ys).map λk=>(aJ kvs k).getD z
 | _,_,_=>none
section
variable {X:Cx}{b:BX}{G:qc}{apos AG:Pos}{m1 m2:Md}{e1 e2 e3:Expr}{f1 f2 f3:qB}
theorem vW {j:Nat}(hr:AR j X.A)(h1:SE X b G m1 e1 f1)(h2:SE X b G m2 e2 f2)(h3:SE X b G .val e3 f3)(m:M2 X e1 "get" apos e2 e3 AG:=by exact⟨rfl,rfl,rfl,rfl⟩)(hK:X.K=b.C.K:=by rfl):SE X b G .val (.Call (.Attribute e1 "get" apos) [e2,e3] [] AG) (b3 uP f1 f2 f3):=by
 refine PE.imp (su (dh hr) h1.bor h2.bor h3 m) fun σ H Q h=>?_
 obtain⟨Ow,env,p,E,hf,k⟩:=h
 obtain⟨p1,q1,z1⟩:=aA hf
 clear hf
 obtain⟨p2,q2,z2⟩:=aA z1
 clear z1
 obtain⟨p3,q3,hf⟩:=aA z2
 clear z2
 refine⟨Ow,env,p1,E,q1,λv1 H1 s1 r1=>?_⟩
 unfold uP at hf
 split at hf
 ·rename_i kvs
  obtain⟨ky,hk,e⟩:=bX.mp hf
  obtain⟨a,kv,rfl,ha,ra⟩:=r1.dK
  refine⟨a,rfl,.inl ⟨kv,.inl ha⟩,Ow,env,p2,E.up s1,q2,λv2 H2 s2 r2=>⟨Ow,env,p3,(E.up s1).up s2,q3,λv3 H3 s3 r3=>?_⟩⟩
  have UM:Ap b.C (Bs b Ow) H2 v2 p2:=r2
  rw[UM.key hk]
  have Zp:=s3 _ _ (s2 _ _ ha)
  refine⟨_,A5.k Zp,k _ H3 ((s1.trans s2).trans s3) ?_⟩
  unfold aJ at e
  rcases AJ.val (k:=ky) ra with ⟨v,p',g1,g2,rv⟩ | ⟨g1,g2⟩
  ·rw[g2] at e
   rw[g1,← e]
   exact rv.ex (.of_same (s2.trans s3))
  ·rw[g2] at e
   rw[g1,← e]
   exact r3
 ·rename_i kvs ys
  obtain⟨ky,hk,e⟩:=bX.mp hf
  obtain⟨a,kv,rfl,ha,ra⟩:=r1.dT
  refine⟨a,rfl,.inr ⟨kv,.inl ha⟩,Ow,env,_,E.up s1,q2,λv2 H2 s2 r2=>⟨Ow,env,p3,(E.up s1).up s2,q3,λv3 H3 s3 r3=>?_⟩⟩
  have UM:Ap b.C (Bs b Ow) H2 v2 (.tup ys):=r2
  obtain⟨c,vs,rfl,hc,rc⟩:=UM.tup
  have Zp:=s3 _ _ (s2 _ _ ha)
  refine⟨_,A5.t Zp (by rw[hK];exact(hc.up s3).key ((rc.ex (.of_same s3)).AD hk)),k _ H3 ((s1.trans s2).trans s3) ?_⟩
  unfold aJ at e
  rcases AN.val (k:=ky) ra with ⟨v,p',g1,g2,rv⟩ | ⟨g1,g2⟩
  ·rw[g2] at e
   rw[g1,← e]
   exact rv.ex (.of_same (s2.trans s3))
  ·rw[g2] at e
   rw[g1,← e]
   exact r3
 ·cases hf
end
end Lake.MR
namespace Lake.My
open PySem L2 MR
@[simp] theorem T4 (i j:Int):F4 (.int i) (.int j)=some (decide (i=j)):=rfl
@[simp] theorem T5 (i j:Str):F4 (.str i) (.str j)=some (decide (i=j)):=rfl
@[simp] theorem Uj (i j:Bool):F4 (.bl i) (.bl j)=some (decide (i=j)):=rfl
theorem d_ {α:Type}{xs:List α}{k:Nat}{x:α}(h:xs[k]?=some x):B5 xs (k:Int)=some x:=K9 h
section
variable {α:Type}{env:MR.Env}{g:PV->MR.Env->Option MR.Env}{t:MR.Env->Option Bool}{f:MR.Env->Option PV}
theorem qu (c h:α->PV):∀(ys:List α),(∀y∈ys,∃e,g (c y) env=some e/\f e=some (h y))->dq env g jB f (ys.map c)=some (ys.map h)
 | [],_=>rfl
 | y::ys,hh=>by
  obtain⟨e,h1,h2⟩:=hh y am
  have ih:=qu c h ys λz hz=>hh z (af _ hz)
  simp[dq,h1,h2,ih]
theorem qw (c h:α->PV)(p:α->Bool):∀(ys:List α),(∀y∈ys,∃e,g (c y) env=some e/\t e=some (p y)/\(p y=true->f e=some (h y)))->dq env g t f (ys.map c)=some ((ys.filter p).map h)
 | [],_=>rfl
 | y::ys,hh=>by
  obtain⟨e,h1,h2,h3⟩:=hh y am
  have ih:=qw c h p ys λz hz=>hh z (af _ hz)
  cases hp:p y with
  | true=>simp[dq,h1,h2,h3 hp,ih,hp]
  | false=>simp[dq,h1,h2,ih,hp]
end
theorem lU {α:Type}(c:α->PV):∀(ys:List α) (n:Nat),eX n (ys.map c)=(ys.zipIdx n).map λy=>.tup [.int (y.2:Nat),c y.1]
 | [],_=>rfl
 | y::ys,n=>by simp[eX,lU c ys]
end Lake.My
namespace Lake.MR
open PySem L2 PyProof.Rows PySem.Spec
theorem WD {BS scope:Scope}{ON N:qo}{AB:List (Option Nat)}(h1:scope.kind=.function:=by rfl)(h2:∀y∈scope.names,y.2≠.cell:=by decide +kernel)(h3:∀y∈scope.names,y.2=.local->scope.names.lookup y.1=some .local:=by decide +kernel)
  (h4:∀y∈scope.names,y.2=.free->BS.names.lookup y.1=some .cell\/BS.names.lookup y.1=some .free:=by decide +kernel) (h5:oh scope ON N AB=true:=by decide +kernel):OB BS scope ON N AB:=⟨h1,h2,h3,h4,h5⟩
theorem DS {N P:qo}{sc:Scope}(h1:sc.kind=.function:=by rfl)(h2:sc.isCoroutine=false:=by rfl)(h3:sc.isGenerator=false:=by rfl)(h4:N.Nodup:=by decide +kernel)(h5:N.take P.length=P:=by rfl)
  (h6:∀x∈P,sc.names.lookup x=some .local\/sc.names.lookup x=some .cell:=by decide +kernel) (h7:∀y∈sc.names,y.2≠.free:=by decide +kernel):AA N P sc:=⟨h1,h2,h3,h4,h5,h6,h7⟩
theorem vX {X:Cx}{N:qo}{scope:Scope}{C s H fp}{x:Str}{pos:Pos}(i:Nat)(hN:N.Nodup:=by decide +kernel)(hi:N[i]?=some x:=by rfl)(hx:Loc (X.comp N scope C s H fp).env.scope x:=by exact eT rfl)
  (hf:(X.comp N scope C s H fp).fn x=true\/(X.comp N scope C s H fp).env.scope.names.lookup x=some .local:=by first | exact .inl rfl | exact .inr rfl | assumption):PG (X.comp N scope C s H fp) (.Name x pos) (aX i):=cI hN hi hx hf
section
variable {P:Program}{w:World}{K:W.Frag}{mg:Str->Option Value}{base:Heap}
theorem Fu {x qual:Str}{st:Stmt}{f:Addr}{fd:FuncData}{N ps:qo}{k n kk:Nat}{C:MC}{ro:Bool}{g:Env->Option Out}(F:DI K x qual st f fd)(S:AA N ps (aC st))(G G' L:qc)
  (hb:∀{C1:Value}{A:Around}{outer:List PySem.Env}{s:Shared}{H:Hp}{E:XK},AR k (A.deeper (envOfC qual (aC st) s.heap.objs.size f C1))->∀{B H'},JA (sr EJ P w K mg base N qual (aC st) f C1 A outer s H E).K0 ⟨C,B,H',λ_=>none⟩ G G' L ro (d7 st) g)
  (hp:kk=ps.length:=by rfl) (hN:N.length=n:=by rfl) (hk:kk<=n:=by decide) (hG:(G.all λi=>decide (kk<=i))=true:=by decide):A4 P w K mg base EJ (k+1) f fd ps (C2 C (cD n kk ro g) ro):=
 F.ok S (λvs H Q E h=>(Lq h).trans hp) λC1 A outer s H vs Q E hr h=>Lp hN hk hG (λB H'=>hb hr) h
end
end Lake.MR
namespace Lake.L2
open PySem MR
section
variable {K:W.Frag}{x q:Str}{st:Stmt}{f:Addr}{fd:FuncData}{ps:qo}(F:DI K x q st f fd)
include F
theorem DI.So (hl:ps.length=1:=by rfl)(h:∀k d p n c t a,bindArgs (W.fnOf x q (gw st) (d7 st) (aC st) .none k d p n c t) ⟨[a],[]⟩=pure (ps.zip [a]):=by intros;rfl):Binds K fd ps []:=F.binds λk d p n c t us e=>Qg us (e.trans hl) (h k d p n c t)
theorem DI.IM (hl:ps.length=2:=by rfl)(h:∀k d p n c t a b,bindArgs (W.fnOf x q (gw st) (d7 st) (aC st) .none k d p n c t) ⟨[a,b],[]⟩=pure (ps.zip [a,b]):=by intros;rfl):Binds K fd ps []:=F.binds λk d p n c t us e=>Qh us (e.trans hl) (h k d p n c t)
theorem DI.Zr (hl:ps.length=3:=by rfl)(h:∀k d p n c t a b g,bindArgs (W.fnOf x q (gw st) (d7 st) (aC st) .none k d p n c t) ⟨[a,b,g],[]⟩=pure (ps.zip [a,b,g]):=by intros;rfl):Binds K fd ps []:=F.binds λk d p n c t us e=>Qi us (e.trans hl) (h k d p n c t)
theorem DI.bd4 (hl:ps.length=4:=by rfl)(h:∀k d p n c t a b g i,bindArgs (W.fnOf x q (gw st) (d7 st) (aC st) .none k d p n c t) ⟨[a,b,g,i],[]⟩=pure (ps.zip [a,b,g,i]):=by intros;rfl):Binds K fd ps []:=F.binds λk d p n c t us e=>Th us (e.trans hl) (h k d p n c t)
end
open PySem PySem.Spec PyProof.Rows
section
variable {X:Cx}
def yg (K:W.Frag):R2:=λx y H Q=>∃a b ys,x=.ref a/\y=.ref b/\B6 K H a []/\B6 K H b ys/\Q (.ref b) H
theorem LR:BN X (binaryOp .Add) (yg X.K):=by
 intro zC s σ H x y v u Q I rx ry h
 obtain⟨a,b,ys,rfl,rfl,ha,hb,q⟩:=h
 cases rx
 cases ry
 obtain⟨As,r1,p1,_⟩:=I.tuple ha
 obtain⟨CU,r2,p2,_⟩:=I.tuple hb
 cases r1
 obtain⟨⟨cls,dd,data,sl⟩,ho,hc,n,hd⟩:=id p1
 obtain⟨⟨VW,RH,data2,RI⟩,Oy,Ki,n2,hd2⟩:=id p2
 simp only at hc hd Ki hd2
 subst hc hd Ki hd2
 exact concat_meets ⟨_,ho,rfl⟩ ⟨_,Oy,rfl⟩ oq pV kG kB (jI _ _)
  (tuple_addW0 a b _ CU.toArray n n2 dd RH sl RI (by simp)) ⟨ho,Oy,⟨.ref b,H,I,rfl,q⟩⟩
end
end Lake.L2
namespace Lake.MR
open PySem L2 PyProof.Rows PySem.Spec
noncomputable def oR:PV->PV->Option PV
 | .tup [],.tup ys=>some (.tup ys)
 | .tup xs,.tup ys=>if xs.length+ys.length<=1000000 then some (.tup (xs++ys)) else none
 | _,_=>none
@[simp] theorem SJ (ys:List PV):oR (.tup []) (.tup ys)=some (.tup ys):=id rfl
@[simp] theorem Ei (x:PV)(xs ys:List PV):oR (.tup (x::xs)) (.tup ys)=if (x::xs).length+ys.length<=1000000 then some (.tup ((x::xs)++ys)) else none:=id rfl
section
variable {X:Cx}{b:BX}{G L:qc}{ro:Bool}{pos apos AG:Pos}{m1 m2:Md}{e1 e2:Expr}{f1 f2:qB}
theorem Jo:F3 b .val (λx y H Q=>uv b.C.K x y H Q\/yg b.C.K x y H Q) oR:=by
 intro Ow H v1 v2 p1 p2 p Q hn r1 r2 e k
 unfold oR at e
 split at e
 ·cases e
  obtain⟨a,vs,rfl,ha,ra⟩:=r1.tup
  obtain⟨c,us,rfl,hc,rc⟩:=r2.tup
  cases ra
  exact .inr ⟨a,c,us,rfl,rfl,ha.sq,hc.sq,k _ H (zS.refl _) (hc.rep rc)⟩
 ·rename_i xs ys AU
  split at e
  ·rename_i h
   cases e
   refine .inl (Lg Ow H v1 v2 (.tup xs) (.tup ys) (.tup (xs++ys)) Q hn r1 r2 ?_ k)
   show (if xs≠[]/\xs.length+ys.length<=1000000 then some (PV.tup (xs++ys)) else none)=_
   rw[a0 ⟨λz=>AU z,h⟩]
  ·cases e
 ·cases e
theorem L_:BN X (binaryOp .Add) (λx y H Q=>uv X.K x y H Q\/yg X.K x y H Q):=λzC s σ H x y v u Q I rx ry h=>h.elim (K8 zC s σ H x y v u Q I rx ry) (LR zC s σ H x y v u Q I rx ry)
theorem Jp (h1:SE X b G m1 e1 f1)(h2:SE X b G m2 e2 f2)(hK:X.K=b.C.K:=by rfl):SE X b G .val (.BinOp e1 .Add e2 pos) (b2 oR f1 f2):=qP (r:=λx y H Q=>uv b.C.K x y H Q\/yg b.C.K x y H Q) (by rw[← hK];exact L_) Jo h1 h2
end
end Lake.MR
namespace Lake.L2
open PySem PySem.Spec PyProof.Rows
section
variable {prog:Program}{w:World}{A:Around}{E:oT}{s:Shared}{a:Addr}
theorem xm:entryFor table "dict.update.loop" = some Builtin.«dict.update.loop»:=entryFor_of_tree (by kernel_rfl)
abbrev LF (prog:Program)(w:World):=cY prog w
theorem zG {h h':Heap}(k:∀b o,h.get? b=some o->o.cls=.type "tuple" -> h'.get? b=some o):∀(n:Nat) (x:zD) (v:Value),Co n h x v->Co n h' x v
 | 0,_,_,q=>q
 | n+1,x,v,q=>q.imp id λ⟨ns,a,e,ev,o,As,m,h1,h2,h3,p⟩=>⟨ns,a,e,ev,o,As,m,k a o h1 h2,h2,h3,eQ p λx y=>zG k n x y⟩
theorem q9 {h h':Heap}{ks:List zD}{b:Addr}(e:(LF prog w).is h ks b)(k:∀b o,h.get? b=some o->o.cls=.type "tuple" -> h'.get? b=some o):(LF prog w).is h' ks b:=by
 obtain⟨o,As,n,h1,h2,h3,r⟩:=e
 exact⟨o,As,n,k b o h1 h2,h2,h3,eQ r λx y=>zG k 2 x y⟩
theorem zH {h:Heap}{ks:List zD}{b:Addr}(e:(LF prog w).is h ks b):∃o,h.get? b=some o/\o.cls=.type "tuple" := by
 obtain⟨o,As,n,h1,h2,r⟩:=e
 exact⟨o,h1,h2⟩
theorem oU {h h':Heap}{d:Addr}{xs:List (List zD×Addr×Value)}(m:AQ (LF prog w) h d xs)(k:∀b o,h.get? b=some o->(b=d\/o.cls=.type "tuple")->h'.get? b=some o):AQ (LF prog w) h' d xs:=by
 obtain⟨o,es,o1,o2,o3,o4,o5,o6⟩:=m
 refine⟨o,es,k d o o1 (.inl rfl),o2,o3,o4,λx hx=>?_,o6⟩
 obtain⟨ob,h1,h2⟩:=zH (o5 x hx)
 exact q9 (o5 x hx) λb o' e q=>k _ _ e (.inr q)
def oV (prog:Program)(w:World)(h:Heap)(p:List zD×Addr×Value)(u:Value):Prop:=∃t,u=.ref t/\IsTup h t #[.ref p.2.1,p.2.2]/\(LF prog w).is h p.1 p.2.1
theorem GK (h:Heap):AQ (LF prog w) (h.push { cls:=.type "dict",data:=.dict #[] }) h.objs.size []:=⟨_,#[],ar _ rfl,⟨rfl,rfl,rfl⟩,rfl,rfl,(λx hx=>absurd hx dc),List.nodup_nil⟩
end
inductive EI (K:W.Frag) (H:Hp):List V->List (List zD×V)->Prop where
 | nil:EI K H [] []
 | cons {t b:Addr}{ks:List zD}{v:V}{ts:List V}{kvs:List (List zD×V)}(h:H t=some (.tup [.ref b,v])\/EV K t [.ref b,v]) (k:Cc K H b ks) (r:EI K H ts kvs):EI K H (.ref t::ts) ((ks,v)::kvs)
noncomputable def gU (kvs more:List (List zD×V)):List (List zD×V):=more.foldl (λacc kv=>putK acc kv.1 kv.2) kvs
theorem pI:∀(more kvs:List (List zD×V)),(gU kvs more).length<=kvs.length+more.length
 | [],kvs=>aE _
 | p::more,kvs=>by
  have h:=pI more (putK kvs p.1 p.2)
  have h2:(putK kvs p.1 p.2).length<=kvs.length+1:=by unfold putK;split <;> simp
  show (gU (putK kvs p.1 p.2) more).length<=_
  simp only[bv]
  omega
theorem xn {P:Program}{w:World}{K:W.Frag}{H:Hp}{h:Heap}(ED:K.In h)(ok:CY P w K H h):∀{ts:List V}{kvs:List (List zD×V)}{As:qf},EI K H ts kvs->Vals ts As->∃rs:List (List zD×Addr×Value),KT K H kvs rs/\Paired (oV P w h) rs As
 | _,_,_,.nil,r=>by cases r;exact⟨[],.nil,.nil⟩
 | _,_,_,.cons (t:=t) (b:=b) (ks:=ks) (v:=v) e ck q,r=>by
  cases r with
  | cons r1 r2=>
   cases r1
   obtain⟨rs,h1,h2⟩:=xn ED ok q r2
   obtain⟨us,hv,ht⟩:∃us,Vals [.ref b,v] us/\IsTup h t us.toArray:=by
    rcases e with e | ⟨o,As,n,e1,e2,e3,_,r⟩
    ·obtain⟨_,us,hv,ht⟩:=(show AF P w K H h t (.tup [.ref b,v]) from ok t _ e)
     have ht:=ht.tup
     exact⟨us,hv,ht⟩
    ·exact⟨As.toList,r,o,ED t o e1,e2,n,by simpa using e3⟩
   obtain⟨ku,vu,rfl,rk,rv⟩:=vals2 hv
   cases rk
   exact⟨(ks,b,vu)::rs,.cons ⟨rfl,ck,rv⟩ h1,.cons ⟨t,rfl,ht,jf ED ok ck⟩ h2⟩
theorem KT.merge {K:W.Frag}{H:Hp}:∀{more:List (List zD×V)}{rs:List (List zD×Addr×Value)}{kvs:List (List zD×V)}{xs:List (List zD×Addr×Value)},KT K H more rs->KT K H kvs xs->KT K H (gU kvs more) (rs.foldl (λacc kv=>storedH acc kv.1 kv.2.1 kv.2.2) xs):=by
 intro more rs kvs xs r
 unfold KT at r
 induction r generalizing kvs xs with
 | nil=>intro q;exact q
 | @cons p q ps qs h t ih=>
  intro r0
  obtain⟨e,ck,rv⟩:=h
  refine ih ?_
  obtain⟨q1,q2,q3⟩:=q
  cases e
  exact KT.put r0 p.1 ck rv
end Lake.L2
namespace Lake.MR
open PySem L2 PyProof.Rows PySem.Spec
noncomputable def oW:List PV->Option (List (List zD×PV))
 | []=>some []
 | .tup [.tup k,v]::r=>(AD k).bind λk=>(oW r).bind λl=>some ((k,v)::l)
 | _::_=>none
@[simp] theorem Tj:oW []=some []:=id rfl
@[simp] theorem SM (k:List PV)(v:PV)(r:List PV):oW (.tup [.tup k,v]::r)=((AD k).bind λk=>(oW r).bind λl=>some ((k,v)::l)):=id rfl
noncomputable def iJ (l acc:List (List zD×PV)):List (List zD×PV):=l.foldl (λacc kv=>bD acc kv.1 kv.2) acc
theorem xq {C:MC}{A:Addr->Prop}{H:Hp}:∀{vs:List V}{xs:List PV}{l:List (List zD×PV)},zI C A H vs xs->oW xs=some l->∃kvs,EI C.K H vs kvs/\AN C A H kvs l
 | _,_,_,.nil,h=>by cases h;exact⟨[],.nil,.nil⟩
 | _,x::xs,l,.cons r1 r2,h=>by
  unfold oW at h
  split at h
  ·rename_i e;cases e
  ·rename_i k v r e
   obtain⟨e1,e2⟩:=List.cons.inj e
   subst e1 e2
   obtain⟨k',hk,h⟩:=aA h
   obtain⟨l',OO,h⟩:=aA h
   cases h
   obtain⟨kvs,h1,h2⟩:=xq r2 OO
   have q0:Ap C A H _ (.tup [.tup k,v]):=.inl r1
   obtain⟨a,us,rfl,ha,ra⟩:=q0.tup
   cases ra with
   | cons rk rv=>
    cases rv with
    | cons rv rn=>
     cases rn
     have q1:Ap C A H _ (.tup k):=.inl rk
     obtain⟨b,ks,rfl,hb,rb⟩:=q1.tup
     exact⟨_,.cons ha (hb.key (rb.AD hk)) h1,.cons rv h2⟩
  ·cases h
theorem uQ {C:MC}{A:Addr->Prop}{H:Hp}:∀{kvs:List (List zD×V)}{l:List (List zD×PV)}{a:List (List zD×V)}{b:List (List zD×PV)},AN C A H kvs l->AN C A H a b->AN C A H (gU a kvs) (iJ l b)
 | _,_,_,_,.nil,r=>r
 | (k,v)::kvs,(_,p)::l,a,b,.cons h t,r=>by
  show AN C A H (gU (putK a k v) kvs) (iJ l (bD b k p))
  exact uQ t (AN.put h r)
end Lake.MR
namespace Lake.L2
open PySem PySem.Spec PyProof.Rows
theorem zJ:typeLookup (.type "tuple") "keys" = pure none:=by rw[kg,h9];kernel_rfl
variable {sl:Array (Option Value)}
section
variable {prog:Program}{w:World}{A:Around}{E:oT}{s:Shared}{a:Addr}
theorem Ma {xs:qv}{k:Nat}{Q:Option Value->Shared->Prop}(hx:s.heap.get? a=some { cls:=.type "tuple",data:=.seq xs k,slots:=sl })(hA:A.handled=none)
  (hq:∀h' tk,(∀b o,s.heap.get? b=some o->h'.get? b=some o)->Q none { s with heap:=h',toks:=tk }):wpAny (model prog w) A (getAttr? (.ref a) "keys") Q E s:=by
 obtain⟨hp,g,d,tk,os⟩:=s
 have hT:∀X1,(⟨hp,g,d,X1,os⟩:Shared).TypeIs (.ref a) "tuple" := λ_=>⟨_,hx,rfl⟩
 have f1:=sub_AttributeError
 have f3:=jp.lookup
 have f4:=jp.bind (.ref a)
 have f5:=am_tuple_getattr_none
 unfold getAttr? getAttrBy? getAttrBy
 repeat (any_goals (first | assumption | exact hT _ | ((with_reducible show wpAny _ _ (call (Value.builtin "tuple.__getattribute__") _ _) _ _ _);refine k9 jp (hT _) am_entry_tuple_getattribute (F.args_tuple_getattribute_2 _ _) (meets_getattribute_miss_tuple a xs k sl "keys" _ zJ (by decide)) ⟨hx,hA,λh' X1 e MM=>?_⟩) | wp_step))
 obtain⟨t',u',he⟩:=MM.there
 show wpAny _ _ (getattributeRaised _ _ _ _ _ _ _) _ _ _
 unfold getattributeRaised
 repeat (any_goals (first | assumption | wp_step))
 exact hq _ _ MM.keeps
theorem Ku {R:Result->Shared->Prop}{dd it l:Addr}{items:qv}(hA:A.handled=none)(hu:(A.in1).units+3 < cLine)(nd:it≠dd)(nl:l≠dd)(WE:l≠it):∀(L:List (List zD×Addr×Value)) (rest:qf) (i:Nat) (kvs:List (List zD×Addr×Value)) (s:Shared),
  items.toList.drop i=rest->Paired (oV prog w s.heap) L rest->s.heap.IsTupleIter it l i->s.heap.IsTuple l items->AQ (LF prog w) s.heap dd kvs->kvs.length+L.length<=sizeLine->
  (∀h' tk,AQ (LF prog w) h' dd (L.foldl (λacc kv=>storedH acc kv.1 kv.2.1 kv.2.2) kvs)->(∀b o,b≠dd->b≠it->s.heap.get? b=some o->h'.get? b=some o)->R (.ok (.ret .none)) { s with heap:=h',toks:=tk })->
  codeAny (model prog w) A (.builtin "dict.update.loop" ⟨[.ref dd,.ref it,rawInt i,.none],[]⟩) R s
 | [],rest,i,kvs,s,hr,hp,hit,hl,hd,hz,hR=>by
  cases hp
  refine iP xm ?_
  unfold Builtin.«dict.update.loop»
  have hx:items[i]?=none:=by
   rw[Array.getElem?_eq_none_iff]
   have:=dv.mp hr
   simpa using this
  show wpAny _ _ (pyNext (.ref it) >>= _) _ _ _
  refine ab (wpAny_pyNext_tuple_end (A:=A.under _) hA hit hl hx λh1 x1=>?_)
  show wpAny _ _ (Builtin.Dict.addKeywords dd [] >>= _) _ _ _
  refine ab (ae (ae ?_))
  obtain⟨oi,WG,UO,_⟩:=hit
  refine hR h1 s.toks (oU hd λb o e q=>x1 b o (λz=>?_) e) λb o' _ n2 e=>x1 b o' n2 e
  rcases q with q | q
  ·exact nd (z.symm.trans q)
  ·rw[z,WG] at e;cases e;rw[UO] at q;exact absurd (i7 q) (by decide)
 | p::L,rest,i,kvs,s,hr,hp,hit,hl,hd,hz,hR=>by
  cases hp with
  | @cons _ u _ us hpu hp=>
   obtain⟨t,rfl,UQ,hk⟩:=hpu
   have hx:items[i]?=some (.ref t):=by
    have e:items.toList[i]?=some (.ref t):=by rw[← List.head?_drop,hr];rfl
    rw[← e];simp
   obtain⟨oi,WG,UO,hdi⟩:=id hit
   refine iP xm ?_
   unfold Builtin.«dict.update.loop»
   show wpAny _ _ (pyNext (.ref it) >>= _) _ _ _
   refine ab (og hit hl hx λh1 Zs X3=>?_)
   have Iy:∀{b:Addr}{o:Obj},s.heap.get? b=some o->o.cls=.type "tuple" -> b≠it:=λ{b o} e q z=>by rw[z,WG] at e;cases e;rw[UO] at q;exact absurd (i7 q) (by decide)
   have Sr:∀{b:Addr}{o:Obj},s.heap.get? b=some o->o.cls=.type "tuple" -> b≠dd:=λ{b o} e q z=>by
    obtain⟨od,es,hod,hex,_⟩:=hd
    rw[z,hod] at e;cases e;rw[hex.1] at q;exact absurd (i7 q) (by decide)
   obtain⟨ot,hot,hct,nt,hdt⟩:=id UQ
   have WH:h1.get? t=some ot:=(X3.2 t (Iy hot hct)).trans hot
   have hT:({ s with heap:=h1 }:Shared).TypeIs (.ref t) "tuple" := ⟨_,WH,hct⟩
   show wpAny _ _ (holding [.ref t] _ >>= _) _ _ _
   refine ab (ef ?_)
   refine ab (wpAny_tryCatch ?_)
   unfold Builtin.Dict.pairItems
   refine ab (i9 hT ?_)
   rw[a0 (by decide)]
   refine ab (ff WH hdt (ae ?_))
   show wpAny _ _ (holding [.ref p.2.1,p.2.2] (dictSet dd (.ref p.2.1) p.2.2)) _ _ _
   have hd1:AQ (LF prog w) h1 dd kvs:=oU hd λb o e q=>(X3.2 b (q.elim (λz=>z▸nd.symm) λz=>Iy e z)).trans e
   obtain⟨ok,AK,hck⟩:=zH hk
   have YR:(LF prog w).is h1 p.1 p.2.1:=q9 hk λb o e q=>(X3.2 _ (Iy e q)).trans e
   have Zt:kvs.length<=sizeLine:=by simp only[bv] at hz;omega
   refine ef (rY (kd:=LF prog w) ?_ YR hd1 Zt λh2 hd2 sb2=>?_)
   ·exact hu
   refine ae ⟨Code.quiet_builtin _ (by decide +kernel),?_⟩
   have keep:∀b o,b≠dd->b≠it->s.heap.get? b=some o->h2.get? b=some o:=λb o n1 n2 e=>(sb2.2 b n1).trans ((X3.2 b n2).trans e)
   have hls:(storedH kvs p.1 p.2.1 p.2.2).length<=kvs.length+1:=by
    unfold storedH
    split <;> simp
   refine Ku (items:=items) hA hu nd nl WE L us (i+1) (storedH kvs p.1 p.2.1 p.2.2) _ ?_ ?_ ?_ ?_ hd2 ?_ λh3 tk hd3 k3=>?_
   ·rw[← pp,hr];rfl
   ·have go:∀{L:List (List zD×Addr×Value)}{us:qf},Paired (oV prog w s.heap) L us->Paired (oV prog w h2) L us:=by
     intro L us hp
     induction hp with
     | nil=>exact .nil
     | cons a _ ih=>
      obtain⟨t1,e1,⟨o1,q1,q2,q4⟩,q3⟩:=a
      obtain⟨o2,g1,g2⟩:=zH q3
      exact .cons ⟨t1,e1,⟨o1,keep t1 o1 (Sr q1 q2) (Iy q1 q2) q1,q2,q4⟩,q9 q3 λb o e q=>keep _ o (Sr e q) (Iy e q) e⟩ ih
    exact go hp
   ·obtain⟨oi,WG,UO,hdi⟩:=Zs
    exact⟨oi,(sb2.2 it nd).trans WG,UO,hdi⟩
   ·obtain⟨ol,X4,hcl,nl',Zu⟩:=hl
    exact⟨ol,keep l ol nl WE X4,hcl,nl',Zu⟩
   ·simp only[bv] at hz;omega
   ·exact hR h3 tk hd3 λb o n1 n2 e=>k3 b o n1 n2 (keep b o n1 n2 e)
theorem Ej {l:Addr}{As:qf}{n:Nat}{L:List (List zD×Addr×Value)}{Q:oT}(hA:A.handled=none)(hu:A.units+9 < cLine)(hl:s.heap.get? l=some { cls:=.type "tuple",data:=.seq As.toArray n,slots:=sl })(hp:Paired (oV prog w s.heap) L As)(hz:L.length<=sizeLine)
  (hq:∀h' tk,AQ (LF prog w) h' s.heap.objs.size (L.foldl (λacc kv=>storedH acc kv.1 kv.2.1 kv.2.2) [])->(∀b o,s.heap.get? b=some o->h'.get? b=some o)->Q (.ref s.heap.objs.size) { s with heap:=h',toks:=tk }):
  wpAny (model prog w) A (call (.type "dict") [.ref l]) Q E s:=by
 refine callType_codes (Q₁:=λobj s₁=>obj=.ref s.heap.objs.size/\s₁={ s with heap:=s.heap.push { cls:=.type "dict",data:=.dict #[] } }) F.kt_called_dict (F.kt_typeCall_dict_1 _) F.entry_dict_init (kt_code_dict_new _ ⟨rfl,rfl⟩) ?_
 rintro obj s₁ ⟨rfl,rfl⟩
 have UW:=GK (prog:=prog) (w:=w) s.heap
 have ty:({ s with heap:=s.heap.push { cls:=.type "dict",data:=.dict #[] } }:Shared).TypeIs (.ref s.heap.objs.size) "dict" := UW.of.typeIs
 refine⟨ty,F.args_dict_init_2 _ _,?_⟩
 have PU:(s.heap.push { cls:=.type "dict",data:=.dict #[] }).get? l=some { cls:=.type "tuple",data:=.seq As.toArray n,slots:=sl }:=ac _ hl
 unfold Builtin.«dict.__init__»
 refine ab ?_
 unfold Builtin.Dict.selfAndRest
 refine ab (kX ty ?_)
 show wpAny _ _ (pure (s.heap.objs.size,[Value.ref l])) _ _ _
 refine ae ?_
 show wpAny _ _ (Builtin.Dict.updateFrom "dict.__init__" s.heap.objs.size (.ref l) [] .none) _ _ _
 unfold Builtin.Dict.updateFrom
 refine ab (i9 (T := "tuple") ⟨_,PU,rfl⟩ ?_)
 rw[a0 (by decide)]
 refine ab (Ma PU hA λh2 tk2 k2=>?_)
 rw[a0 (show (none:Option Value).isNone=true from rfl)]
 refine ab (iX ?_)
 have RO:h2.IsTuple l As.toArray:=⟨_,k2 _ _ PU,rfl,n,rfl⟩
 refine ab (eP RO ?_)
 refine ae ⟨Code.quiet_builtin _ (by decide +kernel),?_⟩
 have lt1:s.heap.objs.size < h2.objs.size:=by
  obtain⟨o,es,ho,_⟩:=UW
  exact av (k2 _ _ ho)
 have k3:∀b o,h2.get? b=some o->(h2.push { cls:=.type "tuple_iterator",data:=.fields #[.ref l,.int 0 0] }).get? b=some o:=λb o e=>ac _ e
 have k0:∀b o,s.heap.get? b=some o->(h2.push { cls:=.type "tuple_iterator",data:=.fields #[.ref l,.int 0 0] }).get? b=some o:=λb o e=>k3 b o (k2 b o (ac _ e))
 have old:∀b o,s.heap.get? b=some o->b≠s.heap.objs.size/\b≠h2.objs.size:=λb o e=>by
  have:=av e
  exact⟨bg this,bg (mh this lt1)⟩
 refine Ku (A:=A.in1) (items:=As.toArray) (show A.in1.handled=none from hA) (by rw[in1_units,in1_units];omega) (df lt1) (old l _ hl).1 (old l _ hl).2 L As 0 [] _ (by simp) ?_ ?_ ?_ ?_ (by simpa using hz) λh4 tk hd4 k4=>?_
 ·have go:∀{L:List (List zD×Addr×Value)}{us:qf},Paired (oV prog w s.heap) L us->Paired (oV prog w (h2.push { cls:=.type "tuple_iterator",data:=.fields #[.ref l,.int 0 0] })) L us:=by
   intro L us hp
   induction hp with
   | nil=>exact .nil
   | cons a _ ih=>
    obtain⟨t1,e1,⟨o1,q1,q2⟩,q3⟩:=a
    exact .cons ⟨t1,e1,⟨o1,k0 t1 o1 q1,q2⟩,q9 q3 λb o e q=>k0 _ o e⟩ ih
  exact go hp
 ·exact⟨_,ar _ rfl,rfl,rfl⟩
 ·obtain⟨ol,X4,r⟩:=RO
  exact⟨ol,k3 _ _ X4,r⟩
 ·exact oU UW λb o e _=>k3 b o (k2 b o e)
 ·exact⟨rfl,hq h4 tk hd4 λb o e=>k4 b o (old b o e).1 (old b o e).2 (k0 b o e)⟩
end
theorem xP {X:Cx}(hc:X.calm=true)(hu:X.A.units+9 < cLine):A7 X (.type "dict") (λxs H Q=>∃p ts kvs,xs=[.ref p]/\(H p=some (.tup ts)\/EV X.K p ts)/\EI X.K H ts kvs/\kvs.length<=1000000/\∀l,H l=none->Q (.ref l) (upd H l (.dT (gU [] kvs)))):=by
 intro zC s σ H xs us Q I r h
 obtain⟨p,ts,kvs,rfl,hp,Fc,hz,q⟩:=h
 obtain⟨u,rfl,rx⟩:=vals1 r
 cases rx
 obtain⟨As,n,sl,hv,ho⟩:∃(As:qf) (n:Nat) (sl:Array (Option Value)),Vals ts As/\s.heap.get? p=some { cls:=.type "tuple",dict:=none,data:=.seq As.toArray n,slots:=sl }:=by
  rcases hp with hp | ⟨⟨c,dd,da,sl⟩,As,n,h1,h2,h3,⟨_,h4⟩,hv⟩
  ·obtain⟨_,As,hv,⟨c,dd,da,sl⟩,h1,h2,n,h3,h4⟩:=(show AF X.prog X.w X.K H s.heap p (.tup ts) from I.AK p _ hp)
   simp only at h2 h3 h4
   subst h2 h3 h4
   exact⟨As,n,sl,hv,h1⟩
  ·simp only at h2 h3 h4
   subst h2 h3 h4
   exact⟨As.toList,n,sl,hv,by simpa using I.B8 _ _ h1⟩
 obtain⟨rs,h1,h2⟩:=xn I.B8 I.AK Fc hv
 have hl:rs.length<=sizeLine:=by rw[← iq h1];exact gI (bY hz)
 refine Ej (I.ok.hd hc) hu ho h2 hl λh' tk hd hk=>?_
 have low:(s.heap.objs.size == sysModules)=false:=by
  have:=modules_low I.nolimit
  rw[fF]
  exact df this
 have kt:KT X.K H (gU [] kvs) _:=KT.merge h1 .nil
 have lm:=pI kvs []
 have hn:=I.AK.fresh (aE s.heap.objs.size)
 have kt':=kt.keeps (H':=upd H s.heap.objs.size (.dT (gU [] kvs))) λb ys e=>by rw[ao (aq e hn)];exact e
 obtain⟨o,es,o1,o2,o3,o4,o5,o6⟩:=hd
 refine⟨.ref s.heap.objs.size,_,I.laid (t':=tk) hk (aE _) (show AF X.prog X.w X.K _ h' _ (.dT (gU [] kvs)) from ⟨?_,low,_,kt',o,es,_,o1,o2,o3,o4,o6,rfl⟩),rfl,q _ hn⟩
 have:(1000000:Nat)<=sizeLine:=by decide
 simp only[l0] at lm
 omega
end Lake.L2
namespace Lake.MR
open PySem L2 PyProof.Rows PySem.Spec
noncomputable def dctP:PV->Option PV
 | .tup xs=>(oW xs).bind λl=>if l.length<=1000000 then some (.dT (iJ l [])) else none
 | _=>none
@[simp] theorem T6 (xs:List PV):dctP (.tup xs)=((oW xs).bind λl=>if l.length<=1000000 then some (.dT (iJ l [])) else none):=id rfl
section
variable {X:Cx}{b:BX}{G:qc}{m1:Md}{e e1 e2:Expr}{f f1 f2:qB}{p pos:Pos}
theorem Jq {k:Nat}(hr:AR k X.A)(hm:X.mg "dict" = none)(h:SE X b G m1 e f)(Zh:X.calm=true:=by rfl)(hK:X.K=b.C.K:=by rfl)(hg:Gl X "dict" := by rfl)(hb:bootBuiltins "dict" = some (.type "dict"):=by decide +kernel)(he:starEach [e] X.env=(false,eval e X.env)::starEach [] X.env:=by rfl):SE X b G .own (.Call (.Name "dict" p) [e] [] pos) (b1 dctP f):=by
 have hu:X.A.units+9 < cLine:=kq (pE (by decide:9<=64) _) hr.units
 refine B_ (xP Zh hu) (λOw H v1 p1 p Q hn r1 e k=>?_) hm hb h hg (by decide) (by decide) he
 cases p1 with
 | tup xs=>
  unfold dctP at e
  obtain⟨l,hl,e⟩:=aA e
  split at e
  ·rename_i hz
   cases e
   obtain⟨a,vs,rfl,ha,ra⟩:=r1.tup
   obtain⟨kvs,h1,h2⟩:=xq ra hl
   rw[hK]
   refine⟨a,vs,kvs,rfl,ha,h1,by rw[h2.length];exact hz,λd hd=>k _ _ (aL hd _) ⟨d,rfl,hd,gU [] kvs,az,(uQ h2 .nil).ex λc o e=>?_⟩⟩
   have hc:c≠d:=aq e hd
   exact⟨λq=>⟨by rw[ao hc];exact e,q,hc⟩,λ_=>by rw[ao hc];exact e⟩
  ·cases e
 | _=>cases e
end
end Lake.MR
namespace Lake.L2
open PySem PySem.Spec PyProof.Rows
section
variable {X:Cx}{e f:Expr}{pos:Pos}{ty tv:TE}
def GP (tk tv:TE):TE:=fun σ H Q=>∀p,H p=none->tk σ (upd H p (.dK [])) λy H1=>tv σ H1 λz H2=>H2 p=some (.dK [])/\∃k,y=kV k/\Q (.ref p) (upd H2 p (.dK [(k,z)]))
theorem Jr (hk:PE X e ty)(hv:PE X f tv):PE X (.Dict [some e] [f] pos) (GP ty tv):=by
 intro zC s σ H Q I q
 have hn:=I.AK.fresh (aE s.heap.objs.size)
 have I1:=I.laid (a:=s.heap.objs.size) (o:=.dK []) (h':=s.heap.push { cls:=.type "dict",data:=.dict #[] }) (t':=s.toks) (λ_ _ q=>ac _ q) (aE _) (yP s.heap I.big)
 refine wpAny_Dict_any rfl rfl (λz=>nomatch z) (show (1:Nat)<=15 by decide) ?_
 refine pairTrees_cons_walk (AM (hk zC _ σ _ _ I1 (q _ hn)) λu s1 ⟨y,H1,I2,ry,q1⟩=>AM (hv zC s1 σ H1 _ I2 q1) λw2 s2 ⟨z,H2,I3,rz,e1,k,e2,q2⟩=>pairTrees_nil_walk ?_)
 subst e2
 obtain⟨_,hd,vs,rel,dd⟩:=Di I3.AK e1
 cases rel
 unfold storeAll
 rw[kf]
 refine ab (ab (wpAny_dictSet_pairs (hsz:=cq _) (uq ry) dd λh' OU hs=>ae ?_))
 show wpAny _ _ (forIn [] _ _) _ _ _
 rw[kM]
 refine ae ?_
 have he:∃q,h'.get? s.heap.objs.size=some q:=let ⟨q,_,_,hq,_⟩:=OU;⟨q,hq⟩
 exact⟨.ref s.heap.objs.size,_,mX I3 (by rw[e1];exact fk) hs he (FP (kvs:=[(k,z)]) (by show (1:Nat)<=sizeLine;decide) hd (.cons ⟨rfl,rz⟩ .nil) OU),rfl,q2⟩
end
def WJ (a:Addr)(o:Obj)(kvs:List (Key×V)):It:=
 ⟨λi H=>H a=some (.frz o (.dK kvs))/\i < kvs.length,λi H x H'=>H'=H/\∃k y,kvs[i]?=some (k,y)/\x=kV k,λi H=>H a=some (.frz o (.dK kvs))/\kvs.length<=i⟩
theorem KV.get {κ:Type}{kvs:List (κ×V)}{vs:List (κ×Value)}(r:KV kvs vs):∀{i:Nat}{p:κ×V},kvs[i]?=some p->∃u,vs[i]?=some (p.1,u):=by
 unfold KV at r
 induction r with
 | nil=>intro i p h;simp at h
 | @cons p q ps qs h t ih=>
  intro i p' e
  cases i with
  | zero=>
   cases e
   obtain⟨k,u⟩:=q
   exact⟨u,by rw[h.1];rfl⟩
  | succ i=>exact ih (i:=i) e
theorem R3 {P:Program}{w:World}{k:Key}{u:Value}(h:(dX P w).is k u=true):RelV (kV k) u:=by
 rcases bQ (show jU k u=true from h) with ⟨i,t,rfl,rfl⟩ | ⟨x,t,rfl,rfl⟩
 ·exact⟨t,rfl⟩
 ·exact⟨t,rfl⟩
theorem Js {P:Program}{w:World}{K:W.Frag}{tg:Expr}(a it:Addr)(o:Obj)(kvs:List (Key×V))(vs:List (Key×Value))(ep:Nat)(UX:KV kvs vs)(X5:∀h:Heap,h.get? a=some o->h.DictAt (dX P w) a vs ep):Turn P w K tg (WJ a o kvs) [it] it (λi h=>h.IsKeyIter it a i vs.length ep) where
 mem:=am
 obj:=λi h st b hb=>by
  obtain⟨o,e,c,d⟩:=st
  exact⟨o,by rw[aw.mp hb];exact e,λv z=>by rw[d] at z;cases z⟩
 keep:=λi h h' st k=>let ⟨o,e,c⟩:=st;⟨o,k it am o e,c⟩
 item:=by
  intro X hP hw hK hc i zC s σ H E I hf st hg
  subst hP hw hK
  obtain⟨hq,A6⟩:=hg
  obtain⟨f0,f1,f2,f3,f4,f5⟩:=hf it am
  have ho:s.heap.get? a=some o:=(show AF X.prog X.w X.K H s.heap a (.frz o (.dK kvs)) from I.AK a _ hq).1
  obtain⟨p,hp⟩:∃p,kvs[i]?=some p:=⟨_,ai A6⟩
  obtain⟨u,hu⟩:=UX.get hp
  refine wpAny_pyNext_dict_item st (X5 _ ho) hu λkey h' TC BA sb=>?_
  obtain⟨o',e,c,d⟩:=id BA
  obtain⟨k,y⟩:=p
  exact⟨key,rfl,um (s:={ s with heap:=h' }) e c d (by decide) ⟨kV k,H,I.turned (t':=s.toks) (λb o hb q=>(sb.2 b hb).trans q) f0 f1 f3 f4 f5,R3 TC,⟨rfl,k,y,hp,rfl⟩,BA,λb hb=>(hf b hb).1⟩⟩
 done:=by
  intro X hP hw hK hc i zC s σ H E I hf st hg
  subst hP hw hK
  obtain⟨hq,X6⟩:=hg
  obtain⟨f0,f1,f2,f3,f4,f5⟩:=hf it am
  have ho:s.heap.get? a=some o:=(show AF X.prog X.w X.K H s.heap a (.frz o (.dK kvs)) from I.AK a _ hq).1
  have hl:vs.length=kvs.length:=(iq UX).symm
  exact wpAny_pyNext_dict_end (I.ok.hd hc) st (X5 _ ho) (cE (by rw[hl];exact X6)) λh' eb=>⟨rfl,I.turned (t':=s.toks) (λb o hb q=>eb b o hb q) f0 f1 f3 f4 f5⟩
 self:=λA i s Q E st h=>wpAny_pyIter_keyiter st h
section
variable {X:Cx}{tg:Expr}
def Qx (tl:TE):TI:=fun σ H R=>tl σ H λx H1=>∃a kvs,x=.ref a/\H1 a=some (.dK kvs)/\∀o,R (WJ a o kvs) (upd H1 a (.frz o (.dK kvs)))
theorem Qy {l:Expr}{tl:TE}(hl:PE X l tl):PI X tg l (Qx tl):=by
 intro zC s σ H R I h
 refine AM (hl zC s σ H _ I h) ?_
 rintro v s1 ⟨x,H1,I1,r1,q1⟩
 obtain⟨a,kvs,e,hq,q⟩:=q1
 subst e
 cases r1
 obtain⟨z,hd,vs,rel,dd⟩:=Di I1.AK hq
 obtain⟨ep,dat⟩:=dd.dictAt
 obtain⟨o,es,ho,hr⟩:=id dat
 have X5:∀h:Heap,h.get? a=some o->h.DictAt (dX X.prog X.w) a vs ep:=λh e=>⟨o,es,e,hr⟩
 have I2:=mX (t':=s1.toks) (ob:=.frz o (.dK kvs)) I1 (by rw[hq];exact fk) (Heap.SameBut.refl _ _) ⟨o,ho⟩ ⟨ho,z,hd,vs,rel,dd⟩
 refine wpAny_pyIter_dict hd dat ?_
 refine⟨s1.heap.objs.size,[s1.heap.objs.size],_,_,_,rfl,I2.kept (t':=s1.toks) λb o e=>ac _ e,Js a _ o kvs vs ep rel X5,⟨_,ar _ rfl,rfl,rfl⟩,λb hb=>?_,q o⟩
 rw[aw.mp hb]
 exact I2.GI (aE _) (I2.AK.fresh (aE _))
end
theorem Mf {a:Addr}{o:Obj}{kvs:List (Key×V)}{g:TG}{tb:TS}{D:Ends}{σ:St}{H:Hp}(Pv:Nat->St->Hp->Prop)(h0:Pv 0 σ H)(hl:∀i σ H,i<=kvs.length->Pv i σ H->H a=some (.frz o (.dK kvs)))
  (step:∀i k y σ H,kvs[i]?=some (k,y)->Pv i σ H->g (kV k) σ H fun σ2 H2=>tb { D with nx:=Pv (i+1),ct:=Pv (i+1),bk:=D.nx } σ2 H2) (fin:∀ σ H,Pv kvs.length σ H->D.nx σ H):
  ∃W:Nat->Nat->St->Hp->Prop,(∃m,W 0 m σ H)/\∀i m σ H,W i m σ H->
   ((WJ a o kvs).stop i H/\D.nx σ H)\/((WJ a o kvs).go i H/\∃N:St->Hp->Prop,(∀ σ' H',N σ' H'->∃m',m' < m/\W (i+1) m' σ' H')/\∀x H',(WJ a o kvs).L4 i H x H'->g x σ H' fun σ2 H2=>tb { D with nx:=N,ct:=N,bk:=D.nx } σ2 H2):=by
 refine⟨λi m σ H=>i+m=kvs.length/\Pv i σ H,⟨kvs.length,Nat.zero_add _,h0⟩,?_⟩
 rintro i m σ H ⟨e,p⟩
 have hq:=hl i σ H (by omega) p
 cases m with
 | zero=>
  have hi:i=kvs.length:=by omega
  subst hi
  exact .inl ⟨⟨hq,aE _⟩,fin σ H p⟩
 | succ m=>
  refine .inr ⟨⟨hq,by omega⟩,Pv (i+1),fun σ' H' p'=>⟨m,f8 _,by omega,p'⟩,?_⟩
  rintro x H' ⟨rfl,k,y,hk,rfl⟩
  exact step i k y σ _ hk p
end Lake.L2
namespace Lake.MR
open PySem L2
abbrev Ek:List V->Hp->VK->Prop:=λxs H Q=>∃z,xs=[.str z]/\z.length<=sizeLine/\Q (.int z.length) H
def Jt (C:MC)(ft:List PV->Option PV):TS:=
 lW (tB (fP (C2 C ft false) [] E0 (aO (aG 1) (aO (aG 6) (aO (aG 7) (aO (aG 4) bx))))))
  (jW C.K (aG 5) (yD (aG 6) (LO Ek (aO (aG 7) bx))) (yD (yU C.K (aG 5) (yD (aG 6) (LO Ek (aO (aG 7) bx))) (tC (.int 0))) (qM C.K (aG 2) (aG 6))))
  jx
noncomputable def oX (ft:List PV->Option PV)(row cut:PV)(i m:Int)(pat:PV)(later:List (Key×PV)):Option (List (Key×PV)):=
 (ft [row,.int i,pat,cut]).bind λb=>match b with
  | .bl false=>some later
  | .bl true=>match pat with
   | .str z=>match (aJ later (.inl (i+z.length))).getD (.int 0) with
    | .int u=>if z.length<=1000000/\later.length < 1000000 then some (bD later (.inl (i+z.length)) (.int (u+m))) else none
    | _=>none
   | _=>none
  | _=>none
variable {C:MC}{ft:List PV->Option PV}{A:Addr->Prop}{la:Addr}{FK:List (Key×V)}{H:Hp}{D:Ends}
theorem Mg {row cut pat:PV}{i m:Int}{later BY:List (Key×PV)}{vm vr vp vc vt:V}{wa:Addr}{o:Obj}{JJ:List (Key×V)}
  (rr:Rep C A H vr row) (rc:Rep C A H vc cut) (rp:Rep C A H vt pat) (IA:H wa=some (.frz o (.dK FK))) (hm:cz FK (.inl i)=some (.int m)) (E6:H la=some (.dK JJ)) (rl:AJ C (λ_=>False) H JJ later)
  (h:oX ft row cut i m pat later=some BY)
  (q:∀H' D0,H' la=some (.dK D0)->AJ C (λ_=>False) H' D0 BY->(∀x o,x≠la->H x=some o->H' x=some o)->D.nx [some vm,some vr,some (.ref wa),some vp,some vc,some (.ref la),some (.int i),some vt] H'):
  Jt C ft D [some vm,some vr,some (.ref wa),some vp,some vc,some (.ref la),some (.int i),some vt] H:=by
 obtain⟨b,hb,h2⟩:=al.mp h
 clear h
 have h:=h2
 clear h2
 unfold Jt
 dsimp only [lW,tB,fP,jx,jW]
 refine⟨_,rfl,_,rfl,_,rfl,_,rfl,A,[row,.int i,pat,cut],b,.cons rr (.cons (.int i) (.cons rp (.cons rc .nil))),hb,λv1 H1 s1 r1=>?_⟩
 have F5:Ap C _ H1 v1 b:=.inl r1
 cases b <;> first | (cases h;done) | skip
 rename_i ob
 refine⟨ob,F5.bl,?_⟩
 have FA:=s1 _ _ E6
 have X7:AJ C (λ_=>False) H1 JJ later:=rl.ex (.of_same s1)
 cases ob with
 | false=>
  cases h
  exact lY (q H1 JJ FA X7 λx o _ e=>s1 x o e)
 | true=>
  refine jh ?_
  cases pat <;> first | (cases h;done) | skip
  rename_i z
  cases rp
  dsimp only at h
  cases hg:(aJ later (.inl (i+z.length))).getD (.int 0) <;> rw[hg] at h <;> first | (cases h;done) | skip
  rename_i u
  dsimp only at h
  split at h
  ·rename_i hz
   cases h
   have Zt:z.length<=sizeLine:=gI (bY (by omega))
   have key:∀{R:VK},R (.int (i+z.length)) H1->yD (aG 6) (LO Ek (aO (aG 7) bx)) [some vm,some vr,some (.ref wa),some vp,some vc,some (.ref la),some (.int i),some (.str z)] H1 R:=λr=>⟨_,rfl,_,rfl,z,rfl,Zt,i,_,rfl,rfl,r⟩
   have P6:=s1 _ _ IA
   have hlen:=X7.length
   refine⟨_,rfl,la,rfl,.inl ⟨_,.inl FA⟩,key ⟨_,A5.k (k:=.inl (i+z.length)) FA,?_⟩⟩
   have hv:(cz JJ (.inl (i+z.length))).getD (.int 0)=.int u:=by
    rcases AJ.val (k:=.inl (i+z.length)) X7 with ⟨y,py,g1,g2,ry⟩ | ⟨g1,g2⟩
    ·have eL:aJ later (.inl (i+z.length))=some py:=g2
     rw[eL] at hg
     cases (show py=.int u from hg)
     cases ry
     rw[g1];rfl
    ·have eL:aJ later (.inl (i+z.length))=none:=g2
     rw[eL] at hg
     cases hg
     rw[g1];rfl
   rw[hv]
   refine⟨_,rfl,_,rfl,wa,.int m,rfl,.inl ⟨FK,.inl i,.inr ⟨o,P6⟩,rfl,hm.symm⟩,u,m,rfl,rfl,?_⟩
   refine⟨_,rfl,key ⟨la,_,rfl,.inl ⟨JJ,.inl (i+z.length),FA,rfl,bY (by omega),rfl⟩,?_⟩⟩
   refine q _ _ az ?_ λx o n e=>by rw[ao n];exact s1 x o e
   exact AJ.put (.int _) (X7.ex λx o e=>⟨λf=>f.elim,λmu=>by rw[ao (λz=>by rw[z,FA] at e;cases e;cases mu)];exact e⟩)
  ·cases h
noncomputable def jL (ft:List PV->Option PV)(row cut:PV)(i m:Int):List PV->List (Key×PV)->Option (List (Key×PV))
 | [],l=>some l
 | p::ps,l=>(oX ft row cut i m p l).bind (jL ft row cut i m ps)
def Ju (C:MC)(ft:List PV->Option PV):TS:=vC (yG C.K (aG 3)) (aX 7) (Jt C ft)
def OI (la:Addr)(H H':Hp):Prop:=∀x o,x≠la->H x=some o->H' x=some o
theorem OI.trans {H1 H2:Hp}(a:OI la H H1)(b:OI la H1 H2):OI la H H2:=λx o n e=>b x o n (a x o n e)
theorem uR {H':Hp}{kv:List (Key×V)}(E6:H la=some (.dK kv))(nA:¬ A la)(bt:OI la H H'):Ex A H A H':=λx o e=>
 ⟨λq=>⟨bt x o (λz=>nA (z▸q)) e,q⟩,λmu=>bt x o (λz=>by rw[z,E6] at e;cases e;cases mu) e⟩
variable {x7:Option V}
theorem Mh {row cut:PV}{pats:List PV}{i m:Int}{later BY:List (Key×PV)}{vm vr vp vc:V}{wa:Addr}{o:Obj}{JJ:List (Key×V)}
  (nA:¬ A la) (rr:Rep C A H vr row) (rc:Rep C A H vc cut) (rp:Rep C A H vp (.tup pats)) (IA:H wa=some (.frz o (.dK FK))) (F9:wa≠la) (hm:cz FK (.inl i)=some (.int m)) (E6:H la=some (.dK JJ)) (rl:AJ C (λ_=>False) H JJ later)
  (h:jL ft row cut i m pats later=some BY)
  (q:∀H' D0 y7,H' la=some (.dK D0)->AJ C (λ_=>False) H' D0 BY->OI la H H'->D.nx [some vm,some vr,some (.ref wa),some vp,some vc,some (.ref la),some (.int i),y7] H'):
  Ju C ft D [some vm,some vr,some (.ref wa),some vp,some vc,some (.ref la),some (.int i),x7] H:=by
 obtain⟨pa,us,rfl,hpa,ru⟩:=Ap.tup (.inl rp)
 have ln:=ru.length
 unfold Ju
 refine⟨_,rfl,pa,rfl,⟨us,hpa.sq⟩,?_⟩
 have sq:∀{Hj:Hp},OI la H Hj->B6 C.K Hj pa us:=λ{Hj} bt=>by
  rcases hpa with z | z
  ·exact .inl (.inl (bt _ _ (λe=>by rw[e,E6] at z;cases z) z))
  ·exact .inr z
 refine Br (K:=C.K) (a:=pa) (xs:=us) (λj σ Hj=>∃y7 FC lj,σ=[some vm,some vr,some (.ref wa),some (.ref pa),some vc,some (.ref la),some (.int i),y7]/\Hj la=some (.dK FC)/\AJ C (λ_=>False) Hj FC lj/\jL ft row cut i m (pats.drop j) lj=some BY/\OI la H Hj)
  ⟨x7,JJ,later,rfl,E6,rl,h,λ_ _ _ e=>e⟩ (λj σ Hj _ ⟨_,_,_,_,_,_,_,bt⟩=>sq bt) (λj x σ Hj hx ⟨y7,FC,lj,e,JO,UY,hj,bt⟩=>?_) (fun σ Hj ⟨y7,FC,lj,e,JO,UY,hj,bt⟩=>?_)
 ·subst e
  have X8:j < us.length:=(ag.mp hx).1
  have EA:pats.drop j=pats[j]'(by omega)::pats.drop (j+1):=cb (by omega)
  have hn:pats[j]?=some (pats[j]'(by omega)):=ai (by omega)
  generalize pats[j]'(by omega)=pt at hn EA
  rw[EA] at hj
  obtain⟨l2,h1,h2⟩:=al.mp (show ((oX ft row cut i m pt lj).bind _)=_ from hj)
  have ex:Ex A H A Hj:=uR E6 nA bt
  have rx:Rep C A Hj x pt:=by
   obtain⟨p,e,r⟩:=ru.get' hx
   rw[hn] at e
   cases e
   exact r.ex ex
  exact Mg (rr.ex ex) (rc.ex ex) rx (bt _ _ F9 IA) hm JO UY h1 λH' D0 e1 e2 e3=>⟨_,D0,l2,rfl,e1,e2,h2,bt.trans e3⟩
 ·subst e
  have EA:pats.drop us.length=[]:=by rw[dv];omega
  rw[EA] at hj
  cases hj
  exact q Hj FC y7 JO UY bt
noncomputable def iK (ft:List PV->Option PV)(row cut:PV)(pats:List PV)(all:List (Key×PV)):List (Key×PV)->List (Key×PV)->Option (List (Key×PV))
 | [],l=>some l
 | (.inl i,_)::ws,l=>match aJ all (.inl i) with
  | some (.int m)=>(jL ft row cut i m pats l).bind (iK ft row cut pats all ws)
  | _=>none
 | (.inr _,_)::_,_=>none
def Jv (C:MC)(ft:List PV->Option PV):TS:=vC (Qx (aG 2)) (aX 6) (Ju C ft)
theorem AJ.Sz {C:MC}{A:Addr->Prop}{H:Hp}:∀{kv:List (Key×V)}{kvs:List (Key×PV)}{i:Nat}{k:Key}{y:V},AJ C A H kv kvs->kv[i]?=some (k,y)->∃p,kvs[i]?=some (k,p)
 | _,_,_,_,_,.nil,e=>by simp at e
 | _,_,0,_,_,.cons _ _,e=>by simp at e;exact⟨_,by rw[e.1];rfl⟩
 | _,_,i+1,k,y,.cons _ t,e=>by
  obtain⟨p,h⟩:=AJ.Sz (i:=i) (k:=k) (y:=y) t (by simpa using e)
  exact⟨p,by simpa using h⟩
theorem Mi {row cut:PV}{pats:List PV}{AO later BY:List (Key×PV)}{vm vr vp vc:V}{x6:Option V}{wa:Addr}{JJ:List (Key×V)}
  (nA:¬ A la) (nW:¬ A wa) (rr:Rep C A H vr row) (rc:Rep C A H vc cut) (rp:Rep C A H vp (.tup pats)) (IA:H wa=some (.dK FK)) (HU:AJ C (λ_=>False) H FK AO) (F9:wa≠la) (E6:H la=some (.dK JJ)) (rl:AJ C (λ_=>False) H JJ later)
  (h:iK ft row cut pats AO AO later=some BY)
  (q:∀H' D0 y6 y7,H' la=some (.dK D0)->AJ C (λ_=>False) H' D0 BY->(∀x o,x≠la->x≠wa->H x=some o->H' x=some o)->D.nx [some vm,some vr,some (.ref wa),some vp,some vc,some (.ref la),y6,y7] H'):
  Jv C ft D [some vm,some vr,some (.ref wa),some vp,some vc,some (.ref la),x6,x7] H:=by
 unfold Jv
 refine⟨_,rfl,wa,FK,rfl,IA,λo=>?_⟩
 have b1:OI wa H (upd H wa (.frz o (.dK FK))):=λx o n e=>by rw[ao n];exact e
 have e1:Ex A H A (upd H wa (.frz o (.dK FK))):=uR IA nW b1
 have f1:Ex (λ_=>False) H (λ_=>False) (upd H wa (.frz o (.dK FK))):=uR IA (λz=>z) b1
 have FA:upd H wa (.frz o (.dK FK)) la=some (.dK JJ):=b1 _ _ F9.symm E6
 have lw:FK.length=AO.length:=HU.length
 have P6:upd H wa (.frz o (.dK FK)) wa=some (.frz o (.dK FK)):=az
 refine Mf (a:=wa) (o:=o) (kvs:=FK) (λj σ Hj=>∃y6 y7 FC lj,σ=[some vm,some vr,some (.ref wa),some vp,some vc,some (.ref la),y6,y7]/\Hj la=some (.dK FC)/\AJ C (λ_=>False) Hj FC lj/\iK ft row cut pats AO (AO.drop j) lj=some BY/\OI la (upd H wa (.frz o (.dK FK))) Hj)
  ⟨x6,x7,JJ,later,rfl,FA,rl.ex f1,h,λ_ _ _ e=>e⟩ (λj σ Hj _ ⟨_,_,_,_,_,_,_,_,bt⟩=>bt _ _ F9 P6) (λj k y σ Hj hx ⟨y6,y7,FC,lj,e,JO,UY,hj,bt⟩=>?_) (fun σ Hj ⟨y6,y7,FC,lj,e,JO,UY,hj,bt⟩=>?_)
 ·subst e
  have X8:j < FK.length:=(ag.mp hx).1
  obtain⟨pw,hpw⟩:=AJ.Sz HU hx
  have EA:AO.drop j=(k,pw)::AO.drop (j+1):=by
   rw[cb (by omega)]
   rw[(ag.mp hpw).2]
  rw[EA] at hj
  cases k with
  | inr z=>cases hj
  | inl i=>
   have UZ:(match aJ AO (.inl i) with | some (.int m)=>(jL ft row cut i m pats lj).bind (iK ft row cut pats AO (AO.drop (j+1))) | _=>none)=some BY:=hj
   rcases AJ.val (k:=.inl i) HU with ⟨v,pv',g1,g2,ry⟩ | ⟨g1,g2⟩
   ·have eL:aJ AO (.inl i)=some pv':=g2
    rw[eL] at UZ
    cases pv' <;> first | (cases UZ;done) | skip
    rename_i m
    cases ry
    obtain⟨l2,h1,h2⟩:=al.mp UZ
    have ex:Ex A H A Hj:=e1.trans (uR FA nA bt)
    exact Mh nA (rr.ex ex) (rc.ex ex) (rp.ex ex) (bt _ _ F9 P6) F9 g1 JO UY h1 λH' D0 z7 q1 q2 q3=>⟨_,z7,D0,l2,rfl,q1,q2,h2,bt.trans q3⟩
   ·have eL:aJ AO (.inl i)=none:=g2
    rw[eL] at UZ
    cases UZ
 ·subst e
  have EA:AO.drop FK.length=[]:=by rw[dv];omega
  rw[EA] at hj
  cases hj
  exact q Hj FC y6 y7 JO UY λx o n1 n2 e=>bt x o n1 (b1 x o n2 e)
noncomputable def iB (ft:List PV->Option PV)(row:PV):List PV->List (Key×PV)->Option (List (Key×PV))
 | [],w=>some w
 | .tup [.tup pats,cut]::ss,w=>(iK ft row cut pats w w []).bind (iB ft row ss)
 | _::_,_=>none
noncomputable def zK (ft:List PV->Option PV):List PV->Option PV
 | [.tup slots,.lst r]=>(iB ft (.lst r) slots [(.inl 0,.int 1)]).bind λw=>some ((aJ w (.inl (r.length:Nat))).getD (.int 0))
 | _=>none
def Jw (C:MC)(ft:List PV->Option PV):TS:=vC (yG C.K (aG 0)) (vA C.K 2 (jy (aX 3) (jy (aX 4) vz))) (cu (gO yR (aX 5)) (cu (Jv C ft) (gO (aG 5) (aX 2))))
theorem Mj {row:PV}{slots:List PV}{AO MU:List (Key×PV)}{vm vr:V}{x3 x4 x5 x6:Option V}{wa:Addr}{H0:Hp}
  (dA:∀a,A a->∃o,H0 a=some o) (rm:Rep C A H0 vm (.tup slots)) (rr:Rep C A H0 vr row) (s0:zS H0 H) (nwa:H0 wa=none) (IA:H wa=some (.dK FK)) (HU:AJ C (λ_=>False) H FK AO)
  (h:iB ft row slots AO=some MU)
  (q:∀H' X9 U0 y3 y4 y5 y6 y7,H' X9=some (.dK U0)->AJ C (λ_=>False) H' U0 MU->zS H0 H'->D.nx [some vm,some vr,some (.ref X9),y3,y4,y5,y6,y7] H'):
  Jw C ft D [some vm,some vr,some (.ref wa),x3,x4,x5,x6,x7] H:=by
 obtain⟨ma,us,rfl,hma,ru⟩:=Ap.tup (.inl rm)
 have ln:=ru.length
 unfold Jw
 refine⟨_,rfl,ma,rfl,⟨us,(hma.up s0).sq⟩,?_⟩
 refine Br (K:=C.K) (a:=ma) (xs:=us) (λj σ Hj=>∃Vz MV wj y3 y4 y5 y6 y7,σ=[some (.ref ma),some vr,some (.ref Vz),y3,y4,y5,y6,y7]/\zS H0 Hj/\H0 Vz=none/\Hj Vz=some (.dK MV)/\AJ C (λ_=>False) Hj MV wj/\iB ft row (slots.drop j) wj=some MU)
  ⟨wa,FK,AO,x3,x4,x5,x6,x7,rfl,s0,nwa,IA,HU,h⟩ (λj σ Hj _ ⟨_,_,_,_,_,_,_,_,_,s,_⟩=>(hma.up s).sq) (λj x σ Hj hx ⟨Vz,MV,wj,y3,y4,y5,y6,y7,e,s,nw,hw,Zv,hj⟩=>?_) (fun σ Hj ⟨Vz,MV,wj,y3,y4,y5,y6,y7,e,s,nw,hw,Zv,hj⟩=>?_)
 ·subst e
  have X8:j < us.length:=(ag.mp hx).1
  have EA:slots.drop j=slots[j]'(by omega)::slots.drop (j+1):=cb (by omega)
  have hn:slots[j]?=some (slots[j]'(by omega)):=ai (by omega)
  generalize slots[j]'(by omega)=sl at hn EA
  rw[EA] at hj
  have rx:Rep C A Hj x sl:=by
   obtain⟨p,e,r⟩:=ru.get' hx
   rw[hn] at e
   cases e
   exact r.ex (.of_same s)
  unfold iB at hj
  split at hj
  ·rename_i e;cases e
  ·rename_i pats cut ss e
   obtain⟨e1,e2⟩:=List.cons.inj e
   subst e1 e2
   obtain⟨l2,h1,h2⟩:=al.mp hj
   obtain⟨xa,xs,rfl,hxa,rxa⟩:=Ap.tup (.inl rx)
   cases rxa with
   | cons rp rc=>cases rc with
    | cons rc rn=>
     cases rn
     refine⟨xa,_,rfl,hxa.sq,rfl,_,_,rfl,_,_,rfl,rfl,λla E6=>?_⟩
     have sn:=aL E6 (.dK [])
     have U1:H0 la=none:=s.free E6
     have no:∀{l:Addr},H0 l=none->¬ A l:=λz f=>by obtain⟨o,e⟩:=dA _ f;rw[z] at e;cases e
     refine Mi (A:=A) (no U1) (no nw) (rr.ex (.of_same (s.trans sn))) (rc.ex (.of_same sn)) (rp.ex (.of_same sn)) (sn _ _ hw) (Zv.ex (.of_same sn)) (aq hw E6) az .nil h1 λH' D0 z6 z7 e1 e2 e3=>?_
     exact⟨_,rfl,la,D0,l2,_,_,_,z6,z7,rfl,λx o e=>e3 x o (aq e U1) (aq e nw) (sn _ _ (s _ _ e)),U1,e1,e2,h2⟩
  ·cases hj
 ·subst e
  have EA:slots.drop us.length=[]:=by rw[dv];omega
  rw[EA] at hj
  cases hj
  exact q Hj Vz MV y3 y4 y5 y6 y7 hw Zv s
def Zw (C:MC)(ft:List PV->Option PV):TS:=
 cu (gO (GP (tC (.int 0)) (tC (.int 1))) (aX 2)) (cu (Jw C ft) (jd (yU C.K (aG 2) (LO (zz C.K) (aO (aG 1) bx)) (tC (.int 0)))))
theorem Qz {vs:List V}{Q:VK}{E:XK}(h:C2 C (zK ft) false vs H Q E):
  Zw C ft { nx:=λ_ H'=>Q .Au H',rt:=Q } (L2.start ["_law_metre_here","_law_row","_law_ways","_law_patterns","_law_cut","_law_later","_law_at","_law_pattern_here"] vs) H:=by
 obtain⟨A,ps,out,r,hm,q⟩:=h
 unfold zK at hm
 split at hm
 ·rename_i slots rw
  obtain⟨w,h1,hm⟩:=al.mp hm
  cases hm
  cases r with
  | @cons vm _ _ _ rm r=>cases r with
   | @cons vr _ _ _ rr r=>
    cases r
    have rm':Rep C (λa=>A a/\∃o,H a=some o) H vm (.tup slots):=rm.ex (aV λa o e z=>⟨z,o,e⟩)
    have XQ:Rep C (λa=>A a/\∃o,H a=some o) H vr (.lst rw):=rr.ex (aV λa o e z=>⟨z,o,e⟩)
    unfold Zw
    dsimp only [cu,gO,aX]
    intro wa IA
    have s1:=(aL IA (.dK [])).over IA (.dK [(.inl 0,.int 1)])
    refine⟨az,.inl 0,rfl,?_⟩
    refine Mj (A:=λa=>A a/\∃o,H a=some o) (λa z=>z.2) rm' XQ s1 IA az (.cons (.int 1) .nil) h1 λH' X9 U0 y3 y4 y5 y6 y7 e1 e2 s=>?_
    obtain⟨ra,us,ev,hra,ru⟩:=Ap.lst (.inl (XQ.ex (.of_same s)))
    cases ev
    refine⟨_,rfl,X9,rfl,.inl ⟨_,.inl e1⟩,⟨_,rfl,ra,us,rfl,.inl (A0.of hra),⟨_,A5.k (k:=.inl (us.length:Nat)) e1,?_⟩⟩⟩
    have hl:us.length=rw.length:=ru.length
    rcases AJ.val (k:=.inl (us.length:Nat)) e2 with ⟨y,py,g1,g2,ry⟩ | ⟨g1,g2⟩
    ·have eL:aJ w (.inl (us.length:Nat))=some py:=g2
     rw[hl] at eL g1
     rw[eL] at q
     rw[hl,g1]
     exact q _ _ s (ry.ex (aV λ_ _ _ f=>f.elim))
    ·have eL:aJ w (.inl (us.length:Nat))=none:=g2
     rw[hl] at eL g1
     rw[eL] at q
     rw[hl,g1]
     exact q _ _ s (.int 0)
 ·cases hm
noncomputable def bu (n:qq):List zD:=n.map λi=>.k (.inl i)
theorem xr (f:PV->Option zD)(hf:∀i,f (.int i)=some (.k (.inl i))):∀n:List Int,qd f (n.map PV.int)=some (bu n)
 | []=>rfl
 | i::n=>by
  show (f (.int i)).bind _=_
  rw[hf,ay,xr f hf n]
  rfl
theorem iM (n:qq):AD (n.map PV.int)=some (bu n):=by
 unfold AD ig
 split
 ·rename_i e
  match n,e with
  | [],e=>cases e
  | [_],e=>cases e
  | _::_::_,e=>injection e with e1 _;cases e1
 ·exact xr _ (λi=>rfl) n
structure FS where
 ws:List WS
 AO:List (List zD×PV)
 later:List (List Int)
noncomputable def mz (cn:Nat)(io so ro:List PV->Option PV)(node:qq)(x:PV×List Int)(st:FS):Option (FS ⊕ PV):=match aJ st.AO (bu x.2) with
 | some _=>some (.inl st)
 | none=>match st.ws,x.2 with
  | w0::_,k::_=>(io [w0.pv cn,.int k]).bind λo=>match o with
   | .bl true=>some (.inl st)
   | .bl false=>if st.AO.length < 1000000/\st.later.length < 1000000 then
     (so [.lst (st.ws.map λw=>w.pv cn),A9 x.2]).bind λs=>match s with
      | .bl true=>(ro [.dT (bD st.AO (bu x.2) (.tup [A9 node,x.1])),A9 x.2]).bind λv=>some (.inr v)
      | .bl false=>some (.inl { st with AO:=bD st.AO (bu x.2) (.tup [A9 node,x.1]),later:=st.later++[x.2] })
      | _=>none
    else none
   | _=>none
  | _,_=>none
structure FI (C:MC)(cn:Nat)(cs:List WC)(wl da lb:Addr)(H0:Hp)(F:Addr->Prop)(H:Hp)(st:FS):Prop where
 W:EM C cn F H cs st.ws
 Ee:H wl=some (.lst (cs.map λc=>V.ref c.a))
 DT:∃kv,H da=some (.dT kv)/\AN C (λ_=>False) H kv st.AO
 GU:∃vs,H lb=some (.lst vs)/\zI C (λ_=>False) H vs (st.later.map A9)
 dm:∀b,F b->∃o,H b=some o
 nF:¬ F wl/\¬ F da/\¬ F lb
 F9:∀c∈cs,wl≠c.lp
 P7:∀c∈cs,da≠c.a/\da≠c.ah/\da≠c.lp/\da≠c.ln/\da≠c.lo
 LG:∀c∈cs,lb≠c.a/\lb≠c.ah/\lb≠c.lp/\lb≠c.ln/\lb≠c.lo
 WK:wl≠lb
 new:H0 da=none/\H0 lb=none
 kp:AY cs H0 H
variable {F:Addr->Prop}
theorem jX {H':Hp}(h:∀x o,H x=some o->gW o=false->H' x=some o):Ex (λ_=>False) H F H':=λx o e=>⟨λz=>z.elim,λm=>h x o e m⟩
theorem FI.same {C:MC}{cn:Nat}{cs:List WC}{wl da lb:Addr}{H0 H H':Hp}{F:Addr->Prop}{st:FS}(I:FI C cn cs wl da lb H0 F H st)(s:zS H H'):FI C cn cs wl da lb H0 F H' st where
 W:=I.W.same s
 Ee:=s _ _ I.Ee
 DT:=let ⟨kv,e,r⟩:=I.DT;⟨kv,s _ _ e,r.ex (.of_same s)⟩
 GU:=let ⟨kv,e,r⟩:=I.GU;⟨kv,s _ _ e,r.ex (.of_same s)⟩
 dm:=λb f=>let ⟨o,e⟩:=I.dm b f;⟨o,s b o e⟩
 nF:=I.nF
 F9:=I.F9
 P7:=I.P7
 LG:=I.LG
 WK:=I.WK
 new:=I.new
 kp:=λx o e n=>s x o (I.kp x o e n)
theorem EM.rep {C:MC}{cn:Nat}{F:Addr->Prop}{H:Hp}{cs:List WC}{ws:List WS}(W:EM C cn F H cs ws):zI C (λ_=>True) H (cs.map λc=>V.ref c.a) (ws.map λw=>w.pv cn):=by
 have h:∀(cs:List WC) (ws:List WS),cs.length=ws.length->(∀(i:Nat) (c:WC) (w:WS),cs[i]?=some c->ws[i]?=some w->c.n=cn/\WR C F H c w)->zI C (λ_=>True) H (cs.map λc=>V.ref c.a) (ws.map λw=>w.pv cn):=by
  intro cs
  induction cs with
  | nil=>
   intro ws l _
   cases ws with
   | nil=>exact .nil
   | cons w ws=>cases l
  | cons c cs ih=>
   intro ws l a
   cases ws with
   | nil=>cases l
   | cons w ws=>
    obtain⟨e,Wc⟩:=a 0 c w rfl rfl
    refine .cons ?_ (ih ws (by simpa using l) λi c w h1 h2=>a (i+1) c w (by simpa using h1) (by simpa using h2))
    have:=Wc.rep
    rw[e] at this
    exact this.ex (aV λ_ _ _ _=>trivial)
 exact h cs ws W.len W.all
def Kv (C:MC)(cn:Nat)(io:List PV->Option PV):TE:=jV (C.cl cn) "is_over" (C2 C io false) [] E0 (L6 (vH C.K) (aG 0) (tC (.int 0))) (aO (L6 (Dl C.K) (aG 8) (tC (.int 0))) bx)
def zL (C:MC)(H0 H':Hp)(v:V)(p:PV):Prop:=∃a,v=.ref a/\H0 a=none/\Top C (λc=>H0 c=none/\c≠a) H' a p
def El (C:MC)(cn:Nat)(io so ro:List PV->Option PV)(fS:Addr):TS:=
 lW (Hy (tB (jg C.K (aG 8) (aG 3))) (Hz (tB (Kv C cn io))))
  (cu (jW C.K (aG 3) (aG 8) (yI (aO (aG 6) (aO (aG 7) bx))))
   (cu (ul (Vn C.K "list" vJ (aG 5) (aO (aG 8) bx)))
    (lW (tB (uO 1 fS (C2 C so false) (aO (aG 0) (aO (aG 8) bx)))) (jd (fP (C2 C ro true) [] E0 (aO (aG 3) (aO (aG 8) bx)))) jx)))
  jx
variable {cn:Nat}{cs:List WC}
theorem FI.grow {wl da lb p b:Addr}{H0:Hp}{st:FS}{kd:List (List zD×V)}{lv:List V}{node rc:qq}{sd:PV}{vn vd:V}(I:FI C cn cs wl da lb H0 F H st)(DT:H da=some (.dT kd))(P8:AN C (λ_=>False) H kd st.AO)(GU:H lb=some (.lst lv))(VA:zI C (λ_=>False) H lv (st.later.map A9))(hp:H p=none)
  (rn:Rep C (λ_=>False) H vn (A9 node)) (rd:Rep C (λ_=>False) H vd sd) (rr:Rep C (λ_=>False) H (.ref b) (A9 rc)):
  FI C cn cs wl da lb H0 F (upd (upd (upd H p (.tup [vn,vd])) da (.dT (putK kd (bu rc) (.ref p)))) lb (.lst (lv++[.ref b]))) { st with AO:=bD st.AO (bu rc) (.tup [A9 node,sd]),later:=st.later++[rc] } /\
  (∀x o,H x=some o->gW o=false->upd (upd (upd H p (.tup [vn,vd])) da (.dT (putK kd (bu rc) (.ref p)))) lb (.lst (lv++[.ref b])) x=some o) /\
  (∀x o,H x=some o->x≠da->x≠lb->upd (upd (upd H p (.tup [vn,vd])) da (.dT (putK kd (bu rc) (.ref p)))) lb (.lst (lv++[.ref b])) x=some o):=by
 have s1:=aL hp (.tup [vn,vd])
 have npd:p≠da:=(aq DT hp).symm
 have npl:p≠lb:=(aq GU hp).symm
 have WL:da≠lb:=bN DT GU (λz=>nomatch z)
 have I1:=I.same s1
 have P9:=s1 _ _ DT
 have W2:EM C cn F (upd (upd H p (.tup [vn,vd])) da (.dT (putK kd (bu rc) (.ref p)))) cs st.ws:=I1.W.own P9 rfl I.nF.2.1 I.P7
 have Zx:upd (upd H p (.tup [vn,vd])) da (.dT (putK kd (bu rc) (.ref p))) lb=some (.lst lv):=by rw[ao WL.symm];exact s1 _ _ GU
 have W3:=W2.own (o:=.lst (lv++[.ref b])) Zx rfl I.nF.2.2 I.LG
 have k3:∀x o,H x=some o->x≠da->x≠lb->upd (upd (upd H p (.tup [vn,vd])) da (.dT (putK kd (bu rc) (.ref p)))) lb (.lst (lv++[.ref b])) x=some o:=λx o e n1 n2=>by rw[ao n2,ao n1];exact s1 x o e
 have km:∀x o,H x=some o->gW o=false->upd (upd (upd H p (.tup [vn,vd])) da (.dT (putK kd (bu rc) (.ref p)))) lb (.lst (lv++[.ref b])) x=some o:=λx o e m=>k3 x o e (λz=>by rw[z,DT] at e;cases e;cases m) λz=>by rw[z,GU] at e;cases e;cases m
 have ex:=jX (F:=λ_=>False) km
 have hp3:upd (upd (upd H p (.tup [vn,vd])) da (.dT (putK kd (bu rc) (.ref p)))) lb (.lst (lv++[.ref b])) p=some (.tup [vn,vd]):=by rw[ao npl,ao npd,az]
 refine⟨⟨W3,k3 _ _ I.Ee (bN I.Ee DT (λz=>nomatch z)) I.WK,⟨_,by rw[ao WL,az],AN.put (.tup hp3 (.cons (rn.ex ex) (.cons (rd.ex ex) .nil))) (P8.ex ex)⟩,⟨_,az,?_⟩,λx f=>?_,I.nF,I.F9,I.P7,I.LG,I.WK,I.new,λx o e n=>?_⟩,km,k3⟩
 ·rw[cf]
  exact(VA.ex ex).append (.cons (rr.ex ex) .nil)
 ·obtain⟨o,e⟩:=I.dm x f
  exact⟨o,k3 x o e (λz=>I.nF.2.1 (z▸f)) (λz=>I.nF.2.2 (z▸f))⟩
 ·exact k3 x o (I.kp x o e n) (λz=>by rw[z,I.new.1] at e;cases e) λz=>by rw[z,I.new.2] at e;cases e
variable {io so ro:List PV->Option PV}{out:FS ⊕ PV}
theorem Jx {fS wl da lb:Addr}{H0:Hp}{st:FS}{node rc:qq}{sd:PV}{vs vn vd vr:V}(I:FI C cn cs wl da lb H0 F H st)(rn:Rep C (λ_=>False) H vn (A9 node))(rd:Rep C (λ_=>False) H vd sd)(rr:Rep C (λ_=>False) H vr (A9 rc))
  (h:mz cn io so ro node (sd,rc) st=some out)
  (q1:∀H' BA,out=.inl BA->FI C cn cs wl da lb H0 F H' BA->(∀x o,H x=some o->gW o=false->H' x=some o)->(∀x o,H x=some o->x≠da->x≠lb->H' x=some o)->D.nx [some (.ref wl),some (.ref fS),some vs,some (.ref da),some (.ref la),some (.ref lb),some vn,some vd,some vr] H')
  (q2:∀H' v p,out=.inr p->AY cs H0 H'->zL C H0 H' v p->D.rt v H'):
  El C cn io so ro fS D [some (.ref wl),some (.ref fS),some vs,some (.ref da),some (.ref la),some (.ref lb),some vn,some vd,some vr] H:=by
 obtain⟨kd,DT,P8⟩:=I.DT
 obtain⟨lv,GU,VA⟩:=I.GU
 obtain⟨b,us,rfl,hb,rb⟩:=Ap.tup (.inl rr)
 have ck:Cc C.K H b (bu rc):=hb.key (rb.AD (iM rc))
 have eus:=qt rb
 unfold El
 dsimp only [lW,Hy,tB,jg,Hz,cu,jW,ul,Vn,jx,jd,fP,uO]
 refine⟨_,rfl,_,rfl,da,_,rfl,A5.t DT ck,_,rfl,?_⟩
 unfold mz at h
 dsimp only at h
 rcases AN.val (k:=bu rc) P8 with ⟨y,py,g1,g2,ry⟩ | ⟨g1,g2⟩
 ·have eL:aJ st.AO (bu rc)=some py:=g2
  rw[eL] at h
  cases h
  rw[g1]
  exact lY (lY (q1 H st rfl I (λ_ _ e _=>e) λ_ _ e _ _=>e))
 ·have eL:aJ st.AO (bu rc)=none:=g2
  rw[eL] at h
  rw[g1]
  refine jh ?_
  cases U2:st.ws with
  | nil=>rw[U2] at h;cases h
  | cons w0 wr=>
   cases rc with
   | nil=>rw[U2] at h;cases h
   | cons k rc'=>
    rw[U2] at h
    obtain⟨o,ho,h⟩:=al.mp h
    obtain⟨c0,cr,ecs⟩:∃c0 cr,cs=c0::cr:=by
     have:=I.W.len
     rw[U2] at this
     cases cs with
     | nil=>cases this
     | cons c0 cr=>exact⟨c0,cr,rfl⟩
    obtain⟨Sn,W0⟩:=I.W.all 0 c0 w0 (by rw[ecs];rfl) (by rw[U2];rfl)
    have PZ:us=V.int k::rc'.map V.int:=eus
    have i0:B5 (cs.map λc=>V.ref c.a) 0=some (.ref c0.a):=by rw[ecs];simp[B5,Kk]
    have i1:B5 us 0=some (.int k):=by rw[PZ];simp[B5,Kk]
    unfold Kv
    dsimp only [jV,L6,tC,aO,bx]
    refine⟨_,rfl,wl,_,0,_,rfl,rfl,A0.of I.Ee,i0,c0.a,c0.dx,_,rfl,by rw[← Sn];exact W0.ob,rfl,?_⟩
    refine⟨_,rfl,b,us,0,_,rfl,rfl,hb.sq,i1,?_⟩
    have r0:Rep C (λ_=>True) H (.ref c0.a) (w0.pv cn):=by
     have:=W0.rep
     rw[Sn] at this
     exact this.ex (aV λ_ _ _ _=>trivial)
    refine⟨λ_=>True,[w0.pv cn,.int k],o,.cons r0 (.cons (.int _) .nil),ho,λv1 H1 s1 r1=>?_⟩
    have F5:Ap C _ H1 v1 o:=.inl r1
    cases o <;> first | (cases h;done) | skip
    rename_i ob
    refine⟨ob,F5.bl,?_⟩
    have I1:=I.same s1
    cases ob with
    | true=>
     cases h
     exact lY (q1 H1 st rfl I1 (λx o e _=>s1 x o e) λx o e _ _=>s1 x o e)
    | false=>
     refine jh ?_
     dsimp only at h
     split at h
     ·rename_i hz
      obtain⟨s,hs,h⟩:=al.mp h
      have P9:=s1 _ _ DT
      have WM:=s1 _ _ GU
      have U3:Ex (λ_=>False) H (λ_=>False) H1:=.of_same s1
      refine⟨_,rfl,_,rfl,by show (2:Nat)<=sizeLine;decide,λp hp=>?_⟩
      have ck1:Cc C.K H1 b (bu (k::rc')):=ck.keeps λx ys e=>s1 _ _ e
      have sp:=aL hp (.tup [vn,vd])
      have Zj:Cc C.K (upd H1 p (.tup [vn,vd])) b (bu (k::rc')):=ck1.keeps λx ys e=>sp _ _ e
      refine⟨_,rfl,_,rfl,da,_,rfl,Fs.t (sp _ _ P9) Zj (bY (by rw[P8.length];omega)),?_⟩
      obtain⟨I4,km,k4⟩:=I1.grow P9 (P8.ex U3) WM (VA.ex U3) hp (rn.ex U3) (rd.ex U3) (rr.ex U3)
      have WL:da≠lb:=bN DT GU (λz=>nomatch z)
      have hl3:upd (upd H1 p (.tup [vn,vd])) da (.dT (putK kd (bu (k::rc')) (.ref p))) lb=some (.lst lv):=by rw[ao WL.symm];exact sp _ _ WM
      refine⟨_,rfl,.inl ⟨rfl,lv,A0.of hl3⟩,_,rfl,lb,lv,.ref b,rfl,rfl,hl3,bY (by have:=VA.length;rw[ba] at this;omega),?_⟩
      refine⟨rfl,_,rfl,_,rfl,?_⟩
      have rr4:=(rr.ex U3).ex (jX (F:=λ_=>True) km)
      refine⟨λ_=>True,[.lst (st.ws.map λw=>w.pv cn),A9 (k::rc')],s,.cons (.lst I4.Ee trivial I4.W.rep) (.cons rr4 .nil),by rw[U2];exact hs,λv5 H5 s5 r5=>?_⟩
      have Y9:Ap C _ H5 v5 s:=.inl r5
      cases s <;> first | (cases h;done) | skip
      rename_i sb
      refine⟨sb,Y9.bl,?_⟩
      have I5:=I4.same s5
      cases sb with
      | true=>
       refine jh ?_
       obtain⟨pv,Zy,h⟩:=al.mp h
       cases h
       obtain⟨kd5,hd5,rd5⟩:=I5.DT
       refine⟨_,rfl,_,rfl,?_⟩
       refine⟨λc=>c=da,[.dT (bD st.AO (bu (k::rc')) (.tup [A9 node,sd])),A9 (k::rc')],pv,.cons (.dT hd5 rfl (rd5.ex (aV λ_ _ _ z=>z.elim))) (.cons (((rr.ex U3).ex (jX (F:=λ_=>False) km)).ex (jX λx o e m=>s5 x o e)) .nil),Zy,λv H6 s6 r6=>?_⟩
       refine q2 H6 v pv rfl (λx o e n=>s6 x o (I5.kp x o e n)) ?_
       obtain⟨a,ev,hn,tp⟩:=r6
       exact⟨a,ev,I5.kp.UU I5.W hn,tp.ex (aV λx o _ z=>⟨z.1.elim (λe=>by rw[e];exact I.new.1) λe=>I5.kp.UU I5.W e,z.2⟩) λo z=>z⟩
      | false=>
       cases h
       exact lY (q1 H5 _ (by rw[U2]) I5 (λx o e m=>s5 x o (km x o (s1 x o e) m)) λx o e n1 n2=>s5 x o (k4 x o (s1 x o e) n1 n2))
     ·cases h
noncomputable def mC (cn:Nat)(io so ro:List PV->Option PV)(node:qq):List (PV×List Int)->FS->Option (FS ⊕ PV)
 | [],st=>some (.inl st)
 | x::xs,st=>(mz cn io so ro node x st).bind λo=>match o with
  | .inl BA=>mC cn io so ro node xs BA
  | .inr v=>some (.inr v)
noncomputable def qx (pb:List PV->Option PV)(cn:Nat)(S:List PV)(io so ro:List PV->Option PV):List (List Int)->FS->Option (FS ⊕ PV)
 | [],st=>some (.inl st)
 | n::ns,st=>(Vy pb cn S st.ws n).bind λr=>(mC cn io so ro n (S.zip r.1) { st with ws:=r.2 }).bind λo=>match o with
  | .inl BA=>qx pb cn S io so ro ns BA
  | .inr v=>some (.inr v)
noncomputable def tH (pb:List PV->Option PV)(cn:Nat)(S:List PV)(io so ro:List PV->Option PV):Nat->List (List Int)->FS->Option PV
 | 0,_,_=>none
 | _+1,[],_=>some .Au
 | f+1,n::ns,st=>(qx pb cn S io so ro (n::ns) { st with later:=[] }).bind λo=>match o with
  | .inl BA=>tH pb cn S io so ro f BA.later BA
  | .inr v=>some v
noncomputable def VB (pb:List PV->Option PV)(cn:Nat)(S:List PV)(io so ro:List PV->Option PV)(ws:List WS):Option PV:=
 tH pb cn S io so ro 1000 [List.replicate ws.length 0] { ws:=ws,AO:=[(bu (List.replicate ws.length 0),.Au)],later:=[List.replicate ws.length 0] }
section
variable {C:MC}{cn:Nat}{cs:List WC}{wl da lb:Addr}{H0 H H1:Hp}{F F1:Addr->Prop}{st:FS}{EN:List WS}
theorem FI.walk (I:FI C cn cs wl da lb H0 F H st)(kp:AY cs H H1)(gr:FV F F1 H)(W:EM C cn F1 H1 cs EN)(dm:∀b,F1 b->∃o,H1 b=some o):FI C cn cs wl da lb H0 F1 H1 { st with ws:=EN }:=by
 have ex:=jX (H:=H) (H':=H1) (F:=λ_=>False) λx o e m=>kp.tup I.W e m
 obtain⟨kd,DT,P8⟩:=I.DT
 obtain⟨lv,GU,VA⟩:=I.GU
 have no:∀x o,H x=some o->¬ F x->¬ F1 x:=λx o e n z=>(gr.2 x z).elim n λq=>by rw[q] at e;cases e
 exact⟨W,kp.lst I.W I.Ee I.F9,⟨kd,kp da _ DT λc hc=>⟨(I.P7 c hc).2.2.1,(I.P7 c hc).2.2.2.1,(I.P7 c hc).2.2.2.2⟩,P8.ex ex⟩,⟨lv,kp lb _ GU λc hc=>⟨(I.LG c hc).2.2.1,(I.LG c hc).2.2.2.1,(I.LG c hc).2.2.2.2⟩,VA.ex ex⟩,dm,
  ⟨no _ _ I.Ee I.nF.1,no _ _ DT I.nF.2.1,no _ _ GU I.nF.2.2⟩,I.F9,I.P7,I.LG,I.WK,I.new,I.kp.trans kp⟩
end
def zM (C:MC)(cn:Nat)(pb:List PV->Option PV)(S:List PV)(io so ro:List PV->Option PV)(fS aS:Addr):TS:=
 vC (x_ C.K .T .L (aO (tC (.ref aS)) (aO (fP (zE C cn pb S) [] E0 (aO (aG 0) (aO (aG 6) bx))) bx))) (vA C.K 2 (jy (aX 7) (jy (aX 8) vz))) (El C cn io so ro fS)
theorem R4 {v:V}{n:qq}(r:Rep C A H v (A9 n)):Rep C (λ_=>False) H v (A9 n):=Ci r (iM n)
variable {pb:List PV->Option PV}{nodes:List (List Int)}
theorem GQ {S:List PV}{fS aS wl da lb:Addr}{H0:Hp}{st:FS}{node:qq}{vs vn:V}{x8:Option V}{EN:List WS}(hS:qp C aS S)(ne:cs≠[])(hz:cs.length<=1000)(T:WT C.K (C.cl cn))(I:FI C cn cs wl da lb H0 F H st)(rn:Rep C (λ_=>False) H vn (A9 node))
  (Ya:Vy pb cn S st.ws node=some (nodes,EN)) (h:mC cn io so ro node (S.zip nodes) { st with ws:=EN }=some out)
  (q1:∀H' F' BA y7 y8,out=.inl BA->FI C cn cs wl da lb H0 F' H' BA->(∀x o,H x=some o->gW o=false->H' x=some o)->(∀x xs,H x=some (.lst xs)->(∀c∈cs,x≠c.lp)->x≠lb->H' x=some (.lst xs))->D.nx [some (.ref wl),some (.ref fS),some vs,some (.ref da),some (.ref la),some (.ref lb),some vn,y7,y8] H')
  (q2:∀H' v p,out=.inr p->AY cs H0 H'->zL C H0 H' v p->D.rt v H'):
  zM C cn pb S io so ro fS aS D [some (.ref wl),some (.ref fS),some vs,some (.ref da),some (.ref la),some (.ref lb),some vn,x7,x8] H:=by
 obtain⟨us,PZ,UT⟩:=hS
 have oK:us.length=S.length:=(UT F H).length
 have nl:nodes.length=S.length:=by
  obtain⟨r,_,h2⟩:=al.mp Ya
  obtain⟨rows,_,h3⟩:=al.mp h2
  cases h3
  simp
 unfold zM
 refine⟨_,rfl,_,rfl,?_⟩
 refine⟨F,cs,st.ws,node,nodes,EN,wl,vn,rfl,ne,T,I.W,I.Ee,I.nF.1,I.F9,hz,rn.ex (aV λ_ _ _ z=>z.elim),Ya,λH1 F1 l Ic k1 g1 W1 hl nl1 PU r1=>?_⟩
 refine⟨aS,l,rfl,⟨us,kO PZ⟩,⟨Ic,A0.of PU⟩,?_⟩
 obtain⟨c0,SD⟩:=ja _ ne
 obtain⟨i0,U4⟩:=eC.mp SD
 have Zn:∀b,F1 b->∃o,H1 b=some o:=(W1.all i0 c0 _ U4 (ai (by rw[← W1.len];exact(ag.mp U4).1))).2.dm
 have I1:=I.walk k1 g1 W1 Zn
 obtain⟨kd,DT,_⟩:=I.DT
 obtain⟨lv,GU,_⟩:=I.GU
 have nld:l≠da:=(aq DT hl).symm
 have LG:l≠lb:=(aq GU hl).symm
 have lv':Ic.length=nodes.length:=by have:=r1.length;simpa using this
 refine Jk (K:=C.K) (k1:=.T) (k2:=.L) (a:=aS) (b:=l) (xs:=us) (ys:=Ic) (by omega) (λj σ Hj=>∃y7 y8 KL,σ=[some (.ref wl),some (.ref fS),some vs,some (.ref da),some (.ref la),some (.ref lb),some vn,y7,y8]/\FI C cn cs wl da lb H0 F1 Hj KL/\mC cn io so ro node ((S.zip nodes).drop j) KL=some out/\(∀x o,H1 x=some o->gW o=false->Hj x=some o)/\∀x o,H1 x=some o->x≠da->x≠lb->Hj x=some o)
  ⟨x7,x8,_,rfl,I1,h,λ_ _ e _=>e,λ_ _ e _ _=>e⟩ (λj σ Hj _ ⟨y7,y8,KL,_,Ij,_,_,kj⟩=>⟨kO PZ,A0.of (kj _ _ PU nld LG)⟩) (λj x y σ Hj hx hy ⟨y7,y8,KL,e,Ij,hj,mj,kj⟩ t ht=>?_) (fun σ Hj ⟨y7,y8,KL,e,Ij,hj,mj,kj⟩=>?_)
 ·subst e
  have X8:j < us.length:=(ag.mp hx).1
  have hs:S[j]?=some (S[j]'(by omega)):=ai (by omega)
  have hn:nodes[j]?=some (nodes[j]'(by omega)):=ai (by omega)
  have EA:(S.zip nodes).drop j=(S[j]'(by omega),nodes[j]'(by omega))::(S.zip nodes).drop (j+1):=by
   rw[cb (by simp;omega)]
   simp
  generalize S[j]'(by omega)=sd at hs EA
  generalize nodes[j]'(by omega)=rc at hn EA
  rw[EA] at hj
  obtain⟨o,ho,hj⟩:=al.mp (show ((mz cn io so ro node (sd,rc) KL).bind _)=_ from hj)
  have s1:=aL ht (.tup [x,y])
  refine⟨t,[x,y],rfl,B6.of az,rfl,x,[y],rfl,?_⟩
  refine⟨y,[],rfl,rfl,?_⟩
  have rd:Rep C (λ_=>False) (upd Hj t (.tup [x,y])) x sd:=by
   obtain⟨p,e,r⟩:=(UT (λ_=>False) (upd Hj t (.tup [x,y]))).get' hx
   rw[hs] at e
   cases e
   exact r
  have rr:Rep C (λ_=>False) (upd Hj t (.tup [x,y])) y (A9 rc):=by
   obtain⟨p,e,r⟩:=r1.get' hy
   rw[cm,hn] at e
   cases e
   exact((R4 r).ex (jX (F:=λ_=>False) mj)).ex (.of_same s1)
  have rn':Rep C (λ_=>False) (upd Hj t (.tup [x,y])) vn (A9 node):=((rn.ex (jX (F:=λ_=>False) λx o e m=>k1.tup I.W e m)).ex (jX (F:=λ_=>False) mj)).ex (.of_same s1)
  refine Jx (Ij.same s1) rn' rd rr ho (λH' BA e I' m' k'=>?_) (λH' v p e kp rp=>?_)
  ·subst e
   exact⟨some x,some y,BA,rfl,I',hj,λz o e m=>m' z o (s1 z o (mj z o e m)) m,λz o e n1 n2=>k' z o (s1 z o (kj z o e n1 n2)) n1 n2⟩
  ·subst e
   cases hj
   exact q2 H' v p rfl kp rp
 ·subst e
  have EA:(S.zip nodes).drop us.length=[]:=by rw[dv];simp;omega
  rw[EA] at hj
  cases hj
  refine q1 Hj F1 KL y7 y8 rfl Ij (λx o e m=>mj x o (k1.tup I.W e m) m) λx xs e n1 n2=>?_
  exact kj x _ (k1.lst I.W e n1) (λz=>by rw[z,DT] at e;cases e) n2
def QB (C:MC)(cn:Nat)(pb:List PV->Option PV)(S:List PV)(io so ro:List PV->Option PV)(fS aS:Addr):TS:=vC (xX C.K (aG 4)) (aX 6) (zM C cn pb S io so ro fS aS)
theorem Ml {S:List PV}{fS aS wl da lb:Addr}{H0:Hp}{st:FS}{nv:List V}{vs:V}{x6 x8:Option V}(hS:qp C aS S)(ne:cs≠[])(hz:cs.length<=1000)(T:WT C.K (C.cl cn))(I:FI C cn cs wl da lb H0 F H st)
  (E6:H la=some (.lst nv)) (WN:zI C (λ_=>False) H nv (nodes.map A9)) (nla:∀c∈cs,la≠c.lp) (LG:la≠lb) (h:qx pb cn S io so ro nodes st=some out)
  (q1:∀H' F' BA y6 y7 y8,out=.inl BA->FI C cn cs wl da lb H0 F' H' BA->D.nx [some (.ref wl),some (.ref fS),some vs,some (.ref da),some (.ref la),some (.ref lb),y6,y7,y8] H')
  (q2:∀H' v p,out=.inr p->AY cs H0 H'->zL C H0 H' v p->D.rt v H'):
  QB C cn pb S io so ro fS aS D [some (.ref wl),some (.ref fS),some vs,some (.ref da),some (.ref la),some (.ref lb),x6,x7,x8] H:=by
 refine⟨_,rfl,la,rfl,⟨nv,A0.of E6⟩,?_⟩
 have ln:nv.length=nodes.length:=by have:=WN.length;simpa using this
 refine HH (K:=C.K) (a:=la) (xs:=nv) (λj σ Hj=>∃y6 y7 y8 KL Fj,σ=[some (.ref wl),some (.ref fS),some vs,some (.ref da),some (.ref la),some (.ref lb),y6,y7,y8]/\FI C cn cs wl da lb H0 Fj Hj KL/\qx pb cn S io so ro (nodes.drop j) KL=some out/\(∀x o,H x=some o->gW o=false->Hj x=some o)/\Hj la=some (.lst nv))
  ⟨x6,x7,x8,st,F,rfl,I,h,λ_ _ e _=>e,E6⟩ (λj σ Hj _ ⟨_,_,_,_,_,_,_,_,_,e⟩=>A0.of e) (λj x σ Hj hx ⟨y6,y7,y8,KL,Fj,e,Ij,hj,mj,laj⟩=>?_) (fun σ Hj ⟨y6,y7,y8,KL,Fj,e,Ij,hj,mj,laj⟩=>?_)
 ·subst e
  have X8:j < nv.length:=(ag.mp hx).1
  have hn:nodes[j]?=some (nodes[j]'(by omega)):=ai (by omega)
  have EA:nodes.drop j=nodes[j]'(by omega)::nodes.drop (j+1):=cb (by omega)
  generalize nodes[j]'(by omega)=n at hn EA
  rw[EA] at hj
  obtain⟨⟨nds,ws2⟩,Ya,hj⟩:=al.mp (show ((Vy pb cn S KL.ws n).bind _)=_ from hj)
  obtain⟨o,ho,hj⟩:=al.mp hj
  have rn:Rep C (λ_=>False) Hj x (A9 n):=by
   obtain⟨p,e,r⟩:=WN.get' hx
   rw[cm,hn] at e
   cases e
   exact r.ex (jX mj)
  refine GQ hS ne hz T Ij rn Ya ho (λH' F' BA z7 z8 e I' m' k'=>?_) (λH' v p e kp rp=>?_)
  ·subst e
   exact⟨some x,z7,z8,BA,F',rfl,I',hj,λy o e m=>m' y o (mj y o e m) m,k' la nv laj nla LG⟩
  ·subst e
   cases hj
   exact q2 H' v p rfl kp rp
 ·subst e
  have EA:nodes.drop nv.length=[]:=by rw[dv];omega
  rw[EA] at hj
  cases hj
  exact q1 Hj Fj KL y6 y7 y8 rfl Ij
theorem FI.fresh {wl da lb:Addr}{H0:Hp}{st:FS}(I:FI C cn cs wl da la H0 F H st)(hb:H lb=none):FI C cn cs wl da lb H0 F (upd H lb (.lst [])) { st with later:=[] }:=by
 have s:=aL hb (.lst [])
 obtain⟨kd,DT,P8⟩:=I.DT
 exact⟨I.W.same s,s _ _ I.Ee,⟨kd,s _ _ DT,P8.ex (.of_same s)⟩,⟨[],az,.nil⟩,λb f=>(let ⟨o,e⟩:=I.dm b f;⟨o,s b o e⟩),⟨I.nF.1,I.nF.2.1,λf=>by obtain⟨o,e⟩:=I.dm lb f;rw[hb] at e;cases e⟩,I.F9,I.P7,I.W.nc hb,aq I.Ee hb,⟨I.new.1,I.kp.UU I.W hb⟩,λx o e n=>s x o (I.kp x o e n)⟩
def tWh (C:MC)(cn:Nat)(pb:List PV->Option PV)(S:List PV)(io so ro:List PV->Option PV)(fS aS:Addr):TS:=
 Fl (tB (tGt (LO (zz C.K) (aO (aG 4) bx)) (tC (.int 0)))) (cu (gO (vD bx) (aX 5)) (cu (QB C cn pb S io so ro fS aS) (gO (aG 5) (aX 4))))
theorem QC {S:List PV}{fS aS wl da:Addr}{H0:Hp}{st:FS}{vs:V}{x5 x6 x8:Option V}{out:PV}{fuel:Nat}(hS:qp C aS S)(ne:cs≠[])(hz:cs.length<=1000)(T:WT C.K (C.cl cn))(I:FI C cn cs wl da la H0 F H st)(h:tH pb cn S io so ro fuel st.later st=some out)
  (q1:∀ σ H',out=.Au->AY cs H0 H'->D.nx σ H')
  (q2:∀H' v,AY cs H0 H'->zL C H0 H' v out->D.rt v H'):
  tWh C cn pb S io so ro fS aS D [some (.ref wl),some (.ref fS),some vs,some (.ref da),some (.ref la),x5,x6,x7,x8] H:=by
 refine⟨λm σ H=>∃la x5 x6 x7 x8 F st,σ=[some (.ref wl),some (.ref fS),some vs,some (.ref da),some (.ref la),x5,x6,x7,x8]/\FI C cn cs wl da la H0 F H st/\tH pb cn S io so ro m st.later st=some out,⟨fuel,la,x5,x6,x7,x8,F,st,rfl,I,h⟩,?_⟩
 rintro m σ H ⟨la,x5,x6,x7,x8,F,st,rfl,I,h⟩
 obtain⟨nv,E6,WN⟩:=I.GU
 have ln:nv.length=st.later.length:=by have:=WN.length;simpa using this
 cases m with
 | zero=>cases h
 | succ f=>
  refine⟨_,rfl,la,nv,rfl,.inl (A0.of E6),_,_,rfl,rfl,_,rfl,?_⟩
  cases hl:st.later with
  | nil=>
   rw[hl] at h ln
   cases h
   have e:decide ((0:Int) < (nv.length:Nat))=false:=by rw[ln];rfl
   exact(ax (λx=>bd (e.symm.trans x))).mpr (q1 _ H rfl I.kp)
  | cons n ns=>
   rw[hl] at h ln
   have e:decide ((0:Int) < (nv.length:Nat))=true:=by
    have:nv.length=ns.length+1:=ln
    exact g9 (by omega)
   refine(a0 e).mpr ?_
   obtain⟨o,ho,h⟩:=al.mp (show ((qx pb cn S io so ro (n::ns) { st with later:=[] }).bind _)=_ from h)
   refine⟨fun σ H=>∃la x5 x6 x7 x8 F st,σ=[some (.ref wl),some (.ref fS),some vs,some (.ref da),some (.ref la),x5,x6,x7,x8]/\FI C cn cs wl da la H0 F H st/\tH pb cn S io so ro f st.later st=some out,fun σ' H' p=>⟨f,f8 _,p⟩,?_⟩
   refine⟨cq _,λlb hb=>?_⟩
   have s:=aL hb (.lst [])
   have I2:=I.fresh hb
   refine Ml hS ne hz T I2 (s _ _ E6) ((show zI C (λ_=>False) H nv ((n::ns).map A9) from by rw[← hl];exact WN).ex (.of_same s)) (λc hc=>(I.LG c hc).2.2.1) (aq E6 hb) ho (λH' F' BA y6 y7 y8 e I'=>?_) (λH' v p e kp rp=>?_)
   ·subst e
    exact⟨_,rfl,lb,some (.ref lb),y6,y7,y8,F',BA,rfl,I',h⟩
   ·subst e
    cases h
    exact q2 H' v kp rp
def zN (K:W.Frag):TE:=L6 Ks (yI (aO (tC (.int 0)) bx)) (LO (zz K) (aO (aG 0) bx))
theorem GR {K:W.Frag}{wl:Addr}{ls:List V}{rest:List (Option V)}{Q:VK}(Ee:H wl=some (.lst ls))(VC:ls.length=1\/ls.length=2)(q:∀H1 a,zS H H1->H1 a=some (.tup (List.replicate ls.length (V.int 0)))->Q (.ref a) H1):zN K (some (.ref wl)::rest) H Q:=by
 unfold zN
 refine⟨by show (1:Nat)<=sizeLine;decide,λp hp=>?_⟩
 have s:=aL hp (.tup [V.int 0])
 refine⟨_,rfl,wl,ls,rfl,.inl (A0.of (s _ _ Ee)),p,_,rfl,az,?_⟩
 rcases VC with e | e
 ·rw[e] at q
  exact .inl ⟨by rw[e];rfl,q _ p s az⟩
 ·rw[e] at q
  exact .inr ⟨by rw[e];rfl,λl hl=>q _ l (s.trans (aL hl _)) az⟩
def Zz (C:MC)(cn:Nat)(pb:List PV->Option PV)(S:List PV)(io so ro:List PV->Option PV)(fS aS:Addr):TS:=
 cu (gO (zN C.K) (aX 2)) (cu (gO (Dq C.K (aG 2) (tC .Au)) (aX 3)) (cu (gO (vD (aO (aG 2) bx)) (aX 4)) (cu (tWh C cn pb S io so ro fS aS) (jd (tC .Au)))))
def QD (C:MC)(cn:Nat)(pb:List PV->Option PV)(S:List PV)(io so ro:List PV->Option PV)(fS:Addr):Sp:=λvs H Q _=>∃F cs ws out wl,vs=[.ref wl,.ref fS]/\(cs.length=1\/cs.length=2)/\WT C.K (C.cl cn)/\EM C cn F H cs ws/\H wl=some (.lst (cs.map λc=>V.ref c.a))/\¬ F wl/\(∀c∈cs,wl≠c.lp)/\VB pb cn S io so ro ws=some out /\
 ∀H' v,AY cs H H'->(out=.Au/\v=.Au\/zL C H H' v out)->Q v H'
theorem QF {S:List PV}{fS aS:Addr}{vs:List V}{Q:VK}{E:XK}(hS:qp C aS S)(h:QD C cn pb S io so ro fS vs H Q E):Zz C cn pb S io so ro fS aS { nx:=λ_ H'=>Q .Au H',rt:=Q } (L2.start ["walks","is_sought","start","ways","nodes","later","node","said","reached"] vs) H:=by
 obtain⟨F,cs,ws,out,wl,rfl,VC,T,W,Ee,nwF,F9,hf,q⟩:=h
 have ne:cs≠[]:=by rintro rfl;rcases VC with e | e <;> cases e
 have hz:cs.length<=1000:=by rcases VC with e | e <;> omega
 have lw:=W.len
 obtain⟨c0,SD⟩:=ja _ ne
 obtain⟨i0,U4⟩:=eC.mp SD
 have dm:∀b,F b->∃o,H b=some o:=(W.all i0 c0 _ U4 (ai (by rw[← W.len];exact(ag.mp U4).1))).2.dm
 unfold Zz
 dsimp only [cu,gO,aX]
 refine GR Ee (by simpa using VC) λH1 a s1 ha=>?_
 rw[ba,lw] at ha
 have rz:Rep C (λ_=>False) H1 (.ref a) (A9 (List.replicate ws.length 0)):=.tup ha (by
  rw[show List.replicate ws.length (V.int 0)=(List.replicate ws.length (0:Int)).map V.int by simp]
  exact j5 _ _ (λi=>.int i) _)
 obtain⟨b,us,e,hb,rb⟩:=Ap.tup (.inl rz)
 cases e
 have ck:Cc C.K H1 a (bu (List.replicate ws.length 0)):=hb.key (rb.AD (iM _))
 intro da DT
 have sd:=aL DT (.dT [])
 refine⟨_,rfl,az,a,_,rfl,ck.keeps λx ys e=>sd _ _ e,?_⟩
 have s3:=sd.over DT (.dT [(bu (List.replicate ws.length 0),V.Au)])
 refine⟨_,rfl,by show (1:Nat)<=sizeLine;decide,λla E6=>?_⟩
 have s4:=aL E6 (.lst [.ref a])
 have s14:=s3.trans s4
 have Qb:=s1.trans s14
 have U5:H da=none:=by
  cases e:H da with
  | none=>rfl
  | some o=>rw[s1 _ _ e] at DT;cases DT
 have FA:H1 la=none:=by
  cases e:H1 la with
  | none=>rfl
  | some o=>rw[s3 _ _ e] at E6;cases E6
 have Qr:H la=none:=by
  cases e:H la with
  | none=>rfl
  | some o=>rw[s1 _ _ e] at FA;cases FA
 have WL:da≠la:=aq az E6
 have nf:∀x,H x=none->¬ F x:=λx e f=>by obtain⟨o,z⟩:=dm x f;rw[e] at z;cases z
 refine QC (H0:=H) (F:=F) (st:={ ws:=ws,AO:=[(bu (List.replicate ws.length 0),.Au)],later:=[List.replicate ws.length 0] }) (fuel:=1000) (out:=out) hS ne hz T
  ⟨W.same Qb,Qb _ _ Ee,⟨_,s4 _ _ az,.cons .Au .nil⟩,⟨_,az,.cons (rz.ex (.of_same s14)) .nil⟩,λb f=>(let ⟨o,e⟩:=dm b f;⟨o,Qb b o e⟩),⟨nwF,nf _ U5,nf _ Qr⟩,F9,W.nc U5,W.nc Qr,aq Ee Qr,⟨U5,Qr⟩,λx o e _=>Qb x o e⟩ hf
  (fun σ H' e kp=>?_) (λH' v kp r=>q H' v kp (.inr r))
 subst e
 exact q H' .Au kp (.inl ⟨rfl,rfl⟩)
def Jy (mg:Str->Option Value)(x:Str)(C:MC)(cn:Nat)(pb:List PV->Option PV)(S:List PV)(io so ro:List PV->Option PV):Sp:=λvs H Q E=>∃fS,mg x=some (.ref fS)/\QD C cn pb S io so ro fS vs H Q E
end Lake.MR
namespace Lake.L2
open PySem PySem.Spec PyProof.Rows
structure IB (BS scope:Scope)(z:Str)(ON N:qo)(AB:List (Option Nat)):Prop where
 kind:scope.kind=.function
 loc:∀y∈scope.names,y.2=.local->scope.names.lookup y.1=some .local
 fr:∀y∈scope.names,y.2=.free->BS.names.lookup y.1=some .cell\/BS.names.lookup y.1=some .free
 AB:oh scope ON N AB=true
 one:∀n cl,cellsFrom n scope.names cl=(z,n)::cl
 push:∀h,pushCells h scope.names=h.push { cls:=.type "cell",data:=.cell none }
 zc:∀y∈scope.names,y.2=.cell->y.1=z
 nz:∀y∈scope.names,y.2=.free->y.1≠z
theorem IB.at {BS scope:Scope}{z:Str}{ON N:qo}{AB:List (Option Nat)}(S:IB BS scope z ON N AB){j i:Nat}{x:Str}(h:AB[j]?=some (some i))(hx:N[j]?=some x):ON[i]?=some x/\scope.names.lookup x=some .free:=by
 have h0:=S.AB
 unfold oh at h0
 rw[b6] at h0
 have hj:j < N.length:=(ag.mp hx).1
 have h1:=gc.mp h0.2 j (b0.mpr hj)
 rw[h] at h1
 dsimp only at h1
 rw[hx] at h1
 cases hy:ON[i]? with
 | none=>rw[hy] at h1;simp at h1
 | some y=>
  rw[hy] at h1
  simp only[b6,hJ] at h1
  exact⟨by rw[h1.1],h1.2⟩
theorem IB.len {BS scope:Scope}{z:Str}{ON N:qo}{AB:List (Option Nat)}(S:IB BS scope z ON N AB):AB.length=N.length:=by
 have h0:=S.AB
 unfold oh at h0
 rw[b6,hJ] at h0
 exact h0.1
abbrev Cx.BE (X:Cx)(z:Str)(N:qo)(scope:Scope)(C:Addr)(s:Shared)(H:Hp)(fp:qr):Cx where
 prog:=X.prog
 w:=X.w
 K:=X.K
 mg:=X.mg
 base:=X.base
 A:=X.A
 N:=N
 s₀:=s
 H₀:=H
 env:=compEnvC scope ((z,C+1)::jM X.env scope.names) C X.env
 outer:=X.stack
 stack:=X.stack
 ex:=fp
 fn:=λx=>x == z
 calm:=X.calm
 pn:=[]
 xe:=λ_ _=>False
theorem mD {env:Env}:∀{names:List (Str×NameKind)}{x:Str}{j:NameKind},(j=.cell\/j=.free)->
  (names.map λ(n,k)=>if (k == NameKind.free&&env.scope.kind == .function&&env.kindOf n == some .cell) then (n,NameKind.cell) else (n,k)).lookup x=some j->(x,.free)∈names\/(x,.cell)∈names
 | [],_,_,_,h=>by simp at h
 | (n,k)::r,x,j,hj,h=>by
  have ih:=@mD env r x j hj
  cases hx:x == n with
  | true=>
   have e:x=n:=by simpa using hx
   subst e
   by_cases hc:(k == NameKind.free&&env.scope.kind == .function&&env.kindOf x == some .cell)=true
   ·have hk:k=.free:=by
     simp only[b6,hJ] at hc
     exact hc.1.1
    subst hk
    exact .inl am
   ·simp only[ap,ax hc,b9,hx] at h
    have hk:k=j:=by simpa using h
    rcases hj with z | z
    ·rw[hk,z]
     exact .inr am
    ·rw[hk,z]
     exact .inl am
  | false=>
   by_cases hc:(k == NameKind.free&&env.scope.kind == .function&&env.kindOf n == some .cell)=true
   ·simp only[ap,a0 hc,b9,hx] at h
    exact(ih h).imp (af _) (af _)
   ·simp only[ap,ax hc,b9,hx] at h
    exact(ih h).imp (af _) (af _)
variable {cl:List (Str×Addr)}
theorem Mm {M:Model}{A:Around}{E:oT}{s:Shared}{scope:Scope}{z:Str}{globals:Addr}{qual:Str}{around:Env}{builtins:Addr}{Q:Env->Shared->Prop}(one:∀n cl,cellsFrom n scope.names cl=(z,n)::cl)(push:∀h,pushCells h scope.names=h.push { cls:=.type "cell",data:=.cell none })
  (h:Q (newEnv scope s.heap.objs.size globals ((z,s.heap.objs.size+1)::cl) qual none .none (some around) builtins) { s with heap:=(s.heap.push { cls:=.type "dict",data:=.dict #[] }).push { cls:=.type "cell",data:=.cell none } }):
  wpAny M A (newFunctionEnv scope globals cl [] qual none .none (some around) builtins) Q E s:=by
 simp only[newFunctionEnv,Option.isSome_some,fw]
 refine ab (wpAny_alloc ?_)
 refine ab (wpAny_layCells _ (λname kind cells=>by cases hkc:kind == NameKind.cell <;> simp[hkc]) _ _ _ _ ?_)
 rw[one,push]
 refine ab ?_
 rw[kM]
 refine ae (ae ?_)
 rw[show ({ s with heap:=s.heap.push { cls:=.type "dict",data:=.dict #[] } }:Shared).heap.objs.size=s.heap.objs.size+1 from cy ..]
 exact h
section
variable {X:Cx}{tg iter elt:Expr}{ifs:qk}{scope BS:Scope}{z:Str}{ON N:qo}{AB:List (Option Nat)}{wi:TI}{g:TG}{tt:TT}{te:TE}{pos:Pos}
theorem oY {C c:Addr}{x:Str}(e:((z,C+1)::cl).lookup x=some c):(x=z/\c=C+1)\/(x≠z/\cl.lookup x=some c):=by
 rw[b9] at e
 cases hx:x == z with
 | true=>
  rw[hx] at e
  exact .inl ⟨by simpa using hx,(be e).symm⟩
 | false=>
  rw[hx] at e
  exact .inr ⟨by simpa using hx,e⟩
theorem GX {C c:Addr}{x:Str}(n:x≠z)(e:cl.lookup x=some c):((z,C+1)::cl).lookup x=some c:=by
 rw[b9,show (x == z)=false by simpa using n]
 exact e
theorem QG {C:Addr}:((z,C+1)::cl).lookup z=some (C+1):=by
 rw[b9,show (z == z)=true by simp]
theorem Jz {zC:p9}{σ:St}{H2:Hp}{s2:Shared}{fp:qr}{C:Addr}(I2:Inv X zC σ H2 s2)(S:IB BS scope z ON N AB)(DJ:X.env.scope=BS)(f2:∀b∈fp,gP X zC H2 b)
  (Lc:∀b∈fp,b < s2.heap.objs.size) (hC:s2.heap.objs.size<=C):(X.BE z N scope C s2 H2 fp).Ok:=by
 have HG:∀x∈scope.names,x.2=.free->∃c,X.env.cells.lookup x.1=some c:=λx hx e=>I2.ok.has x.1 (by
  rcases S.fr x hx e with z | z
  ·exact .inl (by rw[Env.kindOf,DJ];exact z)
  ·exact .inr (by rw[Env.kindOf,DJ];exact z))
 have low:∀{x:Str}{c:Addr},(jM X.env scope.names).lookup x=some c->c < s2.heap.objs.size:=λ{x c} e=>by
  obtain⟨v,q⟩:=I2.cell x c (dG HG e)
  exact q.lt
 refine⟨I2.mod,S.kind,I2.ok.glob,I2.ok.blt,hC,λx y c h1 h2=>?_,λx h=>?_,λx c h e=>?_,I2.ok.hd,I2.ok.frames,.inl rfl,λb hb=>⟨?_,λx c e=>?_⟩,λb o e=>I2.bs b o e,?_,λb o e hb=>?_,λb hb hz=>?_,I2.stack,I2.GH⟩
 ·rcases oY h1 with ⟨e1,e2⟩ | ⟨e1,e2⟩ <;> rcases oY h2 with ⟨e3,e4⟩ | ⟨e3,e4⟩
  ·rw[e1,e3]
  ·have q:=low e4;rw[e2] at q;exact absurd q (Nat.not_lt.mpr (d5 hC (ip _)))
  ·have q:=low e2;rw[e4] at q;exact absurd q (Nat.not_lt.mpr (d5 hC (ip _)))
  ·exact I2.ok.inj x y c (dG HG e2) (dG HG e4)
 ·have hm:(x,NameKind.free)∈scope.names\/(x,NameKind.cell)∈scope.names:=by
   rcases h with h | h
   ·exact mD (env:=X.env) (.inl rfl) h
   ·exact mD (env:=X.env) (.inr rfl) h
  rcases hm with hm | hm
  ·obtain⟨c,hc⟩:=uB (env:=X.env) hm
   exact⟨c,GX (S.nz _ hm rfl) hc⟩
  ·have e:x=z:=S.zc _ hm rfl
   rw[e]
   exact⟨C+1,QG⟩
 ·rcases oY e with ⟨_,e2⟩ | ⟨e1,_⟩
  ·rw[e2];exact d5 hC (ip _)
  ·exact absurd (by simpa using h) e1
 ·exact bg (bi (Lc b hb) hC)
 ·rcases oY e with ⟨_,e2⟩ | ⟨_,e2⟩
  ·rw[e2];exact df (bi (Lc b hb) (d5 hC (ip _)))
  ·exact(f2 b hb).2.2.2.2.1 x c (dG HG e2)
 ·exact d5 I2.ok.L1 I2.sz
 ·rcases(f2 b hb).2.2.2.1 with z | z
  ·exact I2.ok.KU b o e z
  ·exact absurd (bi (av e) (d5 I2.ok.L1 z)) (fz _)
 ·obtain⟨_,f1,f3,_⟩:=f2 b hb
  rcases bm.mp (I2.EE b hz) with z | z
  ·exact f1 z
  ·exact f3 z
theorem Em {zC:p9}{s:Shared}{σ:St}{H:Hp}{Q:VK}{RR:Value->Addr->Result->Shared->Prop}{MB:Str}(hc:X.calm=true)(S:IB BS scope z ON N AB)(DJ:X.env.scope=BS)(hN:X.N=ON)
  (hi:PI X tg iter wi) (hg:∀C s H fp,PG (X.BE z N scope C s H fp) tg g) (ht:∀C s H fp,p_ (X.BE z N scope C s H fp) ifs tt) (he:∀C s H fp,PE (X.BE z N scope C s H fp) elt te)
  (I:Inv X zC σ H s) (h:gA wi AB g tt te σ H Q)
  (fin:∀D C H' s',Inv X zC σ H' s'->gP X zC H' C->(∃m,s'.heap.Ns C m)->Q (.ref D) H'->RR (.ref D) C (.ok .next) s'):
  wpAny (model X.prog X.w) X.A (eval iter X.env) (λx s₁=>wpAny (model X.prog X.w) X.A (pyIter x) (λQ2 s₂=>wpAny (model X.prog X.w) X.A (newList []) (λacc s₃=>
   wpAny (model X.prog X.w) X.A (newFunctionEnv scope X.env.globals (jM X.env scope.names) [] X.env.qual none .none (some X.env)) (λMD s₄=>
    codeAny (model X.prog X.w) X.A (.compStart (.ListComp elt [⟨tg,iter,ifs,0⟩] scope pos) 0 Q2 acc { MD with scope:=relabel scope X.env }) (RR acc MD.locals) s₄) X.xe s₃) X.xe s₂) X.xe s₁) X.xe s:=by
 refine AM (hi zC s σ H _ I h.ex) λv s1 h1=>AM h1 λQ2 s2 h2=>?_
 obtain⟨it,fp,tn,J,H2,e,I2,T,TB,f2,q2⟩:=h2
 subst e
 refine cS (Mm S.one S.push ?_)
 dsimp only
 generalize T2:s2.heap.push { cls:=.type "list",dict:=none,data:=.seq ([]:qf).toArray }=P2
 generalize hD:s2.heap.objs.size=D
 have U6:((P2.push { cls:=.type "dict",data:=.dict #[] }).push { cls:=.type "cell",data:=.cell none }).Ns P2.objs.size (λ_=>none):=(Heap.Ns.new P2 (.type "dict")).keeps λb o e=>ac _ e
 have U7:((P2.push { cls:=.type "dict",data:=.dict #[] }).push { cls:=.type "cell",data:=.cell none }).IsCell (P2.objs.size+1) none:=⟨{ cls:=.type "cell",data:=.cell none },by
  have:((P2.push { cls:=.type "dict",data:=.dict #[] }).push { cls:=.type "cell",data:=.cell none }).get? (P2.push { cls:=.type "dict",data:=.dict #[] }).objs.size=some { cls:=.type "cell",data:=.cell none }:=ar _ rfl
  rw[cy] at this
  exact this,rfl⟩
 have U8:∀b o,P2.get? b=some o->((P2.push { cls:=.type "dict",data:=.dict #[] }).push { cls:=.type "cell",data:=.cell none }).get? b=some o:=λb o e=>ac _ (ac _ e)
 generalize hh₁:(P2.push { cls:=.type "dict",data:=.dict #[] }).push { cls:=.type "cell",data:=.cell none }=h₁ at U6 U7 U8 ⊢
 generalize V5:P2.objs.size=C at U6 U7 ⊢
 have V6:C=D+1:=by rw[← V5,← T2,cy,hD]
 have FO:s2.heap.objs.size<=C:=by rw[V6,hD];exact ip _
 have Lc:∀b∈fp,b < s2.heap.objs.size:=λb hb=>by
  obtain⟨o,e,_⟩:=T.obj 0 _ TB b hb
  exact av e
 have below:∀b,b < s2.heap.objs.size->b≠C:=λb hb=>bg (bi hb FO)
 have k1:∀b o,s2.heap.get? b=some o->h₁.get? b=some o:=λb o e=>U8 b o (T2▸ac _ e)
 have XG:D≠C:=by rw[V6];exact bg (f8 _)
 have gD:h₁.get? D=some { cls:=.type "list",dict:=none,data:=.seq ([]:qf).toArray }:=by
  refine U8 D _ ?_
  rw[← T2,← hD]
  exact ar _ rfl
 have nD:H2 D=none:=I2.AK.fresh (by rw[hD];exact aE _)
 have nC:H2 C=none:=I2.AK.fresh FO
 have HG:∀x∈scope.names,x.2=.free->∃c,X.env.cells.lookup x.1=some c:=λx hx e=>I2.ok.has x.1 (by
  rcases S.fr x hx e with z | z
  ·exact .inl (by rw[Env.kindOf,DJ];exact z)
  ·exact .inr (by rw[Env.kindOf,DJ];exact z))
 obtain⟨W,⟨m0,w0⟩,turn⟩:=q2 D nD
 have IY:Inv (X.BE z N scope C s2 H2 fp) [] (bO AB σ) (upd H2 D (.lst [])) { s2 with heap:=h₁ }:=by
  have hp:s2.heap.objs.size<=D:=by rw[hD];exact aE _
  refine⟨Jz I2 S DJ f2 Lc FO,rfl,I2.bare,Un.laid k1 hp nD,⟨_,U6,λj x v e1 e2 e3=>?_⟩,λx c e=>?_,?_,λx c e=>?_,λp hp=>by simp at hp,I2.AK.laid k1 hp ⟨cq _,[],_,.nil,gD⟩,?_⟩
  ·have Ll:(AB.map (p6 σ))[j]?=some (some v):=e2
   rw[cm] at Ll
   cases q:AB[j]? with
   | none=>rw[q] at Ll;cases Ll
   | some o=>
    rw[q] at Ll
    have e4:p6 σ o=some v:=be Ll
    cases o with
    | none=>cases e4
    | some i=>
     have hσ:σ[i]?=some (some v):=by
      have e5:(σ[i]?).getD none=some v:=e4
      cases z:σ[i]? with
      | none=>rw[z] at e5;cases e5
      | some w=>rw[z] at e5;exact dP some e5
     obtain⟨RS,IJ⟩:=S.at q e1
     have hk:X.env.kindOf x=some .cell\/X.env.kindOf x=some .free:=by
      rcases S.fr _ (mem_of_lookup IJ) rfl with z | z
      ·exact .inl (by rw[Env.kindOf,DJ];exact z)
      ·exact .inr (by rw[Env.kindOf,DJ];exact z)
     obtain⟨m,hn,hl⟩:=I2.loc
     obtain⟨u,r,l⟩:=hl i x v (by rw[hN];exact RS) hσ (by
      rcases hk with z | z
      ·exact .inr (.inl z)
      ·exact .inr (.inr z))
     refine⟨u,r,?_⟩
     rcases l with ⟨z,_⟩ | ⟨_,c,Vk,FY⟩
     ·rcases hk with y | y
      ·rw[y] at z;cases z
      ·rw[y] at z;cases z
     ·obtain⟨c',Ki⟩:=uB (env:=X.env) (mem_of_lookup IJ)
      have e6:=dG HG Ki
      rw[Vk] at e6
      have e7:c=c':=be e6
      subst e7
      obtain⟨oc,ho,hd⟩:=FY
      exact .inr ⟨kh (env:=X.env) IJ,c,GX (S.nz _ (mem_of_lookup IJ) rfl) Ki,⟨oc,k1 c oc ho,hd⟩⟩
  ·rcases oY e with ⟨_,e2⟩ | ⟨_,e2⟩
   ·rw[e2];exact⟨none,U7⟩
   ·obtain⟨v,oc,ho,hd⟩:=I2.cell x c (dG HG e2)
    exact⟨v,oc,k1 c oc ho,hd⟩
  ·show upd H2 D (.lst []) C=none
   rw[ao (fT XG)]
   exact nC
  ·rcases oY e with ⟨_,e2⟩ | ⟨_,e2⟩
   ·show upd H2 D (.lst []) c=none
    rw[e2,ao (show C+1≠D by omega)]
    exact I2.AK.fresh (by omega)
   ·have e':=dG HG e2
    obtain⟨v,oc,ho,hd⟩:=I2.cell x c e'
    show upd H2 D (.lst []) c=none
    rw[ao (λz=>absurd (av ho) (by rw[z,hD];exact fz _))]
    exact I2.CI x c e'
  ·show (AB.map (p6 σ)).length=N.length
   rw[ba]
   exact S.len
 have Fm:∀{H':Hp},(∀b∈fp,H' b=none)->∀b∈fp,gP (X.BE z N scope C s2 H2 fp) [] H' b:=λhn b hb=>by
  obtain⟨_,f1,f3,f4,f5,f6⟩:=f2 b hb
  refine⟨hn b hb,below b (Lc b hb),λhz=>?_,.inl hb,λx c e=>(oY e).elim (λq=>by rw[q.2];exact df (bi (Lc b hb) (d5 FO (ip _)))) λq=>f5 x c (dG HG q.2),λp hp=>by simp at hp⟩
  rcases bm.mp (I2.EE b hz) with z | z
  ·exact f1 z
  ·exact f3 z
 have back:∀{σ':St}{H':Hp}{s':Shared},Inv (X.BE z N scope C s2 H2 fp) [] σ' H' s'->Inv X zC σ H' s':=λ{σ' H' s'} I'=>
  I2.Q1 (ch:=fp) I'.os I'.base I'.AK I'.bare λb hb=>let ⟨_,f1,_,f4,f5,f6⟩:=f2 b hb;⟨f4,f1,f5,f6⟩
 have V7:tn 0 h₁:=T.keep 0 _ _ TB λb _ o e=>k1 b o e
 have YI:∀b∈fp,upd H2 D (.lst []) b=none:=λb hb=>by
  rw[ao (λz=>absurd (Lc b hb) (by rw[z,hD];exact fz _))]
  exact(f2 b hb).1
 have loop:codeAny (model X.prog X.w) X.A (.compLoop (.ListComp elt [⟨tg,iter,ifs,0⟩] scope pos) 0 (.ref it) (.ref D) (compEnvC scope ((z,C+1)::jM X.env scope.names) C X.env)) (RR (.ref D) C) { s2 with heap:=h₁ }:=by
  refine gM (λn s'=>∃i ys H',Inv (X.BE z N scope C s2 H2 fp) [] (bO AB σ) H' s'/\tn i s'.heap/\(∀b∈fp,H' b=none)/\W i n ys H') ?_ m0 ⟨0,[],_,IY,V7,YI,w0⟩
  rintro n s3 ⟨i,ys,H3,I3,Rl,RA,w3⟩
  obtain⟨hDy,MG⟩:=turn i n ys H3 w3
  rcases MG with ⟨stop,qn⟩ | ⟨go,Nx,YJ,step⟩
  ·refine AM (T.done (X.BE z N scope C s2 H2 fp) rfl rfl rfl hc i [] s3 (bO AB σ) H3 _ I3 (Fm RA) Rl stop) ?_
   rintro r s4 ⟨hr,I4⟩
   subst hr
   obtain⟨m,hm,_⟩:=I4.loc
   exact fin D C H3 s4 (back I4) (I2.GI FO I4.free) ⟨m,hm⟩ qn
  ·refine AM (T.item (X.BE z N scope C s2 H2 fp) rfl rfl rfl hc i [] s3 (bO AB σ) H3 _ I3 (Fm RA) Rl go) ?_
   rintro r s4 ⟨u,hr,h4⟩
   subst hr
   refine AM h4 ?_
   rintro _ s5 ⟨x,H5,I5,r5,y5,L5,VQ⟩
   have VR:=I5.pinned (Fm VQ) (T.obj _ _ L5)
   refine AM (hg C s2 H2 fp _ s5 (bO AB σ) H5 x u _ VR r5 (step x H5 y5)) ?_
   rintro _ s6 ⟨σ6,H6,I6,V8,q6⟩
   refine AM (ht C s2 H2 fp _ s6 σ6 H6 _ I6 q6) ?_
   rintro b s7 ⟨H7,I7,q7⟩
   have again:∀{EK:List V}{H7:Hp}{s7:Shared},Inv (X.BE z N scope C s2 H2 fp) ([]++mQ fp s5.heap) σ6 H7 s7->Nx EK H7->∃m,m < n/\∃i ys H',Inv (X.BE z N scope C s2 H2 fp) [] (bO AB σ) H' s7/\tn i s7.heap/\(∀b∈fp,H' b=none)/\W i m ys H':=λ{EK H7 s7} I7 n7=>by
    obtain⟨m',hm,w7⟩:=YJ EK H7 n7
    refine⟨m',hm,i+1,EK,H7,I7.C0.weak V8.1 V8.2,T.keep _ _ _ L5 λb hb o e=>(I7.pin (b,o) (bS _ (bS _ (gn hb e)))).1,λb hb=>?_,w7⟩
    obtain⟨o,e,d⟩:=T.obj _ _ L5 b hb
    exact(I7.pin (b,o) (bS _ (bS _ (gn hb e)))).2.1
   cases b with
   | false=>
    rw[ax bd] at q7 ⊢
    exact again I7 q7
   | true=>
    rw[a0 rfl] at q7 ⊢
    refine AM (he C s2 H2 fp _ s7 σ6 H7 _ I7 q7) ?_
    rintro xv s8 ⟨y,H8,I8,r8,YK,YL,n8⟩
    refine AM (jH (X:=X.BE z N scope C s2 H2 fp) _ s8 σ6 H8 (.ref D) [y] (.ref D) [xv] (λ_ H9=>Nx (ys++[y]) H9) I8 rfl (.cons r8 .nil) ⟨D,ys,y,rfl,rfl,YK,YL,n8⟩) ?_
    rintro _ s9 ⟨_,H9,I9,_,n9⟩
    exact again I9 n9
 subst hD V5
 exact codeAny_compStart_list loop (T.self _ 0 _ _ _ V7 loop)
theorem GZ {zC:p9}{s:Shared}{σ:St}{H:Hp}(S:IB BS scope z ON N AB)(DJ:X.env.scope=BS)(I:Inv X zC σ H s):closureFor scope X.env=pure (jM X.env scope.names):=
 pH λx hx e=>I.ok.has x.1 (by
  rcases S.fr x hx e with z | z
  ·exact .inl (by rw[Env.kindOf,DJ];exact z)
  ·exact .inr (by rw[Env.kindOf,DJ];exact z))
theorem JB (S:IB BS scope z ON N AB)(hi:PI X tg iter wi)(hg:∀C s H fp,PG (X.BE z N scope C s H fp) tg g)(ht:∀C s H fp,p_ (X.BE z N scope C s H fp) ifs tt)(he:∀C s H fp,PE (X.BE z N scope C s H fp) elt te)
  (hc:X.calm=true:=by rfl) (DJ:X.env.scope=BS:=by rfl) (hN:X.N=ON:=by rfl) (hs:∀x,foldedSetIterable iter X.env x=pure x:=by intro _;rfl):PE X (.ListComp elt [⟨tg,iter,ifs,0⟩] scope pos) (gA wi AB g tt te):=by
 intro zC s σ H Q I h
 rw[eval_ListComp]
 refine nS (use:=none) rfl hs (GZ S DJ I) S.kind S.loc ?_
 refine Em (RR:=λacc C=>compPost (model X.prog X.w) X.A X.xe none (EP X zC σ Q) acc C) (MB := "") hc S DJ hN hi hg ht he I h λD C H' s' I' f hm q=>?_
 obtain⟨m,hm⟩:=hm
 exact⟨m,hm,λh' DU=>⟨.ref D,H',I'.RU f DU,rfl,q⟩⟩
end
end Lake.L2
namespace Lake.MR
open PySem L2
variable {x:Str}
section
variable {X:Cx}
theorem q_ {Cl:Addr}{k j:Nat}{o e:Expr}{es:qk}{ta:TE}{t:TA}{ps:qo}{sp:Sp}{apos pos:Pos}(cM:EG X.prog X.w X.K X.mg X.base Cl k x ps sp)(hc:II X.K Cl)(hr:AR j X.A)(ho:PE X o ta)(ha:PA X (e::es) t)(hle:k<=j:=by decide)
  (CL:starEach (e::es) X.env=(false,eval e X.env)::starEach es X.env:=by rfl) (A8:(backTo pos (starEach es X.env)).any (·.1)=false:=by rfl){pl:Sem Bool}
  (ht:eval (.Call (.Attribute o x apos) (e::es) [] pos) X.env=(do
   let ov ← eval o X.env
   standAt apos.atName
   let (f,first) ← holding [ov] (getMethod ov x pl)
   callWith pos f first (backTo pos (starEach (e::es) X.env)) (backToKw pos (keywordEach [] X.env))):=by rfl):
  PE X (.Call (.Attribute o x apos) (e::es) [] pos) (jV Cl x sp [] E0 ta t):=by
 obtain⟨f,fd,F,hb,hM⟩:=cM.ex
 exact Bx (pl:=pl) ho hc hM F (hr.mono hle) hb .nil uy ha CL A8 ht
theorem Mp {k j i:Nat}{fS:Addr}{y:Str}{ps:qo}{sp:Sp}{p pos:Pos}{e:Expr}{es:qk}{t:TA}(c:IL X.prog X.w X.K X.mg X.base k y ps sp)(hm:X.mg y=some (.ref fS))(hr:AR j X.A)(ha:PA X (e::es) t)(hle:k<=j:=by decide)
  (hN:X.N[i]?=some x:=by rfl) (hv:LZ X.env.scope x:=by first | exact eT rfl | exact e9 (eT rfl) | exact e9 (e9 rfl)) (hd:(x == ("__debug__" : Str))=false:=by decide) (D9:(x == ("__classdict__" : Str))=false:=by decide)
  (he:starEach (e::es) X.env=(false,eval e X.env)::starEach es X.env:=by rfl) (A8:(backTo pos (starEach es X.env)).any (·.1)=false:=by rfl):PE X (.Call (.Name x p) (e::es) [] pos) (uO i fS sp t):=by
 obtain⟨f,fd,F,hb,kp,hm'⟩:=c.ex
 rw[hm] at hm'
 cases hm'
 exact Jm F (hr.mono hle) kp hb ha hN hv hd D9 he A8
end
noncomputable def VD (wl ra ro es:List PV->Option PV)(st p:PV)(most:Int):Option WS:=
 (wl [p]).bind λc=>(ra [c]).bind λa=>match a with
  | .dT B4=>(es [c]).bind λs=>(ro [c,s]).bind λe=>(ro [c,st]).bind λr0=>(AD [.tup [r0,.int 1]]).bind λk=>
    some { B4:=B4,most:=most,fin:=e,CB:=[.tup [.tup [r0,.int 1]]],nums:=[(k,.int 0)],D8:=[] }
  | _=>none
def zO (C:MC)(cn:Nat)(wl ra ro es:List PV->Option PV)(st:PV):Sp:=λvs H Q _=>∃A p most w x dx vm,vs=[.ref x,vm,.int most]/\WT C.K (C.cl cn)/\H x=some (.ins (C.cl cn) dx [])/\¬ A x/\Rep C A H vm p/\VD wl ra ro es st p most=some w /\
 ∀H' F c,(∀a o,a≠x->H a=some o->H' a=some o)->c.n=cn->c.a=x->(H c.ah=none/\H c.lp=none/\H c.ln=none/\H c.lo=none)->(∀b,F b->(A b\/H b=none)/\b≠x)->WR C F H' c w->Q .Au H'
def ZC (C:MC)(wl ra ro es:List PV->Option PV)(aT:Addr):TS:=
 cu (gO (fP (C2 C wl false) [] E0 (aO (aG 1) bx)) (aX 3))
  (cu (pR C.K (aG 0) (fP (C2 C ra true) [] E0 (aO (aG 3) bx)) "ahead")
  (cu (pR C.K (aG 0) (aG 2) "most")
  (cu (pR C.K (aG 0) (fP (C2 C ro false) [] E0 (aO (aG 3) (aO (fP (C2 C es false) [] E0 (aO (aG 3) bx)) bx))) "end")
  (cu (pR C.K (aG 0) (vD (aO (yI (aO (yI (aO (fP (C2 C ro false) [] E0 (aO (aG 3) (aO (tC (.ref aT)) bx))) (aO (tC (.int 1)) bx))) bx)) bx)) "places")
  (cu (pR C.K (aG 0) (Dq C.K (L6 (vH C.K) (je C.K (aG 0) "places") (tC (.int 0))) (tC (.int 0))) "numbers")
  (pR C.K (aG 0) yR "onward"))))))
variable {H:Hp}
theorem uT {A A':Addr->Prop}{H':Hp}{x Cl dx:Addr}{fs:List (Str×V)}(hx:H x=some (.ins Cl dx fs))(nA:¬ A x)(off:∀a o,a≠x->H a=some o->H' a=some o)(sub:∀a o,H a=some o->A a->A' a):Ex A H A' H':=λa o e=>
 ⟨λq=>⟨off a o (λz=>nA (z▸q)) e,sub a o e q⟩,λm=>off a o (λz=>by rw[z,hx] at e;cases e;cases m) e⟩
theorem QH {C:MC}{cn:Nat}{wl ra ro es:List PV->Option PV}{st:PV}{aT:Addr}{vs:List V}{Q:VK}{E:XK}(hT:∀B H,Rep C B H (.ref aT) st)(h:zO C cn wl ra ro es st vs H Q E):ZC C wl ra ro es aT { nx:=λ_ H'=>Q .Au H',rt:=Q } (L2.start ["self","metre","most","closed"] vs) H:=by
 obtain⟨A,p,most,w,x,dx,vm,rfl,T,hx,nA,rm,hw,q⟩:=h
 obtain⟨c,hc,hw⟩:=al.mp hw
 obtain⟨a,ha,hw⟩:=al.mp hw
 cases a <;> first | (cases hw;done) | skip
 rename_i B4
 obtain⟨s,hs,hw⟩:=al.mp hw
 obtain⟨e,he,hw⟩:=al.mp hw
 obtain⟨r0,hr0,hw⟩:=al.mp hw
 obtain⟨k,hk,hw⟩:=al.mp hw
 cases hw
 unfold ZC
 dsimp only [cu,gO,aX,pR]
 refine⟨_,rfl,A,[p],c,.cons rm .nil,hc,λvc H1 s1 rc=>?_⟩
 have rc:Rep C (λa=>(A a\/H a=none)/\∃o,H1 a=some o) H1 vc c:=Rep.ex (aV λa o e q=>⟨q,o,e⟩) rc
 generalize hA1:(λa=>(A a\/H a=none)/\∃o,H1 a=some o)=A1 at rc
 have WO:¬ A1 x:=by rw[← hA1];rintro ⟨z | z,_⟩;exact nA z;rw[hx] at z;cases z
 have RS:=s1 _ _ hx
 refine⟨_,rfl,A1,[c],.dT B4,.cons rc .nil,ha,?_⟩
 rintro _ H2 s2 ⟨ah,rfl,Yb,kv,UX,rkv⟩
 have IJ:=s2 _ _ RS
 refine⟨_,rfl,x,_,dx,_,rfl,IJ,T.cl,T.PY,by decide,?_⟩
 have ZD:upd H2 x (.ins (C.cl cn) dx (bT "ahead" (.ref ah) [])) x=some (.ins (C.cl cn) dx [("ahead",.ref ah)]):=az
 have MW:∀a o,a≠x->H2 a=some o->upd H2 x (.ins (C.cl cn) dx (bT "ahead" (.ref ah) [])) a=some o:=λa o n e=>by rw[ao n];exact e
 generalize upd H2 x (.ins (C.cl cn) dx (bT "ahead" (.ref ah) []))=H3 at ZD MW ⊢
 refine⟨_,rfl,_,rfl,x,_,dx,_,rfl,ZD,T.cl,T.US,by show (1:Nat) < 1000;decide,?_⟩
 have SF:upd H3 x (.ins (C.cl cn) dx (bT "most" (.int most) [("ahead",.ref ah)])) x=some (.ins (C.cl cn) dx [("ahead",.ref ah),("most",.int most)]):=az
 have MX:∀a o,a≠x->H3 a=some o->upd H3 x (.ins (C.cl cn) dx (bT "most" (.int most) [("ahead",.ref ah)])) a=some o:=λa o n e=>by rw[ao n];exact e
 generalize upd H3 x (.ins (C.cl cn) dx (bT "most" (.int most) [("ahead",.ref ah)]))=H4 at SF MX ⊢
 have WQ:∀a o,a≠x->H1 a=some o->H4 a=some o:=λa o n e=>MX a o n (MW a o n (s2 a o e))
 have ZE:Rep C A1 H4 vc c:=rc.ex (uT RS WO WQ λa o _ z=>z)
 refine⟨_,rfl,_,rfl,A1,[c],s,.cons ZE .nil,hs,λv5 H5 s5 r5=>?_⟩
 have r5:Rep C (λa=>A1 a\/H4 a=none) H5 v5 s:=r5
 refine⟨λa=>A1 a\/H4 a=none,[c,s],e,.cons (ZE.ex ((Ex.of_same s5).trans (aV λa o _ z=>.inl z))) (.cons r5 .nil),he,λve H6 s6 r6=>?_⟩
 have r6:Rep C (λa=>(A1 a\/H4 a=none)\/H5 a=none) H6 ve e:=r6
 have hx6:=s6 _ _ (s5 _ _ SF)
 refine⟨_,rfl,x,_,dx,_,rfl,hx6,T.cl,T.Ww,by show (2:Nat) < 1000;decide,?_⟩
 have WU:upd H6 x (.ins (C.cl cn) dx (bT "end" ve [("ahead",.ref ah),("most",.int most)])) x=some (.ins (C.cl cn) dx [("ahead",.ref ah),("most",.int most),("end",ve)]):=az
 have QA:∀a o,a≠x->H6 a=some o->upd H6 x (.ins (C.cl cn) dx (bT "end" ve [("ahead",.ref ah),("most",.int most)])) a=some o:=λa o n e=>by rw[ao n];exact e
 generalize upd H6 x (.ins (C.cl cn) dx (bT "end" ve [("ahead",.ref ah),("most",.int most)]))=H7 at WU QA ⊢
 have KO:∀a o,a≠x->H4 a=some o->H7 a=some o:=λa o n e=>QA a o n (s6 a o (s5 a o e))
 have rc7:Rep C A1 H7 vc c:=ZE.ex (uT SF WO KO λa o _ z=>z)
 refine⟨_,rfl,A1,[c,st],r0,.cons rc7 (.cons (hT _ _) .nil),hr0,λv0 H8 s8 r8=>?_⟩
 have r8:Rep C (λa=>A1 a\/H7 a=none) H8 v0 r0:=r8
 refine⟨by show (2:Nat)<=sizeLine;decide,λt1 ht1=>⟨by show (1:Nat)<=sizeLine;decide,λt2 UH=>⟨by show (1:Nat)<=sizeLine;decide,λlp MS=>?_⟩⟩⟩
 have s9:=aL ht1 (.tup [v0,.int 1])
 have Yc:=aL UH (.tup [.ref t1])
 have Yd:=aL MS (.lst [.ref t2])
 have IC:=Yd _ _ (Yc _ _ (s9 _ _ (s8 _ _ WU)))
 refine⟨_,rfl,x,_,dx,_,rfl,IC,T.cl,T.DZ,by show (3:Nat) < 1000;decide,?_⟩
 have VC:t1≠t2:=aq az UH
 have MY:upd (upd (upd H8 t1 (.tup [v0,.int 1])) t2 (.tup [.ref t1])) lp (.lst [.ref t2]) lp=some (.lst [.ref t2]):=az
 have ID:upd (upd (upd H8 t1 (.tup [v0,.int 1])) t2 (.tup [.ref t1])) lp (.lst [.ref t2]) t2=some (.tup [.ref t1]):=Yd _ _ az
 have IE:upd (upd (upd H8 t1 (.tup [v0,.int 1])) t2 (.tup [.ref t1])) lp (.lst [.ref t2]) t1=some (.tup [v0,.int 1]):=Yd _ _ (Yc _ _ az)
 have WV:zS H8 (upd (upd (upd H8 t1 (.tup [v0,.int 1])) t2 (.tup [.ref t1])) lp (.lst [.ref t2])):=(s9.trans Yc).trans Yd
 have ZF:H8 lp=none:=(s9.trans Yc).free MS
 have ht18:=ht1
 have ht28:H8 t2=none:=s9.free UH
 generalize upd (upd (upd H8 t1 (.tup [v0,.int 1])) t2 (.tup [.ref t1])) lp (.lst [.ref t2])=Ye at MY ID IE WV IC ⊢
 have U9:upd Ye x (.ins (C.cl cn) dx (bT "places" (.ref lp) [("ahead",.ref ah),("most",.int most),("end",ve)])) x=some (.ins (C.cl cn) dx [("ahead",.ref ah),("most",.int most),("end",ve),("places",.ref lp)]):=az
 have EO:∀a o,a≠x->Ye a=some o->upd Ye x (.ins (C.cl cn) dx (bT "places" (.ref lp) [("ahead",.ref ah),("most",.int most),("end",ve)])) a=some o:=λa o n e=>by rw[ao n];exact e
 generalize upd Ye x (.ins (C.cl cn) dx (bT "places" (.ref lp) [("ahead",.ref ah),("most",.int most),("end",ve)]))=SH at U9 EO ⊢
 have SR:lp≠x:=λz=>by rw[z] at MY;rw[MY] at IC;cases IC
 have ZG:t1≠x:=λz=>by rw[z] at IE;rw[IE] at IC;cases IC
 have ZH:t2≠x:=λz=>by rw[z] at ID;rw[ID] at IC;cases IC
 have FD:∀a o,a≠x->H8 a=some o->SH a=some o:=λa o n e=>EO a o n (WV a o e)
 have hx8:=s8 _ _ WU
 have nB8:¬ (A1 x\/H7 x=none):=λz=>z.elim WO λz=>by rw[WU] at z;cases z
 have r12:Rep C (λa=>A1 a\/H7 a=none) SH v0 r0:=r8.ex (uT hx8 nB8 FD λa o _ z=>z)
 have ZI:Rep C (λa=>A1 a\/H7 a=none) SH (.ref t2) (.tup [.tup [r0,.int 1]]):=.tup (EO _ _ ZH ID) (.cons (.tup (EO _ _ ZG IE) (.cons r12 (.cons (.int 1) .nil))) .nil)
 intro ln JI
 have sn:=aL JI (.dT [])
 refine⟨_,rfl,x,_,dx,_,.ref lp,rfl,sn _ _ U9,T.cl,T.DZ,rfl,lp,[.ref t2],0,.ref t2,rfl,rfl,A0.of (sn _ _ (EO _ _ SR MY)),rfl,?_⟩
 obtain⟨b,us,eb,hb,rb⟩:=Ap.tup (.inl (ZI.ex (.of_same sn)))
 cases eb
 refine⟨az,t2,k,rfl,hb.key (rb.AD hk),?_⟩
 have SU:zS SH (upd (upd SH ln (.dT [])) ln (.dT [(k,.int 0)])):=sn.over JI _
 have QE:upd (upd SH ln (.dT [])) ln (.dT [(k,.int 0)]) ln=some (.dT [(k,.int 0)]):=az
 generalize upd (upd SH ln (.dT [])) ln (.dT [(k,.int 0)])=Yf at SU QE ⊢
 have Va:=SU _ _ U9
 refine⟨_,rfl,x,_,dx,_,rfl,Va,T.cl,T.Ct,by show (4:Nat) < 1000;decide,?_⟩
 have WW:upd Yf x (.ins (C.cl cn) dx (bT "numbers" (.ref ln) [("ahead",.ref ah),("most",.int most),("end",ve),("places",.ref lp)])) x=some (.ins (C.cl cn) dx [("ahead",.ref ah),("most",.int most),("end",ve),("places",.ref lp),("numbers",.ref ln)]):=az
 have GV:∀a o,a≠x->Yf a=some o->upd Yf x (.ins (C.cl cn) dx (bT "numbers" (.ref ln) [("ahead",.ref ah),("most",.int most),("end",ve),("places",.ref lp)])) a=some o:=λa o n e=>by rw[ao n];exact e
 generalize upd Yf x (.ins (C.cl cn) dx (bT "numbers" (.ref ln) [("ahead",.ref ah),("most",.int most),("end",ve),("places",.ref lp)]))=Yg at WW GV ⊢
 intro lo TU
 have ZJ:=aL TU (.dK [])
 have QI:upd Yg lo (.dK []) lo=some (.dK []):=az
 generalize upd Yg lo (.dK [])=Yh at ZJ QI ⊢
 have Vb:=ZJ _ _ WW
 refine⟨_,rfl,x,_,dx,_,rfl,Vb,T.cl,T.Iq,by show (5:Nat) < 1000;decide,?_⟩
 have WX:upd Yh x (.ins (C.cl cn) dx (bT "onward" (.ref lo) [("ahead",.ref ah),("most",.int most),("end",ve),("places",.ref lp),("numbers",.ref ln)])) x=some (.ins (C.cl cn) dx [("ahead",.ref ah),("most",.int most),("end",ve),("places",.ref lp),("numbers",.ref ln),("onward",.ref lo)]):=az
 have MZ:∀a o,a≠x->Yh a=some o->upd Yh x (.ins (C.cl cn) dx (bT "onward" (.ref lo) [("ahead",.ref ah),("most",.int most),("end",ve),("places",.ref lp),("numbers",.ref ln)])) a=some o:=λa o n e=>by rw[ao n];exact e
 generalize upd Yh x (.ins (C.cl cn) dx (bT "onward" (.ref lo) [("ahead",.ref ah),("most",.int most),("end",ve),("places",.ref lp),("numbers",.ref ln)]))=KP at WX MZ ⊢
 have SV:ln≠x:=λz=>by rw[z] at QE;rw[QE] at Va;cases Va
 have K0:lo≠x:=λz=>by rw[z] at QI;rw[QI] at Vb;cases Vb
 have WY:ah≠x:=λz=>by rw[z] at UX;rw[UX] at IJ;cases IJ
 have u14:∀a o,a≠x->Yg a=some o->KP a=some o:=λa o n e=>MZ a o n (ZJ a o e)
 have Yi:∀a o,a≠x->SH a=some o->KP a=some o:=λa o n e=>u14 a o n (GV a o n (SU a o e))
 have u8:∀a o,a≠x->H8 a=some o->KP a=some o:=λa o n e=>Yi a o n (FD a o n e)
 have u7:∀a o,a≠x->H7 a=some o->KP a=some o:=λa o n e=>u8 a o n (s8 a o e)
 have u6:∀a o,a≠x->H6 a=some o->KP a=some o:=λa o n e=>u7 a o n (QA a o n e)
 have u4:∀a o,a≠x->H4 a=some o->KP a=some o:=λa o n e=>u7 a o n (KO a o n e)
 have u2:∀a o,a≠x->H2 a=some o->KP a=some o:=λa o n e=>u4 a o n (MX a o n (MW a o n e))
 have u1:∀a o,a≠x->H1 a=some o->KP a=some o:=λa o n e=>u2 a o n (s2 a o e)
 have u0:∀a o,a≠x->H a=some o->KP a=some o:=λa o n e=>u1 a o n (s1 a o e)
 have back:∀{G G':Hp}{l:Addr},l≠x->(∀a o,a≠x->G a=some o->G' a=some o)->G' l=none->G l=none:=λ{G G' l} n u e=>by
  cases z:G l with
  | none=>rfl
  | some o=>rw[u l o n z] at e;cases e
 have p8:H8 lp=none:=ZF
 have n8:H8 ln=none:=back SV FD JI
 have o14:Yg lo=none:=TU
 have o8:H8 lo=none:=back K0 (λa o n e=>GV a o n (SU a o (FD a o n e))) o14
 have b8:∀{l:Addr},l≠x->H8 l=none->H7 l=none:=λn e=>back n (λa o _ e=>s8 a o e) e
 have b7:∀{l:Addr},l≠x->H7 l=none->H6 l=none/\H4 l=none:=λn e=>⟨back n QA e,back n KO e⟩
 have b4:∀{l:Addr},l≠x->H4 l=none->H2 l=none:=λn e=>back n (λa o n e=>MX a o n (MW a o n e)) e
 have b1:∀{l:Addr},H1 l=none->H l=none:=λe=>s1.free e
 have a1:∀{l:Addr},A1 l->(A l\/H l=none)/\∃o,H1 l=some o:=λz=>by rw[← hA1] at z;exact z
 have nah:∀{l:Addr},A1 l->l≠ah:=λz e=>by obtain⟨_,o,q⟩:=a1 z;rw[e,Yb] at q;cases q
 have WZ:H4 ah=some (.dT kv):=MX _ _ WY (MW _ _ WY UX)
 have ZK:H7 ah=some (.dT kv):=KO _ _ WY WZ
 have M0:∀{l:Addr},H4 l=none->(A l\/H l=none)/\l≠ah:=λ{l} z=>by
  have n:l≠x:=λe=>by rw[e,SF] at z;cases z
  exact⟨.inr (b1 (s2.free (b4 n z))),λe=>by rw[e,WZ] at z;cases z⟩
 have W5:∀{l:Addr},H7 l=none->(A l\/H l=none)/\l≠ah:=λ{l} z=>by
  have n:l≠x:=λe=>by rw[e,WU] at z;cases z
  exact M0 (b7 n z).2
 obtain⟨F,hF⟩:∃F:Addr->Prop,F=λb=>(A b\/H b=none)/\b≠x/\b≠ah/\b≠lp/\b≠ln/\b≠lo/\∃o,KP b=some o:=⟨_,rfl⟩
 have ZL:∀{B:Addr->Prop}{G:Hp}{fs:List (Str×V)},G x=some (.ins (C.cl cn) dx fs)->¬ B x->(∀a o,a≠x->G a=some o->KP a=some o)->G lp=none->G ln=none->G lo=none->(∀a,B a->(A a\/H a=none)/\a≠ah)->Ex B G F KP:=λ{B G fs} hg nB u g1 g2 g3 cond=>uT hg nB u λa o e z=>by
  rw[hF]
  have n:a≠x:=λq=>nB (q▸z)
  exact⟨(cond a z).1,n,(cond a z).2,(λq=>by rw[q,g1] at e;cases e),(λq=>by rw[q,g2] at e;cases e),(λq=>by rw[q,g3] at e;cases e),o,u a o n e⟩
 have p7:=b8 SR p8
 have n7:=b8 SV n8
 have o7:=b8 K0 o8
 have x2:=ZL (B:=λc=>(A1 c\/H1 c=none)/\c≠ah) IJ (λz=>z.1.elim WO λq=>by rw[RS] at q;cases q) u2 (b4 SR (b7 SR p7).2) (b4 SV (b7 SV n7).2) (b4 K0 (b7 K0 o7).2) λa z=>⟨z.1.elim (λq=>(a1 q).1) λq=>.inr (b1 q),z.2⟩
 have x6:=ZL (B:=λa=>(A1 a\/H4 a=none)\/H5 a=none) hx6 (λz=>z.elim (λz=>z.elim WO λq=>by rw[SF] at q;cases q) λq=>by rw[s5 _ _ SF] at q;cases q) u6 (b7 SR p7).1 (b7 SV n7).1 (b7 K0 o7).1 λa z=>z.elim (λz=>z.elim (λq=>⟨(a1 q).1,nah q⟩) M0) λq=>M0 (s5.free q)
 have x8:=ZL (B:=λa=>A1 a\/H7 a=none) hx8 nB8 u8 p8 n8 o8 λa z=>z.elim (λq=>⟨(a1 q).1,nah q⟩) W5
 have r16:Rep C F KP v0 r0:=r8.ex x8
 have z0:∀{l:Addr},l≠x->H7 l=none->H l=none:=λn z=>b1 (s2.free (b4 n (b7 n z).2))
 refine q KP F ⟨cn,x,dx,ah,lp,ln,lo,ve⟩ u0 rfl rfl ⟨b1 Yb,z0 SR p7,z0 SV n7,z0 K0 o7⟩ (λb f=>by rw[hF] at f;exact⟨f.1,f.2.1⟩) ⟨WX,⟨kv,u2 _ _ WY UX,rkv.ex x2⟩,r6.ex x6,⟨_,Yi _ _ SR (EO _ _ SR MY),.cons (.tup (Yi _ _ ZH (EO _ _ ZH ID)) (.cons (.tup (Yi _ _ ZG (EO _ _ ZG IE)) (.cons r16 (.cons (.int 1) .nil))) .nil)) .nil⟩,⟨_,u14 _ _ SV (GV _ _ SV QE),.cons (.int 0) .nil⟩,⟨_,MZ _ _ K0 QI,.nil⟩,?_,λb f=>by rw[hF] at f;exact f.2.2.2.2.2.2,?_⟩
 ·exact aq (FD _ _ WY (s8 _ _ ZK)) JI
 ·rw[hF]
  exact⟨λf=>f.2.1 rfl,λf=>f.2.2.1 rfl,λf=>f.2.2.2.1 rfl,λf=>f.2.2.2.2.1 rfl,λf=>f.2.2.2.2.2.1 rfl⟩
theorem Mq {X:Cx}{Cl:Addr}{k j:Nat}{ps:qo}{sp:Sp}{p pos:Pos}{e:Expr}{es:qk}{t:TA}(c:UP X.prog X.w X.K X.mg X.base Cl k x ps sp)(hr:AR j X.A)(ha:PA X (e::es) t)(hle:k+1<=j:=by decide)(hg:Gl X x:=by rfl)
  (Fn:(x == ("__debug__" : Str))=false:=by decide) (he:starEach (e::es) X.env=(false,eval e X.env)::starEach es X.env:=by rfl) (A8:(backTo pos (starEach es X.env)).any (·.1)=false:=by rfl):
  PE X (.Call (.Name x p) (e::es) [] pos) (xY Cl sp [] E0 t):=by
 obtain⟨f,fd,F,hb,M,hm⟩:=c.ex
 exact K3 M F (hr.mono hle) hg hm hb .nil uy ha Fn he A8
theorem QJ {C:MC}{cn:Nat}{wl ra ro es:List PV->Option PV}{st p:PV}{most:Int}{w:WS}{A:Addr->Prop}{v:V}{R:Addr->Hp->Prop}{E:XK}(T:WT C.K (C.cl cn))(dA:∀a,A a->∃o,H a=some o)(r:Rep C A H v p)(hw:VD wl ra ro es st p most=some w)
  (q:∀H' F c,zS H H'->c.n=cn->(H c.a=none/\H c.ah=none/\H c.lp=none/\H c.ln=none/\H c.lo=none)->(∀b,F b->A b\/H b=none)->WR C F H' c w->R c.a H'):
  ∀x dx,H x=none->H dx=none->dx≠x->zO C cn wl ra ro es st (.ref x::([v,.int most]++[])) (upd (upd H dx (.own x)) x (.ins (C.cl cn) dx [])) (λu H2=>u=.Au/\R x H2) E:=by
 intro x dx hx hdx ne
 have s:zS H (upd (upd H dx (.own x)) x (.ins (C.cl cn) dx [])):=λa o h=>by rw[ao (aq h hx),ao (aq h hdx)];exact h
 refine⟨A,p,most,w,x,dx,v,rfl,T,az,(λz=>by obtain⟨o,e⟩:=dA x z;rw[hx] at e;cases e),r.ex (.of_same s),hw,λH' F c off en ea hn hF W=>⟨rfl,?_⟩⟩
 rw[← ea]
 refine q H' F c (λa o e=>off a o (aq e hx) (s a o e)) en ⟨by rw[ea];exact hx,s.free hn.1,s.free hn.2.1,s.free hn.2.2.1,s.free hn.2.2.2⟩ (λb f=>(hF b f).1.imp id λz=>s.free z) W
def R5 (H:Hp)(c:WC):Prop:=(∃o,H c.a=some o)/\(∃o,H c.ah=some o)/\(∃o,H c.lp=some o)/\(∃o,H c.ln=some o)/\∃o,H c.lo=some o
theorem WR.there {C:MC}{F:Addr->Prop}{c:WC}{w:WS}(W:WR C F H c w):R5 H c:=⟨⟨_,W.ob⟩,(let ⟨_,h,_⟩:=W.ah;⟨_,h⟩),(let ⟨_,h,_⟩:=W.lp;⟨_,h⟩),(let ⟨_,h,_⟩:=W.ln;⟨_,h⟩),(let ⟨_,h,_⟩:=W.lo;⟨_,h⟩)⟩
theorem R6 {a b:Addr}(h1:H a=none)(h2:∃o,H b=some o):a≠b:=λz=>by obtain⟨o,e⟩:=h2;rw[← z,h1] at e;cases e
def VE (C:MC)(m:List PV->Option PV):Sp:=λvs H Q _=>∃A ps p,zI C A H vs ps/\m ps=some p/\∀v H',zS H H'->(p=.Au/\v=.Au\/Se C A H true H' v p)->Q v H'
theorem Mr {C:MC}{m:List PV->Option PV}{vs:List V}{Q:VK}{E:XK}(h:C2 C m false vs H Q E):VE C m vs H Q E:=by
 obtain⟨A,ps,p,r,hm,q⟩:=h
 refine⟨A,ps,p,r,hm,λv H' s z=>q v H' s ?_⟩
 rcases z with ⟨e1,e2⟩ | ⟨a,e,hn,t⟩
 ·rw[e1,e2];exact .Au
 ·rw[e]
  exact Top.rep (t.ex (aV λc o _ z=>z.1) λo z=>z) (.inr hn)
theorem Tn {C:MC}{cn:Nat}{F:Addr->Prop}{c:WC}{w:WS}(W:WR C F H c w)(e:c.n=cn):EM C cn F H [c] [w]:=by
 refine⟨rfl,λi d v h1 h2=>?_,λi j d d' h1 h2 ne=>?_⟩
 ·match i,h1,h2 with
  | 0,h1,h2=>cases h1;cases h2;exact⟨e,W⟩
  | i+1,h1,_=>simp at h1
 ·match i,j,h1,h2,ne with
  | 0,0,_,_,ne=>exact absurd rfl ne
  | i+1,_,h1,_,_=>simp at h1
  | 0,j+1,_,h2,_=>simp at h2
noncomputable def JC (cn:Nat)(wl ra rf es pb io so ro:List PV->Option PV)(S:List PV)(st:PV):List PV->Option PV
 | [p]=>(VD wl ra rf es st p 2).bind λw1=>VB pb cn S io so ro [w1]
 | _=>none
def ZM (mg:Str->Option Value)(x:Str)(C:MC)(cn:Nat)(wl ra rf es pb io so ro:List PV->Option PV)(S:List PV)(st:PV)(fS:Addr):TS:=
 jd (fP (Jy mg x C cn pb S io so ro) [] E0 (aO (vD (aO (xY (C.cl cn) (zO C cn wl ra rf es st) [] E0 (aO (aG 0) (aO (tC (.int 2)) bx))) bx)) (aO (tC (.ref fS)) bx)))
theorem QK {mg:Str->Option Value}{C:MC}{cn:Nat}{wl ra rf es pb io so ro:List PV->Option PV}{S:List PV}{st:PV}{fS:Addr}{vs:List V}{Q:VK}{E:XK}(T:WT C.K (C.cl cn))(ZN:mg x=some (.ref fS))(h:VE C (JC cn wl ra rf es pb io so ro S st) vs H Q E):
  ZM mg x C cn wl ra rf es pb io so ro S st fS { nx:=λ_ H'=>Q .Au H',rt:=Q } (L2.start ["metre"] vs) H:=by
 obtain⟨A,ps,out,r,hm,q⟩:=h
 cases r with
 | nil=>cases hm
 | @cons v1 p ps _ r1 r=>cases r with
  | cons _ _=>cases hm
  | nil=>
   obtain⟨w1,h1,hm⟩:=al.mp (show ((VD wl ra rf es st p 2).bind _)=_ from hm)
   have dA:∀a,(A a/\∃o,H a=some o)->∃o,H a=some o:=λa z=>z.2
   have x1:Rep C (λa=>A a/\∃o,H a=some o) H v1 p:=r1.ex (aV λa o e z=>⟨z,o,e⟩)
   unfold ZM
   dsimp only [jd,fP,aO,bx,vD,xY,aG,tC]
   refine⟨_,rfl,QJ T dA x1 h1 λH2 F1 c1 s1 e1 n1 f1 W1=>?_⟩
   refine⟨by show (1:Nat)<=sizeLine;decide,λwa IA=>?_⟩
   have s3:=aL IA (.lst [.ref c1.a])
   have t1:=W1.there
   refine⟨fS,ZN,F1,[c1],[w1],out,wa,rfl,.inl rfl,T,(Tn W1 e1).same s3,az,λf=>?_,λc hc=>?_,hm,λH5 v kp rv=>?_⟩
   ·obtain⟨o,e⟩:=W1.dm wa f
    rw[IA] at e;cases e
   ·rw[aw] at hc
    subst hc
    exact R6 IA t1.2.2.1
   ·have SU:=s1.trans s3
    refine q v H5 (λa o e=>kp a o (SU a o e) λc hc=>?_) (rv.imp id λ⟨a,ev,hn,tp⟩=>⟨a,ev,SU.free hn,tp.ex (aV λc o _ z=>⟨.inr (SU.free z.1),z.2⟩) λo z=>z⟩)
    rw[aw] at hc
    subst hc
    exact⟨(aq e n1.2.2.1),(aq e n1.2.2.2.1),(aq e n1.2.2.2.2)⟩
variable {mi:List PV->Option PV}
theorem Cj {P:Program}{w:World}{K:W.Frag}{mg:Str->Option Value}{base:Heap}{k:Nat}{ps:qo}{C:MC}(c:IL P w K mg base k x ps (VE C mi)):IL P w K mg base k x ps (C2 C mi false):=by
 obtain⟨f,fd,G,hb,kp,hm⟩:=c.ex
 exact⟨f,fd,G.imp λvs H Q E h=>Mr h,hb,kp,hm⟩
section
variable {X:Cx}{b:BX}{G G' L:qc}{ro:Bool}{e:Expr}{es:qk}{rest:qh}{h:qB}{g0 g1:Env->Option Out}{g:Env->Option (List PV)}{p pos:Pos}
def tMP (b:BX)(G:qc)(f:qB):TE:=fun σ H Q=>∃Ow env p,ER b Ow G σ env H/\f env=some p/\∀v H',zS H H'->(p=.Au/\v=.Au\/Res b Ow H H' .own v p)->Q v H'
theorem JD {k j:Nat}{ps:qo}(c:IL X.prog X.w X.K X.mg X.base k x ps (VE b.C mi))(hr:AR j X.A)(ha:SA X b G false (e::es) g)(hle:k<=j:=by decide)(hg:Gl X x:=by rfl)
  (Fn:(x == ("__debug__" : Str))=false:=by decide) (he:starEach (e::es) X.env=(false,eval e X.env)::starEach es X.env:=by rfl) (A8:(backTo pos (starEach es X.env)).any (·.1)=false:=by rfl):
  PE X (.Call (.Name x p) (e::es) [] pos) (tMP b G (bH mi g)):=by
 refine PE.imp (fC c hr ha hle hg Fn he A8) ?_
 rintro σ H Q ⟨Ow,env,q,E,hf,kk⟩
 unfold bH at hf
 cases q1:g env with
 | none=>rw[q1] at hf;cases hf
 | some qs=>
  rw[q1] at hf
  refine⟨Ow,env,qs,E,q1,λvs H1 s1 r=>?_⟩
  dsimp only
  rw[br]
  exact⟨Bs b Ow,qs,q,uF r,hf,λv H' s' rr=>kk v H' (s1.trans s') (rr.imp id λrr=>Se.res (ro:=true) E s1 rr)⟩
noncomputable def vY (i:Nat)(h:qB)(g0 g1:Env->Option Out)(env:Env):Option Out:=(h env).bind λp=>match p with
 | .Au=>g0 (env.set i (some .Au))
 | q=>g1 (env.set i (some q))
theorem JF {i:Nat}{env:Env}(e:h env=some .Au):vY i h g0 g1 env=g0 (env.set i (some .Au)):=by unfold vY;rw[e];rfl
theorem JG {i:Nat}{env:Env}{xs:List PV}(e:h env=some (.lst xs)):vY i h g0 g1 env=g1 (env.set i (some (.lst xs))):=by unfold vY;rw[e];rfl
theorem ER.drop {Ow:Addr->Prop}{σ:St}{env:Env}(E:ER b Ow G σ env H){i:Nat}(hx:b.fx i=none):ER b Ow (G.filter λj=>j != i) (σ.set i (some .Au)) (env.set i (some .Au)) H:=by
 have hm:∀{j},i≠j->(j∈(G.filter λj=>j != i)↔j∈G):=λ{j} n=>by simp[ke,fT n]
 have hi:i∉(G.filter λj=>j != i):=by simp[ke]
 have get:∀{α:Type}{l:List α}{j:Nat}{v:α},i≠j->(l.set i v)[j]?=l[j]?:=λn=>bo n
 refine⟨by rw[d0,d0];exact E.len,E.same,E.live,E.new,λj q e n=>?_,λj q e n=>?_,λj k a q q' e1 n1 s1 e2 n2 s2=>?_,λk w hw=>?_⟩
 ·by_cases hj:i=j
  ·subst hj
   have hl:i < env.length:=by
    have:=(ag.mp e).1
    rwa [d0] at this
   rw[d6 hl] at e
   cases e
   exact⟨.Au,by rw[d6 (by rw[E.len];exact hl)],.Au⟩
  ·rw[get hj] at e ⊢
   exact E.val j q e λz=>n ((hm hj).mpr z)
 ·by_cases hj:i=j
  ·subst hj;exact absurd n hi
  ·rw[get hj] at e ⊢
   exact E.own j q e ((hm hj).mp n)
 ·have h1:i≠j:=λz=>by subst z;exact hi n1
  have h2:i≠k:=λz=>by subst z;exact hi n2
  rw[get h1] at e1 s1
  rw[get h2] at e2 s2
  exact E.sep j k a q q' e1 ((hm h1).mp n1) s1 e2 ((hm h2).mp n2) s2
 ·have:i≠k:=λz=>by subst z;rw[hx] at hw;cases hw
  rw[get this]
  exact E.fix k w hw
theorem QL (i:Nat){pos':Pos}(nd:X.N.Nodup)(he:PE X e (tMP b G h))(h0:JA X b (G.filter λj=>j != i) G' L ro rest g0)(h1:JA X b G G' L ro rest g1)(hG:i∈G:=by decide)(hx:b.fx i=none:=by first | rfl | assumption)(hi:X.N[i]?=some x:=by rfl)(hl:Loc X.env.scope x:=by first | exact eT rfl | exact e9 rfl)
  (hs:swapsWith e (some (.Name x pos')) pos.line X.env=pure false:=by rfl) (hf:X.fn x=true\/X.env.scope.names.lookup x=some .local:=by first | exact .inl rfl | exact .inr rfl | assumption):JA X b G G' L ro (.Assign [.Name x pos'] e pos::rest) (vY i h g0 g1):=by
 have orr:Fh X rest (λD σ H=>tS b (G.filter λj=>j != i) G' L ro g0 D σ H\/tS b G G' L ro g1 D σ H):=λzC s σ H D I q=>q.elim (h0 zC s σ H D I) (h1 zC s σ H D I)
 refine Fh.imp (aW (dZ nd hi hl he hs hf) orr) ?_
 rintro D σ H ⟨Ow,env,o,E,hq,k⟩
 obtain⟨q,hp,z⟩:=aA hq
 clear hq
 refine⟨Ow,env,q,E,hp,λv H' s r=>?_⟩
 rcases r with ⟨e1,e2⟩ | ⟨a,ev,hn,t⟩
 ·subst e1 e2
  exact .inl ⟨Ow,_,o,(E.up s).drop hx,z,k.ex (.of_same s)⟩
 ·subst ev
  obtain⟨E',x'⟩:=(E.up s).Wo (G':=G) (λj=>⟨.inl,λz=>z.elim id λy=>y▸hG⟩) s hn E t hx
  refine .inr ⟨_,_,o,E',?_,k.ex x'⟩
  cases q <;> first | exact z | exact t.elim
theorem QM {st:Stmt}:SS X b G G L ro st XS:=S_
end
end Lake.MR
namespace Lake.L2
open PySem PySem.Spec PyProof.Rows
theorem Ms {X:Cx}:BN X (compareOp .IsNot) (λx y H Q=>∃c d,x=.bl c/\y=.bl d/\Q (.bl (c != d)) H):=by
 intro zC s σ H x y v u Q I rx ry h
 obtain⟨c,d,rfl,rfl,q⟩:=h
 cases rx
 cases ry
 exact isnot_bool ⟨.bl _,H,I,rfl,q⟩
end Lake.L2
namespace Lake.MR
open PySem L2
@[simp] noncomputable def rA:PV->PV->Option PV
 | x,.Au=>some (.bl (!sO x))
 | .bl c,.bl d=>some (.bl (c != d))
 | _,_=>none
section
variable {X:Cx}{b:BX}{G:qc}{m m1 m2:Md}{e e1 e2:Expr}{f f1 f2:qB}{pos:Pos}
theorem G3:F3 b .val (λx y H Q=>(y=.Au/\Q (.bl (!decide (x=.Au))) H)\/∃c d,x=.bl c/\y=.bl d/\Q (.bl (c != d)) H) rA:=by
 intro Ow H v1 v2 p1 p2 p Q hn r1 r2 e k
 unfold rA at e
 split at e
 ·cases e;exact .inl ⟨r2.Au,by rw[r1.Jn];exact k _ H (zS.refl _) (.bl _)⟩
 ·cases e;exact .inr ⟨_,_,r1.bl,r2.bl,k _ H (zS.refl _) (.bl _)⟩
 ·cases e
theorem G4 (h1:SE X b G m1 e1 f1)(h2:SE X b G m2 e2 f2):SC X b G .IsNot e1 e2 (b2 rA f1 f2):=lO (BN.or Bw Ms) G3 h1 h2 (j8 _)
end
end Lake.MR
namespace Lake.L2
open PySem PySem.Spec PyProof.Rows
section
open HT
variable {prog:Program}{w:World}{A:Around}{E:oT}{s:Shared}
theorem pK {t sl:Addr}{items:qv}{vl vu:Value}{lo hi:Option Int}{Q:oT}(ht:IsTup s.heap t items)(hs:s.heap.IsSliceOf sl vl vu .none)(pl:IsPart vl lo)(pu:IsPart vu hi)
  (W6:AS items.size 0 lo=0) (ZO:AS items.size items.size hi=items.size) (h:Q (.ref t) s):wpAny (model prog w) A (getItem (.ref t) (.ref sl)) Q E s:=by
 obtain⟨os,TM,Vm,VX⟩:=id hs
 have YC:s.TypeIs (.ref sl) "slice" := ⟨os,TM,Vm⟩
 unfold getItem
 try with_reducible refine ef ?_
 first | refine ab (ae ?_) | skip
 refine ab (nh ht.typeIs (by decide) ?_)
 refine ab (cx (name:=Str.ofString "__getitem__") ht.typeIs eB
  (db eB ht.typeIs entry_tuple_getitem ?_ (args_tuple_getitem _ _)))
 show wpAny _ _ (Builtin.Tuple.tupleItemsOf (.ref t) >>= _) _ _ s
 refine ab (tupleItemsOf_ ht ?_)
 refine ab (i9 YC ?_)
 rw[a0 (by decide)]
 refine ab (j9 hs pl pu ?_)
 have hy:(((AS items.size 0 lo:Nat):Int) == 0&&(1:Int) == 1&&(AS items.size items.size hi - AS items.size 0 lo) == items.size)=true:=by rw[W6,ZO];simp
 show wpAny _ _ (if (((AS items.size 0 lo:Nat):Int) == 0&&(1:Int) == 1&&(AS items.size items.size hi - AS items.size 0 lo) == items.size)=true then _ else _) _ _ s
 rw[a0 hy]
 refine ab ?_
 unfold Builtin.Tuple.tupleIsExact
 refine ab (i9 ht.typeIs (ae ?_))
 rw[a0 (by decide)]
 refine ab (iX ?_)
 exact ae ⟨_,rfl,ae h⟩
end
variable {X:Cx}
def QQ (K:W.Frag):V->Option Int->Option Int->Hp->VK->Prop:=λx lo hi H Q=>∃a xs,x=.ref a/\B6 K H a xs/\HT.AS xs.length 0 lo=0/\HT.AS xs.length xs.length hi=xs.length/\Q x H
theorem Mt:Mb X (QQ X.K):=by
 intro zC s σ H x v vl vu lo hi sl Q I rx hs pl pu h
 obtain⟨a,xs,rfl,hx,W6,ZO,q⟩:=h
 cases rx
 obtain⟨As,r,ht,hz⟩:=I.tuple hx
 have hlen:As.toArray.size=xs.length:=by rw[aI];exact r.length.symm
 refine⟨"tuple",_,eB.lookup,ht.typeIs,?_⟩
 exact pK ht hs pl pu (by rw[hlen];exact W6) (by rw[hlen];exact ZO) ⟨.ref a,H,I,rfl,q⟩
end Lake.L2
namespace Lake.MR
open PySem PySem.Spec PyProof.Rows L2
noncomputable def En (x:PV)(l h:Option Int):Option PV:=match x with
 | .tup xs=>some (.tup (iH xs l h))
 | _=>none
@[simp] theorem Tp (xs:List PV)(l h:Option Int):En (.tup xs) l h=some (.tup (iH xs l h)):=id rfl
noncomputable def yh (f:qB)(lo hi:Env->Option (Option Int))(env:Env):Option PV:=(f env).bind λx=>(lo env).bind λl=>(hi env).bind λh=>En x l h
@[simp] theorem Tq (f:qB)(lo hi:Env->Option (Option Int))(env:Env):yh f lo hi env=((f env).bind λx=>(lo env).bind λl=>(hi env).bind λh=>En x l h):=id rfl
section
variable {X:Cx}{b:BX}{G:qc}{m:Md}{e:Expr}{f:qB}{pos:Pos}
theorem Mu {lo hi:Option Expr}{p2:Pos}{fl fh:Env->Option (Option Int)}(h1:SE X b G m e f)(hl:SO X b G lo fl)(hh:SO X b G hi fh)(hK:X.K=b.C.K:=by rfl):SE X b G .val (.Subscript e (.Slice lo hi none p2) pos) (yh f fl fh):=by
 refine PE.imp (yV (r:=λx lo hi H Q=>Ov b.C.K x lo hi H Q\/QQ b.C.K x lo hi H Q) (by rw[← hK];exact Mb.or Ox Mt) h1.bor hl hh) fun σ H Q ⟨Ow,env,p,E,hf,k⟩=>?_
 unfold yh at hf
 cases q1:f env with
 | none=>rw[q1] at hf;cases hf
 | some p1=>
  rw[q1] at hf
  cases q2:fl env with
  | none=>rw[q2] at hf;cases hf
  | some l=>
   rw[q2] at hf
   cases q3:fh env with
   | none=>rw[q3] at hf;cases hf
   | some h=>
    rw[q3] at hf
    refine⟨Ow,env,p1,E,q1,λv H1 s1 r1=>⟨Ow,env,l,E.up s1,q2,λH2 s2=>⟨Ow,env,h,E.up (s1.trans s2),q3,λH3 s3=>?_⟩⟩⟩
    have F5:Ap b.C (Bs b Ow) H3 v p1:=Res.up (m:=.bor) r1 (s2.trans s3)
    simp only[ay] at hf
    unfold En at hf
    split at hf
    ·rename_i xs
     cases hf
     obtain⟨a,vs,rfl,ha,ra⟩:=F5.tup
     have JI:=ra.length
     by_cases hw:HT.AS vs.length 0 l=0/\HT.AS vs.length vs.length h=vs.length
     ·refine .inr ⟨a,vs,rfl,ha.sq,hw.1,hw.2,?_⟩
      have e:iH xs l h=xs:=by
       unfold iH
       rw[← JI,hw.1,hw.2,mx,Nat.sub_zero,JI,ow]
      rw[e] at k
      exact k _ _ (s1.trans (s2.trans s3)) (Res.down (s1.trans (s2.trans s3)) (ha.rep ra))
     ·exact .inl ⟨a,vs,rfl,ha.sq,hw,λq hq=>k _ _ (s1.trans (s2.trans (s3.trans (aL hq _)))) (Res.down (s1.trans (s2.trans s3)) (m6 hq (ra.cut l h)))⟩
    ·cases hf
end
end Lake.MR
namespace Lake.My
open PySem L2 MR
noncomputable def uU:PV:=.ktp [.tup [.str "u",.bl false],.tup [.str "u",.bl true],.tup [.str "-",.bl false],.tup [.str "-",.bl true]]
noncomputable def gj:List PV:=[.tup [.str "u",.bl false],.tup [.str "u",.bl true],.tup [.str "-",.bl false],.tup [.str "-",.bl true]]
noncomputable def gH:PV:=.ktp [.int 0,.int 0,.int 0]
noncomputable def DA:List (String×Bool):=[("bool",true)]
noncomputable def DB:List (String×Bool):=[("list",true)]
noncomputable def CA:List (String×Bool):=[("tuple",true)]
def bJ:=(b2 AX (bC (.str "u-x")) (b2 ie (b2 l_ (bV 1) (b2 AX (fY (au (zv 4) (au (zv 12) (au (zv 36) (au (zv 108) aQ))))) (bV 0))) (zv 3)))
def fU:=(bw (b2 uH (bC (.str "")) (lQ [none,some 0] (Sj (b2 fZ (zv 1) (b2 ie (b2 ie (bV 0) (zv 4)) (zv 3)))) (gN 0) jB bJ)))
def cW:=cD 1 1 false fU
def rR:=(bw (b2 ie (b2 fZ (b2 sJ (b2 ie (bV 0) (zv 1000003)) (b2 fZ (zv 48271) (b2 sJ (b2 sJ (zv 15838) (bV 1)) (bV 1)))) (b2 sJ (zv 69621) (bV 1))) (zv 2147483647)))
def fL:=cD 2 2 false rR
def eE:=(aP (bM 3 (bH cW (au (bH fL (au (b2 l_ (bV 0) (zv 3)) (zw 2 aQ))) aQ))) (E9 (tV (b2 kW (bV 3) (bV 1))) (jA qj 1 (bV 3)) E8))
def qy:=(aP (bM 1 (fY aQ)) (aP (gQ (gN 2) (Sj (b2 fZ (zv 1) (b2 ie (bV 0) (zv 3)))) [2,3] eE) (bw (d8 (au (b1 qm (bV 1)) (au (b2 eqQ (b2 ie (b2 l_ (bV 0) (zv 3)) (zv 5)) (zv 4)) aQ))))))
def iQ:=cD 4 1 false qy
def iR:=(bH iQ (au (bH fL (au (b2 l_ (bV 1) (bV 2)) (zw 0 aQ))) aQ))
def pJ:=(bw (b1 qm (lQ [none,some 0,some 1] (Sj (b2 fZ (zv 1) (b2 ie (bV 0) (bV 1)))) (gN 0) jB iR)))
def gZ:=cD 2 2 false pJ
def cG:=(yc DP 3 (bV 6) (b2 Iv (ji 10 "most" (bV 0)) (b2 fZ (b3 uP (bV 3) (bV 6) (zv 0)) (bV 5))))
def cH:=(gQ (gN 6) (iV (b3 uP (ji 10 "ahead" (bV 0)) (d8 (zw 4 (zw 2 aQ))) (fY aQ))) [6] cG)
def iC:=(aP (bM 3 (bC (.dT []))) (aP (gQ (gT [4,5]) (iV (b2 AX (ji 10 "places" (bV 0)) (bV 1))) [4,5,6] cH) (bw (b1 qm (b1 zx (bV 3))))))
def aF:=cD 7 3 false iC
def iT:=(bw (b3 uP (b1 dctP (b2 AX (ji 10 "places" (bV 0)) (bV 1))) (ji 10 "end" (bV 0)) (zv 0)))
def bU:=cD 2 2 false iT
def rT:=(bw (b2 (jN λi j=>decide (j < i)) (uI 10 "ways_to_end" bU (b2 AX (bV 0) (zv 0)) (au (b2 AX (bV 1) (zv 0)) aQ)) (zv 1)))
def cB:=cD 2 2 false rT
def lA:=(bw (b2 eqQ (b1 BC (b2 AX (ji 10 "places" (bV 0)) (bV 1))) (zv 0)))
def bh:=cD 2 2 false lA
def dz:=(aP (jA qj 2 (b2 AX (b2 AX (bV 0) (bV 3)) (zv 1))) (bM 3 (b2 AX (b2 AX (bV 0) (bV 3)) (zv 0))))
def cC:=(tV (b2 iG (b2 AX (bV 0) (bV 3)) (bC .Au)))
def xu:=(aP (bM 2 (fY aQ)) (aP (bM 3 (bV 1)) (aP (zm 1000000 cC [] dz) (bw (b1 yf (bV 2))))))
def cU:=cD 4 2 true xu
def lB:=(bw (b2 oR (yh (bV 0) oN (oS (b1 sU (zv 1)))) (d8 (au (d8 (au (b2 AX (b2 AX (bV 0) (b1 sU (zv 1))) (zv 0)) (au (bC (.bl true)) aQ))) aQ))))
def bF:=cD 1 1 false lB
def jl:=(d8 (zw 1 (zw 2 (zw 0 aQ))))
def eF:=(jA DW 1 (lQ [none,some 2,some 4] (Y4 (zv 1) (b1 BC (bV 5))) (gN 0) jB jl))
def jm:=(aP (jA qj 1 (d8 (zw 2 (au (zv 0) (au (zv 0) aQ))))) (gQ (gT [4,5]) (Wu (b2 AX (bV 3) (zv 0))) [4,5] eF))
def qz:=(aP (bM 1 (fY aQ)) (aP (gQ (gT [2,3]) (Wu (bV 0)) [2,3,4,5] jm) (bw (bV 1))))
def iU:=cD 6 1 false qz
def lC:=(bw (d8 (au (b1 BC (bV 0)) (au (zv 0) (au (zv 0) aQ)))))
def bG:=cD 1 1 false lC
def iW:=(aP (bM 3 (b2 AX (bV 1) (zv 0))) (aP (bM 4 (b2 fZ (b2 AX (bV 1) (zv 2)) (zv 1))) (aP (E9 (tV (b2 (jN λi j=>decide (i < j)) (bV 4) (b1 BC (b2 AX (b2 AX (b2 AX (bV 0) (bV 3)) (zv 0)) (b2 AX (bV 1) (zv 1)))))) (bw (d8 (zw 3 (au (b2 AX (bV 1) (zv 1)) (zw 4 aQ))))) E8) (aP (E9 (tA (tV (b2 AX (b2 AX (bV 0) (bV 3)) (zv 1))) (tN (tV (bV 2)))) (bw (bC .Au)) E8) (bw (d8 (au (b2 fZ (bV 3) (zv 1)) (au (zv 0) (au (zv 0) aQ)))))))))
def dN:=cD 5 3 false iW
def jQ:=(bw (Vt (b2 eqQ (bV 0) (bV 1)) (b2 eqQ (bV 0) (bC (.str "x")))))
def fH:=cD 2 2 false jQ
def cZ:=(aP (bM 10 (bH dN (zw 0 (au (d8 (zw 4 (zw 9 (zw 5 aQ)))) (zw 3 aQ))))) (E9 (tA (tV (b2 iG (bV 10) (bC .Au))) (tV (bH fH (au (b2 AX (b2 AX (bV 6) (bV 9)) (bV 5)) (zw 2 aQ))))) (jA qj 8 (d8 (zw 9 (zw 10 aQ)))) E8))
def jC:=(aP (E9 (tV (b2 eqQ (bV 1) (bH bG (zw 0 aQ)))) (bw (fY aQ)) E8) (aP (bM 4 (b2 AX (bV 1) (zv 0))) (aP (bM 5 (b2 AX (bV 1) (zv 2))) (aP (bM 6 (b2 AX (b2 AX (bV 0) (bV 4)) (zv 0))) (aP (bM 7 (Wm (tV (b2 eqQ (bV 5) (zv 0))) (b1 ye (b1 BC (bV 6))) (fY (au (b2 AX (bV 1) (zv 1)) aQ)))) (aP (bM 8 (fY aQ)) (aP (gQ (gN 9) (iV (bV 7)) [9,10] cZ) (bw (bV 8)))))))))
def dU:=cD 11 4 false jC
def jY:=(bw (d8 (au (b2 AX (bV 1) (zv 0)) (au (Wm (tV (b2 (jN λi j=>decide (j < i)) (b2 AX (bV 1) (zv 2)) (zv 0))) (Pw (b2 AX (b2 AX (b2 AX (bV 0) (b2 AX (bV 1) (zv 0))) (zv 0)) (b2 AX (bV 1) (zv 1))) (oS (b2 AX (bV 1) (zv 2))) oN) (bC (.str ""))) aQ))))
def bK:=cD 2 2 false jY
def ik:=(bH bK (zw 2 (zw 1 aQ)))
def eY:=(aP (bM 4 (bH dU (zw 0 (zw 2 (au (b2 AX (bV 3) (zv 0)) (au (b2 AX (bV 3) (zv 1)) aQ)))))) (yc DP 1 (d8 (au (bH bK (zw 0 (zw 2 aQ))) (zw 3 aQ))) (lQ [none,none,some 0] (iV (bV 4)) (gT [0,1]) jB ik)))
def eZ:=(gQ (gN 3) (iV (bC uU)) [3,4] eY)
def nO:=(aP (bM 1 (bC (.dT []))) (aP (gQ (gN 2) (iV (bH iU (zw 0 aQ))) [2,3,4] eZ) (bw (bV 1))))
def bI:=cD 5 1 true nO
def cj:=JC 10 bF bI bK bG aF bh cB cU gj gH
def iY:=(aP (E9 (tV (b2 (jN λi j=>decide (i < j)) (bV 1) (b1 BC (bV 0)))) (bw (b2 AX (bV 0) (bV 1))) E8) (bw (zv 0)))
def cX:=cD 2 2 false iY
def eG:=(aP (bM 8 (b2 AX (bV 6) (bV 7))) (aP (E9 (tV (b2 eqQ (bV 8) (bC (.str "x")))) (bM 8 (b2 AX (bC (.str "u-")) (b2 ie (b2 l_ (bV 5) (b2 AX (fY (au (zv 4) (au (zv 8) (au (zv 16) (au (zv 32) aQ))))) (bV 7))) (zv 2)))) E8) (aP (bM 9 (Vt (b2 eqQ (b2 ie (b2 l_ (bV 5) (b2 AX (fY (au (zv 64) (au (zv 128) (au (zv 256) (au (zv 512) aQ))))) (bV 7))) (zv 2)) (zv 1)) (zf (b2 AX (bV 4) (zv 1)) (b2 eqQ (b2 fZ (bV 7) (zv 1)) (b1 BC (bV 6)))))) (jA qj 2 (d8 (zw 8 (au (Vt (bV 9) (zf (b2 eqQ (b2 fZ (bV 3) (zv 1)) (b1 BC (bV 0))) (b2 eqQ (b2 fZ (bV 7) (zv 1)) (b1 BC (bV 6))))) aQ)))))))
def jn:=(aP (bM 5 (bH fL (zw 1 (zw 3 aQ)))) (aP (bM 6 (b2 AX (b2 AX (bV 4) (zv 0)) (b2 ie (bV 5) (b1 BC (b2 AX (bV 4) (zv 0)))))) (gQ (gN 7) (Sj (b1 BC (bV 6))) [7,8,9] eG)))
def qC:=(aP (bM 2 (fY aQ)) (aP (gQ (gT [3,4]) (Wu (bV 0)) [3,4,5,6,7,8,9] jn) (bw (bV 2))))
def gk:=cD 10 2 false qC
def cN:=(E9 (tV (b2 OE (b2 AX (bV 0) (bV 2)) (b2 AX (bV 1) (bV 2)))) (aP (E9 (tV (b2 OE (b2 AX (b2 AX (bV 0) (bV 2)) (zv 0)) (b2 AX (b2 AX (bV 1) (bV 2)) (zv 0)))) (bw (b2 eqQ (b2 AX (b2 AX (bV 0) (bV 2)) (zv 0)) (bC (.str "u")))) E8) (bw (Dr (b2 AX (b2 AX (bV 0) (bV 2)) (zv 1))))) E8)
def gJ:=(aP (E9 (tV (b2 OE (b1 BC (bV 0)) (b1 BC (bV 1)))) (bw (b2 (jN λi j=>decide (i < j)) (b1 BC (bV 0)) (b1 BC (bV 1)))) E8) (aP (gQ (gN 2) (Sj (b1 BC (bV 0))) [2] cN) (bw (bC (.bl false)))))
def cO:=cD 3 2 false gJ
def e_:=(E9 (tO (tN (tV (b1 (sX CA) (bV 1)))) (tO (tV (b2 OE (b1 BC (bV 1)) (zv 2))) (tO (tV (b2 kW (b2 AX (bV 1) (zv 0)) (d8 (au (bC (.str "u")) (au (bC (.str "-")) aQ))))) (tN (tV (b1 (sX DA) (b2 AX (bV 1) (zv 1)))))))) (bw (bC (.bl false))) E8)
def nP:=(aP (E9 (tO (tN (tV (b1 (sX DB) (bV 0)))) (tO (tV (b2 eqQ (bV 0) (fY aQ))) (tV (b2 rA (b2 AX (b2 AX (bV 0) (b1 sU (zv 1))) (zv 1)) (bC (.bl true)))))) (bw (bC (.bl false))) E8) (aP (gQ (gN 1) (iV (bV 0)) [1] e_) (bw (bC (.bl true)))))
def eN:=cD 2 1 false nP
def jo:=(bV 0)
def jq:=(tV (b2 kW (b2 AX (bV 1) (bV 0)) (d8 (au (bC (.str "x")) (au (b2 AX (b2 AX (bV 2) (b2 fZ (bV 3) (bV 0))) (zv 0)) aQ)))))
def lD:=(aP (E9 (tO (tV (b2 (jN λi j=>decide (j < i)) (b2 fZ (bV 1) (b1 BC (bV 2))) (b1 BC (bV 0)))) (tA (tV (bV 3)) (tN (tV (b2 AX (b2 AX (bV 0) (b2 Po (b2 fZ (bV 1) (b1 BC (bV 2))) (zv 1))) (zv 1)))))) (bw (bC (.bl false))) E8) (bw (b2 eqQ (lQ [none,some 2,some 0,some 1] (Sj (b1 BC (bV 2))) (gN 0) jq jo) (fY aQ))))
def aU:=cD 4 4 false lD
def bW:=zK aU
def oZ:=(aP (bM 4 (bH gk (zw 1 (zw 3 aQ)))) (E9 (tO (tV (b2 Jn (bV 2) (bC .Au))) (tV (m9 cO (zw 4 (au (bL (bV 2)) aQ))))) (E9 (tV (b2 OE (bH bW (zw 1 (zw 4 aQ))) (zv 1))) (bw (bC (.bl false))) E8) E8))
def zP:=(aP (bM 4 (bH gk (zw 1 (zw 3 aQ)))) (E9 (tO (tV (b2 Jn (bV 2) (bC .Au))) (tV (bH cO (zw 4 (zw 2 aQ))))) (E9 (tV (b2 OE (bH bW (zw 1 (zw 4 aQ))) (zv 1))) (bw (bC (.bl false))) E8) E8))
def zQ:=(aP (bM 1 (bH gZ (au (bH cX (zw 0 (au (zv 0) aQ))) (au (zv 3) aQ)))) (vY 2 (bH cj (zw 1 aQ)) (aP (E9 (tA (tV (b2 iG (bV 2) (bC .Au))) (tO (tN (tV (bH eN (zw 2 aQ)))) (tV (b2 (jN λi j=>decide (i < j)) (bH bW (zw 1 (zw 2 aQ))) (zv 2))))) (bw (bC (.bl false))) E8) (aP (gQ (gN 3) (iV (Pw (bV 0) (oS (zv 1)) (oS (zv 25)))) [3,4] zP) (aP (bM 5 (bH cj (zw 1 aQ))) (aP (E9 (tV (b2 Jn (bV 2) (bC .Au))) (bw (b2 Jn (bV 5) (bC .Au))) E8) (aP XS (bw (b2 eqQ (bV 5) (Pw (bV 2) oN (oS (b1 sU (zv 1))))))))))) (aP (E9 (tA (tV (b2 iG (bV 2) (bC .Au))) (tO (tN (tV (m9 eN (au (bL (bV 2)) aQ)))) (tV (b2 (jN λi j=>decide (i < j)) (m9 bW (zw 1 (au (bL (bV 2)) aQ))) (zv 2))))) (bw (bC (.bl false))) E8) (aP (gQ (gN 3) (iV (Pw (bV 0) (oS (zv 1)) (oS (zv 25)))) [3,4] oZ) (aP (bM 5 (bH cj (zw 1 aQ))) (aP (E9 (tV (b2 Jn (bV 2) (bC .Au))) (bw (b2 Jn (bV 5) (bC .Au))) E8) (aP (jA qj 2 (d8 (au (bC (.str "u")) (au (bC (.bl true)) aQ)))) (bw (b2 eqQ (bV 5) (Pw (bV 2) oN (oS (b1 sU (zv 1)))))))))))))
def uV:=cD 6 1 false zQ
section
variable {α:Type}(a b c d e f g h:α)(l:List α)
@[simp] theorem at0:B5 (a::l) 0=some a:=d_ (k:=0) rfl
@[simp] theorem at1:B5 (a::b::l) 1=some b:=d_ (k:=1) rfl
@[simp] theorem at2:B5 (a::b::c::l) 2=some c:=d_ (k:=2) rfl
@[simp] theorem at3:B5 (a::b::c::d::l) 3=some d:=d_ (k:=3) rfl
end
@[simp] noncomputable def ZP (ds:qc):Option Out->Option MR.Env
 | some (.nx e)=>some (EL ds e)
 | some (.ct e)=>some (EL ds e)
 | _=>none
noncomputable def turn (g:PV->MR.Env->Option MR.Env)(ds:qc)(body:MR.Env->Option Out)(x:PV)(env:MR.Env):Option MR.Env:=(g x env).bind λe=>ZP ds (body e)
theorem bZ (g:PV->MR.Env->Option MR.Env)(ds:qc)(body:MR.Env->Option Out)(x:PV)(env:MR.Env):turn g ds body x env=(g x env).bind λe=>ZP ds (body e):=id rfl
theorem jZ {g:PV->MR.Env->Option MR.Env}{ds:qc}{body:MR.Env->Option Out}{x:PV}{xs:List PV}{env C3:MR.Env}(h:turn g ds body x env=some C3):cV g ds body (x::xs) env=cV g ds body xs C3:=by
 unfold turn at h
 obtain⟨e,h1,h2⟩:=aA h
 unfold ZP at h2
 split at h2
 ·rename_i q;cases h2;simp[cV,h1,q]
 ·rename_i q;cases h2;simp[cV,h1,q]
 ·cases h2
theorem qF {α S:Type}{g:PV->MR.Env->Option MR.Env}{ds:qc}{body:MR.Env->Option Out}(c:α->PV)(E:S->MR.Env)(step:S->α->S)(I:List α->S->Prop):∀(ys:List α) (s:S),I ys s->
  (∀y ys s,I (y::ys) s->I ys (step s y)/\turn g ds body (c y) (E s)=some (E (step s y)))->
  cV g ds body (ys.map c) (E s)=some (.nx (E (ys.foldl step s)))
 | [],s,_,_=>rfl
 | y::ys,s,i,hh=>by
  obtain⟨hI,h1⟩:=hh y ys s i
  have ih:=qF c E step I ys (step s y) hI hh
  rw[ap,jZ h1,ih,pc]
theorem jD {α:Type}{g:PV->MR.Env->Option MR.Env}{ds:qc}{body:MR.Env->Option Out}{env:MR.Env}(c:α->PV):∀(ys:List α),(∀y∈ys,turn g ds body (c y) env=some env)->cV g ds body (ys.map c) env=some (.nx env)
 | [],_=>rfl
 | y::ys,h=>by
  rw[ap,jZ (h y am)]
  exact jD c ys λz hz=>h z (af _ hz)
theorem dB {f g:MR.Env->Option Out}{env e:MR.Env}(h:f env=some (.nx e)):aP f g env=g e:=by simp[h]
theorem Mv {f g:MR.Env->Option Out}{env:MR.Env}{p:PV}(h:f env=some (.rt p)):aP f g env=some (.rt p):=by simp[h]
theorem ir (n:Nat):cT 0 (n:Int)=(List.range n).map λk=>PV.int (k:Nat):=by
 unfold cT
 simp
noncomputable def cell (ns:qq)(k:Nat):Int:=ns.getD k 0
def D3:Nat->PV->Prop
 | _,.Au=>True
 | _,.bl _=>True
 | _,.int _=>True
 | _,.str x=>PyData.strOk x=true
 | n+1,.lst xs=>∀x∈xs,D3 n x
 | n+1,.tup xs=>∀x∈xs,D3 n x
 | _,_=>False
theorem uW {n:Nat}(ih:∀p,D3 n p->∃d,toD p=some d/\d.canLay0=true/\d.depth<=n/\PyData.eqv d d=true):∀xs:List PV,(∀x∈xs,D3 n x)->∃ds,dO xs=some ds/\PyData.canLayAll0 ds=true/\PyData.depthAll ds<=n/\PyData.eqvAll ds ds=true
 | [],_=>⟨[],rfl,rfl,cq _,rfl⟩
 | x::xs,h=>by
  obtain⟨d,h1,h2,h3,h4⟩:=ih x (h x am)
  obtain⟨ds,g1,g2,g3,g4⟩:=uW ih xs λz hz=>h z (af _ hz)
  refine⟨d::ds,by simp[dO,h1,g1],by simp[PyData.canLayAll0,h2,g2],?_,by simp[PyData.eqvAll,h4,g4]⟩
  simp only[PyData.depthAll]
  omega
theorem uX:∀(n:Nat) (p:PV),D3 n p->∃d,toD p=some d/\d.canLay0=true/\d.depth<=n/\PyData.eqv d d=true
 | n,.Au,_=>⟨.none,by simp[toD],by simp[PyData.canLay0],by simp[PyData.depth],by simp[PyData.eqv]⟩
 | n,.bl b,_=>⟨.bool b,by simp[toD],by simp[PyData.canLay0],by simp[PyData.depth],by simp[PyData.eqv]⟩
 | n,.int b,_=>⟨.int b,by simp[toD],by simp[PyData.canLay0],by simp[PyData.depth],by simp[PyData.eqv]⟩
 | n,.str b,h=>⟨.str b,by simp[toD],by simpa [PyData.canLay0,D3] using h,by simp[PyData.depth],by simp[PyData.eqv]⟩
 | n+1,.lst xs,h=>by
  obtain⟨ds,g1,g2,g3,g4⟩:=uW (uX n) xs (by simpa [D3] using h)
  exact⟨.list ds,by simp[toD,g1],by simp[PyData.canLay0,g2],by simp only[PyData.depth];omega,by simp[PyData.eqv,g4]⟩
 | n+1,.tup xs,h=>by
  obtain⟨ds,g1,g2,g3,g4⟩:=uW (uX n) xs (by simpa [D3] using h)
  exact⟨.tuple ds,by simp[toD,g1],by simp[PyData.canLay0,g2],by simp only[PyData.depth];omega,by simp[PyData.eqv,g4]⟩
 | 0,.lst _,h=>by simp[D3] at h
 | 0,.tup _,h=>by simp[D3] at h
 | _,.frz _,h=>by simp[D3] at h
 | _,.ktp _,h=>by simp[D3] at h
 | _,.dK _,h=>by simp[D3] at h
 | _,.dT _,h=>by simp[D3] at h
 | _,.obj _ _,h=>by simp[D3] at h
theorem JH {n:Nat}{p:PV}(h:D3 n p)(hn:n<=64):Sb p p=some true:=by
 obtain⟨d,h1,h2,h3,h4⟩:=uX n p h
 have hs:SeqAt.shaped d=true:=by
  unfold SeqAt.shaped
  rw[h2,Bool.true_and,ed]
  omega
 simp[Sb,h1,hs,h4]
theorem JK {p:PV}{k:Bool}(h:OC p p=some k):k=true:=by
 cases p <;> simp at h <;> first | exact h | exact h.symm | cases h
theorem zR {n:Nat}{p:PV}(h:D3 n p)(hn:n<=64):F4 p p=some true:=by
 unfold F4
 cases q:OC p p with
 | none=>exact JH h hn
 | some k=>rw[JK q]
theorem rW {n:Nat}{x:PV}{xs:List PV}(h:D3 (n+1) (.lst (x::xs)))(hn:n<=60):F4 (.lst (x::xs)) (.lst [])=some false:=by
 have h':∀y∈x::xs,D3 n y:=by simpa [D3] using h
 obtain⟨d,a1,a2,a3,a4⟩:=uX n x (h' x am)
 obtain⟨ds,g1,g2,g3,g4⟩:=uW (uX n) xs λz hz=>h' z (af _ hz)
 have hs:SeqAt.shaped (.list (d::ds))=true:=by
  have h1:(PyData.list (d::ds)).canLay0=true:=by simp[PyData.canLay0,PyData.canLayAll0,a2,g2]
  have h2:(PyData.list (d::ds)).depth<=64:=by simp only[PyData.depth,PyData.depthAll];omega
  simp[SeqAt.shaped,h1,h2]
 have EX:SeqAt.shaped (.list [])=true:=by decide
 simp[F4,OC,Sb,toD,dO,a1,g1,hs,EX,PyData.eqv,PyData.eqvAll]
@[simp] theorem Mw:F4 (.lst []) (.lst [])=some true:=zR (n:=1) (by simp[D3]) (by decide)
theorem fc {α S:Type}{g:PV->MR.Env->Option MR.Env}{ds:qc}{body:MR.Env->Option Out}(c:α->PV)(E:S->MR.Env)(I:List α->S->Prop)(hh:∀y ys s,I (y::ys) s->∃s',I ys s'/\turn g ds body (c y) (E s)=some (E s')):∀(ys:List α) (s:S),I ys s->
  ∃s',I [] s'/\cV g ds body (ys.map c) (E s)=some (.nx (E s'))
 | [],s,i=>⟨s,i,rfl⟩
 | y::ys,s,i=>by
  obtain⟨s1,i1,h1⟩:=hh y ys s i
  obtain⟨s2,i2,h2⟩:=fc c E I hh ys s1 i1
  exact⟨s2,i2,by rw[ap,jZ h1,h2]⟩
theorem vZ {k:Nat}(h:k < 1000):Pp (k:Int)=true:=uC (by omega) (by omega)
theorem o9 (x:Str)(cs:qo):(cs.map PV.str).all dH=true/\((cs.map PV.str).any λy=>Pt y (.str x))=decide (x∈cs):=by
 refine⟨by rw[List.all_map,gc];exact λ_ _=>rfl,?_⟩
 rw[p5]
 induction cs with
 | nil=>simp
 | cons c r ih=>
  rw[eR,ih]
  by_cases e:x=c
  ·subst e;simp[Pt]
  ·have e':¬ c=x:=λz=>e z.symm
   simp[Pt,e,e']
theorem JL (x:Str)(cs:qo):ML (.str x) (.lst (cs.map .str))=some (decide (x∈cs)):=by
 simp[ML,dH,(o9 x cs).1,(o9 x cs).2]
theorem xx (x:Str)(cs:qo):ML (.str x) (.tup (cs.map .str))=some (decide (x∈cs)):=by
 simp[ML,dH,(o9 x cs).1,(o9 x cs).2]
structure BB (p:Str):Prop where
 ge:1<=p.length
 le:p.length<=3
 cs:∀c∈p.cps.toList,c=117\/c=45\/c=120
structure CD (ps:qo):Prop where
 ne:ps≠[]
 le:ps.length<=4
 ok:∀p∈ps,BB p
theorem Eo {i:Int}(h0:0<=i)(h1:i < 3):∃c,(c=117\/c=45\/c=120)/\B5 (("u-x" : Str).cps.toList) i=some c:=by
 have e:("u-x" : Str).cps.toList=[117,45,120]:=by decide +kernel
 obtain⟨k,rfl⟩:∃k:Nat,i=k:=⟨i.toNat,by omega⟩
 rw[e]
 have hk:k=0\/k=1\/k=2:=by omega
 rcases hk with rfl | rfl | rfl
 ·exact⟨117,.inl rfl,rfl⟩
 ·exact⟨45,.inr (.inl rfl),rfl⟩
 ·exact⟨120,.inr (.inr rfl),rfl⟩
theorem QR:("u-x" : Str).length<=1000000:=by decide +kernel
noncomputable def mF (c k:Int):Int:=(c % 1000003*(48271+15838*k*k)+69621*k) % 2147483647
theorem zT (c k:Int)(h:Pp k=true):fL [.int c,.int k]=some (.int (mF c k)):=by
 have h1:Pp (c % 1000003)=true:=uC (by omega) (by omega)
 have h2:Pp 69621=true:=uC (by decide) (by decide)
 have h3:Pp 15838=true:=uC (by decide) (by decide)
 simp[fL,rR,h,h1,h2,h3,mF]
theorem tK (n:Int){k:Nat}(hk:k < 3):∃c,(c=117\/c=45\/c=120)/\bJ [some (.int k),some (.int n)]=some (.str ⟨#[c]⟩):=by
 have hl:=QR
 have hk:k=0\/k=1\/k=2:=by omega
 rcases hk with rfl | rfl | rfl
 ·obtain⟨c,hc,h⟩:=Eo (i:=n / 4 % 3) (by omega) (by omega)
  exact⟨c,hc,by simp[bJ,h,hl]⟩
 ·obtain⟨c,hc,h⟩:=Eo (i:=n / 12 % 3) (by omega) (by omega)
  exact⟨c,hc,by simp[bJ,h,hl]⟩
 ·obtain⟨c,hc,h⟩:=Eo (i:=n / 36 % 3) (by omega) (by omega)
  exact⟨c,hc,by simp[bJ,h,hl]⟩
theorem Ep (n:Int):∃x,BB x/\cW [.int n]=some (.str x):=by
 obtain⟨t,ht,et⟩:∃t:Nat,(t=1\/t=2\/t=3)/\1+n % 4 % 3=t:=⟨(1+n % 4 % 3).toNat,by omega,by omega⟩
 have hr:F7 (t:Int)=true:=jK (by omega) (by omega)
 obtain⟨a,ha,ea⟩:=tK n (k:=0) (by decide)
 obtain⟨b,hb,eb⟩:=tK n (k:=1) (by decide)
 obtain⟨c,hc,ec⟩:=tK n (k:=2) (by decide)
 have el:("" : Str).length=0:=by decide +kernel
 have ea:bJ [some (.int 0),some (.int n)]=some (.str ⟨#[a]⟩):=ea
 have eb:bJ [some (.int 1),some (.int n)]=some (.str ⟨#[b]⟩):=eb
 have ec:bJ [some (.int 2),some (.int n)]=some (.str ⟨#[c]⟩):=ec
 rcases ht with rfl | rfl | rfl
 ·refine⟨⟨#[a]⟩,⟨by show 1<=1;decide,by show 1<=3;decide,λd hd=>?_⟩,?_⟩
  ·simp at hd;rw[hd];exact ha
  ·have e:cT 0 1=[.int 0]:=rfl
   have hj:JoinOk ("" : Str) [⟨#[a]⟩]=true:=rfl
   have W7:Str.join ("" : Str) [⟨#[a]⟩]=⟨#[a]⟩:=rfl
   have hr:F7 1=true:=hr
   have et:1+n % 4 % 3=1:=et
   simp[cW,fU,et,hr,e,dq,ea,CO,hj,W7]
 ·refine⟨⟨#[a,b]⟩,⟨by show 1<=2;decide,by show 2<=3;decide,λd hd=>?_⟩,?_⟩
  ·simp at hd;rcases hd with hd | hd <;> rw[hd] <;> assumption
  ·have e:cT 0 2=[.int 0,.int 1]:=rfl
   have hj:JoinOk ("" : Str) [⟨#[a]⟩,⟨#[b]⟩]=true:=rfl
   have W7:Str.join ("" : Str) [⟨#[a]⟩,⟨#[b]⟩]=⟨#[a,b]⟩:=rfl
   have hr:F7 2=true:=hr
   have et:1+n % 4 % 3=2:=et
   simp[cW,fU,et,hr,e,dq,ea,eb,CO,hj,W7]
 ·refine⟨⟨#[a,b,c]⟩,⟨by show 1<=3;decide,by show 3<=3;decide,λd hd=>?_⟩,?_⟩
  ·simp at hd;rcases hd with hd | hd | hd <;> rw[hd] <;> assumption
  ·have e:cT 0 3=[.int 0,.int 1,.int 2]:=rfl
   have hj:JoinOk ("" : Str) [⟨#[a]⟩,⟨#[b]⟩,⟨#[c]⟩]=true:=rfl
   have W7:Str.join ("" : Str) [⟨#[a]⟩,⟨#[b]⟩,⟨#[c]⟩]=⟨#[a,b,c]⟩:=rfl
   have hr:F7 3=true:=hr
   have et:1+n % 4 % 3=3:=et
   simp[cW,fU,et,hr,e,dq,ea,eb,ec,CO,hj,W7]
abbrev Slot:=List Str×Bool
abbrev qA:=List Slot
noncomputable def BF (s:Slot):PV:=.tup [.tup (s.1.map .str),.bl s.2]
noncomputable def mP (m:qA):PV:=.tup (m.map BF)
def a_ (m:qA):Prop:=∀s∈m,CD s.1
theorem G5 {n:Int}{L:qo}(hL:L.length < 1000){k:Nat}(hk:k < 4):
  ∃x,BB x/\turn (gN 2) [2,3] eE (.int k) [some (.int n),some (.lst (L.map .str)),none,none]=some [some (.int n),some (.lst ((if x∈L then L else L++[x]).map .str)),none,none]:=by
 have h1:=zT (n / 3) k (vZ (by omega))
 obtain⟨x,hx,h2⟩:=Ep (mF (n / 3) k)
 have hin:=JL x L
 have hl:L.length < 1000000:=by omega
 refine⟨x,hx,?_⟩
 by_cases hm:x∈L
 ·simp[bZ,eE,h1,h2,hin,hm,hl]
 ·simp[bZ,eE,h1,h2,hin,hm,hl]
theorem Mx (n:Int):∃s:Slot,CD s.1/\iQ [.int n]=some (BF s):=by
 obtain⟨t,ht,et⟩:∃t:Nat,(1<=t/\t<=3)/\1+n % 3=t:=⟨(1+n % 3).toNat,by omega,by omega⟩
 obtain⟨L,⟨i1,i3,i4,_⟩,h⟩:=fc (g:=gN 2) (ds:=[2,3]) (body:=eE) (λk:Nat=>PV.int (k:Nat)) (λL:List Str=>[some (.int n),some (.lst (L.map .str)),none,none])
  (λr L=>(∀p∈L,BB p)/\L.length+r.length<=t/\(r.length=t\/L≠[])/\∀k∈r,k < 4)
  (by
   rintro k r L ⟨i1,i3,i4,i5⟩
   simp only[bv] at i3 i4
   obtain⟨x,hx,h⟩:=G5 (n:=n) (L:=L) (by omega) (i5 k am)
   refine⟨_,⟨?_,?_,.inr ?_,λz hz=>i5 z (af _ hz)⟩,h⟩
   ·intro p hp
    split at hp
    ·exact i1 p hp
    ·rcases bq.mp hp with z | z
     ·exact i1 p z
     ·rw[aw] at z;rw[z];exact hx
   ·split
    ·omega
    ·rw[bp,fe];omega
   ·split
    ·rename_i hm
     intro e
     rw[e] at hm
     cases hm
    ·simp)
  (List.range t) [] ⟨(λp hp=>by cases hp),by simp,.inl (by simp),(λk hk=>by have:=b0.mp hk;omega)⟩
 have hr:F7 (t:Int)=true:=jK (by omega) (by omega)
 rw[← ir] at h
 simp only[gE] at h
 refine⟨(L,decide (n / 3 % 5=4)),⟨?_,?_,i1⟩,?_⟩
 ·rcases i4 with z | z
  ·simp at z;omega
  ·exact z
 ·simp at i3;show L.length<=4;omega
 ·simp[iQ,qy,et,hr,h,BF]
theorem JM (c:Int):∃m,a_ m/\m≠[]/\m.length<=3/\gZ [.int c,.int 3]=some (mP m):=by
 obtain⟨t,ht,et⟩:∃t:Nat,(1<=t/\t<=3)/\1+c % 3=t:=⟨(1+c % 3).toNat,by omega,by omega⟩
 have hr:F7 (t:Int)=true:=jK (by omega) (by omega)
 have key:∀ks:List Nat,(∀k∈ks,k < 1000)->∃m,a_ m/\m.length=ks.length/\dq [none,some (.int c),some (.int 3)] (gN 0) jB iR (ks.map λk=>PV.int (k:Nat))=some (m.map BF):=by
  intro ks
  induction ks with
  | nil=>intro _;exact⟨[],(λs hs=>by cases hs),rfl,rfl⟩
  | cons k ks ih=>
   intro h
   obtain⟨m,h1,h2,h3⟩:=ih λj hj=>h j (af _ hj)
   obtain⟨s,g1,g2⟩:=Mx (mF (c / 3) k)
   have g3:=zT (c / 3) k (vZ (h k am))
   refine⟨s::m,λx hx=>?_,by simp[h2],?_⟩
   ·rcases bm.mp hx with rfl | hx
    ·exact g1
    ·exact h1 x hx
   ·rw[ap,dq,h3]
    simp[iR,g2,g3]
 obtain⟨m,h1,h2,h3⟩:=key (List.range t) (λk hk=>by have:=b0.mp hk;omega)
 rw[fb] at h2
 rw[← ir] at h3
 refine⟨m,h1,λe=>by subst e;simp at h2;omega,by omega,?_⟩
 have hl:(cT 0 (t:Int)).length<=1000000:=by rw[ir];simp;omega
 simp[gZ,pJ,et,hr,h3,hl,mP]
theorem G6 (xs ys:List PV)(h:xs.length+ys.length<=1000000):oR (.tup xs) (.tup ys)=some (.tup (xs++ys)):=by
 cases xs with
 | nil=>rfl
 | cons x xs=>rw[Ei,a0 h]
theorem idl {f g:MR.Env->Option Out}{env:MR.Env}(h:f env=some (.nx env)):aP f g env=g env:=dB h
noncomputable def AE (x mark:Str):Bool:=decide (x=mark)||decide (x=("x" : Str))
theorem G7 (x mark:Str):fH [.str x,.str mark]=some (.bl (AE x mark)):=by
 unfold AE
 by_cases h:x=mark
 ·simp[fH,jQ,h]
 ·simp[fH,jQ,h]
noncomputable def bB (p:Str)(j:Nat):Str:=⟨#[p.cps.toList.getD j 0]⟩
variable {p:Str}{j:Nat}
theorem zU (h:j < p.length):B5 p.cps.toList (j:Int)=some (p.cps.toList.getD j 0):=by
 have h':j < p.cps.toList.length:=by simpa [Str.length] using h
 refine d_ ?_
 rw[bb,ai h']
 rfl
theorem QS (a b c d e f:Int):F4 (.tup [.int a,.int b,.int c]) (.tup [.int d,.int e,.int f])=some (decide (a=d/\b=e/\c=f)):=by
 have h1:∀x y z:Int,SeqAt.shaped (.tuple [.int x,.int y,.int z])=true:=λx y z=>by
  simp[SeqAt.shaped,PyData.canLay0,PyData.canLayAll0,PyData.depth,PyData.depthAll]
 simp[F4,OC,Sb,toD,dO,h1,PyData.eqv,PyData.eqvAll,Bool.decide_and]
 rfl
noncomputable def ES (a b c:Nat):PV:=.tup [.int a,.int b,.int c]
noncomputable def SY (s:Slot)(slot k i:Nat)(p:Str)(ends:Bool):PV:=if i+1 < p.length then ES slot k (i+1) else if (s.2&&!ends)=true then .Au else ES (slot+1) 0 0
variable {m:qA}{slot:Nat}{s:Slot}
theorem v4 (h:m[slot]?=some s):B5 (m.map BF) (slot:Int)=some (BF s):=d_ (by simp[h])
theorem zV {k:Nat}(h:s.1[k]?=some p):B5 (s.1.map PV.str) (k:Int)=some (.str p):=d_ (by simp[h])
variable {i:Nat}{ends:Bool}
theorem G8 {k:Nat}(hs:m[slot]?=some s)(hp:s.1[k]?=some p)(ok:BB p):
  dN [mP m,ES slot k i,.bl ends]=some (SY s slot k i p ends):=by
 have h1:=v4 hs
 have h2:=zV hp
 have h3:p.length<=1000000:=by have:=ok.le;omega
 have h4:((i:Int)+1 < (p.length:Int))↔i+1 < p.length:=by omega
 unfold SY
 by_cases h5:i+1 < p.length
 ·simp[dN,iW,mP,ES,h1,BF,h2,h3,h4,h5]
 ·have h6:(if i+1 < p.length then ES slot k (i+1) else if (s.2&&!ends)=true then PV.Au else ES (slot+1) 0 0)=(if (s.2&&!ends)=true then PV.Au else ES (slot+1) 0 0):=ax h5
  rw[h6]
  cases hc:s.2 <;> cases ends <;> simp[dN,iW,mP,ES,h1,BF,h2,h3,h4,h5,hc]
noncomputable def Na (s:Slot)(slot i:Nat)(mark:Str)(ends:Bool)(k:Nat):List PV:=
 if AE (bB (s.1.getD k ⟨#[]⟩) i) mark=true/\sO (SY s slot k i (s.1.getD k ⟨#[]⟩) ends)=false then [.tup [.int k,SY s slot k i (s.1.getD k ⟨#[]⟩) ends]] else []
theorem rB {k:Nat}(h:s.1[k]?=some p):s.1.getD k ⟨#[]⟩=p:=by rw[bb,h];rfl
theorem JN (s:Slot)(slot k i:Nat)(p:Str)(ends:Bool):(SY s slot k i p ends=.Au/\¬ i+1 < p.length/\s.2=true/\ends=false)\/(∃a b c:Nat,SY s slot k i p ends=ES a b c/\((i+1 < p.length/\a=slot/\b=k/\c=i+1)\/(¬ i+1 < p.length/\(s.2=false\/ends=true)/\a=slot+1/\b=0/\c=0))):=by
 unfold SY
 by_cases h:i+1 < p.length
 ·exact .inr ⟨_,_,_,a0 h,.inl ⟨h,rfl,rfl,rfl⟩⟩
 ·rw[ax h]
  by_cases h':(s.2&&!ends)=true
  ·rw[a0 h']
   simp at h'
   exact .inl ⟨rfl,h,h'.1,h'.2⟩
  ·rw[ax h']
   refine .inr ⟨_,_,_,rfl,.inr ⟨h,?_,rfl,rfl,rfl⟩⟩
   cases hs:s.2 <;> cases ends <;> simp_all
variable {mark:Str}
theorem Mz {k:Nat}{S N:PV}{L:List PV}(hs:m[slot]?=some s)(hp:s.1[k]?=some p)(ok:BB p)(hi:i < p.length)(hL:L.length < 1000):
  turn (gN 9) [9,10] cZ (.int k) [some (mP m),some S,some (.str mark),some (.bl ends),some (.int slot),some (.int i),some (.tup (s.1.map .str)),some N,some (.lst L),none,none]=
   some [some (mP m),some S,some (.str mark),some (.bl ends),some (.int slot),some (.int i),some (.tup (s.1.map .str)),some N,some (.lst (L++Na s slot i mark ends k)),none,none]:=by
 have h1:=G8 (i:=i) (ends:=ends) hs hp ok
 have h2:=zV hp
 have h3:p.length<=1000000:=by have:=ok.le;omega
 have h4:=zU hi
 have h5:=G7 (bB p i) mark
 have hl:L.length < 1000000:=by omega
 unfold bB at h5
 unfold Na
 rw[rB hp]
 rcases JN s slot k i p ends with ⟨e,_⟩ | ⟨a,b,c,e,_⟩
 ·rw[e] at h1
  simp only[ES] at h1
  simp[bZ,cZ,h1,e]
 ·rw[e] at h1 ⊢
  simp only[ES] at h1
  unfold bB
  cases hq:AE ⟨#[p.cps.toList.getD i 0]⟩ mark with
  | true=>
   rw[hq] at h5
   simp[bZ,cZ,h1,h2,h3,h4,h5,hl,ES,-List.getD_eq_getElem?_getD]
  | false=>
   rw[hq] at h5
   simp[bZ,cZ,h1,h2,h3,h4,h5,hl,ES,-List.getD_eq_getElem?_getD]
theorem MF (s:Slot)(slot i:Nat)(mark:Str)(ends:Bool)(k:Nat):(Na s slot i mark ends k).length<=1:=by unfold Na;split <;> simp
theorem Ck {S N:PV}(hs:m[slot]?=some s)(ok:CD s.1)(ks:qc)(hk:∀k∈ks,∃p,s.1[k]?=some p/\i < p.length)(hl:ks.length < 1000):
  cV (gN 9) [9,10] cZ (ks.map λk=>PV.int (k:Nat)) [some (mP m),some S,some (.str mark),some (.bl ends),some (.int slot),some (.int i),some (.tup (s.1.map .str)),some N,some (.lst []),none,none]=
   some (.nx [some (mP m),some S,some (.str mark),some (.bl ends),some (.int slot),some (.int i),some (.tup (s.1.map .str)),some N,some (.lst (ks.flatMap (Na s slot i mark ends))),none,none]):=by
 obtain⟨L,⟨d,e1,e2,_⟩,h⟩:=fc (g:=gN 9) (ds:=[9,10]) (body:=cZ) (λk:Nat=>PV.int (k:Nat))
  (λL:List PV=>[some (mP m),some S,some (.str mark),some (.bl ends),some (.int slot),some (.int i),some (.tup (s.1.map .str)),some N,some (.lst L),none,none])
  (λr L=>∃d,ks=d++r/\L=d.flatMap (Na s slot i mark ends)/\L.length<=d.length)
  (by
   rintro k r L ⟨d,e1,e2,e3⟩
   obtain⟨p,hp,hi⟩:=hk k (by rw[e1];simp)
   have hd:d.length < 1000:=by have:=dP List.length e1;simp at this;omega
   have hm:p∈s.1:=dn hp
   refine⟨L++Na s slot i mark ends k,⟨d++[k],by rw[e1];simp,by rw[e2];simp,?_⟩,Mz hs hp (ok.ok p hm) hi (by omega)⟩
   have:=MF s slot i mark ends k
   simp;omega)
  ks [] ⟨[],rfl,rfl,aE _⟩
 rw[br] at e1
 subst e1 e2
 exact h
structure Nc (m:qA)(slot pat i:Nat):Prop where
 le:slot<=m.length
 fin:slot=m.length->pat=0/\i=0
 mid:∀s,m[slot]?=some s->(i=0/\pat=0)\/∃p,s.1[pat]?=some p/\0 < i/\i < p.length
noncomputable def Yj (m:qA)(slot pat i:Nat)(mark:Str)(ends:Bool):List PV:=match m[slot]? with
 | none=>[]
 | some s=>if i=0 then (List.range s.1.length).flatMap (Na s slot i mark ends) else Na s slot i mark ends pat
theorem JP (hm:a_ m)(hl:m.length < 1000){pat:Nat}(st:Nc m slot pat i)(mark:Str)(ends:Bool):
  dU [mP m,ES slot pat i,.str mark,.bl ends]=some (.lst (Yj m slot pat i mark ends)):=by
 have he:bG [mP m]=some (.tup [.int m.length,.int 0,.int 0]):=by simp[bG,lC,mP]
 have hq:=QS slot pat i m.length 0 0
 unfold Yj
 by_cases hf:slot=m.length
 ·obtain⟨rfl,rfl⟩:=st.fin hf
  subst hf
  have:m[m.length]?=none:=by simp
  rw[this]
  simp at hq
  simp[dU,jC,he,ES,hq]
 ·have A6:slot < m.length:=by have:=st.le;omega
  obtain⟨s,hs⟩:∃s,m[slot]?=some s:=⟨m[slot],ai A6⟩
  rw[hs]
  have AU:¬ ((slot:Int)=m.length/\(pat:Int)=0/\(i:Int)=0):=λz=>hf (by omega)
  rw[dy AU] at hq
  have ok:=hm s (dn hs)
  have h1:=v4 hs
  by_cases hi:i=0
  ·subst hi
   have lp:=Ck (S:=ES slot pat 0) (N:=.lst ((List.range s.1.length).map λk=>PV.int (k:Nat))) (mark:=mark) (ends:=ends) (i:=0) hs ok (List.range s.1.length) (λk hk=>by
    have F8:=b0.mp hk
    have:=(ok.ok _ (iE F8)).ge
    exact⟨s.1[k],ai F8,by omega⟩) (by have:=ok.le;simp;omega)
   have hr:=ir s.1.length
   have hb:0<=(s.1.length:Int)/\(s.1.length:Int)<=1000000:=by have:=ok.le;omega
   simp only[fw]
   have e1:mP m=.tup (m.map BF):=rfl
   have e2:ES slot pat 0=.tup [.int slot,.int pat,.int 0]:=rfl
   rw[e1,e2] at lp ⊢
   rw[e1] at he
   simp at hq lp
   simp[dU,jC,he,hq,h1,BF,hr,hb,MR.PF,lp]
  ·rcases st.mid s hs with z | ⟨p,hp,OG,K2⟩
   ·exact absurd z.1 hi
   ·have lp:=Ck (S:=ES slot pat i) (N:=.lst [.int pat]) (mark:=mark) (ends:=ends) (i:=i) hs ok [pat] (λk hk=>by
     rw[aw] at hk
     subst hk
     exact⟨p,hp,K2⟩) (by simp)
    simp only[ax hi]
    have e1:mP m=.tup (m.map BF):=rfl
    have e2:ES slot pat i=.tup [.int slot,.int pat,.int i]:=rfl
    rw[e1,e2] at lp ⊢
    rw[e1] at he
    have LS:¬ (i:Int)=0:=by omega
    simp at lp
    simp[dU,jC,he,hq,h1,BF,MR.PF,lp,hi,LS]
abbrev D4:=Nat×Nat×Nat
noncomputable def W8 (s:Slot)(slot k i:Nat)(p:Str)(ends:Bool):Option D4:=if i+1 < p.length then some (slot,k,i+1) else if (s.2&&!ends)=true then none else some (slot+1,0,0)
noncomputable def Nd (s:Slot)(slot i:Nat)(mark:Str)(ends:Bool)(k:Nat):List (Nat×D4):=
 if AE (bB (s.1.getD k ⟨#[]⟩) i) mark=true then (W8 s slot k i (s.1.getD k ⟨#[]⟩) ends).toList.map λt=>(k,t) else []
noncomputable def jr (m:qA)(t:D4)(mark:Str)(ends:Bool):List (Nat×D4):=match m[t.1]? with
 | none=>[]
 | some s=>if t.2.2=0 then (List.range s.1.length).flatMap (Nd s t.1 0 mark ends) else Nd s t.1 t.2.2 mark ends t.2.1
noncomputable def D5 (j k:Nat)(p:Str):List D4:=(List.range (p.length - 1)).map λi=>(j,k,1+i)
noncomputable def mG (j:Nat)(s:Slot):List D4:=(j,0,0)::s.1.zipIdx.flatMap λy=>D5 j y.2 y.1
noncomputable def GW (m:qA):List D4:=m.zipIdx.flatMap λy=>mG y.2 y.1
theorem IF {k:Nat}{t:D4}:t∈D5 j k p↔∃i,1<=i/\i < p.length/\t=(j,k,i):=by
 unfold D5
 rw[bP]
 constructor
 ·rintro ⟨i,hi,rfl⟩
  rw[b0] at hi
  exact⟨1+i,by omega,by omega,rfl⟩
 ·rintro ⟨i,h1,h2,rfl⟩
  exact⟨i - 1,by rw[b0];omega,by rw[show 1+(i - 1)=i by omega]⟩
theorem IG {t:D4}:t∈mG j s↔t=(j,0,0)\/∃k p i,s.1[k]?=some p/\1<=i/\i < p.length/\t=(j,k,i):=by
 unfold mG
 rw[bm,d3]
 refine or_congr Iff.rfl ⟨?_,?_⟩
 ·rintro ⟨⟨p,k⟩,hy,ht⟩
  obtain⟨i,h1,h2,rfl⟩:=IF.mp ht
  exact⟨k,p,i,by simpa using gu.mp hy,h1,h2,rfl⟩
 ·rintro ⟨k,p,i,hk,h1,h2,rfl⟩
  exact⟨(p,k),gu.mpr hk,IF.mpr ⟨i,h1,h2,rfl⟩⟩
theorem DD {t:D4}:t∈GW m↔∃s,m[t.1]?=some s/\(t.2=(0,0)\/∃p,s.1[t.2.1]?=some p/\1<=t.2.2/\t.2.2 < p.length):=by
 unfold GW
 rw[d3]
 constructor
 ·rintro ⟨⟨s,j⟩,hy,ht⟩
  have hj:m[j]?=some s:=by simpa using gu.mp hy
  rcases IG.mp ht with rfl | ⟨k,p,i,hk,h1,h2,rfl⟩
  ·exact⟨s,hj,.inl rfl⟩
  ·exact⟨s,hj,.inr ⟨p,hk,h1,h2⟩⟩
 ·rintro ⟨s,hs,h⟩
  obtain⟨j,k,i⟩:=t
  refine⟨(s,j),gu.mpr hs,IG.mpr ?_⟩
  rcases h with h | ⟨p,h1,h2,h3⟩
  ·cases h;exact .inl rfl
  ·exact .inr ⟨k,p,i,h1,h2,h3,rfl⟩
noncomputable def cA (t:D4):PV:=ES t.1 t.2.1 t.2.2
noncomputable def Vc (y:Nat×D4):PV:=.tup [.int (y.1:Nat),cA y.2]
theorem Kw (s:Slot)(slot i:Nat)(mark:Str)(ends:Bool)(k:Nat):Na s slot i mark ends k=(Nd s slot i mark ends k).map Vc:=by
 unfold Na Nd SY W8
 generalize s.1.getD k ⟨#[]⟩=p
 cases h1:AE (bB p i) mark <;> by_cases h2:i+1 < p.length <;> cases h3:(s.2&&!ends) <;> simp[h2,Vc,cA,ES]
theorem R7 (m:qA)(t:D4)(mark:Str)(ends:Bool):Yj m t.1 t.2.1 t.2.2 mark ends=(jr m t mark ends).map Vc:=by
 unfold Yj jr
 split
 ·rename_i h;(try simp only[h]);rfl
 ·rename_i s h
  try simp only[h]
  split
  ·rename_i h0
   rw[h0,List.map_flatMap]
   congr 1
   funext k
   exact Kw s t.1 0 mark ends k
  ·exact Kw s t.1 t.2.2 mark ends t.2.1
theorem tL (j k:Nat)(p:Str):(D5 j k p).length=p.length - 1:=by simp[D5]
theorem JQ {M:PV}{y:Str×Nat}{L:List D4}(ok:BB y.1)(hL:L.length < 9000):
  turn (gT [4,5]) [4,5] eF (.tup [.int (y.2:Nat),.str y.1]) [some M,some (.lst (L.map cA)),some (.int j),some (BF s),none,none]=some [some M,some (.lst ((L++D5 j y.2 y.1).map cA)),some (.int j),some (BF s),none,none]:=by
 obtain⟨p,k⟩:=y
 have ok:BB p:=ok
 have h1:F7 ((p.length:Nat):Int)=true:=jK (by omega) (by have:=ok.le;omega)
 have h0:F7 1=true:=jK (by omega) (by omega)
 have h2:dq [none,some (.int j),some (.int k)] (gN 0) jB jl (cT 1 (p.length:Int))=some ((D5 j k p).map cA):=by
  have e:cT 1 (p.length:Int)=(List.range (p.length - 1)).map λi=>PV.int (1+(i:Nat)):=by
   unfold cT
   have:((p.length:Int) - 1).toNat=p.length - 1:=by omega
   rw[this]
  rw[e]
  unfold D5
  rw[gg]
  exact qu _ _ _ λi _=>⟨[some (.int (1+(i:Nat))),some (.int j),some (.int k)],rfl,by simp[jl,cA,ES]⟩
 have h3:p.length<=1000000:=by have:=ok.le;omega
 have h4:(cT 1 (p.length:Int)).length<=1000000:=by
  unfold cT
  rw[ba,fb]
  have:=ok.le;omega
 have h5:L.length+(D5 j k p).length<=1000000:=by rw[tL];have:=ok.le;omega
 simp[bZ,eF,h0,h1,h2,h3,h4,h5,BF,jk]
theorem MJ {M:PV}(ok:CD s.1){L:List D4}(hL:L.length < 8000):
  cV (gT [4,5]) [4,5] eF (eX 0 (s.1.map .str)) [some M,some (.lst (L.map cA)),some (.int j),some (BF s),none,none]=some (.nx [some M,some (.lst ((L++s.1.zipIdx.flatMap λy=>D5 j y.2 y.1).map cA)),some (.int j),some (BF s),none,none]):=by
 have en:eX 0 (s.1.map .str)=s.1.zipIdx.map λy:Str×Nat=>PV.tup [.int (y.2:Nat),.str y.1]:=lU _ _ _
 rw[en]
 obtain⟨L',⟨d,e1,e2,e3⟩,h⟩:=fc (g:=gT [4,5]) (ds:=[4,5]) (body:=eF) (λy:Str×Nat=>PV.tup [.int (y.2:Nat),.str y.1]) (λL:List D4=>[some M,some (.lst (L.map cA)),some (.int j),some (BF s),none,none])
  (λr L'=>∃d,s.1.zipIdx=d++r/\L'=(L++d.flatMap λy=>D5 j y.2 y.1)/\L'.length<=L.length+4*d.length)
  (by
   rintro y r L' ⟨d,e1,e2,e3⟩
   have hm:y∈s.1.zipIdx:=by rw[e1];simp
   have LU:BB y.1:=ok.ok _ (hZ hm)
   have hd:d.length+r.length+1=s.1.length:=by have:=dP List.length e1;simp at this;omega
   have h4:=ok.le
   refine⟨L'++D5 j y.2 y.1,⟨d++[y],by rw[e1];simp,by rw[e2];simp,?_⟩,JQ LU (by omega)⟩
   have:=tL j y.2 y.1
   have:=LU.le
   simp;omega)
  s.1.zipIdx L ⟨[],rfl,by simp,by simp⟩
 rw[br] at e1
 rw[h,e2,← e1]
theorem JR (j:Nat)(ok:CD s.1):(mG j s).length<=17:=by
 unfold mG
 have:∀(l:List (Str×Nat)),(∀y∈l,BB y.1)->(l.flatMap λy=>D5 j y.2 y.1).length<=4*l.length:=λl=>by
  induction l with
  | nil=>simp
  | cons y l ih=>
   intro h
   have h1:=ih λz hz=>h z (af _ hz)
   have h2:=(h y am).le
   have h3:=tL j y.2 y.1
   rw[gt,bp,bv]
   omega
 have h1:=this s.1.zipIdx λy hy=>ok.ok _ (hZ hy)
 have h2:=ok.le
 rw[List.length_zipIdx] at h1
 rw[bv]
 omega
theorem xF (hm:a_ m)(hl:m.length < 100):iU [mP m]=some (.lst ((GW m).map cA))/\(GW m).length<=17*m.length:=by
 have en:eX 0 (m.map BF)=m.zipIdx.map λy:Slot×Nat=>PV.tup [.int (y.2:Nat),BF y.1]:=lU _ _ _
 obtain⟨L',⟨d,e1,e2,e3⟩,h⟩:=fc (g:=gT [2,3]) (ds:=[2,3,4,5]) (body:=jm) (λy:Slot×Nat=>PV.tup [.int (y.2:Nat),BF y.1]) (λL:List D4=>[some (mP m),some (.lst (L.map cA)),none,none,none,none])
  (λr L'=>∃d,m.zipIdx=d++r/\L'=(d.flatMap λy=>mG y.2 y.1)/\L'.length<=17*d.length)
  (by
   rintro y r L' ⟨d,e1,e2,e3⟩
   have ZQ:y∈m.zipIdx:=by rw[e1];simp
   have ok:CD y.1.1:=hm _ (hZ ZQ)
   have hd:d.length+r.length+1=m.length:=by have:=dP List.length e1;simp at this;omega
   have h4:=JR y.2 ok
   refine⟨L'++mG y.2 y.1,⟨d++[y],by rw[e1];simp,by rw[e2];simp,by simp;omega⟩,?_⟩
   have h5:=MJ (M:=mP m) (j:=y.2) ok (L:=L'++[(y.2,0,0)]) (by simp;omega)
   have e5:(L'++[(y.2,0,0)]).map cA=L'.map cA++[.tup [.int (y.2:Nat),.int 0,.int 0]]:=by simp[cA,ES]
   rw[e5] at h5
   have e6:L'++[(y.2,0,0)]++(y.1.1.zipIdx.flatMap λz=>D5 y.2 z.2 z.1)=L'++mG y.2 y.1:=by simp[mG]
   rw[e6] at h5
   have OO:L'.length < 1000000:=by omega
   obtain⟨⟨ps,c⟩,j⟩:=y
   dsimp only at h5 ⊢
   simp only[BF] at h5
   generalize (L'++mG j (ps,c)).map cA=R at *
   simp[bZ,jm,BF,OO,h5])
  m.zipIdx [] ⟨[],rfl,rfl,by simp⟩
 rw[br] at e1
 have e7:L'=GW m:=by rw[e2,← e1];rfl
 subst e7
 refine⟨?_,by rw[← e1] at e3;simpa using e3⟩
 simp only[gE] at h
 simp[iU,qz,mP] at h ⊢
 simp[en,h]
theorem JS (m:qA)(hm:a_ m)(t:D4)(mark:Str)(e:Bool):(jr m t mark e).length<=4:=by
 have h1:∀(s:Slot) (slot i k:Nat),(Nd s slot i mark e k).length<=1:=λs slot i k=>by
  unfold Nd
  split
  ·cases W8 s slot k i (s.1.getD k ⟨#[]⟩) e <;> simp
  ·simp
 unfold jr
 split
 ·simp
 ·rename_i s h
  have ok:=hm s (dn h)
  split
  ·have:∀l:List Nat,(l.flatMap (Nd s t.1 0 mark e)).length<=l.length:=λl=>by
    induction l with
    | nil=>simp
    | cons k l ih=>have:=h1 s t.1 0 k;rw[gt,bp,bv];omega
   have h2:=this (List.range s.1.length)
   have h3:=ok.le
   rw[fb] at h2
   omega
  ·have:=h1 s t.1 t.2.2 t.2.1;omega
theorem zW {t:D4}(h:t∈GW m):Nc m t.1 t.2.1 t.2.2:=by
 obtain⟨s,hs,h⟩:=DD.mp h
 have A6:=(ag.mp hs).1
 refine⟨by omega,λz=>by omega,λs' DU=>?_⟩
 rw[hs] at DU
 cases DU
 rcases h with h | ⟨p,h1,h2,h3⟩
 ·rw[h];exact .inl ⟨rfl,rfl⟩
 ·exact .inr ⟨p,h1,by omega,h3⟩
abbrev Row:=List Nat
def lx:Row->Row->Prop
 | a::x,b::y=>a < b\/(a=b/\lx x y)
 | _,_=>False
theorem nQ:∀{x y:Row}{a b:Nat},x.length=y.length->(lx (x++[a]) (y++[b])↔lx x y\/(x=y/\a < b))
 | [],[],a,b,_=>by simp[lx]
 | c::x,d::y,a,b,h=>by
  have ih:=nQ (x:=x) (y:=y) (a:=a) (b:=b) (by simpa using h)
  simp only[fq,lx,ih,List.cons.injEq]
  constructor
  ·rintro (h | ⟨h1,h2 | ⟨h2,h3⟩⟩)
   ·exact .inl (.inl h)
   ·exact .inl (.inr ⟨h1,h2⟩)
   ·exact .inr ⟨⟨h1,h2⟩,h3⟩
  ·rintro ((h | ⟨h1,h2⟩) | ⟨⟨h1,h2⟩,h3⟩)
   ·exact .inl h
   ·exact .inr ⟨h1,.inl h2⟩
   ·exact .inr ⟨h1,.inr ⟨h2,h3⟩⟩
theorem o_:∀{x y z:Row},lx x y->lx y z->lx x z
 | [],_,_,h,_=>by simp[lx] at h
 | _::_,[],_,h,_=>by simp[lx] at h
 | _::_,_::_,[],_,h=>by simp[lx] at h
 | a::x,b::y,c::z,h,g=>by
  simp only[lx] at h g ⊢
  rcases h with h | ⟨h,h'⟩ <;> rcases g with g | ⟨g,g'⟩
  ·exact .inl (by omega)
  ·exact .inl (by omega)
  ·exact .inl (by omega)
  ·exact .inr ⟨by omega,o_ h' g'⟩
theorem uY:∀{x:Row},¬ lx x x
 | [],h=>by simp[lx] at h
 | a::x,h=>by
  simp only[lx] at h
  rcases h with h | ⟨_,h⟩
  ·omega
  ·exact uY h
noncomputable def kids (x:Row):List Row:=(List.range 4).map λk=>x++[k]
theorem C6 {x y:Row}:y∈kids x↔∃k,k < 4/\y=x++[k]:=by
 unfold kids
 rw[bP]
 constructor
 ·rintro ⟨k,h,rfl⟩;exact⟨k,b0.mp h,rfl⟩
 ·rintro ⟨k,h,rfl⟩;exact⟨k,b0.mpr h,rfl⟩
theorem Bh (x:Row):(kids x).Pairwise lx:=by
 have:∀k,k < 4->True:=λ_ _=>trivial
 unfold kids
 rw[nI]
 refine List.Pairwise.imp ?_ (List.pairwise_lt_range (n:=4))
 intro a b h
 exact(nQ rfl).mpr (.inr ⟨rfl,h⟩)
theorem jE {d:Nat}:∀{L:List Row},L.Pairwise lx->(∀x∈L,x.length=d)->(L.flatMap kids).Pairwise lx
 | [],_,_=>.nil
 | x::L,h,hl=>by
  rw[List.pairwise_cons] at h
  rw[gt,lS]
  refine⟨Bh x,jE h.2 λy hy=>hl y (af _ hy),?_⟩
  intro a ha b hb
  obtain⟨j,_,rfl⟩:=C6.mp ha
  obtain⟨y,hy,hb⟩:=d3.mp hb
  obtain⟨k,_,rfl⟩:=C6.mp hb
  exact(nQ (by rw[hl x am,hl y (af _ hy)])).mpr (.inl (h.1 y hy))
def C4 (x:Row):Prop:=∀k∈x,k < 4
def sle (q y:Row):Prop:=q.length < y.length\/(q.length=y.length/\(q=y\/lx q y))
variable {L:List Row}
section
variable (same:Row->Row->Bool)(over sought:Row->Bool)
noncomputable def dead (R:List Row)(x:Row):Bool:=over x||R.any λq=>same q x
noncomputable def bf (R L:List Row):List Row->(List Row×List Row) ⊕ (List Row×Row)
 | []=>.inl (R,L)
 | x::X=>if dead same over R x=true then bf R L X else if sought x=true then .inr (R,x) else bf (R++[x]) (L++[x]) X
noncomputable def VF:Nat->List Row->List Row->Option (Option Row)
 | 0,_,_=>none
 | _+1,_,[]=>some none
 | f+1,R,n::ns=>match bf same over sought R [] ((n::ns).flatMap kids) with
  | .inl o=>VF f o.1 o.2
  | .inr o=>some (some o.2)
structure BH:Prop where
 rf:∀x,same x x=true
 sy:∀x y,same x y=true->same y x=true
 tr:∀x y z,same x y=true->same y z=true->same x z=true
 kd:∀x y k,k < 4->same x y=true->same (x++[k]) (y++[k])=true
 ov:∀x y,same x y=true->over x=over y
 so:∀x y,same x y=true->sought x=sought y
 oo:∀x k,k < 4->over x=true->over (x++[k])=true
 o0:over []=false
 s0:sought []=false
 z9:∀x,9 < x.length->over x=true
structure LI (d:Nat)(R L:List Row):Prop where
 so:L.Pairwise lx
 hL:∀x∈L,x.length=d/\x∈R
 hR:∀x∈R,C4 x/\x.length<=d/\over x=false/\sought x=false/\(x.length=d->x∈L)
 cv:∀y,C4 y->over y=false->y.length<=d->∃q∈R,same q y=true/\sle q y
structure MI (d:Nat)(R0 P R L:List Row):Prop where
 e:R=R0++L
 sb:L.Sublist P
 ns:∀x∈L,over x=false/\sought x=false
 cv:∀x∈P,over x=false->∃q∈R,same q x=true/\sle q x
variable {same over sought}
theorem v6 {d:Nat}{R0:List Row}(H:BH same over sought)(h0:∀x∈R0,x.length<=d):∀(Q P R L:List Row),(P++Q).Pairwise lx->(∀x∈P++Q,x.length=d+1)->MI same over sought d R0 P R L->
  match bf same over sought R L Q with
  | .inl o=>MI same over sought d R0 (P++Q) o.1 o.2
  | .inr o=>∃P' Q' L',P++Q=P'++o.2::Q'/\MI same over sought d R0 P' o.1 L'/\over o.2=false/\sought o.2=true
 | [],P,R,L,_,_,I=>by simpa [bf] using I
 | x::Q,P,R,L,hp,hl,I=>by
  have e1:P++x::Q=(P++[x])++Q:=by simp
  have hx:x.length=d+1:=hl x (by simp)
  by_cases hd:dead same over R x=true
  ·have eb:bf same over sought R L (x::Q)=bf same over sought R L Q:=by simp only[bf,a0 hd]
   rw[eb]
   have:=v6 H h0 Q (P++[x]) R L (e1▸hp) (e1▸hl) ⟨I.e,I.sb.trans (List.sublist_append_left _ _),I.ns,?_⟩
   ·rw[e1];exact this
   ·intro y hy ho
    rcases bq.mp hy with hy | hy
    ·exact I.cv y hy ho
    ·rw[aw] at hy
     subst hy
     unfold dead at hd
     rw[ho,Bool.false_or,eW] at hd
     obtain⟨q,hq,hs⟩:=hd
     refine⟨q,hq,hs,?_⟩
     rw[I.e] at hq
     rcases bq.mp hq with hq | hq
     ·exact .inl (by have:=h0 q hq;omega)
     ·have hqP:=I.sb.subset hq
      exact .inr ⟨by rw[hl q (bn _ hqP),hx],.inr ((lS.mp hp).2.2 q hqP y am)⟩
  ·have ho:over x=false:=by
    cases h:over x with
    | false=>rfl
    | true=>exact(hd (by simp[dead,h])).elim
   by_cases hs:sought x=true
   ·have eb:bf same over sought R L (x::Q)=.inr (R,x):=by simp only[bf,ax hd,a0 hs]
    rw[eb]
    exact⟨P,Q,L,rfl,I,ho,hs⟩
   ·have eb:bf same over sought R L (x::Q)=bf same over sought (R++[x]) (L++[x]) Q:=by simp only[bf,ax hd,ax hs]
    rw[eb]
    have:=v6 H h0 Q (P++[x]) (R++[x]) (L++[x]) (e1▸hp) (e1▸hl) ⟨by rw[I.e];simp,I.sb.append (List.Sublist.refl _),?_,?_⟩
    ·rw[e1];exact this
    ·intro y hy
     rcases bq.mp hy with hy | hy
     ·exact I.ns y hy
     ·rw[aw] at hy
      subst hy
      exact⟨ho,by simpa using hs⟩
    ·intro y hy W9
     rcases bq.mp hy with hy | hy
     ·obtain⟨q,hq,h1,h2⟩:=I.cv y hy W9
      exact⟨q,bn _ hq,h1,h2⟩
     ·rw[aw] at hy
      subst hy
      exact⟨y,by simp,H.rf y,.inr ⟨rfl,.inl rfl⟩⟩
theorem Bi {x:Row}{k:Nat}:C4 (x++[k])↔C4 x/\k < 4:=by
 unfold C4
 constructor
 ·intro h;exact⟨λj hj=>h j (by simp[hj]),h k (by simp)⟩
 ·rintro ⟨h1,h2⟩ j hj
  rcases bq.mp hj with h | h
  ·exact h1 j h
  ·rw[aw] at h;omega
theorem nR {x:Row}{d:Nat}(h:x.length=d+1):∃y k,x=y++[k]/\y.length=d:=by
 have AU:x≠[]:=by intro e;subst e;simp at h
 exact⟨x.dropLast,x.getLast AU,(gx AU).symm,by rw[List.length_dropLast];omega⟩
theorem zX (H:BH same over sought){d:Nat}{R:List Row}(I:LI same over sought d R L){y:Row}{t:Nat}(h4:C4 (y++[t]))(ho:over (y++[t])=false)(hl:y.length=d):
  (∃q∈R,same q (y++[t])=true/\q.length<=d)\/∃q∈L,same (q++[t]) (y++[t])=true/\(q=y\/lx q y)/\q.length=d:=by
 have c:=Bi.mp h4
 have hy:over y=false:=by
  cases e:over y with
  | false=>rfl
  | true=>rw[H.oo y t c.2 e] at ho;cases ho
 obtain⟨q,hq,hs,hle⟩:=I.cv y c.1 hy (by omega)
 have hk:=H.kd q y t c.2 hs
 rcases hle with A6 | ⟨hle,VG⟩
 ·have hr:=I.hR q hq
  obtain⟨q',LN,DU,hle'⟩:=I.cv (q++[t]) (Bi.mpr ⟨hr.1,c.2⟩) (by rw[H.ov _ _ hk];exact ho) (by simp;omega)
  exact .inl ⟨q',LN,H.tr _ _ _ DU hk,(I.hR q' LN).2.1⟩
 ·exact .inr ⟨q,(I.hR q hq).2.2.2.2 (by omega),hk,VG,by omega⟩
theorem Cm {q:Row}{t:Nat}(h:q∈L)(ht:t < 4):q++[t]∈L.flatMap kids:=d3.mpr ⟨q,h,C6.mpr ⟨t,ht,rfl⟩⟩
theorem v7 {d:Nat}(h:∀x∈L,x.length=d):∀x∈L.flatMap kids,x.length=d+1:=by
 intro x hx
 obtain⟨y,hy,hx⟩:=d3.mp hx
 obtain⟨k,_,rfl⟩:=C6.mp hx
 simp[h y hy]
theorem G9 (h:∀x∈L,C4 x):∀x∈L.flatMap kids,C4 x:=by
 intro x hx
 obtain⟨y,hy,hx⟩:=d3.mp hx
 obtain⟨k,hk,rfl⟩:=C6.mp hx
 exact Bi.mpr ⟨h y hy,hk⟩
theorem LI.next (H:BH same over sought){d:Nat}{R R' L':List Row}(I:LI same over sought d R L)(M:MI same over sought d R (L.flatMap kids) R' L'):LI same over sought (d+1) R' L':=by
 have hlen:=v7 λx hx=>(I.hL x hx).1
 have ZR:=G9 λx hx=>(I.hR x (I.hL x hx).2).1
 have MH:=M.sb.subset
 have cv:∀y,C4 y->over y=false->y.length<=d+1->∃q∈R',same q y=true/\sle q y:=by
  intro y h4 ho hl
  by_cases hd:y.length<=d
  ·obtain⟨q,hq,h⟩:=I.cv y h4 ho hd
   exact⟨q,by rw[M.e];exact bn _ hq,h⟩
  ·obtain⟨z,t,rfl,hz⟩:=nR (x:=y) (d:=d) (by omega)
   have c:=Bi.mp h4
   rcases zX H I h4 ho hz with ⟨q,hq,hs,Pf⟩ | ⟨q,hq,hs,VG,Pf⟩
   ·exact⟨q,by rw[M.e];exact bn _ hq,hs,.inl (by simp;omega)⟩
   ·obtain⟨p,hp,OG,K2⟩:=M.cv _ (Cm hq c.2) (by rw[H.ov _ _ hs];exact ho)
    refine⟨p,hp,H.tr _ _ _ OG hs,?_⟩
    have hle:q++[t]=z++[t]\/lx (q++[t]) (z++[t]):=by
     rcases VG with rfl | h
     ·exact .inl rfl
     ·exact .inr ((nQ (by omega)).mpr (.inl h))
    rcases K2 with h | ⟨h1,h2⟩
    ·exact .inl (by simp at h ⊢;omega)
    ·refine .inr ⟨by simp at h1 ⊢;omega,?_⟩
     rcases h2 with h2 | h2 <;> rcases hle with h3 | h3
     ·exact .inl (h2.trans h3)
     ·exact .inr (h2▸h3)
     ·exact .inr (h3▸h2)
     ·exact .inr (o_ h2 h3)
 refine⟨(jE I.so λx hx=>(I.hL x hx).1).sublist M.sb,λx hx=>⟨hlen x (MH hx),by rw[M.e];exact bS _ hx⟩,?_,cv⟩
 intro x hx
 rw[M.e] at hx
 rcases bq.mp hx with hx | hx
 ·obtain⟨a,b,c,d',e⟩:=I.hR x hx
  exact⟨a,by omega,c,d',λz=>by omega⟩
 ·have:=M.ns x hx
  exact⟨ZR x (MH hx),by rw[hlen x (MH hx)];omega,this.1,this.2,λ_=>hx⟩
def Found (over sought:Row->Bool)(x:Row):Prop:=x≠[]/\C4 x/\over x=false/\sought x=true/\∀y,C4 y->over y=false->sought y=true->¬ (y.length < x.length\/(y.length=x.length/\lx y x))
theorem LI.found (H:BH same over sought){d:Nat}{R P Q R' L':List Row}{x:Row}(I:LI same over sought d R L)(e:L.flatMap kids=P++x::Q)(M:MI same over sought d R P R' L')(ho:over x=false)(hs:sought x=true):Found over sought x:=by
 have hlen:=v7 λx hx=>(I.hL x hx).1
 have ZR:=G9 λx hx=>(I.hR x (I.hL x hx).2).1
 have hx:x∈L.flatMap kids:=by rw[e];simp
 have hxl:=hlen x hx
 have Yk:=jE I.so λx hx=>(I.hL x hx).1
 rw[e] at Yk
 refine⟨λz=>by rw[z] at hxl;simp at hxl,ZR x hx,ho,hs,?_⟩
 intro y h4 W9 hsy A6
 have no:∀q∈R',same q y=true->False:=by
  intro q hq S0
  have T1:sought q=false:=by
   rw[M.e] at hq
   rcases bq.mp hq with hq | hq
   ·exact(I.hR q hq).2.2.2.1
   ·exact(M.ns q hq).2
  rw[H.so _ _ S0,hsy] at T1
  cases T1
 by_cases hd:y.length<=d
 ·obtain⟨q,hq,S0,_⟩:=I.cv y h4 W9 hd
  exact no q (by rw[M.e];exact bn _ hq) S0
 ·have hyl:y.length=d+1:=by omega
  have VG:lx y x:=by
   rcases A6 with h | h
   ·omega
   ·exact h.2
  obtain⟨z,t,rfl,hz⟩:=nR hyl
  have c:=Bi.mp h4
  rcases zX H I h4 W9 hz with ⟨q,hq,S0,_⟩ | ⟨q,hq,S0,hq3,Pf⟩
  ·exact no q (by rw[M.e];exact bn _ hq) S0
  ·have Vd:lx (q++[t]) x:=by
    rcases hq3 with rfl | h
    ·exact VG
    ·exact o_ ((nQ (by omega)).mpr (.inl h)) VG
   have hm:=Cm hq c.2
   rw[e] at hm
   have hmP:q++[t]∈P:=by
    rcases bq.mp hm with h | h
    ·exact h
    ·rcases bm.mp h with h | h
     ·rw[h] at Vd;exact(uY Vd).elim
     ·have:=(List.pairwise_cons.mp (lS.mp Yk).2.1).1 _ h
      exact(uY (o_ this Vd)).elim
   obtain⟨p,hp,OG,_⟩:=M.cv _ hmP (by rw[H.ov _ _ S0];exact W9)
   exact no p hp (H.tr _ _ _ OG S0)
theorem zY (H:BH same over sought):∀(f d:Nat) (R L:List Row),LI same over sought d R L->d<=10->12<=d+f->
  (VF same over sought f R L=some none/\∀y,C4 y->over y=false->sought y=false)\/∃x,VF same over sought f R L=some (some x)/\Found over sought x
 | 0,d,R,L,_,_,h=>by omega
 | f+1,d,R,[],I,h10,hf=>by
  refine .inl ⟨rfl,?_⟩
  have key:∀(n:Nat) (y:Row),y.length=n->C4 y->over y=false->∃q∈R,same q y=true:=by
   intro n
   induction n with
   | zero=>intro y hl h4 ho;obtain⟨q,hq,hs,_⟩:=I.cv y h4 ho (by omega);exact⟨q,hq,hs⟩
   | succ n ih=>
    intro y hl h4 ho
    by_cases hd:y.length<=d
    ·obtain⟨q,hq,hs,_⟩:=I.cv y h4 ho hd;exact⟨q,hq,hs⟩
    ·obtain⟨z,t,rfl,hz⟩:=nR hl
     have c:=Bi.mp h4
     have hoz:over z=false:=by
      cases e:over z with
      | false=>rfl
      | true=>rw[H.oo z t c.2 e] at ho;cases ho
     obtain⟨q,hq,hs⟩:=ih z hz c.1 hoz
     have hk:=H.kd q z t c.2 hs
     have hr:=I.hR q hq
     have hql:q.length < d:=by
      rcases gL q.length d with h | h
      ·exact h
      ·have:=hr.2.2.2.2 (by omega);cases this
     obtain⟨q',LN,DU,_⟩:=I.cv (q++[t]) (Bi.mpr ⟨hr.1,c.2⟩) (by rw[H.ov _ _ hk];exact ho) (by simp;omega)
     exact⟨q',LN,H.tr _ _ _ DU hk⟩
  intro y h4 ho
  obtain⟨q,hq,hs⟩:=key y.length y rfl h4 ho
  rw[← H.so _ _ hs]
  exact(I.hR q hq).2.2.2.1
 | f+1,d,R,n::ns,I,h10,hf=>by
  have hlen:=v7 λx hx=>(I.hL x hx).1
  have sp:=v6 H (R0:=R) (d:=d) (λx hx=>(I.hR x hx).2.1) ((n::ns).flatMap kids) [] R [] (by rw[ii];exact jE I.so λx hx=>(I.hL x hx).1) (by rw[ii];exact hlen) ⟨by simp,by simp,(λx hx=>by cases hx),(λx hx=>by cases hx)⟩
  rw[ii] at sp
  have hd9:d<=9:=by
   have h1:=I.hL n am
   have h2:=(I.hR n h1.2).2.2.1
   rcases gL 9 d with h | h
   ·rw[H.z9 n (by omega)] at h2;cases h2
   ·omega
  unfold VF
  split at sp
  ·rename_i o ho
   exact zY H f (d+1) o.1 o.2 (I.next H sp) (by omega) (by omega)
  ·rename_i o ho
   obtain⟨P,Q,L',e,M,h1,h2⟩:=sp
   exact .inr ⟨o.2,rfl,I.found H e M h1 h2⟩
theorem LI.start (H:BH same over sought):LI same over sought 0 [[]] [[]]:=by
 refine⟨by simp,λx hx=>?_,λx hx=>?_,λy _ _ hl=>⟨[],by simp,?_⟩⟩
 ·rw[aw] at hx;subst hx;simp
 ·rw[aw] at hx;subst hx;exact⟨(λk hk=>by cases hk),by simp,H.o0,H.s0,λ_=>by simp⟩
 ·have:y=[]:=gs.mp (by omega)
  subst this
  exact⟨H.rf [],.inr ⟨rfl,.inl rfl⟩⟩
end
abbrev Pl:=List ((Int×Str)×Int)
noncomputable def ET (p:Pl):PV:=.tup (p.map JE)
noncomputable def Yl (x:(Int×Str)×Int):zD:=.tp [.tp [.k (.inl x.1.1),.k (.inr x.1.2)],.k (.inl x.2)]
noncomputable def JU (p:Pl):List zD:=p.map Yl
theorem zZ (f:PV->Option zD)(hf:∀x,f (JE x)=some (Yl x)):∀p:Pl,qd f (p.map JE)=some (JU p)
 | []=>rfl
 | i::n=>by
  show (f (JE i)).bind _=_
  rw[hf,ay,zZ f hf n]
  rfl
theorem tQ (p:Pl):AD (p.map JE)=some (JU p):=by
 unfold AD ig
 split
 ·rename_i e
  match p,e with
  | [],e=>cases e
  | [_],e=>cases e
  | _::_::_,e=>injection e with e1 _;cases e1
 ·exact zZ _ (λi=>rfl) p
variable {y:(Int×Str)×Int}
theorem MK {x:(Int×Str)×Int}(h:Yl x=Yl y):x=y:=by
 have h1:=zD.EC h
 injection h1 with a b
 have a1:=zD.EC a
 injection a1 with c d
 injection c with c;injection c with c
 injection d with d _;injection d with d;injection d with d
 injection b with b _;injection b with b;injection b with b
 obtain⟨⟨i,s⟩,n⟩:=x
 obtain⟨⟨j,t⟩,m⟩:=y
 simp only at c d b
 subst c d b
 rfl
theorem v8 {p q:Pl}(h:JU p=JU q):p=q:=by
 unfold JU at h
 induction p generalizing q with
 | nil=>cases q with
  | nil=>rfl
  | cons=>cases h
 | cons x p ih=>cases q with
  | nil=>cases h
  | cons y q=>
   rw[ap,ap] at h
   injection h with h1 h2
   rw[MK h1,ih h2]
theorem MN {p q:Pl}(h:ET p=ET q):p=q:=by
 injection h with h
 have e:=dP AD h
 rw[tQ,tQ] at e
 exact v8 (be e)
section
variable {κ:Type}[DecidableEq κ]
theorem uZ {kvs:List (κ×PV)}{k:κ}(h:aJ kvs k=none):(kvs.any λkv=>decide (kv.1=k))=false:=by
 unfold aJ at h
 rw[gS,dE] at h
 rw[nn]
 exact h
theorem jt {kvs:List (κ×PV)}{k:κ}(h:aJ kvs k=none)(v:PV):bD kvs k v=kvs++[(k,v)]:=by
 unfold bD
 rw[uZ h]
 rfl
theorem xG (kvs:List (κ×PV))(k:κ)(v:PV)(k':κ):aJ (kvs++[(k,v)]) k'=(aJ kvs k').or (if k=k' then some v else none):=by
 unfold aJ
 rw[nK]
 cases h:kvs.find? λx=>decide (x.1=k') with
 | some y=>simp
 | none=>
  by_cases e:k=k'
  ·simp[e]
  ·simp[e]
end
theorem rC {ps qs:List Pl}{p:Pl}(h:p∈ps):(ps++qs).idxOf p=ps.idxOf p:=by
 rw[List.idxOf_append,a0 h]
theorem rE {ps:List Pl}{p:Pl}(h:p∈ps):ps[ps.idxOf p]?=some p:=by
 have hl:=List.idxOf_lt_length_iff.mpr h
 rw[ai hl,List.getElem_idxOf]
structure Wd (pb:List PV->Option PV)(cn:Nat)(S:List PV)(B4:List (List zD×PV))(most:Int)(pl:Row->Pl):Prop where
 st:∀(w:WS) (n:Nat) (r:Row) (k:Nat) (s:PV),w.B4=B4->w.most=most->w.CB[n]?=some (ET (pl r))->S[k]?=some s->pb [w.pv cn,.int n,s]=some (ET (pl (r++[k])))
 z9:∀r,9 < r.length->pl r=[]
 S4:S.length=4
variable {B4:List (List zD×PV)}{most:Int}
theorem Wd.kd {pb:List PV->Option PV}{cn:Nat}{S:List PV}{pl:Row->Pl}(D:Wd pb cn S B4 most pl){x y:Row}{k:Nat}(hk:k < 4)(h:pl x=pl y):pl (x++[k])=pl (y++[k]):=by
 obtain⟨s,hs⟩:∃s,S[k]?=some s:=⟨_,ai (by rw[D.S4];exact hk)⟩
 have a:=D.st { B4:=B4,most:=most,fin:=.Au,CB:=[ET (pl x)],nums:=[],D8:=[] } 0 x k _ rfl rfl rfl hs
 have b:=D.st { B4:=B4,most:=most,fin:=.Au,CB:=[ET (pl x)],nums:=[],D8:=[] } 0 y k _ rfl rfl (by rw[h];rfl) hs
 rw[a] at b
 exact MN (be b)
noncomputable def allR:Nat->List Row
 | 0=>[[]]
 | n+1=>[]::(List.range 4).flatMap λk=>(allR n).map λr=>k::r
theorem tR:∀{n:Nat}{r:Row},C4 r->r.length<=n->r∈allR n
 | 0,r,_,h=>by
  have:r=[]:=gs.mp (by omega)
  simp[allR,this]
 | n+1,[],_,_=>by simp[allR]
 | n+1,k::r,h,hl=>by
  unfold allR
  refine af _ (d3.mpr ⟨k,b0.mpr (h k am),bP.mpr ⟨r,?_,rfl⟩⟩)
  exact tR (λj hj=>h j (af _ hj)) (by simp at hl;omega)
theorem fj:∀n:Nat,(allR (n+1)).length=1+4*(allR n).length:=by
 intro n
 rw[allR,bv]
 show (([0,1,2,3]:qc).flatMap λk=>(allR n).map λr=>k::r).length+1=_
 simp[gt]
 omega
theorem z_:(allR 9).length=349525:=by
 rw[fj,fj,fj,fj,fj,fj,fj,fj,fj]
 rfl
structure WI (B4:List (List zD×PV))(most:Int)(fin:PV)(pl:Row->Pl)(w:WS)(ps:List Pl):Prop where
 ah:w.B4=B4
 mo:w.most=most
 fi:w.fin=fin
 pe:w.CB=ps.map ET
 nd:ps.Nodup
 rw:∀p∈ps,∃r,C4 r/\p=pl r
 nu:∀p,aJ w.nums (JU p)=if p∈ps then some (.int (ps.idxOf p:Nat)) else none
 nl:w.nums.length=ps.length
 on:∀(n:Nat) l,aJ w.D8 (.inl (n:Int))=some l->∃r,ps[n]?=some (pl r)/\(∀k,k < 4->pl (r++[k])∈ps)/\l=.lst ((List.range 4).map λk=>.int (ps.idxOf (pl (r++[k])):Nat))
 ok:∃ks:List Nat,w.D8.map (·.1)=ks.map (λk=>.inl (k:Int))/\ks.Nodup/\∀k∈ks,k < ps.length
variable {r:Row}
section
variable {pb:List PV->Option PV}{cn:Nat}{S:List PV}{B4:List (List zD×PV)}{most:Int}{fin:PV}{pl:Row->Pl}{w:WS}{ps:List Pl}
theorem WI.TL (D:Wd pb cn S B4 most pl)(I:WI B4 most fin pl w ps):ps.length<=349526:=by
 have h:ps ⊆ (allR 9).map pl++[[]]:=by
  intro p hp
  obtain⟨r,h4,rfl⟩:=I.rw p hp
  by_cases hr:r.length<=9
  ·exact bn _ (bP.mpr ⟨r,tR h4 hr,rfl⟩)
  ·rw[D.z9 r (by omega)];simp
 have:=I.nd.length_le_of_subset h
 rw[bp,ba,z_] at this
 exact this
theorem WI.ZS (I:WI B4 most fin pl w ps):w.D8.length<=ps.length:=by
 obtain⟨ks,h1,h2,h3⟩:=I.ok
 have e:=dP List.length h1
 rw[ba,ba] at e
 have h:ks ⊆ List.range ps.length:=λk hk=>b0.mpr (h3 k hk)
 have:=h2.length_le_of_subset h
 rw[fb] at this
 omega
theorem WI.nop (D:Wd pb cn S B4 most pl)(I:WI B4 most fin pl w ps)(h4:C4 r):
  ∃w' qs,tE w (ET (pl r))=some ((((ps++qs).idxOf (pl r):Nat):Int),w')/\WI B4 most fin pl w' (ps++qs)/\pl r∈ps++qs/\w'.D8=w.D8:=by
 have hk:=tQ (pl r)
 have hn:=I.nu (pl r)
 by_cases hm:pl r∈ps
 ·rw[a0 hm] at hn
  refine⟨w,[],?_,by rw[br];exact I,by simpa using hm,rfl⟩
  unfold tE ET
  simp only[hk,ay,hn,br]
 ·rw[ax hm] at hn
  have hf:=I.TL D
  have hl:w.CB.length=ps.length:=by rw[I.pe,ba]
  have hi:(ps++[pl r]).idxOf (pl r)=ps.length:=by
   rw[List.idxOf_append,ax hm]
   simp
  refine⟨{ w with nums:=bD w.nums (JU (pl r)) (.int (w.CB.length:Nat)),CB:=w.CB++[ET (pl r)] },[pl r],?_,?_,by simp,rfl⟩
  ·unfold tE ET
   simp only[hk,ay,hn]
   rw[a0 ⟨by omega,by rw[I.nl];omega⟩,hi,hl]
  ·refine⟨I.ah,I.mo,I.fi,by show w.CB++[ET (pl r)]=_;rw[I.pe];simp,?_,?_,?_,?_,?_,?_⟩
   ·rw[gl]
    exact⟨I.nd,by simp,λa ha b hb e=>by rw[aw] at hb;subst hb e;exact hm ha⟩
   ·intro p hp
    rcases bq.mp hp with hp | hp
    ·exact I.rw p hp
    ·rw[aw] at hp;exact⟨r,h4,hp⟩
   ·intro p
    show aJ (bD w.nums (JU (pl r)) _) (JU p)=_
    rw[jt hn,xG,I.nu p]
    by_cases hp:p∈ps
    ·rw[a0 hp,a0 (bn _ hp),rC hp];rfl
    ·rw[ax hp]
     by_cases e:pl r=p
     ·subst e
      rw[a0 rfl,a0 (by simp),hi,hl];rfl
     ·rw[ax (λz=>e (v8 z)),ax]
      ·rfl
      ·intro z
       rcases bq.mp z with z | z
       ·exact hp z
       ·rw[aw] at z;exact e z.symm
   ·show (bD w.nums (JU (pl r)) _).length=_
    rw[jt hn,bp,bp,I.nl];rfl
   ·intro n l h
    obtain⟨r',h1,h2,h3⟩:=I.on n l h
    refine⟨r',?_,λk hk=>bn _ (h2 k hk),?_⟩
    ·rw[dQ (ag.mp h1).1];exact h1
    ·rw[h3]
     congr 1
     refine bE λk hk=>?_
     rw[rC (h2 k (b0.mp hk))]
   ·obtain⟨ks,h1,h2,h3⟩:=I.ok
    exact⟨ks,h1,h2,λk hk=>by have:=h3 k hk;simp;omega⟩
theorem WI.GS (D:Wd pb cn S B4 most pl){r:Row}(h4:C4 r){n:Nat}:∀(T:List PV) (k:Nat) (w:WS) (ps:List Pl),T=S.drop k->k+T.length=4->WI B4 most fin pl w ps->ps[n]?=some (pl r)->
  ∃w' qs,GS pb cn (n:Int) T w=some ((List.range' k T.length).map λj=>.int ((ps++qs).idxOf (pl (r++[j])):Nat),w')/\WI B4 most fin pl w' (ps++qs)/\(∀j,k<=j->j < 4->pl (r++[j])∈ps++qs)/\w'.D8=w.D8
 | [],k,w,ps,_,hk,I,hn=>⟨w,[],by simp[MR.GS],by simpa using I,λj h1 h2=>by simp at hk;omega,rfl⟩
 | s::T,k,w,ps,hT,hk,I,hn=>by
  have hs:S[k]?=some s:=by
   have:=dP (λl:List PV=>l[0]?) hT
   simp at this
   exact this.symm
  have hp:w.CB[n]?=some (ET (pl r)):=by rw[I.pe,cm,hn];rfl
  have ZT:k < 4:=by simp at hk;omega
  have e1:=D.st w n r k s I.ah I.mo hp hs
  obtain⟨w1,qs,e2,I1,m1,o1⟩:=I.nop D (r:=r++[k]) (Bi.mpr ⟨h4,ZT⟩)
  have hT':T=S.drop (k+1):=by
   rw[← pp,← hT];rfl
  obtain⟨w2,qs2,e3,I2,m2,o2⟩:=WI.GS D h4 (n:=n) T (k+1) w1 (ps++qs) hT' (by simp at hk;omega) I1 (by
   rw[dQ (ag.mp hn).1];exact hn)
  refine⟨w2,qs++qs2,?_,by rw[← eM];exact I2,?_,o2.trans o1⟩
  ·unfold MR.GS
   rw[e1]
   simp only[ay,e2,e3,bv,ox,ap,← eM]
   rw[rC m1]
  ·intro j h1 h2
   rw[← eM]
   by_cases e:j=k
   ·subst e;exact bn _ m1
   ·exact m2 j (by omega) h2
theorem WI.lat (D:Wd pb cn S B4 most pl)(I:WI B4 most fin pl w ps)(h4:C4 r)(hr:pl r∈ps):
  ∃w' qs,tG pb cn S w (ps.idxOf (pl r):Nat)=some (.lst ((List.range 4).map λj=>.int ((ps++qs).idxOf (pl (r++[j])):Nat)),w')/\WI B4 most fin pl w' (ps++qs)/\∀j,j < 4->pl (r++[j])∈ps++qs:=by
 have hn:=rE hr
 generalize hN:ps.idxOf (pl r)=n at hn
 unfold tG
 cases ho:aJ w.D8 (.inl (n:Int)) with
 | some l=>
  obtain⟨r',h1,h2,h3⟩:=I.on n l ho
  have e:pl r'=pl r:=by rw[hn] at h1;exact(be h1).symm
  refine⟨w,[],?_,by simpa using I,λj hj=>?_⟩
  ·simp only[h3,br]
   congr 3
   refine bE λk hk=>?_
   rw[D.kd (b0.mp hk) e]
  ·rw[br,← D.kd hj e];exact h2 j hj
 | none=>
  obtain⟨w1,qs,e1,I1,m1,o1⟩:=WI.GS D h4 (n:=n) S 0 w ps (by simp) (by rw[D.S4]) I hn
  have hf:=I1.TL D
  have X4:=I1.ZS
  rw[D.S4,← lI] at e1
  have Vv:aJ w1.D8 (.inl (n:Int))=none:=by rw[o1];exact ho
  refine⟨{ w1 with D8:=bD w1.D8 (.inl (n:Int)) (.lst ((List.range 4).map λj=>.int ((ps++qs).idxOf (pl (r++[j])):Nat))) },qs,?_,?_,λj hj=>m1 j (by omega) hj⟩
  ·simp only[e1,ay]
   rw[a0 ⟨by omega,by simp⟩]
  ·have hnl:n < ps.length:=(ag.mp hn).1
   refine⟨I1.ah,I1.mo,I1.fi,I1.pe,I1.nd,I1.rw,I1.nu,I1.nl,?_,?_⟩
   ·intro n' l h
    have h:aJ (bD w1.D8 (.inl (n:Int)) _) (.inl (n':Int))=some l:=h
    rw[jt Vv,xG] at h
    cases h1:aJ w1.D8 (.inl (n':Int)) with
    | some l'=>rw[h1] at h;cases h;exact I1.on n' _ h1
    | none=>
     rw[h1] at h
     by_cases e:(Sum.inl (n:Int):Key)=.inl (n':Int)
     ·rw[a0 e] at h
      cases h
      injection e with e
      have e:n=n':=by omega
      subst e
      exact⟨r,by rw[dQ hnl];exact hn,λk hk=>m1 k (by omega) hk,rfl⟩
     ·rw[ax e] at h;cases h
   ·obtain⟨ks,h1,h2,h3⟩:=I1.ok
    refine⟨ks++[n],?_,?_,?_⟩
    ·show (bD w1.D8 (.inl (n:Int)) _).map (·.1)=_
     rw[jt Vv,cf,h1];simp
    ·rw[gl]
     refine⟨h2,by simp,λa ha b hb e=>?_⟩
     rw[aw] at hb
     subst hb e
     have:(.inl (a:Int):Key)∈w1.D8.map (·.1):=by rw[h1];exact bP.mpr ⟨a,ha,rfl⟩
     obtain⟨y,hy,ey⟩:=bP.mp this
     have:=uZ Vv
     rw[nn] at this
     exact this y hy (by simpa using ey)
    ·intro k hk
     rcases bq.mp hk with hk | hk
     ·exact h3 k hk
     ·rw[aw] at hk;subst hk;simp;omega
end
inductive Chain (W:List (List zD×PV)):List Int->List PV->Prop
 | nil {n:qq}:aJ W (bu n)=some .Au->Chain W n []
 | snoc {n n':qq}{s:PV}{ss:List PV}:aJ W (bu n')=some (.tup [A9 n,s])->Chain W n ss->Chain W n' (ss++[s])
structure BG (pb:List PV->Option PV)(cn:Nat)(S:List PV)(io so ro:List PV->Option PV){T:Type}(le:T->T->Prop)(DO:T->List WS->Prop)(nd:T->Row->List Int)(has:T->Row->Prop)(same:Row->Row->Bool)(over sought:Row->Bool):Prop where
 S4:S.length=4
 mono:∀t t' r,le t t'->has t r->has t' r/\nd t' r=nd t r
 inj:∀t r r',has t r->has t r'->(nd t r=nd t r'↔same r r'=true)
 nb:∀t ws r,DO t ws->has t r->C4 r->∃t' EN,le t t'/\DO t' EN/\Vy pb cn S ws (nd t r)=some ((List.range 4).map λk=>nd t' (r++[k]),EN)/\∀k,k < 4->has t' (r++[k])
 io:∀t ws r,DO t ws->has t r->∃w0 wr n nr,ws=w0::wr/\nd t r=n::nr/\io [w0.pv cn,.int n]=some (.bl (over r))
 so:∀t ws r,DO t ws->has t r->so [.lst (ws.map λw=>w.pv cn),A9 (nd t r)]=some (.bl (sought r))
 ro:∀W n ss,Chain W n ss->ss.length<=9->ro [.dT W,A9 n]=some (.lst ss)
 z9:∀x,9 < x.length->over x=true
theorem JT {a b:qq}(h:bu a=bu b):a=b:=by
 unfold bu at h
 induction a generalizing b with
 | nil=>cases b with
  | nil=>rfl
  | cons=>cases h
 | cons x a ih=>cases b with
  | nil=>cases h
  | cons y b=>
   rw[ap,ap] at h
   injection h with h1 h2
   injection h1 with h1
   injection h1 with h1
   rw[h1,ih h2]
section
variable {pb:List PV->Option PV}{cn:Nat}{S:List PV}{io so ro:List PV->Option PV}{T:Type}{le:T->T->Prop}{DO:T->List WS->Prop}{nd:T->Row->List Int}{has:T->Row->Prop}{same:Row->Row->Bool}{over sought:Row->Bool}
noncomputable def cd (S:List PV)(k:Nat):PV:=S.getD k .Au
noncomputable def ent (S:List PV)(nd:T->Row->List Int)(t:T)(r:Row):List zD×PV:=(bu (nd t r),match r.getLast? with
 | none=>.Au
 | some k=>.tup [A9 (nd t r.dropLast),cd S k])
structure IH (S:List PV)(DO:T->List WS->Prop)(nd:T->Row->List Int)(has:T->Row->Prop)(same:Row->Row->Bool)(t:T)(R L:List Row)(st:FS):Prop where
 ws:DO t st.ws
 hs:∀r∈R,has t r/\C4 r/\r.length<=9
 cl:∀r k,r++[k]∈R->r∈R
 ij:∀r∈R,∀q∈R,same r q=true->r=q
 nu:R.Nodup
 wy:st.AO=R.map (ent S nd t)
 la:st.later=L.map (nd t)
 ll:L.length<=R.length
variable {t:T}{R L:List Row}{st:FS}
theorem IH.TL (I:IH S DO nd has same t R L st):R.length<=349525:=by
 have:=I.nu.length_le_of_subset (λr hr=>tR (n:=9) (I.hs r hr).2.1 (I.hs r hr).2.2)
 rw[z_] at this
 exact this
theorem JV (B:BG pb cn S io so ro le DO nd has same over sought){t':T}(hle:le t t'){R:List Row}(hs:∀r∈R,has t r)(cl:∀r k,r++[k]∈R->r∈R):R.map (ent S nd t')=R.map (ent S nd t):=by
 refine bE λr hr=>?_
 have h1:=(B.mono t t' r hle (hs r hr)).2
 unfold ent
 rw[h1]
 congr 1
 cases e:r.getLast? with
 | none=>rfl
 | some k=>
  have AU:r≠[]:=by intro z;rw[z] at e;cases e
  have e2:r=r.dropLast++[r.getLast AU]:=(gx AU).symm
  have h2:=(B.mono t t' _ hle (hs _ (cl r.dropLast (r.getLast AU) (by rw[← e2];exact hr)))).2
  dsimp only
  rw[h2]
theorem IH.up (B:BG pb cn S io so ro le DO nd has same over sought)(I:IH S DO nd has same t R L st){t':T}{EN:List WS}(hle:le t t')(hw:DO t' EN)(hL:L ⊆ R):IH S DO nd has same t' R L { st with ws:=EN }:=by
 refine⟨hw,λr hr=>⟨(B.mono t t' r hle (I.hs r hr).1).1,(I.hs r hr).2⟩,I.cl,I.ij,I.nu,?_,?_,I.ll⟩
 ·show st.AO=_
  rw[JV B hle (λr hr=>(I.hs r hr).1) I.cl];exact I.wy
 ·show st.later=_
  rw[I.la]
  exact bE λr hr=>(B.mono t t' r hle (I.hs r (hL hr)).1).2.symm
theorem tU (B:BG pb cn S io so ro le DO nd has same over sought)(hs:∀r∈R,has t r)(x:Row)(hx:has t x):aJ (R.map (ent S nd t)) (bu (nd t x))=(R.find? λq=>same q x).map λq=>(ent S nd t q).2:=by
 unfold aJ
 rw[kR,kT]
 have:∀l:List Row,(∀r∈l,has t r)->(l.find? ((λy:List zD×PV=>decide (y.1=bu (nd t x)))∘ent S nd t))=l.find? λq=>same q x:=by
  intro l
  induction l with
  | nil=>intro _;rfl
  | cons r l ih=>
   intro h
   have e:decide ((ent S nd t r).1=bu (nd t x))=same r x:=by
    have h1:=B.inj t r x (h r am) hx
    show decide (bu (nd t r)=bu (nd t x))=_
    cases hq:same r x with
    | true=>rw[h1.mpr hq];simp
    | false=>
     rw[oz]
     intro z
     rw[h1.mp (JT z)] at hq
     cases hq
   rw[eD,eD]
   show (match decide ((ent S nd t r).1=bu (nd t x)) with | true=>_ | false=>_)=_
   rw[e,ih λr hr=>h r (af _ hr)]
   cases same r x <;> rfl
 rw[this R hs]
 rfl
theorem IH.chain (B:BG pb cn S io so ro le DO nd has same over sought)(rf:∀x,same x x=true)(I:IH S DO nd has same t R L st):∀(n:Nat) (r:Row),r.length=n->r∈R->Chain st.AO (nd t r) (r.map (cd S)):=by
 have lk:∀r∈R,aJ st.AO (bu (nd t r))=some (ent S nd t r).2:=by
  intro r hr
  rw[I.wy,tU B (λr hr=>(I.hs r hr).1) r (I.hs r hr).1]
  cases h:R.find? λq=>same q r with
  | none=>exact absurd (rf r) (by simpa using dE.mp h r hr)
  | some q=>
   have h1:=l8 h
   have h2:=I.ij q (js h) r hr h1
   rw[h2];rfl
 intro n
 induction n with
 | zero=>
  intro r hl hr
  have:r=[]:=gs.mp hl
  subst this
  exact .nil (lk [] hr)
 | succ n ih=>
  intro r hl hr
  obtain⟨y,k,rfl,hy⟩:=nR hl
  rw[cf]
  refine .snoc ?_ (ih y hy (I.cl y k hr))
  rw[lk _ hr]
  simp[ent]
theorem IH.put (B:BG pb cn S io so ro le DO nd has same over sought)(sy:∀x y,same x y=true->same y x=true)(I:IH S DO nd has same t R L st){k:Nat}(hr:r∈R)(hk:k < 4)(hh:has t (r++[k]))(ho:over (r++[k])=false)(hn:(R.any λq=>same q (r++[k]))=false)(v:Bool):
  IH S DO nd has same t (R++[r++[k]]) (L++[r++[k]]) { st with AO:=bD st.AO (bu (nd t (r++[k]))) (.tup [A9 (nd t r),cd S k]),later:=st.later++[nd t (r++[k])] }:=by
 have OA:∀q∈R,¬ same q (r++[k])=true:=by simpa using hn
 have hl9:(r++[k]).length<=9:=by
  rcases gL 9 (r++[k]).length with h | h
  ·rw[B.z9 _ h] at ho;cases ho
  ·exact h
 have VH:aJ st.AO (bu (nd t (r++[k])))=none:=by
  rw[I.wy,tU B (λr hr=>(I.hs r hr).1) _ hh,gS,dE]
  exact OA
 refine⟨I.ws,?_,?_,?_,?_,?_,?_,by simp;exact I.ll⟩
 ·intro q hq
  rcases bq.mp hq with hq | hq
  ·exact I.hs q hq
  ·rw[aw] at hq;subst hq
   exact⟨hh,Bi.mpr ⟨(I.hs r hr).2.1,hk⟩,hl9⟩
 ·intro q j hq
  rcases bq.mp hq with hq | hq
  ·exact bn _ (I.cl q j hq)
  ·rw[aw] at hq
   have:=(List.append_inj' hq rfl).1
   rw[this];exact bn _ hr
 ·intro a ha b hb hs
  rcases bq.mp ha with ha | ha <;> rcases bq.mp hb with hb | hb
  ·exact I.ij a ha b hb hs
  ·rw[aw] at hb;subst hb;exact(OA a ha hs).elim
  ·rw[aw] at ha;subst ha;exact(OA b hb (sy _ _ hs)).elim
  ·rw[aw] at ha hb;rw[ha,hb]
 ·rw[gl]
  refine⟨I.nu,by simp,λa ha b hb e=>?_⟩
  rw[aw] at hb
  subst e
  subst hb
  have:=(B.inj t _ _ hh hh).mp rfl
  exact OA _ ha this
 ·show bD st.AO _ _=_
  rw[jt VH,I.wy,cf]
  simp[ent]
 ·show st.later++_=_
  rw[I.la,cf];rfl
theorem Aa (A:List Row):∀(R L X:List Row),bf same over sought R L (X++A)=match bf same over sought R L X with
  | .inl o=>bf same over sought o.1 o.2 A
  | .inr o=>.inr o
 | R,L,[]=>by simp[bf]
 | R,L,x::X=>by
  have eb:∀Y,bf same over sought R L (x::Y)=if dead same over R x=true then bf same over sought R L Y else if sought x=true then .inr (R,x) else bf same over sought (R++[x]) (L++[x]) Y:=λ_=>rfl
  rw[fq,eb,eb]
  by_cases hd:dead same over R x=true
  ·rw[a0 hd,a0 hd];exact Aa A R L X
  ·rw[ax hd,ax hd]
   by_cases hs:sought x=true
   ·rw[a0 hs,a0 hs]
   ·rw[ax hs,ax hs];exact Aa A _ _ X
theorem ph (B:BG pb cn S io so ro le DO nd has same over sought)(H:BH same over sought){r:Row}:∀(ks:qc) (R L:List Row) (st:FS),(∀k∈ks,k < 4/\has t (r++[k]))->IH S DO nd has same t R L st->r∈R->L ⊆ R->
  match bf same over sought R L (ks.map λk=>r++[k]) with
  | .inl o=>(∃BA,mC cn io so ro (nd t r) (ks.map λk=>(cd S k,nd t (r++[k]))) st=some (.inl BA)/\IH S DO nd has same t o.1 o.2 BA)/\R ⊆ o.1/\o.2 ⊆ o.1
  | .inr o=>mC cn io so ro (nd t r) (ks.map λk=>(cd S k,nd t (r++[k]))) st=some (.inr (.lst (o.2.map (cd S))))
 | [],R,L,st,_,I,_,hL=>by
  simp only[gE,bf]
  exact⟨⟨st,rfl,I⟩,λ_ h=>h,hL⟩
 | k::ks,R,L,st,hk,I,hr,hL=>by
  have F8:=λj hj=>hk j (af k hj)
  obtain⟨ZT,hh⟩:=hk k am
  have lk:=tU B (S:=S) (R:=R) (λr hr=>(I.hs r hr).1) _ hh
  rw[← I.wy] at lk
  simp only[ap]
  by_cases ha:(R.any λq=>same q (r++[k]))=true
  ·have hd:dead same over R (r++[k])=true:=by simp[dead,ha]
   have e1:mz cn io so ro (nd t r) (cd S k,nd t (r++[k])) st=some (.inl st):=by
    obtain⟨q,hq,hs⟩:=eW.mp ha
    cases h:R.find? λq=>same q (r++[k]) with
    | none=>exact absurd hs (by simpa using dE.mp h q hq)
    | some q=>
     rw[h] at lk
     unfold mz
     simp only[lk,ib]
   have:=ph B H ks R L st F8 I hr hL
   simp only[bf,a0 hd]
   unfold mC
   simp only[e1,ay]
   exact this
  ·have ha:(R.any λq=>same q (r++[k]))=false:=by simpa using ha
   have VH:aJ st.AO (bu (nd t (r++[k])))=none:=by
    rw[lk,gS,dE]
    simpa using ha
   obtain⟨w0,wr,n,nr,ew,en,Ym⟩:=B.io t st.ws _ I.ws hh
   have EZ:=I.TL
   have hll:=I.ll
   have Ee:st.AO.length=R.length:=by rw[I.wy,ba]
   have hlal:st.later.length=L.length:=by rw[I.la,ba]
   have eso:=B.so t st.ws _ I.ws hh
   cases ho:over (r++[k]) with
   | true=>
    have hd:dead same over R (r++[k])=true:=by simp[dead,ho]
    have e1:mz cn io so ro (nd t r) (cd S k,nd t (r++[k])) st=some (.inl st):=by
     unfold mz
     simp only[VH]
     rw[ho] at Ym
     simp only[ew,en,Ym,ay]
    have:=ph B H ks R L st F8 I hr hL
    simp only[bf,a0 hd]
    unfold mC
    simp only[e1,ay]
    exact this
   | false=>
    have hd:¬ dead same over R (r++[k])=true:=by simp[dead,ho,ha]
    have I2:=I.put B H.sy hr ZT hh ho ha true
    rw[ho] at Ym
    have e0:mz cn io so ro (nd t r) (cd S k,nd t (r++[k])) st=(if st.AO.length < 1000000/\st.later.length < 1000000 then
     (so [.lst (st.ws.map λw=>w.pv cn),A9 (nd t (r++[k]))]).bind λs=>match s with
      | .bl true=>(ro [.dT (bD st.AO (bu (nd t (r++[k]))) (.tup [A9 (nd t r),cd S k])),A9 (nd t (r++[k]))]).bind λv=>some (.inr v)
      | .bl false=>some (.inl { st with AO:=bD st.AO (bu (nd t (r++[k]))) (.tup [A9 (nd t r),cd S k]),later:=st.later++[nd t (r++[k])] })
      | _=>none
     else none):=by
     unfold mz
     simp only[VH]
     rw[ew]
     generalize hN:nd t (r++[k])=N at *
     rw[en]
     simp only[Ym,ay]
     try rfl
    rw[a0 ⟨by omega,by omega⟩,eso,ay] at e0
    cases hs:sought (r++[k]) with
    | true=>
     rw[hs] at e0
     have hm:r++[k]∈R++[r++[k]]:=by simp
     have ch:=I2.chain B H.rf _ _ rfl hm
     have er:=B.ro _ _ _ ch (by rw[ba];exact(I2.hs _ hm).2.2)
     simp only[er,ay] at e0
     simp only[bf,ax hd,a0 hs]
     unfold mC
     simp only[e0,ay]
    | false=>
     rw[hs] at e0
     simp only at e0
     have:=ph B H ks (R++[r++[k]]) (L++[r++[k]]) _ F8 I2 (bn _ hr) (by
      intro y hy
      rcases bq.mp hy with hy | hy
      ·exact bn _ (hL hy)
      ·exact bS _ hy)
     have DU:¬ sought (r++[k])=true:=by rw[hs];simp
     simp only[bf,ax hd,ax DU]
     unfold mC
     simp only[e0,ay]
     split at this
     ·rename_i o e
      exact⟨this.1,λy hy=>this.2.1 (bn _ hy),this.2.2⟩
     ·exact this
theorem JW (hS:S.length=4)(f:Nat->List Int):S.zip ((List.range 4).map f)=(List.range 4).map λk=>(cd S k,f k):=by
 match S,hS with
 | [a,b,c,d],_=>rfl
theorem Ab (B:BG pb cn S io so ro le DO nd has same over sought)(rl:∀t,le t t)(tl:∀a b c,le a b->le b c->le a c)(H:BH same over sought):∀(Ls:List Row) (t:T) (R L:List Row) (st:FS),Ls ⊆ R->IH S DO nd has same t R L st->L ⊆ R->
  match bf same over sought R L (Ls.flatMap kids) with
  | .inl o=>∃t' BA,qx pb cn S io so ro (Ls.map (nd t)) st=some (.inl BA)/\IH S DO nd has same t' o.1 o.2 BA/\o.2 ⊆ o.1
  | .inr o=>qx pb cn S io so ro (Ls.map (nd t)) st=some (.inr (.lst (o.2.map (cd S))))
 | [],t,R,L,st,_,I,hL=>by
  simp only[List.flatMap_nil,bf]
  exact⟨t,st,rfl,I,hL⟩
 | r::Ls,t,R,L,st,hR,I,hL=>by
  have hr:r∈R:=hR am
  obtain⟨t1,ws1,hle,W6,enb,hk⟩:=B.nb t st.ws r I.ws (I.hs r hr).1 (I.hs r hr).2.1
  have I1:=I.up B hle W6 hL
  have er:nd t r=nd t1 r:=((B.mono t t1 r hle (I.hs r hr).1).2).symm
  have sp:=ph B H (r:=r) (List.range 4) R L _ (λk F8=>⟨b0.mp F8,hk k (b0.mp F8)⟩) I1 hr hL
  rw[gt,Aa,ap]
  have ek:kids r=(List.range 4).map λk=>r++[k]:=rfl
  rw[← ek] at sp
  unfold qx
  simp only[enb,ay,JW B.S4]
  rw[er]
  cases hb:bf same over sought R L (kids r) with
  | inr o=>
   rw[hb] at sp
   simp only at sp ⊢
   simp only[sp,ay]
  | inl o=>
   rw[hb] at sp
   obtain⟨⟨BA,e1,I2⟩,s1,s2⟩:=sp
   simp only[e1,ay]
   have hLs:Ls ⊆ o.1:=λy hy=>s1 (hR (af _ hy))
   have em:Ls.map (nd t)=Ls.map (nd t1):=bE λy hy=>(B.mono t t1 y hle (I.hs y (hR (af _ hy))).1).2.symm
   have:=Ab B rl tl H Ls t1 o.1 o.2 BA hLs I2 s2
   rw[em]
   exact this
theorem Ac (B:BG pb cn S io so ro le DO nd has same over sought)(rl:∀t,le t t)(tl:∀a b c,le a b->le b c->le a c)(H:BH same over sought):∀(f:Nat) (t:T) (R L:List Row) (st:FS),IH S DO nd has same t R L st->L ⊆ R->
  tH pb cn S io so ro f (L.map (nd t)) st=(VF same over sought f R L).map λo=>match o with
   | none=>.Au
   | some x=>.lst (x.map (cd S))
 | 0,t,R,L,st,I,hL=>rfl
 | f+1,t,R,[],st,I,hL=>rfl
 | f+1,t,R,n::ns,st,I,hL=>by
  have I0:IH S DO nd has same t R [] { st with later:=[] }:=⟨I.ws,I.hs,I.cl,I.ij,I.nu,I.wy,rfl,by simp⟩
  have sp:=Ab B rl tl H (n::ns) t R [] _ hL I0 (by simp)
  rw[ap] at sp ⊢
  unfold tH VF
  cases hb:bf same over sought R [] ((n::ns).flatMap kids) with
  | inl o=>
   rw[hb] at sp
   obtain⟨t',BA,e1,I1,s1⟩:=sp
   simp only[e1,ay]
   rw[I1.la]
   exact Ac B rl tl H f t' o.1 o.2 BA I1 s1
  | inr o=>
   rw[hb] at sp
   simp only at sp
   simp only[sp,ay,ib]
theorem MP (B:BG pb cn S io so ro le DO nd has same over sought)(rl:∀t,le t t)(tl:∀a b c,le a b->le b c->le a c)(H:BH same over sought){ws:List WS}(hw:DO t ws)(h0:nd t []=List.replicate ws.length 0)(hh:has t []):
  (VB pb cn S io so ro ws=some .Au/\∀y,C4 y->over y=false->sought y=false)\/∃x,VB pb cn S io so ro ws=some (.lst (x.map (cd S)))/\Found over sought x:=by
 have I:IH S DO nd has same t [[]] [[]] { ws:=ws,AO:=[(bu (List.replicate ws.length 0),.Au)],later:=[List.replicate ws.length 0] }:=by
  refine⟨hw,?_,?_,?_,by simp,?_,?_,by simp⟩
  ·intro r hr;rw[aw] at hr;subst hr;exact⟨hh,(λk hk=>by cases hk),by simp⟩
  ·intro r k h;rw[aw] at h;simp at h
  ·intro r hr q hq _;rw[aw] at hr hq;rw[hr,hq]
  ·simp[ent,h0]
  ·simp[h0]
 have e:=Ac B rl tl H 1000 t [[]] [[]] _ I (λ_ h=>h)
 rw[ap,gE,h0] at e
 unfold VB
 rw[e]
 rcases zY H 1000 0 [[]] [[]] (LI.start H) (by decide) (by decide) with ⟨h1,h2⟩ | ⟨x,h1,h2⟩
 ·rw[h1];exact .inl ⟨rfl,h2⟩
 ·rw[h1];exact .inr ⟨x,rfl,h2⟩
end
theorem xH (f:Nat->Int):∀l:List Nat,oO (l.map λk=>PV.int (f k))=some (l.map f)
 | []=>rfl
 | k::l=>by
  rw[ap,oO,xH f l]
  rfl
section
variable {pb:List PV->Option PV}{cn:Nat}{S:List PV}{io so ro:List PV->Option PV}{a1 a2:List (List zD×PV)}{m1 m2:Int}{f1 f2:PV}{p1 p2:Row->Pl}
theorem MT {ps:List Pl}{p q:Pl}(hp:p∈ps)(hq:q∈ps)(h:ps.idxOf p=ps.idxOf q):p=q:=by
 have a:=rE hp
 have b:=rE hq
 rw[h,b] at a
 exact(be a).symm
theorem WI.new {fin:PV}{pl:Row->Pl}:WI B4 most fin pl { B4:=B4,most:=most,fin:=fin,CB:=[ET (pl [])],nums:=[(JU (pl []),.int 0)],D8:=[] } [pl []]:=by
 refine⟨rfl,rfl,rfl,rfl,by simp,λp hp=>⟨[],(λk hk=>by cases hk),by simpa using hp⟩,λp=>?_,rfl,(λn l h=>by cases h),⟨[],rfl,by simp,(λk hk=>by cases hk)⟩⟩
 unfold aJ
 by_cases e:p=pl []
 ·subst e;simp
 ·have:¬ JU (pl [])=JU p:=λz=>e (v8 z).symm
  simp[this,e]
end
abbrev Rest:=Nat×List Nat
noncomputable def Nl (l:qc):Str:=⟨l.toArray⟩
noncomputable def BM (x:Rest):Int×Str:=((x.1:Int),Nl x.2)
noncomputable def DF (x:Rest):PV:=.tup [.int (x.1:Nat),.str (Nl x.2)]
theorem Cp {a b:qc}(h:Nl a=Nl b):a=b:=by
 have:=dP (λs:Str=>s.cps.toList) h
 simpa [Nl] using this
theorem nT {x y:Rest}(h:BM x=BM y):x=y:=by
 obtain⟨a,b⟩:=x
 obtain⟨c,d⟩:=y
 unfold BM at h
 injection h with h1 h2
 have h1:a=c:=by simp at h1;omega
 have h2:b=d:=Cp h2
 rw[h1,h2]
theorem Cq:Nl []=("" : Str):=by decide +kernel
theorem fM (p:Str):p.cps.toList.length=p.length:=gy
def FE (m:qA)(t:D4):Rest:=(t.1,if 0 < t.2.2 then (((m[t.1]?).bind λs=>s.1[t.2.1]?).map λp=>p.cps.toList.drop t.2.2).getD [] else [])
theorem G_ (p:Str)(i:Nat)(h:i<=p.length):lZ p (some (i:Int)) none=Nl (p.cps.toList.drop i):=by
 unfold lZ Nl HT.AS
 congr 2
 simp
 rw[ax (by omega),Nat.min_eq_left h,List.take_of_length_le]
 rw[g6,fM];exact aE _
theorem v9 (hm:a_ m){t:D4}(st:Nc m t.1 t.2.1 t.2.2):bK [mP m,cA t]=some (DF (FE m t)):=by
 obtain⟨slot,k,i⟩:=t
 simp only at st
 unfold FE
 by_cases hi:0 < i
 ·have A6:slot < m.length:=by
   rcases gL slot m.length with h | h
   ·exact h
   ·have:=st.le;have:=(st.fin (by omega)).2;omega
  obtain⟨s,hs⟩:∃s,m[slot]?=some s:=⟨m[slot],ai A6⟩
  rcases st.mid s hs with h | ⟨p,hp,_,LD⟩
  ·omega
  ·have h1:=v4 hs
   have h2:=zV hp
   have ok:=(hm s (dn hs)).ok p (dn hp)
   have h3:p.length<=1000000:=by have:=ok.le;omega
   have h4:=G_ p i (by omega)
   have LS:(0:Int) < i:=by omega
   simp[bK,jY,mP,cA,ES,h1,BF,h2,h3,h4,hi,hs,hp,DF]
 ·have LS:¬ (0:Int) < i:=by omega
  have e:=Cq
  simp[bK,jY,mP,cA,ES,hi,DF,e]
noncomputable def Nn (slot:Nat)(cut:Bool)(l:qc)(mark:Str)(ends:Bool):List Rest:=match l with
 | []=>[]
 | c::r=>if AE ⟨#[c]⟩ mark=true then (if r≠[] then [(slot,r)] else if (cut&&!ends)=true then [] else [(slot+1,[])]) else []
noncomputable def iZ (m:qA)(x:Rest)(mark:Str)(ends:Bool):List Rest:=match m[x.1]? with
 | none=>[]
 | some s=>if x.2=[] then s.1.flatMap λp=>Nn x.1 s.2 p.cps.toList mark ends else Nn x.1 s.2 x.2 mark ends
theorem Cr (p:Str)(i:Nat)(h:i < p.length):p.cps.toList.drop i=p.cps.toList.getD i 0::p.cps.toList.drop (i+1):=by
 have hl:i < p.cps.toList.length:=by rw[fM];exact h
 rw[cb hl,bb,ai hl]
 rfl
theorem Ad {k:Nat}(hs:m[slot]?=some s)(hp:s.1[k]?=some p)(hi:i < p.length)(mark:Str)(ends:Bool):
  (Nd s slot i mark ends k).map (λy=>FE m y.2)=Nn slot s.2 (p.cps.toList.drop i) mark ends:=by
 unfold Nd Nn
 rw[rB hp,Cr p i hi]
 show List.map _ (if AE (bB p i) mark=true then _ else _)=(if AE (bB p i) mark=true then (if p.cps.toList.drop (i+1)≠[] then [(slot,p.cps.toList.drop (i+1))] else if (s.2&&!ends)=true then [] else [(slot+1,[])]) else [])
 by_cases CL:AE (bB p i) mark=true
 case neg=>rw[ax CL,ax CL];rfl
 case pos=>
  rw[a0 CL,a0 CL]
  unfold W8
  by_cases h1:i+1 < p.length
  ·have:p.cps.toList.drop (i+1)≠[]:=by
    intro z
    have:=dP List.length z
    rw[g6,fM] at this
    simp at this;omega
   rw[a0 h1,a0 this]
   simp[FE,hs,hp]
  ·have:p.cps.toList.drop (i+1)=[]:=by
    rw[dv,fM];omega
   rw[ax h1,this]
   by_cases hc:(s.2&&!ends)=true
   ·rw[a0 hc,ax (by simp),a0 hc];rfl
   ·rw[ax hc,ax (by simp),ax hc];rfl
theorem range_getD (l:qo):(List.range l.length).map (λk=>l.getD k ⟨#[]⟩)=l:=by
 refine List.ext_getElem? λi=>?_
 rw[cm]
 rcases gL i l.length with h | h
 ·rw[me h,ai h]
  simp[h]
 ·rw[cE (by simpa using h),cE h];rfl
theorem Ae (hm:a_ m){t:D4}(ht:t∈GW m)(mark:Str)(ends:Bool):(jr m t mark ends).map (λy=>FE m y.2)=iZ m (FE m t) mark ends:=by
 obtain⟨s,hs,h⟩:=DD.mp ht
 obtain⟨slot,k,i⟩:=t
 simp only at hs h
 have ok:=hm s (dn hs)
 unfold jr iZ
 rcases h with h | ⟨p,hp,h1,h2⟩
 ·cases h
  have e1:FE m (slot,0,0)=(slot,[]):=rfl
  rw[e1]
  simp only[hs,fw]
  rw[List.map_flatMap]
  have e2:(s.1.flatMap λp=>Nn slot s.2 p.cps.toList mark ends)=(List.range s.1.length).flatMap λk=>Nn slot s.2 (s.1.getD k ⟨#[]⟩).cps.toList mark ends:=by
   conv=>lhs;rw[← range_getD s.1]
   rw[List.flatMap_map]
  rw[e2,List.flatMap_def,List.flatMap_def]
  congr 1
  refine bE λk hk=>?_
  have F8:=b0.mp hk
  have hp:s.1[k]?=some s.1[k]:=ai F8
  have:=(ok.ok _ (iE F8)).ge
  have:=Ad (m:=m) (i:=0) hs hp (by omega) mark ends
  rw[this,rB hp]
  rfl
 ·have U4:¬ i=0:=by omega
  have e1:FE m (slot,k,i)=(slot,p.cps.toList.drop i):=by simp[FE,hs,hp];omega
  have e2:p.cps.toList.drop i≠[]:=by rw[Cr p i h2];simp
  rw[e1]
  simp only[hs,ax U4,ax e2]
  exact Ad hs hp h2 mark ends
theorem Ha {t:D4}(ht:t∈GW m){y:Nat×D4}(hy:y∈jr m t mark ends):y.2∈GW m\/y.2=(m.length,0,0):=by
 obtain⟨s,hs,h⟩:=DD.mp ht
 have A6:=(ag.mp hs).1
 have key:∀(i k:Nat),∀y∈Nd s t.1 i mark ends k,y.2∈GW m\/y.2=(m.length,0,0):=by
  intro i k y hy
  unfold Nd at hy
  split at hy
  ·obtain⟨z,hz,rfl⟩:=bP.mp hy
   rw[Option.mem_toList] at hz
   unfold W8 at hz
   split at hz
   ·rename_i hl
    cases hz
    refine .inl (DD.mpr ⟨s,hs,.inr ?_⟩)
    cases hp:s.1[k]? with
    | none=>
     rw[bb,hp] at hl
     simp[Str.length] at hl
    | some p=>rw[rB hp] at hl;exact⟨p,rfl,by simp,hl⟩
   ·split at hz
    ·cases hz
    ·cases hz
     rcases gL (t.1+1) m.length with h | h
     ·exact .inl (DD.mpr ⟨m[t.1+1],ai h,.inl rfl⟩)
     ·exact .inr (by rw[show t.1+1=m.length by omega])
  ·cases hy
 unfold jr at hy
 rw[hs] at hy
 simp only at hy
 split at hy
 ·obtain⟨k,hk,hy⟩:=d3.mp hy
  exact key 0 k y hy
 ·exact key _ _ y hy
noncomputable def JY (m:qA):List Rest:=(GW m).map (FE m)++[(m.length,[])]
theorem Hb (m:qA):Nc m m.length 0 0:=⟨aE _,λ_=>⟨rfl,rfl⟩,λs h=>by rw[cE (aE _)] at h;cases h⟩
theorem M6 {t:D4}(ht:t∈GW m){y:Nat×D4}(hy:y∈jr m t mark ends):Nc m y.2.1 y.2.2.1 y.2.2.2:=by
 rcases Ha ht hy with h | h
 ·exact zW h
 ·rw[h];exact Hb m
theorem v_ (hm:a_ m){x:Rest}(hx:x∈JY m){y:Rest}(hy:y∈iZ m x mark ends):y∈JY m:=by
 rcases bq.mp hx with hx | hx
 ·obtain⟨t,ht,rfl⟩:=bP.mp hx
  rw[← Ae hm ht] at hy
  obtain⟨z,hz,rfl⟩:=bP.mp hy
  rcases Ha ht hz with h | h
  ·exact bn _ (bP.mpr ⟨_,h,rfl⟩)
  ·rw[h];exact bS _ (by simp[FE])
 ·rw[aw] at hx
  subst hx
  unfold iZ at hy
  simp at hy
theorem wg (mark:Str)(ends:Bool):iZ m (m.length,[]) mark ends=[]:=by
 unfold iZ
 simp
noncomputable def B0 (k:Nat):Str:=if k < 2 then ("u" : Str) else ("-" : Str)
noncomputable def C7 (k:Nat):Bool:=k % 2 == 1
noncomputable def AW (k:Nat):PV:=.tup [.str (B0 k),.bl (C7 k)]
theorem sdS:gj=(List.range 4).map AW:=rfl
theorem itS:MR.PF uU=some ((List.range 4).map AW):=rfl
theorem QT {k:Nat}(h:k < 4):gj[k]?=some (AW k):=by rw[sdS];simp[h]
theorem Tr {k:Nat}(h:k < 4):cd gj k=AW k:=by unfold cd;rw[bb,QT h];rfl
noncomputable def kk (x:Rest)(k:Nat):List zD:=[zD.tp [.k (.inl (x.1:Int)),.k (.inr (Nl x.2))],zD.tp [.k (.inr (B0 k)),.k (.inl (if C7 k=true then 1 else 0))]]
theorem Cu (x:Rest)(k:Nat):AD [DF x,AW k]=some (kk x k):=rfl
theorem ud:¬ (("u" : Str) = "-"):=by decide
theorem QV {x y:Rest}{k:Nat}(hk:k < 4)(hj:j < 4)(h:kk x k=kk y j):x=y/\k=j:=by
 unfold kk at h
 injection h with h1 h2
 injection h2 with h2 _
 have h1:=zD.EC h1
 have h2:=zD.EC h2
 injection h1 with a b
 injection b with b _
 injection a with a;injection a with a
 injection b with b;injection b with b
 injection h2 with c d
 injection d with d _
 injection c with c;injection c with c
 injection d with d;injection d with d
 refine⟨?_,?_⟩
 ·obtain⟨x1,x2⟩:=x
  obtain⟨y1,y2⟩:=y
  have a:x1=y1:=by simp at a;omega
  have b:x2=y2:=Cp b
  rw[a,b]
 ·have:=ud
  have F8:k=0\/k=1\/k=2\/k=3:=by omega
  have UZ:j=0\/j=1\/j=2\/j=3:=by omega
  rcases F8 with rfl | rfl | rfl | rfl <;> rcases UZ with rfl | rfl | rfl | rfl <;> first | rfl | (exfalso;revert c d;decide +kernel)
section
variable {κ:Type}[DecidableEq κ]
theorem Hc (kvs:List (κ×PV))(k k':κ)(v:PV):aJ (bD kvs k v) k'=if k'=k then some v else aJ kvs k':=by
 unfold aJ bD
 by_cases h:(kvs.any λkv=>decide (kv.1=k))=true
 ·rw[a0 h,kR]
  have e:((λx:κ×PV=>decide (x.1=k'))∘λkv=>if kv.1=k then (kv.1,v) else kv)=λx=>decide (x.1=k'):=by
   funext x
   have hf:(if x.1=k then (x.1,v) else x).1=x.1:=by split <;> rfl
   show decide ((if x.1=k then (x.1,v) else x).1=k')=decide (x.1=k')
   simp[hf]
  rw[e]
  cases q:kvs.find? λx=>decide (x.1=k') with
  | none=>
   by_cases hk:k'=k
   ·subst hk
    obtain⟨x,h1,h2⟩:=eW.mp h
    exact absurd h2 (dE.mp q x h1)
   ·rw[ax hk];rfl
  | some x=>
   have hx:x.1=k':=by simpa using l8 q
   by_cases hk:k'=k
   ·rw[a0 hk]
    show some (if x.1=k then (x.1,v) else x).2=_
    rw[a0 (hx.trans hk)]
   ·rw[ax hk]
    show some (if x.1=k then (x.1,v) else x).2=some x.2
    rw[ax (λz=>hk (hx.symm.trans z))]
 ·rw[ax h,nK]
  have hn:∀x∈kvs,¬ x.1=k:=λx hx e=>h (eW.mpr ⟨x,hx,by simp[e]⟩)
  by_cases hk:k'=k
  ·subst hk
   have:(kvs.find? λx=>decide (x.1=k'))=none:=dE.mpr λx hx=>by simp[hn x hx]
   rw[this,a0 rfl]
   simp
  ·rw[ax hk]
   have:([(k,v)].find? λx=>decide (x.1=k'))=none:=by simp[fT hk]
   rw[this]
   simp
theorem JX (kvs:List (κ×PV))(k:κ)(v:PV):(bD kvs k v).length<=kvs.length+1:=by
 unfold bD
 split
 ·rw[ba];omega
 ·simp
end
noncomputable def aR (m:qA)(x:Rest)(k:Nat):List Rest:=iZ m x (B0 k) (C7 k)
def AI (m:qA)(P:List (Rest×Nat))(D:List (List zD×PV)):Prop:=D.length<=P.length/\∀x k,k < 4->aJ D (kk x k)=if (x,k)∈P then some (.lst ((aR m x k).map DF)) else none
variable {D:List (List zD×PV)}
theorem AI.put {P:List (Rest×Nat)}(I:AI m P D){x:Rest}{k:Nat}(hk:k < 4):AI m (P++[(x,k)]) (bD D (kk x k) (.lst ((aR m x k).map DF))):=by
 refine⟨?_,λy j hj=>?_⟩
 ·have:=JX D (kk x k) (.lst ((aR m x k).map DF))
  have:=I.1
  simp;omega
 ·rw[Hc,I.2 y j hj]
  by_cases h:kk y j=kk x k
  ·obtain⟨rfl,rfl⟩:=QV hj hk h
   rw[a0 rfl,a0 (by simp)]
  ·rw[ax h]
   have AU:¬ (y,j)=(x,k):=λz=>by cases z;exact h rfl
   by_cases hm:(y,j)∈P
   ·rw[a0 hm,a0 (bn _ hm)]
   ·rw[ax hm,ax]
    intro z
    rcases bq.mp z with z | z
    ·exact hm z
    ·rw[aw] at z;exact AU z
theorem JZ (hm:a_ m)(hl:m.length < 100){t:D4}(ht:t∈GW m){k:Nat}(hk:k < 4)(hD:D.length < 1000000):
  turn (gN 3) [3,4] eY (AW k) [some (mP m),some (.dT D),some (cA t),none,none]=some [some (mP m),some (.dT (bD D (kk (FE m t) k) (.lst ((aR m (FE m t) k).map DF)))),some (cA t),none,none]:=by
 have h3:=JP hm (by omega) (zW ht) (B0 k) (C7 k)
 rw[R7] at h3
 have h3:dU [mP m,cA t,.str (B0 k),.bl (C7 k)]=some (.lst ((jr m t (B0 k) (C7 k)).map Vc)):=h3
 have h4:=JS m hm t (B0 k) (C7 k)
 have h1:=v9 hm (zW ht)
 have h5:dq [none,none,some (mP m)] (gT [0,1]) jB ik ((jr m t (B0 k) (C7 k)).map Vc)=some ((aR m (FE m t) k).map DF):=by
  unfold aR
  rw[← Ae hm ht,gg]
  exact qu _ _ _ λy hy=>⟨[some (.int (y.1:Nat)),some (cA y.2),some (mP m)],rfl,by
   have:=v9 hm (M6 ht hy)
   simp[ik,this]⟩
 have h7:((jr m t (B0 k) (C7 k)).map Vc).length<=1000000:=by rw[ba];omega
 have h8:=Cu (FE m t) k
 unfold AW at h8 ⊢
 generalize (jr m t (B0 k) (C7 k)).map Vc=V,(aR m (FE m t) k).map DF=R,cA t=S,mP m=M,DF (FE m t)=Z,kk (FE m t) k=kx at *
 simp[-AD,bZ,eY,h1,h3,h5,h7,h8,hD,jk]
theorem J0 (hm:a_ m)(hl:m.length < 100){t:D4}(ht:t∈GW m){P:List (Rest×Nat)}(I:AI m P D)(hP:P.length < 1000):
  ∃D',AI m (P++(List.range 4).map λk=>(FE m t,k)) D'/\turn (gN 2) [2,3,4] eZ (cA t) [some (mP m),some (.dT D),none,none,none]=some [some (mP m),some (.dT D'),none,none,none]:=by
 obtain⟨D',⟨d,e1,I',_⟩,h⟩:=fc (g:=gN 3) (ds:=[3,4]) (body:=eY) AW (λD:List (List zD×PV)=>[some (mP m),some (.dT D),some (cA t),none,none])
  (λr D'=>∃d,List.range 4=d++r/\AI m (P++d.map λk=>(FE m t,k)) D'/\∀k∈r,k < 4)
  (by
   rintro k r D' ⟨d,e1,I',hr⟩
   have hk:=hr k am
   have hd:d.length+r.length+1=4:=by have:=dP List.length e1;simp at this;omega
   have hD:D'.length < 1000000:=by have:=I'.1;simp at this;omega
   refine⟨_,⟨d++[k],by rw[e1];simp,?_,λj hj=>hr j (af _ hj)⟩,JZ hm hl ht hk hD⟩
   have:=I'.put (x:=FE m t) hk
   rw[cf,← eM]
   exact this)
  (List.range 4) D ⟨[],rfl,by simpa using I,λk hk=>b0.mp hk⟩
 rw[br] at e1
 subst e1
 refine⟨D',I',?_⟩
 have hs:=itS
 generalize cA t=S,mP m=M at *
 simp[-MR.PF,bZ,eZ,hs,h]
theorem J2 (hm:a_ m)(hl:m.length<=3):∃D,bI [mP m]=some (.dT D)/\∀x∈JY m,∀k,k < 4->(aJ D (kk x k)).getD (.lst [])=.lst ((aR m x k).map DF):=by
 obtain⟨h1,h2⟩:=xF hm (by omega)
 obtain⟨D,⟨d,e1,I⟩,h⟩:=fc (g:=gN 2) (ds:=[2,3,4]) (body:=eZ) cA (λD:List (List zD×PV)=>[some (mP m),some (.dT D),none,none,none])
  (λr D'=>∃d,GW m=d++r/\AI m (d.flatMap λt=>(List.range 4).map λk=>(FE m t,k)) D')
  (by
   rintro t r D' ⟨d,e1,I'⟩
   have ht:t∈GW m:=by rw[e1];simp
   have hd:d.length+r.length+1=(GW m).length:=by have:=dP List.length e1;simp at this;omega
   have hfl:∀d:List D4,(d.flatMap λt=>(List.range 4).map λk=>(FE m t,k)).length=4*d.length:=by
    intro d
    induction d with
    | nil=>rfl
    | cons t d ih=>rw[gt,bp,ih];simp;omega
   obtain⟨D2,I2,h⟩:=J0 hm (by omega) ht I' (by rw[hfl];omega)
   exact⟨D2,⟨d++[t],by rw[e1];simp,by simpa using I2⟩,h⟩)
  (GW m) [] ⟨[],rfl,by simp,λx k _=>by simp[aJ]⟩
 rw[br] at e1
 subst e1
 refine⟨D,?_,λx hx k hk=>?_⟩
 ·generalize (GW m).map cA=L,mP m=M at *
  simp[bI,nO,h1,h]
 ·rw[I.2 x k hk]
  rcases bq.mp hx with hx | hx
  ·obtain⟨t,ht,rfl⟩:=bP.mp hx
   rw[a0 (d3.mpr ⟨t,ht,bP.mpr ⟨k,b0.mpr hk,rfl⟩⟩)];rfl
  ·rw[aw] at hx
   subst hx
   split
   ·rfl
   ·unfold aR
    rw[wg];rfl
noncomputable def Bn (m:qA):List Slot:=m.dropLast++[((m.getLast?.getD ([],false)).1,true)]
theorem qG (hm:a_ m)(AU:m≠[]):a_ (Bn m)/\Bn m≠[]/\(Bn m).length=m.length:=by
 refine⟨?_,by simp[Bn],by have:=gz.mpr AU;simp[Bn];omega⟩
 intro s hs
 unfold Bn at hs
 rcases bq.mp hs with hs | hs
 ·exact hm s ((List.dropLast_sublist m).subset hs)
 ·rw[aw] at hs
  subst hs
  rw[ce AU]
  exact hm (m.getLast AU) (List.getLast_mem AU)
theorem xJ {α:Type}{xs:List α}(h:xs≠[]):B5 xs (-1)=xs.getLast?:=by
 unfold B5 Kk
 have hl:0 < xs.length:=gz.mpr h
 rw[ax (by decide),a0 (by omega),mT]
 show xs[(-1+(xs.length:Int)).toNat]?=_
 congr 1
 omega
theorem xK (xs:List PV)(h:xs≠[]):iH xs none (some (-1))=xs.dropLast:=by
 have hl:0 < xs.length:=gz.mpr h
 unfold iH HT.AS
 simp
 rw[List.dropLast_eq_take]
 congr 1
 omega
theorem QW (AU:m≠[])(hl:m.length<=3):bF [mP m]=some (mP (Bn m)):=by
 have h0:m.map BF≠[]:=by simpa using AU
 have h1:=xJ h0
 have h2:=xK _ h0
 have e:(m.map BF).getLast?=some (BF (m.getLast AU)):=by rw[List.getLast?_map,ce AU];rfl
 rw[e] at h1
 have h3:=G6 (m.map BF).dropLast [.tup [.tup ((m.getLast AU).1.map .str),.bl true]] (by simp;omega)
 have e2:Bn m=m.dropLast++[((m.getLast AU).1,true)]:=by unfold Bn;rw[ce AU];rfl
 rw[e2]
 have e3:mP (m.dropLast++[((m.getLast AU).1,true)])=.tup ((m.map BF).dropLast++[.tup [.tup ((m.getLast AU).1.map .str),.bl true]]):=by simp[mP,BF,List.map_dropLast]
 rw[e3]
 simp only[BF] at h1
 simp only[mP]
 simp[bF,lB,h2,h1,h3]
theorem ss1:(("most" : Str) == "ahead")=false:=by decide +kernel
theorem ss2:(("end" : Str) == "ahead")=false:=by decide +kernel
theorem ss3:(("end" : Str) == "most")=false:=by decide +kernel
theorem ss4:(("places" : Str) == "ahead")=false:=by decide +kernel
theorem ss5:(("places" : Str) == "most")=false:=by decide +kernel
theorem ss6:(("places" : Str) == "end")=false:=by decide +kernel
theorem J3 (w:WS)(e:MR.Env)(f:MR.Env->Option PV)(h:f e=some (w.pv 10)):ji 10 "ahead" f e=some (.dT w.B4):=by
 rw[gF,h];simp[WS.pv]
theorem M7 (w:WS)(e:MR.Env)(f:MR.Env->Option PV)(h:f e=some (w.pv 10)):ji 10 "most" f e=some (.int w.most):=by
 rw[gF,h];simp[WS.pv,List.lookup,ss1]
theorem QX (w:WS)(e:MR.Env)(f:MR.Env->Option PV)(h:f e=some (w.pv 10)):ji 10 "end" f e=some w.fin:=by
 rw[gF,h];simp[WS.pv,List.lookup,ss2,ss3]
theorem qH (w:WS)(e:MR.Env)(f:MR.Env->Option PV)(h:f e=some (w.pv 10)):ji 10 "places" f e=some (.lst w.CB):=by
 rw[gF,h];simp[WS.pv,List.lookup,ss4,ss5,ss6]
noncomputable def kQ (q:Int×Str):List zD:=[.k (.inl q.1),.k (.inr q.2)]
noncomputable def kE (y:(Int×Str)×Int):List zD×PV:=(kQ y.1,.int y.2)
theorem Af {a b:Int×Str}(h:kQ a=kQ b):a=b:=by
 unfold kQ at h
 injection h with h1 h2
 injection h2 with h2 _
 injection h1 with h1;injection h1 with h1
 injection h2 with h2;injection h2 with h2
 exact Prod.ext h1 h2
theorem Ag:∀D:Pl,vU (D.map kE)=some D
 | []=>rfl
 | y::D=>by
  rw[ap]
  show (vU (D.map kE)).bind _=_
  rw[Ag D];rfl
noncomputable def look (D:Pl)(q:Int×Str):Option Int:=(D.find? λy=>decide (y.1=q)).map (·.2)
theorem tW (D:Pl)(q:Int×Str):aJ (D.map kE) (kQ q)=(look D q).map .int:=by
 unfold aJ look
 rw[kR,kT,kT]
 have:((λx:List zD×PV=>decide (x.1=kQ q))∘kE)=λy=>decide (y.1=q):=by
  funext y
  show decide (kQ y.1=kQ q)=decide (y.1=q)
  by_cases h:y.1=q
  ·simp[h]
  ·have:¬ kQ y.1=kQ q:=λz=>h (Af z)
   simp[h,this]
 rw[this]
 rfl
def lE (D:Pl)(q:Int×Str)(v:Int):Pl:=if (D.any λy=>decide (y.1=q))=true then D.map (λy=>if y.1=q then (y.1,v) else y) else D++[(q,v)]
theorem M8 (D:Pl)(q:Int×Str)(v:Int):bD (D.map kE) (kQ q) (.int v)=(lE D q v).map kE:=by
 unfold bD lE
 have:((D.map kE).any λkv=>decide (kv.1=kQ q))=(D.any λy=>decide (y.1=q)):=by
  rw[p5]
  congr 1
  funext y
  show decide (kQ y.1=kQ q)=decide (y.1=q)
  by_cases h:y.1=q
  ·simp[h]
  ·have:¬ kQ y.1=kQ q:=λz=>h (Af z)
   simp[h,this]
 rw[this]
 by_cases h:(D.any λy=>decide (y.1=q))=true
 ·rw[a0 h,a0 h,gg,gg]
  refine bE λy _=>?_
  show (if kQ y.1=kQ q then (kQ y.1,PV.int v) else kE y)=kE (if y.1=q then (y.1,v) else y)
  by_cases h:y.1=q
  ·simp[h,kE]
  ·have:¬ kQ y.1=kQ q:=λz=>h (Af z)
   simp[h,this]
 ·rw[ax h,ax h,cf];rfl
theorem J4 (D:Pl)(q:Int×Str)(v:Int)(x:Int×Str):x∈(lE D q v).map (·.1)↔x∈D.map (·.1)\/x=q:=by
 unfold lE
 split
 ·rename_i h
  have e:(D.map (λy=>if y.1=q then (y.1,v) else y)).map (·.1)=D.map (·.1):=by
   rw[gg]
   refine bE λy _=>?_
   show (if y.1=q then (y.1,v) else y).1=y.1
   split <;> rfl
  rw[e]
  refine⟨.inl,λh'=>h'.elim id λz=>?_⟩
  obtain⟨y,hy,hq⟩:=eW.mp h
  rw[z]
  exact bP.mpr ⟨y,hy,by simpa using hq⟩
 ·rw[cf,bq]
  simp
theorem QZ {D:Pl}(q:Int×Str)(v:Int)(h:(D.map (·.1)).Nodup):((lE D q v).map (·.1)).Nodup:=by
 unfold lE
 split
 ·have e:(D.map (λy=>if y.1=q then (y.1,v) else y)).map (·.1)=D.map (·.1):=by
   rw[gg]
   refine bE λy _=>?_
   show (if y.1=q then (y.1,v) else y).1=y.1
   split <;> rfl
  rw[e];exact h
 ·rename_i hn
  rw[cf,gl]
  refine⟨h,by simp,λa ha b hb e=>?_⟩
  simp at hb
  subst hb e
  obtain⟨y,hy,e⟩:=bP.mp ha
  exact hn (eW.mpr ⟨y,hy,by simpa using e⟩)
noncomputable def mn (a b:Int):Int:=if b < a then b else a
def LV (most:Int)(D:Pl)(n:Int)(q:Int×Str):Pl:=lE D q (mn most ((look D q).getD 0+n))
structure B7 (m:qA)(p:Pl):Prop where
 un:∀y∈p,∃x∈JY m,y.1=BM x
 ge:∀y∈p,1<=y.2
 nd:(p.map (·.1)).Nodup
theorem M9 (hm:a_ m)(hl:m.length<=3):(JY m).length<=52:=by
 have:=(xF hm (by omega)).2
 unfold JY
 simp
 omega
theorem B7.len {p:Pl}(hm:a_ m)(hl:m.length<=3)(I:B7 m p):p.length<=52:=by
 have h:p.map (·.1) ⊆ (JY m).map BM:=by
  intro q hq
  obtain⟨y,hy,rfl⟩:=bP.mp hq
  obtain⟨x,hx,e⟩:=I.un y hy
  exact bP.mpr ⟨x,hx,e.symm⟩
 have h1:=I.nd.length_le_of_subset h
 have h2:=M9 hm hl
 simp at h1
 omega
theorem M_ {D:Pl}(h:∀y∈D,1<=y.2)(q:Int×Str):0<=(look D q).getD 0:=by
 unfold look
 cases e:D.find? λy=>decide (y.1=q) with
 | none=>simp
 | some y=>have:=h y (js e);simp;omega
theorem Cv {D:Pl}{q:Int×Str}{v:Int}(h:y∈lE D q v):y∈D\/y=(q,v):=by
 unfold lE at h
 split at h
 ·obtain⟨z,hz,e⟩:=bP.mp h
  split at e
  ·rename_i hq;subst hq;exact .inr e.symm
  ·subst e;exact .inl hz
 ·rcases bq.mp h with h | h
  ·exact .inl h
  ·exact .inr (by simpa using h)
theorem Hd (EB:1<=most){D:Pl}(I:B7 m D){n:Int}(hn:1<=n){z:Rest}(hz:z∈JY m):B7 m (LV most D n (BM z)):=by
 refine⟨λy hy=>?_,λy hy=>?_,QZ _ _ I.nd⟩
 ·rcases Cv hy with h | h
  ·exact I.un y h
  ·rw[h];exact⟨z,hz,rfl⟩
 ·rcases Cv hy with h | h
  ·exact I.ge y h
  ·rw[h]
   have:=M_ I.ge (BM z)
   show 1<=mn most _
   unfold mn
   split <;> omega
def CM (q:Int×Str):Rest:=(q.1.toNat,q.2.cps.toList)
theorem lF (x:Rest):CM (BM x)=x:=by
 obtain⟨a,b⟩:=x
 simp[CM,BM,Nl]
def HI (most:Int)(n:Int)(zs:List Rest)(D:Pl):Pl:=zs.foldl (λD z=>LV most D n (BM z)) D
def IP (m:qA)(most:Int)(k:Nat)(D:Pl)(p:Pl):Pl:=p.foldl (λD y=>HI most y.2 (aR m (CM y.1) k) D) D
def dl (m:qA)(most:Int)(p:Pl)(k:Nat):Pl:=tD (IP m most k [] p)
theorem Ah {m:qA}{most:Int}(EB:1<=most){n:Int}(hn:1<=n):∀(zs:List Rest) (D:Pl),(∀z∈zs,z∈JY m)->B7 m D->B7 m (HI most n zs D)/\∀q,q∈(HI most n zs D).map (·.1)↔q∈D.map (·.1)\/∃z∈zs,q=BM z
 | [],D,_,I=>⟨I,λq=>by simp[HI]⟩
 | z::zs,D,hz,I=>by
  have h1:=Hd EB I hn (hz z am)
  obtain⟨h2,h3⟩:=Ah EB hn zs _ (λy hy=>hz y (af _ hy)) h1
  refine⟨h2,λq=>?_⟩
  have e:HI most n (z::zs) D=HI most n zs (LV most D n (BM z)):=rfl
  rw[e,h3 q]
  unfold LV
  rw[J4]
  simp only[bm,exists_eq_or_imp]
  constructor
  ·rintro ((h | h) | h)
   ·exact .inl h
   ·exact .inr (.inl h)
   ·exact .inr (.inr h)
  ·rintro (h | h | h)
   ·exact .inl (.inl h)
   ·exact .inl (.inr h)
   ·exact .inr h
theorem u5 {m:qA}(hm:a_ m){most:Int}(EB:1<=most)(k:Nat):∀(p D:Pl),(∀y∈p,(∃x∈JY m,y.1=BM x)/\1<=y.2)->B7 m D->B7 m (IP m most k D p)/\∀q,q∈(IP m most k D p).map (·.1)↔q∈D.map (·.1)\/∃x,BM x∈p.map (·.1)/\∃z∈aR m x k,q=BM z
 | [],D,_,I=>⟨I,λq=>by simp[IP]⟩
 | y::p,D,hp,I=>by
  obtain⟨⟨x,hx,ex⟩,hn⟩:=hp y am
  have hu:CM y.1=x:=by rw[ex,lF]
  obtain⟨h1,h2⟩:=Ah (m:=m) EB hn (aR m (CM y.1) k) D (λz hz=>v_ hm (by rw[hu];exact hx) hz) I
  obtain⟨h3,h4⟩:=u5 hm EB k p _ (λz hz=>hp z (af _ hz)) h1
  have e:IP m most k D (y::p)=IP m most k (HI most y.2 (aR m (CM y.1) k) D) p:=rfl
  rw[e]
  refine⟨h3,λq=>?_⟩
  rw[h4 q,h2 q,hu]
  simp only[ap,bm]
  constructor
  ·rintro ((h | ⟨z,hz,e⟩) | ⟨x',MM,z,hz,e⟩)
   ·exact .inl h
   ·exact .inr ⟨x,.inl ex.symm,z,hz,e⟩
   ·exact .inr ⟨x',.inr MM,z,hz,e⟩
  ·rintro (h | ⟨x',MM | MM,z,hz,e⟩)
   ·exact .inl (.inl h)
   ·rw[ex] at MM
    have:=nT MM
    subst this
    exact .inl (.inr ⟨z,hz,e⟩)
   ·exact .inr ⟨x',MM,z,hz,e⟩
theorem B7.perm {p q:Pl}(I:B7 m p)(h:q.Perm p):B7 m q:=⟨λy hy=>I.un y (h.mem_iff.mp hy),λy hy=>I.ge y (h.mem_iff.mp hy),((h.map (·.1)).nodup_iff).mpr I.nd⟩
theorem Ky (hm:a_ m)(EB:1<=most){p:Pl}(I:B7 m p)(k:Nat):B7 m (dl m most p k)/\∀q,q∈(dl m most p k).map (·.1)↔∃x,BM x∈p.map (·.1)/\∃z∈aR m x k,q=BM z:=by
 obtain⟨h1,h2⟩:=u5 hm EB k p [] (λy hy=>⟨I.un y hy,I.ge y hy⟩) ⟨(λy hy=>by cases hy),(λy hy=>by cases hy),by simp⟩
 have hp:=w6 (IP m most k [] p)
 refine⟨h1.perm hp,λq=>?_⟩
 unfold dl
 rw[(hp.map (·.1)).mem_iff,h2 q]
 simp
def AH (m:qA)(B4:List (List zD×PV)):Prop:=∀x∈JY m,∀k,k < 4->(aJ B4 (kk x k)).getD (.lst [])=.lst ((aR m x k).map DF)
theorem Cw (z:Rest):AD [.int (z.1:Nat),.str (Nl z.2)]=some (kQ (BM z)):=rfl
theorem J5 {w:WS}{N Sd R:PV}{D:Pl}{n:Int}{z:Rest}(hD:D.length < 1000000):
  turn (gN 6) [6] cG (DF z) [some (w.pv 10),some N,some Sd,some (.dT (D.map kE)),some R,some (.int n),none]=some [some (w.pv 10),some N,some Sd,some (.dT ((LV w.most D n (BM z)).map kE)),some R,some (.int n),none]:=by
 have h1:=M7 w [some (w.pv 10),some N,some Sd,some (.dT (D.map kE)),some R,some (.int n),some (DF z)] (bV 0) rfl
 have h2:=Cw z
 have h3:=tW D (BM z)
 have h4:=M8 D (BM z) (mn w.most ((look D (BM z)).getD 0+n))
 have h5:((look D (BM z)).map PV.int).getD (.int 0)=.int ((look D (BM z)).getD 0):=by cases look D (BM z) <;> rfl
 unfold LV
 rw[← h4]
 unfold DF at h1 ⊢
 unfold mn
 generalize w.pv 10=WP at *
 simp[-AD,-gF,bZ,cG,h1,h2,h3,h5,hD]
theorem J6 (hm:a_ m)(hl:m.length<=3){w:WS}(ha:AH m w.B4)(EB:1<=w.most){N:PV}{D:Pl}(I:B7 m D){k:Nat}(hk:k < 4)(hy:∃x∈JY m,y.1=BM x)(hn:1<=y.2):
  turn (gT [4,5]) [4,5,6] cH (JE y) [some (w.pv 10),some N,some (AW k),some (.dT (D.map kE)),none,none,none]=some [some (w.pv 10),some N,some (AW k),some (.dT ((HI w.most y.2 (aR m (CM y.1) k) D).map kE)),none,none,none]:=by
 obtain⟨x,hx,ex⟩:=hy
 have hu:CM y.1=x:=by rw[ex,lF]
 have lp:=qF (g:=gN 6) (ds:=[6]) (body:=cG) DF (λD:Pl=>[some (w.pv 10),some N,some (AW k),some (.dT (D.map kE)),some (DF x),some (.int y.2),none]) (λD z=>LV w.most D y.2 (BM z))
  (λr D=>B7 m D/\∀z∈r,z∈JY m) (aR m x k) D ⟨I,λz hz=>v_ hm hx hz⟩ (λz r D ⟨i1,i2⟩=>⟨⟨Hd EB i1 hn (i2 z am),λz hz=>i2 z (af _ hz)⟩,J5 (by have:=i1.len hm hl;omega)⟩)
 have h1:=J3 w [some (w.pv 10),some N,some (AW k),some (.dT (D.map kE)),some (DF x),some (.int y.2),none] (bV 0) rfl
 have h2:=Cu x k
 have h3:=ha x hx k hk
 have e:JE y=.tup [DF x,.int y.2]:=by unfold JE DF;rw[ex];rfl
 rw[e,hu]
 have e2:HI w.most y.2 (aR m x k) D=(aR m x k).foldl (λD z=>LV w.most D y.2 (BM z)) D:=rfl
 rw[e2]
 generalize (aR m x k).foldl (λD z=>LV w.most D y.2 (BM z)) D=D2,(aR m x k).map DF=L,w.pv 10=WP,AW k=Sd,DF x=X,kk x k=kx at *
 simp[-AD,-gF,bZ,cH,h1,h2,h3,lp]
theorem R8 (hm:a_ m)(hl:m.length<=3){w:WS}(ha:AH m w.B4)(EB:1<=w.most){p:Pl}(I:B7 m p){n:Nat}(hp:w.CB[n]?=some (ET p)){k:Nat}(hk:k < 4):
  aF [w.pv 10,.int n,AW k]=some (ET (dl m w.most p k)):=by
 have h0:=u5 hm EB k
 have lp:=qF (g:=gT [4,5]) (ds:=[4,5,6]) (body:=cH) JE (λD:Pl=>[some (w.pv 10),some (.int n),some (AW k),some (.dT (D.map kE)),none,none,none]) (λD y=>HI w.most y.2 (aR m (CM y.1) k) D)
  (λr D=>B7 m D/\∀y∈r,(∃x∈JY m,y.1=BM x)/\1<=y.2) p [] ⟨⟨(λy hy=>by cases hy),(λy hy=>by cases hy),by simp⟩,λy hy=>⟨I.un y hy,I.ge y hy⟩⟩
  (by
   rintro y r D ⟨i1,i2⟩
   obtain⟨⟨x,hx,ex⟩,hn⟩:=i2 y am
   have hu:CM y.1=x:=by rw[ex,lF]
   exact⟨⟨(Ah EB hn _ D (λz hz=>v_ hm (by rw[hu];exact hx) hz) i1).1,λz hz=>i2 z (af _ hz)⟩,J6 hm hl ha EB i1 hk ⟨x,hx,ex⟩ hn⟩)
 have e:p.foldl (λD y=>HI w.most y.2 (aR m (CM y.1) k) D) []=IP m w.most k [] p:=rfl
 rw[e] at lp
 have hlen:=((h0 p [] (λy hy=>⟨I.un y hy,I.ge y hy⟩) ⟨(λy hy=>by cases hy),(λy hy=>by cases hy),by simp⟩).1).len hm hl
 have hd:=Ag (IP m w.most k [] p)
 have h1:=qH w [some (w.pv 10),some (.int n),some (AW k),some (.dT []),none,none,none] (bV 0) rfl
 have h2:B5 w.CB (n:Int)=some (ET p):=d_ hp
 have ZU:(IP m w.most k [] p).length < 64:=by omega
 unfold dl
 simp only[gE] at lp
 unfold ET at h2 ⊢
 generalize IP m w.most k [] p=D2,w.pv 10=WP,AW k=Sd,p.map JE=L at *
 simp[-gF,aF,iC,h1,h2,lp,hd,ZU]
def pl (m:qA)(most:Int)(r:Row):Pl:=r.foldl (dl m most) [(BM (0,[]),1)]
theorem wk (m:qA)(most:Int)(r:Row)(k:Nat):pl m most (r++[k])=dl m most (pl m most r) k:=by unfold pl;rw[List.foldl_append];rfl
def LW (m:qA):Row->Rest->Rest->Prop
 | [],y,x=>y=x
 | k::r,y,x=>∃z∈aR m y k,LW m r z x
theorem wu {m:qA}(hm:a_ m){most:Int}(EB:1<=most):∀(r:Row) (p:Pl),B7 m p->B7 m (r.foldl (dl m most) p)/\∀q,q∈(r.foldl (dl m most) p).map (·.1)↔∃y x,BM y∈p.map (·.1)/\LW m r y x/\q=BM x
 | [],p,I=>⟨I,λq=>by
  constructor
  ·intro h
   obtain⟨y,hy,e⟩:=bP.mp h
   obtain⟨x,_,ex⟩:=I.un y hy
   exact⟨x,x,by rw[← ex];exact bP.mpr ⟨y,hy,rfl⟩,rfl,by rw[← ex];exact e.symm⟩
  ·rintro ⟨y,x,h,e,rfl⟩
   have e:y=x:=e
   rw[← e];exact h⟩
 | k::r,p,I=>by
  obtain⟨h1,h2⟩:=Ky hm EB I k
  obtain⟨h3,h4⟩:=wu hm EB r _ h1
  rw[pc]
  refine⟨h3,λq=>?_⟩
  rw[h4 q]
  constructor
  ·rintro ⟨y,x,hy,hp,e⟩
   obtain⟨z,hz,y',YU,e'⟩:=(h2 _).mp hy
   have:=nT e'
   subst this
   exact⟨z,x,hz,⟨y,YU,hp⟩,e⟩
  ·rintro ⟨y,x,hy,⟨z,hz,hp⟩,e⟩
   exact⟨z,x,(h2 _).mpr ⟨y,hy,z,hz,rfl⟩,hp,e⟩
theorem Hf (AU:m≠[]):(0,[])∈JY m:=by
 have hl:=gz.mpr AU
 refine bn _ (bP.mpr ⟨(0,0,0),DD.mpr ⟨m[0],ai hl,.inl rfl⟩,rfl⟩)
theorem Ai (AU:m≠[]):B7 m [(BM (0,[]),1)]:=by
 refine⟨λy hy=>?_,λy hy=>?_,by simp⟩
 ·rw[aw] at hy;subst hy;exact⟨_,Hf AU,rfl⟩
 ·rw[aw] at hy;subst hy;exact Int.le_refl _
theorem Er (hm:a_ m)(AU:m≠[])(EB:1<=most)(r:Row):B7 m (pl m most r):=(wu hm EB r _ (Ai AU)).1
theorem Nb (hm:a_ m)(AU:m≠[])(EB:1<=most)(r:Row)(q:Int×Str):q∈(pl m most r).map (·.1)↔∃x,LW m r (0,[]) x/\q=BM x:=by
 unfold pl
 rw[(wu hm EB r _ (Ai AU)).2 q]
 constructor
 ·rintro ⟨y,x,hy,hp,e⟩
  have:y=(0,[]):=nT (by simpa using hy)
  subst this
  exact⟨x,hp,e⟩
 ·rintro ⟨x,hp,e⟩
  exact⟨(0,[]),x,by simp,hp,e⟩
noncomputable def rem (L:Nat)(x:Rest):Nat:=if x.2=[] then 3*(L - x.1) else x.2.length+3*(L - x.1 - 1)
theorem Cy {L:Nat}{cut:Bool}{l:qc}{y:Rest}(hl:slot < L)(h:y∈Nn slot cut l mark ends):rem L y+1<=l.length+3*(L - slot - 1):=by
 unfold Nn at h
 split at h
 ·cases h
 ·rename_i c r
  split at h
  ·split at h
   ·rename_i hr
    rw[aw] at h
    subst h
    unfold rem
    rw[ax hr]
    simp;omega
   ·split at h
    ·cases h
    ·rw[aw] at h
     subst h
     unfold rem
     simp
     rw[Nat.sub_sub];omega
  ·cases h
theorem Nf (hm:a_ m){x y:Rest}{k:Nat}(h:y∈aR m x k):rem m.length y+1<=rem m.length x:=by
 unfold aR iZ at h
 split at h
 ·cases h
 ·rename_i s hs
  have A6:=(ag.mp hs).1
  split at h
  ·rename_i hx
   obtain⟨p,hp,h⟩:=d3.mp h
   have h1:=Cy A6 h
   have h2:=((hm s (dn hs)).ok p hp).le
   rw[fM] at h1
   have:rem m.length x=3*(m.length - x.1):=by unfold rem;rw[a0 hx]
   omega
  ·rename_i hx
   have h1:=Cy A6 h
   have:rem m.length x=x.2.length+3*(m.length - x.1 - 1):=by unfold rem;rw[ax hx]
   omega
theorem ww {m:qA}(hm:a_ m):∀(r:Row) (y x:Rest),LW m r y x->r.length<=rem m.length y
 | [],_,_,_=>cq _
 | k::r,y,x,⟨z,hz,h⟩=>by
  have h1:=ww hm r z x h
  have h2:=Nf hm hz
  simp;omega
theorem R9 (hm:a_ m)(AU:m≠[])(hl:m.length<=3)(EB:1<=most)(r:Row)(h:9 < r.length):pl m most r=[]:=by
 cases e:pl m most r with
 | nil=>rfl
 | cons y p=>
  have:y.1∈(pl m most r).map (·.1):=by rw[e];simp
  obtain⟨x,hp,_⟩:=(Nb hm AU EB r _).mp this
  have h1:=ww hm r _ _ hp
  have:rem m.length (0,[])=3*m.length:=by simp[rem]
  omega
theorem wd (hm:a_ m)(AU:m≠[])(hl:m.length<=3)(EB:1<=most)(ha:AH m B4):Wd aF 10 gj B4 most (pl m most):=by
 refine⟨?_,R9 hm AU hl EB,rfl⟩
 intro w n r k s e1 e2 hp hs
 have hk:k < 4:=by
  have:=(ag.mp hs).1
  exact this
 rw[QT hk] at hs
 cases hs
 subst e1 e2
 rw[wk]
 exact R8 hm hl ha EB (Er hm AU EB r) hp hk
theorem Ng {w:WS}{p:Pl}{n:Nat}(hp:w.CB[n]?=some (ET p)):bh [w.pv 10,.int n]=some (.bl (decide (p=[]))):=by
 have h1:=qH w [some (w.pv 10),some (.int n)] (bV 0) rfl
 have h2:B5 w.CB (n:Int)=some (ET p):=d_ hp
 unfold ET at h2
 have e:decide ((p.length:Int)=0)=decide (p=[]):=by
  cases p with
  | nil=>rfl
  | cons y p=>simp;omega
 generalize w.pv 10=WP at *
 simp[-gF,bh,lA,h1,h2]
 try exact e
theorem Aj:∀p:Pl,oW (p.map JE)=some (p.map kE)
 | []=>rfl
 | y::p=>by
  rw[ap]
  show (AD [.int y.1.1,.str y.1.2]).bind _=_
  rw[show AD [.int y.1.1,.str y.1.2]=some (kQ y.1) from rfl,ay,Aj p]
  rfl
theorem Ak:∀(p q:Pl),((q++p).map (·.1)).Nodup->iJ (p.map kE) (q.map kE)=(q++p).map kE
 | [],q,_=>by simp[iJ]
 | y::p,q,h=>by
  have hn:aJ (q.map kE) (kQ y.1)=none:=by
   rw[tW]
   unfold look
   rw[gS,gS,dE]
   intro z hz e
   rw[cf,gl] at h
   exact h.2.2 z.1 (bP.mpr ⟨z,hz,rfl⟩) y.1 (by simp) (by simpa using e)
  have e:iJ ((y::p).map kE) (q.map kE)=iJ (p.map kE) ((q++[y]).map kE):=by
   show iJ (p.map kE) (bD (q.map kE) (kQ y.1) (.int y.2))=_
   rw[jt hn,cf];rfl
  rw[e,Ak p (q++[y]) (by simpa using h)]
  simp
theorem Nh {w:WS}{p:Pl}{n:Nat}{e:Rest}(hm:a_ m)(hl:m.length<=3)(I:B7 m p)(hp:w.CB[n]?=some (ET p))(hf:w.fin=DF e):bU [w.pv 10,.int n]=some (.int ((look p (BM e)).getD 0)):=by
 have h1:=qH w [some (w.pv 10),some (.int n)] (bV 0) rfl
 have h0:=QX w [some (w.pv 10),some (.int n)] (bV 0) rfl
 have h2:B5 w.CB (n:Int)=some (ET p):=d_ hp
 unfold ET at h2
 have h3:=Aj p
 have h4:=Ak p [] (by simpa using I.nd)
 rw[gE,ii] at h4
 have h5:=tW p (BM e)
 have h6:=Cw e
 have h7:(p.map kE).length<=1000000:=by have:=I.len hm hl;simp;omega
 have h8:((look p (BM e)).map PV.int).getD (.int 0)=.int ((look p (BM e)).getD 0):=by cases look p (BM e) <;> rfl
 rw[hf] at h0
 unfold DF at h0
 generalize w.pv 10=WP,p.map JE=L,p.map kE=K at *
 simp[-gF,-AD,bU,iT,h0,h1,h2,h3,h4,h5,h6,h7,h8]
def cF (m:qA):Rest:=(m.length,[])
noncomputable def ZV (m:qA)(r:Row):Bool:=@decide (LW m r (0,[]) (cF m)) (Classical.propDecidable _)
theorem KS:ZV m r=true↔LW m r (0,[]) (cF m):=by unfold ZV;simp
theorem Ni (w:WS):(List.lookup ("ways_to_end" : Str) [(("ahead" : Str),PV.dT w.B4),("most",.int w.most),("end",w.fin),("places",.lst w.CB),("numbers",.dT w.nums),("onward",.dK w.D8)])=none:=by
 have a1:(("ways_to_end" : Str) == "ahead")=false:=by decide +kernel
 have a2:(("ways_to_end" : Str) == "most")=false:=by decide +kernel
 have a3:(("ways_to_end" : Str) == "end")=false:=by decide +kernel
 have a4:(("ways_to_end" : Str) == "places")=false:=by decide +kernel
 have a5:(("ways_to_end" : Str) == "numbers")=false:=by decide +kernel
 have a6:(("ways_to_end" : Str) == "onward")=false:=by decide +kernel
 simp[List.lookup,a1,a2,a3,a4,a5,a6]
theorem Q0 {w1:WS}{i a:Int}(h1:bU [w1.pv 10,.int i]=some (.int a)):
  cB [.lst [w1.pv 10],.tup [.int i]]=some (.bl (decide (1 < a))):=by
 have l1:=Ni w1
 unfold WS.pv at *
 simp[cB,rT,h1,l1]
theorem Nj {N:PV}{n:qq}{ss:List PV}(h:Chain D n ss):∀(f:Nat) (acc:List PV),ss.length < f->acc.length+ss.length < 1000->
  gG cC [] dz f [some (.dT D),some N,some (.lst acc),some (A9 n)]=some (.nx [some (.dT D),some N,some (.lst (acc++ss.reverse)),some (A9 (List.replicate 0 0) )])\/∃n0,gG cC [] dz f [some (.dT D),some N,some (.lst acc),some (A9 n)]=some (.nx [some (.dT D),some N,some (.lst (acc++ss.reverse)),some (A9 n0)]):=by
 induction h with
 | nil h0=>
  rename_i n
  intro f acc hf _
  cases f with
  | zero=>simp at hf
  | succ f=>
   refine .inr ⟨n,?_⟩
   have hk:=iM n
   unfold A9
   unfold gG
   have e:cC [some (.dT D),some N,some (.lst acc),some (.tup (n.map .int))]=some false:=by simp[-AD,cC,hk,h0]
   rw[e]
   simp
 | snoc h0 h1 ih=>
  rename_i n n' s ss
  intro f acc hf ha
  cases f with
  | zero=>simp at hf
  | succ f=>
   have hk:=iM n'
   simp only[bp,fe] at hf ha
   have ih:=ih f (acc++[s]) (by omega) (by simp;omega)
   have hl:acc.length < 1000000:=by omega
   have e:gG cC [] dz (f+1) [some (.dT D),some N,some (.lst acc),some (A9 n')]=gG cC [] dz f [some (.dT D),some N,some (.lst (acc++[s])),some (A9 n)]:=by
    conv=>lhs;unfold gG
    unfold A9 at h0 ⊢
    have e1:cC [some (.dT D),some N,some (.lst acc),some (.tup (n'.map .int))]=some true:=by simp[-AD,cC,hk,h0]
    have e2:dz [some (.dT D),some N,some (.lst acc),some (.tup (n'.map .int))]=some (.nx [some (.dT D),some N,some (.lst (acc++[s])),some (.tup (n.map .int))]):=by simp[-AD,dz,hk,h0,hl]
    rw[e1]
    simp[e2]
   rw[e]
   rw[List.reverse_append,List.reverse_singleton,k7]
   rw[eM,k7] at ih
   exact ih
theorem R_ {n:qq}{ss:List PV}(h:Chain D n ss)(hl:ss.length<=9):cU [.dT D,A9 n]=some (.lst ss):=by
 have key:∃n0,gG cC [] dz 1000000 [some (.dT D),some (A9 n),some (.lst []),some (A9 n)]=some (.nx [some (.dT D),some (A9 n),some (.lst ss.reverse),some (A9 n0)]):=by
  rcases Nj (N:=A9 n) h 1000000 [] (by omega) (by simp;omega) with h | ⟨n0,h⟩
  ·exact⟨_,by simpa using h⟩
  ·exact⟨n0,by simpa using h⟩
 obtain⟨n0,key⟩:=key
 unfold A9 at key ⊢
 generalize n.map PV.int=L,n0.map PV.int=L0 at *
 simp[cU,xu,key]
theorem J7 (m:qA):bG [mP m]=some (cA (m.length,0,0)):=by simp[bG,lC,mP,cA,ES]
theorem J8 (m:qA):bK [mP m,gH]=some (DF (0,[])):=by
 have e:=Cq
 simp[bK,jY,mP,gH,DF,e]
theorem Nk (hm:a_ m)(AU:m≠[])(hl:m.length<=3)(EB:1<=most):∃w B4,AH (Bn m) B4/\VD bF bI bK bG gH (mP m) most=some w/\WI B4 most (DF (cF (Bn m))) (pl (Bn m) most) w [pl (Bn m) most []]:=by
 obtain⟨c1,c2,c3⟩:=qG hm AU
 obtain⟨D,h1,h2⟩:=J2 c1 (by omega)
 have h3:=QW AU hl
 have h4:=J7 (Bn m)
 have h5:=v9 c1 (t:=((Bn m).length,0,0)) (Hb (Bn m))
 have h6:=J8 (Bn m)
 have h7:AD [.tup [DF (0,[]),.int 1]]=some (JU (pl (Bn m) most [])):=rfl
 refine⟨{ B4:=D,most:=most,fin:=DF (cF (Bn m)),CB:=[ET (pl (Bn m) most [])],nums:=[(JU (pl (Bn m) most []),.int 0)],D8:=[] },D,h2,?_,WI.new⟩
 unfold VD
 simp only[h3,ay,h1,h4,h5,h6,h7]
 rfl
noncomputable def bj (cut:Bool):List Nat->Row->Bool
 | [],_=>false
 | _::_,[]=>false
 | c::l,k::a=>AE ⟨#[c]⟩ (B0 k)&&match l with
  | []=>decide (a=[])&&(!cut||C7 k)
  | _::_=>bj cut l a
def Seg:List Slot->Row->Prop
 | [],r=>r=[]
 | s::ms,r=>∃p∈s.1,∃a b,r=a++b/\bj s.2 p.cps.toList a=true/\Seg ms b
theorem wz {m:qA}{slot:Nat}{s:Slot}(hs:m[slot]?=some s):∀(l:qc) (r:Row),l≠[]->(LW m r (slot,l) (cF m)↔∃a b,r=a++b/\bj s.2 l a=true/\LW m b (slot+1,[]) (cF m))
 | [],_,h=>absurd rfl h
 | c::l,[],_=>by
  constructor
  ·intro h
   have h:(slot,c::l)=cF m:=h
   cases h
  ·rintro ⟨a,b,e,h,_⟩
   have:a=[]:=(List.append_eq_nil_iff.mp e.symm).1
   subst this
   simp[bj] at h
 | c::l,k::r,_=>by
  have Ve:aR m (slot,c::l) k=if AE ⟨#[c]⟩ (B0 k)=true then (if l≠[] then [(slot,l)] else if (s.2&&!C7 k)=true then [] else [(slot+1,[])]) else []:=by
   unfold aR iZ
   simp only[hs]
   rw[ax (by simp)]
   rfl
  show (∃z∈aR m (slot,c::l) k,LW m r z (cF m))↔_
  rw[Ve]
  by_cases CL:AE ⟨#[c]⟩ (B0 k)=true
  ·rw[a0 CL]
   cases l with
   | nil=>
    rw[ax (by simp)]
    by_cases hc:(s.2&&!C7 k)=true
    ·rw[a0 hc]
     constructor
     ·rintro ⟨z,hz,_⟩;cases hz
     ·rintro ⟨a,b,e,h,_⟩
      cases a with
      | nil=>simp[bj] at h
      | cons k' a=>
       rw[fq] at e
       injection e with e1 e2
       subst e1
       simp[bj] at h
       simp at hc
       rcases h.2.2 with h | h
       ·rw[hc.1] at h;cases h
       ·rw[hc.2] at h;cases h
    ·rw[ax hc]
     constructor
     ·rintro ⟨z,hz,hp⟩
      rw[aw] at hz
      subst hz
      refine⟨[k],r,rfl,?_,hp⟩
      simp[bj,CL]
      cases h1:s.2 <;> cases h2:C7 k <;> simp_all
     ·rintro ⟨a,b,e,h,hp⟩
      cases a with
      | nil=>simp[bj] at h
      | cons k' a=>
       rw[fq] at e
       injection e with e1 e2
       subst e1
       simp[bj] at h
       rw[h.2.1,ii] at e2
       subst e2
       exact⟨_,by simp,hp⟩
   | cons c' l=>
    rw[a0 (by simp)]
    have ih:=wz hs (c'::l) r (by simp)
    constructor
    ·rintro ⟨z,hz,hp⟩
     rw[aw] at hz
     subst hz
     obtain⟨a,b,e,h,hp⟩:=ih.mp hp
     exact⟨k::a,b,by rw[e];rfl,by rw[bj];simp[CL,h],hp⟩
    ·rintro ⟨a,b,e,h,hp⟩
     cases a with
     | nil=>simp[bj] at h
     | cons k' a=>
      rw[fq] at e
      injection e with e1 e2
      subst e1
      rw[bj] at h
      simp[CL] at h
      exact⟨_,by simp,ih.mpr ⟨a,b,e2,h,hp⟩⟩
  ·rw[ax CL]
   constructor
   ·rintro ⟨z,hz,_⟩;cases hz
   ·rintro ⟨a,b,e,h,_⟩
    cases a with
    | nil=>simp[bj] at h
    | cons k' a=>
     rw[fq] at e
     injection e with e1 e2
     subst e1
     unfold bj at h
     simp[CL] at h
theorem fJ (h:BB p):p.cps.toList≠[]:=by
 intro z
 have:=dP List.length z
 rw[fM] at this
 have:=h.ge
 simp at *
 omega
theorem seg_iff {m:qA}(hm:a_ m):∀(n slot:Nat) (r:Row),slot+n=m.length->(LW m r (slot,[]) (cF m)↔Seg (m.drop slot) r)
 | 0,slot,r,h=>by
  have:m.drop slot=[]:=by rw[dv];omega
  rw[this]
  have e:slot=m.length:=by omega
  subst e
  cases r with
  | nil=>exact⟨λ_=>rfl,λ_=>rfl⟩
  | cons k r=>
   constructor
   ·rintro ⟨z,hz,_⟩
    unfold aR at hz
    rw[wg] at hz
    cases hz
   ·intro h;cases h
 | n+1,slot,r,h=>by
  have A6:slot < m.length:=by omega
  have hs:m[slot]?=some m[slot]:=ai A6
  have ok:=hm m[slot] (iE A6)
  rw[cb A6]
  generalize m[slot]=s at *
  have ih:=seg_iff hm n (slot+1)
  show _↔∃p∈s.1,∃a b,r=a++b/\bj s.2 p.cps.toList a=true/\Seg (m.drop (slot+1)) b
  have e:LW m r (slot,[]) (cF m)↔∃p∈s.1,LW m r (slot,p.cps.toList) (cF m):=by
   cases r with
   | nil=>
    constructor
    ·intro z
     have z:(slot,[])=cF m:=z
     have:=dP Prod.fst z
     simp[cF] at this
     omega
    ·rintro ⟨p,hp,z⟩
     have z:(slot,p.cps.toList)=cF m:=z
     exact absurd (dP Prod.snd z) (fJ (ok.ok p hp))
   | cons k r=>
    have h1:aR m (slot,[]) k=s.1.flatMap λp=>Nn slot s.2 p.cps.toList (B0 k) (C7 k):=by
     unfold aR iZ;simp only[hs];rfl
    have h2:∀p∈s.1,aR m (slot,p.cps.toList) k=Nn slot s.2 p.cps.toList (B0 k) (C7 k):=by
     intro p hp
     unfold aR iZ;simp only[hs];rw[ax (fJ (ok.ok p hp))]
    constructor
    ·rintro ⟨z,hz,hp⟩
     rw[h1] at hz
     obtain⟨p,PR,hz⟩:=d3.mp hz
     exact⟨p,PR,z,by rw[h2 p PR];exact hz,hp⟩
    ·rintro ⟨p,PR,z,hz,hp⟩
     rw[h2 p PR] at hz
     exact⟨z,by rw[h1];exact d3.mpr ⟨p,PR,hz⟩,hp⟩
  rw[e]
  constructor
  ·rintro ⟨p,hp,h⟩
   obtain⟨a,b,e1,e2,e3⟩:=(wz hs _ r (fJ (ok.ok p hp))).mp h
   exact⟨p,hp,a,b,e1,e2,(ih b (by omega)).mp e3⟩
  ·rintro ⟨p,hp,a,b,e1,e2,e3⟩
   exact⟨p,hp,(wz hs _ r (fJ (ok.ok p hp))).mpr ⟨a,b,e1,e2,(ih b (by omega)).mpr e3⟩⟩
theorem Q3 (hm:a_ m)(r:Row):ZV m r=true↔Seg m r:=by
 rw[KS]
 have:=seg_iff hm m.length 0 r (by omega)
 rw[mx] at this
 exact this
noncomputable def dw (r:Row):Bool:=(r.getLast?.map C7).getD false
theorem Es (k:Nat)(r:Row)(h:r≠[]):dw (k::r)=dw r:=by
 unfold dw
 rw[List.getLast?_cons,ce h]
 rfl
theorem lV (a b:Row)(h:b≠[]):dw (a++b)=dw b:=by
 unfold dw
 rw[List.getLast?_append,ce h]
 rfl
theorem Cz {cut:Bool}:∀{l:qc}{a:Row},bj cut l a=true->a≠[]
 | [],_,h=>by simp[bj] at h
 | _::_,[],h=>by simp[bj] at h
 | _::_,_::_,_=>by simp
theorem pq {c:Bool}:∀(l:qc) (a:Row),bj true l a=(bj c l a&&dw a)
 | [],_=>by simp[bj]
 | _::_,[]=>by simp[bj]
 | x::[],k::a=>by
  cases a with
  | nil=>simp[bj,dw];cases C7 k <;> simp
  | cons=>simp[bj]
 | x::y::l,k::a=>by
  rw[bj,bj]
  rw[pq (c:=c) (y::l) a]
  cases a with
  | nil=>simp[bj]
  | cons j a=>rw[Es k (j::a) (by simp),Bool.and_assoc]
theorem u9:∀{ms:qA}{r:Row},ms≠[]->Seg ms r->r≠[]
 | [],_,h,_=>absurd rfl h
 | s::ms,r,_,⟨p,hp,a,b,e,h,_⟩=>by
  have:=Cz h
  rw[e]
  simp[this]
theorem wA (ps:qo)(c:Bool):∀(ms:qA) (r:Row),Seg (ms++[(ps,true)]) r↔Seg (ms++[(ps,c)]) r/\dw r=true
 | [],r=>by
  constructor
  ·rintro ⟨p,hp,a,b,e,h,hb⟩
   have hb:b=[]:=hb
   subst hb
   rw[br] at e
   subst e
   rw[pq (c:=c)] at h
   simp at h
   exact⟨⟨p,hp,r,[],by simp,h.1,rfl⟩,h.2⟩
  ·rintro ⟨⟨p,hp,a,b,e,h,hb⟩,hl⟩
   have hb:b=[]:=hb
   subst hb
   rw[br] at e
   subst e
   exact⟨p,hp,r,[],by simp,by rw[pq (c:=c)];simp[h,hl],rfl⟩
 | s::ms,r=>by
  constructor
  ·rintro ⟨p,hp,a,b,e,h,hb⟩
   obtain⟨h1,h2⟩:=(wA ps c ms b).mp hb
   exact⟨⟨p,hp,a,b,e,h,h1⟩,by rw[e,lV a b (u9 (by simp) hb)];exact h2⟩
  ·rintro ⟨⟨p,hp,a,b,e,h,hb⟩,hl⟩
   exact⟨p,hp,a,b,e,h,(wA ps c ms b).mpr ⟨hb,by rw[e,lV a b (u9 (by simp) hb)] at hl;exact hl⟩⟩
theorem Nm (AU:m≠[])(r:Row):Seg (Bn m) r↔Seg m r/\dw r=true:=by
 have e:m=m.dropLast++[((m.getLast AU).1,(m.getLast AU).2)]:=(gx AU).symm
 have e2:Bn m=m.dropLast++[((m.getLast AU).1,true)]:=by unfold Bn;rw[ce AU];rfl
 rw[e2]
 conv=>rhs;rw[e]
 exact wA _ _ _ r
theorem j6 {cut:Bool}:∀(l:qc) (a:Row),l≠[]->(bj cut l a=true↔a.length=l.length/\(∀k,k < l.length->AE ⟨#[l.getD k 0]⟩ (B0 (a.getD k 0))=true)/\(cut=true->C7 (a.getD (l.length - 1) 0)=true))
 | [],_,h=>absurd rfl h
 | c::l,[],_=>by simp[bj]
 | c::[],k::a,_=>by
  cases a with
  | nil=>
   simp[bj]
   intro _
   cases cut <;> simp
  | cons=>simp[bj]
 | c::d::l,k::a,_=>by
  rw[bj]
  simp only[b6]
  rw[j6 (d::l) a (by simp)]
  constructor
  ·rintro ⟨h1,h2,h3,h4⟩
   refine⟨by simp at h2 ⊢;omega,?_,?_⟩
   ·intro j hj
    cases j with
    | zero=>exact h1
    | succ j=>exact h3 j (by simp at hj ⊢;omega)
   ·intro z
    exact h4 z
  ·rintro ⟨h1,h2,h3⟩
   refine⟨h2 0 (by simp),by simp at h1 ⊢;omega,λj hj=>h2 (j+1) (by simp at hj ⊢;omega),λz=>h3 z⟩
noncomputable def rP (r:Row):PV:=.lst (r.map AW)
noncomputable def QN (r:Row)(i:Nat)(p:Str)(cut:Bool):Bool:=decide (i+p.length<=r.length)&&((!cut||C7 (r.getD (i+p.length - 1) 0))&&(List.range p.length).all λk=>AE (bB p k) (B0 (r.getD (i+k) 0)))
theorem wB {cut:Bool}(hp:BB p):QN r i p cut=true↔i+p.length<=r.length/\bj cut p.cps.toList ((r.drop i).take p.length)=true:=by
 unfold QN
 simp only[b6,ed,gc,b0]
 have X6:=hp.ge
 constructor
 ·rintro ⟨h1,h2,h3⟩
  refine⟨h1,(j6 _ _ (fJ hp)).mpr ⟨?_,?_,?_⟩⟩
  ·rw[fM,gX,g6];omega
  ·intro k hk
   rw[fM] at hk
   have:=h3 k hk
   rw[bb (l:=List.take _ _),kz,a0 hk,kA,← bb]
   exact this
  ·intro hc
   rw[fM,bb,kz,a0 (by omega),kA,← bb,show i+(p.length - 1)=i+p.length - 1 by omega]
   simpa [hc] using h2
 ·rintro ⟨h1,h2⟩
  obtain⟨a,b,c⟩:=(j6 _ _ (fJ hp)).mp h2
  refine⟨h1,?_,?_⟩
  ·cases hc:cut with
   | false=>rfl
   | true=>
    have:=c hc
    rw[fM,bb,kz,a0 (by omega),kA,← bb,show i+(p.length - 1)=i+p.length - 1 by omega] at this
    simp[-List.getD_eq_getElem?_getD,this]
  ·intro k hk
   have:=b k (by rw[fM];exact hk)
   rw[bb (l:=List.take _ _),kz,a0 hk,kA,← bb] at this
   exact this
theorem Et {k:Nat}(h:k < r.length):B5 (r.map AW) (k:Int)=some (AW (r.getD k 0)):=by
 refine d_ ?_
 rw[cm,ai h]
 simp[h]
theorem J9 (n:Nat)(f:Nat->Bool):(((List.range n).filter λk=>!f k)=[])↔(List.range n).all f=true:=by
 rw[List.filter_eq_nil_iff,gc]
 simp
theorem Q4 (l:qc)(h:l.length < 1000):F4 (.lst (l.map λk=>PV.int (k:Nat))) (.lst [])=some (decide (l=[])):=by
 cases l with
 | nil=>exact Mw
 | cons k l=>
  rw[ap]
  have:=rW (n:=1) (x:=.int (k:Nat)) (xs:=l.map λk=>PV.int (k:Nat)) (by
   simp only[D3]
   intro x hx
   rcases bm.mp hx with rfl | hx
   ·simp[D3]
   ·obtain⟨j,_,rfl⟩:=bP.mp hx;simp[D3]) (by decide)
  rw[this]
  simp
theorem Np (hr:r.length < 1000)(hi:i < 1000)(hp:BB p)(cut:Bool):aU [rP r,.int i,.str p,.bl cut]=some (.bl (QN r i p cut)):=by
 have A8:p.length<=1000000:=by have:=hp.le;omega
 have X6:=hp.ge
 have hle:=hp.le
 by_cases h1:i+p.length<=r.length
 ·have hx:¬ (r.length:Int) < (i:Int)+p.length:=by omega
  have ea:((i:Int)+p.length - 1)=((i+p.length - 1:Nat):Int):=by omega
  have h2:=Et (r:=r) (k:=i+p.length - 1) (by omega)
  rw[← ea] at h2
  have comp:dq [none,some (.str p),some (rP r),some (.int i)] (gN 0) jq jo ((List.range p.length).map λk=>PV.int (k:Nat))=some (((List.range p.length).filter λk=>!AE (bB p k) (B0 (r.getD (i+k) 0))).map λk=>PV.int (k:Nat)):=by
   refine qw _ _ (λk=>!AE (bB p k) (B0 (r.getD (i+k) 0))) (List.range p.length) λk hk=>⟨_,rfl,?_,λ_=>by simp[jo]⟩
   have F8:=b0.mp hk
   have h3:=Et (r:=r) (k:=i+k) (by omega)
   have h3:B5 (r.map AW) ((i:Int)+(k:Int))=some (AW (r.getD (i+k) 0)):=by exact_mod_cast h3
   have h4:=zU F8
   have h5:ML (.str (bB p k)) (.tup [.str "x",.str (B0 (r.getD (i+k) 0))])=some (AE (bB p k) (B0 (r.getD (i+k) 0))):=by
    have:=xx (bB p k) ["x",B0 (r.getD (i+k) 0)]
    rw[show ([("x" : Str),B0 (r.getD (i+k) 0)].map PV.str)=[.str "x",.str (B0 (r.getD (i+k) 0))] from rfl] at this
    rw[this]
    unfold AE
    congr 1
    rw[fI]
    simp[or_comm]
   unfold bB at h5
   unfold rP
   rw[show AW (r.getD (i+k) 0)=.tup [.str (B0 (r.getD (i+k) 0)),.bl (C7 (r.getD (i+k) 0))] from rfl] at h3
   generalize B0 (r.getD (i+k) 0)=mk,C7 (r.getD (i+k) 0)=en at *
   simp[-List.getD_eq_getElem?_getD,jq,h3,h4,A8,h5,bB]
  have en:=Q4 ((List.range p.length).filter λk=>!AE (bB p k) (B0 (r.getD (i+k) 0))) (by have:=List.length_filter_le (λk=>!AE (bB p k) (B0 (r.getD (i+k) 0))) (List.range p.length);simp at this ⊢;omega)
  have fa:=J9 p.length λk=>AE (bB p k) (B0 (r.getD (i+k) 0))
  have OK:F7 (p.length:Int)=true:=jK (by omega) (by omega)
  have hrl:((List.range p.length).map λk=>PV.int (k:Nat)).length<=1000000:=by simp;omega
  have ZW:=ir p.length
  unfold QN
  rw[g9 h1,Bool.true_and]
  unfold rP at comp ⊢
  rw[show AW (r.getD (i+p.length - 1) 0)=.tup [.str (B0 (r.getD (i+p.length - 1) 0)),.bl (C7 (r.getD (i+p.length - 1) 0))] from rfl] at h2
  generalize (List.range p.length).map (λk=>PV.int (k:Nat))=RR,hF:((List.range p.length).filter λk=>!AE (bB p k) (B0 (r.getD (i+k) 0)))=F at *
  have e3:(List.range p.length).all (λk=>AE (bB p k) (B0 (r.getD (i+k) 0)))=decide (F=[]):=by
   rw[fI,← fa];simp
  rw[e3]
  generalize F.map (λk=>PV.int (k:Nat))=FF,B0 (r.getD (i+p.length - 1) 0)=mk,C7 (r.getD (i+p.length - 1) 0)=ee at *
  cases cut <;> cases ee <;> simp[-List.getD_eq_getElem?_getD,aU,lD,A8,hx,h2,OK,ZW,hrl,comp,en]
 ·have hx:(r.length:Int) < (i:Int)+p.length:=by omega
  have:QN r i p cut=false:=by unfold QN;simp[h1]
  rw[this]
  simp[aU,lD,rP,A8,hx]
theorem Nq (h:mark = "u" \/ mark = "-")(e:Bool):∃q,q < 4/\B0 q=mark/\C7 q=e:=by
 rcases h with rfl | rfl <;> cases e
 ·exact⟨0,by decide,rfl,rfl⟩
 ·exact⟨1,by decide,rfl,rfl⟩
 ·exact⟨2,by decide,rfl,rfl⟩
 ·exact⟨3,by decide,rfl,rfl⟩
theorem Sg {i:Int}(h0:0<=i)(h1:i < 2):∃c,((⟨#[c]⟩:Str) = "u" \/ (⟨#[c]⟩:Str) = "-")/\B5 (("u-" : Str).cps.toList) i=some c:=by
 have e:("u-" : Str).cps.toList=[117,45]:=by decide +kernel
 obtain⟨k,rfl⟩:∃k:Nat,i=k:=⟨i.toNat,by omega⟩
 rw[e]
 have hk:k=0\/k=1:=by omega
 rcases hk with rfl | rfl
 ·exact⟨117,.inl (by decide +kernel),rfl⟩
 ·exact⟨45,.inr (by decide +kernel),rfl⟩
theorem Q5:("u-" : Str).length<=1000000:=by decide +kernel
theorem Q6 (a b c d:Int)(hj:j < 4):∃v,B5 [PV.int a,.int b,.int c,.int d] (j:Int)=some (.int v)/\(v=a\/v=b\/v=c\/v=d):=by
 have:j=0\/j=1\/j=2\/j=3:=by omega
 rcases this with rfl | rfl | rfl | rfl
 ·exact⟨a,rfl,.inl rfl⟩
 ·exact⟨b,rfl,.inr (.inl rfl)⟩
 ·exact⟨c,rfl,.inr (.inr (.inl rfl))⟩
 ·exact⟨d,rfl,.inr (.inr (.inr rfl))⟩
theorem Hg {cl:PV}{L:qc}(hL:L.length < 1000){K:Nat}{n:Int}(hp:BB p)(hj:j < p.length):
  ∃q,q < 4/\AE (bB p j) (B0 q)=true/\(j+1=p.length->(s.2=true\/K+1=m.length)->C7 q=true) /\
   turn (gN 7) [7,8,9] eG (.int j) [some (mP m),some cl,some (.lst (L.map AW)),some (.int K),some (BF s),some (.int n),some (.str p),none,none,none]=some [some (mP m),some cl,some (.lst ((L++[q]).map AW)),some (.int K),some (BF s),some (.int n),some (.str p),none,none,none]:=by
 have hle:=hp.le
 have A8:p.length<=1000000:=by omega
 have h1:=zU hj
 have hL':L.length < 1000000:=by omega
 obtain⟨v1,t1,hv1⟩:=Q6 4 8 16 32 (j:=j) (by omega)
 obtain⟨v2,t2,hv2⟩:=Q6 64 128 256 512 (j:=j) (by omega)
 have ZX:0 < v1/\v1 < 1073741824:=by omega
 have ZY:0 < v2/\v2 < 1073741824:=by omega
 have Vm:=hp.cs (p.cps.toList.getD j 0) (by
  rw[bb,ai (by rw[fM];exact hj)]
  exact iE _)
 obtain⟨c,hc,hcu⟩:=Sg (i:=n / v1 % 2) (by omega) (by omega)
 have hul:=Q5
 generalize he:((decide (n / v2 % 2=1)||(s.2&&decide ((j:Int)+1=p.length)))||(decide ((K:Int)+1=m.length)&&decide ((j:Int)+1=p.length)))=e
 have ZZ:j+1=p.length->(s.2=true\/K+1=m.length)->e=true:=by
  intro a b
  rw[← he]
  have a':(j:Int)+1=p.length:=by omega
  rcases b with b | b
  ·simp[a',b]
  ·have b':(K:Int)+1=m.length:=by omega
   simp[a',b']
 obtain⟨mark,hmk,CL,Z0⟩:∃mark:Str,(mark = "u" \/ mark = "-")/\AE (bB p j) mark=true/\(∀rest,aP (bM 8 (b2 AX (bV 6) (bV 7))) (aP (E9 (tV (b2 eqQ (bV 8) (bC (.str "x")))) (bM 8 (b2 AX (bC (.str "u-")) (b2 ie (b2 l_ (bV 5) (b2 AX (fY (au (zv 4) (au (zv 8) (au (zv 16) (au (zv 32) aQ))))) (bV 7))) (zv 2)))) E8) rest) [some (mP m),some cl,some (.lst (L.map AW)),some (.int K),some (BF s),some (.int n),some (.str p),some (.int j),none,none]=rest [some (mP m),some cl,some (.lst (L.map AW)),some (.int K),some (BF s),some (.int n),some (.str p),some (.int j),some (.str mark),none]):=by
  have s1:bM 8 (b2 AX (bV 6) (bV 7)) [some (mP m),some cl,some (.lst (L.map AW)),some (.int K),some (BF s),some (.int n),some (.str p),some (.int j),none,none]=some (.nx [some (mP m),some cl,some (.lst (L.map AW)),some (.int K),some (BF s),some (.int n),some (.str p),some (.int j),some (.str (bB p j)),none]):=by
   simp[-List.getD_eq_getElem?_getD,A8,h1,bB]
  by_cases hx:bB p j=("x" : Str)
  ·refine⟨⟨#[c]⟩,hc,by unfold AE;rw[hx];simp,λrest=>?_⟩
   refine(dB s1).trans ((dB ?_).trans rfl)
   rw[hx]
   simp[ZX,t1,hcu,hul]
  ·refine⟨bB p j,?_,by unfold AE;simp,λrest=>?_⟩
   ·rcases Vm with e | e | e
    ·left;unfold bB;rw[e];decide +kernel
    ·right;unfold bB;rw[e];decide +kernel
    ·exfalso;apply hx;unfold bB;rw[e];decide +kernel
   ·refine(dB s1).trans ((dB ?_).trans rfl)
    simp[hx]
 obtain⟨q,hq,hqm,hqe⟩:=Nq hmk e
 refine⟨q,hq,by rw[hqm];exact CL,λa b=>by rw[hqe];exact ZZ a b,?_⟩
 rw[bZ]
 unfold eG
 have hg:gN 7 (.int j) [some (mP m),some cl,some (.lst (L.map AW)),some (.int K),some (BF s),some (.int n),some (.str p),none,none,none]=some [some (mP m),some cl,some (.lst (L.map AW)),some (.int K),some (BF s),some (.int n),some (.str p),some (.int j),none,none]:=rfl
 rw[hg,ay,Z0]
 have hsa:AW q=.tup [.str mark,.bl e]:=by unfold AW;rw[hqm,hqe]
 rw[cf,List.map_singleton,hsa]
 rw[← he]
 have hll:(L.map AW).length < 1000000:=by simp;omega
 generalize L.map AW=LL at *
 unfold BF mP
 cases s.2 <;> by_cases x1:n / v2 % 2=1 <;> by_cases x2:(j:Int)+1=p.length <;> by_cases x3:(K:Int)+1=m.length <;> simp[ZY,t2,A8,x1,x2,x3,hll]
theorem CG {s:Slot}{p:Str}(hp:p∈s.1){b:Row}(hb:bj s.2 p.cps.toList b=true):∀(ms:qA) (a:Row),Seg ms a->Seg (ms++[s]) (a++b)
 | [],a,h=>by
  have h:a=[]:=h
  subst h
  exact⟨p,hp,b,[],by simp,hb,rfl⟩
 | t::ms,a,⟨p',PR,a1,a2,e,hf,hs⟩=>⟨p',PR,a1,a2++b,by rw[e,eM],hf,CG hp hb ms a2 hs⟩
theorem Nr {cl:PV}{L:qc}(hL:L.length < 900){K:Nat}{n:Int}(hp:BB p):
  ∃a,C4 a/\a.length=p.length/\bj s.2 p.cps.toList a=true/\(K+1=m.length->dw a=true) /\
   cV (gN 7) [7,8,9] eG (cT 0 (p.length:Int)) [some (mP m),some cl,some (.lst (L.map AW)),some (.int K),some (BF s),some (.int n),some (.str p),none,none,none]=some (.nx [some (mP m),some cl,some (.lst ((L++a).map AW)),some (.int K),some (BF s),some (.int n),some (.str p),none,none,none]):=by
 have hle:=hp.le
 have X6:=hp.ge
 obtain⟨a,⟨d,e1,e2,e3,e4,e5⟩,h⟩:=fc (g:=gN 7) (ds:=[7,8,9]) (body:=eG) (λj:Nat=>PV.int (j:Nat)) (λa:List Nat=>[some (mP m),some cl,some (.lst ((L++a).map AW)),some (.int K),some (BF s),some (.int n),some (.str p),none,none,none])
  (λr a=>∃d,List.range p.length=d++r/\a.length=d.length/\C4 a/\(∀i,i < a.length->AE (bB p i) (B0 (a.getD i 0))=true)/\(a.length=p.length->(s.2=true\/K+1=m.length)->C7 (a.getD (p.length - 1) 0)=true))
  (by
   rintro j r a ⟨d,e1,e2,e3,e4,e5⟩
   have hd:d.length+r.length+1=p.length:=by have:=dP List.length e1;simp at this;omega
   have hj:j=d.length:=by
    have:=dP (λl:List Nat=>l[d.length]?) e1
    simp at this
    rw[me (by omega)] at this
    simpa using this.symm
   have hjp:j < p.length:=by omega
   obtain⟨q,q1,q2,q3,q4⟩:=Hg (m:=m) (cl:=cl) (L:=L++a) (by simp;omega) (K:=K) (s:=s) (n:=n) hp hjp
   refine⟨a++[q],⟨d++[j],by rw[e1];simp,by simp;omega,Bi.mpr ⟨e3,q1⟩,?_,?_⟩,by rw[← eM];exact q4⟩
   ·intro i hi
    rw[bp,fe] at hi
    by_cases hia:i < a.length
    ·rw[bb,dQ hia,← bb]
     exact e4 i hia
    ·have:i=j:=by omega
     subst this
     rw[bb,show i=a.length by omega]
     simp
     rw[show a.length=i by omega]
     exact q2
   ·intro hl hc
    rw[bp,fe] at hl
    rw[bb,show p.length - 1=a.length by omega]
    simp
    exact q3 (by omega) hc)
  (List.range p.length) [] ⟨[],rfl,rfl,(λk hk=>by cases hk),(λi hi=>by simp at hi),λz=>by simp at z;omega⟩
 rw[br] at e1
 have IZ:a.length=p.length:=by rw[e2,← e1];simp
 have AU:a≠[]:=by intro z;subst z;simp at IZ;omega
 rw[← ir,br] at h
 refine⟨a,e3,IZ,(j6 _ _ (fJ hp)).mpr ⟨by rw[fM];exact IZ,λk hk=>e4 k (by rw[fM] at hk;omega),λhc=>by rw[fM];exact e5 IZ (.inl hc)⟩,λhK=>?_,h⟩
 have:=e5 IZ (.inr hK)
 unfold dw
 rw[ce AU]
 rw[bb,← IZ,← mT,ce AU] at this
 exact this
theorem CJ (hm:a_ m)(AU:m≠[])(hl:m.length<=3)(c:Int):∃r,C4 r/\r.length<=9/\Seg m r/\dw r=true/\gk [mP m,.int c]=some (rP r):=by
 have en:eX 0 (m.map BF)=m.zipIdx.map λy:Slot×Nat=>PV.tup [.int (y.2:Nat),BF y.1]:=lU _ _ _
 obtain⟨L,⟨d,e1,e2,e3,e4,e5⟩,h⟩:=fc (g:=gT [3,4]) (ds:=[3,4,5,6,7,8,9]) (body:=jn) (λy:Slot×Nat=>PV.tup [.int (y.2:Nat),BF y.1]) (λL:List Nat=>[some (mP m),some (.int c),some (.lst (L.map AW)),none,none,none,none,none,none,none])
  (λr L=>∃d,m.zipIdx=d++r/\C4 L/\L.length<=3*d.length/\Seg (d.map (·.1)) L/\(d.length=m.length->dw L=true))
  (by
   rintro y r L ⟨d,e1,e2,e3,e4,e5⟩
   have ZQ:y∈m.zipIdx:=by rw[e1];simp
   have hd:d.length+r.length+1=m.length:=by have:=dP List.length e1;simp at this;omega
   have hy2:y.2=d.length:=by
    have h:m.zipIdx[d.length]?=some y:=by rw[e1,hU (aE _)];simp
    rw[List.getElem?_zipIdx] at h
    obtain⟨a,_,ha⟩:=bX.mp h
    rw[← ha]
    simp
   obtain⟨⟨ps,cut⟩,K⟩:=y
   have ok:CD ps:=hm _ (hZ ZQ)
   have LH:0 < ps.length:=gz.mpr ok.ne
   simp only at hy2
   have h1:=zT c K (vZ (by omega))
   obtain⟨i,hi,ei⟩:∃i:Nat,i < ps.length/\mF c K % (ps.length:Int)=i:=⟨(mF c K % (ps.length:Int)).toNat,by have:=Int.emod_nonneg (mF c K) (show (ps.length:Int)≠0 by omega);have:=Int.emod_lt_of_pos (mF c K) (show 0 < (ps.length:Int) by omega);omega,by have:=Int.emod_nonneg (mF c K) (show (ps.length:Int)≠0 by omega);omega⟩
   have hp:ps[i]?=some ps[i]:=ai hi
   have Z1:=iE hi
   generalize ps[i]=p at hp Z1
   have LU:=ok.ok p Z1
   have h2:B5 (ps.map PV.str) (i:Int)=some (.str p):=d_ (by simp[hp])
   obtain⟨a,a1,a2,a3,a4,a5⟩:=Nr (m:=m) (cl:=.int c) (L:=L) (by omega) (K:=K) (s:=(ps,cut)) (n:=mF c K) LU
   have A8:p.length<=1000000:=by have:=LU.le;omega
   have OK:F7 (p.length:Int)=true:=jK (by omega) (by have:=LU.le;omega)
   refine⟨L++a,⟨d++[((ps,cut),K)],by rw[e1];simp,?_,?_,?_,?_⟩,?_⟩
   ·intro k hk
    rcases bq.mp hk with hk | hk
    ·exact e2 k hk
    ·exact a1 k hk
   ·have:=LU.le;simp;omega
   ·rw[cf]
    exact CG Z1 a3 _ L e4
   ·intro Zu
    simp at Zu
    rw[lV _ _ (Cz a3)]
    exact a4 (by omega)
   ·have hposI:(0:Int) < ps.length:=by omega
    unfold BF at a5 ⊢
    generalize (L++a).map AW=LA,L.map AW=LL,mP m=M at *
    simp[bZ,jn,h1,LH,ei,h2,A8,OK,a5])
  m.zipIdx [] ⟨[],rfl,(λk hk=>by cases hk),by simp,rfl,λz=>by
   have:=gz.mpr AU
   simp at z
   omega⟩
 rw[br] at e1
 subst e1
 refine⟨L,e2,by simp at e3;omega,?_,e5 (by simp),?_⟩
 ·have:m.zipIdx.map (·.1)=m:=by simp
  rw[this] at e4;exact e4
 ·simp only[gE] at h
  unfold rP
  unfold mP at *
  generalize L.map AW=LL at *
  simp[gk,qC,en,h]
theorem Eu (h:i < 4):i=0\/i=1\/i=2\/i=3:=by omega
theorem du:¬ (("-" : Str) = "u"):=by decide
theorem Ew (k:Nat):D3 1 (AW k):=by
 have h1:PyData.strOk ("u" : Str)=true:=by decide +kernel
 have h2:PyData.strOk ("-" : Str)=true:=by decide +kernel
 unfold AW B0
 split <;> simp[D3,h1,h2]
theorem Sh {a b:Nat}(ha:a < 4)(hb:b < 4):F4 (AW a) (AW b)=some (decide (a=b)):=by
 have h1:=ud
 have h2:=du
 have s1:PyData.strOk ("u" : Str)=true:=by decide +kernel
 have s2:PyData.strOk ("-" : Str)=true:=by decide +kernel
 have sh:∀(x:Str) (e:Bool),PyData.strOk x=true->SeqAt.shaped (.tuple [.str x,.bool e])=true:=λx e h=>by
  simp[SeqAt.shaped,PyData.canLay0,PyData.canLayAll0,PyData.depth,PyData.depthAll,h]
 have g1:=sh "u" true s1
 have g2:=sh "u" false s1
 have g3:=sh "-" true s2
 have g4:=sh "-" false s2
 rcases Eu ha with rfl | rfl | rfl | rfl <;> rcases Eu hb with rfl | rfl | rfl | rfl <;> simp[AW,B0,C7,F4,OC,Sb,toD,dO,g1,g2,g3,g4,PyData.eqv,PyData.eqvAll,h1,h2]
noncomputable def Xa (x y:Row):Bool:=@decide (lx x y) (Classical.propDecidable _)
theorem rF {x y:Row}:Xa x y=true↔lx x y:=by unfold Xa;simp
theorem Al:∀(xs ys pre:Row),xs.length=ys.length->C4 xs->C4 ys->
  cV (gN 2) [2] cN ((List.range' pre.length xs.length).map λk=>PV.int (k:Nat)) [some (rP (pre++xs)),some (rP (pre++ys)),none]=if xs=ys then some (.nx [some (rP (pre++xs)),some (rP (pre++ys)),none]) else some (.rt (.bl (Xa xs ys)))
 | [],[],pre,_,_,_=>by simp[cV]
 | a::xs,b::ys,pre,hl,h4,g4=>by
  have ha:=h4 a am
  have hb:=g4 b am
  have e1:=Et (r:=pre++a::xs) (k:=pre.length) (by simp)
  have e2:=Et (r:=pre++b::ys) (k:=pre.length) (by simp)
  rw[show (pre++a::xs).getD pre.length 0=a by simp] at e1
  rw[show (pre++b::ys).getD pre.length 0=b by simp] at e2
  have e3:=Sh ha hb
  rw[bv,ox,ap]
  by_cases LX:a=b
  ·subst LX
   have ih:=Al xs ys (pre++[a]) (by simpa using hl) (λk hk=>h4 k (af _ hk)) (λk hk=>g4 k (af _ hk))
   have t:turn (gN 2) [2] cN (.int (pre.length:Nat)) [some (rP (pre++a::xs)),some (rP (pre++a::ys)),none]=some [some (rP (pre++a::xs)),some (rP (pre++a::ys)),none]:=by
    simp at e3
    unfold rP
    generalize (pre++a::xs).map AW=X,(pre++a::ys).map AW=Y at *
    simp[bZ,cN,e1,e2,e3]
   rw[jZ t]
   simp only[bp,fe,eM,k7] at ih
   rw[ih]
   by_cases e:xs=ys
   ·subst e;simp
   ·rw[ax e,ax (by simp[e])]
    congr 3
    rw[fI,rF,rF]
    simp[lx]
  ·rw[ax (by simp[LX])]
   have hd:Xa (a::xs) (b::ys)=decide (a < b):=by
    rw[fI,rF]
    simp[lx,LX]
   rw[hd]
   have hab':¬ AW a=AW b\/True:=.inr trivial
   have h1:=ud
   have h2:=du
   rw[dy LX] at e3
   unfold rP
   generalize (pre++a::xs).map AW=X,(pre++b::ys).map AW=Y at *
   have body:cN [some (.lst X),some (.lst Y),some (.int (pre.length:Nat))]=some (.rt (.bl (decide (a < b)))):=by
    rcases Eu ha with rfl | rfl | rfl | rfl <;> rcases Eu hb with rfl | rfl | rfl | rfl <;> first | exact absurd rfl LX | (simp only[AW] at e1 e2 e3;simp[B0,C7] at e1 e2 e3;simp[cN,e1,e2,e3,h1,h2])
   have hg:gN 2 (.int (pre.length:Nat)) [some (.lst X),some (.lst Y),none]=some [some (.lst X),some (.lst Y),some (.int (pre.length:Nat))]:=rfl
   simp only[cV,hg,ay,body]
def ahead (x y:Row):Prop:=x.length < y.length\/(x.length=y.length/\lx x y)
theorem Hh {x y:Row}(hx:C4 x)(hy:C4 y)(lx':x.length < 1000)(ly:y.length < 1000):∃b,cO [rP x,rP y]=some (.bl b)/\(b=true↔ahead x y):=by
 by_cases hl:x.length=y.length
 ·have lp:=Al x y [] hl hx hy
  have OK:F7 (x.length:Int)=true:=jK (by omega) (by omega)
  have ZW:=ir x.length
  rw[l0,ii,ii,← lI] at lp
  rw[← ZW] at lp
  have OL:(x.length:Int)=y.length:=by omega
  unfold rP at lp ⊢
  have hX:(x.map AW).length=x.length:=by simp
  have hY:(y.map AW).length=y.length:=by simp
  generalize x.map AW=X,y.map AW=Y at *
  by_cases e:x=y
  ·rw[a0 e] at lp
   refine⟨false,?_,?_⟩
   ·rw[← hX] at OK lp OL
    rw[← hY] at OL
    simp[cO,gJ,OL,OK,lp]
    try (rw[← OL];simp[OK,lp])
   ·subst e
    simp[ahead,uY]
  ·rw[ax e] at lp
   refine⟨Xa x y,?_,?_⟩
   rotate_left
   ·rw[rF]
    simp[ahead,hl]
   ·rw[← hX] at OK lp OL
    rw[← hY] at OL
    simp[cO,gJ,OL,OK,lp]
    try (rw[← OL];simp[OK,lp])
 ·have OL:¬ (x.length:Int)=y.length:=by omega
  refine⟨decide (x.length < y.length),?_,by simp[ahead,hl]⟩
  have hX:(x.map AW).length=x.length:=by simp
  have hY:(y.map AW).length=y.length:=by simp
  unfold rP
  simp[cO,gJ,hl,OL]
theorem J_ {X:PV}{k:Nat}:turn (gN 1) [1] e_ (AW k) [some X,none]=some [some X,none]:=by
 have h1:ML (.str (B0 k)) (.tup [.str "u",.str "-"])=some true:=by
  have:=xx (B0 k) ["u","-"]
  rw[show ([("u" : Str), "-"].map PV.str)=[.str "u",.str "-"] from rfl] at this
  rw[this]
  unfold B0
  split <;> simp
 unfold AW
 generalize B0 k=mk at *
 simp[bZ,e_,h1,CA,DA,sX]
theorem Ka {x:Row}(AU:x≠[])(hl:dw x=true):eN [rP x]=some (.bl true):=by
 have h0:x.map AW≠[]:=by simpa using AU
 have h1:=xJ h0
 have e:(x.map AW).getLast?=some (AW (x.getLast AU)):=by rw[List.getLast?_map,ce AU];rfl
 rw[e] at h1
 have hE:C7 (x.getLast AU)=true:=by
  unfold dw at hl
  rw[ce AU] at hl
  exact hl
 rw[show AW (x.getLast AU)=.tup [.str (B0 (x.getLast AU)),.bl (C7 (x.getLast AU))] from rfl,hE] at h1
 have h2:F4 (.lst (x.map AW)) (.lst [])=some false:=by
  cases x with
  | nil=>exact absurd rfl AU
  | cons k x=>
   rw[ap]
   refine rW (n:=1) ?_ (by decide)
   simp only[D3]
   intro z hz
   rcases bm.mp hz with rfl | hz
   ·exact Ew k
   ·obtain⟨j,_,rfl⟩:=bP.mp hz;exact Ew j
 have h3:=jD (g:=gN 1) (ds:=[1]) (body:=e_) (env:=[some (.lst (x.map AW)),none]) AW x (λy _=>J_)
 unfold rP
 generalize x.map AW=X at *
 simp[eN,nP,DB,sX,h1,h2,h3]
section
variable {pb:List PV->Option PV}{cn:Nat}{S:List PV}{io so ro:List PV->Option PV}{a1:List (List zD×PV)}{m1:Int}{f1:PV}{p1:Row->Pl}
def Xb (t t':List Pl):Prop:=∃q,t'=t++q
def Tt (a1:List (List zD×PV))(m1:Int)(f1:PV)(p1:Row->Pl)(t:List Pl)(ws:List WS):Prop:=∃w1,ws=[w1]/\WI a1 m1 f1 p1 w1 t
noncomputable def Xc (p1:Row->Pl)(t:List Pl)(r:Row):List Int:=[(t.idxOf (p1 r):Nat)]
def Q7 (p1:Row->Pl)(t:List Pl)(r:Row):Prop:=p1 r∈t
noncomputable def yj (p1:Row->Pl)(r r':Row):Bool:=decide (p1 r=p1 r')
theorem bg1 (D1:Wd pb cn S a1 m1 p1){sought:Row->Bool}
  (hio:∀w ps r,WI a1 m1 f1 p1 w ps->p1 r∈ps->io [w.pv cn,.int (ps.idxOf (p1 r):Nat)]=some (.bl (decide (p1 r=[]))))
  (Yk:∀w1 Yn r,WI a1 m1 f1 p1 w1 Yn->p1 r∈Yn->so [.lst [w1.pv cn],.tup [.int (Yn.idxOf (p1 r):Nat)]]=some (.bl (sought r)))
  (Zy:∀W n ss,Chain W n ss->ss.length<=9->ro [.dT W,A9 n]=some (.lst ss)):
  BG pb cn S io so ro Xb (Tt a1 m1 f1 p1) (Xc p1) (Q7 p1) (yj p1) (λr=>decide (p1 r=[])) sought:=by
 refine⟨D1.S4,?_,?_,?_,?_,?_,Zy,?_⟩
 ·rintro t u r ⟨q1,e1⟩ h1
  subst e1
  refine⟨bn _ h1,?_⟩
  have h1:p1 r∈t:=h1
  unfold Xc
  simp only[rC h1]
 ·rintro t r r' h1 g1
  unfold Xc yj
  simp only[List.cons.injEq,and_true,ed]
  constructor
  ·intro x
   exact MT h1 g1 (Int.ofNat.inj x)
  ·intro x
   rw[x]
 ·rintro t ws r ⟨w1,rfl,I1⟩ h1 h4
  obtain⟨w1',q1,e1,J1,k1⟩:=I1.lat D1 h4 h1
  refine⟨t++q1,[w1'],⟨q1,rfl⟩,⟨w1',rfl,J1⟩,?_,λk hk=>k1 k hk⟩
  have i1:=xH (λk=>((t++q1).idxOf (p1 (r++[k])):Nat)) (List.range 4)
  unfold Vy Xc
  simp only[Vx,e1,ay,uM,i1,D1.S4]
  simp only[ba,fb,fw,ay]
  rfl
 ·rintro t ws r ⟨w1,rfl,I1⟩ h1
  exact⟨w1,[],_,_,rfl,rfl,hio w1 t r I1 h1⟩
 ·rintro t ws r ⟨w1,rfl,I1⟩ h1
  exact Yk w1 t r I1 h1
 ·intro x hx
  simp[D1.z9 x hx]
theorem bh1 (D1:Wd pb cn S a1 m1 p1){sought:Row->Bool}(hs:∀x y,p1 x=p1 y->sought x=sought y)(h0:p1 []≠[])(hs0:sought []=false)(hoo:∀x k,k < 4->p1 x=[]->p1 (x++[k])=[]):
  BH (yj p1) (λr=>decide (p1 r=[])) sought:=by
 unfold yj
 refine⟨λx=>by simp,λx y h=>?_,λx y z h g=>?_,λx y k hk h=>?_,λx y h=>?_,λx y h=>?_,λx k hk h=>?_,by simpa using h0,hs0,λx hx=>by simp[D1.z9 x hx]⟩
 ·simp only[ed] at h ⊢;exact h.symm
 ·simp only[ed] at h g ⊢;exact h.trans g
 ·simp only[ed] at h ⊢;exact D1.kd hk h
 ·simp only[ed] at h;rw[h]
 ·simp only[ed] at h;exact hs x y h
 ·simp only[ed] at h ⊢;exact hoo x k hk h
theorem Q8 (t:List Pl):Xb t t:=⟨[],by simp⟩
theorem Q9 (a b c:List Pl)(h:Xb a b)(g:Xb b c):Xb a c:=by
 obtain⟨q1,e1⟩:=h
 obtain⟨q3,e3⟩:=g
 exact⟨q1++q3,by rw[e3,e1,eM]⟩
end
theorem ym {a b c:Int}(h:b=c):mn a b=mn a c:=by rw[h]
theorem yo {M a t:Int}(ht:0<=t):mn M (mn M a+t)=mn M (a+t):=by
 unfold mn
 repeat' split
 all_goals omega
noncomputable def lk (D:Pl)(z:Rest):Int:=(look D (BM z)).getD 0
theorem Kc (D:Pl)(q q':Int×Str)(v:Int):look (lE D q v) q'=if q'=q then some v else look D q':=by
 unfold look lE
 by_cases h:(D.any λy=>decide (y.1=q))=true
 ·rw[a0 h,kR]
  have e:((λy:(Int×Str)×Int=>decide (y.1=q'))∘λy=>if y.1=q then (y.1,v) else y)=λy=>decide (y.1=q'):=by
   funext x
   have hf:(if x.1=q then (x.1,v) else x).1=x.1:=by split <;> rfl
   show decide ((if x.1=q then (x.1,v) else x).1=q')=decide (x.1=q')
   simp[hf]
  rw[e]
  cases hq:D.find? λy=>decide (y.1=q') with
  | none=>
   by_cases hk:q'=q
   ·subst hk
    obtain⟨x,h1,h2⟩:=eW.mp h
    exact absurd h2 (dE.mp hq x h1)
   ·rw[ax hk];rfl
  | some x=>
   have hx:x.1=q':=by simpa using l8 hq
   by_cases hk:q'=q
   ·rw[a0 hk]
    show some (if x.1=q then (x.1,v) else x).2=_
    rw[a0 (hx.trans hk)]
   ·rw[ax hk]
    show some (if x.1=q then (x.1,v) else x).2=some x.2
    rw[ax (λz=>hk (hx.symm.trans z))]
 ·rw[ax h,nK]
  have hn:∀x∈D,¬ x.1=q:=λx hx e=>h (eW.mpr ⟨x,hx,by simp[e]⟩)
  by_cases hk:q'=q
  ·subst hk
   have:(D.find? λy=>decide (y.1=q'))=none:=dE.mpr λx hx=>by simp[hn x hx]
   rw[this,a0 rfl]
   simp
  ·rw[ax hk]
   have:([(q,v)].find? λy=>decide (y.1=q'))=none:=by simp[fT hk]
   rw[this]
   simp
theorem Hk (M:Int)(D:Pl)(n:Int)(z y:Rest):lk (LV M D n (BM z)) y=if y=z then mn M (lk D z+n) else lk D y:=by
 unfold lk LV
 rw[Kc]
 by_cases h:y=z
 ·subst h;rw[a0 rfl,a0 rfl];rfl
 ·rw[ax h,ax λe=>h (nT e)]
theorem Hl {M n:Int}(hn:0<=n)(y:Rest):∀(zs:List Rest) (D:Pl),lk D y=mn M (lk D y)->lk (HI M n zs D) y=mn M (lk D y+n*((zs.count y:Nat):Int))
 | [],D,h=>by simp[HI];exact h
 | z::zs,D,h=>by
  have e:HI M n (z::zs) D=HI M n zs (LV M D n (BM z)):=rfl
  rw[e,Hl hn y zs _ (by
   rw[Hk]
   split
   ·have:=yo (M:=M) (a:=lk D z+n) (t:=0) (by omega)
    simpa using this.symm
   ·exact h),Hk,pd]
  have hz:0<=n*((zs.count y:Nat):Int):=kU hn (by omega)
  by_cases hy:y=z
  ·subst hy
   rw[a0 rfl,yo hz]
   refine ym ?_
   simp
   rw[pz]
   omega
  ·have:(z == y)=false:=by simp;exact λe=>hy e.symm
   rw[ax hy,this]
   simp
noncomputable def sm (p:List ((Int×Str)×Int))(f:Rest->Nat):Int:=(p.map λy:(Int×Str)×Int=>y.2*((f (CM y.1):Nat):Int)).sum
theorem Sq {p:Pl}(hp:∀y∈p,1<=y.2)(f:Rest->Nat):0<=sm p f:=by
 unfold sm
 induction p with
 | nil=>simp
 | cons y p ih=>
  have:=ih λz hz=>hp z (af _ hz)
  have h1:=hp y am
  have:0<=y.2*((f (CM y.1):Nat):Int):=kU (by omega) (by omega)
  rw[ap,cp]
  omega
theorem Hm {m:qA}{M:Int}{k:Nat}(z:Rest):∀(p D:Pl),(∀y∈p,1<=y.2)->lk D z=mn M (lk D z)->lk (IP m M k D p) z=mn M (lk D z+sm p λx=>(aR m x k).count z)
 | [],D,_,h=>by simp[IP,sm];exact h
 | y::p,D,hp,h=>by
  have h1:=hp y am
  have e:IP m M k D (y::p)=IP m M k (HI M y.2 (aR m (CM y.1) k) D) p:=rfl
  have h2:=Hl (M:=M) (n:=y.2) (by omega) z (aR m (CM y.1) k) D h
  have h3:lk (HI M y.2 (aR m (CM y.1) k) D) z=mn M (lk (HI M y.2 (aR m (CM y.1) k) D) z):=by
   rw[h2]
   have:=yo (M:=M) (a:=lk D z+y.2*(((aR m (CM y.1) k).count z:Nat):Int)) (t:=0) (by omega)
   simpa using this.symm
  rw[e,Hm z p _ (λw hw=>hp w (af _ hw)) h3,h2,yo (Sq (λw hw=>hp w (af _ hw)) _)]
  refine ym ?_
  unfold sm
  rw[ap,cp]
  dsimp only
  omega
theorem eV {p:Pl}(nd:(p.map (·.1)).Nodup){q:Int×Str}{v:Int}:look p q=some v↔(q,v)∈p:=by
 unfold look
 constructor
 ·intro h
  obtain⟨y,hy,rfl⟩:=bX.mp h
  have h2:y.1=q:=by simpa using l8 hy
  rw[← h2]
  exact js hy
 ·intro h
  induction p with
  | nil=>cases h
  | cons y p ih=>
   rw[ap,fN] at nd
   rcases bm.mp h with e | h
   ·rw[← e];simp
   ·have:¬ y.1=q:=λe=>nd.1 (bP.mpr ⟨(q,v),h,e.symm⟩)
    rw[eD]
    simp only[this,decide_false]
    exact ih nd.2 h
theorem Hn {p p':Pl}(nd:(p.map (·.1)).Nodup)(h:p'.Perm p)(q:Int×Str):look p' q=look p q:=by
 have nd':(p'.map (·.1)).Nodup:=((h.map (·.1)).nodup_iff).mpr nd
 cases h1:look p q with
 | some v=>exact(eV nd').mpr (h.mem_iff.mpr ((eV nd).mp h1))
 | none=>
  cases h2:look p' q with
  | none=>rfl
  | some v=>
   rw[(eV nd).mpr (h.mem_iff.mp ((eV nd').mp h2))] at h1
   cases h1
noncomputable def Lr (m:qA)(r:Row):List Rest:=r.foldl (λL k=>L.flatMap λx=>aR m x k) [(0,[])]
theorem Nt (m:qA)(r:Row)(k:Nat):Lr m (r++[k])=(Lr m r).flatMap λx=>aR m x k:=by unfold Lr;rw[List.foldl_append];rfl
theorem Am (f:Rest->Nat)(us:List Rest)(nd:us.Nodup):∀L:List Rest,(∀x∈L,x∈us)->(L.map f).sum=(us.map λu=>L.count u*f u).sum
 | [],_=>by
  have:∀us:List Rest,(us.map λu=>([]:List Rest).count u*f u).sum=0:=λus=>by
   induction us with
   | nil=>rfl
   | cons u us ih=>rw[ap,cp,ih];simp
  rw[this];rfl
 | x::L,h=>by
  have ih:=Am f us nd L λy hy=>h y (af _ hy)
  rw[ap,cp,ih]
  have key:∀us:List Rest,us.Nodup->(us.map λu=>(x::L).count u*f u).sum=(us.map λu=>L.count u*f u).sum+if x∈us then f x else 0:=by
   intro us
   induction us with
   | nil=>intro _;simp
   | cons u us ih2=>
    intro nd
    rw[fN] at nd
    rw[ap,cp,ap,cp,ih2 nd.2,pd]
    by_cases e:x=u
    ·subst e
     have h1:(x == x)=true:=by simp
     rw[h1,a0 rfl,ax nd.1,a0 am,Nat.add_mul]
     omega
    ·have h1:(x == u)=false:=by simpa using e
     rw[h1]
     have h2:x∈u::us↔x∈us:=by simp[e]
     simp only[eg,fm,Nat.add_zero,h2]
     omega
  rw[key us nd,a0 (h x am)]
  omega
theorem Q_ {M a c:Int}{f:Nat}(hM:0<=M)(ha:0<=a)(hc:0<=c):mn M (a+mn M c*(f:Int))=mn M (a+c*(f:Int)):=by
 by_cases h:c < M
 ·have:mn M c=c:=by unfold mn;rw[a0 h]
  rw[this]
 ·have e:mn M c=M:=by unfold mn;rw[ax h]
  rw[e]
  cases f with
  | zero=>simp
  | succ f=>
   have h1:0<=M*(f:Int):=kU hM (by omega)
   have h2:0<=c*(f:Int):=kU hc (by omega)
   have e1:M*((f+1:Nat):Int)=M*f+M:=by push_cast;rw[pz];omega
   have e2:c*((f+1:Nat):Int)=c*f+c:=by push_cast;rw[pz];omega
   rw[e1,e2]
   unfold mn
   split <;> split <;> omega
theorem CK {M:Int}(hM:0<=M)(f c:Rest->Nat):∀p:Pl,(∀y∈p,y.2=mn M ((c (CM y.1):Nat):Int))->∀a:Int,0<=a->mn M (a+sm p f)=mn M (a+(((p.map λy=>c (CM y.1)*f (CM y.1)).sum:Nat):Int))
 | [],_,a,_=>by simp[sm]
 | y::p,h,a,ha=>by
  have ih:=CK hM f c p λz hz=>h z (af _ hz)
  have hy:=h y am
  have e:sm (y::p) f=mn M ((c (CM y.1):Nat):Int)*((f (CM y.1):Nat):Int)+sm p f:=by unfold sm;rw[ap,cp,hy]
  have Za:0<=mn M ((c (CM y.1):Nat):Int):=by unfold mn;split <;> omega
  have LH:0<=mn M ((c (CM y.1):Nat):Int)*((f (CM y.1):Nat):Int):=kU Za (by omega)
  rw[e,← Int.add_assoc,ih _ (by omega)]
  rw[ap,cp]
  generalize (p.map λy=>c (CM y.1)*f (CM y.1)).sum=s
  have:=Q_ (M:=M) (a:=a+(s:Int)) (c:=((c (CM y.1):Nat):Int)) (f:=f (CM y.1)) hM (by omega) (by omega)
  have e1:a+mn M ((c (CM y.1):Nat):Int)*((f (CM y.1):Nat):Int)+(s:Int)=a+(s:Int)+mn M ((c (CM y.1):Nat):Int)*((f (CM y.1):Nat):Int):=by omega
  rw[e1,this]
  refine ym ?_
  push_cast
  omega
theorem CN {m:qA}(hm:a_ m)(AU:m≠[]){M:Int}(hM:1<=M):∀(n:Nat) (r:Row),r.length=n->(∀x∈Lr m r,BM x∈(pl m M r).map (·.1))/\∀x,lk (pl m M r) x=mn M (((Lr m r).count x:Nat):Int)
 | 0,r,hr=>by
  have:r=[]:=gs.mp hr
  subst this
  refine⟨λx hx=>?_,λx=>?_⟩
  ·have:x=(0,[]):=by simpa [Lr] using hx
   rw[this];simp[pl]
  ·have eL:Lr m []=[(0,[])]:=rfl
   rw[eL]
   by_cases e:x=(0,[])
   ·subst e
    have h2:List.count ((0,[]):Rest) [((0,[]):Rest)]=1:=by simp
    rw[h2]
    have h3:lk (pl m M []) (0,[])=1:=by simp[lk,look,pl]
    rw[h3]
    unfold mn
    split <;> omega
   ·have h1:¬ BM (0,[])=BM x:=λz=>e (nT z).symm
    have h2:List.count x [((0,[]):Rest)]=0:=by rw[List.count_eq_zero];simpa using e
    rw[h2]
    have h3:lk (pl m M []) x=0:=by simp[lk,look,pl,h1]
    rw[h3]
    unfold mn
    split <;> omega
 | n+1,r,hr=>by
  obtain⟨r',k,rfl,hr'⟩:=nR hr
  obtain⟨i1,i2⟩:=CN hm AU hM n r' hr'
  have ok:=Er hm AU hM r'
  obtain⟨d1,d2⟩:=Ky hm hM ok k
  rw[wk,Nt]
  refine⟨λx hx=>?_,λx=>?_⟩
  ·obtain⟨y,hy,hx⟩:=d3.mp hx
   exact(d2 _).mpr ⟨y,i1 y hy,x,hx,rfl⟩
  ·have hz:lk ([]:Pl) x=mn M (lk ([]:Pl) x):=by
    have:lk ([]:Pl) x=0:=rfl
    rw[this];unfold mn;split <;> omega
   have h1:=Hm (m:=m) (M:=M) (k:=k) x (pl m M r') [] ok.ge hz
   have nd:=(u5 hm hM k (pl m M r') [] (λy hy=>⟨ok.un y hy,ok.ge y hy⟩) ⟨(λy hy=>by cases hy),(λy hy=>by cases hy),by simp⟩).1.nd
   have h2:lk (dl m M (pl m M r') k) x=lk (IP m M k [] (pl m M r')) x:=by unfold lk dl;rw[Hn nd (w6 _)]
   rw[h2,h1]
   have h0:lk ([]:Pl) x=0:=rfl
   rw[h0]
   have cs:=CK (M:=M) (by omega) (λy=>(aR m y k).count x) (λy=>(Lr m r').count y) (pl m M r') (λy hy=>by
    obtain⟨z,_,ez⟩:=ok.un y hy
    have hu:CM y.1=z:=by rw[ez,lF]
    rw[hu,← i2 z]
    unfold lk
    rw[← ez,(eV ok.nd).mpr (show (y.1,y.2)∈pl m M r' from hy)]
    rfl) 0 (by omega)
   rw[cs]
   refine ym ?_
   have us:((pl m M r').map λy=>CM y.1).Nodup:=by
    rw[mM,nI]
    have:=ok.nd
    rw[mM,nI] at this
    refine List.Pairwise.imp_of_mem ?_ this
    intro a b ha hb LX e
    obtain⟨x1,_,e1⟩:=ok.un a ha
    obtain⟨x2,_,e2⟩:=ok.un b hb
    rw[e1,e2,lF,lF] at e
    rw[e1,e2,e] at LX
    exact LX rfl
   have sp:=Am (λy=>(aR m y k).count x) _ us (Lr m r') (λy hy=>by
    obtain⟨w,hw,ew⟩:=bP.mp (i1 y hy)
    exact bP.mpr ⟨w,hw,by rw[ew,lF]⟩)
   rw[gg] at sp
   have e3:((Lr m r').flatMap λy=>aR m y k).count x=((Lr m r').map λy=>(aR m y k).count x).sum:=by
    rw[List.count_flatMap];rfl
   rw[e3,sp]
   simp only[Int.zero_add]
   rfl
noncomputable def pN (m:qA):Row->Rest->Nat
 | [],y=>if y=cF m then 1 else 0
 | k::r,y=>((aR m y k).map (pN m r)).sum
noncomputable def BI:List Slot->Row->Nat
 | [],r=>if r=[] then 1 else 0
 | s::ms,r=>(s.1.map λp=>if bj s.2 p.cps.toList (r.take p.length)=true then BI ms (r.drop p.length) else 0).sum
theorem tX {α β:Type}(f:α->List β)(g:β->Nat):∀l:List α,((l.flatMap f).map g).sum=(l.map λx=>((f x).map g).sum).sum
 | []=>rfl
 | x::l=>by rw[gt,cf,List.sum_append,ap,cp,tX f g l]
theorem xM (x:Rest):∀L:List Rest,L.count x=(L.map λy=>if y=x then 1 else 0).sum
 | []=>rfl
 | y::L=>by
  rw[pd,ap,cp,xM x L]
  by_cases h:y=x
  ·simp[h];omega
  ·have:(y == x)=false:=by simpa using h
   simp[this,h]
theorem CP (m:qA):∀(r:Row) (L:List Rest),(r.foldl (λL k=>L.flatMap λx=>aR m x k) L).count (cF m)=(L.map (pN m r)).sum
 | [],L=>by rw[List.foldl_nil,xM];rfl
 | k::r,L=>by
  rw[pc,CP m r,tX]
  rfl
theorem Ss (m:qA)(r:Row):(Lr m r).count (cF m)=pN m r (0,[]):=by
 unfold Lr
 rw[CP]
 simp
theorem Ho {m:qA}{slot:Nat}{s:Slot}(hs:m[slot]?=some s):∀(l:qc) (r:Row),l≠[]->pN m r (slot,l)=if bj s.2 l (r.take l.length)=true then pN m (r.drop l.length) (slot+1,[]) else 0
 | [],_,h=>absurd rfl h
 | c::l,[],_=>by
  have h1:¬ (slot,c::l)=cF m:=λh=>by cases h
  rw[pN,ax h1]
  simp[bj]
 | c::l,k::r,_=>by
  have Ve:aR m (slot,c::l) k=if AE ⟨#[c]⟩ (B0 k)=true then (if l≠[] then [(slot,l)] else if (s.2&&!C7 k)=true then [] else [(slot+1,[])]) else []:=by
   unfold aR iZ
   simp only[hs]
   rw[ax (by simp)]
   rfl
  rw[pN,Ve,bv,List.take_succ_cons,List.drop_succ_cons]
  by_cases CL:AE ⟨#[c]⟩ (B0 k)=true
  ·rw[a0 CL]
   cases l with
   | nil=>
    rw[ax (by simp)]
    by_cases hc:(s.2&&!C7 k)=true
    ·rw[a0 hc,ax]
     ·rfl
     ·simp[bj,CL]
      simp at hc
      exact hc
    ·rw[ax hc,a0]
     ·simp
     ·simp[bj,CL]
      cases h1:s.2 <;> cases h2:C7 k <;> simp_all
   | cons c' l=>
    rw[a0 (by simp)]
    have ih:=Ho hs (c'::l) r (by simp)
    rw[ap,gE,cp,List.sum_nil,Nat.add_zero,ih]
    have:bj s.2 (c::c'::l) (k::r.take (c'::l).length)=bj s.2 (c'::l) (r.take (c'::l).length):=by
     conv=>lhs;rw[bj]
     simp[CL]
    rw[this]
  ·rw[ax CL,ax]
   ·rfl
   ·cases l with
    | nil=>simp[bj,CL]
    | cons c' l=>
     intro h
     rw[bj] at h
     simp[CL] at h
theorem Hq {m:qA}(hm:a_ m):∀(n slot:Nat) (r:Row),slot+n=m.length->pN m r (slot,[])=BI (m.drop slot) r
 | 0,slot,r,h=>by
  have:m.drop slot=[]:=by rw[dv];omega
  rw[this]
  have e:slot=m.length:=by omega
  subst e
  cases r with
  | nil=>simp[pN,BI,cF]
  | cons k r=>
   rw[pN]
   unfold aR
   rw[wg]
   simp[BI]
 | n+1,slot,r,h=>by
  have A6:slot < m.length:=by omega
  have hs:m[slot]?=some m[slot]:=ai A6
  have ok:=hm m[slot] (iE A6)
  rw[cb A6]
  generalize m[slot]=s at *
  rw[BI]
  have e:pN m r (slot,[])=(s.1.map λp=>pN m r (slot,p.cps.toList)).sum:=by
   cases r with
   | nil=>
    have h1:¬ (slot,([]:qc))=cF m:=λz=>by
     have:=dP Prod.fst z
     simp[cF] at this
     omega
    rw[pN,ax h1]
    have:∀ps:List Str,(∀p∈ps,BB p)->(ps.map λp=>pN m [] (slot,p.cps.toList)).sum=0:=by
     intro ps
     induction ps with
     | nil=>intro _;rfl
     | cons p ps ih=>
      intro hp
      have h2:¬ (slot,p.cps.toList)=cF m:=λz=>fJ (hp p am) (dP Prod.snd z)
      rw[ap,cp,ih λq hq=>hp q (af _ hq),pN,ax h2]
    rw[this s.1 ok.ok]
   | cons k r=>
    have h1:aR m (slot,[]) k=s.1.flatMap λp=>Nn slot s.2 p.cps.toList (B0 k) (C7 k):=by
     unfold aR iZ;simp only[hs];rfl
    rw[pN,h1,tX]
    congr 1
    refine bE λp hp=>?_
    rw[pN]
    congr 2
    unfold aR iZ;simp only[hs];rw[ax (fJ (ok.ok p hp))]
  rw[e]
  congr 1
  refine bE λp hp=>?_
  rw[Ho hs _ r (fJ (ok.ok p hp)),fM,Hq hm n (slot+1) _ (by omega)]
theorem Ra (hm:a_ m)(r:Row):(Lr m r).count (cF m)=BI m r:=by
 rw[Ss,Hq hm m.length 0 r (by omega),mx]
theorem CQ (f:Str->Nat):∀ps:List Str,0 < (ps.map f).sum↔∃p∈ps,0 < f p
 | []=>by simp
 | p::ps=>by
  rw[ap,cp]
  have:=CQ f ps
  simp only[bm,exists_eq_or_imp,← this]
  omega
theorem j7:∀(ms:qA) (r:Row),a_ ms->(0 < BI ms r↔Seg ms r)
 | [],r,_=>by
  unfold BI Seg
  by_cases h:r=[] <;> simp[h]
 | s::ms,r,hm=>by
  have ok:=hm s am
  rw[BI,CQ]
  constructor
  ·rintro ⟨p,hp,h⟩
   split at h
   ·rename_i hf
    exact⟨p,hp,r.take p.length,r.drop p.length,(k8 _ _).symm,hf,(j7 ms _ λt ht=>hm t (af _ ht)).mp h⟩
   ·omega
  ·rintro ⟨p,hp,a,b,e,hf,hs⟩
   have hl:a.length=p.length:=by rw[((j6 _ _ (fJ (ok.ok p hp))).mp hf).1,fM]
   refine⟨p,hp,?_⟩
   have e1:r.take p.length=a:=by rw[e,← hl,List.take_left'];rfl
   have e2:r.drop p.length=b:=by rw[e,← hl,List.drop_left'];rfl
   rw[e1,e2,a0 hf]
   exact(j7 ms b λt ht=>hm t (af _ ht)).mpr hs
theorem CT (ps:qo)(c:Bool):∀(ms:qA) (r:Row),dw r=true->BI (ms++[(ps,true)]) r=BI (ms++[(ps,c)]) r
 | [],r,hl=>by
  show BI [(ps,true)] r=BI [(ps,c)] r
  unfold BI
  congr 1
  refine bE λp _=>?_
  dsimp only
  by_cases hd:r.drop p.length=[]
  ·have:r.take p.length=r:=by
    have:=k8 p.length r
    rw[hd,br] at this
    exact this
   rw[this,pq (c:=c),hl,Bool.and_true]
  ·have e:BI [] (r.drop p.length)=0:=by unfold BI;rw[ax hd]
   rw[e]
   split <;> split <;> rfl
 | s::ms,r,hl=>by
  rw[fq,fq,BI,BI]
  congr 1
  refine bE λp _=>?_
  by_cases hd:r.drop p.length=[]
  ·have z:∀c:Bool,∀ms:List Slot,BI (ms++[(ps,c)]) []=0:=by
    intro c ms
    have hz:∀(t:Slot) (rest:qA),BI (t::rest) []=0:=by
     intro t rest
     rw[BI]
     have:∀qs:List Str,(qs.map λp=>if bj t.2 p.cps.toList (([]:Row).take p.length)=true then BI rest (([]:Row).drop p.length) else 0).sum=0:=by
      intro qs
      induction qs with
      | nil=>rfl
      | cons q qs ih=>
       rw[ap,cp,ih,ax]
       rw[List.take_nil]
       cases q.cps.toList <;> simp[bj]
     exact this t.1
    cases ms with
    | nil=>exact hz _ _
    | cons t ms=>exact hz _ _
   rw[hd,z,z]
  ·have:dw (r.drop p.length)=true:=by
    have e:=k8 p.length r
    rw[← e,lV _ _ hd] at hl
    exact hl
   rw[CT ps c ms _ this]
theorem wC (AU:m≠[])(hl:dw r=true):BI (Bn m) r=BI m r:=by
 have e:m=m.dropLast++[((m.getLast AU).1,(m.getLast AU).2)]:=(gx AU).symm
 have e2:Bn m=m.dropLast++[((m.getLast AU).1,true)]:=by unfold Bn;rw[ce AU];rfl
 rw[e2]
 conv=>rhs;rw[e]
 exact CT _ _ _ r hl
theorem rtw (h1:a_ m)(n1:m≠[])(l1:m.length<=3):
  (cj [mP m]=some .Au/\∀y,C4 y->BI (Bn m) y<=1) \/
  ∃x,cj [mP m]=some (.lst (x.map AW))/\C4 x/\2<=BI (Bn m) x/\∀y,C4 y->2<=BI (Bn m) y->¬ (y.length < x.length\/(y.length=x.length/\lx y x)):=by
 obtain⟨c1,c2,c3⟩:=qG h1 n1
 obtain⟨w1,a1,Y0,e1,I1⟩:=Nk h1 n1 l1 (most:=2) (by decide)
 have D1:=wd c1 c2 (by omega) (most:=2) (by decide) Y0
 have two:(1:Int)<=2:=by decide
 have at_:∀{w:WS}{ps:List Pl}{r:Row},WI a1 2 (DF (cF (Bn m))) (pl (Bn m) 2) w ps->pl (Bn m) 2 r∈ps->w.CB[ps.idxOf (pl (Bn m) 2 r)]?=some (ET (pl (Bn m) 2 r)):=by
  intro w ps r I h
  rw[I.pe,cm,rE h];rfl
 have val:∀r:Row,(look (pl (Bn m) 2 r) (BM (cF (Bn m)))).getD 0=mn 2 ((BI (Bn m) r:Nat):Int):=by
  intro r
  have:=(CN c1 c2 two r.length r rfl).2 (cF (Bn m))
  rw[Ra c1] at this
  exact this
 have Z2:∀r:Row,decide (1 < (look (pl (Bn m) 2 r) (BM (cF (Bn m)))).getD 0)=decide (2<=BI (Bn m) r):=by
  intro r
  rw[val,fI]
  simp only[ed]
  unfold mn
  split <;> omega
 have B:=bg1 (io:=bh) (so:=cB) (ro:=cU) (f1:=DF (cF (Bn m))) (sought:=λr=>decide (2<=BI (Bn m) r)) D1
  (λw ps r I h=>Ng (at_ I h))
  (λw1 Yn r I h=>by
   have x1:=Nh c1 (by omega) (Er c1 c2 two r) (at_ I h) I.fi
   rw[Q0 x1,Z2])
  (λW n ss h hl=>R_ h hl)
 have nil_of:∀{r:Row},2<=BI (Bn m) r->pl (Bn m) 2 r≠[]:=by
  intro r h z
  have:=val r
  rw[z] at this
  have e0:(look ([]:Pl) (BM (cF (Bn m)))).getD 0=0:=rfl
  rw[e0] at this
  unfold mn at this
  split at this <;> omega
 have H:=bh1 (sought:=λr=>decide (2<=BI (Bn m) r)) D1
  (λx y e1=>by
   show decide _=decide _
   rw[← Z2 x,← Z2 y,e1])
  (by simp[pl])
  (by
   have:¬ 0 < BI (Bn m) []:=λz=>u9 c2 ((j7 _ _ c1).mp z) rfl
   show decide _=false
   rw[oz]
   omega)
  (λx k hk e=>by
   rw[wk,e]
   rfl)
 have ew:cj [mP m]=VB aF 10 gj bh cB cU [w1]:=by
  unfold cj JC
  simp only[e1,ay]
 rcases MP (t:=[pl (Bn m) 2 []]) B Q8 Q9 H ⟨w1,rfl,I1⟩ (by simp[Xc]) (by simp[Q7]) with ⟨e,h⟩ | ⟨x,e,RS,IJ,ZD,SF,hx5⟩
 ·refine .inl ⟨by rw[ew,e],λy h4=>?_⟩
  refine ng λz=>?_
  have z:2<=BI (Bn m) y:=by omega
  have:=h y h4 (by simpa using nil_of z)
  simp at this
  omega
 ·refine .inr ⟨x,?_,IJ,by simpa using SF,λy h4 hy=>?_⟩
  ·rw[ew,e]
   congr 2
   exact bE λk hk=>Tr (IJ k hk)
  ·exact hx5 y h4 (by simpa using nil_of hy) (by simpa using hy)
abbrev Dn:=List (Nat×Int)
noncomputable def kN (y:Nat×Int):Key×PV:=(.inl (y.1:Int),.int y.2)
theorem wF {a b:Nat}(h:(.inl (a:Int):Key)=.inl (b:Int)):a=b:=by injection h with h;omega
noncomputable def lN (d:Dn)(i:Nat):Option Int:=(d.find? λy=>decide (y.1=i)).map (·.2)
theorem tY (d:Dn)(i:Nat):aJ (d.map kN) (.inl (i:Int))=(lN d i).map .int:=by
 unfold aJ lN
 rw[kR,kT,kT]
 have:((λx:Key×PV=>decide (x.1=.inl (i:Int)))∘kN)=λy=>decide (y.1=i):=by
  funext y
  show decide ((.inl (y.1:Int):Key)=.inl (i:Int))=decide (y.1=i)
  by_cases h:y.1=i
  ·simp[h]
  ·have:¬ (.inl (y.1:Int):Key)=.inl (i:Int):=λz=>h (wF z)
   simp[h,this]
 rw[this]
 rfl
def Nw (d:Dn)(i:Nat)(v:Int):Dn:=if (d.any λy=>decide (y.1=i))=true then d.map (λy=>if y.1=i then (y.1,v) else y) else d++[(i,v)]
theorem Nu (d:Dn)(i:Nat)(v:Int):bD (d.map kN) (.inl (i:Int)) (.int v)=(Nw d i v).map kN:=by
 unfold bD Nw
 have hd:∀y:Nat×Int,decide ((.inl (y.1:Int):Key)=.inl (i:Int))=decide (y.1=i):=λy=>by
  by_cases h:y.1=i
  ·simp[h]
  ·have:¬ (.inl (y.1:Int):Key)=.inl (i:Int):=λz=>h (wF z)
   simp[h,this]
 have:((d.map kN).any λkv=>decide (kv.1=.inl (i:Int)))=(d.any λy=>decide (y.1=i)):=by
  rw[p5]
  congr 1
  funext y
  exact hd y
 rw[this]
 by_cases h:(d.any λy=>decide (y.1=i))=true
 ·rw[a0 h,a0 h,gg,gg]
  refine bE λy _=>?_
  show (if (.inl (y.1:Int):Key)=.inl (i:Int) then ((.inl (y.1:Int):Key),PV.int v) else kN y)=kN (if y.1=i then (y.1,v) else y)
  by_cases h:y.1=i
  ·simp[h,kN]
  ·have:¬ (.inl (y.1:Int):Key)=.inl (i:Int):=λz=>h (wF z)
   simp[h,this]
 ·rw[ax h,ax h,cf];rfl
noncomputable def wt (d:Dn)(F:Nat->Nat):Int:=(d.map λy:Nat×Int=>y.2*((F y.1:Nat):Int)).sum
theorem Rb (a b:Dn)(F:Nat->Nat):wt (a++b) F=wt a F+wt b F:=by unfold wt;rw[cf,List.sum_append]
theorem Hr {d:Dn}(nd:(d.map (·.1)).Nodup)(i:Nat)(m:Int)(F:Nat->Nat):wt (Nw d i ((lN d i).getD 0+m)) F=wt d F+m*((F i:Nat):Int)/\((Nw d i ((lN d i).getD 0+m)).map (·.1)).Nodup:=by
 unfold Nw lN
 by_cases h:(d.any λy=>decide (y.1=i))=true
 ·rw[a0 h]
  refine⟨?_,?_⟩
  ·induction d with
   | nil=>simp at h
   | cons y d ih=>
    rw[ap,fN] at nd
    by_cases e:y.1=i
    ·have OA:∀z∈d,¬ z.1=i:=λz hz ez=>nd.1 (bP.mpr ⟨z,hz,by rw[ez,e]⟩)
     have e1:(d.map λz=>if z.1=i then (z.1,(List.find? (λy=>decide (y.1=i)) (y::d)).map (·.2) |>.getD 0 |> (·+m)) else z)=d:=by
      conv=>rhs;rw[← List.map_id d]
      refine bE λz hz=>?_
      rw[ax (OA z hz)];rfl
     rw[ap,a0 e]
     have e2:((y::d).find? λy=>decide (y.1=i))=some y:=by rw[eD];simp[e]
     rw[e2] at e1 ⊢
     simp only[ib,Option.getD_some] at e1 ⊢
     rw[e1]
     unfold wt
     rw[ap,cp,ap,cp,e,Int.add_mul]
     omega
    ·have ih:=ih nd.2 (by rw[eR] at h;simpa [e] using h)
     have e2:((y::d).find? λy=>decide (y.1=i))=d.find? λy=>decide (y.1=i):=by rw[eD];simp[e]
     rw[ap,ax e,e2]
     unfold wt at ih ⊢
     rw[ap,cp,ap,cp,ih]
     omega
  ·rw[gg]
   have:(d.map ((λx:Nat×Int=>x.1)∘λy=>if y.1=i then (y.1,((d.find? λy=>decide (y.1=i)).map (·.2)).getD 0+m) else y))=d.map (·.1):=by
    refine bE λy _=>?_
    show (if y.1=i then (y.1,_) else y).1=y.1
    split <;> rfl
   rw[this];exact nd
 ·rw[ax h]
  have hn:(d.find? λy=>decide (y.1=i))=none:=by
   rw[dE]
   intro y hy e
   exact h (eW.mpr ⟨y,hy,e⟩)
  rw[hn]
  refine⟨?_,?_⟩
  ·rw[Rb]
   simp[wt]
  ·rw[cf,gl]
   refine⟨nd,by simp,λa ha b hb e=>?_⟩
   simp at hb
   subst hb e
   obtain⟨y,hy,e⟩:=bP.mp ha
   exact h (eW.mpr ⟨y,hy,by simpa using e⟩)
theorem Nv (d:Dn)(i:Nat)(v:Int):(Nw d i v).length<=d.length+1:=by
 unfold Nw
 split
 ·simp
 ·simp
theorem Ny {d:Dn}{v:Int}{y:Nat×Int}(h:y∈Nw d i v):y.1=i\/y∈d:=by
 unfold Nw at h
 split at h
 ·obtain⟨z,hz,e⟩:=bP.mp h
  split at e
  ·rename_i hi;subst e;exact .inl hi
  ·subst e;exact .inr hz
 ·rcases bq.mp h with h | h
  ·exact .inr h
  ·rw[aw] at h;subst h;exact .inl rfl
structure DC (B:Nat)(N:Nat)(d:Dn):Prop where
 nd:(d.map (·.1)).Nodup
 ln:d.length<=N
 le:∀y∈d,y.1<=B
noncomputable def gv (r:Row)(cut:Bool)(ps:qo)(i:Nat)(F:Nat->Nat):Nat:=(ps.map λp=>if QN r i p cut=true then F (i+p.length) else 0).sum
section
variable {r:Row}(hr:r.length < 900)
include hr
theorem Z3 {i:Nat}(hi:i < 900){m:Int}{cut:Bool}:∀(ps:qo) (d:Dn) (N:Nat),(∀p∈ps,BB p)->N+ps.length < 1000->DC r.length N d->
  ∃d',jL aU (rP r) (.bl cut) (i:Int) m (ps.map .str) (d.map kN)=some (d'.map kN)/\DC r.length (N+ps.length) d'/\∀F,wt d' F=wt d F+m*((gv r cut ps i F:Nat):Int)
 | [],d,N,_,_,I=>⟨d,rfl,⟨I.nd,by have:=I.ln;simp;omega,I.le⟩,λF=>by simp[gv]⟩
 | p::ps,d,N,hp,hN,I=>by
  have Z4:=hp p am
  have hf:=Np (r:=r) (by omega) (i:=i) (by omega) Z4 cut
  simp only[bv] at hN
  cases Xd:QN r i p cut with
  | false=>
   rw[Xd] at hf
   obtain⟨d',h1,h2,h3⟩:=Z3 hi (m:=m) ps d N (λq hq=>hp q (af _ hq)) (by omega) I
   refine⟨d',?_,⟨h2.nd,by have:=h2.ln;simp;omega,h2.le⟩,λF=>?_⟩
   ·rw[ap,jL]
    have:oX aU (rP r) (.bl cut) (i:Int) m (.str p) (d.map kN)=some (d.map kN):=by
     unfold oX
     rw[hf];rfl
    rw[this];exact h1
   ·rw[h3 F]
    unfold gv
    rw[ap,cp,Xd]
    simp
  | true=>
   rw[Xd] at hf
   have ei:((i:Int)+p.length)=((i+p.length:Nat):Int):=by omega
   have hle:=((wB Z4).mp Xd).1
   have VH:(aJ (d.map kN) (.inl ((i:Int)+p.length))).getD (.int 0)=.int ((lN d (i+p.length)).getD 0):=by
    rw[ei,tY]
    cases lN d (i+p.length) <;> rfl
   have I2:DC r.length (N+1) (Nw d (i+p.length) ((lN d (i+p.length)).getD 0+m)):=⟨(Hr I.nd (i+p.length) m λ_=>0).2,by have:=Nv d (i+p.length) ((lN d (i+p.length)).getD 0+m);have:=I.ln;omega,λy hy=>(Ny hy).elim (λe=>by omega) λh=>I.le y h⟩
   obtain⟨d',h1,h2,h3⟩:=Z3 hi (m:=m) ps _ (N+1) (λq hq=>hp q (af _ hq)) (by omega) I2
   refine⟨d',?_,⟨h2.nd,by have:=h2.ln;simp;omega,h2.le⟩,λF=>?_⟩
   ·rw[ap,jL]
    have:oX aU (rP r) (.bl cut) (i:Int) m (.str p) (d.map kN)=some ((Nw d (i+p.length) ((lN d (i+p.length)).getD 0+m)).map kN):=by
     unfold oX
     rw[hf]
     simp only[ay,VH]
     have h3:=Z4.le
     have h4:=I.ln
     rw[a0 ⟨by omega,by simp;omega⟩,ei,Nu]
    rw[this];exact h1
   ·rw[h3 F,(Hr I.nd (i+p.length) m F).1]
    unfold gv
    rw[ap,cp,Xd]
    simp only[fw]
    push_cast
    rw[pz]
    omega
theorem mg2 {cut:Bool}{ps:qo}(ok:CD ps){all:Dn}(nd:(all.map (·.1)).Nodup)(hle:∀y∈all,y.1 < 900):∀(ws d:Dn) (N:Nat),(∀e∈ws,e∈all)->N+4*ws.length < 1000->DC r.length N d->
  ∃d',iK aU (rP r) (.bl cut) (ps.map .str) (all.map kN) (ws.map kN) (d.map kN)=some (d'.map kN)/\DC r.length (N+4*ws.length) d'/\∀F,wt d' F=wt d F+wt ws λi=>gv r cut ps i F
 | [],d,N,_,_,I=>⟨d,rfl,⟨I.nd,by have:=I.ln;simp;omega,I.le⟩,λF=>by simp[wt]⟩
 | (i,v)::ws,d,N,hw,hN,I=>by
  have hv:lN all i=some v:=by
   have hm:=hw _ am
   unfold lN
   clear hw hN
   induction all with
   | nil=>cases hm
   | cons y all ih=>
    rw[ap,fN] at nd
    rcases bm.mp hm with e | hm
    ·rw[← e];simp
    ·have:¬ y.1=i:=λe=>nd.1 (bP.mpr ⟨(i,v),hm,e.symm⟩)
     rw[eD]
     simp only[this,decide_false]
     exact ih nd.2 (λz hz=>hle z (af _ hz)) hm
  have em:aJ (all.map kN) (.inl (i:Int))=some (.int v):=by rw[tY,hv];rfl
  simp only[bv] at hN
  have hl:=ok.le
  obtain⟨k1,h1,I1,w1⟩:=Z3 hr (hle _ (hw _ am)) (m:=v) (cut:=cut) ps d N ok.ok (by omega) I
  obtain⟨k2,h2,I2,w2⟩:=mg2 (cut:=cut) ok nd hle ws k1 (N+ps.length) (λe he=>hw e (af _ he)) (by omega) I1
  refine⟨k2,?_,⟨I2.nd,by have:=I2.ln;simp;omega,I2.le⟩,λF=>?_⟩
  ·rw[ap]
   show iK aU (rP r) (.bl cut) (ps.map .str) (all.map kN) ((.inl (i:Int),.int v)::ws.map kN) (d.map kN)=_
   unfold iK
   simp only[em,h1,ay,h2]
  ·rw[w2 F,w1 F]
   unfold wt
   rw[ap,cp]
   dsimp only
   omega
theorem Su (ok:CD s.1)(ms:qA)(hi:i<=r.length):gv r s.2 s.1 i (λj=>BI ms (r.drop j))=BI (s::ms) (r.drop i):=by
 unfold gv
 rw[BI]
 congr 1
 refine bE λp hp=>?_
 have LU:=ok.ok p hp
 rw[pp]
 by_cases hf:QN r i p s.2=true
 ·rw[a0 hf,a0 ((wB LU).mp hf).2]
 ·rw[ax hf,ax]
  intro h
  apply hf
  refine(wB LU).mpr ⟨?_,h⟩
  have:=((j6 _ _ (fJ LU)).mp h).1
  rw[fM,gX,g6] at this
  have:=LU.ge
  omega
theorem mg3:∀(ms:qA) (w:Dn) (N:Nat),a_ ms->N*4 ^ ms.length < 900->DC r.length N w->
  ∃w',iB aU (rP r) (ms.map BF) (w.map kN)=some (w'.map kN)/\DC r.length (N*4 ^ ms.length) w'/\wt w' (λj=>BI [] (r.drop j))=wt w λj=>BI ms (r.drop j)
 | [],w,N,_,_,I=>⟨w,rfl,by simpa using I,rfl⟩
 | s::ms,w,N,hm,hN,I=>by
  have ok:=hm s am
  have LH:1<=4 ^ ms.length:=Nat.pos_of_ne_zero (by simp)
  have e:N*(4 ^ ms.length*4)=N*4*4 ^ ms.length:=by rw[Nat.mul_comm (4 ^ ms.length),Nat.mul_assoc]
  rw[bv,Nat.pow_succ] at hN
  have hN4:N*4 < 900:=by
   have:N*4*1<=N*4*4 ^ ms.length:=Nat.mul_le_mul_left _ LH
   omega
  have hl:=I.ln
  obtain⟨w1,h1,I1,x1⟩:=mg2 hr (cut:=s.2) ok I.nd (λy hy=>by have:=I.le y hy;omega) w [] 0 (λe he=>he) (by omega) ⟨by simp,by simp,λy hy=>by cases hy⟩
  have I1':DC r.length (N*4) w1:=⟨I1.nd,by have:=I1.ln;omega,I1.le⟩
  obtain⟨w2,h2,I2,x2⟩:=mg3 ms w1 (N*4) (λt ht=>hm t (af _ ht)) (by omega) I1'
  refine⟨w2,?_,⟨I2.nd,by have:=I2.ln;rw[bv,Nat.pow_succ];omega,I2.le⟩,?_⟩
  ·rw[ap]
   show (iK aU (rP r) (.bl s.2) (s.1.map .str) (w.map kN) (w.map kN) (([]:Dn).map kN)).bind _=_
   rw[h1];exact h2
  ·rw[x2,x1]
   have z:wt ([]:Dn) (λj=>BI ms (r.drop j))=0:=rfl
   rw[z,Int.zero_add]
   unfold wt
   congr 1
   refine bE λy hy=>?_
   dsimp only
   rw[Su hr ok ms (I.le y hy)]
theorem Rc (d:Dn)(nd:(d.map (·.1)).Nodup)(hle:∀y∈d,y.1<=r.length):wt d (λj=>BI [] (r.drop j))=(lN d r.length).getD 0:=by
 unfold wt lN
 induction d with
 | nil=>rfl
 | cons y d ih=>
  rw[ap,fN] at nd
  have ih:=ih nd.2 λz hz=>hle z (af _ hz)
  rw[ap,cp,ih,eD]
  by_cases e:y.1=r.length
  ·have h0:BI [] (r.drop y.1)=1:=by unfold BI;rw[a0];rw[dv];omega
   have h1:(d.find? λz=>decide (z.1=r.length))=none:=by
    rw[dE]
    intro z hz ez
    exact nd.1 (bP.mpr ⟨z,hz,by rw[e];simpa using ez⟩)
   dsimp only
   rw[h0,h1]
   simp[e]
  ·have hy:=hle y am
   have h0:BI [] (r.drop y.1)=0:=by
    unfold BI
    rw[ax]
    rw[dv]
    omega
   dsimp only
   rw[h0]
   simp[e]
theorem tZ (hm:a_ m)(hl:m.length<=3):bW [mP m,rP r]=some (.int (BI m r:Nat)):=by
 have h4:1*4 ^ m.length < 900:=by
  have:m.length=0\/m.length=1\/m.length=2\/m.length=3:=by omega
  rcases this with h | h | h | h <;> rw[h] <;> decide
 obtain⟨w,h1,I,x⟩:=mg3 hr m [(0,1)] 1 hm h4 ⟨by simp,by simp,λy hy=>by rw[aw] at hy;subst hy;exact cq _⟩
 rw[Rc hr w I.nd I.le] at x
 have e:bW [mP m,rP r]=some ((aJ (w.map kN) (.inl (r.length:Nat))).getD (.int 0)):=by
  show (iB aU (.lst (r.map AW)) (m.map BF) [(.inl 0,.int 1)]).bind _=_
  have h1:iB aU (.lst (r.map AW)) (m.map BF) [(.inl 0,.int 1)]=some (w.map kN):=h1
  rw[h1]
  simp
 rw[e,tY]
 have:(Option.map PV.int (lN w r.length)).getD (.int 0)=.int ((lN w r.length).getD 0):=by cases lN w r.length <;> rfl
 rw[this,x]
 simp[wt]
end
theorem Nz (ns:qq)(k:Nat):∃c,cX [.frz (ns.map PV.int),.int k]=some (.int c):=by
 by_cases h:k < ns.length
 ·have h1:B5 (ns.map PV.int) (k:Int)=some (.int ns[k]):=d_ (by simp[h])
  have h2:(k:Int) < ns.length:=by omega
  exact⟨ns[k],by simp[cX,iY,h1,h]⟩
 ·have h2:¬ (k:Int) < ns.length:=by omega
  exact⟨0,by simp[cX,iY,h]⟩
theorem Kd (ns:qq)(a b:Option Int):∃cs:List Int,iH (ns.map PV.int) a b=cs.map PV.int/\cs.length<=ns.length:=by
 refine⟨(ns.drop (HT.AS ns.length 0 a)).take (HT.AS ns.length ns.length b - HT.AS ns.length 0 a),?_,by simp;omega⟩
 unfold iH
 rw[List.map_take,List.map_drop,ba]
theorem Rf (x:Row):D3 2 (rP x):=by
 unfold rP
 simp only[D3]
 intro z hz
 obtain⟨j,_,rfl⟩:=bP.mp hz
 exact Ew j
theorem NA (ns:qq)(h:ns.length<=63):uV [.frz (ns.map PV.int)]=some (.bl true):=by
 obtain⟨c0,SD⟩:=Nz ns 0
 obtain⟨m,o1,o2,o3,ho⟩:=JM c0
 obtain⟨bs,hb,_⟩:=Kd ns (some 1) (some 25)
 have SD:cX [.frz (ns.map PV.int),.int 0]=some (.int c0):=SD
 generalize hS:PV.frz (ns.map PV.int)=Sc at SD
 have Xe:∀env:MR.Env,env[0]?=some (some Sc)->iV (Pw (bV 0) (oS (zv 1)) (oS (zv 25))) env=some (bs.map PV.int):=by
  intro env he
  rw[← hS] at he
  simp[he,hb]
 have c1:=(qG o1 o2).1
 have c2:=(qG o1 o2).2.1
 have done:zQ [some Sc,none,none,none,none,none]=some (.rt (.bl true)):=by
  unfold zQ
  refine(dB (e:=[some Sc,some (mP m),none,none,none,none]) (by simp[SD,ho])).trans ?_
  rcases rtw o1 o2 o3 with ⟨e,hn⟩ | ⟨x,e,x1,x2,x4⟩
  ·rw[JF (by simp[e])]
   show aP _ _ [some Sc,some (mP m),some .Au,none,none,none]=_
   refine(idl (by simp)).trans ?_
   refine(dB (e:=[some Sc,some (mP m),some .Au,none,none,none]) ?_).trans ?_
   ·rw[Ca,Xe _ rfl,ay]
    refine jD PV.int bs λc _=>?_
    obtain⟨y,y1,y2,y3,y4,y5⟩:=CJ o1 o2 o3 c
    have hN:=tZ (r:=y) (by omega) o1 o3
    have h1:BI m y=1:=by
     have a:=(j7 m y o1).mpr y3
     have b:=hn y y1
     rw[wC o2 y4] at b
     omega
    rw[h1] at hN
    simp[bZ,zP,y5,hN]
   ·refine(dB (e:=[some Sc,some (mP m),some .Au,none,none,some .Au]) (by simp[e])).trans ?_
    refine Mv ?_
    simp
  ·have LH:0 < BI (Bn m) x:=by omega
   have Xf:=(j7 _ _ c1).mp LH
   obtain⟨hs,hl⟩:=(Nm o2 x).mp Xf
   have hlen:x.length < 900:=by
    have:=ww c1 x _ _ (KS.mp ((Q3 c1 x).mpr Xf))
    have e:rem (Bn m).length (0,[])=3*(Bn m).length:=by simp[rem]
    have:=(qG o1 o2).2.2
    omega
   have i1:=Ka (u9 o2 hs) hl
   have hN:=tZ (r:=x) hlen o1 o3
   have h2:¬ ((BI m x:Nat):Int) < 2:=by
    have:=wC o2 hl
    omega
   have lp:cV (gN 3) [3,4] oZ (bs.map PV.int) [some Sc,some (mP m),some (rP x),none,none,none]=some (.nx [some Sc,some (mP m),some (rP x),none,none,none]):=by
    refine jD PV.int bs λc _=>?_
    obtain⟨y,y1,y2,y3,y4,y5⟩:=CJ o1 o2 o3 c
    have hNy:=tZ (r:=y) (by omega) o1 o3
    obtain⟨b,b1,b2⟩:=Hh (x:=y) (y:=x) y1 x1 (by omega) (by omega)
    have er:rP x=.lst (x.map AW):=rfl
    cases b with
    | false=>
     rw[er] at b1 ⊢
     simp[F6,bZ,oZ,y5,b1]
    | true=>
     have Yb:=b2.mp rfl
     have h1:BI m y=1:=by
      have a:=(j7 m y o1).mpr y3
      refine ng λz=>?_
      exact x4 y y1 (by rw[wC o2 y4];omega) Yb
     rw[h1] at hNy
     rw[er] at b1 ⊢
     simp[F6,bZ,oZ,y5,b1,hNy]
   have eqr:=zR (Rf x) (by decide)
   unfold rP at i1 hN eqr lp
   have RO:(x.map AW).length < 1000000:=by simp;omega
   rw[JG (by simp[e];rfl)]
   generalize x.map AW=X at *
   show aP _ _ [some Sc,some (mP m),some (.lst X),none,none,none]=_
   refine(dB (e:=[some Sc,some (mP m),some (.lst X),none,none,none]) (by simp[F6,i1,hN,h2])).trans ?_
   refine(dB (e:=[some Sc,some (mP m),some (.lst X),none,none,none]) ?_).trans ?_
   ·rw[Ca,Xe _ rfl,ay]
    exact lp
   ·refine(dB (e:=[some Sc,some (mP m),some (.lst X),none,none,some (.lst X)]) (by simp[e])).trans ?_
    refine(dB (e:=[some Sc,some (mP m),some (.lst X),none,none,some (.lst X)]) (by simp)).trans ?_
    refine(dB (e:=[some Sc,some (mP m),some (.lst (X++[.tup [.str "u",.bl true]])),none,none,some (.lst X)]) (by simp[RO])).trans ?_
    have hc:=xK (X++[.tup [.str "u",.bl true]]) (by simp)
    rw[List.dropLast_concat] at hc
    simp[hc,eqr]
 simp[uV,done]
noncomputable def top (i:Nat):Stmt:=PySem.Challenge.pw_lilt_k82_whole_read_twice.main.body.getD i (.Pass ⟨0,0,0,0⟩)
abbrev gK:=top 21
abbrev pA:=top 20
abbrev mH:=top 22
abbrev i_:=top 23
abbrev dI:=inClass (top 12) 2
abbrev fB:=inClass (top 12) 1
abbrev g_:=inClass (top 12) 3
abbrev eO:=top 14
abbrev fO:=inClass (top 12) 5
abbrev pB:=top 16
abbrev jb:=inClass (top 12) 4
abbrev t6:=top 13
abbrev mJ:=top 15
abbrev jc:=top 9
abbrev jF:=top 3
abbrev mK:=top 2
abbrev ju:=top 5
abbrev lG:=top 4
abbrev pC:=top 6
abbrev qI:=top 10
abbrev h_:=top 11
abbrev iu:=inClass (top 12) 0
abbrev lH:=top 17
abbrev jw:=top 19
abbrev mL:=top 26
abbrev jR:=top 27
abbrev jT:=top 28
abbrev jG:=top 24
abbrev iy:=top 25
abbrev rG:=top 29
noncomputable section
structure FR where
 k:Nat
 x:Str
 ps:List Str
 m:List PV->Option PV
 st:Stmt
abbrev tJ:FR:=⟨1, "_law_pattern",["_law_number"],cW,gK⟩
abbrev rX:FR:=⟨1, "_law_mix",["_law_cell","_law_k"],fL,pA⟩
abbrev tT:FR:=⟨2, "_law_slot",["_law_number"],iQ,mH⟩
abbrev tF:FR:=⟨3, "_law_metre",["_law_cell","_law_most"],gZ,i_⟩
abbrev sA:FR:=⟨2, "is_twice",["walks","node"],cB,pB⟩
abbrev t9:FR:=⟨1, "with_last_cut",["metre"],bF,jc⟩
abbrev t5:FR:=⟨1, "states_of",["metre"],iU,jF⟩
abbrev sx:FR:=⟨1, "end_state",["metre"],bG,mK⟩
abbrev t4:FR:=⟨1, "state_behind",["metre","state","ends"],dN,ju⟩
abbrev t3:FR:=⟨1, "stands_for",["sign","mark"],fH,lG⟩
abbrev t0:FR:=⟨2, "moves_of",["metre","state","mark","ends"],dU,pC⟩
abbrev sB:FR:=⟨1, "rest_of",["metre","state"],bK,qI⟩
abbrev tm:FR:=⟨1, "_law_cell_at",["_law_script","_law_k"],cX,jw⟩
abbrev tP:FR:=⟨2, "_law_said",["_law_metre_here","_law_cell"],gk,mL⟩
abbrev tj:FR:=⟨1, "_law_before",["_law_one","_law_other"],cO,jR⟩
abbrev tw:FR:=⟨1, "_law_is_row",["_law_found"],eN,jT⟩
abbrev tq:FR:=⟨1, "_law_fits",["_law_row","_law_at","_law_pattern_here","_law_cut"],aU,jG⟩
abbrev tz:FR:=⟨2, "_law_many_feet",["_law_metre_here","_law_row"],bW,iy⟩
abbrev vi:FR:=⟨7, "law",["_law_script"],uV,rG⟩
theorem u_:AA ["_law_number"] tJ.ps (aC gK):=DS
theorem Bj:AA ["_law_cell","_law_k"] rX.ps (aC pA):=DS
theorem ua:AA ["_law_number","_law_patterns","_law_k","_law_one"] tT.ps (aC mH):=DS
theorem xQ:AA ["_law_cell","_law_most"] tF.ps (aC i_):=DS
theorem lJ:AA ["self","place"] ["self","place"] (aC dI):=DS
theorem AL:AA ["self","number","said","ways","rest","many","reached"] ["self","number","said"] (aC fB):=DS
theorem wG:AA ["self","number"] ["self","number"] (aC g_):=DS
theorem wc:AA ["walks","node","later"] ["walks","node"] (aC eO):=DS
theorem pD:AA ["self","number"] ["self","number"] (aC fO):=DS
theorem Bk:AA ["walks","node"] sA.ps (aC pB):=DS
theorem t7:AA ["self","number"] ["self","number"] (aC jb):=DS
theorem ub:AA ["ways","node","backwards","at"] ["ways","node"] (aC t6):=DS
theorem qV:AA ["walks","is_sought","start","ways","nodes","later","node","said","reached"] ["walks","is_sought"] (aC mJ):=DS
theorem t8:AA ["metre"] t9.ps (aC jc):=DS
theorem r9:AA ["metre","states","slot","told","number","pattern"] t5.ps (aC jF):=DS
theorem An:AA ["metre"] sx.ps (aC mK):=DS
theorem vj:AA ["metre","state","ends","slot","behind"] t4.ps (aC ju):=DS
theorem xR:AA ["sign","mark"] t3.ps (aC lG):=DS
theorem rj:AA ["metre","state","mark","ends","slot","at","patterns","numbers","moves","number","reached"] t0.ps (aC pC):=DS
theorem Ey:AA ["metre","state"] sB.ps (aC qI):=DS
theorem sC:AA ["metre","ahead","state","said","moves"] ["metre"] (aC h_):=DS
theorem B9:AA ["self","metre","most","closed"] ["self","metre","most"] (aC iu):=DS
theorem xT:AA ["metre"] ["metre"] (aC lH):=DS
theorem vf:AA ["_law_script","_law_k"] tm.ps (aC jw):=DS
theorem qS:AA ["_law_metre_here","_law_cell","_law_row","_law_k","_law_slot_here","_law_number","_law_pattern_here","_law_j","_law_mark","_law_ends"] tP.ps (aC mL):=DS
theorem vT:AA ["_law_one","_law_other","_law_k"] tj.ps (aC jR):=DS
theorem wb:AA ["_law_found","_law_step"] tw.ps (aC jT):=DS
theorem Ao:AA ["_law_row","_law_at","_law_pattern_here","_law_cut"] tq.ps (aC jG):=DS
theorem rh:AA ["_law_metre_here","_law_row","_law_ways","_law_patterns","_law_cut","_law_later","_law_at","_law_pattern_here"] tz.ps (aC iy):=DS
theorem q5:AA ["_law_script","_law_metre_here","_law_found","_law_cell","_law_row","_law_again"] vi.ps (aC rG):=DS
structure Z7 where
 P:Program
 w:World
 K:W.Frag
 mg:Str->Option Value
 base:Heap
 cl:Nat->Addr
 B1:Addr
 CF:Addr
section
variable (Z:Z7)(r:FR)(f:Addr)(fd:FuncData)
abbrev ca:=IL Z.P Z.w Z.K Z.mg Z.base r.k r.x r.ps (C2 ⟨Z.K,Z.cl⟩ r.m false)
abbrev fu:=DI Z.K r.x r.x r.st f fd
abbrev fo:=A4 Z.P Z.w Z.K Z.mg Z.base EJ r.k f fd r.ps (C2 ⟨Z.K,Z.cl⟩ r.m false)
structure Zq:Prop where
 sD:Z.mg "bool" = none
 sF:Z.mg "dict" = none
 rL:Z.mg "enumerate" = none
 rS:Z.mg "isinstance" = none
 gV:Z.mg "len" = none
 rV:Z.mg "list" = none
 sK:Z.mg "min" = none
 qE:Z.mg "range" = none
 sL:Z.mg "reversed" = none
 sM:Z.mg "sorted" = none
 re:Z.mg "tuple" = none
 se:Z.mg "zip" = none
 rg:Z.mg "SAID" = some (.ref Z.B1)
 si:Z.mg "START" = some (.ref Z.CF)
 va:∀(B:Addr->Prop) (H:Hp),Rep ⟨Z.K,Z.cl⟩ B H (.ref Z.B1) uU
 vb:∀(B:Addr->Prop) (H:Hp),Rep ⟨Z.K,Z.cl⟩ B H (.ref Z.CF) gH
 AZ:II Z.K (Z.cl 10)
 sj:∀t k,(t,k)∈DA->W.kitOne Z.K (.type t) (.type "bool")=some k
 sv:∀t k,(t,k)∈DB->W.kitOne Z.K (.type t) (.type "list")=some k
 sw:∀t k,(t,k)∈CA->W.kitOne Z.K (.type t) (.type "tuple")=some k
 D6:AV Z.K (Z.cl 10) "ahead"
 FG:AV Z.K (Z.cl 10) "end"
 EU:AV Z.K (Z.cl 10) "most"
 FH:AV Z.K (Z.cl 10) "numbers"
 FX:AV Z.K (Z.cl 10) "onward"
 Bz:AV Z.K (Z.cl 10) "places"
 D7:qp ⟨Z.K,Z.cl⟩ Z.B1 gj
structure wq:Prop extends Zq Z where
 sf:ca Z rX
 xc:ca Z tJ
structure wn:Prop extends Zq Z where
 sf:ca Z rX
 xh:ca Z tT
structure wf:Prop extends Zq Z where
 zl:EG Z.P Z.w Z.K Z.mg Z.base (Z.cl 10) 1 "number_of_place" ["self","place"] (q8 ⟨Z.K,Z.cl⟩)
 zo:EG Z.P Z.w Z.K Z.mg Z.base (Z.cl 10) 1 "place_behind" ["self","number","said"] (C2 ⟨Z.K,Z.cl⟩ aF false)
structure wS:Prop extends Zq Z where
 zk:EG Z.P Z.w Z.K Z.mg Z.base (Z.cl 10) 2 "later" ["self","number"] (uL ⟨Z.K,Z.cl⟩ 10 aF gj)
structure wx:Prop extends Zq Z where
 zt:EG Z.P Z.w Z.K Z.mg Z.base (Z.cl 10) 1 "ways_to_end" ["self","number"] (C2 ⟨Z.K,Z.cl⟩ bU false)
structure wv:Prop extends Zq Z where
 uj:ca Z sA
 xo:IL Z.P Z.w Z.K Z.mg Z.base 3 "nodes_behind" ["walks","node"] (zE ⟨Z.K,Z.cl⟩ 10 aF gj)
 xt:IL Z.P Z.w Z.K Z.mg Z.base 1 "row_to" ["ways","node"] (C2 ⟨Z.K,Z.cl⟩ cU true)
 zi:EG Z.P Z.w Z.K Z.mg Z.base (Z.cl 10) 1 "is_over" ["self","number"] (C2 ⟨Z.K,Z.cl⟩ bh false)
structure wP:Prop extends Zq Z where
 ui:ca Z sx
 xw:ca Z t3
 xy:ca Z t4
structure w4:Prop extends Zq Z where
 xl:ca Z t0
 sg:ca Z sB
 xz:ca Z t5
structure we:Prop extends Zq Z where
 ui:ca Z sx
 sg:ca Z sB
 xp:IL Z.P Z.w Z.K Z.mg Z.base 3 "rests_ahead" ["metre"] (C2 ⟨Z.K,Z.cl⟩ bI true)
 xA:ca Z t9
structure wT:Prop extends Zq Z where
 xi:IL Z.P Z.w Z.K Z.mg Z.base 4 "first_row" ["walks","is_sought"] (Jy Z.mg "is_twice" ⟨Z.K,Z.cl⟩ 10 aF gj bh cB cU)
 uj:ca Z sA
 Vf:UP Z.P Z.w Z.K Z.mg Z.base (Z.cl 10) 4 "Walk" ["self","metre","most"] (zO ⟨Z.K,Z.cl⟩ 10 bF bI bK bG gH)
structure wo:Prop extends Zq Z where
 sf:ca Z rX
structure wm:Prop extends Zq Z where
 w9:ca Z tq
structure wE:Prop extends Zq Z where
 vk:ca Z tj
 w8:ca Z tm
 vv:ca Z tw
 sN:ca Z tz
 xb:ca Z tF
 vx:ca Z tP
 uk:IL Z.P Z.w Z.K Z.mg Z.base 6 "read_twice" ["metre"] (VE ⟨Z.K,Z.cl⟩ cj)
end
section
variable {Z:Z7}{f:Addr}{fd:FuncData}
theorem vg (F:fu Z tJ f fd)(T:Zq Z):fo Z tJ f fd:=by
 refine Fu F u_ [] [] [] λhr=>?_
 exact(aH (aZ (Li f9 (nq (BS:=(aC gK)) (ON:=["_law_number"]) (N:=["_law_k","_law_number"]) (AB:=[none,some 0]) WD (DR 0) (qX T.qE (dM ak (gf (gf (aa 0) ak) ak))) (λ_ _ _ _=>vX 0) (λ_ _ _ _=>oJ) (λ_ _ _ _=>(aM hr f9 (gf (m7 (aa 1) (aM hr (d9 (aj ak (aj ak (aj ak (aj ak aK))))) (aa 0))) ak)))))))
theorem Bl (F:fu Z rX f fd)(T:Zq Z):fo Z rX f fd:=by
 refine Fu F Bj [] [] [] λhr=>?_
 exact(aH (aZ (gf (dM (uD (gf (aa 0) ak) (dM ak (uD (uD ak (aa 1)) (aa 1)))) (uD ak (aa 1))) ak)))
theorem Aq (F:fu Z tT f fd)(T:wq Z):fo Z tT f fd:=by
 refine Fu F ua [1] [1] [] λhr=>?_
 exact(aD (k_ 1 ua.nd (d9 aK)) (aD (fQ [2,3] (qX T.qE (dM ak (gf (aa 0) ak))) (mq 2 ua.nd) (aD (cP 3 ua.nd (bc T.xc hr (aj (bc T.sf hr (aj (m7 (aa 0) ak) (aj (aa 2) aK))) aK))) (aH (dR (bz (sS hr (aa 3) (jO 1))) (aH (qW 1 (aa 3))) cg))) ci) (aH (aZ (cR (aj (sY T.re (jO 1)) (aj (dg (dW hr (gf (m7 (aa 0) ak) ak) ak)) aK)))))))
theorem xU (F:fu Z tF f fd)(T:wn Z):fo Z tF f fd:=by
 refine Fu F xQ [] [] [] λhr=>?_
 exact(aH (aZ (sY T.re (nq (BS:=(aC i_)) (ON:=["_law_cell","_law_most"]) (N:=["_law_k","_law_cell","_law_most"]) (AB:=[none,some 0,some 1]) WD (DR 0) (qX T.qE (dM ak (gf (aa 0) (aa 1)))) (λ_ _ _ _=>vX 0) (λ_ _ _ _=>oJ) (λ_ _ _ _=>(bc T.xh hr (aj (bc T.sf hr (aj (m7 (aa 1) (aa 2)) (aj (aa 0) aK))) aK)))))))
theorem lK (F:DI Z.K "number_of_place" "Walk.number_of_place" dI f fd)(T:Zq Z):A4 Z.P Z.w Z.K Z.mg Z.base EJ 1 f fd ["self","place"] (q8 ⟨Z.K,Z.cl⟩):=by
 refine F.ok lJ (λvs H Q E h=>GD h) (λC1 A' outer s H vs Q E hr h=>⟨Jh Z.K,?_,LC h⟩)
 exact aW (qK (ug (pX (dh hr) (pv 1) (gB Z.K (pv 0)))) (aW (mY (dh hr) (gB Z.K (pv 0)) (pv 1) (dC (jJ Z.K) rfl T.gV hW (aB (gB Z.K (pv 0)) aN)) rfl) (bR (qJ (Gg Z.K iA j3 kc jH (gB Z.K (pv 0)) (aB (pv 1) aN))))) j4) (bR (gR (qN (dh hr) (gB Z.K (pv 0)) (pv 1) (λ_ _=>rfl))))
theorem nU (F:DI Z.K "place_behind" "Walk.place_behind" fB f fd)(T:Zq Z):A4 Z.P Z.w Z.K Z.mg Z.base EJ 1 f fd ["self","number","said"] (C2 ⟨Z.K,Z.cl⟩ aF false):=by
 refine Fu F AL [3] [3] [] λhr=>?_
 exact(aD (k_ 3 AL.nd Kq) (aD (fQ [4,5,6] (oG (aM hr (m_ (c:=10) T.AZ T.Bz (aa 0)) (aa 1))) (DQ (gh 4 AL.nd (gh 5 AL.nd qY))) (aH (fQ [6] (oG (vW hr (m_ (c:=10) T.AZ T.D6 (aa 0)) (cR (aj (aa 4) (aj (aa 2) aK))) (SE.val (d9 aK)))) (mq 6 AL.nd) (aH (Kr 3 hr (aa 6) (Qf T.sK (m_ (c:=10) T.AZ T.EU (aa 0)) (dM (vW hr (jO 3) (aa 6) ak) (aa 5))))) ci)) ci) (aH (aZ (sY T.re (Jg hr T.sM (jO 3)))))))
theorem wH (F:DI Z.K "later" "Walk.later" g_ f fd)(T:wf Z):A4 Z.P Z.w Z.K Z.mg Z.base EJ 2 f fd ["self","number"] (uL ⟨Z.K,Z.cl⟩ 10 aF gj):=by
 refine F.ok wG (λvs H Q E h=>GJ h) (λC1 A' outer s H vs Q E hr h=>⟨Ji ⟨Z.K,Z.cl⟩ 10 aF Z.B1,?_,LK T.D7 h⟩)
 exact aW (qK (ug (pX (dh hr) (pv 1) (gB Z.K (pv 0)))) (bR (mY (dh hr) (gB Z.K (pv 0)) (pv 1) (qO (BS:=(aC g_)) (ON:=["self","number"]) (N:=["said","self","number"]) (AB:=[none,some 0,some 1]) ⟨rfl,by decide +kernel,by decide +kernel,by decide +kernel,by decide +kernel⟩ (uo (j0 rfl T.rg rfl)) (λ_ _ _ _=>cI (i:=0) (show (["said","self","number"]:qo).Nodup by decide +kernel) rfl (eT rfl)) (λ_ _ _ _=>kJ) (λ_ _ _ _=>q_ T.zl T.AZ hr (pv 1) (aB (q_ T.zo T.AZ hr (pv 1) (aB (pv 2) (aB (pv 0) aN))) aN))) rfl)) j4) (bR (gR (qN (dh hr) (gB Z.K (pv 0)) (pv 1) (λ_ _=>rfl))))
theorem vh (F:DI Z.K "nodes_behind" "nodes_behind" eO f fd)(T:wS Z):A4 Z.P Z.w Z.K Z.mg Z.base EJ 3 f fd ["walks","node"] (zE ⟨Z.K,Z.cl⟩ 10 aF gj):=by
 refine F.ok wc (λvs H Q E h=>Jl h) (λC1 A' outer s H vs Q E hr h=>⟨Zm ⟨Z.K,Z.cl⟩ 10 aF gj Z.B1,?_,Qw T.D7 (by decide) h⟩)
 exact aW (dZ (i:=2) wc.nd rfl (.inr rfl) (qO (BS:=(aC eO)) (ON:=["walks","node","later"]) (N:=["walk","number"]) (AB:=[none,none]) ⟨rfl,by decide +kernel,by decide +kernel,by decide +kernel,by decide +kernel⟩ (BP (k1:=.L) (k2:=.T) rfl T.se (aB (pv 0) (aB (pv 1) aN))) (λ_ _ _ _=>pP rfl (eU (cI (i:=0) (show (["walk","number"]:qo).Nodup by decide +kernel) rfl (eT rfl)) (eU (cI (i:=1) (show (["walk","number"]:qo).Nodup by decide +kernel) rfl (eT rfl)) mO))) (λ_ _ _ _=>kJ) (λ_ _ _ _=>q_ T.zk T.AZ hr (pv 0) (aB (pv 1) aN)))) (bR (gR (JB (BS:=(aC eO)) (z := "at") (ON:=["walks","node","later"]) (N:=["at","later"]) (AB:=[none,some 2]) ⟨rfl,by decide +kernel,by decide +kernel,by decide +kernel,λ_ _=>rfl,λ_=>rfl,by decide +kernel,by decide +kernel⟩ (wM rfl T.qE (aB (dC (jJ Z.K) rfl T.gV hW (aB (j0 rfl T.rg rfl) aN)) aN)) (λ_ _ _ _=>cI (i:=0) (show (["at","later"]:qo).Nodup by decide +kernel) rfl (e9 rfl)) (λ_ _ _ _=>kJ) (λ_ _ _ _=>wU pG rfl T.re kC (aB (qO (BS:={ kind:=.function,names:=[(".0",.local),("at",.cell),("tuple",.globalImplicit),("later",.cell)],isGenerator:=false,isCoroutine:=false }) (ON:=["at","later"]) (N:=["numbers","at"]) (AB:=[none,some 0]) ⟨rfl,by decide +kernel,by decide +kernel,by decide +kernel,by decide +kernel⟩ (vB (pv 1)) (λ_ _ _ _=>cI (i:=0) (show (["numbers","at"]:qo).Nodup by decide +kernel) rfl (eT rfl)) (λ_ _ _ _=>kJ) (λ_ _ _ _=>uw (sH Z.K) (pv 0) (pv 1) (λ_ _=>rfl))) aN)))))
theorem pF (F:DI Z.K "ways_to_end" "Walk.ways_to_end" fO f fd)(T:Zq Z):A4 Z.P Z.w Z.K Z.mg Z.base EJ 1 f fd ["self","number"] (C2 ⟨Z.K,Z.cl⟩ bU false):=by
 refine Fu F pD [] [] [] λhr=>?_
 exact(aH (aZ (vW hr (Jq hr T.sF (aM hr (m_ (c:=10) T.AZ T.Bz (aa 0)) (aa 1))) (m_ (c:=10) T.AZ T.FG (aa 0)) ak)))
theorem Bm (F:fu Z sA f fd)(T:wx Z):fo Z sA f fd:=by
 refine Fu F Bk [] [] [] λhr=>?_
 exact(aH (aZ (dg (Dy (Ir (c:=10) T.zt T.AZ hr (aM hr (aa 0) ak) (aj (aM hr (aa 1) ak) aK)) ak))))
theorem t_ (F:DI Z.K "is_over" "Walk.is_over" jb f fd)(T:Zq Z):A4 Z.P Z.w Z.K Z.mg Z.base EJ 1 f fd ["self","number"] (C2 ⟨Z.K,Z.cl⟩ bh false):=by
 refine Fu F t7 [] [] [] λhr=>?_
 exact(aH (aZ (dg (dW hr (b_ T.gV (aM hr (m_ (c:=10) T.AZ T.Bz (aa 0)) (aa 1))) ak))))
theorem Hs (F:DI Z.K "row_to" "row_to" t6 f fd)(T:Zq Z):A4 Z.P Z.w Z.K Z.mg Z.base EJ 1 f fd ["ways","node"] (C2 ⟨Z.K,Z.cl⟩ cU true):=by
 refine Fu F ub [2] [2] [] λhr=>?_
 exact(aD (k_ 2 ub.nd (d9 aK)) (aD (cP 3 ub.nd (aa 1)) (aD (Ln 1000000 [] (bz (oE (aM hr (aa 0) (aa 3)) gb)) (aD (qW 2 (aM hr (aM hr (aa 0) (aa 3)) ak)) (aH (cP 3 ub.nd (aM hr (aM hr (aa 0) (aa 3)) ak)))) ci) (aH (Qc (Iz T.rV T.sL (jO 2)))))))
theorem Ar (F:DI Z.K "first_row" "first_row" mJ f fd)(T:wv Z):A4 Z.P Z.w Z.K Z.mg Z.base EJ 4 f fd ["walks","is_sought"] (Jy Z.mg "is_twice" ⟨Z.K,Z.cl⟩ 10 aF gj bh cB cU):=by
 refine F.ok qV (λvs H Q E h=>by obtain⟨fS,_,F,cs,ws,out,wl,rfl,_⟩:=h;rfl) (λC1 A' outer s H vs Q E hr h=>?_)
 obtain⟨fS,ZN,h⟩:=h
 refine⟨Zz ⟨Z.K,Z.cl⟩ 10 aF gj bh cB cU fS Z.B1,?_,QF T.D7 h⟩
 exact aW (dZ (i:=2) qV.nd rfl (.inl rfl) (Kf LQ (pU (aB dY aN)) (dC (jJ Z.K) rfl T.gV hW (aB (pv 0) aN))))
  (aW (dZ (i:=3) qV.nd rfl (.inl rfl) (BR (dh hr) (pv 2) yC))
  (aW (dZ (i:=4) qV.nd rfl (.inl rfl) (pW (aB (pv 2) aN)))
  (aW (yF ci (ug (Rk (dC (jJ Z.K) rfl T.gV hW (aB (pv 4) aN)) dY))
   (aW (dZ (i:=5) qV.nd rfl (.inl rfl) (pW aN))
   (aW (mR ci rfl (vB (pv 4)) (cI (i:=6) qV.nd rfl (eT rfl))
    (bR (mR ci rfl (BP (k1:=.T) (k2:=.L) rfl T.se (aB (j0 rfl T.rg rfl) (aB (fC T.xo hr (aB (pv 0) (aB (pv 6) aN))) aN))) (pP rfl (eU (cI (i:=7) qV.nd rfl (eT rfl)) (eU (cI (i:=8) qV.nd rfl (eT rfl)) mO)))
     (bR (qK (PW.pt (Ff (ug (pX (dh hr) (pv 8) (pv 3))) (Bq (Fg (uh (q_ T.zi T.AZ hr (uw (sH Z.K) (pv 0) dY (λ_ _=>rfl)) (aB (uw (Ld Z.K) (pv 8) dY (λ_ _=>rfl)) aN)))))))
      (aW (mY (dh hr) (pv 3) (pv 8) (pU (aB (pv 6) (aB (pv 7) aN))) rfl)
      (aW (qJ (Gg Z.K iA j3 kc jH (pv 5) (aB (pv 8) aN)))
      (bR (qK (uh (Mp (i:=1) T.uj ZN hr (aB (pv 0) (aB (pv 8) aN)))) (bR (gR (fC T.xt hr (aB (pv 3) (aB (pv 8) aN))))) j4)))) j4)))))
   (bR (dZ (i:=4) qV.nd rfl (.inl rfl) (pv 5))))))
  (bR (gR yC)))))
theorem uc (F:fu Z t9 f fd)(T:Zq Z):fo Z t9 f fd:=by
 refine Fu F t8 [] [] [] λhr=>?_
 exact(aH (aZ (Jp (Mu (aa 0) qU (iz (qg ak))) (cR (aj (cR (aj (aM hr (aM hr (aa 0) (qg ak)) ak) (aj gY aK))) aK)))))
theorem Av (F:fu Z t5 f fd)(T:Zq Z):fo Z t5 f fd:=by
 refine Fu F r9 [1] [] [] λhr=>?_
 exact(aD (k_ 1 r9.nd (d9 aK)) (aD (fQ [2,3,4,5] (sZ T.rL (aa 0)) (DQ (gh 2 r9.nd (gh 3 r9.nd qY))) (aD (qW 1 (cR (aj (aa 2) (aj ak (aj ak aK))))) (aH (fQ [4,5] (sZ T.rL (aM hr (aa 3) ak)) (DQ (gh 4 r9.nd (gh 5 r9.nd qY))) (aH (R1 1 (SE.val (nq (BS:=(aC jF)) (ON:=["metre","states","slot","told","number","pattern"]) (N:=["at","slot","number"]) (AB:=[none,some 2,some 4]) WD (DR 0) (RX T.qE ak (b_ T.gV (aa 5))) (λ_ _ _ _=>vX 0) (λ_ _ _ _=>oJ) (λ_ _ _ _=>(cR (aj (aa 1) (aj (aa 2) (aj (aa 0) aK))))))))) ci))) ci) (zj (G1:=[]) (aH (aZ (aa 1))))))
theorem Aw (F:fu Z sx f fd)(T:Zq Z):fo Z sx f fd:=by
 refine Fu F An [] [] [] λhr=>?_
 exact(aH (aZ (cR (aj (b_ T.gV (aa 0)) (aj ak (aj ak aK))))))
theorem vo (F:fu Z t4 f fd)(T:Zq Z):fo Z t4 f fd:=by
 refine Fu F vj [] [] [] λhr=>?_
 exact(aD (cP 3 vj.nd (aM hr (aa 1) ak)) (aD (cP 4 vj.nd (dM (aM hr (aa 1) ak) ak)) (aD (dR (bz (uE (aa 4) (b_ T.gV (aM hr (aM hr (aM hr (aa 0) (aa 3)) ak) (aM hr (aa 1) ak))))) (aH (aZ (cR (aj (aa 3) (aj (aM hr (aa 1) ak) (aj (aa 4) aK)))))) cg) (aD (dR (SW.st (qi (fG (aM hr (aM hr (aa 0) (aa 3)) ak)) (m8 (kY (fG (aa 2)))))) (aH (aZ gb)) cg) (aH (aZ (cR (aj (dM (aa 3) ak) (aj ak (aj ak aK))))))))))
theorem xV (F:fu Z t3 f fd)(T:Zq Z):fo Z t3 f fd:=by
 refine Fu F xR [] [] [] λhr=>?_
 exact(aH (aZ (Dz (dg (dW hr (aa 0) (aa 1))) (qe (dg (dW hr (aa 0) f9))))))
theorem Bo (F:fu Z t0 f fd)(T:wP Z):fo Z t0 f fd:=by
 refine Fu F rj [8] [] [] λhr=>?_
 exact(aD (dR (bz (dW hr (aa 1) (bc T.ui hr (aj (aa 0) aK)))) (aH (aZ (SE.val (d9 aK)))) cg) (aD (cP 4 rj.nd (aM hr (aa 1) ak)) (aD (cP 5 rj.nd (aM hr (aa 1) ak)) (aD (cP 6 rj.nd (aM hr (aM hr (aa 0) (aa 4)) ak)) (aD (cP 7 rj.nd (Ko (bz (dW hr (aa 5) ak)) (SE.val (Iw T.rV T.qE (b_ T.gV (aa 6)))) (SE.val (d9 (aj (aM hr (aa 1) ak) aK))))) (aD (k_ 8 rj.nd (d9 aK)) (aD (fQ [9,10] (oG (aa 7)) (mq 9 rj.nd) (aD (cP 10 rj.nd (bc T.xy hr (aj (aa 0) (aj (cR (aj (aa 4) (aj (aa 9) (aj (aa 5) aK)))) (aj (aa 3) aK))))) (aH (dR (SW.st (qi (bz (oE (aa 10) gb)) (m8 (fG (bc T.xw hr (aj (aM hr (aM hr (aa 6) (aa 9)) (aa 5)) (aj (aa 2) aK))))))) (aH (qW 8 (cR (aj (aa 9) (aj (aa 10) aK))))) cg))) ci) (zj (G1:=[]) (aH (aZ (aa 8)))))))))))
theorem Ez (F:fu Z sB f fd)(T:Zq Z):fo Z sB f fd:=by
 refine Fu F Ey [] [] [] λhr=>?_
 exact(aH (aZ (cR (aj (aM hr (aa 1) ak) (aj (Ko (bz (Dy (aM hr (aa 1) ak) ak)) (uG (aM hr (aM hr (aM hr (aa 0) (aM hr (aa 1) ak)) ak) (aM hr (aa 1) ak)) (iz (aM hr (aa 1) ak)) qU) f9) aK)))))
theorem wI (F:DI Z.K "rests_ahead" "rests_ahead" h_ f fd)(T:w4 Z):A4 Z.P Z.w Z.K Z.mg Z.base EJ 3 f fd ["metre"] (C2 ⟨Z.K,Z.cl⟩ bI true):=by
 refine Fu F sC [1] [1] [] λhr=>?_
 exact(aD (k_ 1 sC.nd Kq) (aD (fQ [2,3,4] (oG (bc T.xz hr (aj (aa 0) aK))) (mq 2 sC.nd) (aH (fQ [3,4] (oG (RN T.rg (T.va))) (mq 3 sC.nd) (aD (cP 4 sC.nd (bc T.xl hr (aj (aa 0) (aj (aa 2) (aj (aM hr (aa 3) ak) (aj (aM hr (aa 3) ak) aK)))))) (aH (Kr 1 hr (cR (aj (bc T.sg hr (aj (aa 0) (aj (aa 2) aK))) (aj (aa 3) aK))) (SE.val (nq (BS:=(aC h_)) (ON:=["metre","ahead","state","said","moves"]) (N:=["pattern","reached","metre"]) (AB:=[none,none,some 0]) WD (Tg [0,1]) (oG (aa 4)) (λ_ _ _ _=>pP rfl (eU (vX 0) (eU (vX 1) mO))) (λ_ _ _ _=>oJ) (λ_ _ _ _=>(bc T.sg hr (aj (aa 2) (aj (aa 1) aK))))))))) ci)) ci) (aH (Qd 1))))
theorem rH (F:DI Z.K "__init__" "Walk.__init__" iu f fd)(T:we Z):A4 Z.P Z.w Z.K Z.mg Z.base EJ 4 f fd ["self","metre","most"] (zO ⟨Z.K,Z.cl⟩ 10 bF bI bK bG gH):=by
 refine F.ok B9 (λvs H Q E h=>by obtain⟨A,p,most,w,x,dx,vm,rfl,_⟩:=h;rfl) (λC1 A' outer s H vs Q E hr h=>⟨ZC ⟨Z.K,Z.cl⟩ bF bI bK bG Z.CF,?_,QH T.vb h⟩)
 exact aW (dZ (i:=3) B9.nd rfl (.inl rfl) (fC T.xA hr (aB (pv 1) aN)))
  (aW (mV (pv 0) (fC T.xp hr (aB (pv 3) aN)) rfl)
  (aW (mV (pv 0) (pv 2) rfl)
  (aW (mV (pv 0) (fC T.sg hr (aB (pv 3) (aB (fC T.ui hr (aB (pv 3) aN)) aN))) rfl)
  (aW (mV (pv 0) (pW (aB (pU (aB (pU (aB (fC T.sg hr (aB (pv 3) (aB (j0 rfl T.si rfl) aN))) (aB dY aN))) aN)) aN)) rfl)
  (aW (mV (pv 0) (BR (dh hr) (uw (sH Z.K) (gB Z.K (pv 0)) dY (λ_ _=>rfl)) dY) rfl)
  (bR (mV (pv 0) yS rfl)))))))
theorem xW (F:DI Z.K "read_twice" "read_twice" lH f fd)(T:wT Z):A4 Z.P Z.w Z.K Z.mg Z.base EJ 6 f fd ["metre"] (VE ⟨Z.K,Z.cl⟩ cj):=by
 obtain⟨fS,fdS,FS,hbS,kpS,hmS⟩:=T.uj.ex
 refine F.ok xT (λvs H Q E h=>by
  obtain⟨A,ps,p,r,hm,_⟩:=h
  rw[r.length]
  match ps,hm with
  | [_],_=>rfl) (λC1 A' outer s H vs Q E hr h=>⟨ZM Z.mg "is_twice" ⟨Z.K,Z.cl⟩ 10 bF bI bK bG aF bh cB cU gj gH fS,?_,QK ⟨T.AZ,T.D6,T.EU,T.FG,T.Bz,T.FH,T.FX⟩ hmS h⟩)
 exact bR (gR (fC T.xi hr (aB (pW (aB (Mq T.Vf hr (aB (pv 0) (aB dY aN))) aN)) (aB (j0 rfl hmS rfl) aN))))
theorem vq (F:fu Z tm f fd)(T:Zq Z):fo Z tm f fd:=by
 refine Fu F vf [] [] [] λhr=>?_
 exact(aD (dR (bz (uE (aa 1) (b_ T.gV (aa 0)))) (aH (aZ (aM hr (aa 0) (aa 1)))) cg) (aH (aZ ak)))
theorem Ax (F:fu Z tP f fd)(T:wo Z):fo Z tP f fd:=by
 refine Fu F qS [2] [] [] λhr=>?_
 exact(aD (k_ 2 qS.nd (d9 aK)) (aD (fQ [3,4,5,6,7,8,9] (sZ T.rL (aa 0)) (DQ (gh 3 qS.nd (gh 4 qS.nd qY))) (aD (cP 5 qS.nd (bc T.sf hr (aj (aa 1) (aj (aa 3) aK)))) (aD (cP 6 qS.nd (aM hr (aM hr (aa 4) ak) (gf (aa 5) (b_ T.gV (aM hr (aa 4) ak))))) (aH (fQ [7,8,9] (qX T.qE (b_ T.gV (aa 6))) (mq 7 qS.nd) (aD (cP 8 qS.nd (aM hr (aa 6) (aa 7))) (aD (dR (bz (dW hr (aa 8) f9)) (aH (cP 8 qS.nd (aM hr f9 (gf (m7 (aa 5) (aM hr (d9 (aj ak (aj ak (aj ak (aj ak aK))))) (aa 7))) ak)))) cg) (aD (cP 9 qS.nd (Dz (dg (dW hr (gf (m7 (aa 5) (aM hr (d9 (aj ak (aj ak (aj ak (aj ak aK))))) (aa 7))) ak) ak)) (qe (Gs (aM hr (aa 4) ak) (qe (dg (dW hr (dM (aa 7) ak) (b_ T.gV (aa 6))))))))) (aH (qW 2 (cR (aj (aa 8) (aj (Dz (aa 9) (qe (Gs (dg (dW hr (dM (aa 3) ak) (b_ T.gV (aa 0)))) (qe (dg (dW hr (dM (aa 7) ak) (b_ T.gV (aa 6)))))))) aK)))))))) ci)))) ci) (zj (G1:=[]) (aH (aZ (aa 2))))))
theorem wJ (F:fu Z tj f fd)(T:Zq Z):fo Z tj f fd:=by
 refine Fu F vT [] [] [] λhr=>?_
 exact(aD (dR (bz (qR hr (b_ T.gV (aa 0)) (b_ T.gV (aa 1)))) (aH (aZ (dg (uE (b_ T.gV (aa 0)) (b_ T.gV (aa 1)))))) cg) (aD (fQ [2] (qX T.qE (b_ T.gV (aa 0))) (mq 2 vT.nd) (aH (dR (bz (qR hr (aM hr (aa 0) (aa 2)) (aM hr (aa 1) (aa 2)))) (aD (dR (bz (qR hr (aM hr (aM hr (aa 0) (aa 2)) ak) (aM hr (aM hr (aa 1) (aa 2)) ak))) (aH (aZ (dg (dW hr (aM hr (aM hr (aa 0) (aa 2)) ak) f9)))) cg) (aH (aZ (P_ (aM hr (aM hr (aa 0) (aa 2)) ak))))) cg)) ci) (aH (aZ gY))))
theorem wK (F:fu Z tw f fd)(T:Zq Z):fo Z tw f fd:=by
 refine Fu F wb [] [] [] λhr=>?_
 exact(aD (dR (SW.st (jz (kY (fG (zq DB T.sv T.rS T.rV kK (aa 0)))) (jz (bz (dW hr (aa 0) (d9 aK))) (kZ (bz (G4 (aM hr (aM hr (aa 0) (qg ak)) ak) gY)))))) (aH (aZ gY)) cg) (aD (fQ [1] (oG (aa 0)) (mq 1 wb.nd) (aH (dR (SW.st (jz (kY (fG (zq CA T.sw T.rS T.re kC (aa 1)))) (jz (bz (qR hr (b_ T.gV (aa 1)) ak)) (jz (bz (sS hr (aM hr (aa 1) ak) (cR (aj f9 (aj f9 aK))))) (kZ (kY (fG (zq DA T.sj T.rS T.sD PyProof.Rows.boot_bool (aM hr (aa 1) ak))))))))) (aH (aZ gY)) cg)) ci) (aH (aZ gY))))
theorem Ay (F:fu Z tq f fd)(T:Zq Z):fo Z tq f fd:=by
 refine Fu F Ao [] [] [] λhr=>?_
 exact(aD (dR (SW.st (jz (bz (Dy (dM (aa 1) (b_ T.gV (aa 2))) (b_ T.gV (aa 0)))) (kZ (SW.st (qi (fG (aa 3)) (m8 (kY (fG (aM hr (aM hr (aa 0) (PL (dM (aa 1) (b_ T.gV (aa 2))) ak)) ak))))))))) (aH (aZ gY)) cg) (aH (aZ (dg (dW hr (nq (BS:=(aC jG)) (ON:=["_law_row","_law_at","_law_pattern_here","_law_cut"]) (N:=["_law_k","_law_pattern_here","_law_row","_law_at"]) (AB:=[none,some 2,some 0,some 1]) WD (DR 0) (qX T.qE (b_ T.gV (aa 2))) (λ_ _ _ _=>vX 0) (λ_ _ _ _=>Ib (bz (sS hr (aM hr (aa 1) (aa 0)) (cR (aj f9 (aj (aM hr (aM hr (aa 2) (dM (aa 3) (aa 0))) ak) aK)))))) (λ_ _ _ _=>(aa 0))) (d9 aK))))))
theorem rJ (F:fu Z tz f fd)(T:wm Z):fo Z tz f fd:=by
 refine F.ok rh (λvs H Q E h=>by
  obtain⟨A,ps,p,r,hm,_⟩:=h
  rw[r.length]
  have hm:zK aU ps=some p:=hm
  unfold zK at hm
  split at hm
  ·rfl
  ·cases hm) (λC1 A' outer s H vs Q E hr h=>⟨Zw ⟨Z.K,Z.cl⟩ aU,?_,Qz h⟩)
 exact aW (dZ (i:=2) rh.nd rfl (.inl rfl) (Jr dY dY))
  (aW (mR ci rfl (uo (pv 0)) (pP rfl (eU (cI (i:=3) rh.nd rfl (eT rfl)) (eU (cI (i:=4) rh.nd rfl (eT rfl)) mO)))
   (aW (dZ (i:=5) rh.nd rfl (.inl rfl) yS)
   (aW (mR ci rfl (Qy (pv 2)) (cI (i:=6) rh.nd rfl (eT rfl))
    (bR (mR ci rfl (uo (pv 3)) (cI (i:=7) rh.nd rfl (eT rfl))
     (bR (qK (uh (fC T.w9 hr (aB (pv 1) (aB (pv 6) (aB (pv 7) (aB (pv 4) aN)))))) (bR (mY (dh hr) (pv 5) (yE (pv 6) (dC j_ rfl T.gV hW (aB (pv 7) aN))) (yE (su (dh hr) (pv 5) (yE (pv 6) (dC j_ rfl T.gV hW (aB (pv 7) aN))) dY ⟨rfl,rfl,rfl,rfl⟩) (qN (dh hr) (pv 2) (pv 6) (λ_ _=>rfl))) rfl)) j4)))))
   (bR (dZ (i:=2) rh.nd rfl (.inl rfl) (pv 5))))))
  (bR (gR (su (dh hr) (pv 2) (dC (jJ Z.K) rfl T.gV hW (aB (pv 1) aN)) dY ⟨rfl,rfl,rfl,rfl⟩))))
theorem Rg (F:fu Z vi f fd)(T:wE Z):fo Z vi f fd:=by
 refine Fu F q5 [2] [2] [] λhr=>?_
 exact(aD (cP 1 q5.nd (bc T.xb hr (aj (bc T.w8 hr (aj (aa 0) (aj ak aK))) (aj ak aK)))) (QL 2 q5.nd (JD T.uk hr (aj (aa 1) aK)) (aD (dR (SW.st (qi (bz (oE (aa 2) gb)) (m8 (SW.st (jz (kY (fG (bc T.vv hr (aj (aa 2) aK)))) (kZ (bz (uE (bc T.sN hr (aj (aa 1) (aj (aa 2) aK))) ak)))))))) (aH (aZ gY)) cg) (aD (fQ [3,4] (oG (uG (aa 0) (iz ak) (iz ak))) (mq 3 q5.nd) (aD (cP 4 q5.nd (bc T.vx hr (aj (aa 1) (aj (aa 3) aK)))) (aH (dR (SW.st (jz (bz (qT (aa 2) gb)) (kZ (fG (bc T.vk hr (aj (aa 4) (aj (aa 2) aK))))))) (aH (dR (bz (qR hr (bc T.sN hr (aj (aa 1) (aj (aa 4) aK))) ak)) (aH (aZ gY)) cg)) cg))) ci) (aD (cP 5 q5.nd (bc (Cj T.uk) hr (aj (aa 1) aK))) (aD (dR (bz (qT (aa 2) gb)) (aH (aZ (dg (qT (aa 5) gb)))) cg) (aD QM (aH (aZ (dg (dW hr (aa 5) (uG (aa 2) qU (iz (qg ak)))))))))))) (aD (dR (SW.st (qi (bz (oE (jO 2) gb)) (m8 (SW.st (jz (kY (fG (sW T.vv hr (sV (jO 2) aK)))) (kZ (bz (uE (sW T.sN hr (aj (aa 1) (sV (jO 2) aK))) ak)))))))) (aH (aZ gY)) cg) (aD (fQ [3,4] (oG (uG (aa 0) (iz ak) (iz ak))) (mq 3 q5.nd) (aD (cP 4 q5.nd (bc T.vx hr (aj (aa 1) (aj (aa 3) aK)))) (aH (dR (SW.st (jz (bz (qT (jO 2) gb)) (kZ (fG (sW T.vk hr (aj (aa 4) (sV (jO 2) aK))))))) (aH (dR (bz (qR hr (bc T.sN hr (aj (aa 1) (aj (aa 4) aK))) ak)) (aH (aZ gY)) cg)) cg))) ci) (aD (cP 5 q5.nd (bc (Cj T.uk) hr (aj (aa 1) aK))) (aD (dR (bz (qT (jO 2) gb)) (aH (aZ (dg (qT (aa 5) gb)))) cg) (aD (qW 2 (cR (aj f9 (aj gY aK)))) (aH (aZ (dg (dW hr (aa 5) (uG (jO 2) qU (iz (qg ak))))))))))))))
end
end
def yp (K:W.Frag):Sp:=λvs H Q _=>∃(a:Addr) (ns:qq),vs=[V.ref a]/\O0 H/\A0 K H a (ns.map V.int)/\ns.length<=63/\∀J,Q (.bl true) J
theorem Rh {K:W.Frag}{cl:Nat->Addr}{vs:List V}{H:Hp}{Q:VK}{E:XK}(h:yp K vs H Q E):C2 ⟨K,cl⟩ uV false vs H Q E:=by
 obtain⟨a,ns,rfl,ho,hs,hl,k⟩:=h
 have ri:zI ⟨K,cl⟩ (λ_=>True) H (ns.map V.int) (ns.map PV.int):=j5 _ _ (λi=>.int i) ns
 refine⟨λ_=>True,[.frz (ns.map PV.int)],.bl true,.cons ?_ .nil,NA ns hl,λv H' s r=>?_⟩
 ·rcases hs with (hs | ⟨o,hs⟩) | hs
  ·rcases ho a with z | ⟨o,xs,z⟩
   ·rw[z] at hs;cases hs
   ·rw[z] at hs;cases hs
  ·exact .Lu hs ri
  ·exact .lstK (.inr hs) ri
 ·cases r
  exact k _
structure Gf (K:W.Frag)(x:Str)(st:Stmt)(f:Addr)(fd:FuncData):Prop where
 a:W.nsIn K mainGlobals x=some (some (.ref f))
 F:DI K x x st f fd
theorem km {K:W.Frag}{h:Heap}{mg:Str->Option Value}{P:Program}{w:World}{base:Heap}{k:Nat}{x:Str}{ps:qo}{sp:Sp}{st:Stmt}{f:Addr}{fd:FuncData}(X:K.In h)(G:h.Ns mainGlobals mg)(F:Gf K x st f fd)(hb:Binds K fd ps [])(o:A4 P w K mg base EJ k f fd ps sp):IL P w K mg base k x ps sp:=O9 F.F (W.mg_of X G F.a) hb o
theorem all_mk {l:W.OpenLaw}{w:World}{K:W.Frag}{h:Heap}{mg:Str->Option Value}{fa:Addr}(X:K.In h)(G:h.Ns mainGlobals mg)(hfa:mg "law" = some (.ref fa))
  (aC_Walk:W.nsIn K mainGlobals "Walk" = some (some (.ref C_Walk)))
  (F_0:Gf K "_law_pattern" gK f_0 d_0)
  (F_1:Gf K "_law_mix" pA f_1 d_1)
  (F_2:Gf K "_law_slot" mH f_2 d_2)
  (F_3:Gf K "_law_metre" i_ f_3 d_3)
  (a_4:W.findIn K (.ref C_Walk) "number_of_place" = some (some (.ref f_4)))
  (i_4:W.isFn K (.ref f_4)=true)
  (F_4:DI K "number_of_place" "Walk.number_of_place" dI f_4 d_4)
  (a_5:W.findIn K (.ref C_Walk) "place_behind" = some (some (.ref f_5)))
  (i_5:W.isFn K (.ref f_5)=true)
  (F_5:DI K "place_behind" "Walk.place_behind" fB f_5 d_5)
  (a_6:W.findIn K (.ref C_Walk) "later" = some (some (.ref f_6)))
  (i_6:W.isFn K (.ref f_6)=true)
  (F_6:DI K "later" "Walk.later" g_ f_6 d_6)
  (F_7:Gf K "nodes_behind" eO f_7 d_7)
  (a_8:W.findIn K (.ref C_Walk) "ways_to_end" = some (some (.ref f_8)))
  (i_8:W.isFn K (.ref f_8)=true)
  (F_8:DI K "ways_to_end" "Walk.ways_to_end" fO f_8 d_8)
  (F_9:Gf K "is_twice" pB f_9 d_9)
  (a_10:W.findIn K (.ref C_Walk) "is_over" = some (some (.ref f_10)))
  (i_10:W.isFn K (.ref f_10)=true)
  (F_10:DI K "is_over" "Walk.is_over" jb f_10 d_10)
  (F_11:Gf K "row_to" t6 f_11 d_11)
  (F_12:Gf K "first_row" mJ f_12 d_12)
  (F_13:Gf K "with_last_cut" jc f_13 d_13)
  (F_14:Gf K "states_of" jF f_14 d_14)
  (F_15:Gf K "end_state" mK f_15 d_15)
  (F_16:Gf K "state_behind" ju f_16 d_16)
  (F_17:Gf K "stands_for" lG f_17 d_17)
  (F_18:Gf K "moves_of" pC f_18 d_18)
  (F_19:Gf K "rest_of" qI f_19 d_19)
  (F_20:Gf K "rests_ahead" h_ f_20 d_20)
  (a_21:W.findIn K (.ref C_Walk) "__init__" = some (some (.ref f_21)))
  (i_21:W.isFn K (.ref f_21)=true)
  (F_21:DI K "__init__" "Walk.__init__" iu f_21 d_21)
  (F_22:Gf K "read_twice" lH f_22 d_22)
  (F_23:Gf K "_law_cell_at" jw f_23 d_23)
  (F_24:Gf K "_law_said" mL f_24 d_24)
  (F_25:Gf K "_law_before" jR f_25 d_25)
  (F_26:Gf K "_law_is_row" jT f_26 d_26)
  (F_27:Gf K "_law_fits" jG f_27 d_27)
  (F_28:Gf K "_law_many_feet" iy f_28 d_28)
  (F_29:Gf K "law" rG f_29 d_29)
  (pg_Walk:W.plainGet K C_Walk Str.empty=true)
  (hd_Walk:W.hasDictIn K C_Walk=true)
  (po_Walk:W.plainOver K C_Walk=true)
  (sa_Walk:W.findIn K (.ref C_Walk) "__setattr__" = some (some (.builtin "object.__setattr__")))
  (mk_Walk:W.makesIn K C_Walk=true)
  (kc_Walk:W.keepIn K (.ref C_Walk)=true)
  (nf_Walk_ahead:W.findIn K (.ref C_Walk) "ahead" = some none)
  (nf_Walk_end:W.findIn K (.ref C_Walk) "end" = some none)
  (nf_Walk_most:W.findIn K (.ref C_Walk) "most" = some none)
  (nf_Walk_numbers:W.findIn K (.ref C_Walk) "numbers" = some none)
  (nf_Walk_onward:W.findIn K (.ref C_Walk) "onward" = some none)
  (nf_Walk_places:W.findIn K (.ref C_Walk) "places" = some none)
  (sD:W.nsIn K mainGlobals "bool" = some none)
  (sF:W.nsIn K mainGlobals "dict" = some none)
  (rL:W.nsIn K mainGlobals "enumerate" = some none)
  (rS:W.nsIn K mainGlobals "isinstance" = some none)
  (gV:W.nsIn K mainGlobals "len" = some none)
  (rV:W.nsIn K mainGlobals "list" = some none)
  (sK:W.nsIn K mainGlobals "min" = some none)
  (qE:W.nsIn K mainGlobals "range" = some none)
  (sL:W.nsIn K mainGlobals "reversed" = some none)
  (sM:W.nsIn K mainGlobals "sorted" = some none)
  (re:W.nsIn K mainGlobals "tuple" = some none)
  (se:W.nsIn K mainGlobals "zip" = some none)
  (rg:W.nsIn K mainGlobals "SAID" = some (some (.ref B1)))
  (sP:K.lookup B1=some ⟨.type "tuple",none,.seq #[.ref a_SAID_0,.ref a_SAID_1,.ref a_SAID_2,.ref a_SAID_3] n_SAID,Yo⟩)
  (sQ:K.lookup a_SAID_0=some ⟨.type "tuple",none,.seq #[.str "u" t_SAID_0_0,.bool false] n_SAID_0,VI⟩)
  (sR:K.lookup a_SAID_1=some ⟨.type "tuple",none,.seq #[.str "u" t_SAID_1_0,.bool true] n_SAID_1,VJ⟩)
  (sT:K.lookup a_SAID_2=some ⟨.type "tuple",none,.seq #[.str "-" t_SAID_2_0,.bool false] n_SAID_2,VL⟩)
  (tf:K.lookup a_SAID_3=some ⟨.type "tuple",none,.seq #[.str "-" t_SAID_3_0,.bool true] n_SAID_3,VM⟩)
  (si:W.nsIn K mainGlobals "START" = some (some (.ref CF)))
  (uS:K.lookup CF=some ⟨.type "tuple",none,.seq #[.int 0 t_START_0,.int 0 t_START_1,.int 0 t_START_2] n_START,Xq⟩)
  (sj:∀t k,(t,k)∈DA->W.kitOne K (.type t) (.type "bool")=some k)
  (sv:∀t k,(t,k)∈DB->W.kitOne K (.type t) (.type "list")=some k)
  (sw:∀t k,(t,k)∈CA->W.kitOne K (.type t) (.type "tuple")=some k):
  ∃fd:FuncData,(∀(s:Shared) (v:Value),BindsTo s fd ⟨[v],[]⟩ [("_law_script",v)])/\∀base:Heap,K.In base->base.Ns mainGlobals mg->A4 l.prog w K mg base EJ 7 fa fd ["_law_script"] (yp K):=by
 have mo {x:Str}{v:Value}(h:W.nsIn K mainGlobals x=some (some v)):mg x=some v:=W.mg_of X G h
 have e:=hfa.symm.trans (mo F_29.a)
 cases e
 obtain⟨_,_,Xr,Xs,Xt,Xu,Xv,Xw,_,rfl,_,_⟩:=F_29.F.ex
 refine⟨W.fnOf "law" "law" (gw rG) (d7 rG) (aC rG) .none Xr Xs Xt Xu Xv Xw,λs v=>.of_eq rfl,λbase _ _=>?_⟩
 let cl:Nat->Addr:=λn=>match n with | 10=>C_Walk | _=>0
 let Z:Z7:={ P:=l.prog,w,K,mg,base,cl,B1,CF }
 have AZ:II K (cl 10):=⟨pg_Walk,hd_Walk,po_Walk,sa_Walk⟩
 have va:∀(B:Addr->Prop) (H:Hp),Rep ⟨K,cl⟩ B H (.ref B1) uU:=λB H=>(.tupK (vs:=[V.ref a_SAID_0,V.ref a_SAID_1,V.ref a_SAID_2,V.ref a_SAID_3]) (.inr ⟨_,_,_,sP,rfl,rfl,⟨(by show 4<=sizeLine;decide),rfl⟩,(.cons rfl (.cons rfl (.cons rfl (.cons rfl .nil))))⟩) (.cons (.Cf (vs:=[V.str "u",.bl false]) ⟨_,_,_,sQ,rfl,rfl,⟨(by show 2<=sizeLine;decide),rfl⟩,(.cons ⟨_,rfl⟩ (.cons rfl .nil))⟩ (.cons (.str _) (.cons (.bl _) .nil))) (.cons (.Cf (vs:=[V.str "u",.bl true]) ⟨_,_,_,sR,rfl,rfl,⟨(by show 2<=sizeLine;decide),rfl⟩,(.cons ⟨_,rfl⟩ (.cons rfl .nil))⟩ (.cons (.str _) (.cons (.bl _) .nil))) (.cons (.Cf (vs:=[V.str "-",.bl false]) ⟨_,_,_,sT,rfl,rfl,⟨(by show 2<=sizeLine;decide),rfl⟩,(.cons ⟨_,rfl⟩ (.cons rfl .nil))⟩ (.cons (.str _) (.cons (.bl _) .nil))) (.cons (.Cf (vs:=[V.str "-",.bl true]) ⟨_,_,_,tf,rfl,rfl,⟨(by show 2<=sizeLine;decide),rfl⟩,(.cons ⟨_,rfl⟩ (.cons rfl .nil))⟩ (.cons (.str _) (.cons (.bl _) .nil))) .nil)))))
 have D7:qp ⟨K,cl⟩ B1 gj:=⟨[V.ref a_SAID_0,V.ref a_SAID_1,V.ref a_SAID_2,V.ref a_SAID_3],.inr ⟨_,_,_,sP,rfl,rfl,⟨(by show 4<=sizeLine;decide),rfl⟩,(.cons rfl (.cons rfl (.cons rfl (.cons rfl .nil))))⟩,λB H=>(.cons (.Cf (vs:=[V.str "u",.bl false]) ⟨_,_,_,sQ,rfl,rfl,⟨(by show 2<=sizeLine;decide),rfl⟩,(.cons ⟨_,rfl⟩ (.cons rfl .nil))⟩ (.cons (.str _) (.cons (.bl _) .nil))) (.cons (.Cf (vs:=[V.str "u",.bl true]) ⟨_,_,_,sR,rfl,rfl,⟨(by show 2<=sizeLine;decide),rfl⟩,(.cons ⟨_,rfl⟩ (.cons rfl .nil))⟩ (.cons (.str _) (.cons (.bl _) .nil))) (.cons (.Cf (vs:=[V.str "-",.bl false]) ⟨_,_,_,sT,rfl,rfl,⟨(by show 2<=sizeLine;decide),rfl⟩,(.cons ⟨_,rfl⟩ (.cons rfl .nil))⟩ (.cons (.str _) (.cons (.bl _) .nil))) (.cons (.Cf (vs:=[V.str "-",.bl true]) ⟨_,_,_,tf,rfl,rfl,⟨(by show 2<=sizeLine;decide),rfl⟩,(.cons ⟨_,rfl⟩ (.cons rfl .nil))⟩ (.cons (.str _) (.cons (.bl _) .nil))) .nil))))⟩
 have vb:∀(B:Addr->Prop) (H:Hp),Rep ⟨K,cl⟩ B H (.ref CF) gH:=λB H=>(.tupK (vs:=[V.int 0,V.int 0,V.int 0]) (.inr ⟨_,_,_,uS,rfl,rfl,⟨(by show 3<=sizeLine;decide),rfl⟩,(.cons ⟨_,rfl⟩ (.cons ⟨_,rfl⟩ (.cons ⟨_,rfl⟩ .nil)))⟩) (.cons (.int _) (.cons (.int _) (.cons (.int _) .nil))))
 have zn {x:Str}(h:W.nsIn K mainGlobals x=some none):mg x=none:=W.mg_none_of X G h
 have q:Zq Z:=⟨zn sD,zn sF,zn rL,zn rS,zn gV,zn rV,zn sK,zn qE,zn sL,zn sM,zn re,zn se,mo rg,mo si,va,vb,AZ,sj,sv,sw,nf_Walk_ahead,nf_Walk_end,nf_Walk_most,nf_Walk_numbers,nf_Walk_onward,nf_Walk_places,D7⟩
 have yk:=km X G F_0 F_0.F.So (vg F_0.F q)
 have uu:=km X G F_1 F_1.F.IM (Bl F_1.F q)
 have yv:=km X G F_2 F_2.F.So (Aq F_2.F ⟨q,uu,yk⟩)
 have yi:=km X G F_3 F_3.F.IM (xU F_3.F ⟨q,uu,yv⟩)
 have G_4:=lK F_4 q
 have xE:EG l.prog w K mg base (cl 10) _ "number_of_place" _ _:=⟨_,_,G_4,F_4.IM,⟨a_4,i_4,F_4.kp⟩⟩
 have G_5:=nU F_5 q
 have xI:EG l.prog w K mg base (cl 10) _ "place_behind" _ _:=⟨_,_,G_5,F_5.Zr,⟨a_5,i_5,F_5.kp⟩⟩
 have G_6:=wH F_6 ⟨q,xE,xI⟩
 have xD:EG l.prog w K mg base (cl 10) _ "later" _ _:=⟨_,_,G_6,F_6.IM,⟨a_6,i_6,F_6.kp⟩⟩
 have yB:=km X G F_7 F_7.F.IM (vh F_7.F ⟨q,xD⟩)
 have G_8:=pF F_8 q
 have xL:EG l.prog w K mg base (cl 10) _ "ways_to_end" _ _:=⟨_,_,G_8,F_8.IM,⟨a_8,i_8,F_8.kp⟩⟩
 have vF:=km X G F_9 F_9.F.IM (Bm F_9.F ⟨q,xL⟩)
 have G_10:=t_ F_10 q
 have xC:EG l.prog w K mg base (cl 10) _ "is_over" _ _:=⟨_,_,G_10,F_10.IM,⟨a_10,i_10,F_10.kp⟩⟩
 have y0:=km X G F_11 F_11.F.IM (Hs F_11.F q)
 have yy:=km X G F_12 F_12.F.IM (Ar F_12.F ⟨q,vF,yB,y0,xC⟩)
 have zh:=km X G F_13 F_13.F.So (uc F_13.F q)
 have ze:=km X G F_14 F_14.F.So (Av F_14.F q)
 have vE:=km X G F_15 F_15.F.So (Aw F_15.F q)
 have zd:=km X G F_16 F_16.F.Zr (vo F_16.F q)
 have y9:=km X G F_17 F_17.F.IM (xV F_17.F q)
 have yA:=km X G F_18 F_18.F.bd4 (Bo F_18.F ⟨q,vE,y9,zd⟩)
 have vS:=km X G F_19 F_19.F.IM (Ez F_19.F q)
 have yY:=km X G F_20 F_20.F.So (wI F_20.F ⟨q,yA,vS,ze⟩)
 have G_21:=rH F_21 ⟨q,vE,vS,yY,zh⟩
 have xB:UP l.prog w K mg base (cl 10) _ "Walk" _ _:=⟨_,_,G_21,F_21.Zr,⟨mk_Walk,a_21,i_21,kc_Walk⟩,mo aC_Walk⟩
 have yT:=km X G F_22 F_22.F.So (xW F_22.F ⟨q,yy,vF,xB⟩)
 have x0:=km X G F_23 F_23.F.IM (vq F_23.F q)
 have yn:=km X G F_24 F_24.F.IM (Ax F_24.F ⟨q,uu⟩)
 have xS:=km X G F_25 F_25.F.IM (wJ F_25.F q)
 have ya:=km X G F_26 F_26.F.So (wK F_26.F q)
 have x9:=km X G F_27 F_27.F.bd4 (Ay F_27.F q)
 have yb:=km X G F_28 F_28.F.IM (rJ F_28.F ⟨q,x9⟩)
 have G_29:=Rg F_29.F ⟨q,xS,x0,ya,yb,yi,yn,yT⟩
 exact G_29.imp λvs H Q E h=>Rh h
theorem walk {l:W.OpenLaw}{q:Program}{loose:qo}{XP:(Str->Option Value)->Heap->Prop}{YP:World->Heap->Prop}{d:DefRec}{K:Params->W.Frag}(hn:l.most=some 63)(V1:d.params.defaults=[])
  (hY:∀(w:World) (h:Heap),YP w h->(K w.params).In h)
  (F:∀(w:World) (mg:Str->Option Value) (fa:Addr) (h:Heap),(K w.params).In h->h.Ns mainGlobals mg->mg d.name=some (.ref fa)->
   ∃fd:FuncData,(∀(s:Shared) (u:Value),BindsTo s fd ⟨[u],[]⟩ [("_law_script",u)])/\∀base:Heap,(K w.params).In base->base.Ns mainGlobals mg->A4 l.prog w (K w.params) mg base EJ 7 fa fd ["_law_script"] (yp (K w.params))):
  W.WalkO q loose XP YP l.row.toRowW d [] (λf vs=>PySem.call f vs):=
 L2.Pc (n:=63) (k:=7) (x := "_law_script") (CX:=λ_=>EJ) (sp:=λw=>yp (K w.params)) hn (by decide) V1 ⟨rfl,by decide,by decide⟩ hY F (λ_ _ a ns hl hO hS=>⟨a,ns,rfl,hO,hS,hl,λ_=>rfl⟩) λ_ _ _ _ _ z=>z
end Lake.My
open PySem PySem.W PyProof.Rows
end
namespace PySem.W.Fast
def tw16765113951465802347:=()
def tw14356568591220426068:=()
def tw16174343052909761132:=()
def tw15151605289829031840:=()
def tw14546657255815657336:=()
def tw2042097970107943772:=()
def tw3573474607456932713:=()
def tw621440401141764396:=()
def tw887369512491885882:=()
def tw12023532074582965167:=()
def tw1002869905876446618:=()
def tw18044709192475747702:=()
def tw3009909461942416782:=()
def tw15613518198372727591:=()
def tw2758463290952877816:=()
def tw7485519667721374249:=()
def tw4041481197476057339:=()
def tw12360018384293785880:=()
def tw16750316714065405637:=()
def tw9579928500657885481:=()
def tw9307386195473872580:=()
def tw13761203534993134090:=()
def tw11190123723156100102:=()
def tw10656776767766844042:=()
def tw2907878769606590642:=()
def tw9421339626156452078:=()
def tw14503681495726249611:=()
def tw16675613825764565095:=()
def tw7440036042206794736:=()
def tw17212520011416326706:=()
def tw8697833521411733342:=()
def tw12236946239575292217:=()
def tw1049541933150702315:=()
def tw12667187910953652403:=()
def tw14663375993451978864:=()
def tw3171940244659734537:=()
def tw17583256368180675191:=()
def tw8732066599617099681:=()
def tw6473747265154224323:=()
def tw2491407588370106590:=()
def tw13587931449513552633:=()
def tw11927248316121019978:=()
def tw15977403984099381940:=()
def tw10380483367476628395:=()
def tw13206786697453190008:=()
def tw10891809112580487099:=()
def tw4285791863335555107:=()
def tw5645691172983974784:=()
def tw5474514364244810740:=()
def tw10578746227744641084:=()
def tw2840627748620049150:=()
def tw12192232647536623112:=()
def tw5139555301447892402:=()
def tw11813327799827820673:=()
def tw17358378512601668094:=()
def tw1460724927995289175:=()
def tw15585002283027268489:=()
def tw8591060723220069740:=()
def tw3445579985646039676:=()
def tw6060119919850827892:=()
def tw675805749635297999:=()
def tw14260400937159810395:=()
def tw3115370321912303363:=()
def tw4685882064012490945:=()
def tw5120315839477365303:=()
def tw11557542912038612055:=()
def tw433509476431088974:=()
def tw13354973562979741405:=()
def tw14050170661637725749:=()
def tw6527713007266563364:=()
def tw13868464235632985964:=()
def tw2882864643746019107:=()
def tw7695630881732336238:=()
def tw14514010485241539126:=()
def tw16216085069149797083:=()
def tw14335875610494184029:=()
def tw12576676000214487448:=()
def tw12837917200336087851:=()
def tw5509389993877615368:=()
def tw9391455381909921096:=()
def tw9507271699337547124:=()
def tw13468094304786761329:=()
def tw14551569622602184895:=()
def tw11057322810035648495:=()
def tw11435009788856840142:=()
def tw12936491504611217546:=()
def tw1994789191304979958:=()
def tw5159610298293119534:=()
def tw11291243985576946:=()
def tw538010506433673121:=()
def tw5408907198059443209:=()
def tw5528658817004622047:=()
def tw11464367108491923429:=()
end PySem.W.Fast
set_option maxRecDepth 100000 in
set_option maxHeartbeats 0 in
theorem PySem.Challenge.cw_lilt_k82_whole_read_twice_holds : PySem.Challenge.rw_lilt_k82_whole_read_twice.Holds := by
 w_on;o_law;k_head;(case hw=>w_witness2)
 k_fill
 refine Lake.My.walk (l:=PySem.Challenge.rw_lilt_k82_whole_read_twice) rfl rfl (λw h Y=>W.kIn_of Y) ?F
 case F=>
  intro w mg fa h KX G V2
  refine' Lake.My.all_mk KX G V2 ?aC_Walk ?F_0 ?F_1 ?F_2 ?F_3 ?a_4 ?i_4 ?F_4 ?a_5 ?i_5 ?F_5 ?a_6 ?i_6 ?F_6 ?F_7 ?a_8 ?i_8 ?F_8 ?F_9 ?a_10 ?i_10 ?F_10 ?F_11 ?F_12 ?F_13 ?F_14 ?F_15 ?F_16 ?F_17 ?F_18 ?F_19 ?F_20 ?a_21 ?i_21 ?F_21 ?F_22 ?F_23 ?F_24 ?F_25 ?F_26 ?F_27 ?F_28 ?F_29 ?pg_Walk ?hd_Walk ?po_Walk ?sa_Walk ?mk_Walk ?kc_Walk ?nf_Walk_ahead ?nf_Walk_end ?nf_Walk_most ?nf_Walk_numbers ?nf_Walk_onward ?nf_Walk_places ?sD ?sF ?rL ?rS ?gV ?rV ?sK ?qE ?sL ?sM ?re ?se ?rg ?sP ?sQ ?sR ?sT ?tf ?si ?uS ?sj ?sv ?sw
  (case aC_Walk | a_4 | i_4 | a_5 | i_5 | a_6 | i_6 | a_8 | i_8 | a_10 | i_10 | a_21 | i_21 | pg_Walk | hd_Walk | po_Walk | sa_Walk | mk_Walk | kc_Walk | nf_Walk_ahead | nf_Walk_end | nf_Walk_most | nf_Walk_numbers | nf_Walk_onward | nf_Walk_places | sD | sF | rL | rS | gV | rV | sK | qE | sL | sM | re | se | rg | sP | sQ | sR | sT | tf | si | uS=>k_is)
  (case F_4 | F_5 | F_6 | F_8 | F_10 | F_21=>refine' Lake.L2.MA ?l ?c ?k;(case l=>k_is);(case c=>k_is);(case k=>k_is))
  (case F_0 | F_1 | F_2 | F_3 | F_7 | F_9 | F_11 | F_12 | F_13 | F_14 | F_15 | F_16 | F_17 | F_18 | F_19 | F_20 | F_22 | F_23 | F_24 | F_25 | F_26 | F_27 | F_28 | F_29=>refine' ⟨?a,Lake.L2.MA ?l ?c ?k⟩;(case a=>k_is);(case l=>k_is);(case c=>k_is);(case k=>k_is))
  (case sj=>intro t k hm;simp only[Lake.My.DA,bm,dc,ix,p4] at hm;rcases hm with ⟨rfl,rfl⟩ <;> first | rfl | k_is)
  (case sv=>intro t k hm;simp only[Lake.My.DB,bm,dc,ix,p4] at hm;rcases hm with ⟨rfl,rfl⟩ <;> first | rfl | k_is)
  (case sw=>intro t k hm;simp only[Lake.My.CA,bm,dc,ix,p4] at hm;rcases hm with ⟨rfl,rfl⟩ <;> first | rfl | k_is)
