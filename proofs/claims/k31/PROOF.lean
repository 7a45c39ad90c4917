import PyProof.Rows.All
import Wide.All
import OpenK.AllK
import Wide.FinOn
import Lean
import PyProof.EqAt
import PyProof.EqKinds
import PyProof.TupleCall
import PyProof.ZipIter
import PyProof.ListStr
import KE.KRevIter
import PyProof.Rows.Range3
import PyProof.Rows.SetFrom
import PyProof.DictWalks
import PyProof.Rows.TupDisplay
import PyProof.DictItems
import KE.KPairComp
import KE.KIntText
import PyProof.WalkInts
import PyProof.InstStore
import PyProof.InstStoreFacts
import PyProof.ExcArgsOwn
import PyProof.ExcInit
import PyProof.ExcClass2
import OpenK.KCls
import PyProof.FString
import PyProof.FitsInt
import PyProof.Rows.RuleN_abs
import KE.RegKTryMore
import PySem.Challenge.RW_lilt_k31_no_metre
set_option Elab.async false
set_option linter.all false
set_option maxRecDepth 100000
set_option maxHeartbeats 4000000
set_option compiler.extract_closed false
namespace L2
open PySem PySem.Spec PyProof.Rows
section
variable {prog : Program} {w : World} {κ : Type} [DecidableEq κ] {kd : HeapKind prog w κ} {A : Around} {E : Value → Shared → Prop} {s : Shared} {d a it : Addr} {xs : List (κ × Addr × Value)} {k : κ} {v : Value}
def DictE (kd : HeapKind prog w κ) (h : Heap) (d : Addr) (xs : List (κ × Addr × Value)) : Prop :=
  ∃ o es, h.get? d = some o ∧ o.ExactDict ∧ o.data = .dict es xs.length ∧ es.toList = xs.map (entryOfKey kd) ∧ (∀ x ∈ xs, kd.is h x.1 x.2.1) ∧ (xs.map (·.1)).Nodup
theorem DictE.of {h : Heap} (m : DictE kd h d xs) : h.DictOfH kd d xs := let ⟨o, es, q⟩ := m; ⟨o, es, _, q⟩
theorem dictSetE {Q : Unit → Shared → Prop} (hu : kd.room A) (hk : kd.is s.heap k a) (m : DictE kd s.heap d xs) (hz : xs.length ≤ sizeLine)
    (q : ∀ h', DictE kd h' d (storedH xs k a v) → Heap.SameBut d s.heap h' → Q () { s with heap := h', toks := s.toks + kd.draws k }) : wpAny (model prog w) A (dictSet d (.ref a) v) Q E s := by
  obtain ⟨o, es, o1, o2, o3, o4, o5, o6⟩ := m
  unfold dictSet
  try with_reducible refine wpAny_holding ?_
  refine wpAny_bind (kd.pyHash hu hk ?_)
  unfold dictSetHashed
  try with_reducible refine wpAny_holding ?_
  refine wpAny_bind (wpAny_dictFind_heap (s := { s with toks := s.toks + kd.draws k }) hu hk o1 o3 o4 o5 o6 (fun no => ?_) fun j p hj => ?_)
  · have nk : k ∉ xs.map (·.1) := not_mem_keys_of_get no
    have e := storedH_new (atKey_none_of_get no) a v
    rw [e] at q
    refine wpAny_bind (wpAny_rule (wpAny_updateDictKeys (hz := by have := size_of_entries o4; omega) (s := { s with toks := s.toks + kd.draws k }) o1 o3 (q _ ⟨_, _, Heap.get?_update_self _ o1 (Obj.isFreed_of_dict (Obj.data_mapDictKeys o3 _)), o2.mapDictKeys _, by rw [List.length_append]; exact Obj.data_mapDictKeys o3 _, ?_, fun x hx => ?_, ?_⟩ (Heap.SameBut.update ..))))
    · simp [o4, entryOfKey]
    · rcases List.mem_append.mp hx with z | z
      · exact kd.keeps (o5 x z) o1 o3 (Heap.SameBut.update ..)
      · rw [List.mem_singleton.mp z]; exact kd.keeps hk o1 o3 (Heap.SameBut.update ..)
    · rw [List.map_append]
      exact List.nodup_append.mpr ⟨o6, by simp, fun x hx y hy z => nk (by rw [List.map_cons, List.map_nil, List.mem_singleton] at hy; have hy : y = k := hy; subst hy z; exact hx)⟩
  · have e := storedH_old (atKey_of_get o6 hj) a v
    rw [e] at q
    refine wpAny_bind (wpAny_rule (wpAny_bind (wpAny_updateDict (s := { s with toks := s.toks + kd.draws k }) o1 o3 (wpAny_point (q _ ⟨_, _, Heap.get?_update_self _ o1 (Obj.isFreed_of_dict (Obj.data_mapDict o3 _)), o2.mapDict _, by rw [List.length_map]; exact Obj.data_mapDict o3 _, ?_, fun x hx => ?_, ?_⟩ (Heap.SameBut.update ..))))))
    · have y := modify_map_putAt (entryOfKey kd) (fun e : DictEntry => { e with val := v }) k v (fun _ _ => rfl) o6 hj
      rw [← o4] at y
      cases es
      simpa using y
    · obtain ⟨y, hy, rfl⟩ := List.mem_map.mp hx
      unfold putAt
      split <;> exact kd.keeps (o5 y hy) o1 o3 (Heap.SameBut.update ..)
    · rw [keys_map_putAt]; exact o6
theorem setItemE {Q : Unit → Shared → Prop} (hu : kd.room A.in1) (hk : kd.is s.heap k a) (m : DictE kd s.heap d xs) (hz : xs.length ≤ sizeLine)
    (q : ∀ h', DictE kd h' d (storedH xs k a v) → Heap.SameBut d s.heap h' → Q () { s with heap := h', toks := s.toks + kd.draws k }) : wpAny (model prog w) A (setItem (.ref d) (.ref a) v) Q E s := by
  have ty := m.of.typeIs
  unfold setItem
  try with_reducible refine wpAny_holding ?_
  refine wpAny_bind (wpAny_sequenceKey ty (by decide) (wpAny_bind (wpAny_callSpecial?_slot (name := Str.ofString "__setitem__") ty slot_dict_setitem (wpAny_call_entry slot_dict_setitem ty entry_dict_setitem ?_ (args_dict_setitem _ _ _)))))
  show wpAny _ _ (Builtin.Dict.notOrdered "__setitem__" ⟨[.ref d, .ref a, v], []⟩ >>= _) _ _ s
  refine wpAny_bind (wpAny_notOrdered_dict ty ?_)
  show wpAny _ _ (dictSet d (.ref a) v >>= fun _ => _) _ _ s
  exact wpAny_bind (dictSetE hu hk m hz fun h' m' hs' => wpAny_pure ⟨.none, rfl, wpAny_pure (q h' m' hs')⟩)
end
end L2
namespace L2
open PySem PySem.Spec PyProof.Rows
section
variable {prog : Program} {w : World} {A : Around} {E : Value → Shared → Prop} {s : Shared} {z TI TO T i1 i2 l1 l2 : Addr} {k : Nat} {xs ys : Array Value} {x y : Value} {f : Bool} {oT : Obj}
def ZIts (h : Heap) (xs ys : Array Value) (B : Addr) (W : List Addr) (acc : Array Value) (n : Nat) : Prop :=
  acc.size = n ∧ ∀ i, i < n → ∃ t x y, acc[i]? = some (.ref t) ∧ xs[i]? = some x ∧ ys[i]? = some y ∧ IsPair h t x y ∧ B ≤ t ∧ t ∉ W ∧ ∀ j, j < i → acc[j]? ≠ some (.ref t)
theorem ZIts.keep {h h' : Heap} {B : Addr} {W : List Addr} {acc : Array Value} {n : Nat} (q : ZIts h xs ys B W acc n) (k : ∀ c o, c ∉ W → h.get? c = some o → h'.get? c = some o) : ZIts h' xs ys B W acc n :=
  ⟨q.1, fun i hi => let ⟨t, x, y, a, b, c, d, e, f, g⟩ := q.2 i hi; ⟨t, x, y, a, b, c, k _ _ f d, e, f, g⟩⟩
theorem ZIts.push {h : Heap} {B t : Addr} {W : List Addr} {acc : Array Value} {n : Nat} {x y : Value} (q : ZIts h xs ys B W acc n) (hx : xs[n]? = some x) (hy : ys[n]? = some y) (ht : IsPair h t x y) (hB : B ≤ t) (hW : t ∉ W) (hw : ∀ j, j < n → acc[j]? ≠ some (.ref t)) : ZIts h xs ys B W (acc.push (.ref t)) (n + 1) := by
  obtain ⟨q1, q2⟩ := q
  refine ⟨by rw [Array.size_push, q1], fun i hi => ?_⟩
  rcases Nat.lt_or_ge i n with h1 | h1
  · obtain ⟨t', x', y', a, b, c, d, e, f, g⟩ := q2 i h1
    exact ⟨t', x', y', by rw [Array.getElem?_push_lt (by omega)]; rw [Array.getElem?_eq_getElem (by omega)] at a; exact a, b, c, d, e, f, fun j hj => by rw [Array.getElem?_push_lt (by omega), ← Array.getElem?_eq_getElem (by omega)]; exact g j hj⟩
  · have e : i = n := by omega
    subst e
    exact ⟨t, x, y, by rw [← q1]; exact Array.getElem?_push_size, hx, hy, ht, hB, hW, fun j hj => by rw [Array.getElem?_push_lt (by omega), ← Array.getElem?_eq_getElem (by omega)]; exact hw j hj⟩
end
end L2
namespace L2
open PySem PySem.Spec PyProof.Rows
abbrev Key := Sum Int Str
def keyIs : Key → Value → Bool
  | .inl k, v => Value.isInt k v
  | .inr x, v => Value.isStrOf x v
def keyH (w : World) : Key → Int
  | .inl k => hashInt k
  | .inr x => hashStr w x
theorem keyIs_shape : ∀ {k : Key} {v : Value}, keyIs k v = true → (∃ i t, k = Sum.inl i ∧ v = Value.int i t) ∨ (∃ x t, k = Sum.inr x ∧ v = Value.str x t)
  | .inl i, v, h => by
    obtain ⟨t, e⟩ := Value.isInt_shape (k := i) (v := v) h
    exact .inl ⟨i, t, rfl, e⟩
  | .inr x, v, h => by
    obtain ⟨t, e⟩ := Value.isStrOf_shape (x := x) (v := v) h
    exact .inr ⟨x, t, rfl, e⟩
theorem keyIs_int (i : Int) (t : Tok) : keyIs (.inl i) (.int i t) = true := by simp [keyIs, Value.isInt]
theorem keyIs_str (x : Str) (t : Tok) : keyIs (.inr x) (.str x t) = true := by simp [keyIs, Value.isStrOf]
theorem key_ll (a b : Int) : decide ((Sum.inl a : Key) = Sum.inl b) = (a == b) := by
  by_cases e : a = b
  · subst e; simp
  · have h : ¬ (Sum.inl a : Key) = Sum.inl b := fun q => e (Sum.inl.inj q)
    rw [decide_eq_false h]
    exact (beq_eq_false_iff_ne.mpr e).symm
theorem key_rr (a b : Str) : decide ((Sum.inr a : Key) = Sum.inr b) = decide (a = b) := by
  by_cases e : a = b
  · subst e; simp
  · have h : ¬ (Sum.inr a : Key) = Sum.inr b := fun q => e (Sum.inr.inj q)
    rw [decide_eq_false h, decide_eq_false e]
theorem key_lr (a : Int) (b : Str) : decide ((Sum.inl a : Key) = Sum.inr b) = false := decide_eq_false (fun q => nomatch q)
theorem key_rl (a : Str) (b : Int) : decide ((Sum.inr a : Key) = Sum.inl b) = false := decide_eq_false (fun q => nomatch q)
def mixKind (prog : Program) (w : World) : PySem.KeyKind prog w Key where
  is := keyIs
  hash := keyH w
  inj := fun v a b ha hb => by
    rcases keyIs_shape ha with ⟨i, t, rfl, rfl⟩ | ⟨x, t, rfl, rfl⟩
    · rcases keyIs_shape hb with ⟨j, u, rfl, e⟩ | ⟨y, u, rfl, e⟩
      · injection e with e1 _; rw [e1]
      · exact nomatch e
    · rcases keyIs_shape hb with ⟨j, u, rfl, e⟩ | ⟨y, u, rfl, e⟩
      · exact nomatch e
      · injection e with e1 _; rw [e1]
  byValue := fun k v h => by
    rcases keyIs_shape h with ⟨i, t, rfl, rfl⟩ | ⟨x, t, rfl, rfl⟩ <;> rfl
  pyHash := fun hv h => by
    rcases keyIs_shape hv with ⟨i, t, rfl, rfl⟩ | ⟨x, t, rfl, rfl⟩
    · exact wpAny_pyHash_int h
    · exact wpAny_pyHash_str h
  eqBool := fun hu hv h => by
    rcases keyIs_shape hu with ⟨i, t, rfl, rfl⟩ | ⟨x, t, rfl, rfl⟩
    · rcases keyIs_shape hv with ⟨j, u, rfl, rfl⟩ | ⟨y, u, rfl, rfl⟩
      · rw [key_ll] at h; exact wpAny_eqBool_int h
      · rw [key_lr] at h; exact SeqAt.EqAt.int_str i t y u _ _ _ _ h
    · rcases keyIs_shape hv with ⟨j, u, rfl, rfl⟩ | ⟨y, u, rfl, rfl⟩
      · rw [key_rl] at h; exact SeqAt.EqAt.str_int x t j u _ _ _ _ h
      · rw [key_rr] at h; exact wpAny_eqBool_str h
  «strs» := fun k x t v h => by
    rcases keyIs_shape h with ⟨i, u, rfl, e⟩ | ⟨y, u, rfl, e⟩
    · exact nomatch e
    · injection e with e1 _
      subst e1
      cases v <;> rfl
def keyIsB : Key → Value → Bool
  | .inl k, .bool b => decide (k = if b = true then 1 else 0)
  | k, v => keyIs k v
theorem keyIsB_shape {k : Key} {v : Value} (h : keyIsB k v = true) : (∃ b, k = Sum.inl (if b = true then 1 else 0) ∧ v = Value.bool b) ∨ (∃ i t, k = Sum.inl i ∧ v = Value.int i t) ∨ (∃ x t, k = Sum.inr x ∧ v = Value.str x t) := by
  unfold keyIsB at h
  split at h
  · exact .inl ⟨_, congrArg _ (of_decide_eq_true h), rfl⟩
  · exact .inr (keyIs_shape h)
theorem keyIsB_of {k : Key} {v : Value} (h : keyIs k v = true) : keyIsB k v = true := by
  rcases keyIs_shape h with ⟨i, t, rfl, rfl⟩ | ⟨x, t, rfl, rfl⟩ <;> exact h
theorem keyIsB_bool (b : Bool) : keyIsB (.inl (if b = true then 1 else 0)) (.bool b) = true := decide_eq_true rfl
theorem key_bb (a b : Bool) : decide ((Sum.inl (if a = true then 1 else 0) : Key) = Sum.inl (if b = true then 1 else 0)) = (a == b) := by
  rw [key_ll]; cases a <;> cases b <;> rfl
theorem hash_bool {prog : Program} {w : World} {A : Around} {E : Value → Shared → Prop} {s : Shared} (b : Bool) {Q : Int → Shared → Prop} (h : Q (hashInt (if b = true then 1 else 0)) { s with toks := s.toks + 1 }) :
    wpAny (model prog w) A (pyHash (.bool b)) Q E s := by
  refine PySem.W.pyHash_slot (s := s) (T := "bool") (by cases b <;> exact PySem.typeIs_bool s _) PySem.F.slot_bool_hash entry_int_hash (args_int_hash _) (by rw [beq_builtin_none]) (.inl rfl) ?_
  have e : reduceHash (rawHash (if b = true then 1 else 0)) = hashInt (if b = true then 1 else 0) := by cases b <;> decide
  show wpAny _ _ (do ret (← mkInt (rawHash (if b = true then 1 else 0)))) _ _ s
  refine wpAny_mono (wpAny_ret_mkInt (Q := fun v s' => ∃ t, v = .int (rawHash (if b = true then 1 else 0)) t ∧ s' = { s with toks := s.toks + 1 }) ⟨_, rfl, rfl⟩) (fun fin s' hq => ?_) fun _ _ x => x
  obtain ⟨v, rfl, t, rfl, rfl⟩ := hq
  exact ⟨_, _, rfl, by rw [e]; exact h⟩
def mixKindB (prog : Program) (w : World) : PySem.KeyKind prog w Key where
  is := keyIsB
  hash := keyH w
  inj := fun v a b ha hb => by
    rcases keyIsB_shape ha with ⟨c, rfl, rfl⟩ | ⟨i, t, rfl, rfl⟩ | ⟨x, t, rfl, rfl⟩ <;> rcases keyIsB_shape hb with ⟨d, rfl, e⟩ | ⟨j, u, rfl, e⟩ | ⟨y, u, rfl, e⟩ <;> cases e <;> rfl
  byValue := fun k v h => by
    rcases keyIsB_shape h with ⟨c, rfl, rfl⟩ | ⟨i, t, rfl, rfl⟩ | ⟨x, t, rfl, rfl⟩ <;> rfl
  pyHash := fun hv h => by
    rcases keyIsB_shape hv with ⟨c, rfl, rfl⟩ | ⟨i, t, rfl, rfl⟩ | ⟨x, t, rfl, rfl⟩
    · exact hash_bool c h
    · exact wpAny_pyHash_int h
    · exact wpAny_pyHash_str h
  eqBool := fun hu hv h => by
    rcases keyIsB_shape hu with ⟨c, rfl, rfl⟩ | ⟨i, t, rfl, rfl⟩ | ⟨x, t, rfl, rfl⟩
    · rcases keyIsB_shape hv with ⟨d, rfl, rfl⟩ | ⟨j, u, rfl, rfl⟩ | ⟨y, u, rfl, rfl⟩
      · rw [key_bb] at h; exact SeqAt.EqAt.bool_bool _ _ _ _ _ _ h
      · rw [key_ll] at h; exact SeqAt.EqAt.bool_int _ _ _ _ _ _ _ h
      · rw [key_lr] at h; exact SeqAt.EqAt.bool_str _ _ _ _ _ _ _ h
    · rcases keyIsB_shape hv with ⟨d, rfl, rfl⟩ | ⟨j, u, rfl, rfl⟩ | ⟨y, u, rfl, rfl⟩
      · rw [key_ll] at h; exact SeqAt.EqAt.int_bool _ _ _ _ _ _ _ h
      · rw [key_ll] at h; exact wpAny_eqBool_int h
      · rw [key_lr] at h; exact SeqAt.EqAt.int_str i t y u _ _ _ _ h
    · rcases keyIsB_shape hv with ⟨d, rfl, rfl⟩ | ⟨j, u, rfl, rfl⟩ | ⟨y, u, rfl, rfl⟩
      · rw [key_rl] at h; exact SeqAt.EqAt.str_bool _ _ _ _ _ _ _ h
      · rw [key_rl] at h; exact SeqAt.EqAt.str_int x t j u _ _ _ _ h
      · rw [key_rr] at h; exact wpAny_eqBool_str h
  «strs» := fun k x t v h => by
    rcases keyIsB_shape h with ⟨c, rfl, e⟩ | ⟨i, u, rfl, e⟩ | ⟨y, u, rfl, e⟩
    · exact nomatch e
    · exact nomatch e
    · injection e with e1 _
      subst e1
      cases v <;> rfl
theorem mixKind_int (prog : Program) (w : World) (i : Int) (t : Tok) : (mixKind prog w).is (.inl i) (.int i t) = true := keyIs_int i t
theorem mixKind_str (prog : Program) (w : World) (x : Str) (t : Tok) : (mixKind prog w).is (.inr x) (.str x t) = true := keyIs_str x t
end L2
namespace L2
open PySem PySem.Spec PyProof.Rows
inductive V where
  | non | bl (b : Bool) | int (i : Int) | str (x : Str) | byt (b : Array UInt8) | flt (b : UInt64) | ref (a : Addr) | ty (n : String)
  deriving DecidableEq
def RelV : V → Value → Prop
  | .non, u => u = Value.none
  | .bl b, u => u = Value.bool b
  | .int i, u => ∃ t, u = Value.int i t
  | .str x, u => ∃ t, u = Value.str x t
  | .byt b, u => ∃ t, u = Value.bytes b t
  | .flt b, u => ∃ t, u = Value.float b t
  | .ref a, u => u = Value.ref a
  | .ty n, u => u = Value.type n
abbrev Vals : List V → List Value → Prop := Paired RelV
theorem Vals.length {xs : List V} {us : List Value} (r : Vals xs us) : xs.length = us.length := Paired.length r
theorem Vals.get : ∀ {xs : List V} {us : List Value} {i : Nat} {x : V}, Vals xs us → xs[i]? = some x → ∃ u, us[i]? = some u ∧ RelV x u
  | _, _, _, _, .nil, e => by simp at e
  | _, _, 0, _, .cons r _, e => by simp at e; subst e; exact ⟨_, rfl, r⟩
  | _, _, i + 1, x, .cons _ t, e => by
    obtain ⟨u, h1, h2⟩ := Vals.get (i := i) (x := x) t (by simpa using e)
    exact ⟨u, by simpa using h1, h2⟩
theorem Vals.set {x : V} {u : Value} (r : RelV x u) : ∀ {xs : List V} {us : List Value} (i : Nat), Vals xs us → Vals (xs.set i x) (us.set i u)
  | _, _, _, .nil => .nil
  | _, _, 0, .cons _ t => .cons r t
  | _, _, i + 1, .cons q t => .cons q (Vals.set r i t)
theorem Vals.append : ∀ {xs ys : List V} {us ws : List Value}, Vals xs us → Vals ys ws → Vals (xs ++ ys) (us ++ ws)
  | _, _, _, _, .nil, s => s
  | _, _, _, _, .cons r t, s => .cons r (Vals.append t s)
theorem Vals.take : ∀ {xs : List V} {us : List Value} (n : Nat), Vals xs us → Vals (xs.take n) (us.take n)
  | _, _, 0, _ => .nil
  | _, _, _ + 1, .nil => .nil
  | _, _, n + 1, .cons r t => .cons r (Vals.take n t)
theorem Vals.drop : ∀ {xs : List V} {us : List Value} (n : Nat), Vals xs us → Vals (xs.drop n) (us.drop n)
  | _, _, 0, r => r
  | _, _, _ + 1, .nil => .nil
  | _, _, n + 1, .cons _ t => Vals.drop n t
def RelO : Option V → Option Value → Prop
  | some v, some u => RelV v u
  | none, none => True
  | _, _ => False
def KV {κ : Type} : List (κ × V) → List (κ × Value) → Prop := Paired fun (p : κ × V) (q : κ × Value) => p.1 = q.1 ∧ RelV p.2 q.2
def kV : Key → V
  | .inl i => .int i
  | .inr x => .str x
inductive HO where
  | lst (xs : List V)
  | tup (xs : List V)
  | dK (kvs : List (Key × V)) | dT (kvs : List (List Key × V))
  | set (S : Int → Bool) (n : Nat)
  | ins (C dx : Addr) (fs : List (Str × V))
  | own (x : Addr)
  | xd (fs : List (Str × V))
  | met (f x : Addr)
  | rng (lo hi : Int)
  | frz (o : Obj) (u : HO)
  | tbl (ps : Array Value)
  | ext (φ : Heap → Prop)
abbrev Hp := Addr → Option HO
def upd (H : Hp) (a : Addr) (o : HO) : Hp := fun b => if b = a then some o else H b
theorem upd_same {H : Hp} {a : Addr} {o : HO} : upd H a o a = some o := by unfold upd; rw [if_pos rfl]
theorem upd_ne {H : Hp} {a b : Addr} {o : HO} (h : b ≠ a) : upd H a o b = H b := by unfold upd; rw [if_neg h]
theorem ne_of {H : Hp} {a b : Addr} {o u : HO} (h : H a = some o) (h' : H b = some u) (d : o ≠ u) : a ≠ b := by
  intro e; subst e; rw [h] at h'; exact d (Option.some.inj h')
theorem ne_of_none {H : Hp} {a b : Addr} {o : HO} (h : H a = some o) (h' : H b = none) : a ≠ b := by
  intro e; subst e; rw [h] at h'; cases h'
def KeyT (ks : List Key) (vs : List V) : Prop := vs = ks.map kV ∨ ∃ x b, ks = [.inr x, .inl (if b = true then 1 else 0)] ∧ vs = [.str x, .bl b]
abbrev DKey (H : Hp) (b : Addr) (ks : List Key) : Prop := ∃ vs, H b = some (.tup vs) ∧ KeyT ks vs
def KTup (K : PySem.W.Frag) (a : Addr) (xs : List V) : Prop := ∃ (o : Obj) (its : Array Value) (n : Nat), K.lookup a = some o ∧ o.cls = .type "tuple" ∧ o.data = .seq its n ∧ its.size ≤ sizeLine ∧ Vals xs its.toList
def CKey (K : PySem.W.Frag) (H : Hp) (b : Addr) (ks : List Key) : Prop := DKey H b ks ∨ ∃ vs, KTup K b vs ∧ KeyT ks vs
theorem CKey.keeps {K : PySem.W.Frag} {H H' : Hp} {b : Addr} {ks : List Key} (c : CKey K H b ks) (ht : ∀ b ys, H b = some (.tup ys) → H' b = some (.tup ys)) : CKey K H' b ks := c.imp (fun ⟨vs, e, k⟩ => ⟨vs, ht _ _ e, k⟩) id
section
variable (P : Program) (w : World) (K : PySem.W.Frag)
def ObjOk (H : Hp) (h : Heap) (a : Addr) : HO → Prop
  | .lst xs => xs.length ≤ sizeLine ∧ ∃ (its : List Value) (n : Nat), Vals xs its ∧ h.get? a = some { cls := .type "list", data := .seq its.toArray n }
  | .tup xs => xs.length ≤ sizeLine ∧ ∃ its : List Value, Vals xs its ∧ IsTup h a its.toArray
  | .dK kvs => kvs.length ≤ sizeLine ∧ (a == sysModules) = false ∧ ∃ vs, KV kvs vs ∧ h.DictOf (mixKind P w) a vs
  | .dT kvs => kvs.length ≤ sizeLine ∧ (a == sysModules) = false ∧ ∃ xs : List (List Key × Addr × Value),
      Paired (fun (p : List Key × V) (q : List Key × Addr × Value) => p.1 = q.1 ∧ CKey K H q.2.1 p.1 ∧ RelV p.2 q.2.2) kvs xs ∧
      ∃ o es ep, h.get? a = some o ∧ o.ExactDict ∧ o.data = .dict es ep ∧ es.toList = xs.map (entryOfKey (tupleKind (mixKindB P w))) ∧ (xs.map (·.1)).Nodup ∧ ep = xs.length
  | .set S n => h.SetOf (intKind P w) a S n
  | .ins C dx fs => H dx = some (.own a) ∧ fs.length ≤ 1000 ∧ dx ≠ a ∧ h.get? a = some (PySem.W.instObj C dx) ∧
      ∃ mA, h.Ns1 dx mA ∧ (∀ f, RelO (fs.lookup f) (mA f)) ∧ PySem.Within mA (fs.map (·.1))
  | .own _ => ∃ o, h.get? a = some o
  | .xd fs => ∃ mA, h.Ns1 a mA ∧ ∀ f, RelO (fs.lookup f) (mA f)
  | .rng lo hi => ∃ t u v, h.get? a = some { cls := .type "range", data := .fields #[.int lo t, .int hi u, .int 1 v] }
  | .frz o u => h.get? a = some o ∧ ObjOk H h a u
  | .tbl ps => h.get? a = some { cls := .none, data := .fields ps }
  | .met f x => h.get? a = some (PySem.W.methodObj (.ref f) (.ref x))
  | .ext φ => φ h ∧ (∃ o, h.get? a = some o) ∧ ∀ h1 h2 : Heap, φ h1 → (∀ o, h1.get? a = some o → h2.get? a = some o) → φ h2
def HOk (H : Hp) (h : Heap) : Prop := ∀ a o, H a = some o → ObjOk P w K H h a o
end
section
variable {P : Program} {w : World} {K : PySem.W.Frag} {H H' : Hp} {h h' : Heap} {a : Addr} {o : HO}
theorem ObjOk.lt (x : ObjOk P w K H h a o) : a < h.objs.size := by
  cases o with
  | lst xs => obtain ⟨_, _, _, _, e⟩ := x; exact Heap.lt_size e
  | tup xs => obtain ⟨_, _, _, p⟩ := x; exact p.lt
  | dK kvs => obtain ⟨_, _, _, _, o, _, _, e, _⟩ := x; exact Heap.lt_size e
  | dT kvs => obtain ⟨_, _, _, _, o, _, _, e, _⟩ := x; exact Heap.lt_size e
  | set S n => obtain ⟨o, _, _, _, e, _⟩ := x; exact Heap.lt_size e
  | ins C dx fs => obtain ⟨_, _, _, e, _⟩ := x; exact Heap.lt_size e
  | own y => obtain ⟨_, e⟩ := x; exact Heap.lt_size e
  | xd fs => obtain ⟨_, ⟨_, _, _, e, _⟩, _⟩ := x; exact Heap.lt_size e
  | rng lo hi => obtain ⟨_, _, _, e⟩ := x; exact Heap.lt_size e
  | frz ob u => obtain ⟨e, _⟩ := x; exact Heap.lt_size e
  | tbl ps => exact Heap.lt_size (show h.get? a = some _ from x)
  | met f y => exact Heap.lt_size (show h.get? a = some _ from x)
  | ext φ => obtain ⟨_, ⟨_, e⟩, _⟩ := x; exact Heap.lt_size e
theorem Paired.mapP {α β : Type} {F G : α → β → Prop} : ∀ {l₁ : List α} {l₂ : List β}, Paired F l₁ l₂ → (∀ a b, F a b → G a b) → Paired G l₁ l₂
  | _, _, .nil, _ => .nil
  | _, _, .cons r t, f => .cons (f _ _ r) (Paired.mapP t f)
theorem ObjOk.stay (x : ObjOk P w K H h a o) (k : ∀ b u, (b = a ∨ H b = some (.own a)) → h.get? b = some u → h'.get? b = some u)
    (ho : ∀ b, H b = some (.own a) → H' b = some (.own a)) (ht : ∀ b xs, H b = some (.tup xs) → H' b = some (.tup xs)) : ObjOk P w K H' h' a o := by
  induction o with
  | lst xs => obtain ⟨z, its, n, r, e⟩ := x; exact ⟨z, its, n, r, k _ _ (.inl rfl) e⟩
  | tup xs => obtain ⟨z, its, r, ob, e, c⟩ := x; exact ⟨z, its, r, ob, k _ _ (.inl rfl) e, c⟩
  | dK kvs => obtain ⟨z, y, vs, r, ob, es, ep, e, c⟩ := x; exact ⟨z, y, vs, r, ob, es, ep, k _ _ (.inl rfl) e, c⟩
  | dT kvs =>
    obtain ⟨z, y, xs, r, ob, es, ep, e, c⟩ := x
    exact ⟨z, y, xs, Paired.mapP r fun p q z => ⟨z.1, z.2.1.keeps ht, z.2.2⟩, ob, es, ep, k _ _ (.inl rfl) e, c⟩
  | set S n => obtain ⟨ob, es, ep, t, e, c⟩ := x; exact ⟨ob, es, ep, t, k _ _ (.inl rfl) e, c⟩
  | ins C dx fs =>
    obtain ⟨d, z, ne, e, mA, ⟨od, es, ep, e2, c⟩, r⟩ := x
    exact ⟨ho _ d, z, ne, k _ _ (.inl rfl) e, mA, ⟨od, es, ep, k _ _ (.inr d) e2, c⟩, r⟩
  | own y => obtain ⟨ob, e⟩ := x; exact ⟨ob, k _ _ (.inl rfl) e⟩
  | xd fs => obtain ⟨mA, ⟨od, es, ep, e, c⟩, r⟩ := x; exact ⟨mA, ⟨od, es, ep, k _ _ (.inl rfl) e, c⟩, r⟩
  | rng lo hi => obtain ⟨t, u, v, e⟩ := x; exact ⟨t, u, v, k _ _ (.inl rfl) e⟩
  | frz ob u ih => obtain ⟨e, q⟩ := x; exact ⟨k _ _ (.inl rfl) e, ih q⟩
  | tbl ps =>
    have e : h.get? a = some { cls := .none, data := .fields ps } := x
    show h'.get? a = some { cls := .none, data := .fields ps }
    exact k a _ (.inl rfl) e
  | met f y =>
    have e : h.get? a = some (PySem.W.methodObj (.ref f) (.ref y)) := x
    show h'.get? a = some (PySem.W.methodObj (.ref f) (.ref y))
    exact k a _ (.inl rfl) e
  | ext φ => obtain ⟨p, ⟨o, e⟩, st⟩ := x; exact ⟨st _ _ p fun o q => k _ _ (.inl rfl) q, ⟨o, k _ _ (.inl rfl) e⟩, st⟩
theorem HOk.lt (x : HOk P w K H h) (e : H a = some o) : a < h.objs.size := (x a o e).lt
theorem HOk.fresh (x : HOk P w K H h) (e : h.objs.size ≤ a) : H a = none := by
  cases q : H a with
  | none => rfl
  | some u => exact absurd (Nat.lt_of_lt_of_le (x.lt q) e) (Nat.lt_irrefl _)
theorem HOk.kept (x : HOk P w K H h) (k : ∀ b u, h.get? b = some u → h'.get? b = some u) : HOk P w K H h' := fun a o e =>
  (x a o e).stay (fun b u _ q => k b u q) (fun _ q => q) fun _ _ q => q
theorem HOk.laid (x : HOk P w K H h) (k : ∀ b u, h.get? b = some u → h'.get? b = some u) (hp : h.objs.size ≤ a) (new : ObjOk P w K (upd H a o) h' a o) : HOk P w K (upd H a o) h' := fun b u e => by
  have hn := x.fresh hp
  by_cases hb : b = a
  · subst hb; rw [upd_same] at e; cases e; exact new
  · rw [upd_ne hb] at e
    exact (x b u e).stay (fun c v _ q => k c v q) (fun c q => by rw [upd_ne (ne_of_none q hn)]; exact q) fun c xs q => by rw [upd_ne (ne_of_none q hn)]; exact q
end
def Rd (H : Hp) (a : Addr) (u : HO) : Prop := H a = some u ∨ ∃ o, H a = some (.frz o u)
theorem Rd.of {H : Hp} {a : Addr} {u : HO} (h : H a = some u) : Rd H a u := .inl h
theorem Rd.ok {P : Program} {w : World} {K : PySem.W.Frag} {H : Hp} {h : Heap} {a : Addr} {u : HO} (r : Rd H a u) (x : HOk P w K H h) : ObjOk P w K H h a u := by
  rcases r with r | ⟨o, r⟩
  · exact x a u r
  · obtain ⟨_, q⟩ := x a _ r
    exact q
def Mut : Option HO → Prop
  | some (.lst _) => True
  | some (.dK _) => True
  | some (.dT _) => True
  | some (.set _ _) => True
  | some (.ins _ _ _) => True
  | some (.ext _) => True
  | _ => False
section
variable {P : Program} {w : World} {K : PySem.W.Frag} {H : Hp} {h h' : Heap} {x e : Addr} {o' : HO}
theorem HOk.write (ok : HOk P w K H h) (mu : Mut (H x)) (he : e = x ∨ H e = some (.own x)) (k : ∀ b u, b ≠ e → h.get? b = some u → h'.get? b = some u) (heo : ∃ u, h'.get? e = some u)
    (new : ObjOk P w K (upd H x o') h' x o') : HOk P w K (upd H x o') h' := fun b u q => by
  have nown : ∀ c y, H c = some (.own y) → c ≠ x := fun c y r z => by subst z; rw [r] at mu; exact mu
  have ntup : ∀ c xs, H c = some (.tup xs) → c ≠ x := fun c xs r z => by subst z; rw [r] at mu; exact mu
  by_cases hb : b = x
  · subst hb; rw [upd_same] at q; cases q; exact new
  · rw [upd_ne hb] at q
    by_cases hbe : b = e
    · have q' : H b = some (.own x) := by
        rcases he with z | z
        · exact absurd (hbe.trans z) hb
        · rw [hbe]; exact z
      rw [q] at q'; cases q'
      obtain ⟨v, hv⟩ := heo
      exact ⟨v, by rw [hbe]; exact hv⟩
    · refine (ok b u q).stay (fun c v hc r => k c v ?_ r) (fun c r => by rw [upd_ne (nown c b r)]; exact r) fun c xs r => by rw [upd_ne (ntup c xs r)]; exact r
      rcases hc with rfl | hc
      · exact hbe
      · rintro rfl
        rcases he with z | z
        · exact nown c b hc z
        · rw [hc] at z; cases z; exact hb rfl
end
structure Un (fs ex : List Addr) (H H' : Hp) (h h' : Heap) : Prop where
  keep : ∀ b o, h.get? b = some o → H b = none → b ∉ fs → b ∉ ex → h'.get? b = some o
  slot : ∀ b o, h.get? b = some o → H b = none → b ∈ fs → b ∉ ex → ∃ sl, h'.get? b = some { o with slots := sl }
  free : ∀ b o, h.get? b = some o → H b = none → b ∉ ex → H' b = none
  there : ∀ b o, h.get? b = some o → b ∉ ex → ∃ o', h'.get? b = some o'
  tups : ∀ b xs, H b = some (.tup xs) → H' b = some (.tup xs)
  frzs : ∀ b o u, H b = some (.frz o u) → H' b = some (.frz o u)
  tbls : ∀ b ps, H b = some (.tbl ps) → ∃ more, H' b = some (.tbl (ps ++ more))
section
variable {fs fs' ex ex' : List Addr} {H H1 H2 : Hp} {h h1 h2 h' : Heap} {a x e : Addr} {o : HO}
theorem Un.any (u : Un fs ex H H1 h h1) {b : Addr} {ob : Obj} (q : h.get? b = some ob) (n : H b = none) (hx : b ∉ ex) : ∃ sl, h1.get? b = some { ob with slots := sl } := by
  by_cases hb : b ∈ fs
  · exact u.slot b ob q n hb hx
  · exact ⟨ob.slots, u.keep b ob q n hb hx⟩
theorem Un.trans (a : Un fs ex H H1 h h1) (b : Un fs ex H1 H2 h1 h2) : Un fs ex H H2 h h2 where
  keep := fun c ob q n hc hx => b.keep c ob (a.keep c ob q n hc hx) (a.free c ob q n hx) hc hx
  slot := fun c ob q n hc hx => by
    obtain ⟨sl, e1⟩ := a.slot c ob q n hc hx
    obtain ⟨sl', e2⟩ := b.slot c _ e1 (a.free c ob q n hx) hc hx
    exact ⟨sl', e2⟩
  free := fun c ob q n hx => by
    obtain ⟨o', e1⟩ := a.there c ob q hx
    exact b.free c o' e1 (a.free c ob q n hx) hx
  there := fun c ob q hx => by
    obtain ⟨o', e1⟩ := a.there c ob q hx
    exact b.there c o' e1 hx
  tups := fun c xs q => b.tups c xs (a.tups c xs q)
  frzs := fun c ob xs q => b.frzs c ob xs (a.frzs c ob xs q)
  tbls := fun c ps q => by
    obtain ⟨m1, e1⟩ := a.tbls c ps q
    obtain ⟨m2, e2⟩ := b.tbls c _ e1
    exact ⟨m1 ++ m2, by rw [e2, Array.append_assoc]⟩
theorem Un.kept (k : ∀ b u, h.get? b = some u → h'.get? b = some u) : Un fs ex H H h h' :=
  ⟨fun b ob q _ _ _ => k b ob q, fun b ob q _ _ _ => ⟨ob.slots, k b ob q⟩, fun _ _ _ n _ => n, fun b ob q _ => ⟨ob, k b ob q⟩, fun _ _ q => q, fun _ _ _ q => q, fun _ ps q => ⟨#[], by rw [q]; simp⟩⟩
theorem Un.refl : Un fs ex H H h h := Un.kept fun _ _ q => q
theorem Un.laid (k : ∀ b u, h.get? b = some u → h'.get? b = some u) (hp : h.objs.size ≤ a) (hn : H a = none) : Un fs ex H (upd H a o) h h' where
  keep := fun b u q _ _ _ => k b u q
  slot := fun b u q _ _ _ => ⟨u.slots, k b u q⟩
  free := fun b u q n _ => by rw [upd_ne (Nat.ne_of_lt (Nat.lt_of_lt_of_le (Heap.lt_size q) hp))]; exact n
  there := fun b u q _ => ⟨u, k b u q⟩
  tups := fun b xs q => by rw [upd_ne (ne_of_none q hn)]; exact q
  frzs := fun b u xs q => by rw [upd_ne (ne_of_none q hn)]; exact q
  tbls := fun b ps q => ⟨#[], by rw [upd_ne (ne_of_none q hn), q]; simp⟩
theorem Un.write (mu : Mut (H x)) (he : e = x ∨ H e = some (.own x)) (k : ∀ b u, b ≠ e → h.get? b = some u → h'.get? b = some u) (heo : ∃ u, h'.get? e = some u) : Un fs ex H (upd H x o) h h' := by
  have hx : ∀ b, H b = none → b ≠ x := fun b n z => by subst z; rw [n] at mu; exact mu
  have hb : ∀ b, H b = none → b ≠ e := fun b n z => by
    subst z
    rcases he with r | r
    · exact hx b n r
    · rw [n] at r; cases r
  have hm : ∀ b u, H b = some u → ¬ Mut (some u) → b ≠ x := fun b u q nm z => by subst z; rw [q] at mu; exact nm mu
  refine ⟨fun b u q n _ _ => k b u (hb b n) q, fun b u q n _ _ => ⟨u.slots, k b u (hb b n) q⟩, fun b u q n _ => by rw [upd_ne (hx b n)]; exact n, fun b u q _ => ?_,
    fun b xs q => by rw [upd_ne (hm b _ q fun z => z)]; exact q, fun b u xs q => by rw [upd_ne (hm b _ q fun z => z)]; exact q, fun b ps q => ⟨#[], by rw [upd_ne (hm b _ q fun z => z), q]; simp⟩⟩
  by_cases hbe : b = e
  · subst hbe; exact heo
  · exact ⟨u, k b u hbe q⟩
theorem Un.mono (u : Un fs ex H H1 h h1) (hs : ∀ b ∈ fs, b ∈ fs') (hx : ∀ b ∈ ex, b ∈ ex') : Un fs' ex' H H1 h h1 :=
  ⟨fun b ob q n hb he => u.keep b ob q n (fun z => hb (hs b z)) fun z => he (hx b z), fun _ _ q n _ he => u.any q n fun z => he (hx _ z), fun b ob q n he => u.free b ob q n fun z => he (hx b z), fun b ob q he => u.there b ob q fun z => he (hx b z), u.tups, u.frzs, u.tbls⟩
end
def trk (h : Heap) (H : Hp) : List Addr := (List.range h.objs.size).filter fun a => (H a).isSome
def hidT (h : Heap) (H : Hp) : Heap := PySem.W.hideAll h (trk h H)
theorem hidT_size (h : Heap) (H : Hp) : (hidT h H).objs.size = h.objs.size := PySem.W.hideAll_size _ _
theorem hidT_get {h : Heap} {H : Hp} {b : Addr} {o : Obj} (e : h.get? b = some o) (n : H b = none) : (hidT h H).get? b = some o :=
  PySem.W.hideAll_get _ e fun hm => by
    have q : (H b).isSome = true := (List.mem_filter.mp hm).2
    rw [n] at q; simp at q
theorem of_hidT {h : Heap} {H : Hp} {b : Addr} {o : Obj} (e : (hidT h H).get? b = some o) : h.get? b = some o ∧ H b = none := by
  have e' : h.get? b = some o := PySem.W.of_hideAll (trk h H) e
  refine ⟨e', ?_⟩
  cases q : H b with
  | none => rfl
  | some x =>
    have hm : b ∈ trk h H := List.mem_filter.mpr ⟨List.mem_range.mpr (Heap.lt_size e'), by simp [q]⟩
    have z : (hidT h H).get? b = none := PySem.W.hideAll_none (trk h H) hm
    rw [z] at e; cases e
def allNews (g h : Heap) (L : Addr) : List (Addr × Obj) := (List.range h.objs.size).filterMap fun a => if a = L ∨ (g.get? a).isSome = true then none else (h.get? a).map fun o => (a, o)
def rest (g h : Heap) (L d : Addr) : List (Addr × Obj) := (allNews g h L).filter fun p => decide (p.1 ≠ d)
end L2
namespace L2
open PySem PySem.Spec PyProof.Rows
structure Mod (K : PySem.W.Frag) (mg : Str → Option Value) (base : Heap) : Prop where
  kin : K.In base
  glob : base.Ns mainGlobals mg
  blt : ∃ mb, base.Ns builtinsNs mb ∧ ∀ x : Str, x ≠ "__name__" → mb x = bootBuiltins x
  nolimit : base.NoLimit
structure Cx where
  prog : Program
  w : World
  K : PySem.W.Frag
  mg : Str → Option Value
  base : Heap
  A : Around
  N : List Str
  s₀ : Shared
  H₀ : Hp
  env : Env
  outer : List Env
  stack : List Env
  ex : List Addr
  fn : Str → Bool
  calm : Bool
  pn : List (Addr × Obj)
  xe : Value → Shared → Prop
def frs (l : List Env) : List Addr := l.filterMap (·.frame)
abbrev Cx.fs (X : Cx) : List Addr := frs X.outer
def Vis (sc : Scope) (x : Str) : Prop := sc.names.lookup x = some .local ∨ sc.names.lookup x = some .cell ∨ sc.names.lookup x = some .free
def Loc (sc : Scope) (x : Str) : Prop := sc.names.lookup x = some .local ∨ sc.names.lookup x = some .cell
def Look (env : Env) (h : Heap) (m : Str → Option Value) (x : Str) (u : Value) : Prop :=
  (env.kindOf x = some .local ∧ m x = some u) ∨ ((env.kindOf x = some .cell ∨ env.kindOf x = some .free) ∧ ∃ c, env.cells.lookup x = some c ∧ h.IsCell c (some u))
structure Cx.Ok (X : Cx) : Prop where
  mod : Mod X.K X.mg X.base
  kind : X.env.scope.kind = .function
  glob : X.env.globals = mainGlobals
  blt : X.env.builtins = builtinsNs
  above : X.s₀.heap.objs.size ≤ X.env.locals
  inj : ∀ x y c, X.env.cells.lookup x = some c → X.env.cells.lookup y = some c → x = y
  has : ∀ x, (X.env.kindOf x = some .cell ∨ X.env.kindOf x = some .free) → ∃ c, X.env.cells.lookup x = some c
  cab : ∀ x c, X.fn x = true → X.env.cells.lookup x = some c → X.s₀.heap.objs.size ≤ c
  hd : X.calm = true → X.A.handled = none
  frames : X.A.frames = some X.stack
  stk : X.stack = X.outer ∨ (X.stack = X.env :: X.outer ∧ X.env.frame = some X.env.locals)
  exf : ∀ b ∈ X.ex, b ≠ X.env.locals ∧ ∀ x c, X.env.cells.lookup x = some c → c ≠ b
  bs : ∀ b o, X.base.get? b = some o → X.s₀.heap.get? b = some o ∧ X.H₀ b = none
  bsz : X.base.objs.size ≤ X.s₀.heap.objs.size
  noex : ∀ b o, X.base.get? b = some o → b ∉ X.ex
  exfs : ∀ b ∈ X.ex, b ∉ X.fs
  funs : X.s₀.heap.FunFrames X.base X.outer
  frf : ∀ b ∈ X.fs, X.H₀ b = none
structure Inv (X : Cx) (pins : List (Addr × Obj)) (σ : List (Option V)) (H : Hp) (s : Shared) : Prop where
  ok : X.Ok
  os : s.os = X.s₀.os
  bare : AllBare s.gens
  base : Un X.fs X.ex X.H₀ H X.s₀.heap s.heap
  loc : ∃ m, s.heap.Ns X.env.locals m ∧ ∀ (i : Nat) (x : Str) (v : V), X.N[i]? = some x → σ[i]? = some (some v) → Vis X.env.scope x → ∃ u, RelV v u ∧ Look X.env s.heap m x u
  cell : ∀ x c, X.env.cells.lookup x = some c → ∃ v, s.heap.IsCell c v
  free : H X.env.locals = none
  freeC : ∀ x c, X.env.cells.lookup x = some c → H c = none
  pin : ∀ p ∈ X.pn ++ pins, s.heap.get? p.1 = some p.2 ∧ H p.1 = none ∧ p.1 ≠ X.env.locals ∧ p.1 ∉ X.fs ∧ ∀ v, p.2.data ≠ .cell v
  hok : HOk X.prog X.w X.K H s.heap
  len : σ.length = X.N.length
section
variable {X : Cx} {pins : List (Addr × Obj)} {σ : List (Option V)} {H H' : Hp} {s : Shared} {h' : Heap}
theorem Cx.Ok.nofr (ok : X.Ok) {b : Addr} {o : Obj} (e : X.base.get? b = some o) : b ∉ X.fs := fun hb => by
  have := (ok.funs.mem hb).1
  rw [e] at this; cases this
theorem Inv.bs (I : Inv X pins σ H s) : ∀ b o, X.base.get? b = some o → s.heap.get? b = some o ∧ H b = none := fun b o e =>
  ⟨I.base.keep b o (I.ok.bs b o e).1 (I.ok.bs b o e).2 (I.ok.nofr e) (I.ok.noex b o e), I.base.free b o (I.ok.bs b o e).1 (I.ok.bs b o e).2 (I.ok.noex b o e)⟩
theorem Inv.bk (I : Inv X pins σ H s) : ∀ b o, X.base.get? b = some o → s.heap.get? b = some o := fun b o e => (I.bs b o e).1
theorem Inv.mod (I : Inv X pins σ H s) : Mod X.K X.mg X.base := I.ok.mod
theorem Inv.kIn (I : Inv X pins σ H s) : X.K.In s.heap := I.ok.mod.kin.keeps I.bk
theorem Inv.nolimit (I : Inv X pins σ H s) : s.heap.NoLimit := I.ok.mod.nolimit.keeps I.bk
theorem Inv.fr (I : Inv X pins σ H s) : ∃ m, Fr X.base X.env.locals s.heap m :=
  let ⟨m, hn, _⟩ := I.loc
  ⟨m, hn, I.bk, Nat.le_trans I.ok.bsz I.ok.above⟩
theorem Inv.lt (I : Inv X pins σ H s) : X.env.locals < s.heap.objs.size := let ⟨_, hn, _⟩ := I.loc; hn.lt
theorem Inv.sz (I : Inv X pins σ H s) : X.s₀.heap.objs.size ≤ s.heap.objs.size := Nat.le_trans I.ok.above (Nat.le_of_lt I.lt)
theorem Inv.nofs (I : Inv X pins σ H s) {a : Addr} (h : s.heap.objs.size ≤ a) : a ∉ X.fs := fun hb => by
  obtain ⟨_, o, ho, _⟩ := I.ok.funs.mem hb
  exact absurd (Nat.lt_of_lt_of_le (Heap.lt_size ho) (Nat.le_trans I.sz h)) (Nat.lt_irrefl _)
theorem Inv.cne (I : Inv X pins σ H s) : ∀ x c, X.env.cells.lookup x = some c → c ≠ X.env.locals := fun x c e z => by
  obtain ⟨v, o, ho, hd⟩ := I.cell x c e
  obtain ⟨m, ⟨o', es, ep, ho', hd', _⟩, _⟩ := I.loc
  rw [z, ho'] at ho; cases ho; rw [hd'] at hd; cases hd
theorem Inv.funs (I : Inv X pins σ H s) : s.heap.FunFrames X.base X.outer := by
  have all : ∀ (l : List Env), (∀ b ∈ frs l, b ∈ X.fs) → X.s₀.heap.FunFrames X.base l → s.heap.FunFrames X.base l := by
    intro l
    induction l with
    | nil => intro _ _; trivial
    | cons env r ih =>
      intro hs hl
      obtain ⟨hk, ⟨L, o, hf, hn, ho, hd⟩, hr⟩ := hl
      have hL : L ∈ X.fs := hs L (by unfold frs; rw [List.filterMap_cons, hf]; exact List.mem_cons_self)
      obtain ⟨sl, e⟩ := I.base.slot L o ho (I.ok.frf L hL) hL fun z => I.ok.exfs L z hL
      exact ⟨hk, ⟨L, _, hf, hn, e, hd⟩, ih (fun b hb => hs b (by unfold frs; rw [List.filterMap_cons, hf]; exact List.mem_cons_of_mem _ hb)) hr⟩
  exact all X.outer (fun _ hb => hb) I.ok.funs
theorem Inv.stack (I : Inv X pins σ H s) : s.heap.FunFrames X.base X.stack := by
  rcases I.ok.stk with e | ⟨e, hf⟩
  · rw [e]; exact I.funs
  · rw [e]
    obtain ⟨m, hn, _⟩ := I.loc
    refine .cons (by rw [I.ok.kind]; decide) hf hn ?_ I.funs
    exact Heap.get?_none_of_le (Nat.le_trans I.ok.bsz I.ok.above)
theorem Inv.stkSub (I : Inv X pins σ H s) : ∀ b ∈ frs X.stack, b ∈ X.env.locals :: X.fs := fun b hb => by
  rcases I.ok.stk with e | ⟨e, hf⟩
  · rw [e] at hb; exact List.mem_cons_of_mem _ hb
  · rw [e] at hb
    unfold frs at hb
    rw [List.filterMap_cons, hf] at hb
    exact hb
theorem Inv.stkFree (I : Inv X pins σ H s) : ∀ b ∈ frs X.stack, H b = none := fun b hb => by
  rcases List.mem_cons.mp (I.stkSub b hb) with e | hb
  · rw [e]; exact I.free
  · obtain ⟨_, o, ho, _⟩ := I.ok.funs.mem hb
    exact I.base.free b o ho (I.ok.frf b hb) fun z => I.ok.exfs b z hb
theorem Inv.step {g' : Array GenState} {t' : Nat} {d' : Drawn} {ch : List Addr} (I : Inv X pins σ H s)
    (hch : ∀ b ∈ ch, (b ∈ X.ex ∨ X.s₀.heap.objs.size ≤ b) ∧ b ≠ X.env.locals ∧ (∀ x c, X.env.cells.lookup x = some c → c ≠ b) ∧ ∀ p ∈ X.pn ++ pins, p.1 ≠ b)
    (keep : ∀ b o, b ≠ X.env.locals → b ∉ X.fs → b ∉ ch → s.heap.get? b = some o → H b = none → h'.get? b = some o)
    (slot : ∀ b o, b ≠ X.env.locals → b ∈ X.fs → b ∉ ch → s.heap.get? b = some o → H b = none → ∃ sl, h'.get? b = some { o with slots := sl }) (free : ∀ b o, b ∉ ch → s.heap.get? b = some o → H b = none → H' b = none)
    (there : ∀ b o, b ∉ ch → s.heap.get? b = some o → ∃ o', h'.get? b = some o')
    (tups : ∀ b xs, H b = some (.tup xs) → H' b = some (.tup xs)) (frzs : ∀ b o u, H b = some (.frz o u) → H' b = some (.frz o u)) (tbls : ∀ b ps, H b = some (.tbl ps) → ∃ more, H' b = some (.tbl (ps ++ more)))
    (ns : ∀ m, s.heap.Ns X.env.locals m → h'.Ns X.env.locals m) (hok : HOk X.prog X.w X.K H' h') (hg : AllBare g') :
    Inv X pins σ H' { s with heap := h', gens := g', drawn := d', toks := t' } := by
  have neL : ∀ b o, X.s₀.heap.get? b = some o → b ≠ X.env.locals := fun b o e => Nat.ne_of_lt (Nat.lt_of_lt_of_le (Heap.lt_size e) I.ok.above)
  have neC : ∀ b o, X.s₀.heap.get? b = some o → b ∉ X.ex → b ∉ ch := fun b o e hx hb => by
    rcases (hch b hb).1 with z | z
    · exact hx z
    · exact absurd (Nat.lt_of_lt_of_le (Heap.lt_size e) z) (Nat.lt_irrefl _)
  have cellK : ∀ x c, X.env.cells.lookup x = some c → ∀ v, s.heap.IsCell c v → h'.IsCell c v := fun x c e v ⟨o, ho, hd⟩ => by
    have nch : c ∉ ch := fun z => (hch c z).2.2.1 x c e rfl
    by_cases hc : c ∈ X.fs
    · obtain ⟨sl, q⟩ := slot c o (I.cne x c e) hc nch ho (I.freeC x c e)
      exact ⟨_, q, hd⟩
    · exact ⟨o, keep c o (I.cne x c e) hc nch ho (I.freeC x c e), hd⟩
  refine ⟨I.ok, I.os, hg, ⟨fun b o e n hb hx => ?_, fun b o e n hb hx => ?_, fun b o e n hx => ?_, fun b o e hx => ?_, fun b xs e => tups b xs (I.base.tups b xs e), fun b o xs e => frzs b o xs (I.base.frzs b o xs e), fun b ps e => ?_⟩, ?_, fun x c e => ?_, ?_, fun x c e => ?_, fun p hp => ?_, hok, I.len⟩
  · exact keep b o (neL b o e) hb (neC b o e hx) (I.base.keep b o e n hb hx) (I.base.free b o e n hx)
  · obtain ⟨sl, e1⟩ := I.base.slot b o e n hb hx
    obtain ⟨sl', e2⟩ := slot b _ (neL b o e) hb (neC b o e hx) e1 (I.base.free b o e n hx)
    exact ⟨sl', e2⟩
  · obtain ⟨o', e1⟩ := I.base.there b o e hx
    exact free b o' (neC b o e hx) e1 (I.base.free b o e n hx)
  · obtain ⟨o', e1⟩ := I.base.there b o e hx
    exact there b o' (neC b o e hx) e1
  · obtain ⟨m1, e1⟩ := I.base.tbls b ps e
    obtain ⟨m2, e2⟩ := tbls b _ e1
    exact ⟨m1 ++ m2, by rw [e2, Array.append_assoc]⟩
  · obtain ⟨m, hn, hl⟩ := I.loc
    refine ⟨m, ns m hn, fun i x v e1 e2 e3 => ?_⟩
    obtain ⟨u, r, l⟩ := hl i x v e1 e2 e3
    refine ⟨u, r, ?_⟩
    rcases l with l | ⟨k, c, e, z⟩
    · exact .inl l
    · exact .inr ⟨k, c, e, cellK x c e _ z⟩
  · obtain ⟨v, z⟩ := I.cell x c e
    exact ⟨v, cellK x c e v z⟩
  · obtain ⟨m, ⟨o, _, _, ho, _⟩, _⟩ := I.loc
    exact free _ o (fun z => (hch _ z).2.1 rfl) ho I.free
  · obtain ⟨v, o, ho, hd⟩ := I.cell x c e
    exact free c o (fun z => (hch c z).2.2.1 x c e rfl) ho (I.freeC x c e)
  · obtain ⟨e, n, ne, nf, d⟩ := I.pin p hp
    have nch : p.1 ∉ ch := fun z => (hch p.1 z).2.2.2 p hp rfl
    exact ⟨keep p.1 p.2 ne nf nch e n, free p.1 p.2 nch e n, ne, nf, d⟩
theorem Inv.un {t' : Nat} (I : Inv X pins σ H s) (u : Un X.fs [] H H' s.heap h') (hok : HOk X.prog X.w X.K H' h') : Inv X pins σ H' { s with heap := h', toks := t' } := by
  obtain ⟨m, ⟨o, es, ep, ho, r⟩, _⟩ := id I.loc
  obtain ⟨sl, hL⟩ := u.any ho I.free (by simp)
  exact I.step (g' := s.gens) (d' := s.drawn) (ch := []) (fun _ z => nomatch z) (fun b o _ hb _ e n => u.keep b o e n hb (by simp)) (fun b o _ hb _ e n => u.slot b o e n hb (by simp)) (fun b o _ e n => u.free b o e n (by simp)) (fun b o _ e => u.there b o e (by simp)) u.tups u.frzs u.tbls (fun m' hm => by
    obtain ⟨o', es', ep', ho', r'⟩ := hm
    rw [ho] at ho'; cases ho'
    exact ⟨_, es', ep', hL, r'⟩) hok I.bare
theorem Inv.call {g' : Array GenState} {t' : Nat} {d' : Drawn} {ch : List Addr} (I : Inv X pins σ H s) (u : Un (frs X.stack) ch H H' s.heap h') (hok : HOk X.prog X.w X.K H' h') (hg : AllBare g')
    (hch : ∀ b ∈ ch, (b ∈ X.ex ∨ X.s₀.heap.objs.size ≤ b) ∧ b ≠ X.env.locals ∧ (∀ x c, X.env.cells.lookup x = some c → c ≠ b) ∧ ∀ p ∈ X.pn ++ pins, p.1 ≠ b) :
    Inv X pins σ H' { s with heap := h', gens := g', drawn := d', toks := t' } := by
  obtain ⟨m, ⟨o, es, ep, ho, r⟩, _⟩ := id I.loc
  obtain ⟨sl, hL⟩ := u.any ho I.free fun z => (hch _ z).2.1 rfl
  exact I.step (ch := ch) hch (fun b o hL hb hc e n => u.keep b o e n (fun z => (List.mem_cons.mp (I.stkSub b z)).elim hL hb) hc) (fun b o _ _ hc e n => u.any e n hc) (fun b o hc e n => u.free b o e n hc) (fun b o hc e => u.there b o e hc) u.tups u.frzs u.tbls (fun m' hm => by
    obtain ⟨o', es', ep', ho', r'⟩ := hm
    rw [ho] at ho'; cases ho'
    exact ⟨_, es', ep', hL, r'⟩) hok hg
theorem Inv.turned {t' : Nat} {it : Addr} (I : Inv X pins σ H s) (k : ∀ b o, b ≠ it → s.heap.get? b = some o → h'.get? b = some o) (hn : H it = none) (hL : it ≠ X.env.locals)
    (h1 : it ∈ X.ex ∨ X.s₀.heap.objs.size ≤ it) (h2 : ∀ x c, X.env.cells.lookup x = some c → c ≠ it) (h3 : ∀ p ∈ X.pn ++ pins, p.1 ≠ it) : Inv X pins σ H { s with heap := h', toks := t' } := by
  have nit : ∀ b u, H b = some u → b ≠ it := fun b u e z => by rw [z, hn] at e; cases e
  refine I.step (g' := s.gens) (d' := s.drawn) (ch := [it]) (fun b hb => ?_) (fun b o _ _ hc e _ => k b o (fun z => hc (by simp [z])) e) (fun b o _ _ hc e _ => ⟨o.slots, k b o (fun z => hc (by simp [z])) e⟩) (fun _ _ _ _ n => n)
    (fun b o hc e => ⟨o, k b o (fun z => hc (by simp [z])) e⟩) (fun _ _ e => e) (fun _ _ _ e => e) (fun b ps e => ⟨#[], by rw [e]; simp⟩) (fun m hm => ?_) (fun b u e => ?_) I.bare
  · have e : b = it := by simpa using hb
    subst e
    exact ⟨h1, hL, h2, h3⟩
  · obtain ⟨o, es, ep, ho, r⟩ := hm
    exact ⟨o, es, ep, k _ o (Ne.symm hL) ho, r⟩
  · refine (I.hok b u e).stay (fun c v hc q => k c v ?_ q) (fun _ q => q) fun _ _ q => q
    rcases hc with z | z
    · rw [z]; exact nit b u e
    · exact nit c _ z
theorem Inv.tok (I : Inv X pins σ H s) (t : Nat) : Inv X pins σ H { s with toks := t } := I.un (h' := s.heap) (t' := t) Un.refl I.hok
theorem Inv.kept {t' : Nat} (I : Inv X pins σ H s) (k : ∀ b u, s.heap.get? b = some u → h'.get? b = some u) : Inv X pins σ H { s with heap := h', toks := t' } := I.un (Un.kept k) (I.hok.kept k)
theorem Inv.laid {a : Addr} {o : HO} {t' : Nat} (I : Inv X pins σ H s) (k : ∀ b u, s.heap.get? b = some u → h'.get? b = some u) (hp : s.heap.objs.size ≤ a) (new : ObjOk X.prog X.w X.K (upd H a o) h' a o) :
    Inv X pins σ (upd H a o) { s with heap := h', toks := t' } := I.un (Un.laid k hp (I.hok.fresh hp)) (I.hok.laid k hp new)
theorem Inv.write {x e : Addr} {o : HO} {t' : Nat} (I : Inv X pins σ H s) (mu : Mut (H x)) (he : e = x ∨ H e = some (.own x)) (k : ∀ b u, b ≠ e → s.heap.get? b = some u → h'.get? b = some u) (heo : ∃ u, h'.get? e = some u)
    (new : ObjOk X.prog X.w X.K (upd H x o) h' x o) : Inv X pins σ (upd H x o) { s with heap := h', toks := t' } := I.un (Un.write mu he k heo) (I.hok.write mu he k heo new)
theorem Inv.weak {σ' : List (Option V)} (I : Inv X pins σ H s) (hl : σ'.length = σ.length) (w : ∀ (i : Nat) v, σ'[i]? = some (some v) → σ[i]? = some (some v)) : Inv X pins σ' H s :=
  ⟨I.ok, I.os, I.bare, I.base, let ⟨m, hn, hl'⟩ := I.loc; ⟨m, hn, fun i x v e1 e2 e3 => hl' i x v e1 (w i v e2) e3⟩, I.cell, I.free, I.freeC, I.pin, I.hok, hl.trans I.len⟩
theorem Inv.pins_of {pins' : List (Addr × Obj)} (I : Inv X pins σ H s) (h : ∀ p ∈ pins', s.heap.get? p.1 = some p.2 ∧ H p.1 = none ∧ p.1 ≠ X.env.locals ∧ p.1 ∉ X.fs ∧ ∀ v, p.2.data ≠ .cell v) : Inv X pins' σ H s :=
  ⟨I.ok, I.os, I.bare, I.base, I.loc, I.cell, I.free, I.freeC, fun p hp => (List.mem_append.mp hp).elim (fun z => I.pin p (List.mem_append_left _ z)) (h p), I.hok, I.len⟩
theorem nodup_ix {N : List Str} (hN : N.Nodup) {i j : Nat} {x : Str} (a : N[i]? = some x) (b : N[j]? = some x) : i = j := by
  obtain ⟨h1, e1⟩ := List.getElem?_eq_some_iff.mp a
  obtain ⟨h2, e2⟩ := List.getElem?_eq_some_iff.mp b
  exact (List.getElem_inj hN).mp (e1.trans e2.symm)
theorem store_ok2 {M : Model} {A : Around} {E : Value → Shared → Prop} {i : Nat} {x : Str} {v : V} {u : Value} {Q : Unit → Shared → Prop} (I : Inv X pins σ H s) (hN : X.N.Nodup) (hi : X.N[i]? = some x) (hx : Loc X.env.scope x) (r : RelV v u)
    (h : ∀ s', Inv X pins (σ.set i (some v)) H s' → (∃ a, Heap.SameBut a s.heap s'.heap ∧ (a = X.env.locals ∨ X.env.cells.lookup x = some a)) → Q () s') (hf : X.fn x = true ∨ X.env.scope.names.lookup x = some .local := by first | exact .inl rfl | exact .inr rfl | assumption) : wpAny M A (storeName X.env x u) Q E s := by
  obtain ⟨m, hn, hl⟩ := id I.loc
  have hcls : (X.env.scope.kind == .class || (X.env.scope.kind == .module && X.env.locals != X.env.globals)) = false := by rw [I.ok.kind]; rfl
  have hiσ : i < σ.length := by rw [I.len]; exact (List.getElem?_eq_some_iff.mp hi).1
  have cne := I.cne
  have tracked : ∀ {a : Addr} {h' : Heap}, (∃ o, s.heap.get? a = some o ∧ H a = none) → Heap.SameBut a s.heap h' → HOk X.prog X.w X.K H h' := fun {a h'} ha hs b ob e => by
    obtain ⟨_, _, hfree⟩ := ha
    refine (I.hok b ob e).stay (fun c w' hc q => (hs.2 c ?_).trans q) (fun _ q => q) fun _ _ q => q
    rintro rfl
    rcases hc with rfl | hc
    · rw [hfree] at e; cases e
    · rw [hfree] at hc; cases hc
  rcases hx with hk | hk
  · refine wpAny_storeName_local hk hn (fun h' hn' hs => ?_) hcls
    obtain ⟨oL, _, _, hoL, _⟩ := id hn
    refine h _ ⟨I.ok, I.os, I.bare, ⟨fun b o e n hb hx => ?_, fun b o e n hb hx => ?_, I.base.free, fun b o e hx => ?_, I.base.tups, I.base.frzs, I.base.tbls⟩, ⟨_, hn', fun j y v' e1 e2 e3 => ?_⟩, fun y c e => ?_, I.free, I.freeC, fun p hp => ?_, tracked ⟨oL, hoL, I.free⟩ hs, by simpa using I.len⟩ ⟨_, hs, .inl rfl⟩
    · exact (hs.2 b (Nat.ne_of_lt (Nat.lt_of_lt_of_le (Heap.lt_size e) I.ok.above))).trans (I.base.keep b o e n hb hx)
    · obtain ⟨sl, e1⟩ := I.base.slot b o e n hb hx
      exact ⟨sl, (hs.2 b (Nat.ne_of_lt (Nat.lt_of_lt_of_le (Heap.lt_size e) I.ok.above))).trans e1⟩
    · obtain ⟨o', e1⟩ := I.base.there b o e hx
      exact ⟨o', (hs.2 b (Nat.ne_of_lt (Nat.lt_of_lt_of_le (Heap.lt_size e) I.ok.above))).trans e1⟩
    · by_cases hj : j = i
      · subst hj
        rw [hi] at e1; cases e1
        rw [List.getElem?_set_self hiσ] at e2
        cases e2
        exact ⟨u, r, .inl ⟨hk, by simp⟩⟩
      · rw [List.getElem?_set_ne (Ne.symm hj)] at e2
        obtain ⟨u', r', q⟩ := hl j y v' e1 e2 e3
        refine ⟨u', r', ?_⟩
        rcases q with ⟨k, e⟩ | ⟨k, c, e, z⟩
        · refine .inl ⟨k, ?_⟩
          have : y ≠ x := fun e => hj (nodup_ix hN e1 (e ▸ hi))
          simp [this, e]
        · exact .inr ⟨k, c, e, z.sameBut hs (cne y c e)⟩
    · obtain ⟨w', z⟩ := I.cell y c e
      exact ⟨w', z.sameBut hs (cne y c e)⟩
    · obtain ⟨e, n, ne, nf, d⟩ := I.pin p hp
      exact ⟨(hs.2 p.1 ne).trans e, n, ne, nf, d⟩
  · have hfn : X.fn x = true := by
      rcases hf with z | z
      · exact z
      · rw [z] at hk; cases hk
    obtain ⟨c, hc⟩ := I.ok.has x (.inl hk)
    obtain ⟨w', z⟩ := I.cell x c hc
    refine wpAny_storeName_cell I.ok.kind hk hc z (fun h' hc' hs => ?_)
    obtain ⟨oc, hoc, hocd⟩ := id z
    refine h { s with heap := h' } ⟨I.ok, I.os, I.bare, ⟨fun b o e n hb hx => ?_, fun b o e n hb hx => ?_, I.base.free, fun b o e hx => ?_, I.base.tups, I.base.frzs, I.base.tbls⟩, ⟨m, hn.sameBut hs (Ne.symm (cne x c hc)), fun j y v' e1 e2 e3 => ?_⟩, fun y c' e => ?_, I.free, I.freeC, fun p hp => ?_, tracked ⟨oc, hoc, I.freeC x c hc⟩ hs, by simpa using I.len⟩ ⟨c, hs, .inr hc⟩
    · exact (hs.2 b (Nat.ne_of_lt (Nat.lt_of_lt_of_le (Heap.lt_size e) (I.ok.cab x c hfn hc)))).trans (I.base.keep b o e n hb hx)
    · obtain ⟨sl, e1⟩ := I.base.slot b o e n hb hx
      exact ⟨sl, (hs.2 b (Nat.ne_of_lt (Nat.lt_of_lt_of_le (Heap.lt_size e) (I.ok.cab x c hfn hc)))).trans e1⟩
    · obtain ⟨o', e1⟩ := I.base.there b o e hx
      exact ⟨o', (hs.2 b (Nat.ne_of_lt (Nat.lt_of_lt_of_le (Heap.lt_size e) (I.ok.cab x c hfn hc)))).trans e1⟩
    · by_cases hj : j = i
      · subst hj
        rw [hi] at e1; cases e1
        rw [List.getElem?_set_self hiσ] at e2
        cases e2
        exact ⟨u, r, .inr ⟨.inl hk, c, hc, hc'⟩⟩
      · rw [List.getElem?_set_ne (Ne.symm hj)] at e2
        obtain ⟨u', r', q⟩ := hl j y v' e1 e2 e3
        refine ⟨u', r', ?_⟩
        rcases q with q | ⟨k, c', e, z'⟩
        · exact .inl q
        · refine .inr ⟨k, c', e, z'.sameBut hs ?_⟩
          rintro rfl
          exact hj (nodup_ix hN e1 (I.ok.inj _ _ _ e hc ▸ hi))
    · by_cases hcc : c' = c
      · subst hcc; exact ⟨_, hc'⟩
      · obtain ⟨w2, z2⟩ := I.cell y c' e
        exact ⟨w2, z2.sameBut hs hcc⟩
    · obtain ⟨e, n, ne, nf, d⟩ := I.pin p hp
      refine ⟨(hs.2 p.1 ?_).trans e, n, ne, nf, d⟩
      intro q
      rw [q, hoc] at e
      have q' : oc = p.2 := Option.some.inj e
      exact d w' (by rw [← q']; exact hocd)
theorem store_ok {M : Model} {A : Around} {E : Value → Shared → Prop} {i : Nat} {x : Str} {v : V} {u : Value} {Q : Unit → Shared → Prop} (I : Inv X pins σ H s) (hN : X.N.Nodup) (hi : X.N[i]? = some x) (hx : Loc X.env.scope x) (r : RelV v u)
    (h : ∀ s', Inv X pins (σ.set i (some v)) H s' → Q () s') (hf : X.fn x = true ∨ X.env.scope.names.lookup x = some .local := by first | exact .inl rfl | exact .inr rfl | assumption) : wpAny M A (storeName X.env x u) Q E s :=
  store_ok2 I hN hi hx r (fun s' I' _ => h s' I') hf
theorem Inv.call' {s' : Shared} {ch : List Addr} (I : Inv X pins σ H s) (ho : s'.os = s.os) (u : Un (frs X.stack) ch H H' s.heap s'.heap) (hok : HOk X.prog X.w X.K H' s'.heap) (hg : AllBare s'.gens)
    (hch : ∀ b ∈ ch, (b ∈ X.ex ∨ X.s₀.heap.objs.size ≤ b) ∧ b ≠ X.env.locals ∧ (∀ x c, X.env.cells.lookup x = some c → c ≠ b) ∧ ∀ p ∈ X.pn ++ pins, p.1 ≠ b) : Inv X pins σ H' s' := by
  obtain ⟨h', g', d', t', o'⟩ := s'
  have e : o' = s.os := ho
  subst e
  exact I.call (g' := g') (t' := t') (d' := d') u hok hg hch
end
abbrev XK := Value → Option Addr → Hp → Prop
abbrev St := List (Option V)
abbrev VK := V → Hp → Prop
abbrev TE := St → Hp → VK → Prop
abbrev TT := St → Hp → (Bool → Hp → Prop) → Prop
abbrev TA := St → Hp → (List V → Hp → Prop) → Prop
structure Ends where
  nx : St → Hp → Prop
  rt : VK
  bk : St → Hp → Prop := fun _ _ => False
  ct : St → Hp → Prop := fun _ _ => False
abbrev TS := Ends → St → Hp → Prop
def EP (X : Cx) (pins : List (Addr × Obj)) (σ : St) (Q : VK) (u : Value) (s' : Shared) : Prop := ∃ v H', Inv X pins σ H' s' ∧ RelV v u ∧ Q v H'
def TP (X : Cx) (pins : List (Addr × Obj)) (σ : St) (Q : Bool → Hp → Prop) (b : Bool) (s' : Shared) : Prop := ∃ H', Inv X pins σ H' s' ∧ Q b H'
def AP (X : Cx) (pins : List (Addr × Obj)) (σ : St) (Q : List V → Hp → Prop) (us : List Value) (s' : Shared) : Prop := ∃ vs H', Inv X pins σ H' s' ∧ Vals vs us ∧ Q vs H'
def SP (X : Cx) (pins : List (Addr × Obj)) (D : Ends) (f : Flow) (s' : Shared) : Prop :=
  match f with
  | .next => ∃ σ' H', Inv X pins σ' H' s' ∧ D.nx σ' H'
  | .brk => ∃ σ' H', Inv X pins σ' H' s' ∧ D.bk σ' H'
  | .cont => ∃ σ' H', Inv X pins σ' H' s' ∧ D.ct σ' H'
  | .ret u => ∃ v σ' H', Inv X pins σ' H' s' ∧ RelV v u ∧ D.rt v H'
def PE (X : Cx) (e : Expr) (t : TE) : Prop :=
  ∀ (pins : List (Addr × Obj)) (s : Shared) (σ : St) (H : Hp) (Q : VK), Inv X pins σ H s → t σ H Q → wpAny (model X.prog X.w) X.A (eval e X.env) (EP X pins σ Q) X.xe s
def PT (X : Cx) (e : Expr) (t : TT) : Prop :=
  ∀ (pins : List (Addr × Obj)) (s : Shared) (σ : St) (H : Hp) (Q : Bool → Hp → Prop), Inv X pins σ H s → t σ H Q → wpAny (model X.prog X.w) X.A (isTrue e X.env (eval e X.env)) (TP X pins σ Q) X.xe s
def PW (X : Cx) (e : Expr) (t : TT) : Prop :=
  ∀ (whole : Sem Value) (pins : List (Addr × Obj)) (s : Shared) (σ : St) (H : Hp) (Q : Bool → Hp → Prop), Inv X pins σ H s → t σ H Q → wpAny (model X.prog X.w) X.A (isTrue e X.env whole) (TP X pins σ Q) X.xe s
theorem PW.pt {X : Cx} {e : Expr} {t : TT} (h : PW X e t) : PT X e t := h _
def PA (X : Cx) (es : List Expr) (t : TA) : Prop :=
  ∀ (pos : Pos) (pins : List (Addr × Obj)) (s : Shared) (σ : St) (H : Hp) (Q : List V → Hp → Prop), Inv X pins σ H s → t σ H Q → wpAny (model X.prog X.w) X.A (spliced (backTo pos (starEach es X.env))) (AP X pins σ Q) X.xe s
def PS (X : Cx) (st : Stmt) (t : TS) : Prop :=
  ∀ (pins : List (Addr × Obj)) (s : Shared) (σ : St) (H : Hp) (D : Ends), Inv X pins σ H s → t D σ H → wpAny (model X.prog X.w) X.A (exec st X.env) (SP X pins D) X.xe s
def PSs (X : Cx) (st : List Stmt) (t : TS) : Prop :=
  ∀ (pins : List (Addr × Obj)) (s : Shared) (σ : St) (H : Hp) (D : Ends), Inv X pins σ H s → t D σ H → wpAny (model X.prog X.w) X.A (execs st X.env) (SP X pins D) X.xe s
theorem thn {α : Type} {t : Sem α} {Q Q' : α → Shared → Prop} {M : Model} {A : Around} {E : Value → Shared → Prop} {s : Shared} (h : wpAny M A t Q E s) (hQ : ∀ a s, Q a s → Q' a s) : wpAny M A t Q' E s := wpAny_mono h hQ fun _ _ x => x
end L2
namespace L2
open PySem PySem.Spec PyProof.Rows
section
variable {X : Cx}
def tVar (i : Nat) : TE := fun σ H Q => ∃ v, σ[i]? = some (some v) ∧ Q v H
def tC (v : V) : TE := fun _ H Q => Q v H
theorem pe_var {i : Nat} {x : Str} {pos : Pos} (hN : X.N[i]? = some x) (hv : Vis X.env.scope x) (hd : (x == ("__debug__" : Str)) = false := by decide) (hcd : (x == ("__classdict__" : Str)) = false := by decide) : PE X (.Name x pos) (tVar i) := by
  intro pins s σ H Q I h
  obtain ⟨v, e, h⟩ := h
  obtain ⟨m, hn, hl⟩ := I.loc
  obtain ⟨u, r, l⟩ := hl i x v hN e hv
  have fin : EP X pins σ Q u s := ⟨v, H, I, r, h⟩
  rcases l with ⟨hk, hm⟩ | ⟨hk, c, hc, hcell⟩
  · exact wpAny_Name (wpAny_loadName_local I.ok.kind hk hn hm fin) hd
  · rcases hk with hk | hk
    · exact wpAny_Name (wpAny_loadName_cell I.ok.kind hk hc hcell fin) hd
    · exact wpAny_Name (wpAny_loadName_free I.ok.kind hk hc hcell fin hcd) hd
theorem pe_int {i j pos} : PE X (.Constant (.int i) j pos) (tC (.int i)) := fun _ _ _ H _ I h => wpAny_Constant_int ⟨.int i, H, I.tok _, ⟨_, rfl⟩, h⟩
theorem pe_bl {b j pos} : PE X (.Constant (.bool b) j pos) (tC (.bl b)) := fun _ _ _ H _ I h => Constant_bool ⟨.bl b, H, I, rfl, h⟩
theorem pe_non {j pos} : PE X (.Constant .none j pos) (tC .non) := fun _ _ _ H _ I h => Constant_none ⟨.non, H, I, rfl, h⟩
theorem pe_str {x j pos} : PE X (.Constant (.str x) j pos) (tC (.str x)) := fun _ _ _ H _ I h => Calls.Constant_str ⟨.str x, H, I.tok _, ⟨_, rfl⟩, h⟩
def Gl (X : Cx) (x : Str) : Prop := X.env.kindOf x = some .globalImplicit
theorem ld_glob {E : Value → Shared → Prop} {pins : List (Addr × Obj)} {s : Shared} {σ : St} {H : Hp} {x : Str} {u : Value} {pos : Pos} {Q : Value → Shared → Prop} (I : Inv X pins σ H s) (hg : Gl X x) (hm : X.mg x = some u) (h : Q u s)
    (hd : (x == ("__debug__" : Str)) = false := by decide) : wpAny (model X.prog X.w) X.A (eval (.Name x pos) X.env) Q E s :=
  Calls.Name_function_global I.ok.kind hg (Calls.loadGlobal_global (by rw [I.ok.glob]; exact I.mod.glob.keeps I.bk) hm h) hd
theorem ld_blt {E : Value → Shared → Prop} {pins : List (Addr × Obj)} {s : Shared} {σ : St} {H : Hp} {x : Str} {u : Value} {pos : Pos} {Q : Value → Shared → Prop} (I : Inv X pins σ H s) (hg : Gl X x) (hm : X.mg x = none) (hv : bootBuiltins x = some u) (h : Q u s)
    (hn : x ≠ "__name__" := by decide) (hd : (x == ("__debug__" : Str)) = false := by decide) : wpAny (model X.prog X.w) X.A (eval (.Name x pos) X.env) Q E s := by
  obtain ⟨mb, h1, h2⟩ := I.mod.blt
  exact Calls.Name_function_global I.ok.kind hg (Calls.loadGlobal_builtin (by rw [I.ok.glob]; exact I.mod.glob.keeps I.bk) hm (by rw [I.ok.blt]; exact h1.keeps I.bk) ((h2 x hn).trans hv) h) hd
theorem pe_glob {x : Str} {v : V} {u : Value} {pos : Pos} (hg : Gl X x) (hm : X.mg x = some u) (r : RelV v u) (hd : (x == ("__debug__" : Str)) = false := by decide) : PE X (.Name x pos) (tC v) :=
  fun _ _ _ H _ I h => ld_glob I hg hm ⟨v, H, I, r, h⟩ hd
theorem pe_bltn {x : Str} {v : V} {u : Value} {pos : Pos} (hg : Gl X x) (hm : X.mg x = none) (hv : bootBuiltins x = some u) (r : RelV v u) (hn : x ≠ "__name__" := by decide) (hd : (x == ("__debug__" : Str)) = false := by decide) : PE X (.Name x pos) (tC v) :=
  fun _ _ _ H _ I h => ld_blt I hg hm hv ⟨v, H, I, r, h⟩ hn hd
variable {a b : Expr} {ta tb : TE} {pos : Pos}
def PC (X : Cx) (op : CmpOp) (a b : Expr) (t : TE) : Prop :=
  ∀ (pins : List (Addr × Obj)) (s : Shared) (σ : St) (H : Hp) (Q : VK), Inv X pins σ H s → t σ H Q →
    wpAny (model X.prog X.w) X.A (eval a X.env) (fun v s₁ => wpAny (model X.prog X.w) X.A (eval b X.env) (fun u s₂ => wpAny (model X.prog X.w) X.A (compareOp op v u) (EP X pins σ Q) X.xe s₂) X.xe s₁) X.xe s
theorem nobehind (b : Expr) {op : CmpOp} (h : op ≠ .In) (h2 : op ≠ .NotIn) : behindInMarks op b = false := by
  have e1 : (op == CmpOp.In) = false := by cases op <;> first | rfl | exact absurd rfl h
  have e2 : (op == CmpOp.NotIn) = false := by cases op <;> first | rfl | exact absurd rfl h2
  cases b <;> simp [behindInMarks, e1, e2]
def tIsN (ta : TE) : TE := fun σ H Q => ta σ H fun x H1 => Q (.bl (decide (x = .non))) H1
theorem RelV.none_iff {x : V} {v : Value} (r : RelV x v) : (v == Value.none) = decide (x = .non) := by
  cases x with
  | non => cases r; rfl
  | bl _ => cases r; rfl
  | int _ => obtain ⟨t, rfl⟩ := r; rfl
  | str _ => obtain ⟨t, rfl⟩ := r; rfl
  | byt _ => obtain ⟨t, rfl⟩ := r; rfl
  | flt _ => obtain ⟨t, rfl⟩ := r; rfl
  | ref _ => cases r; rfl
  | ty _ => cases r; rfl
theorem pc_isN {j pos'} (ha : PE X a ta) : PC X .Is a (.Constant .none j pos') (tIsN ta) := by
  intro pins s σ H Q I h
  refine thn (ha pins s σ H _ I h) fun v s1 ⟨x, H1, I1, r1, q1⟩ => ?_
  exact Constant_none (is_none_gen ⟨.bl _, H1, I1, by rw [r1.none_iff]; rfl, q1⟩)
def tB (t : TE) : TT := fun σ H Q => t σ H fun x H1 => ∃ c, x = .bl c ∧ Q c H1
theorem pt_cmp {op : CmpOp} {t : TE} (h : PC X op a b t) (h1 : behindInMarks op b = false := by first | exact nobehind _ (by decide) (by decide) | rfl) : PT X (.Compare a [op] [b] pos) (tB t) := by
  intro pins s σ H Q I hw
  refine wpAny_isTrue_Compare1 (thn (h pins s σ H _ I hw) fun v s1 h1 => thn h1 fun u s2 h2 => thn h2 fun c s3 ⟨x, H1, I1, r1, q1⟩ => ?_) h1
  obtain ⟨d, rfl, q⟩ := q1
  cases r1
  exact wpAny_truthy_bool ⟨H1, I1, q⟩
theorem pt_val {e : Expr} {t : TE} (h : PE X e t) (he : ∀ whole, isTrue e X.env whole = (do let v ← whole; standAt e.pos; holding [v] (truthy v)) := by intro _; rfl) : PT X e (tB t) := by
  intro pins s σ H Q I hw
  refine isTrue_plain (thn (h pins s σ H _ I hw) fun v s1 ⟨x, H1, I1, r1, q1⟩ => ?_) (he _)
  obtain ⟨d, rfl, q⟩ := q1
  cases r1
  exact wpAny_truthy_bool ⟨H1, I1, q⟩
variable {tA tB' : TT} {rest : List Expr}
def tAnd (t u : TT) : TT := fun σ H Q => t σ H fun c H1 => if c = true then u σ H1 Q else Q false H1
def tOr (t u : TT) : TT := fun σ H Q => t σ H fun c H1 => if c = true then Q true H1 else u σ H1 Q
def tNot (t : TT) : TT := fun σ H Q => t σ H fun c H1 => Q (!c) H1
theorem pw_and1 (ha : PT X a tA) : PW X (.BoolOp .And [a] pos) tA := by
  intro wh pins s σ H Q I h
  refine isTrue_and (thn (ha pins s σ H Q I h) fun c s1 e => ?_)
  cases c with
  | true => exact isTrue_and_nil e
  | false => exact e
theorem pw_or1 (ha : PT X a tA) : PW X (.BoolOp .Or [a] pos) tA := by
  intro wh pins s σ H Q I h
  refine isTrue_or (thn (ha pins s σ H Q I h) fun c s1 e => ?_)
  cases c with
  | false => exact isTrue_or_nil e
  | true => exact e
theorem pw_and (ha : PT X a tA) (hb : PW X (.BoolOp .And (b :: rest) pos) tB') : PW X (.BoolOp .And (a :: b :: rest) pos) (tAnd tA tB') := by
  intro wh pins s σ H Q I h
  refine isTrue_and (thn (ha pins s σ H _ I h) fun c s1 ⟨H1, I1, q1⟩ => ?_)
  cases c with
  | true => exact hb wh pins s1 σ H1 Q I1 q1
  | false => exact ⟨H1, I1, q1⟩
theorem pw_or (ha : PT X a tA) (hb : PW X (.BoolOp .Or (b :: rest) pos) tB') : PW X (.BoolOp .Or (a :: b :: rest) pos) (tOr tA tB') := by
  intro wh pins s σ H Q I h
  refine isTrue_or (thn (ha pins s σ H _ I h) fun c s1 ⟨H1, I1, q1⟩ => ?_)
  cases c with
  | true => exact ⟨H1, I1, q1⟩
  | false => exact hb wh pins s1 σ H1 Q I1 q1
theorem pt_not (ha : PT X a tA) : PT X (.UnaryOp .Not a pos) (tNot tA) := by
  intro pins s σ H Q I h
  exact isTrue_not (ha pins s σ H (fun c H1 => Q (!c) H1) I h)
def tAndV (ta tb : TE) : TE := fun σ H Q => ta σ H fun x H1 => ∃ c, x = .bl c ∧ if c = true then tb σ H1 Q else Q (.bl false) H1
theorem pe_one {op} {t : TE} (h : PE X a t) : PE X (.BoolOp op [a] pos) t := fun pins s σ H Q I hw => BoolOp_one (h pins s σ H Q I hw)
theorem pe_and (ha : PE X a ta) (hb : PE X (.BoolOp .And (b :: rest) pos) tb) : PE X (.BoolOp .And (a :: b :: rest) pos) (tAndV ta tb) := by
  intro pins s σ H Q I h
  refine BoolOp_and (thn (ha pins s σ H _ I h) fun v s1 ⟨x, H1, I1, r1, q1⟩ => ?_)
  obtain ⟨c, rfl, q1⟩ := q1
  cases r1
  refine wpAny_truthy_bool ?_
  cases c with
  | true => exact hb pins s1 σ H1 Q I1 q1
  | false => exact ⟨.bl false, H1, I1, rfl, q1⟩
end
end L2
namespace L2
open PySem PySem.Spec PyProof.Rows
def SqL (K : PySem.W.Frag) (H : Hp) (a : Addr) (xs : List V) : Prop :=
  Rd H a (.lst xs) ∨
    ∃ (o : Obj) (its : Array Value) (n : Nat), K.lookup a = some o ∧ o.cls = .type "list" ∧ o.dict = none ∧ o.data = .seq its n ∧ its.size ≤ sizeLine ∧ Vals xs its.toList
def SqT (K : PySem.W.Frag) (H : Hp) (a : Addr) (xs : List V) : Prop :=
  Rd H a (.tup xs) ∨
    ∃ (o : Obj) (its : Array Value) (n : Nat), K.lookup a = some o ∧ o.cls = .type "tuple" ∧ o.data = .seq its n ∧ its.size ≤ sizeLine ∧ Vals xs its.toList
def absV : Value → Option V
  | .none => some .non
  | .bool b => some (.bl b)
  | .int i _ => some (.int i)
  | .str x _ => some (.str x)
  | .bytes b _ => some (.byt b)
  | .float b _ => some (.flt b)
  | .ref a => some (.ref a)
  | .type n => some (.ty n)
  | _ => none
theorem RelV.abs {x : V} {u : Value} (r : RelV x u) : absV u = some x := by
  cases x with
  | non => cases r; rfl
  | bl _ => cases r; rfl
  | int _ => obtain ⟨t, rfl⟩ := r; rfl
  | str _ => obtain ⟨t, rfl⟩ := r; rfl
  | byt _ => obtain ⟨t, rfl⟩ := r; rfl
  | flt _ => obtain ⟨t, rfl⟩ := r; rfl
  | ref _ => cases r; rfl
  | ty _ => cases r; rfl
theorem RelV.inj {x y : V} {u : Value} (r : RelV x u) (q : RelV y u) : x = y := Option.some.inj (r.abs.symm.trans q.abs)
theorem Vals.inj : ∀ {xs ys : List V} {us : List Value}, Vals xs us → Vals ys us → xs = ys
  | _, _, _, .nil, .nil => rfl
  | _, _, _, .cons r t, .cons r' t' => by rw [r.inj r', Vals.inj t t']
section
variable {X : Cx} {pins : List (Addr × Obj)} {σ : St} {H : Hp} {s : Shared} {a : Addr} {xs ys : List V}
theorem SqL.of {K : PySem.W.Frag} (h : H a = some (.lst xs)) : SqL K H a xs := .inl (.inl h)
theorem SqT.of {K : PySem.W.Frag} (h : H a = some (.tup xs)) : SqT K H a xs := .inl (.inl h)
theorem Inv.list (I : Inv X pins σ H s) (h : SqL X.K H a xs) : ∃ its : List Value, Vals xs its ∧ PlainL s.heap a its.toArray ∧ xs.length ≤ sizeLine := by
  rcases h with h | ⟨o, its, n, hk, hc, hd, hs, hz, r⟩
  · obtain ⟨z, its, n, r, e⟩ := h.ok I.hok
    exact ⟨its, r, ⟨_, n, e, rfl, rfl, rfl⟩, z⟩
  · refine ⟨its.toList, r, ⟨o, n, I.kIn a o hk, hc, hd, by simpa using hs⟩, ?_⟩
    have e := r.length
    simp only [Array.length_toList] at e
    omega
theorem Inv.tuple (I : Inv X pins σ H s) (h : SqT X.K H a xs) : ∃ its : List Value, Vals xs its ∧ IsTup s.heap a its.toArray ∧ xs.length ≤ sizeLine := by
  rcases h with h | ⟨o, its, n, hk, hc, hs, hz, r⟩
  · obtain ⟨z, its, r, p⟩ := h.ok I.hok
    exact ⟨its, r, p, z⟩
  · refine ⟨its.toList, r, ⟨o, I.kIn a o hk, hc, n, by simpa using hs⟩, ?_⟩
    have e := r.length
    simp only [Array.length_toList] at e
    omega
theorem Inv.list_inj (I : Inv X pins σ H s) (h : SqL X.K H a xs) (h' : SqL X.K H a ys) : xs = ys := by
  obtain ⟨its, r, ⟨o, n, e, _, _, d⟩, _⟩ := I.list h
  obtain ⟨its', r', ⟨o', n', e', _, _, d'⟩, _⟩ := I.list h'
  rw [e] at e'; cases e'
  rw [d] at d'
  injection d' with d1 _
  have : its = its' := by simpa using congrArg Array.toList d1
  subst this
  exact r.inj r'
theorem Inv.tuple_inj (I : Inv X pins σ H s) (h : SqT X.K H a xs) (h' : SqT X.K H a ys) : xs = ys := by
  obtain ⟨its, r, ⟨o, e, _, n, d⟩, _⟩ := I.tuple h
  obtain ⟨its', r', ⟨o', e', _, n', d'⟩, _⟩ := I.tuple h'
  rw [e] at e'; cases e'
  rw [d] at d'
  injection d' with d1 _
  have : its = its' := by simpa using congrArg Array.toList d1
  subst this
  exact r.inj r'
end
abbrev Cx.wish (X : Cx) (E : Value → Shared → Prop) : Cx := { X with xe := E }
abbrev Cx.nox (X : Cx) : Cx := X.wish fun _ _ => False
theorem Cx.Ok.wish {X : Cx} (ok : X.Ok) (E : Value → Shared → Prop) : (X.wish E).Ok :=
  ⟨ok.mod, ok.kind, ok.glob, ok.blt, ok.above, ok.inj, ok.has, ok.cab, ok.hd, ok.frames, ok.stk, ok.exf, ok.bs, ok.bsz, ok.noex, ok.exfs, ok.funs, ok.frf⟩
theorem Cx.Ok.unwish {X : Cx} {E : Value → Shared → Prop} (ok : (X.wish E).Ok) : X.Ok :=
  ⟨ok.mod, ok.kind, ok.glob, ok.blt, ok.above, ok.inj, ok.has, ok.cab, ok.hd, ok.frames, ok.stk, ok.exf, ok.bs, ok.bsz, ok.noex, ok.exfs, ok.funs, ok.frf⟩
section
variable {X : Cx} {pins : List (Addr × Obj)} {σ : St} {H : Hp} {s : Shared} {E : Value → Shared → Prop}
theorem Inv.wish (I : Inv X pins σ H s) (E : Value → Shared → Prop) : Inv (X.wish E) pins σ H s := ⟨I.ok.wish E, I.os, I.bare, I.base, I.loc, I.cell, I.free, I.freeC, I.pin, I.hok, I.len⟩
theorem Inv.unwish (I : Inv (X.wish E) pins σ H s) : Inv X pins σ H s := ⟨I.ok.unwish, I.os, I.bare, I.base, I.loc, I.cell, I.free, I.freeC, I.pin, I.hok, I.len⟩
theorem SP.unwish {D : Ends} {f : Flow} {s' : Shared} (h : SP (X.wish E) pins D f s') : SP X pins D f s' := by
  cases f with
  | next => obtain ⟨σ', H', I, q⟩ := h; exact ⟨σ', H', I.unwish, q⟩
  | brk => obtain ⟨σ', H', I, q⟩ := h; exact ⟨σ', H', I.unwish, q⟩
  | cont => obtain ⟨σ', H', I, q⟩ := h; exact ⟨σ', H', I.unwish, q⟩
  | ret u => obtain ⟨v, σ', H', I, r, q⟩ := h; exact ⟨v, σ', H', I.unwish, r, q⟩
theorem PE.nox {e : Expr} {t : TE} (h : PE X.nox e t) : PE X e t := fun pins s σ H Q I hw =>
  wpAny_mono (h pins s σ H Q (I.wish _) hw) (fun _ _ ⟨v, H', I', r, q⟩ => ⟨v, H', I'.unwish, r, q⟩) fun _ _ z => False.elim z
theorem PT.nox {e : Expr} {t : TT} (h : PT X.nox e t) : PT X e t := fun pins s σ H Q I hw =>
  wpAny_mono (h pins s σ H Q (I.wish _) hw) (fun _ _ ⟨H', I', q⟩ => ⟨H', I'.unwish, q⟩) fun _ _ z => False.elim z
theorem PSs.nox {st : List Stmt} {t : TS} (h : PSs X.nox st t) : PSs X st t := fun pins s σ H D I hw =>
  wpAny_mono (h pins s σ H D (I.wish _) hw) (fun _ _ q => q.unwish) fun _ _ z => False.elim z
end
section
variable {X : Cx} {st : Stmt} {rest : List Stmt} {t u : TS} {e : Expr} {te : TE} {pos : Pos}
def tNext : TS := fun D σ H => D.nx σ H
def tSeq (t u : TS) : TS := fun D σ H => t { D with nx := u D } σ H
theorem pss_nil : PSs X [] tNext := fun _ _ σ H _ I h => wpAny_execs_nil ⟨σ, H, I, h⟩
theorem pss_cons (h1 : PS X st t) (h2 : PSs X rest u) : PSs X (st :: rest) (tSeq t u) := by
  intro pins s σ H D I h
  refine wpAny_execs_cons (thn (h1 pins s σ H { D with nx := u D } I h) fun f s1 q => ?_)
  cases f with
  | next =>
    obtain ⟨σ', H', I', q⟩ := q
    exact h2 pins s1 σ' H' D I' q
  | ret v => exact q
  | brk => exact q
  | cont => exact q
theorem pss_one (h1 : PS X st t) : PSs X [st] t := by
  intro pins s σ H D I h
  refine wpAny_execs_cons (thn (h1 pins s σ H D I h) fun f s1 q => ?_)
  cases f with
  | next => exact wpAny_execs_nil q
  | ret v => exact q
  | brk => exact q
  | cont => exact q
theorem Inv.quiet {pins : List (Addr × Obj)} {σ : St} {H : Hp} {s : Shared} (I : Inv X pins σ H s) : interactive X.env = false := by simp [interactive, I.ok.kind]
def tDrop (te : TE) : TS := fun D σ H => te σ H fun _ H1 => D.nx σ H1
theorem ps_expr (he : PE X e te) (hs : swapsWith e none pos.line X.env = pure false := by rfl) : PS X (.Expr e pos) (tDrop te) := by
  intro pins s σ H D I h
  exact wpAny_Expr_any (thn (he pins s σ H _ I h) fun v s1 ⟨x, H1, I1, r1, q1⟩ => ⟨σ, H1, I1, q1⟩) I.quiet hs
def tRet (te : TE) : TS := fun D σ H => te σ H D.rt
theorem ps_ret (he : PE X e te) : PS X (.Return (some e) pos) (tRet te) := by
  intro pins s σ H D I h
  exact wpAny_Return_some (thn (he pins s σ H _ I h) fun v s1 ⟨x, H1, I1, r1, q1⟩ => ⟨x, σ, H1, I1, r1, q1⟩)
def tIfS (c : TT) (t u : TS) : TS := fun D σ H => c σ H fun b H1 => if b = true then t D σ H1 else u D σ H1
theorem ps_if {c : Expr} {a b : List Stmt} {tc : TT} (hc : PT X c tc) (ha : PSs X a t) (hb : PSs X b u) : PS X (.If c a b pos) (tIfS tc t u) := by
  intro pins s σ H D I h
  refine wpAny_If (thn (hc pins s σ H _ I h) fun d s1 ⟨H1, I1, q1⟩ => ?_)
  cases d with
  | true => exact ha pins s1 σ H1 D I1 q1
  | false => exact hb pins s1 σ H1 D I1 q1
def tNever : TS := fun _ _ _ => False
theorem ps_never : PS X st tNever := fun _ _ _ _ _ _ h => h.elim
theorem pss_never {sts : List Stmt} : PSs X sts tNever := fun _ _ _ _ _ _ h => h.elim
end
abbrev TG := V → St → Hp → (St → Hp → Prop) → Prop
abbrev TGs := List V → St → Hp → (St → Hp → Prop) → Prop
def PG (X : Cx) (target : Expr) (t : TG) : Prop :=
  ∀ (pins : List (Addr × Obj)) (s : Shared) (σ : St) (H : Hp) (v : V) (u : Value) (Q : St → Hp → Prop), Inv X pins σ H s → RelV v u → t v σ H Q →
    wpAny (model X.prog X.w) X.A (assign target X.env u) (fun _ s' => ∃ σ' H', Inv X pins σ' H' s' ∧ Q σ' H') X.xe s
def PGs (X : Cx) (ts : List Expr) (t : TGs) : Prop :=
  ∀ (pins : List (Addr × Obj)) (s : Shared) (σ : St) (H : Hp) (vs : List V) (us : List Value) (Q : St → Hp → Prop), Inv X pins σ H s → Vals vs us → t vs σ H Q →
    wpAny (model X.prog X.w) X.A (assignInOrder ((assignEach ts X.env).map (·.2)) us) (fun _ s' => ∃ σ' H', Inv X pins σ' H' s' ∧ Q σ' H') X.xe s
abbrev TSet := V → V → V → Hp → (Hp → Prop) → Prop
def PSet (X : Cx) (t : TSet) : Prop :=
  ∀ (pins : List (Addr × Obj)) (s : Shared) (σ : St) (H : Hp) (o i v : V) (ov iv u : Value) (Q : Hp → Prop), Inv X pins σ H s → RelV o ov → RelV i iv → RelV v u → t o i v H Q →
    wpAny (model X.prog X.w) X.A (setItem ov iv u) (fun _ s' => ∃ H', Inv X pins σ H' s' ∧ Q H') X.xe s
section
variable {X : Cx} {pos : Pos}
def gName (i : Nat) : TG := fun v σ H Q => Q (σ.set i (some v)) H
theorem pg_name {i : Nat} {x : Str} (hN : X.N.Nodup) (hi : X.N[i]? = some x) (hx : Loc X.env.scope x) (hf : X.fn x = true ∨ X.env.scope.names.lookup x = some .local := by first | exact .inl rfl | exact .inr rfl | assumption) : PG X (.Name x pos) (gName i) := by
  intro pins s σ H v u Q I r h
  exact wpAny_assign_Name (store_ok I hN hi hx r (fun s' I' => ⟨_, H, I', h⟩) hf)
def gNil : TGs := fun vs σ H Q => vs = [] ∧ Q σ H
def gCons (t : TG) (u : TGs) : TGs := fun vs σ H Q => ∃ v r, vs = v :: r ∧ t v σ H fun σ' H' => u r σ' H' Q
theorem pgs_nil : PGs X [] gNil := by
  intro pins s σ H vs us Q I r h
  obtain ⟨e, h⟩ := h
  subst e
  cases r
  exact assignInOrder_nil ⟨σ, H, I, h⟩
theorem pgs_cons {e : Expr} {es : List Expr} {t : TG} {u : TGs} (h1 : PG X e t) (h2 : PGs X es u)
    (hs : (assignEach (e :: es) X.env).map (·.2) = assign e X.env :: (assignEach es X.env).map (·.2) := by rfl) : PGs X (e :: es) (gCons t u) := by
  intro pins s σ H vs us Q I r h
  obtain ⟨v, vr, e1, h⟩ := h
  subst e1
  cases r with
  | cons r rr =>
    rw [hs]
    refine assignInOrder_cons (thn (h1 pins s σ H _ _ _ I r h) fun _ s1 ⟨σ1, H1, I1, q1⟩ => ?_)
    exact h2 pins s1 σ1 H1 _ _ Q I1 rr q1
def gTup (K : PySem.W.Frag) (n : Nat) (t : TGs) : TG := fun v σ H Q => ∃ a xs, v = .ref a ∧ SqT K H a xs ∧ xs.length = n ∧ t xs σ H Q
theorem pg_tup {es : List Expr} {k : Nat} {t : TGs} {n : Nat} (hc : X.calm = true) (h : PGs X es t)
    (hn : (assignEach es X.env).length = n := by rfl) (hst : (assignEach es X.env).findIdx? (·.1) = none := by rfl) : PG X (.Tuple es k pos) (gTup X.K n t) := by
  intro pins s σ H v u Q I r hw
  obtain ⟨a, xs, e1, hq, hl, hw⟩ := hw
  subst e1
  cases r
  obtain ⟨its, rv, ht, hz⟩ := I.tuple hq
  refine assign_Tuple_tuple (I.ok.hd hc) ht (by simp [hn, ← hl, rv.length]) hst fun h' hx => ?_
  have I1 : Inv X pins σ H { s with heap := h' } := I.kept (t' := s.toks) fun b o e => hx b o (Nat.ne_of_lt (Heap.lt_size e)) e
  exact h pins _ σ H xs _ Q I1 (by simpa using rv) hw
def gSub (to ti : TE) (t : TSet) : TG := fun v σ H Q => to σ H fun o H1 => ti σ H1 fun i H2 => t o i v H2 fun H3 => Q σ H3
theorem pg_sub {o i : Expr} {to ti : TE} {t : TSet} (ho : PE X o to) (hi : PE X i ti) (hs : PSet X t)
    (ha : ∀ v, assign (.Subscript o i pos) X.env v = (do
      let ov ← holding [v] (eval o X.env)
      let iv ← holding [v, ov] (eval i X.env)
      standAt pos
      holding [v, ov, iv] (setItem ov iv v)
      release [v, ov, iv] []) := by intro _; rfl) : PG X (.Subscript o i pos) (gSub to ti t) := by
  intro pins s σ H v u Q I r h
  rw [ha]
  refine wpAny_bind (wpAny_holding (thn (ho pins s σ H _ I h) fun ov s1 ⟨x, H1, I1, r1, q1⟩ => ?_))
  refine wpAny_bind (wpAny_holding (thn (hi pins s1 σ H1 _ I1 q1) fun iv s2 ⟨y, H2, I2, r2, q2⟩ => ?_))
  refine wpAny_bind (wpAny_standAt (wpAny_bind (wpAny_holding (thn (hs pins s2 σ H2 x y v ov iv u _ I2 r1 r2 r q2) fun _ s3 ⟨H3, I3, q3⟩ => ?_))))
  exact wpAny_release ⟨σ, H3, I3, q3⟩
def tAsg (te : TE) (g : TG) : TS := fun D σ H => te σ H fun x H1 => g x σ H1 D.nx
theorem ps_asg {tg e : Expr} {te : TE} {g : TG} (he : PE X e te) (hg : PG X tg g) (hs : swapsWithSole [tg] e pos.line X.env = pure false := by rfl) (hw : swappedStores [tg] e X.env = pure none := by rfl)
    (h1 : (assignEach [tg] X.env).map (·.2) = [assign tg X.env] := by rfl) : PS X (.Assign [tg] e pos) (tAsg te g) := by
  intro pins s σ H D I h
  refine wpAny_Assign_stores (thn (he pins s σ H _ I h) fun v s1 ⟨x, H1, I1, r1, q1⟩ => ?_) hs hw
  rw [h1]
  exact thn (hg pins s1 σ H1 x v _ I1 r1 q1) fun _ s2 q => q
theorem ps_set {i : Nat} {x : Str} {e : Expr} {te : TE} {pos' : Pos} (hN : X.N.Nodup) (hi : X.N[i]? = some x) (hx : Loc X.env.scope x) (he : PE X e te) (hs : swapsWith e (some (.Name x pos')) pos.line X.env = pure false := by rfl) (hf : X.fn x = true ∨ X.env.scope.names.lookup x = some .local := by first | exact .inl rfl | exact .inr rfl | assumption) :
    PS X (.Assign [.Name x pos'] e pos) (tAsg te (gName i)) := by
  intro pins s σ H D I h
  refine wpAny_Assign_Name (thn (he pins s σ H _ I h) fun v s1 ⟨y, H1, I1, r1, q1⟩ => ?_) hs
  exact store_ok I1 hN hi hx r1 (fun s2 I2 => ⟨_, H1, I2, q1⟩) hf
end
section
variable {X : Cx} {pos : Pos}
end
structure It where
  go : Nat → Hp → Prop
  yld : Nat → Hp → V → Hp → Prop
  stop : Nat → Hp → Prop
def FpOk (X : Cx) (pins : List (Addr × Obj)) (H : Hp) (b : Addr) : Prop :=
  H b = none ∧ b ≠ X.env.locals ∧ b ∉ X.fs ∧ (b ∈ X.ex ∨ X.s₀.heap.objs.size ≤ b) ∧ (∀ x c, X.env.cells.lookup x = some c → c ≠ b) ∧ ∀ p ∈ X.pn ++ pins, p.1 ≠ b
theorem Inv.fpOk {X : Cx} {pins : List (Addr × Obj)} {σ : St} {H H' : Hp} {s : Shared} {b : Addr} (I : Inv X pins σ H s) (hb : s.heap.objs.size ≤ b) (hn : H' b = none) : FpOk X pins H' b := by
  refine ⟨hn, Nat.ne_of_gt (Nat.lt_of_lt_of_le I.lt hb), I.nofs hb, .inr (Nat.le_trans I.sz hb), fun x c e z => ?_, fun p hp z => ?_⟩
  · obtain ⟨v, q⟩ := I.cell x c e
    exact absurd (Nat.lt_of_lt_of_le q.lt (by rw [z]; exact hb)) (Nat.lt_irrefl _)
  · exact absurd (Nat.lt_of_lt_of_le (Heap.lt_size (I.pin p hp).1) (by rw [z]; exact hb)) (Nat.lt_irrefl _)
structure Turn (P : Program) (w : World) (K : PySem.W.Frag) (tg : Expr) (J : It) (fp : List Addr) (it : Addr) (tn : Nat → Heap → Prop) : Prop where
  mem : it ∈ fp
  obj : ∀ i h, tn i h → ∀ b ∈ fp, ∃ o, h.get? b = some o ∧ ∀ v, o.data ≠ .cell v
  keep : ∀ i h h', tn i h → (∀ b ∈ fp, ∀ o, h.get? b = some o → h'.get? b = some o) → tn i h'
  item : ∀ (X : Cx), X.prog = P → X.w = w → X.K = K → X.calm = true → ∀ (i : Nat) (pins : List (Addr × Obj)) (s : Shared) (σ : St) (H : Hp) (E : Value → Shared → Prop), Inv X pins σ H s → (∀ b ∈ fp, FpOk X pins H b) → tn i s.heap → J.go i H →
    wpAny (model P w) X.A (pyNext (.ref it)) (fun r s1 => ∃ u, r = some u ∧
      wpAny (model P w) X.A (letOwnedTupleGo tg (.ref it) u) (fun _ s2 => ∃ x H', Inv X pins σ H' s2 ∧ RelV x u ∧ J.yld i H x H' ∧ tn (i + 1) s2.heap ∧ ∀ b ∈ fp, H' b = none) E s1) E s
  done : ∀ (X : Cx), X.prog = P → X.w = w → X.K = K → X.calm = true → ∀ (i : Nat) (pins : List (Addr × Obj)) (s : Shared) (σ : St) (H : Hp) (E : Value → Shared → Prop), Inv X pins σ H s → (∀ b ∈ fp, FpOk X pins H b) → tn i s.heap → J.stop i H →
    wpAny (model P w) X.A (pyNext (.ref it)) (fun r s1 => r = none ∧ Inv X pins σ H s1) E s
  self : ∀ (A : Around) (i : Nat) (s : Shared) (Q : Value → Shared → Prop) (E : Value → Shared → Prop), tn i s.heap → Q (.ref it) s → wpAny (model P w) A (pyIter (.ref it)) Q E s
abbrev TI := St → Hp → (It → Hp → Prop) → Prop
def PIE (X : Cx) (pins : List (Addr × Obj)) (σ : St) (tg : Expr) (R : It → Hp → Prop) (itv : Value) (s2 : Shared) : Prop :=
  ∃ (it : Addr) (fp : List Addr) (tn : Nat → Heap → Prop) (J : It) (H' : Hp), itv = .ref it ∧ Inv X pins σ H' s2 ∧ Turn X.prog X.w X.K tg J fp it tn ∧ tn 0 s2.heap ∧ (∀ b ∈ fp, FpOk X pins H' b) ∧ R J H'
def PI (X : Cx) (tg iter : Expr) (wi : TI) : Prop :=
  ∀ (pins : List (Addr × Obj)) (s : Shared) (σ : St) (H : Hp) (R : It → Hp → Prop), Inv X pins σ H s → wi σ H R →
    wpAny (model X.prog X.w) X.A (eval iter X.env) (fun v s1 => wpAny (model X.prog X.w) X.A (pyIter v) (PIE X pins σ tg R) X.xe s1) X.xe s
theorem go_of {M : Model} {A : Around} {E : Value → Shared → Prop} {s : Shared} {tg : Expr} {it : Addr} {u : Value} {o : Obj} {n : String} {vs : Array Value} {Q : Unit → Shared → Prop} (ho : s.heap.get? it = some o) (hc : o.cls = .type n) (hd : o.data = .fields vs)
    (hn : ["enumerate", "zip", "dict_itemiterator", "dict_reverseitemiterator", "odict_iterator", "itertools.zip_longest", "itertools.pairwise"].contains n = false) (hQ : Q () s) : wpAny M A (letOwnedTupleGo tg (.ref it) u) Q E s := by
  unfold letOwnedTupleGo
  cases tg <;> first
    | exact wpAny_pure hQ
    | (cases u <;> first
        | exact wpAny_pure hQ
        | (refine wpAny_bind (wpAny_load ho ?_)
           rw [hc, hd]
           show wpAny M A (if (["enumerate", "zip", "dict_itemiterator", "dict_reverseitemiterator", "odict_iterator", "itertools.zip_longest", "itertools.pairwise"].contains n && vs[0]? == some (rawInt _)) = true then _ else _) Q E s
           rw [if_neg (by intro h; rw [hn, Bool.false_and] at h; cases h)]
           exact wpAny_pure hQ))
def Itl (K : PySem.W.Frag) (a : Addr) : It :=
  ⟨fun i H => ∃ xs x, SqL K H a xs ∧ xs[i]? = some x, fun i H x H' => H' = H ∧ ∀ xs, SqL K H a xs → xs[i]? = some x, fun i H => ∃ xs, SqL K H a xs ∧ xs.length ≤ i⟩
def Itt (K : PySem.W.Frag) (a : Addr) : It :=
  ⟨fun i H => ∃ xs x, SqT K H a xs ∧ xs[i]? = some x, fun i H x H' => H' = H ∧ ∀ xs, SqT K H a xs → xs[i]? = some x, fun i H => ∃ xs, SqT K H a xs ∧ xs.length ≤ i⟩
def Itr (lo : Int) (n : Nat) : It := ⟨fun i _ => i < n, fun i H x H' => H' = H ∧ x = .int (lo + i), fun i _ => n ≤ i⟩
theorem turn_list {P : Program} {w : World} {K : PySem.W.Frag} {tg : Expr} (a it : Addr) : Turn P w K tg (Itl K a) [it] it (fun i h => h.IsListIter it a i) where
  mem := by simp
  obj := fun i h st b hb => by
    have e : b = it := by simpa using hb
    subst e
    obtain ⟨o, e, c, d⟩ := st
    exact ⟨o, e, fun v z => by rw [d] at z; cases z⟩
  keep := fun i h h' st k => st.at fun o e => k it (by simp) o e
  item := by
    intro X hP hw hK hc i pins s σ H E I hf st hg
    subst hP hw hK
    obtain ⟨xs, x, hq, hx⟩ := hg
    obtain ⟨its, rv, p, hz⟩ := I.list hq
    obtain ⟨u, hu, ru⟩ := rv.get hx
    obtain ⟨f0, f1, f2, f3, f4, f5⟩ := hf it (by simp)
    refine wpAny_pyNext_list_item st p.isList (x := u) (by simpa using hu) fun h' st' sb => ?_
    have I1 : Inv X pins σ H { s with heap := h' } := I.turned (t' := s.toks) (fun b o hb e => (sb.2 b hb).trans e) f0 f1 f3 f4 f5
    obtain ⟨o, e, c, d⟩ := id st'
    exact ⟨u, rfl, go_of (s := { s with heap := h' }) e c d (by decide) ⟨x, H, I1, ru, ⟨rfl, fun ys hy => by rw [I.list_inj hy hq]; exact hx⟩, st', fun b hb => (hf b hb).1⟩⟩
  done := by
    intro X hP hw hK hc i pins s σ H E I hf st hg
    subst hP hw hK
    obtain ⟨xs, hq, hx⟩ := hg
    obtain ⟨its, rv, p, hz⟩ := I.list hq
    obtain ⟨f0, f1, f2, f3, f4, f5⟩ := hf it (by simp)
    have hl := rv.length
    exact wpAny_pyNext_list_end (I.ok.hd hc) st p.isList (by simp; omega) fun h' eb => ⟨rfl, I.turned (t' := s.toks) (fun b o hb e => eb b o hb e) f0 f1 f3 f4 f5⟩
  self := fun _ _ _ _ _ st h => wpAny_pyIter_listiter st h
theorem turn_tuple {P : Program} {w : World} {K : PySem.W.Frag} {tg : Expr} (a it : Addr) : Turn P w K tg (Itt K a) [it] it (fun i h => h.IsTupleIter it a i) where
  mem := by simp
  obj := fun i h st b hb => by
    have e : b = it := by simpa using hb
    subst e
    obtain ⟨o, e, c, d⟩ := st
    exact ⟨o, e, fun v z => by rw [d] at z; cases z⟩
  keep := fun i h h' st k => st.at fun o e => k it (by simp) o e
  item := by
    intro X hP hw hK hc i pins s σ H E I hf st hg
    subst hP hw hK
    obtain ⟨xs, x, hq, hx⟩ := hg
    obtain ⟨its, rv, p, hz⟩ := I.tuple hq
    obtain ⟨u, hu, ru⟩ := rv.get hx
    obtain ⟨f0, f1, f2, f3, f4, f5⟩ := hf it (by simp)
    refine wpAny_pyNext_tuple_item st (show s.heap.IsTuple a its.toArray from p) (x := u) (by simpa using hu) fun h' st' sb => ?_
    have I1 : Inv X pins σ H { s with heap := h' } := I.turned (t' := s.toks) (fun b o hb e => (sb.2 b hb).trans e) f0 f1 f3 f4 f5
    obtain ⟨o, e, c, d⟩ := id st'
    exact ⟨u, rfl, go_of (s := { s with heap := h' }) e c d (by decide) ⟨x, H, I1, ru, ⟨rfl, fun ys hy => by rw [I.tuple_inj hy hq]; exact hx⟩, st', fun b hb => (hf b hb).1⟩⟩
  done := by
    intro X hP hw hK hc i pins s σ H E I hf st hg
    subst hP hw hK
    obtain ⟨xs, hq, hx⟩ := hg
    obtain ⟨its, rv, p, hz⟩ := I.tuple hq
    obtain ⟨f0, f1, f2, f3, f4, f5⟩ := hf it (by simp)
    have hl := rv.length
    exact wpAny_pyNext_tuple_end (I.ok.hd hc) st (show s.heap.IsTuple a its.toArray from p) (by simp; omega) fun h' eb => ⟨rfl, I.turned (t' := s.toks) (fun b o hb e => eb b o hb e) f0 f1 f3 f4 f5⟩
  self := fun _ _ _ _ _ st h => wpAny_pyIter_tupleiter st h
theorem turn_range {P : Program} {w : World} {K : PySem.W.Frag} {tg : Expr} (it : Addr) (lo : Int) (n : Nat) : Turn P w K tg (Itr lo n) [it] it (fun i h => IsRangeIter h it (lo + (i : Nat) * 1) ((n : Int) - (i : Nat)) 1) where
  mem := by simp
  obj := fun i h st b hb => by
    have e : b = it := by simpa using hb
    subst e
    exact ⟨_, st, fun v z => by
      have z' : Data.fields _ = Data.cell v := z
      cases z'⟩
  keep := fun i h h' st k => k it (by simp) _ st
  item := by
    intro X hP hw hK hc i pins s σ H E I hf st hg
    subst hP hw hK
    obtain ⟨f0, f1, f2, f3, f4, f5⟩ := hf it (by simp)
    have W := Walks.range (prog := X.prog) (w := X.w) (I.ok.hd hc) it lo 1 n
    refine W.item i s _ _ hg st fun v h' tk hv st' kk => ?_
    obtain ⟨t, rfl⟩ := hv
    have I1 : Inv X pins σ H { s with heap := h', toks := tk } := I.turned (fun b o hb e => kk b o (by simpa using hb) e) f0 f1 f3 f4 f5
    refine ⟨_, rfl, go_of (s := { s with heap := h', toks := tk }) (n := "range_iterator") st' rfl rfl (by decide) ⟨.int (lo + i), H, I1, ⟨t, ?_⟩, ⟨rfl, rfl⟩, st', fun b hb => (hf b hb).1⟩⟩
    rw [Int.mul_one]
  done := by
    intro X hP hw hK hc i pins s σ H E I hf st hg
    subst hP hw hK
    obtain ⟨f0, f1, f2, f3, f4, f5⟩ := hf it (by simp)
    exact wpAny_pyNext_range_end (I.ok.hd hc) st (by have : n ≤ i := hg; omega) fun h' eb => ⟨rfl, I.turned (t' := s.toks) (fun b o hb e => eb b o hb e) f0 f1 f3 f4 f5⟩
  self := fun _ _ _ _ _ st h => wpAny_pyIter_rangeiter st h
end L2
namespace L2
open PySem PySem.Spec PyProof.Rows
section
variable {X : Cx} {tg : Expr}
def iList (K : PySem.W.Frag) (tl : TE) : TI := fun σ H R => tl σ H fun x H1 => ∃ a, x = .ref a ∧ (∃ xs, SqL K H1 a xs) ∧ R (Itl K a) H1
def iTup (K : PySem.W.Frag) (tl : TE) : TI := fun σ H R => tl σ H fun x H1 => ∃ a, x = .ref a ∧ (∃ xs, SqT K H1 a xs) ∧ R (Itt K a) H1
theorem pi_list {l : Expr} {tl : TE} (hl : PE X l tl) : PI X tg l (iList X.K tl) := by
  intro pins s σ H R I h
  refine thn (hl pins s σ H _ I h) fun v s1 ⟨x, H1, I1, r1, q1⟩ => ?_
  obtain ⟨a, e, ⟨xs, hq⟩, q⟩ := q1
  subst e
  cases r1
  obtain ⟨its, rv, p, hz⟩ := I1.list hq
  refine wpAny_pyIter_list p.isList ?_
  refine ⟨s1.heap.objs.size, [s1.heap.objs.size], _, _, H1, rfl, I1.kept (t' := s1.toks) fun b o e => Heap.get?_push_of_some _ e, turn_list a _, ⟨_, Heap.get?_push_size _ rfl, rfl, rfl⟩, fun b hb => ?_, q⟩
  have e : b = s1.heap.objs.size := by simpa using hb
  subst e
  exact I1.fpOk (Nat.le_refl _) (I1.hok.fresh (Nat.le_refl _))
theorem pi_tup {l : Expr} {tl : TE} (hl : PE X l tl) : PI X tg l (iTup X.K tl) := by
  intro pins s σ H R I h
  refine thn (hl pins s σ H _ I h) fun v s1 ⟨x, H1, I1, r1, q1⟩ => ?_
  obtain ⟨a, e, ⟨xs, hq⟩, q⟩ := q1
  subst e
  cases r1
  obtain ⟨its, rv, p, hz⟩ := I1.tuple hq
  refine wpAny_pyIter_tuple (show s1.heap.IsTuple a its.toArray from p) ?_
  refine ⟨s1.heap.objs.size, [s1.heap.objs.size], _, _, H1, rfl, I1.kept (t' := s1.toks) fun b o e => Heap.get?_push_of_some _ e, turn_tuple a _, ⟨_, Heap.get?_push_size _ rfl, rfl, rfl⟩, fun b hb => ?_, q⟩
  have e : b = s1.heap.objs.size := by simpa using hb
  subst e
  exact I1.fpOk (Nat.le_refl _) (I1.hok.fresh (Nat.le_refl _))
theorem range_it {pins : List (Addr × Obj)} {σ : St} {H : Hp} {s : Shared} {R : It → Hp → Prop} {E : Value → Shared → Prop} {lo hi : Int} {t u v : Tok} {tk : Nat} (I : Inv X pins σ H s) (h1 : -(2 ^ 62) ≤ lo) (h2 : lo < 2 ^ 62) (h3 : -(2 ^ 62) ≤ hi) (h4 : hi < 2 ^ 62)
    (q : R (Itr lo (hi - lo).toNat) H) : wpAny (model X.prog X.w) X.A (pyIter (.ref s.heap.objs.size)) (PIE X pins σ tg R) E { s with heap := s.heap.push { cls := .type "range", data := .fields #[.int lo t, .int hi u, .int 1 v] }, toks := tk } := by
  refine wpAny_pyIter_range (IsRange.new ..) (small_one h1 h2 h3 h4) ?_
  have I1 : Inv X pins σ H { s with heap := s.heap.push { cls := .type "range", data := .fields #[.int lo t, .int hi u, .int 1 v] }, toks := tk } := I.kept fun b o e => Heap.get?_push_of_some _ e
  refine ⟨(s.heap.push { cls := .type "range", data := .fields #[.int lo t, .int hi u, .int 1 v] }).objs.size, [(s.heap.push { cls := .type "range", data := .fields #[.int lo t, .int hi u, .int 1 v] }).objs.size], _, _, H, rfl,
    I1.kept (t' := tk) fun b o e => Heap.get?_push_of_some _ e, turn_range _ lo (hi - lo).toNat, ?_, fun b hb => ?_, q⟩
  · have e1 : lo + ((0 : Nat) : Int) * 1 = lo := by simp
    have e2 : (((hi - lo).toNat : Nat) : Int) - ((0 : Nat) : Int) = Builtin.Range.rangeSize lo hi 1 := by rw [rangeSize_one]; split <;> omega
    show IsRangeIter _ _ (lo + ((0 : Nat) : Int) * 1) ((((hi - lo).toNat : Nat) : Int) - ((0 : Nat) : Int)) 1
    rw [e1, e2]
    exact Heap.get?_push_size _ rfl
  · have e : b = (s.heap.push { cls := .type "range", data := .fields #[.int lo t, .int hi u, .int 1 v] }).objs.size := by simpa using hb
    subst e
    exact I1.fpOk (Nat.le_refl _) (I1.hok.fresh (Nat.le_refl _))
def iRng1 (ta : TA) : TI := fun σ H R => ta σ H fun vs H1 => ∃ j : Int, vs = [.int j] ∧ -(2 ^ 62) ≤ j ∧ j < 2 ^ 62 ∧ R (Itr 0 j.toNat) H1
theorem pi_range1 {a : Expr} {ta : TA} {p pos : Pos} (hg : Gl X "range") (hm : X.mg "range" = none) (ha : PA X [a] ta) (hs : starEach [a] X.env = [(false, eval a X.env)] := by rfl) : PI X tg (.Call (.Name "range" p) [a] [] pos) (iRng1 ta) := by
  intro pins s σ H R I h
  refine Call_ (ld_blt I hg hm boot_range (PyProof.Rows.callWith_type1 (thn (ha pos pins s σ H _ I h) fun us s1 ⟨vs, H1, I1, r1, q1⟩ => ?_) hs rfl))
  obtain ⟨j, e, q1, q2, q⟩ := q1
  subst e
  cases r1 with
  | cons r rr =>
    cases rr
    obtain ⟨t, rfl⟩ := r
    exact call_range_1 (range_it I1 (by omega) (by omega) q1 q2 (by simpa using q))
def tFor (wi : TI) (g : TG) (tb : TS) : TS := fun D σ H => wi σ H fun J H1 => ∃ W : Nat → Nat → St → Hp → Prop, (∃ m, W 0 m σ H1) ∧ ∀ i m σ H, W i m σ H →
  (J.stop i H ∧ D.nx σ H) ∨ (J.go i H ∧ ∃ N : St → Hp → Prop, (∀ σ' H', N σ' H' → ∃ m', m' < m ∧ W (i + 1) m' σ' H') ∧ ∀ x H', J.yld i H x H' → g x σ H' fun σ2 H2 => tb { D with nx := N, ct := N, bk := D.nx } σ2 H2)
def pinsAt (fp : List Addr) (h : Heap) : List (Addr × Obj) := fp.filterMap fun b => (h.get? b).map fun o => (b, o)
theorem mem_pinsAt {fp : List Addr} {h : Heap} {b : Addr} {o : Obj} (hb : b ∈ fp) (e : h.get? b = some o) : (b, o) ∈ pinsAt fp h := List.mem_filterMap.mpr ⟨b, hb, by rw [e]; rfl⟩
theorem of_pinsAt {fp : List Addr} {h : Heap} {p : Addr × Obj} (hp : p ∈ pinsAt fp h) : p.1 ∈ fp ∧ h.get? p.1 = some p.2 := by
  obtain ⟨b, hb, e⟩ := List.mem_filterMap.mp hp
  cases q : h.get? b with
  | none => rw [q] at e; cases e
  | some o =>
    rw [q] at e
    have e' : (b, o) = p := Option.some.inj e
    subst e'
    exact ⟨hb, q⟩
theorem Inv.pinned {pins : List (Addr × Obj)} {σ : St} {H : Hp} {s : Shared} {fp : List Addr} (I : Inv X pins σ H s) (hf : ∀ b ∈ fp, FpOk X pins H b) (ho : ∀ b ∈ fp, ∃ o, s.heap.get? b = some o ∧ ∀ v, o.data ≠ .cell v) : Inv X (pins ++ pinsAt fp s.heap) σ H s :=
  I.pins_of fun p hp => (List.mem_append.mp hp).elim (fun z => I.pin p (List.mem_append_right _ z)) fun z => by
    obtain ⟨hb, e⟩ := of_pinsAt z
    obtain ⟨f0, f1, f2, _⟩ := hf p.1 hb
    obtain ⟨o, e', d⟩ := ho p.1 hb
    rw [e] at e'; cases e'
    exact ⟨e, f0, f1, f2, d⟩
theorem Inv.unpinned {pins pl : List (Addr × Obj)} {σ : St} {H : Hp} {s : Shared} (I : Inv X (pins ++ pl) σ H s) : Inv X pins σ H s := I.pins_of fun p hp => I.pin p (List.mem_append_right _ (List.mem_append_left _ hp))
theorem ps_for {iter : Expr} {body : List Stmt} {wi : TI} {g : TG} {tb : TS} {pos : Pos} (hp : PassesOwn (model X.prog X.w) X.A X.env X.xe) (hc : X.calm = true) (hi : PI X tg iter wi) (hg : PG X tg g) (hb : PSs X body tb)
    (hs : ∀ x, foldedSetIterable iter X.env x = pure x := by intro _; rfl) : PS X (.For tg iter body [] pos) (tFor wi g tb) := by
  intro pins s σ H D I h
  refine wpAny_For (thn (hi pins s σ H _ I h) fun v s1 h1 => thn h1 fun itv s2 h2 => ?_) hs
  obtain ⟨it, fp, tn, J, H2, e, I2, T, st2, f2, W, ⟨m0, w0⟩, turn⟩ := h2
  subst e
  have stat : ∀ {H' : Hp}, (∀ b ∈ fp, H' b = none) → ∀ b ∈ fp, FpOk X pins H' b := fun hn b hb => ⟨hn b hb, (f2 b hb).2⟩
  refine codeAny_forLoop_any (fun n s' => ∃ i σ' H', Inv X pins σ' H' s' ∧ tn i s'.heap ∧ (∀ b ∈ fp, H' b = none) ∧ W i n σ' H') ?_ m0 ⟨0, σ, H2, I2, st2, fun b hb => (f2 b hb).1, w0⟩
  rintro n s3 ⟨i, σ3, H3, I3, st3, fr3, w3⟩
  rcases turn i n σ3 H3 w3 with ⟨stop, qn⟩ | ⟨go, N, hN, step⟩
  · refine wpAny_passesOwn hp (thn (T.done X rfl rfl rfl hc i pins s3 σ3 H3 X.xe I3 (stat fr3) st3 stop) fun r s4 ⟨hr, I4⟩ => ?_)
    subst hr
    exact wpAny_execs_nil ⟨σ3, H3, I4, qn⟩
  · refine wpAny_passesOwn hp (thn (T.item X rfl rfl rfl hc i pins s3 σ3 H3 X.xe I3 (stat fr3) st3 go) fun r s4 ⟨u, hr, h4⟩ => ?_)
    subst hr
    refine wpAny_passesOwn hp (thn h4 fun _ s5 ⟨x, H5, I5, r5, y5, st5, fr5⟩ => ?_)
    have I5' := I5.pinned (stat fr5) (T.obj _ _ st5)
    refine wpAny_passesOwn hp (thn (hg _ s5 σ3 H5 x u _ I5' r5 (step x H5 y5)) fun _ s6 ⟨σ6, H6, I6, q6⟩ => ?_)
    refine wpAny_passesOwn hp (thn (hb _ s6 σ6 H6 _ I6 q6) fun f s7 q7 => ?_)
    have again : ∀ {σ7 : St} {H7 : Hp}, Inv X (pins ++ pinsAt fp s5.heap) σ7 H7 s7 → N σ7 H7 → ∃ m, m < n ∧ ∃ i σ' H', Inv X pins σ' H' s7 ∧ tn i s7.heap ∧ (∀ b ∈ fp, H' b = none) ∧ W i m σ' H' := fun {σ7 H7} I7 n7 => by
      obtain ⟨m', hm, w7⟩ := hN σ7 H7 n7
      refine ⟨m', hm, i + 1, σ7, H7, I7.unpinned, T.keep _ _ _ st5 fun b hb o e => (I7.pin (b, o) (List.mem_append_right _ (List.mem_append_right _ (mem_pinsAt hb e)))).1, fun b hb => ?_, w7⟩
      obtain ⟨o, e, d⟩ := T.obj _ _ st5 b hb
      exact (I7.pin (b, o) (List.mem_append_right _ (List.mem_append_right _ (mem_pinsAt hb e)))).2.1
    cases f with
    | next => obtain ⟨σ7, H7, I7, n7⟩ := q7; exact again I7 n7
    | cont => obtain ⟨σ7, H7, I7, n7⟩ := q7; exact again I7 n7
    | brk => obtain ⟨σ7, H7, I7, q7⟩ := q7; exact ⟨σ7, H7, I7.unpinned, q7⟩
    | ret v => obtain ⟨x7, σ7, H7, I7, r7, q7⟩ := q7; exact ⟨x7, σ7, H7, I7.unpinned, r7, q7⟩
end
end L2
namespace L2
open PySem PySem.Spec PyProof.Rows
abbrev R2 := V → V → Hp → VK → Prop
def OpR (X : Cx) (f : Value → Value → Sem Value) (r : R2) : Prop :=
  ∀ (pins : List (Addr × Obj)) (s : Shared) (σ : St) (H : Hp) (x y : V) (v u : Value) (Q : VK), Inv X pins σ H s → RelV x v → RelV y u → r x y H Q →
    wpAny (model X.prog X.w) X.A (f v u) (EP X pins σ Q) X.xe s
def UnR (X : Cx) (f : Value → Sem Value) (r : V → Hp → VK → Prop) : Prop :=
  ∀ (pins : List (Addr × Obj)) (s : Shared) (σ : St) (H : Hp) (x : V) (v : Value) (Q : VK), Inv X pins σ H s → RelV x v → r x H Q →
    wpAny (model X.prog X.w) X.A (f v) (EP X pins σ Q) X.xe s
def CallR (X : Cx) (f : Value) (r : List V → Hp → VK → Prop) : Prop :=
  ∀ (pins : List (Addr × Obj)) (s : Shared) (σ : St) (H : Hp) (xs : List V) (us : List Value) (Q : VK), Inv X pins σ H s → Vals xs us → r xs H Q →
    wpAny (model X.prog X.w) X.A (call f us) (EP X pins σ Q) X.xe s
def tOp (r : R2) (ta tb : TE) : TE := fun σ H Q => ta σ H fun x H1 => tb σ H1 fun y H2 => r x y H2 Q
def tUn (r : V → Hp → VK → Prop) (ta : TE) : TE := fun σ H Q => ta σ H fun x H1 => r x H1 Q
def rI (C : Int → Int → Prop) (g : Int → Int → V) : R2 := fun x y H Q => ∃ i j, x = .int i ∧ y = .int j ∧ C i j ∧ Q (g i j) H
def rI0 (g : Int → Int → V) : R2 := fun x y H Q => ∃ i j, x = .int i ∧ y = .int j ∧ Q (g i j) H
def rU (g : Int → V) : V → Hp → VK → Prop := fun x H Q => ∃ i, x = .int i ∧ Q (g i) H
section
variable {X : Cx} {a b c : Expr} {ta tb tc : TE} {pos : Pos}
theorem binT (ha : PE X a ta) (hb : PE X b tb) {pins : List (Addr × Obj)} {s : Shared} {σ : St} {H : Hp} {R : V → V → Hp → Prop} (I : Inv X pins σ H s)
    (h : ta σ H fun x H1 => tb σ H1 fun y H2 => R x y H2) {Q : Value → Shared → Prop} {f : Value → Value → Sem Value}
    (hf : ∀ v u s2 x y H2, Inv X pins σ H2 s2 → RelV x v → RelV y u → R x y H2 → wpAny (model X.prog X.w) X.A (f v u) Q X.xe s2) :
    wpAny (model X.prog X.w) X.A (eval a X.env) (fun v s₁ => wpAny (model X.prog X.w) X.A (eval b X.env) (fun u s₂ => wpAny (model X.prog X.w) X.A (f v u) Q X.xe s₂) X.xe s₁) X.xe s := by
  refine thn (ha pins s σ H _ I h) fun v s1 ⟨x, H1, I1, r1, q1⟩ => ?_
  refine thn (hb pins s1 σ H1 _ I1 q1) fun u s2 ⟨y, H2, I2, r2, q2⟩ => ?_
  exact hf v u s2 x y H2 I2 r1 r2 q2
theorem pe_op {op : Operator} {r : R2} (ho : OpR X (binaryOp op) r) (ha : PE X a ta) (hb : PE X b tb) : PE X (.BinOp a op b pos) (tOp r ta tb) := by
  intro pins s σ H Q I h
  exact wpAny_BinOp (binT ha hb I h fun v u s2 x y H2 I2 rx ry q => ho pins s2 σ H2 x y v u Q I2 rx ry q)
theorem pe_un {op : UnaryOp} {r : V → Hp → VK → Prop} (ho : UnR X (unaryOp op) r) (ha : PE X a ta) : PE X (.UnaryOp op a pos) (tUn r ta) := by
  intro pins s σ H Q I h
  exact UnaryOp_ (thn (ha pins s σ H _ I h) fun v s1 ⟨x, H1, I1, r1, q1⟩ => ho pins s1 σ H1 x v Q I1 r1 q1)
theorem opI {f : Value → Value → Sem Value} {C : Int → Int → Prop} {g : Int → Int → Int}
    (rule : ∀ (i j : Int) (t u : Tok) (s : Shared) (Q : Value → Shared → Prop) (E : Value → Shared → Prop), C i j → Q (.int (g i j) s.toks) { s with toks := s.toks + 1 } → wpAny (model X.prog X.w) X.A (f (.int i t) (.int j u)) Q E s) :
    OpR X f (rI C fun i j => .int (g i j)) := by
  intro pins s σ H x y v u Q I rx ry h
  obtain ⟨i, j, rfl, rfl, hc, q⟩ := h
  obtain ⟨t, rfl⟩ := rx
  obtain ⟨t', rfl⟩ := ry
  exact rule i j t t' s _ _ hc ⟨.int (g i j), H, I.tok _, ⟨_, rfl⟩, q⟩
theorem opI0 {f : Value → Value → Sem Value} {g : Int → Int → Int}
    (rule : ∀ (i j : Int) (t u : Tok) (s : Shared) (Q : Value → Shared → Prop) (E : Value → Shared → Prop), Q (.int (g i j) s.toks) { s with toks := s.toks + 1 } → wpAny (model X.prog X.w) X.A (f (.int i t) (.int j u)) Q E s) :
    OpR X f (rI0 fun i j => .int (g i j)) := by
  intro pins s σ H x y v u Q I rx ry h
  obtain ⟨i, j, rfl, rfl, q⟩ := h
  obtain ⟨t, rfl⟩ := rx
  obtain ⟨t', rfl⟩ := ry
  exact rule i j t t' s _ _ ⟨.int (g i j), H, I.tok _, ⟨_, rfl⟩, q⟩
theorem opB0 {f : Value → Value → Sem Value} {g : Int → Int → Bool}
    (rule : ∀ (i j : Int) (t u : Tok) (s : Shared) (Q : Value → Shared → Prop) (E : Value → Shared → Prop), Q (.bool (g i j)) s → wpAny (model X.prog X.w) X.A (f (.int i t) (.int j u)) Q E s) :
    OpR X f (rI0 fun i j => .bl (g i j)) := by
  intro pins s σ H x y v u Q I rx ry h
  obtain ⟨i, j, rfl, rfl, q⟩ := h
  obtain ⟨t, rfl⟩ := rx
  obtain ⟨t', rfl⟩ := ry
  exact rule i j t t' s _ _ ⟨.bl (g i j), H, I, rfl, q⟩
def CDiv (i j : Int) : Prop := 0 < j ∧ j < 1073741824
def CMul (i j : Int) : Prop := (-(2 ^ 64) < i ∧ i < 2 ^ 64) ∨ (-(2 ^ 64) < j ∧ j < 2 ^ 64)
theorem CMul.ok {i j : Int} (h : CMul i j) : IntMulOk i j := by
  rcases h with ⟨h1, h2⟩ | ⟨h1, h2⟩
  · exact .of_left (intBits_le_64 h1 h2)
  · exact .of_right (intBits_le_64 h1 h2)
theorem op_add : OpR X (binaryOp .Add) (rI0 fun i j => .int (i + j)) := opI0 fun _ _ _ _ _ _ _ q => add_int q
theorem op_sub : OpR X (binaryOp .Sub) (rI0 fun i j => .int (i - j)) := opI0 fun _ _ _ _ _ _ _ q => sub_int q
theorem op_mul : OpR X (binaryOp .Mult) (rI CMul fun i j => .int (i * j)) := opI fun _ _ _ _ _ _ _ hc q => mul_int q hc.ok
theorem op_fdiv : OpR X (binaryOp .FloorDiv) (rI CDiv fun i j => .int (i / j)) := opI fun i j _ _ _ _ _ hc q => by
  have h1 : (0 : Int) < j := hc.1
  have h2 : j < 1073741824 := hc.2
  exact floordiv_int (by omega) (by rw [Int.fdiv_eq_ediv_of_nonneg i (by omega)]; exact q) (.inl (PyProof.noPylong_small (by omega)))
theorem op_mod : OpR X (binaryOp .Mod) (rI (fun _ j => 0 < j) fun i j => .int (i % j)) := opI fun i j _ _ _ _ _ hc q => by
  have h1 : (0 : Int) < j := hc
  exact mod_int' (by omega) (by rw [Int.fmod_eq_emod_of_nonneg i (by omega)]; exact q)
theorem unI {f : Value → Sem Value} {g : Int → Int}
    (rule : ∀ (i : Int) (t : Tok) (s : Shared) (Q : Value → Shared → Prop) (E : Value → Shared → Prop), Q (.int (g i) s.toks) { s with toks := s.toks + 1 } → wpAny (model X.prog X.w) X.A (f (.int i t)) Q E s) :
    UnR X f (rU fun i => .int (g i)) := by
  intro pins s σ H x v Q I rx h
  obtain ⟨i, rfl, q⟩ := h
  obtain ⟨t, rfl⟩ := rx
  exact rule i t s _ _ ⟨.int (g i), H, I.tok _, ⟨_, rfl⟩, q⟩
theorem un_neg : UnR X (unaryOp .USub) (rU fun i => .int (-i)) := unI fun _ _ _ _ _ q => neg_int q
end
def scal : V → V → Bool
  | .non, .non => true | .non, .int _ => true | .int _, .non => true | .non, .bl _ => true | .bl _, .non => true | .non, .str _ => true | .str _, .non => true
  | .int _, .int _ => true | .bl _, .bl _ => true | .str _, .str _ => true | .byt _, .byt _ => true
  | .int _, .str _ => true | .str _, .int _ => true | .bl _, .str _ => true | .str _, .bl _ => true
  | _, _ => false
def rEq : R2 := fun x y H Q => scal x y = true ∧ Q (.bl (decide (x = y))) H
def rNe : R2 := fun x y H Q => scal x y = true ∧ Q (.bl (!decide (x = y))) H
theorem dec_int {i j : Int} : decide (V.int i = V.int j) = (i == j) := by
  rw [Bool.eq_iff_iff]
  simp
theorem dec_bl {i j : Bool} : decide (V.bl i = V.bl j) = (i == j) := by
  rw [Bool.eq_iff_iff]
  simp
theorem dec_str {i j : Str} : decide (V.str i = V.str j) = (i == j) := by
  rw [Bool.eq_iff_iff]
  simp
theorem dec_byt {i j : Array UInt8} : decide (V.byt i = V.byt j) = (i.toList == j.toList) := by
  rw [Bool.eq_iff_iff]
  cases i
  cases j
  simp
section
variable {X : Cx} {a b c : Expr} {ta tb tc : TE} {pos : Pos}
theorem fin_bl {pins : List (Addr × Obj)} {σ : St} {H : Hp} {s : Shared} {Q : VK} {k k' : Bool} (I : Inv X pins σ H s) (q : Q (.bl k) H) (e : k = k') : EP X pins σ Q (.bool k') s := by
  subst e
  exact ⟨.bl k, H, I, rfl, q⟩
theorem op_eq : OpR X (compareOp .Eq) rEq := by
  intro pins s σ H x y v u Q I rx ry h
  obtain ⟨hs, q⟩ := h
  cases x with
  | non =>
    cases rx
    cases y with
    | non => cases ry; exact PySem.EqNone.eq_none_none (fin_bl I q (by simp))
    | bl j => cases ry; exact PySem.EqNone.eq_none_bool (fin_bl I q (by simp))
    | int j => obtain ⟨t', rfl⟩ := ry; exact PySem.EqNone.eq_none_int (fin_bl I q (by simp))
    | str j => obtain ⟨t', rfl⟩ := ry; exact PySem.EqNone.eq_none_str (fin_bl I q (by simp))
    | _ => exact absurd (show false = true from hs) Bool.false_ne_true
  | bl i =>
    cases rx
    cases y with
    | non => cases ry; exact PySem.EqNone.eq_bool_none (fin_bl I q (by simp))
    | bl j => cases ry; exact eq_bool (fin_bl I q dec_bl)
    | str j => obtain ⟨t', rfl⟩ := ry; exact PySem.EqMixed.eq_bool_str (fin_bl I q (by simp))
    | _ => exact absurd (show false = true from hs) Bool.false_ne_true
  | int i =>
    obtain ⟨t, rfl⟩ := rx
    cases y with
    | non => cases ry; exact PySem.EqNone.eq_int_none (fin_bl I q (by simp))
    | int j => obtain ⟨t', rfl⟩ := ry; exact eq_int (fin_bl I q dec_int)
    | str j => obtain ⟨t', rfl⟩ := ry; exact PySem.EqMixed.eq_int_str (fin_bl I q (by simp))
    | _ => exact absurd (show false = true from hs) Bool.false_ne_true
  | str i =>
    obtain ⟨t, rfl⟩ := rx
    cases y with
    | non => cases ry; exact PySem.EqNone.eq_str_none (fin_bl I q (by simp))
    | bl j => cases ry; exact PySem.EqMixed.eq_str_bool (fin_bl I q (by simp))
    | int j => obtain ⟨t', rfl⟩ := ry; exact PySem.EqMixed.eq_str_int (fin_bl I q (by simp))
    | str j => obtain ⟨t', rfl⟩ := ry; exact eq_str (fin_bl I q dec_str)
    | _ => exact absurd (show false = true from hs) Bool.false_ne_true
  | byt i =>
    obtain ⟨t, rfl⟩ := rx
    cases y with
    | byt j => obtain ⟨t', rfl⟩ := ry; exact PySem.W.eq_bytes (fin_bl I q dec_byt)
    | _ => exact absurd (show false = true from hs) Bool.false_ne_true
  | _ => cases y <;> exact absurd (show false = true from hs) Bool.false_ne_true
theorem op_ne : OpR X (compareOp .NotEq) rNe := by
  intro pins s σ H x y v u Q I rx ry h
  obtain ⟨hs, q⟩ := h
  cases x with
  | non =>
    cases rx
    cases y with
    | non => cases ry; exact PySem.EqNone.ne_none_none (fin_bl I q (by simp))
    | bl j => cases ry; exact PySem.EqNone.ne_none_bool (fin_bl I q (by simp))
    | int j => obtain ⟨t', rfl⟩ := ry; exact PySem.EqNone.ne_none_int (fin_bl I q (by simp))
    | str j => obtain ⟨t', rfl⟩ := ry; exact PySem.EqNone.ne_none_str (fin_bl I q (by simp))
    | _ => exact absurd (show false = true from hs) Bool.false_ne_true
  | bl i =>
    cases rx
    cases y with
    | non => cases ry; exact PySem.EqNone.ne_bool_none (fin_bl I q (by simp))
    | bl j => cases ry; exact ne_bool (fin_bl I q (congrArg not dec_bl))
    | str j => obtain ⟨t', rfl⟩ := ry; exact PySem.EqMixed.ne_bool_str (fin_bl I q (by simp))
    | _ => exact absurd (show false = true from hs) Bool.false_ne_true
  | int i =>
    obtain ⟨t, rfl⟩ := rx
    cases y with
    | non => cases ry; exact PySem.EqNone.ne_int_none (fin_bl I q (by simp))
    | int j => obtain ⟨t', rfl⟩ := ry; exact ne_int (fin_bl I q (congrArg not dec_int))
    | str j => obtain ⟨t', rfl⟩ := ry; exact PySem.EqMixed.ne_int_str (fin_bl I q (by simp))
    | _ => exact absurd (show false = true from hs) Bool.false_ne_true
  | str i =>
    obtain ⟨t, rfl⟩ := rx
    cases y with
    | non => cases ry; exact PySem.EqNone.ne_str_none (fin_bl I q (by simp))
    | bl j => cases ry; exact PySem.EqMixed.ne_str_bool (fin_bl I q (by simp))
    | int j => obtain ⟨t', rfl⟩ := ry; exact PySem.EqMixed.ne_str_int (fin_bl I q (by simp))
    | str j => obtain ⟨t', rfl⟩ := ry; exact ne_str (fin_bl I q (congrArg not dec_str))
    | _ => exact absurd (show false = true from hs) Bool.false_ne_true
  | byt i =>
    obtain ⟨t, rfl⟩ := rx
    cases y with
    | byt j => obtain ⟨t', rfl⟩ := ry; exact PySem.W.ne_bytes (fin_bl I q (congrArg not dec_byt))
    | _ => exact absurd (show false = true from hs) Bool.false_ne_true
  | _ => cases y <;> exact absurd (show false = true from hs) Bool.false_ne_true
theorem op_lt : OpR X (compareOp .Lt) (rI0 fun i j => .bl (decide (i < j))) := opB0 fun _ _ _ _ _ _ _ q => lt_int q
theorem op_le : OpR X (compareOp .LtE) (rI0 fun i j => .bl (decide (i ≤ j))) := opB0 fun _ _ _ _ _ _ _ q => le_int q
theorem op_gt : OpR X (compareOp .Gt) (rI0 fun i j => .bl (decide (j < i))) := opB0 fun _ _ _ _ _ _ _ q => gt_int q
theorem op_in_str : OpR X (compareOp .In) (fun x y H Q => ∃ i j, x = .str i ∧ y = .str j ∧ Q (.bl (!(Builtin.Str.occurrences j i 0 j.length 1).isEmpty)) H) := by
  intro pins s σ H x y v u Q I rx ry h
  obtain ⟨i, j, rfl, rfl, q⟩ := h
  obtain ⟨t, rfl⟩ := rx
  obtain ⟨t', rfl⟩ := ry
  exact in_str (fin_bl I q rfl)
theorem op_isN : OpR X (compareOp .Is) (fun x y H Q => y = .non ∧ Q (.bl (decide (x = .non))) H) := by
  intro pins s σ H x y v u Q I rx ry h
  obtain ⟨rfl, q⟩ := h
  cases ry
  refine is_none_gen (fin_bl I q ?_)
  cases x <;> first
    | (cases rx; rfl)
    | (obtain ⟨t, rfl⟩ := rx; rfl)
theorem OpR.or {f : Value → Value → Sem Value} {r r' : R2} (h : OpR X f r) (h' : OpR X f r') : OpR X f (fun x y H Q => r x y H Q ∨ r' x y H Q) := by
  intro pins s σ H x y v u Q I rx ry q
  rcases q with q | q
  · exact h pins s σ H x y v u Q I rx ry q
  · exact h' pins s σ H x y v u Q I rx ry q
theorem nomark (b : Expr) {op : CmpOp} (h : op ≠ .In := by decide) (h2 : op ≠ .NotIn := by decide) : behindInMarks op b = false := by
  have e1 : (op == CmpOp.In) = false := by cases op <;> first | rfl | exact absurd rfl h
  have e2 : (op == CmpOp.NotIn) = false := by cases op <;> first | rfl | exact absurd rfl h2
  cases b <;> simp [behindInMarks, e1, e2]
theorem pe_cmpR {op : CmpOp} {r : R2} (ho : OpR X (compareOp op) r) (ha : PE X a ta) (hb : PE X b tb) (hm : behindInMarks op b = false) : PE X (.Compare a [op] [b] pos) (tOp r ta tb) := by
  intro pins s σ H Q I h
  exact wpAny_Compare1 (binT ha hb I h fun v u s2 x y H2 I2 rx ry q => ho pins s2 σ H2 x y v u Q I2 rx ry q) hm
def tTest (t : TE) : TT := fun σ H Q => t σ H fun x H' => ∃ k, x = .bl k ∧ Q k H'
theorem pt_cmpR {op : CmpOp} {r : R2} (ho : OpR X (compareOp op) r) (ha : PE X a ta) (hb : PE X b tb) (hm : behindInMarks op b = false) : PT X (.Compare a [op] [b] pos) (tTest (tOp r ta tb)) := by
  intro pins s σ H Q I h
  refine wpAny_isTrue_Compare1 (thn (ha pins s σ H _ I h) fun v s1 ⟨x, H1, I1, r1, q1⟩ => thn (hb pins s1 σ H1 _ I1 q1) fun u s2 ⟨y, H2, I2, r2, q2⟩ =>
    thn (ho pins s2 σ H2 x y v u _ I2 r1 r2 q2) fun c s3 ⟨z, H3, I3, r3, k, e, q3⟩ => ?_) hm
  subst e
  cases r3
  exact wpAny_truthy_bool ⟨H3, I3, q3⟩
def tChain (r r' : R2) (ta tb tc : TE) : TE := fun σ H Q => ta σ H fun x H1 => tb σ H1 fun y H2 => r x y H2 fun z H3 => ∃ k, z = .bl k ∧
  (if k = true then tc σ H3 fun w' H4 => r' y w' H4 Q else Q (.bl false) H3)
theorem pe_chain {op op' : CmpOp} {r r' : R2} (ho : OpR X (compareOp op) r) (ho' : OpR X (compareOp op') r') (ha : PE X a ta) (hb : PE X b tb) (hc : PE X c tc)
    (hm : lastMarks [op, op'] [b, c] = false := by with_unfolding_all rfl) : PE X (.Compare a [op, op'] [b, c] pos) (tChain r r' ta tb tc) := by
  intro pins s σ H Q I h
  refine Compare_chain (thn (ha pins s σ H _ I h) fun v s1 ⟨x, H1, I1, r1, q1⟩ => chain_link (thn (hb pins s1 σ H1 _ I1 q1) fun u s2 ⟨y, H2, I2, r2, q2⟩ =>
    thn (ho pins s2 σ H2 x y v u _ I2 r1 r2 q2) fun d s3 ⟨z, H3, I3, r3, k, e, q3⟩ => ?_)) hm
  subst e
  cases r3
  refine wpAny_truthy_bool ?_
  cases k with
  | false => exact ite_ff ⟨.bl false, H3, I3, rfl, q3⟩
  | true => exact ite_tt (chain_last (thn (hc pins s3 σ H3 _ I3 q3) fun w' s4 ⟨z', H4, I4, r4, q4⟩ => ho' pins s4 σ H4 y z' u w' Q I4 r2 r4 q4))
theorem line63 : (sizeLine : Nat) < 2 ^ 63 := by rw [sizeLine_eq]; decide
theorem op_add_str : OpR X (binaryOp .Add) (fun x y H Q => ∃ i j, x = .str i ∧ y = .str j ∧ i.length + j.length ≤ sizeLine ∧ Q (.str (i ++ j)) H) := by
  intro pins s σ H x y v u Q I rx ry h
  obtain ⟨i, j, rfl, rfl, hz, q⟩ := h
  obtain ⟨t, rfl⟩ := rx
  obtain ⟨t', rfl⟩ := ry
  exact add_str (fun t' tk => ⟨.str (i ++ j), H, I.tok _, ⟨_, rfl⟩, q⟩) hz
theorem vals1 {x : V} {us : List Value} (r : Vals [x] us) : ∃ u, us = [u] ∧ RelV x u := by
  cases r with
  | cons r1 r2 => cases r2; exact ⟨_, rfl, r1⟩
theorem vals2 {x y : V} {us : List Value} (r : Vals [x, y] us) : ∃ u w', us = [u, w'] ∧ RelV x u ∧ RelV y w' := by
  cases r with
  | cons r1 r2 =>
    cases r2 with
    | cons r3 r4 => cases r4; exact ⟨_, _, rfl, r1, r3⟩
theorem call_int1 : CallR X (.type "int") (fun xs H Q => (∃ i, xs = [.int i] ∧ Q (.int i) H) ∨ ∃ k, xs = [.bl k] ∧ Q (.int (if k then 1 else 0)) H) := by
  intro pins s σ H xs us Q I r h
  rcases h with ⟨i, rfl, q⟩ | ⟨k, rfl, q⟩
  · obtain ⟨u, rfl, t, rfl⟩ := vals1 r
    exact call_int_int ⟨.int i, H, I, ⟨_, rfl⟩, q⟩
  · obtain ⟨u, rfl, r1⟩ := vals1 r
    cases r1
    exact call_int_bool ⟨.int (if k then 1 else 0), H, I.tok _, ⟨_, rfl⟩, q⟩
end
end L2
namespace L2
open PySem PySem.Spec PyProof.Rows
structure ObjM (h : Heap) (x dx C : Addr) (mA : Str → Option Value) : Prop where
  obj : h.get? x = some (PySem.W.instObj C dx)
  ns : h.Ns1 dx mA
  ne : dx ≠ x
theorem lookIn_ns {h : Heap} {dx : Addr} {mA : Str → Option Value} (n : h.Ns1 dx mA) : ∃ od, h.get? dx = some od ∧ ∀ name, PySem.W.lookIn name od = some (mA name) := by
  obtain ⟨o, es, ep, ho, hd, hk, _, hm⟩ := n
  refine ⟨o, ho, fun name => ?_⟩
  have e := hm name
  unfold nsFind findBy at e
  rw [← Array.find?_toList] at e
  unfold PySem.W.lookIn
  rw [hd]
  dsimp only
  split
  · rename_i y q
    rw [q] at e
    exact congrArg some e
  · rename_i q
    rw [q] at e
    have a : es.toList.any (·.refKey) = false := by
      rw [List.any_eq_false]
      intro y hy
      obtain ⟨z, t, hkey⟩ := hk y (Array.mem_toList_iff.mp hy)
      simp [DictEntry.refKey, hkey]
    have a' : ¬ es.toList.any (·.refKey) = true := by rw [a]; exact Bool.false_ne_true
    rw [if_neg a']
    exact congrArg some e
theorem ObjM.look {h : Heap} {x dx C : Addr} {mA : Str → Option Value} (I : ObjM h x dx C mA) : ∃ od, PySem.W.InstAt h x (PySem.W.instObj C dx) C (some od) ∧ ∀ name, PySem.W.lookIn name od = some (mA name) :=
  let ⟨od, ho, hl⟩ := lookIn_ns I.ns
  ⟨od, ⟨I.obj, rfl, rfl, ho⟩, hl⟩
section
variable {prog : Program} {w : World} {A : Around} {E : Value → Shared → Prop} {s : Shared} {K : PySem.W.Frag} {x dx C f : Addr} {mA : Str → Option Value} {name : Str} {v : Value}
end
def putF (f : Str) (v : V) : List (Str × V) → List (Str × V)
  | [] => [(f, v)]
  | (g, x) :: r => if g = f then (g, v) :: r else (g, x) :: putF f v r
theorem RelO.some_of {v : V} {o : Option Value} (r : RelO (some v) o) : ∃ u, o = some u ∧ RelV v u := by
  cases o with
  | none => exact (show False from r).elim
  | some u => exact ⟨u, rfl, r⟩
section
variable {P : Program} {w : World} {H H' : Hp} {h h' : Heap} {a C dx : Addr} {fs fs' : List (Str × V)}
end
structure Cls (K : PySem.W.Frag) (C : Addr) : Prop where
  pg : PySem.W.plainGet K C Str.empty = true
  hd : PySem.W.hasDictIn K C = true
  po : PySem.W.plainOver K C = true
  sa : PySem.W.findIn K (.ref C) "__setattr__" = some (some (.builtin "object.__setattr__"))
theorem Cls.get {K : PySem.W.Frag} {C : Addr} (c : Cls K C) (f : Str) : PySem.W.plainGet K C f = true := c.pg
section
variable {X : Cx} {pins : List (Addr × Obj)} {σ : St} {H : Hp} {s : Shared} {a C dx : Addr} {fs : List (Str × V)} {f : Str} {v : V} {A : Around} {E : Value → Shared → Prop}
theorem Inv.made (I : Inv X pins σ H s) : Inv X pins σ (upd (upd H s.heap.objs.size (.own (s.heap.objs.size + 1))) (s.heap.objs.size + 1) (.ins C s.heap.objs.size []))
    { s with heap := (s.heap.push PySem.W.emptyDict).push (PySem.W.instObj C s.heap.objs.size) } := by
  have e1 : (s.heap.push PySem.W.emptyDict).get? s.heap.objs.size = some PySem.W.emptyDict := Heap.get?_push_size s.heap rfl
  have e2 : ((s.heap.push PySem.W.emptyDict).push (PySem.W.instObj C s.heap.objs.size)).get? (s.heap.objs.size + 1) = some (PySem.W.instObj C s.heap.objs.size) := by
    have := Heap.get?_push_size (s.heap.push PySem.W.emptyDict) (o := PySem.W.instObj C s.heap.objs.size) rfl
    rwa [Heap.size_push] at this
  have e3 : (s.heap.push PySem.W.emptyDict).Ns s.heap.objs.size (fun _ => none) := ⟨PySem.W.emptyDict, #[], _, e1, rfl, (fun e he => absurd he (by simp)), fun _ => rfl⟩
  have I1 := I.laid (a := s.heap.objs.size) (o := .own (s.heap.objs.size + 1)) (h' := s.heap.push PySem.W.emptyDict) (t' := s.toks) (fun b u q => Heap.get?_push_of_some _ q) (Nat.le_refl _) ⟨_, e1⟩
  refine I1.laid (a := s.heap.objs.size + 1) (o := .ins C s.heap.objs.size []) (t' := s.toks) (fun b u q => Heap.get?_push_of_some _ q) (Nat.le_of_eq (Heap.size_push _ _)) ?_
  have ne : s.heap.objs.size ≠ s.heap.objs.size + 1 := Nat.ne_of_lt (Nat.lt_succ_self _)
  refine ⟨by rw [upd_ne ne, upd_same], Nat.zero_le _, ne, e2, fun _ => none, (Heap.Ns1.of_empty e3).at fun o q => Heap.get?_push_of_some _ q, fun _ => True.intro, fun y hy => absurd rfl hy⟩
theorem attr_of {prog : Program} {w : World} {env : Env} {e : Expr} {f : Str} {pos : Pos} {s : Shared} {Q : Value → Shared → Prop} (hb : attributeBase e f env (eval e env) = eval e env)
    (h : wpAny (model prog w) A (eval e env) (fun o s₁ => wpAny (model prog w) A (getAttr o f true) Q E s₁) E s) : wpAny (model prog w) A (eval (.Attribute e f pos) env) Q E s :=
  Attribute_any_ h (by rw [arm_eval_Attribute, hb])
end
section
variable {X : Cx} {o e value : Expr} {f : Str} {pos pos' tpos : Pos} {ta tv : TE}
end
section
variable {X : Cx} {pins : List (Addr × Obj)} {σ : St} {H : Hp} {s : Shared} {A : Around} {E : Value → Shared → Prop} {Q : Value → Shared → Prop} {c : Value} {b : Bool}
inductive TyOf (K : PySem.W.Frag) (H : Hp) : V → Value → Prop where
  | non : TyOf K H .non (.type "NoneType")
  | bl (x : Bool) : TyOf K H (.bl x) (.type "bool")
  | int (i : Int) : TyOf K H (.int i) (.type "int")
  | str (x : Str) : TyOf K H (.str x) (.type "str")
  | flt (x : UInt64) : TyOf K H (.flt x) (.type "float")
  | lst {a : Addr} {xs : List V} (e : H a = some (.lst xs)) : TyOf K H (.ref a) (.type "list")
  | frz {a : Addr} {o : Obj} {xs : List V} (e : H a = some (.frz o (.lst xs))) : TyOf K H (.ref a) (.type "list")
  | tup {a : Addr} {xs : List V} (e : H a = some (.tup xs)) : TyOf K H (.ref a) (.type "tuple")
  | tupC {a : Addr} {xs : List V} (e : KTup K a xs) : TyOf K H (.ref a) (.type "tuple")
  | dK {a : Addr} {kvs : List (Key × V)} (e : H a = some (.dK kvs)) : TyOf K H (.ref a) (.type "dict")
  | dT {a : Addr} {kvs : List (List Key × V)} (e : H a = some (.dT kvs)) : TyOf K H (.ref a) (.type "dict")
  | ins {a C dx : Addr} {fs : List (Str × V)} (e : H a = some (.ins C dx fs)) (cl : Cls K C) (ha : PySem.W.findIn K (.ref C) "__class__" = some (some (.builtin "object.__class__")))
      (hn : PySem.W.specialIn K (.builtin "object.__class__") "__get__" = some (some (.builtin "getset_descriptor.__get__"))) (htk : PySem.W.takesIn K (.builtin "object.__class__") = some true)
      (hm : PySem.W.mroIn K C (.type "object") = some true) : TyOf K H (.ref a) (.ref C)
end
end L2
namespace L2
open PySem PySem.Spec PyProof.Rows
structure Room (k : Nat) (A : Around) : Prop where
  hd : A.handled = none
  dp : A.depth + 3 * k + 5 < recursionLimit
  un : A.units + 16 * k + 200 < cLine
theorem Room.mono {j k : Nat} {A : Around} (r : Room k A) (h : j ≤ k) : Room j A := ⟨r.hd, by have := r.dp; omega, by have := r.un; omega⟩
theorem Room.deeper {k : Nat} {A : Around} (r : Room (k + 1) A) (env : Env) : Room k (A.deeper env) :=
  ⟨r.hd, by have := r.dp; show A.depth + 1 + 3 * k + 5 < _; omega, by have := r.un; show A.units + 3 + 16 * k + 200 < _; omega⟩
theorem Room.in1 {k : Nat} {A : Around} (r : Room (k + 1) A) : Room k A.in1 :=
  ⟨r.hd, by have := r.dp; show A.depth + 3 * k + 5 < _; omega, by have := r.un; show A.units + 1 + 16 * k + 200 < _; omega⟩
theorem make_depth {A : Around} {C : Addr} {us : List Value} {kw : List (Str × Value)} : (A.under (.builtin "type.__call__" ⟨.ref C :: us, kw⟩)).depth = A.depth + 1 := by
  first | rfl | simp [Around.under, Code.weight, Code.isCreation, Code.isGuard, Code.isCaller, Code.frames, Code.isFrame, guardIds]
theorem make_units {A : Around} {C : Addr} {us : List Value} {kw : List (Str × Value)} : (A.under (.builtin "type.__call__" ⟨.ref C :: us, kw⟩)).units = A.units + 1 := by
  first | rfl | simp [Around.under, Code.cUnits, Code.frames, Code.isFrame]
theorem Room.make {k : Nat} {A : Around} (r : Room (k + 1) A) (C : Addr) (us : List Value) (kw : List (Str × Value)) : Room k (A.under (.builtin "type.__call__" ⟨.ref C :: us, kw⟩)) :=
  ⟨r.hd, by have := r.dp; rw [make_depth]; omega, by have := r.un; rw [make_units]; omega⟩
theorem Room.depth {k : Nat} {A : Around} (r : Room k A) : A.depth < recursionLimit := by have := r.dp; omega
theorem Room.units {k : Nat} {A : Around} (r : Room k A) : A.units + 64 < cLine := by have := r.un; omega
theorem Room.units0 {k : Nat} {A : Around} (r : Room k A) : A.units < cLine := by have := r.un; omega
def tNil : TA := fun _ H Q => Q [] H
def tCons (ta : TE) (tr : TA) : TA := fun σ H Q => ta σ H fun x H1 => tr σ H1 fun xs H2 => Q (x :: xs) H2
section
variable {X : Cx} {e : Expr} {es : List Expr} {te : TE} {t : TA} {pos : Pos}
theorem pa_nil : PA X [] tNil := fun _ _ _ _ H Q I h => Calls.spliced_nil ⟨[], H, I, .nil, h⟩
theorem pa_cons (ha : PE X e te) (hr : PA X es t) (hs : starEach (e :: es) X.env = (false, eval e X.env) :: starEach es X.env := by rfl) : PA X (e :: es) (tCons te t) := by
  intro pos pins s σ H Q I h
  rw [hs]
  show wpAny _ _ (spliced ((false, eval e X.env) :: backTo pos (starEach es X.env))) _ _ s
  refine Calls.spliced_cons (thn (ha pins s σ H _ I h) fun u s1 ⟨x, H1, I1, r1, q1⟩ => ?_)
  exact thn (hr pos pins s1 σ H1 _ I1 q1) fun us s2 ⟨xs, H2, I2, r2, q2⟩ => ⟨x :: xs, H2, I2, .cons r1 r2, q2⟩
def tTup (t : TA) : TE := fun σ H Q => t σ H fun xs H1 => xs.length ≤ sizeLine ∧ ∀ p, H1 p = none → Q (.ref p) (upd H1 p (.tup xs))
def tLst (t : TA) : TE := fun σ H Q => t σ H fun xs H1 => xs.length ≤ sizeLine ∧ ∀ p, H1 p = none → Q (.ref p) (upd H1 p (.lst xs))
theorem pe_tup {x1} (h : PA X es t) : PE X (.Tuple es x1 pos) (tTup t) := by
  intro pins s σ H Q I hq
  refine wpAny_Tuple_spliced (thn (h pos pins s σ H _ I hq) fun us s1 ⟨xs, H1, I1, r, z, q⟩ => ⟨by rw [← r.length]; exact z, ?_⟩)
  have hf : H1 s1.heap.objs.size = none := I1.hok.fresh (Nat.le_refl _)
  refine ⟨.ref s1.heap.objs.size, upd H1 s1.heap.objs.size (.tup xs), I1.laid (t' := s1.toks) (fun b u e => Heap.get?_push_of_some _ e) (Nat.le_refl _) ?_, rfl, q _ hf⟩
  exact ⟨z, us, r, ⟨_, Heap.get?_push_size _ rfl, rfl, _, rfl⟩⟩
theorem pe_lst (h : PA X es t) : PE X (.List es pos) (tLst t) := by
  intro pins s σ H Q I hq
  refine wpAny_List_spliced (thn (h pos pins s σ H _ I hq) fun us s1 ⟨xs, H1, I1, r, z, q⟩ => ⟨by rw [← r.length]; exact z, ?_⟩)
  have hf : H1 s1.heap.objs.size = none := I1.hok.fresh (Nat.le_refl _)
  refine ⟨.ref s1.heap.objs.size, upd H1 s1.heap.objs.size (.lst xs), I1.laid (t' := s1.toks) (fun b u e => Heap.get?_push_of_some _ e) (Nat.le_refl _) ?_, rfl, q _ hf⟩
  exact ⟨z, us, 0, r, Heap.get?_push_size _ rfl⟩
end
abbrev Sp := List V → Hp → VK → XK → Prop
abbrev CXT := List Env → Hp → Shared → XK → Value → Shared → Prop
structure Env0 (P : Program) (w : World) (K : PySem.W.Frag) (mg : Str → Option Value) (base : Heap) (A : Around) (outer : List Env) (s : Shared) (H : Hp) : Prop where
  frames : A.frames = some outer
  mod : Mod K mg base
  bs : ∀ b o, base.get? b = some o → s.heap.get? b = some o ∧ H b = none
  bsz : base.objs.size ≤ s.heap.objs.size
  funs : s.heap.FunFrames base outer
  frf : ∀ b ∈ frs outer, H b = none
  hok : HOk P w K H s.heap
  bare : AllBare s.gens
def CE (outer : List Env) (P : Program) (w : World) (K : PySem.W.Frag) (H : Hp) (s : Shared) (Q : VK) (u : Value) (s' : Shared) : Prop :=
  ∃ v H', s'.os = s.os ∧ AllBare s'.gens ∧ Un (frs outer) [] H H' s.heap s'.heap ∧ HOk P w K H' s'.heap ∧ RelV v u ∧ Q v H'
def CR (CX : CXT) (outer : List Env) (P : Program) (w : World) (K : PySem.W.Frag) (H : Hp) (s : Shared) (Q : VK) (E : XK) (r : Result) (s' : Shared) : Prop :=
  match r with
  | .ok (.ret u) => CE outer P w K H s Q u s'
  | .ok _ => False
  | .error e => CX outer H s E e s'
structure FnOk (P : Program) (w : World) (K : PySem.W.Frag) (mg : Str → Option Value) (base : Heap) (CX : CXT) (k : Nat) (f : Addr) (fd : FuncData) (ps : List Str) (sp : Sp) : Prop where
  len : ∀ vs H Q E, sp vs H Q E → vs.length = ps.length
  run : ∀ (A : Around) (outer : List Env) (s : Shared) (H : Hp) (args : Args) (us : List Value) (vs : List V) (Q : VK) (E : XK), Room k A → Env0 P w K mg base A outer s H → BindsTo s fd args (ps.zip us) → Vals vs us → sp vs H Q E →
    codeAny (model P w) A (.call (.ref f) args) (CR CX outer P w K H s Q E) s
theorem FnOk.mono {P : Program} {w : World} {K : PySem.W.Frag} {mg : Str → Option Value} {base : Heap} {CX : CXT} {j k : Nat} {f : Addr} {fd : FuncData} {ps : List Str} {sp : Sp} (F : FnOk P w K mg base CX j f fd ps sp) (h : j ≤ k) :
    FnOk P w K mg base CX k f fd ps sp := ⟨F.len, fun A outer s H args us vs Q E hr => F.run A outer s H args us vs Q E (hr.mono h)⟩
theorem FnOk.imp {P : Program} {w : World} {K : PySem.W.Frag} {mg : Str → Option Value} {base : Heap} {CX : CXT} {k : Nat} {f : Addr} {fd : FuncData} {ps : List Str} {sp sp' : Sp} (F : FnOk P w K mg base CX k f fd ps sp)
    (h : ∀ vs H Q E, sp' vs H Q E → sp vs H Q E) : FnOk P w K mg base CX k f fd ps sp' :=
  ⟨fun vs H Q E q => F.len vs H Q E (h _ _ _ _ q), fun A outer s H args us vs Q E hr he hb hv hs => F.run A outer s H args us vs Q E hr he hb hv (h _ _ _ _ hs)⟩
theorem Env0.make {P : Program} {w : World} {K : PySem.W.Frag} {mg : Str → Option Value} {base : Heap} {A : Around} {outer : List Env} {s : Shared} {H : Hp} (e : Env0 P w K mg base A outer s H) (C : Addr) (us : List Value) (kw : List (Str × Value)) :
    Env0 P w K mg base (A.under (.builtin "type.__call__" ⟨.ref C :: us, kw⟩)) outer s H := ⟨by first | exact e.frames | (simpa [Around.under, Code.envs, Code.isFrame, pushEnvs] using e.frames), e.mod, e.bs, e.bsz, e.funs, e.frf, e.hok, e.bare⟩
theorem Env0.in1 {P : Program} {w : World} {K : PySem.W.Frag} {mg : Str → Option Value} {base : Heap} {A : Around} {outer : List Env} {s : Shared} {H : Hp} (e : Env0 P w K mg base A outer s H) :
    Env0 P w K mg base A.in1 outer s H := ⟨e.frames, e.mod, e.bs, e.bsz, e.funs, e.frf, e.hok, e.bare⟩
section
variable {X : Cx} {pins : List (Addr × Obj)} {σ : St} {H : Hp} {s s' : Shared}
theorem Inv.env0 (I : Inv X pins σ H s) : Env0 X.prog X.w X.K X.mg X.base X.A X.stack s H :=
  ⟨I.ok.frames, I.ok.mod, I.bs, Nat.le_trans I.ok.bsz I.sz, I.stack, I.stkFree, I.hok, I.bare⟩
theorem Inv.after {Q : VK} {u : Value} (I : Inv X pins σ H s) (h : CE X.stack X.prog X.w X.K H s Q u s') : EP X pins σ Q u s' := by
  obtain ⟨v, H', os, bare, un, hok, r, q⟩ := h
  obtain ⟨hh, g, d, t, os'⟩ := s'
  obtain rfl : os' = s.os := os
  exact ⟨v, H', I.call (h' := hh) (g' := g) (d' := d) (t' := t) (ch := []) un hok bare (fun b z => absurd z (by simp)), r, q⟩
end
def tCall (sp : Sp) (dvs : List V) (E : XK) (t : TA) : TE := fun σ H Q => t σ H fun vs H1 => sp (vs ++ dvs) H1 Q E
def Binds (K : PySem.W.Frag) (fd : FuncData) (ps : List Str) (ds : List Value) : Prop :=
  ∀ (s : Shared) (us : List Value), K.In s.heap → (us ++ ds).length = ps.length → BindsTo s fd ⟨us, []⟩ (ps.zip (us ++ ds))
theorem Binds.all {K : PySem.W.Frag} {fd : FuncData} {ps : List Str} (h : ∀ us : List Value, us.length = ps.length → bindArgs fd ⟨us, []⟩ = pure (ps.zip us)) : Binds K fd ps [] := fun s us _ hl => by
  rw [List.append_nil] at hl ⊢
  exact .of_eq (h us hl)
def Passes (CX : CXT) (X : Cx) (E : XK) : Prop := ∀ (pins : List (Addr × Obj)) (σ : St) (H : Hp) (s : Shared) (e : Value) (s' : Shared), Inv X pins σ H s → CX X.stack H s E e s' → X.xe e s'
section
variable {X : Cx} {CX : CXT} {k : Nat} {f C : Addr} {fd : FuncData} {ps : List Str} {sp : Sp} {dvs : List V} {ds : List Value} {E : XK} {x m : Str} {p pos apos : Pos} {e o : Expr} {es : List Expr} {ta : TE} {t : TA}
theorem run_fn {pins : List (Addr × Obj)} {σ : St} {H : Hp} {s : Shared} {Q : VK} {us : List Value} {vs : List V} (F : FnOk X.prog X.w X.K X.mg X.base CX k f fd ps sp) (hr : Room k X.A) (hb : Binds X.K fd ps ds) (hd : Vals dvs ds) (hx : Passes CX X E)
    (I : Inv X pins σ H s) (r : Vals vs us) (h : sp (vs ++ dvs) H Q E) : wpAny (model X.prog X.w) X.A (call (.ref f) us) (EP X pins σ Q) X.xe s := by
  have r2 : Vals (vs ++ dvs) (us ++ ds) := r.append hd
  have hl : (us ++ ds).length = ps.length := by rw [← r2.length]; exact F.len _ _ _ _ h
  refine wpAny_call (codeAny_mono (F.run X.A X.stack s H ⟨us, []⟩ (us ++ ds) (vs ++ dvs) Q E hr I.env0 (hb s us I.kIn hl) r2 h) fun r s' hq => ?_)
  cases r with
  | error e => exact hx pins σ H s e s' I hq
  | ok fl =>
    cases fl with
    | ret u => exact I.after hq
    | next => exact False.elim hq
    | brk => exact False.elim hq
    | cont => exact False.elim hq
theorem pe_call (F : FnOk X.prog X.w X.K X.mg X.base CX k f fd ps sp) (hr : Room k X.A) (hg : Gl X x) (hm : X.mg x = some (.ref f)) (hk : PySem.W.keepIn X.K (.ref f) = true) (hb : Binds X.K fd ps ds) (hd : Vals dvs ds) (hx : Passes CX X E)
    (ha : PA X (e :: es) t) (hdb : (x == ("__debug__" : Str)) = false := by decide) (he : starEach (e :: es) X.env = (false, eval e X.env) :: starEach es X.env := by rfl) (hpl : (backTo pos (starEach es X.env)).any (·.1) = false := by rfl) :
    PE X (.Call (.Name x p) (e :: es) [] pos) (tCall sp dvs E t) := by
  intro pins s σ H Q I h
  refine wpAny_Call_Name_kw (ld_glob I hg hm ?_ hdb)
  refine PySem.W.callWith_K (h₀ := X.base) I.ok.mod.kin hk (thn (ha pos pins s σ H _ I h) fun us s1 ⟨vs, H1, I1, r, q⟩ => ⟨I1.kIn, ?_⟩) he hpl
  exact run_fn F hr hb hd hx I1 r q
end
section
variable {X : Cx} {CX : CXT} {k : Nat} {f C : Addr} {fd : FuncData} {ps ks : List Str} {sp : Sp} {E : XK} {x m : Str} {p pos apos kpos : Pos} {e o : Expr} {es : List Expr} {kws : List Keyword} {te ta : TE} {t tk : TA} {nm : Option Str}
variable {g : List Value → List Value → List Value} {gV : List V → List V → List V}
end
structure FnScope (N P : List Str) (sc : Scope) : Prop where
  kind : sc.kind = .function
  co : sc.isCoroutine = false
  gen : sc.isGenerator = false
  nd : N.Nodup
  pre : N.take P.length = P
  par : ∀ x ∈ P, sc.names.lookup x = some .local ∨ sc.names.lookup x = some .cell
  nofree : ∀ y ∈ sc.names, y.2 ≠ .free
theorem bindL_out {kindOf : Str → Option NameKind} {x : Str} : ∀ {binds : List (Str × Value)} {m : Str → Option Value}, (∀ v, (x, v) ∉ binds) → bindL kindOf binds m x = m x
  | [], _, _ => rfl
  | (n, v) :: r, m, h => by
    unfold bindL
    rw [bindL_out fun w hw => h w (List.mem_cons_of_mem _ hw)]
    split
    · have : x ≠ n := by rintro rfl; exact h v List.mem_cons_self
      simp [this]
    · rfl
theorem bindC_out {kindOf : Str → Option NameKind} {x : Str} : ∀ {binds : List (Str × Value)} {m : Str → Option Value}, (∀ v, (x, v) ∉ binds) → bindC kindOf binds m x = m x
  | [], _, _ => rfl
  | (n, v) :: r, m, h => by
    unfold bindC
    rw [bindC_out fun w hw => h w (List.mem_cons_of_mem _ hw)]
    split
    · rfl
    · have : x ≠ n := by rintro rfl; exact h v List.mem_cons_self
      simp [this]
theorem bindL_get {kindOf : Str → Option NameKind} {x : Str} {v : Value} : ∀ {P : List Str} {vs : List Value} {i : Nat} {m : Str → Option Value}, P.Nodup → P[i]? = some x → vs[i]? = some v → kindOf x = some .local →
    bindL kindOf (P.zip vs) m x = some v
  | [], _, _, _, _, h, _, _ => by simp at h
  | _ :: _, [], _, _, _, _, h, _ => by simp at h
  | p :: P, w :: vs, 0, m, nd, h1, h2, hk => by
    simp at h1 h2; subst h1; subst h2
    show bindL kindOf ((p, w) :: P.zip vs) m p = _
    unfold bindL
    rw [bindL_out fun v hv => (List.nodup_cons.mp nd).1 (List.of_mem_zip hv).1, if_pos hk]
    simp
  | p :: P, w :: vs, i + 1, m, nd, h1, h2, hk => by
    show bindL kindOf ((p, w) :: P.zip vs) m x = _
    unfold bindL
    exact bindL_get (i := i) (List.nodup_cons.mp nd).2 (by simpa using h1) (by simpa using h2) hk
theorem bindC_get {kindOf : Str → Option NameKind} {x : Str} {v : Value} : ∀ {P : List Str} {vs : List Value} {i : Nat} {m : Str → Option Value}, P.Nodup → P[i]? = some x → vs[i]? = some v → kindOf x ≠ some .local →
    bindC kindOf (P.zip vs) m x = some v
  | [], _, _, _, _, h, _, _ => by simp at h
  | _ :: _, [], _, _, _, _, h, _ => by simp at h
  | p :: P, w :: vs, 0, m, nd, h1, h2, hk => by
    simp at h1 h2; subst h1; subst h2
    show bindC kindOf ((p, w) :: P.zip vs) m p = _
    unfold bindC
    rw [bindC_out fun v hv => (List.nodup_cons.mp nd).1 (List.of_mem_zip hv).1, if_neg hk]
    simp
  | p :: P, w :: vs, i + 1, m, nd, h1, h2, hk => by
    show bindC kindOf ((p, w) :: P.zip vs) m x = _
    unfold bindC
    exact bindC_get (i := i) (List.nodup_cons.mp nd).2 (by simpa using h1) (by simpa using h2) hk
def start (N : List Str) (vs : List V) : St := vs.map some ++ List.replicate (N.length - vs.length) none
def cxOf (CX : CXT) (P : Program) (w : World) (K : PySem.W.Frag) (mg : Str → Option Value) (base : Heap) (N : List Str) (qual : Str) (scope : Scope) (f : Addr) (cd : Value) (A : Around) (outer : List Env) (s : Shared) (H : Hp) (E : XK) : Cx where
  prog := P
  w := w
  K := K
  mg := mg
  base := base
  A := A.deeper (envOfC qual scope s.heap.objs.size f cd)
  N := N
  s₀ := s
  H₀ := H
  env := envOfC qual scope s.heap.objs.size f cd
  outer := outer
  stack := envOfC qual scope s.heap.objs.size f cd :: outer
  ex := []
  calm := true
  fn := fun _ => true
  pn := []
  xe := fun e s' => wpAny (model P w) (A.deeper (envOfC qual scope s.heap.objs.size f cd)) (leaving (envOfC qual scope s.heap.objs.size f cd) e) (fun _ s'' => CX outer H s E e s'') (fun e' s'' => CX outer H s E e' s'') s'
theorem cell_has {sc : Scope} {n : Nat} {x : Str} (h : sc.names.lookup x = some .cell) : ∃ c, (cellsFrom n sc.names []).lookup x = some c := by
  have q := PySem.W.cellsFrom_some sc.names n [] (.inl h)
  exact Option.isSome_iff_exists.mp q
theorem inv_start {CX : CXT} {P : Program} {w : World} {K : PySem.W.Frag} {mg : Str → Option Value} {base : Heap} {N ps : List Str} {qual : Str} {scope : Scope} {f : Addr} {cd : Value} {A : Around} {outer : List Env} {s s1 : Shared} {H : Hp} {E : XK} {us : List Value} {vs : List V}
    (S : FnScope N ps scope) (hd : A.handled = none) (e0 : Env0 P w K mg base A outer s H) (hl : vs.length = ps.length) (r : Vals vs us)
    (x : InCallC s s.heap.objs.size (bindL (envOfC qual scope s.heap.objs.size f cd).kindOf (ps.zip us) fun _ => none) (cellsFrom (s.heap.objs.size + 1) scope.names []) (bindC (envOfC qual scope s.heap.objs.size f cd).kindOf (ps.zip us) fun _ => none) s1) :
    Inv (cxOf CX P w K mg base N qual scope f cd A outer s H E) [] (start N vs) H s1 := by
  have hpl : ps.length ≤ N.length := by have := congrArg List.length S.pre; rw [List.length_take] at this; omega
  obtain ⟨h1, tk, rfl, hk⟩ := x.done
  have noA : ∀ b : Addr, b ∉ (cxOf CX P w K mg base N qual scope f cd A outer s H E).ex := fun b z => absurd (show b ∈ ([] : List Addr) from z) (by simp)
  refine ⟨⟨e0.mod, S.kind, rfl, rfl, Nat.le_refl _, fun y z c h1 h2 => ?_, fun y hy => ?_, fun y c _ h => ?_, fun _ => hd, Around.frames_deeper e0.frames, .inr ⟨rfl, rfl⟩, fun b z => absurd z (noA b), e0.bs, e0.bsz, fun b _ _ => noA b, fun b z => absurd z (noA b), e0.funs, e0.frf⟩,
    rfl, e0.bare, Un.kept hk, ⟨_, x.toInCall.ns, fun i y v h1 h2 h3 => ?_⟩, fun y c h => ⟨_, x.cell y c h⟩, e0.hok.fresh (Nat.le_refl _), fun y c h => ?_, fun p hp => absurd (show p ∈ ([] : List (Addr × Obj)) from hp) (by simp), e0.hok.kept hk, ?_⟩
  · exact name_of_addr x.apart (PySem.mem_of_lookup h1) (PySem.mem_of_lookup h2)
  · have hy : scope.names.lookup y = some .cell ∨ scope.names.lookup y = some .free := hy
    rcases hy with hy | hy
    · exact cell_has hy
    · exact absurd rfl (S.nofree _ (PySem.mem_of_lookup hy))
  · exact Nat.le_of_lt (x.above y c (PySem.mem_of_lookup h))
  · have hi : i < vs.length := by
      unfold start at h2
      by_cases hi : i < vs.length
      · exact hi
      · rw [List.getElem?_append_right (by simpa using hi)] at h2
        rw [List.getElem?_replicate] at h2
        split at h2 <;> cases h2
    have ha : vs[i]? = some v := by
      unfold start at h2
      rw [List.getElem?_append_left (by simpa using hi), List.getElem?_map] at h2
      cases e : vs[i]? with
      | none => rw [e] at h2; cases h2
      | some a => rw [e] at h2; cases h2; rfl
    obtain ⟨u, hu, rv⟩ := r.get ha
    have hp : ps[i]? = some y := by
      rw [← S.pre, List.getElem?_take_of_lt (by omega)]; exact h1
    have ndP : ps.Nodup := by rw [← S.pre]; exact S.nd.sublist (List.take_sublist _ _)
    refine ⟨u, rv, ?_⟩
    rcases S.par y (List.mem_of_getElem? hp) with k | k
    · exact .inl ⟨k, bindL_get ndP hp hu k⟩
    · obtain ⟨c, e⟩ := cell_has (n := s.heap.objs.size + 1) k
      refine .inr ⟨.inl k, c, e, ?_⟩
      have q := x.cell y c e
      rw [bindC_get ndP hp hu (by show scope.names.lookup y ≠ _; rw [k]; decide)] at q
      exact q
  · exact e0.hok.fresh (Nat.le_of_lt (x.above y c (PySem.mem_of_lookup h)))
  · unfold start
    show _ = N.length
    rw [List.length_append, List.length_map, List.length_replicate]
    omega
theorem fn_of {CX : CXT} {P : Program} {w : World} {K : PySem.W.Frag} {mg : Str → Option Value} {base : Heap} {k : Nat} {f : Addr} {name qual : Str} {params : Arguments} {body : List Stmt} {scope : Scope} {dV kV doc pm cdv ct oc : Value} {an od : Option Addr}
    {osl : Array (Option Value)} {N ps : List Str} {sp : Sp} (lk : K.lookup f = some ⟨oc, od, .func (PySem.W.fnOf name qual params body scope dV kV doc pm an cdv ct), osl⟩) (hcd : PySem.W.codeIn K cdv qual = true) (S : FnScope N ps scope)
    (len : ∀ vs H Q E, sp vs H Q E → vs.length = ps.length)
    (hbody : ∀ (A : Around) (outer : List Env) (s : Shared) (H : Hp) (vs : List V) (Q : VK) (E : XK), Room k (A.deeper (envOfC qual scope s.heap.objs.size f cdv)) → sp vs H Q E →
      ∃ t, PSs (cxOf CX P w K mg base N qual scope f cdv A outer s H E) body t ∧ t { nx := fun _ H' => Q .non H', rt := Q } (start N vs) H) :
    FnOk P w K mg base CX (k + 1) f (PySem.W.fnOf name qual params body scope dV kV doc pm an cdv ct) ps sp := by
  refine ⟨len, fun A outer s H args us vs Q E hr e0 hb r hsp => ?_⟩
  have hl := len _ _ _ _ hsp
  have KX : K.In s.heap := e0.mod.kin.keeps fun b o e => (e0.bs b o e).1
  have lim : s.heap.NoLimit := e0.mod.nolimit.keeps fun b o e => (e0.bs b o e).1
  have hkind : ∀ y ∈ ps.zip us, scope.names.lookup y.1 = some .local ∨ (scope.names.lookup y.1 = some .cell ∧ ((cellsFrom (s.heap.objs.size + 1) scope.names []).lookup y.1).isSome = true) := fun ⟨n, v⟩ hy => by
    rcases S.par n (List.of_mem_zip hy).1 with q | q
    · exact .inl q
    · exact .inr ⟨q, PySem.W.cellsFrom_some _ _ _ (.inl q)⟩
  refine codeAny_call_function hr.depth (KX _ _ lk) rfl S.co S.gen rfl (PySem.W.codeRec_of KX hcd) (hb _ _ _ _ ?_)
  refine wpAny_newFunctionEnv_cells S.kind hkind fun env he s1 x => ?_
  subst he
  refine ⟨lim.keeps x.toInCall.keep, codeAny_func ?_⟩
  obtain ⟨t, ht, hq⟩ := hbody A outer s H vs Q E (hr.deeper _) hsp
  have I : Inv (cxOf CX P w K mg base N qual scope f cdv A outer s H E) [] (start N vs) H s1 := inv_start S hr.hd e0 hl r x
  refine wpAny_mono (ht [] s1 (start N vs) H _ I hq) (fun fl s' hs => ?_) fun e s' hs => hs
  have fin : ∀ {σ' : St} {H' : Hp} {v : V} {u : Value}, Inv (cxOf CX P w K mg base N qual scope f cdv A outer s H E) [] σ' H' s' → RelV v u → Q v H' → CE outer P w K H s Q u s' :=
    fun {σ' H' v u} J rv q => ⟨v, H', J.os, J.bare, J.base, J.hok, rv, q⟩
  cases fl with
  | ret u =>
    obtain ⟨v, σ', H', J, rv, q⟩ := hs
    exact fin J rv q
  | next =>
    obtain ⟨σ', H', J, q⟩ := hs
    exact fin (v := V.non) (u := Value.none) J rfl q
  | brk =>
    obtain ⟨_, _, _, q⟩ := hs
    exact False.elim q
  | cont =>
    obtain ⟨_, _, _, q⟩ := hs
    exact False.elim q
end L2
namespace L2
open PySem PySem.Spec PyProof.Rows
section
variable {X : Cx} {x : Str} {p pos : Pos} {e : Expr} {es : List Expr} {t : TA} {id T : String} {r : List V → Hp → VK → Prop}
def tCB (r : List V → Hp → VK → Prop) (t : TA) : TE := fun σ H Q => t σ H fun vs H1 => r vs H1 Q
theorem pe_callB (hc : CallR X (.builtin id) r) (hg : Gl X x) (hm : X.mg x = none) (hv : bootBuiltins x = some (.builtin id)) (ha : PA X (e :: es) t) (hn : x ≠ "__name__" := by decide) (hdb : (x == ("__debug__" : Str)) = false := by decide)
    (he : starEach (e :: es) X.env = (false, eval e X.env) :: starEach es X.env := by rfl) (hpl : (backTo pos (starEach es X.env)).any (·.1) = false := by rfl) : PE X (.Call (.Name x p) (e :: es) [] pos) (tCB r t) := by
  intro pins s σ H Q I h
  refine wpAny_Call_Name_kw (ld_blt I hg hm hv ?_ hn hdb)
  exact PyProof.Rows.callWith_builtin1 (thn (ha pos pins s σ H _ I h) fun us s1 ⟨vs, H1, I1, r1, q1⟩ => hc pins s1 σ H1 vs us Q I1 r1 q1) he hpl
theorem pe_callTy (hc : CallR X (.type T) r) (hg : Gl X x) (hm : X.mg x = none) (hv : bootBuiltins x = some (.type T)) (ha : PA X (e :: es) t) (hn : x ≠ "__name__" := by decide) (hdb : (x == ("__debug__" : Str)) = false := by decide)
    (he : starEach (e :: es) X.env = (false, eval e X.env) :: starEach es X.env := by rfl) (hpl : (backTo pos (starEach es X.env)).any (·.1) = false := by rfl) : PE X (.Call (.Name x p) (e :: es) [] pos) (tCB r t) := by
  intro pins s σ H Q I h
  refine wpAny_Call_Name_kw (ld_blt I hg hm hv ?_ hn hdb)
  exact PyProof.Rows.callWith_type1 (thn (ha pos pins s σ H _ I h) fun us s1 ⟨vs, H1, I1, r1, q1⟩ => hc pins s1 σ H1 vs us Q I1 r1 q1) he hpl
end
end L2
namespace L2
open PySem PySem.Spec PyProof.Rows
section
variable {κ : Type} [DecidableEq κ]
def valV (kvs : List (κ × V)) (k : κ) : Option V := (kvs.find? fun kv => decide (kv.1 = k)).map (·.2)
def putK (kvs : List (κ × V)) (k : κ) (v : V) : List (κ × V) :=
  if (kvs.any fun kv => decide (kv.1 = k)) = true then kvs.map (fun kv => if kv.1 = k then (kv.1, v) else kv) else kvs ++ [(k, v)]
def dropK (kvs : List (κ × V)) (k : κ) : List (κ × V) := kvs.filter fun kv => decide (kv.1 ≠ k)
theorem valV_pos {p : κ × V} {r : List (κ × V)} {k : κ} (e : p.1 = k) : valV (p :: r) k = some p.2 := by simp [valV, List.find?_cons, e]
theorem valV_neg {p : κ × V} {r : List (κ × V)} {k : κ} (e : ¬ p.1 = k) : valV (p :: r) k = valV r k := by simp [valV, List.find?_cons, e]
theorem valV_any (k : κ) : ∀ kvs : List (κ × V), (kvs.any fun kv => decide (kv.1 = k)) = (valV kvs k).isSome
  | [] => rfl
  | p :: r => by
    rw [List.any_cons]
    by_cases e : p.1 = k
    · simp only [valV_pos e, decide_eq_true e, Bool.true_or, Option.isSome_some]
    · rw [valV_neg e, decide_eq_false e, Bool.false_or]; exact valV_any k r
theorem length_putK (kvs : List (κ × V)) (k : κ) (v : V) : (putK kvs k v).length ≤ kvs.length + 1 := by
  unfold putK
  split
  · rw [List.length_map]; omega
  · rw [List.length_append, List.length_cons, List.length_nil]; omega
theorem RelO.isSome_eq {o : Option V} {u : Option Value} (r : RelO o u) : o.isSome = u.isSome := by
  cases o with
  | none => cases u with
    | none => rfl
    | some _ => exact (show False from r).elim
  | some _ => cases u with
    | none => exact (show False from r).elim
    | some _ => rfl
theorem RelO.getD {o : Option V} {u : Option Value} {d : V} {d' : Value} (r : RelO o u) (rd : RelV d d') : RelV (o.getD d) (u.getD d') := by
  cases o with
  | none => cases u with
    | none => exact rd
    | some _ => exact (show False from r).elim
  | some _ => cases u with
    | none => exact (show False from r).elim
    | some _ => exact r
theorem KV.val {kvs : List (κ × V)} {vs : List (κ × Value)} (r : KV kvs vs) (k : κ) : RelO (valV kvs k) (valueAt vs k) := by
  unfold KV at r
  induction r with
  | nil => exact True.intro
  | @cons p q ps qs h t ih =>
    obtain ⟨h1, h2⟩ := h
    by_cases e : p.1 = k
    · have e' : q.1 = k := h1.symm.trans e
      have b : valueAt (q :: qs) k = some q.2 := by simp [valueAt, List.find?_cons, e']
      rw [valV_pos e, b]; exact h2
    · have e' : ¬ q.1 = k := fun z => e (h1.trans z)
      have b : valueAt (q :: qs) k = valueAt qs k := by simp [valueAt, List.find?_cons, e']
      rw [valV_neg e, b]; exact ih
theorem KV.any {kvs : List (κ × V)} {vs : List (κ × Value)} (r : KV kvs vs) (k : κ) : (kvs.any fun kv => decide (kv.1 = k)) = vs.any fun kv => decide (kv.1 = k) := by
  unfold KV at r
  induction r with
  | nil => rfl
  | cons h t ih => rw [List.any_cons, List.any_cons, ih, h.1]
theorem KV.repl {kvs : List (κ × V)} {vs : List (κ × Value)} (r : KV kvs vs) (k : κ) {y : V} {u : Value} (ry : RelV y u) :
    KV (kvs.map fun kv => if kv.1 = k then (kv.1, y) else kv) (vs.map fun kv => if kv.1 = k then (kv.1, u) else kv) := by
  unfold KV at r ⊢
  induction r with
  | nil => exact .nil
  | @cons p q ps qs h t ih =>
    rw [List.map_cons, List.map_cons]
    refine .cons ?_ ih
    obtain ⟨h1, h2⟩ := h
    by_cases e : p.1 = k
    · rw [if_pos e, if_pos (h1.symm.trans e)]; exact ⟨h1, ry⟩
    · rw [if_neg e, if_neg (fun z => e (h1.trans z))]; exact ⟨h1, h2⟩
theorem KV.put {kvs : List (κ × V)} {vs : List (κ × Value)} (r : KV kvs vs) (k : κ) {y : V} {u : Value} (ry : RelV y u) : KV (putK kvs k y) (stored vs k u) := by
  unfold putK stored
  rw [r.any k]
  by_cases e : (vs.any fun kv => decide (kv.1 = k)) = true
  · rw [if_pos e, if_pos e]; exact r.repl k ry
  · rw [if_neg e, if_neg e]; exact Paired.snoc r ⟨rfl, ry⟩
theorem KV.drop {kvs : List (κ × V)} {vs : List (κ × Value)} (r : KV kvs vs) (k : κ) : KV (dropK kvs k) (without vs k) := by
  unfold KV at r ⊢
  unfold dropK without
  induction r with
  | nil => exact .nil
  | @cons p q ps qs h t ih =>
    obtain ⟨h1, h2⟩ := h
    rw [List.filter_cons, List.filter_cons]
    by_cases e : p.1 = k
    · have a : ¬ decide (p.1 ≠ k) = true := by simp [e]
      have b : ¬ decide (q.1 ≠ k) = true := by simp [h1.symm.trans e]
      rw [if_neg a, if_neg b]; exact ih
    · have e' : ¬ q.1 = k := fun z => e (h1.trans z)
      have a : decide (p.1 ≠ k) = true := by simp [e]
      have b : decide (q.1 ≠ k) = true := by simp [e']
      rw [if_pos a, if_pos b]; exact .cons ⟨h1, h2⟩ ih
theorem KV.keys {kvs : List (κ × V)} {vs : List (κ × Value)} (r : KV kvs vs) : kvs.map (·.1) = vs.map (·.1) := by
  unfold KV at r
  induction r with
  | nil => rfl
  | cons h t ih => rw [List.map_cons, List.map_cons, ih, h.1]
theorem KV.length {kvs : List (κ × V)} {vs : List (κ × Value)} (r : KV kvs vs) : kvs.length = vs.length := Paired.length r
end
theorem kV_is {P : Program} {w : World} {k : Key} {u : Value} (r : RelV (kV k) u) : (mixKind P w).is k u = true := by
  cases k with
  | inl i => obtain ⟨t, e⟩ := (show ∃ t, u = Value.int i t from r); subst e; exact mixKind_int P w i t
  | inr x => obtain ⟨t, e⟩ := (show ∃ t, u = Value.str x t from r); subst e; exact mixKind_str P w x t
theorem kVB_is {P : Program} {w : World} {k : Key} {u : Value} (r : RelV (kV k) u) : (mixKindB P w).is k u = true := keyIsB_of (kV_is (P := P) (w := w) r)
theorem items_k {P : Program} {w : World} : ∀ {ks : List Key} {us : List Value}, Vals (ks.map kV) us → ItemsAre (mixKindB P w) ks us
  | [], _, r => by rw [List.map_nil] at r; cases r; exact .nil
  | k :: ks, _, r => by
    rw [List.map_cons] at r
    cases r with
    | cons h t => exact .cons (kVB_is h) (items_k t)
theorem items_are {P : Program} {w : World} {ks : List Key} {vs : List V} {us : List Value} (kt : KeyT ks vs) (r : Vals vs us) : ItemsAre (mixKindB P w) ks us := by
  rcases kt with rfl | ⟨x, b, rfl, rfl⟩
  · exact items_k r
  · cases r with
    | cons h1 t => cases t with
      | cons h2 t =>
        cases t
        cases (show _ = Value.bool b from h2)
        exact .cons (kVB_is (k := .inr x) h1) (.cons (keyIsB_bool b) .nil)
abbrev KT (K : PySem.W.Frag) (H : Hp) : List (List Key × V) → List (List Key × Addr × Value) → Prop := Paired fun p q => p.1 = q.1 ∧ CKey K H q.2.1 p.1 ∧ RelV p.2 q.2.2
theorem KT.val {K : PySem.W.Frag} {H : Hp} {kvs : List (List Key × V)} {xs : List (List Key × Addr × Value)} (r : KT K H kvs xs) (k : List Key) : RelO (valV kvs k) ((atKey xs k).map (·.2)) := by
  induction r with
  | nil => exact True.intro
  | @cons p q ps qs h t ih =>
    obtain ⟨h1, _, h2⟩ := h
    by_cases e : p.1 = k
    · have e' : q.1 = k := h1.symm.trans e
      have b : atKey (q :: qs) k = some q.2 := by simp [atKey, List.find?_cons, e']
      rw [valV_pos e, b]; exact h2
    · have e' : ¬ q.1 = k := fun z => e (h1.trans z)
      have b : atKey (q :: qs) k = atKey qs k := by simp [atKey, List.find?_cons, e']
      rw [valV_neg e, b]; exact ih
theorem KT.repl {K : PySem.W.Frag} {H : Hp} {kvs : List (List Key × V)} {xs : List (List Key × Addr × Value)} (r : KT K H kvs xs) (k : List Key) {y : V} {u : Value} (ry : RelV y u) :
    KT K H (kvs.map fun kv => if kv.1 = k then (kv.1, y) else kv) (xs.map (putAt k u)) := by
  induction r with
  | nil => exact .nil
  | @cons p q ps qs h t ih =>
    rw [List.map_cons, List.map_cons]
    refine .cons ?_ ih
    obtain ⟨h1, h2, h3⟩ := h
    unfold putAt
    by_cases e : p.1 = k
    · rw [if_pos e, if_pos (h1.symm.trans e)]; exact ⟨h1, h2, ry⟩
    · rw [if_neg e, if_neg (fun z => e (h1.trans z))]; exact ⟨h1, h2, h3⟩
theorem KT.put {K : PySem.W.Frag} {H : Hp} {kvs : List (List Key × V)} {xs : List (List Key × Addr × Value)} (r : KT K H kvs xs) (k : List Key) {b : Addr} {y : V} {u : Value} (hb : CKey K H b k) (ry : RelV y u) :
    KT K H (putK kvs k y) (storedH xs k b u) := by
  have e : (kvs.any fun kv => decide (kv.1 = k)) = (atKey xs k).isSome := by
    rw [valV_any, (r.val k).isSome_eq, Option.isSome_map]
  unfold putK storedH
  rw [e]
  by_cases q : (atKey xs k).isSome = true
  · rw [if_pos q, if_pos q]; exact r.repl k ry
  · rw [if_neg q, if_neg q]; exact Paired.snoc r ⟨rfl, hb, ry⟩
theorem KT.keeps {K : PySem.W.Frag} {H H' : Hp} {kvs : List (List Key × V)} {xs : List (List Key × Addr × Value)} (r : KT K H kvs xs) (ht : ∀ b ys, H b = some (.tup ys) → H' b = some (.tup ys)) : KT K H' kvs xs :=
  Paired.mapP r fun _ _ z => ⟨z.1, z.2.1.keeps ht, z.2.2⟩
section
variable {P : Program} {w : World} {K : PySem.W.Frag} {H : Hp} {h : Heap} {a : Addr}
theorem rd_of {u : HO} (ok : HOk P w K H h) (e : Rd H a u) : ObjOk P w K H h a u := e.ok ok
theorem dk_rd {kvs : List (Key × V)} (ok : HOk P w K H h) (e : Rd H a (.dK kvs)) : kvs.length ≤ sizeLine ∧ (a == sysModules) = false ∧ ∃ vs, KV kvs vs ∧ h.DictOf (mixKind P w) a vs :=
  show ObjOk P w K H h a (.dK kvs) from rd_of ok e
theorem dk_of {kvs : List (Key × V)} (ok : HOk P w K H h) (e : H a = some (.dK kvs)) : kvs.length ≤ sizeLine ∧ (a == sysModules) = false ∧ ∃ vs, KV kvs vs ∧ h.DictOf (mixKind P w) a vs := dk_rd ok (.inl e)
theorem key_of {ks : List Key} (ok : HOk P w K H h) (e : DKey H a ks) : (tupleKind (mixKindB P w)).is h ks a := by
  obtain ⟨vs, e, kt⟩ := e
  obtain ⟨_, its, r, o, h1, h2, n, h3⟩ := (show ObjOk P w K H h a (.tup vs) from ok a _ e)
  exact ⟨o, its.toArray, n, h1, h2, h3, by simpa using items_are kt r⟩
theorem key_ofC {ks : List Key} (kin : K.In h) (ok : HOk P w K H h) (e : CKey K H a ks) : (tupleKind (mixKindB P w)).is h ks a := by
  rcases e with e | ⟨vs, ⟨o, its, n, e1, e2, e3, _, r⟩, kt⟩
  · exact key_of ok e
  · exact ⟨o, its, n, kin a o e1, e2, e3, items_are kt r⟩
theorem dt_e {kvs : List (List Key × V)} (kin : K.In h) (ok : HOk P w K H h) (e : Rd H a (.dT kvs)) : kvs.length ≤ sizeLine ∧ (a == sysModules) = false ∧ ∃ xs, KT K H kvs xs ∧ DictE (tupleKind (mixKindB P w)) h a xs := by
  obtain ⟨z, y, xs, r, o, es, ep, h1, h2, h3, h4, h5, h6⟩ := (show ObjOk P w K H h a (.dT kvs) from rd_of ok e)
  subst h6
  refine ⟨z, y, xs, r, o, es, h1, h2, h3, h4, fun x hx => ?_, h5⟩
  have all : ∀ {l : List (List Key × V)} {m : List (List Key × Addr × Value)}, KT K H l m → ∀ x ∈ m, (tupleKind (mixKindB P w)).is h x.1 x.2.1 := by
    intro l m q
    induction q with
    | nil => intro x hx; exact nomatch hx
    | cons hq t ih =>
      intro x hx
      rcases List.mem_cons.mp hx with e | hx
      · rw [e]; exact key_ofC kin ok (by rw [← hq.1]; exact hq.2.1)
      · exact ih x hx
  exact all r x hx
theorem dt_rd {kvs : List (List Key × V)} (kin : K.In h) (ok : HOk P w K H h) (e : Rd H a (.dT kvs)) : kvs.length ≤ sizeLine ∧ (a == sysModules) = false ∧
    ∃ xs, KT K H kvs xs ∧ h.DictOfH (tupleKind (mixKindB P w)) a xs := let ⟨z, y, xs, r, q⟩ := dt_e kin ok e; ⟨z, y, xs, r, q.of⟩
end
def DGet (K : PySem.W.Frag) (H : Hp) (a : Addr) (y : V) (r : Option V) : Prop :=
  (∃ kvs k, Rd H a (.dK kvs) ∧ y = kV k ∧ r = valV kvs k) ∨ ∃ kvs k b, Rd H a (.dT kvs) ∧ y = .ref b ∧ CKey K H b k ∧ r = valV kvs k
def DPut (K : PySem.W.Frag) (H : Hp) (a : Addr) (y v : V) (H' : Hp) : Prop :=
  (∃ kvs k, H a = some (.dK kvs) ∧ y = kV k ∧ kvs.length < sizeLine ∧ H' = upd H a (.dK (putK kvs k v))) ∨
  ∃ kvs k b, H a = some (.dT kvs) ∧ y = .ref b ∧ CKey K H b k ∧ kvs.length < sizeLine ∧ H' = upd H a (.dT (putK kvs k v))
theorem DGet.k {K : PySem.W.Frag} {H : Hp} {a : Addr} {kvs : List (Key × V)} {k : Key} (e : H a = some (.dK kvs)) : DGet K H a (kV k) (valV kvs k) := .inl ⟨kvs, k, .inl e, rfl, rfl⟩
theorem DGet.t {K : PySem.W.Frag} {H : Hp} {a b : Addr} {kvs : List (List Key × V)} {k : List Key} (e : H a = some (.dT kvs)) (eb : CKey K H b k) : DGet K H a (.ref b) (valV kvs k) := .inr ⟨kvs, k, b, .inl e, rfl, eb, rfl⟩
theorem DPut.k {K : PySem.W.Frag} {H : Hp} {a : Addr} {kvs : List (Key × V)} {k : Key} {v : V} (e : H a = some (.dK kvs)) (hl : kvs.length < sizeLine) : DPut K H a (kV k) v (upd H a (.dK (putK kvs k v))) := .inl ⟨kvs, k, e, rfl, hl, rfl⟩
theorem DPut.t {K : PySem.W.Frag} {H : Hp} {a b : Addr} {kvs : List (List Key × V)} {k : List Key} {v : V} (e : H a = some (.dT kvs)) (eb : CKey K H b k) (hl : kvs.length < sizeLine) :
    DPut K H a (.ref b) v (upd H a (.dT (putK kvs k v))) := .inr ⟨kvs, k, b, e, rfl, eb, hl, rfl⟩
section
variable {X : Cx} {pins : List (Addr × Obj)} {σ : St} {H : Hp} {s : Shared} {a : Addr} {y v : V} {u r : Value} {o : Option V} {A : Around} {E : Value → Shared → Prop}
theorem d_getItem {Q : Value → Shared → Prop} (hu : A.units + 1 < cLine) (I : Inv X pins σ H s) (g : DGet X.K H a y (some v)) (ry : RelV y u) (h : ∀ w' s', Inv X pins σ H s' → RelV v w' → Q w' s') :
    wpAny (model X.prog X.w) A (getItem (.ref a) u) Q E s := by
  rcases g with ⟨kvs, k, e, ey, l⟩ | ⟨kvs, k, b, e, ey, eb, l⟩
  · subst ey
    obtain ⟨z, hd, vs, rel, dd⟩ := dk_rd I.hok e
    obtain ⟨w', hw, rw'⟩ := RelO.some_of (v := v) (o := valueAt vs k) (by rw [l]; exact rel.val k)
    exact wpAny_getItem_of (kV_is ry) dd.mapOf hw (h w' _ (I.tok _) rw')
  · subst ey
    cases (show u = Value.ref b from ry)
    obtain ⟨z, hd, xs, rel, dd⟩ := dt_rd I.kIn I.hok e
    obtain ⟨w', hw, rw'⟩ := RelO.some_of (v := v) (o := (atKey xs k).map (·.2)) (by rw [l]; exact rel.val k)
    obtain ⟨p, hp, hp2⟩ := Option.map_eq_some_iff.mp hw
    refine wpAny_getItem_heap (tupleKind_room_in1 hu) (key_ofC I.kIn I.hok eb) dd hp ?_
    rw [hp2]
    exact h w' _ (I.tok _) rw'
theorem d_in {Q : Value → Shared → Prop} (hu : A.units + 1 < cLine) (I : Inv X pins σ H s) (g : DGet X.K H a y o) (ry : RelV y u) (h : ∀ s', Inv X pins σ H s' → Q (.bool o.isSome) s') :
    wpAny (model X.prog X.w) A (compareOp .In u (.ref a)) Q E s := by
  rcases g with ⟨kvs, k, e, ey, l⟩ | ⟨kvs, k, b, e, ey, eb, l⟩
  · subst ey
    obtain ⟨z, hd, vs, rel, dd⟩ := dk_rd I.hok e
    refine wpAny_in_of (kV_is ry) hd dd.mapOf ?_
    rw [← (rel.val k).isSome_eq, ← l]
    exact h _ (I.tok _)
  · subst ey
    cases (show u = Value.ref b from ry)
    obtain ⟨z, hd, xs, rel, dd⟩ := dt_rd I.kIn I.hok e
    refine wpAny_in_heap (tupleKind_room_in1 hu) (key_ofC I.kIn I.hok eb) hd dd ?_
    have q := (rel.val k).isSome_eq
    rw [Option.isSome_map] at q
    rw [← q, ← l]
    exact h _ (I.tok _)
theorem d_notIn {Q : Value → Shared → Prop} (hu : A.units + 1 < cLine) (I : Inv X pins σ H s) (g : DGet X.K H a y o) (ry : RelV y u) (h : ∀ s', Inv X pins σ H s' → Q (.bool (!o.isSome)) s') :
    wpAny (model X.prog X.w) A (compareOp .NotIn u (.ref a)) Q E s := by
  rcases g with ⟨kvs, k, e, ey, l⟩ | ⟨kvs, k, b, e, ey, eb, l⟩
  · subst ey
    obtain ⟨z, hd, vs, rel, dd⟩ := dk_rd I.hok e
    refine wpAny_notIn_of (kV_is ry) hd dd.mapOf ?_
    rw [← (rel.val k).isSome_eq, ← l]
    exact h _ (I.tok _)
  · subst ey
    cases (show u = Value.ref b from ry)
    obtain ⟨z, hd, xs, rel, dd⟩ := dt_rd I.kIn I.hok e
    refine wpAny_notIn_heap (tupleKind_room_in1 hu) (key_ofC I.kIn I.hok eb) hd dd ?_
    have q := (rel.val k).isSome_eq
    rw [Option.isSome_map] at q
    rw [← q, ← l]
    exact h _ (I.tok _)
theorem d_write {h' : Heap} {t' : Nat} {ob : HO} (I : Inv X pins σ H s) (mu : Mut (H a)) (hs : Heap.SameBut a s.heap h') (he : ∃ q, h'.get? a = some q) (new : ObjOk X.prog X.w X.K (upd H a ob) h' a ob) :
    Inv X pins σ (upd H a ob) { s with heap := h', toks := t' } :=
  I.write (x := a) (e := a) mu (.inl rfl) (fun b q hb z => (hs.2 b hb).trans z) he new
theorem dk_new {K : PySem.W.Frag} {P : Program} {w : World} {H' : Hp} {h' : Heap} {kvs : List (Key × V)} {vs : List (Key × Value)} (z : kvs.length ≤ sizeLine) (hd : (a == sysModules) = false) (rel : KV kvs vs) (dd : h'.DictOf (mixKind P w) a vs) :
    ObjOk P w K H' h' a (.dK kvs) := ⟨z, hd, vs, rel, dd⟩
theorem d_setItem {H' : Hp} {Q : Unit → Shared → Prop} (hu : A.units + 1 < cLine) (I : Inv X pins σ H s) (g : DPut X.K H a y v H') (ry : RelV y u) (rv : RelV v r) (h : ∀ s', Inv X pins σ H' s' → Q () s') :
    wpAny (model X.prog X.w) A (setItem (.ref a) u r) Q E s := by
  rcases g with ⟨kvs, k, e, ey, l, eH⟩ | ⟨kvs, k, b, e, ey, eb, l, eH⟩
  · subst ey eH
    obtain ⟨z, hd, vs, rel, dd⟩ := dk_of I.hok e
    have hz : vs.length ≤ sizeLine := by rw [← rel.length]; exact z
    have hl : (putK kvs k v).length ≤ sizeLine := by have := length_putK kvs k v; omega
    refine wpAny_setItem_pairs (hsz := hz) (kV_is ry) dd fun h' dd' hs => h _ ?_
    have he : ∃ q, h'.get? a = some q := let ⟨q, _, _, hq, _⟩ := dd'; ⟨q, hq⟩
    exact d_write I (by rw [e]; exact True.intro) hs he (dk_new hl hd (rel.put k rv) dd')
  · subst ey eH
    cases (show u = Value.ref b from ry)
    obtain ⟨z, hd, xs, rel, dd⟩ := dt_e I.kIn I.hok (.inl e)
    have hz : xs.length ≤ sizeLine := by rw [← Paired.length rel]; exact z
    have hl : (putK kvs k v).length ≤ sizeLine := by have := length_putK kvs k v; omega
    refine setItemE (tupleKind_room_in1 hu) (key_ofC I.kIn I.hok eb) dd hz fun h' dd' hs => h _ ?_
    obtain ⟨q, es, hq, h2, h3, h4, _, h5⟩ := dd'
    refine d_write I (by rw [e]; exact True.intro) hs ⟨q, hq⟩ ⟨hl, hd, _, (rel.put k eb rv).keeps fun c ys ec => ?_, q, es, _, hq, h2, h3, h4, h5, rfl⟩
    rw [upd_ne (ne_of ec e (fun z => nomatch z))]
    exact ec
end
section
variable {X : Cx} {pins : List (Addr × Obj)} {σ : St} {H : Hp} {s : Shared} {a : Addr} {kvs : List (Key × V)} {k : Key} {u : Value} {A : Around} {E : Value → Shared → Prop}
theorem d_len {Q : Value → Shared → Prop} (I : Inv X pins σ H s) (e : Rd H a (.dK kvs)) (h : ∀ t s', Inv X pins σ H s' → Q (.int kvs.length t) s') : wpAny (model X.prog X.w) A (call (.builtin "len") [.ref a]) Q E s := by
  obtain ⟨z, hd, vs, rel, dd⟩ := dk_rd I.hok e
  refine call_len_dict hd dd (by rw [← rel.length]; rw [sizeLine_eq] at z; omega) ?_
  rw [← rel.length]
  exact h _ _ (I.tok _)
end
def NoSl (i : Expr) : Prop := ∀ ov iv, subscripted i false ov iv = operate [ov, iv] (getItem ov iv)
theorem subD_of {prog : Program} {w : World} {A : Around} {E : Value → Shared → Prop} {s : Shared} {env : Env} {value slice : Expr} {pos : Pos} {T id : String} {Q : Value → Shared → Prop}
    (hl : typeLookup (.type T) "__getitem__" = pure (some (.builtin id))) (hs : NoSl slice)
    (h : wpAny (model prog w) A (eval value env) (fun o s₁ => wpAny (model prog w) A (eval slice env) (fun i s₂ => s₂.TypeIs o T ∧ wpAny (model prog w) A (getItem o i) Q E s₂) E s₁) E s) :
    wpAny (model prog w) A (eval (.Subscript value slice pos) env) Q E s := by
  refine Subscript_ (wpAny_mono h (fun o s₁ h₁ => wpAny_mono h₁ (fun i s₂ h₂ => ?_) fun _ _ x => x) fun _ _ x => x)
  obtain ⟨hT, h₂⟩ := h₂
  unfold subscriptTail
  refine wpAny_bind ?_
  rw [getitemInPython_of_ne hT.not_modules]
  refine wpAny_bind (wpAny_specialOf hT hl ?_)
  have fin : wpAny (model prog w) A (subscripted slice false o i) (fun r s₃ => wpAny (model prog w) A (letTemporaryGo value o r >>= fun _ => pure r) Q E s₃) E s₂ := by
    rw [hs o i]
    exact wpAny_operating (wpAny_mono h₂ (fun r s₃ h₃ => wpAny_bind (wpAny_letTemporaryGo (wpAny_pure h₃))) fun _ _ x => x)
  first
    | exact wpAny_pure (wpAny_bind fin)
    | exact wpAny_bind (wpAny_pure (wpAny_bind fin))
    | exact wpAny_bind fin
theorem dict_typeIs {X : Cx} {pins : List (Addr × Obj)} {σ : St} {H : Hp} {s : Shared} {a : Addr} {y : V} {o : Option V} (I : Inv X pins σ H s) (g : DGet X.K H a y o) : s.TypeIs (.ref a) "dict" := by
  rcases g with ⟨kvs, k, e, _, _⟩ | ⟨kvs, k, b, e, _, _, _⟩
  · obtain ⟨_, _, vs, _, dd⟩ := dk_rd I.hok e
    exact dd.typeIs
  · obtain ⟨_, _, xs, _, dd⟩ := dt_rd I.kIn I.hok e
    exact dd.typeIs
def tDGet (K : PySem.W.Frag) (td ty : TE) : TE := fun σ H Q => td σ H fun x H1 => ty σ H1 fun y H2 => ∃ a v, x = .ref a ∧ DGet K H2 a y (some v) ∧ Q v H2
def sDPut (K : PySem.W.Frag) (td ty tv : TE) : TS := fun D σ H => tv σ H fun v H1 => td σ H1 fun x H2 => ty σ H2 fun y H3 => ∃ a H4, x = .ref a ∧ DPut K H3 a y v H4 ∧ D.nx σ H4
section
variable {X : Cx} {o i e value : Expr} {pos pos' tpos : Pos} {td ty tv : TE}
theorem pe_dget (hu : X.A.units + 1 < cLine) (ho : PE X o td) (hi : PE X i ty) (hs : NoSl i) : PE X (.Subscript o i pos) (tDGet X.K td ty) := by
  intro pins s σ H Q I h
  refine subD_of PySem.F.slot_dict_getitem.lookup hs (thn (ho pins s σ H _ I h) fun u s1 ⟨x, H1, I1, rx, q1⟩ => thn (hi pins s1 σ H1 _ I1 q1) fun iv s2 ⟨y, H2, I2, ry, a, v, ex, g, q2⟩ => ?_)
  subst ex
  obtain rfl : u = Value.ref a := rx
  exact ⟨dict_typeIs I2 g, d_getItem hu I2 g ry fun w' s3 I3 rw' => ⟨v, H2, I3, rw', q2⟩⟩
theorem ps_dput (hu : X.A.units + 1 < cLine) (ho : PE X o td) (hi : PE X i ty) (hv : PE X value tv) (hs : swapsWith value (some (.Subscript o i pos')) pos.line X.env = pure false) :
    PS X (.Assign [.Subscript o i pos'] value pos) (sDPut X.K td ty tv) := by
  intro pins s σ H D I h
  refine wpAny_Assign_Subscript (thn (hv pins s σ H _ I h) fun r s1 ⟨v, H1, I1, rv, q1⟩ => thn (ho pins s1 σ H1 _ I1 q1) fun u s2 ⟨x, H2, I2, rx, q2⟩ => thn (hi pins s2 σ H2 _ I2 q2) fun iv s3 ⟨y, H3, I3, ry, a, H4, ex, g, q3⟩ => ?_) hs
  subst ex
  obtain rfl : u = Value.ref a := rx
  exact d_setItem hu I3 g ry rv fun s4 I4 => ⟨σ, H4, I4, q3⟩
end
section
variable {X : Cx} {pos : Pos}
end
section
variable {X : Cx} {pins : List (Addr × Obj)} {σ : St} {H : Hp} {s : Shared} {a : Addr} {y d : V} {u r : Value} {o : Option V} {A : Around} {E : Value → Shared → Prop}
end
section
variable {X : Cx} {o e f : Expr} {apos cpos : Pos} {td ty tx : TE}
end
section
variable {X : Cx} {pins : List (Addr × Obj)} {σ : St} {H : Hp} {s : Shared} {a : Addr} {kvs : List (Key × V)} {A : Around} {E : Value → Shared → Prop}
end
section
variable {X : Cx} {pins : List (Addr × Obj)} {σ : St} {H : Hp} {s : Shared} {a : Addr} {y : V} {u : Value} {A : Around} {E : Value → Shared → Prop}
end
end L2
namespace HT
open PySem PyProof.Rows
def lexLt : List Int → List Int → Bool
  | [], [] => false
  | [], _ :: _ => true
  | _ :: _, [] => false
  | x :: xs, y :: ys => if x = y then lexLt xs ys else decide (x < y)
theorem lexLt_cons (x y : Int) (xs ys : List Int) : lexLt (x :: xs) (y :: ys) = if x = y then lexLt xs ys else decide (x < y) := rfl
theorem eqAt_int (A : Around) (s : Shared) (a : Int) (t : Tok) (c : Int) (u : Tok) : ∃ e, SeqAt.EqAt A s (.int a t) (.int c u) e ∧ (e = true ↔ a = c) :=
  ⟨(a == c), SeqAt.EqAt.int_int a t c u, by simp⟩
theorem rcLt_int (A : Around) (s : Shared) (a : Int) (t : Tok) (c : Int) (u : Tok) (prog : Program) (w : World) (E : Value → Shared → Prop) (Q : Value → Shared → Prop) (h : Q (.bool (decide (a < c))) s) :
    wpAny (model prog w) A (richCompare .Lt (.int a t) (.int c u)) Q E s :=
  (PyProof.Rows.lt_int h : wpAny (model prog w) A (compareOp .Lt (.int a t) (.int c u)) Q E s)
section
open PySem.SeqAt
open PySem.AutoSeq1 (wpAny_loadPart')
open PySem.MeetsSeq PySem.MeetsSeq2 PySem.MeetsSeq3
end
section
variable {prog : Program} {w : World} {A : Around} {E : Value → Shared → Prop} {s : Shared}
def sIx (n d : Nat) : Option Int → Nat
  | none => d
  | some v => if v < 0 then (v + (n : Int)).toNat else min v.toNat n
theorem sIx_none (n d : Nat) : sIx n d none = d := rfl
theorem sIx_nat (n d k : Nat) : sIx n d (some (k : Int)) = min k n := by
  show (if (k : Int) < 0 then ((k : Int) + (n : Int)).toNat else min (k : Int).toNat n) = min k n
  rw [if_neg (by omega), Int.toNat_natCast]
theorem sIx_le (n d : Nat) (hd : d ≤ n) (o : Option Int) : sIx n d o ≤ n := by
  cases o with
  | none => exact hd
  | some v =>
    show (if v < 0 then (v + (n : Int)).toNat else min v.toNat n) ≤ n
    by_cases hv : v < 0
    · rw [if_pos hv]; omega
    · rw [if_neg hv]; exact Nat.min_le_right _ _
end
end HT
namespace L2
open PySem PySem.Spec PyProof.Rows
abbrev TO := St → Hp → (Option Int → Hp → Prop) → Prop
def PO (X : Cx) (e : Option Expr) (t : TO) : Prop :=
  ∀ (pins : List (Addr × Obj)) (s : Shared) (σ : St) (H : Hp) (Q : Option Int → Hp → Prop), Inv X pins σ H s → t σ H Q →
    wpAny (model X.prog X.w) X.A (evalPart e X.env) (fun u s' => ∃ o H', Inv X pins σ H' s' ∧ IsPart u o ∧ Q o H') X.xe s
def tNoPart : TO := fun _ H Q => Q none H
def tPart (t : TE) : TO := fun σ H Q => t σ H fun x H1 => ∃ i, x = .int i ∧ Q (some i) H1
theorem intsAre_of {ns : List Int} : ∀ {us : List Value}, Vals (ns.map V.int) us → IntsAre us ns := by
  induction ns with
  | nil => intro us r; rw [List.map_nil] at r; cases r; exact .nil
  | cons n ns ih =>
    intro us r
    rw [List.map_cons] at r
    cases r with
    | cons r1 r2 =>
      obtain ⟨t, e⟩ := r1
      subst e
      exact .cons n t (ih r2)
section
variable {X : Cx} {e : Expr} {te : TE} {lo hi : Option Expr} {tl th : TO} {pos p2 : Pos}
theorem po_none : PO X none tNoPart := by
  intro pins s σ H Q I h
  rw [evalPart_none]
  exact wpAny_pure ⟨none, H, I, .none, h⟩
theorem po_some (h : PE X e te) : PO X (some e) (tPart te) := by
  intro pins s σ H Q I hw
  rw [evalPart_some]
  refine thn (h pins s σ H _ I hw) fun u s1 ⟨x, H1, I1, r1, q1⟩ => ?_
  obtain ⟨i, rfl, q⟩ := q1
  obtain ⟨t, rfl⟩ := r1
  exact ⟨some i, H1, I1, .int i t, q⟩
def SlR (X : Cx) (r : V → Option Int → Option Int → Hp → VK → Prop) : Prop :=
  ∀ (pins : List (Addr × Obj)) (s : Shared) (σ : St) (H : Hp) (x : V) (v vl vu : Value) (lo hi : Option Int) (sl : Addr) (Q : VK), Inv X pins σ H s → RelV x v → s.heap.IsSliceOf sl vl vu .none → IsPart vl lo → IsPart vu hi → r x lo hi H Q →
    ∃ T id, typeLookup (.type T) "__getitem__" = pure (some (.builtin id)) ∧ s.TypeIs v T ∧ wpAny (model X.prog X.w) X.A (getItem v (.ref sl)) (EP X pins σ Q) X.xe s
theorem SlR.or {r r' : V → Option Int → Option Int → Hp → VK → Prop} (h : SlR X r) (h' : SlR X r') : SlR X (fun x lo hi H Q => r x lo hi H Q ∨ r' x lo hi H Q) := by
  intro pins s σ H x v vl vu lo hi sl Q I rx hs pl pu q
  rcases q with q | q
  · exact h pins s σ H x v vl vu lo hi sl Q I rx hs pl pu q
  · exact h' pins s σ H x v vl vu lo hi sl Q I rx hs pl pu q
def tSl (r : V → Option Int → Option Int → Hp → VK → Prop) (te : TE) (tl th : TO) : TE := fun σ H Q => te σ H fun x H1 => tl σ H1 fun l H2 => th σ H2 fun u H3 => r x l u H3 Q
theorem pe_slice {r : V → Option Int → Option Int → Hp → VK → Prop} (hr : SlR X r) (he : PE X e te) (hl : PO X lo tl) (hu : PO X hi th) : PE X (.Subscript e (.Slice lo hi none p2) pos) (tSl r te tl th) := by
  intro pins s σ H Q I h
  refine Subscript_ (thn (he pins s σ H _ I h) fun v s1 ⟨x, H1, I1, r1, q1⟩ => ?_)
  refine wpAny_Slice (thn (hl pins s1 σ H1 _ I1 q1) fun vl s2 ⟨l, H2, I2, pl, q2⟩ => thn (hu pins s2 σ H2 _ I2 q2) fun vu s3 ⟨u, H3, I3, pu, q3⟩ => ?_)
  rw [evalPart_none]
  refine wpAny_pure ?_
  have I4 : Inv X pins σ H3 { s3 with heap := s3.heap.push { cls := .type "slice", data := .fields #[vl, vu, .none] } } := I3.kept (t' := s3.toks) fun b ob q => Heap.get?_push_of_some _ q
  obtain ⟨T, id, hT, ht, hg⟩ := hr pins { s3 with heap := s3.heap.push { cls := .type "slice", data := .fields #[vl, vu, .none] } } σ H3 x v vl vu l u s3.heap.objs.size Q I4 r1 (Heap.IsSliceOf.new ..) pl pu q3
  show wpAny (model X.prog X.w) X.A (subscriptTail e (.Slice lo hi none p2) v (.ref s3.heap.objs.size)) (EP X pins σ Q) X.xe { s3 with heap := s3.heap.push { cls := .type "slice", data := .fields #[vl, vu, .none] } }
  exact tail_any (ops := [.ref s3.heap.objs.size, v]) ht hT hg (by with_unfolding_all rfl)
def cutV (xs : List V) (lo hi : Option Int) : List V := (xs.drop (HT.sIx xs.length 0 lo)).take (HT.sIx xs.length xs.length hi - HT.sIx xs.length 0 lo)
theorem cutV_length (xs : List V) (lo hi : Option Int) : (cutV xs lo hi).length ≤ xs.length := by
  unfold cutV
  rw [List.length_take, List.length_drop]
  omega
end
end L2
namespace L2
open PySem PySem.Spec PyProof.Rows
def ixN (n : Nat) (i : Int) : Option Nat := if 0 ≤ i then (if i < n then some i.toNat else none) else if -(n : Int) ≤ i then some (i + n).toNat else none
def atI {α : Type} (xs : List α) (i : Int) : Option α := (ixN xs.length i).bind fun j => xs[j]?
theorem ixN_seq {n : Nat} {i : Int} {j : Nat} (h : ixN n i = some j) : seqIndex? i n = some j ∧ j < n ∧ -(n : Int) ≤ i ∧ i < n := by
  unfold ixN at h
  by_cases h0 : 0 ≤ i
  · rw [if_pos h0] at h
    by_cases h1 : i < n
    · rw [if_pos h1] at h
      have e : i.toNat = j := Option.some.inj h
      exact ⟨by rw [seqIndex_of h0 h1, e], by omega, by omega, h1⟩
    · rw [if_neg h1] at h; cases h
  · rw [if_neg h0] at h
    by_cases h1 : -(n : Int) ≤ i
    · rw [if_pos h1] at h
      have e : (i + n).toNat = j := Option.some.inj h
      exact ⟨by rw [seqIndex_neg (by omega) h1, e], by omega, h1, by omega⟩
    · rw [if_neg h1] at h; cases h
theorem atI_get {α : Type} {xs : List α} {i : Int} {v : α} (h : atI xs i = some v) : ∃ j, seqIndex? i xs.length = some j ∧ xs[j]? = some v ∧ j < xs.length ∧ -(xs.length : Int) ≤ i ∧ i < xs.length := by
  unfold atI at h
  cases e : ixN xs.length i with
  | none => rw [e] at h; cases h
  | some j =>
    rw [e] at h
    obtain ⟨h1, h2, h3, h4⟩ := ixN_seq e
    exact ⟨j, h1, h, h2, h3, h4⟩
theorem atI_nat {α : Type} {xs : List α} {j : Nat} {v : α} (h : xs[j]? = some v) : atI xs (j : Int) = some v := by
  have hj : j < xs.length := (List.getElem?_eq_some_iff.mp h).1
  have e : ixN xs.length (j : Int) = some j := by
    unfold ixN
    rw [if_pos (by omega), if_pos (by omega)]; simp
  unfold atI; rw [e]; exact h
theorem atI_last {α : Type} (xs : List α) (v : α) : atI (xs ++ [v]) (-1) = some v := by
  have hl : (xs ++ [v]).length = xs.length + 1 := by simp
  have e : ixN (xs ++ [v]).length (-1) = some xs.length := by
    unfold ixN
    rw [hl, if_neg (by decide), if_pos (by omega)]
    congr 1
    omega
  unfold atI
  rw [e]
  show (xs ++ [v])[xs.length]? = some v
  simp
def PlainIx (b : Expr) : Prop := ∀ o i, subscripted b false o i = operate [o, i] (getItem o i)
def IxR (X : Cx) (r : R2) : Prop :=
  ∀ (value slice : Expr) (pins : List (Addr × Obj)) (s : Shared) (σ : St) (H : Hp) (x y : V) (v u : Value) (Q : VK), Inv X pins σ H s → RelV x v → RelV y u → r x y H Q →
    subscripted slice false v u = operate [v, u] (getItem v u) → wpAny (model X.prog X.w) X.A (subscriptTail value slice v u) (EP X pins σ Q) X.xe s
def MtR (X : Cx) (id : String) (r : V → List V → Hp → VK → Prop) : Prop :=
  ∀ (pins : List (Addr × Obj)) (s : Shared) (σ : St) (H : Hp) (x : V) (xs : List V) (v : Value) (us : List Value) (Q : VK), Inv X pins σ H s → RelV x v → Vals xs us → r x xs H Q →
    wpAny (model X.prog X.w) X.A (call (.builtin id) (v :: us)) (EP X pins σ Q) X.xe s
section
variable {X : Cx} {a b : Expr} {ta tb : TE} {pos : Pos}
theorem IxR.or {r r' : R2} (h : IxR X r) (h' : IxR X r') : IxR X (fun x y H Q => r x y H Q ∨ r' x y H Q) := by
  intro value slice pins s σ H x y v u Q I rx ry q hs
  rcases q with q | q
  · exact h value slice pins s σ H x y v u Q I rx ry q hs
  · exact h' value slice pins s σ H x y v u Q I rx ry q hs
theorem MtR.or {id : String} {r r' : V → List V → Hp → VK → Prop} (h : MtR X id r) (h' : MtR X id r') : MtR X id (fun x xs H Q => r x xs H Q ∨ r' x xs H Q) := by
  intro pins s σ H x xs v us Q I rx rs q
  rcases q with q | q
  · exact h pins s σ H x xs v us Q I rx rs q
  · exact h' pins s σ H x xs v us Q I rx rs q
theorem pe_ix {r : R2} (hr : IxR X r) (ha : PE X a ta) (hb : PE X b tb) (hs : PlainIx b) : PE X (.Subscript a b pos) (tOp r ta tb) := by
  intro pins s σ H Q I h
  exact Subscript_ (binT ha hb I h fun v u s2 x y H2 I2 rx ry q => hr a b pins s2 σ H2 x y v u Q I2 rx ry q (hs _ _))
def rIxL (K : PySem.W.Frag) : R2 := fun x y H Q => ∃ p xs i v, x = .ref p ∧ y = .int i ∧ SqL K H p xs ∧ atI xs i = some v ∧ Q v H
def rIxT (K : PySem.W.Frag) : R2 := fun x y H Q => ∃ p xs i v, x = .ref p ∧ y = .int i ∧ SqT K H p xs ∧ atI xs i = some v ∧ Q v H
def rIxS : R2 := fun x y H Q => ∃ z i c, x = .str z ∧ y = .int i ∧ z.length ≤ sizeLine ∧ atI z.cps.toList i = some c ∧ Q (.str ⟨#[c]⟩) H
theorem ix_list : IxR X (rIxL X.K) := by
  intro value slice pins s σ H x y v u Q I rx ry h hs
  obtain ⟨p, xs, i, z, rfl, rfl, hq, he, q⟩ := h
  cases rx
  obtain ⟨t, rfl⟩ := ry
  obtain ⟨its, r, pl, hz⟩ := I.list hq
  obtain ⟨j, h1, h2, h3, h4, h5⟩ := atI_get he
  obtain ⟨w, ew, rw'⟩ := r.get h2
  have hl := r.length
  have hn := line63
  have fin : EP X pins σ Q w s := ⟨z, H, I, rw', q⟩
  by_cases h0 : 0 ≤ i
  · have hj : i.toNat = j := by
      rw [seqIndex_of h0 h5] at h1
      exact Option.some.inj h1
    exact item_listR pl.isList h0 (by omega) (by rw [hj]; simpa using ew) fin hs
  · have hj : (i + (its.toArray.size : Int)).toNat = j := by
      rw [seqIndex_neg (by omega) h4] at h1
      rw [List.size_toArray, ← hl]
      exact Option.some.inj h1
    exact subscriptTail_builtinR (x := w) pl.isList.typeIs slot_list_getitem.lookup
      (wpAny_getItem_list_neg (Q := fun r s' => r = w ∧ EP X pins σ Q r s') pl.isList (by omega) (by rw [List.size_toArray] <;> omega) (by omega) (by rw [hj]; simpa using ew) ⟨rfl, fin⟩) hs
theorem ix_tup : IxR X (rIxT X.K) := by
  intro value slice pins s σ H x y v u Q I rx ry h hs
  obtain ⟨p, xs, i, z, rfl, rfl, hq, he, q⟩ := h
  cases rx
  obtain ⟨t, rfl⟩ := ry
  obtain ⟨its, r, pl, hz⟩ := I.tuple hq
  obtain ⟨j, h1, h2, h3, h4, h5⟩ := atI_get he
  obtain ⟨w, ew, rw'⟩ := r.get h2
  have hl := r.length
  have hn := line63
  have fin : EP X pins σ Q w s := ⟨z, H, I, rw', q⟩
  exact subscriptTail_builtinR (x := w) pl.typeIs slot_tuple_getitem.lookup
    (getItem_tuple (j := j) (Q := fun r s' => r = w ∧ EP X pins σ Q r s') pl (by omega) (by omega) (by rw [List.size_toArray, ← hl]; exact h1) (by simpa using ew) ⟨rfl, fin⟩) hs
theorem ix_str : IxR X rIxS := by
  intro value slice pins s σ H x y v u Q I rx ry h hs
  obtain ⟨z, i, c, rfl, rfl, hz, he, q⟩ := h
  obtain ⟨t, rfl⟩ := rx
  obtain ⟨t', rfl⟩ := ry
  obtain ⟨j, h1, h2, h3, h4, h5⟩ := atI_get he
  have hl : z.cps.toList.length = z.length := by simp [Str.length]
  rw [hl] at h1 h4 h5
  have hn := line63
  exact tail_any (typeIs_str s z t) slot_str_getitem.lookup (getItem_str (c := c) (by
    have e1 : decide (i < -(2 ^ 63 : Int)) = false := decide_eq_false (by omega)
    have e2 : decide (i ≥ 2 ^ 63) = false := decide_eq_false (by omega)
    rw [e1, e2, Bool.or_false]) (by rw [h1]; simpa using h2) ⟨.str ⟨#[c]⟩, H, I.tok _, ⟨_, rfl⟩, q⟩) hs
def rIx (K : PySem.W.Frag) : R2 := fun x y H Q => rIxL K x y H Q ∨ rIxT K x y H Q ∨ rIxS x y H Q
theorem ix_seq : IxR X (rIx X.K) := ix_list.or (ix_tup.or ix_str)
theorem mapSeq_set (its : List Value) (n j : Nat) (u : Value) : Obj.mapSeq (·.setIfInBounds j u) { cls := .type "list", data := .seq its.toArray n } = { cls := .type "list", data := .seq (its.set j u).toArray n } := by
  simp [Obj.mapSeq]
theorem Inv.lst {pins : List (Addr × Obj)} {σ : St} {H : Hp} {s : Shared} {p : Addr} {xs : List V} (I : Inv X pins σ H s) (h : H p = some (.lst xs)) :
    ∃ (its : List Value) (n : Nat), Vals xs its ∧ s.heap.get? p = some { cls := .type "list", data := .seq its.toArray n } ∧ xs.length ≤ sizeLine := by
  obtain ⟨z, its, n, r, e⟩ := I.hok p _ h
  exact ⟨its, n, r, e, z⟩
theorem Inv.lstUpd {pins : List (Addr × Obj)} {σ : St} {H : Hp} {s : Shared} {p : Addr} {xs ys : List V} {its its' : List Value} {n n' : Nat} {f : Obj → Obj} (I : Inv X pins σ H s) (h : H p = some (.lst xs))
    (ho : s.heap.get? p = some { cls := .type "list", data := .seq its.toArray n }) (hf : f { cls := .type "list", data := .seq its.toArray n } = { cls := .type "list", data := .seq its'.toArray n' }) (r : Vals ys its') (hz : ys.length ≤ sizeLine) (t : Nat) :
    Inv X pins σ (upd H p (.lst ys)) { s with heap := s.heap.update p f, toks := t } := by
  have e : (s.heap.update p f).get? p = some { cls := .type "list", data := .seq its'.toArray n' } := by
    rw [Heap.get?_update_self f ho (by rw [hf] <;> rfl), hf]
  refine I.write (x := p) (e := p) (by rw [h]; trivial) (.inl rfl) (fun b u hb q => (Heap.get?_update_other _ _ (Ne.symm hb)).trans q) ⟨_, e⟩ ?_
  exact ⟨hz, its', n', r, e⟩
def rSetL : V → V → V → Hp → (Hp → Prop) → Prop := fun o i v H Q => ∃ p xs k j, o = .ref p ∧ i = .int k ∧ H p = some (.lst xs) ∧ ixN xs.length k = some j ∧ Q (upd H p (.lst (xs.set j v)))
theorem set_list : PSet X rSetL := by
  intro pins s σ H o i v ov iv u Q I ro ri rv h
  obtain ⟨p, xs, k, j, rfl, rfl, hp, hj, q⟩ := h
  cases ro
  obtain ⟨t, rfl⟩ := ri
  obtain ⟨its, n, r, ho, hz⟩ := I.lst hp
  obtain ⟨h1, h2, h3, h4⟩ := ixN_seq hj
  have hl := r.length
  have hn := line63
  have I' : Inv X pins σ (upd H p (.lst (xs.set j v))) { s with heap := s.heap.update p (Obj.mapSeq (·.setIfInBounds j u)) } :=
    I.lstUpd hp ho (mapSeq_set its n j u) (r.set rv j) (by rw [List.length_set]; exact hz) s.toks
  by_cases h0 : 0 ≤ k
  · have hk : k.toNat = j := by
      rw [seqIndex_of h0 h4] at h1
      exact Option.some.inj h1
    exact PySem.W.ki_setAt ho h0 (by omega) (by rw [List.size_toArray, ← hl]; exact h4) (by rw [hk]; exact ⟨_, I', q⟩)
  · have hk : (k + (its.toArray.size : Int)).toNat = j := by
      rw [seqIndex_neg (by omega) h3] at h1
      rw [List.size_toArray, ← hl]
      exact Option.some.inj h1
    exact PySem.W.ki_setBack ho (by omega) (by rw [List.size_toArray, ← hl]; exact h3) (by omega) (by rw [hk]; exact ⟨_, I', q⟩)
theorem slice_bounds (lo hi : Option Int) (n : Nat) : (sliceBounds lo hi none n).1 = ((HT.sIx n 0 lo : Nat) : Int) ∧ (sliceBounds lo hi none n).2.1 = ((HT.sIx n n hi : Nat) : Int) ∧ (sliceBounds lo hi none n).2.2 = 1 := by
  refine ⟨?_, ?_, rfl⟩
  · cases lo with
    | none => simp [sliceBounds, HT.sIx]
    | some i =>
      simp only [sliceBounds, HT.sIx, Option.getD_none, show (1 : Int) > 0 by decide, if_true]
      by_cases h : i < 0
      · simp only [h, if_true] <;> omega
      · simp only [h, if_false] <;> omega
  · cases hi with
    | none => simp [sliceBounds, HT.sIx]
    | some i =>
      simp only [sliceBounds, HT.sIx, Option.getD_none, show (1 : Int) > 0 by decide, if_true]
      by_cases h : i < 0
      · simp only [h, if_true] <;> omega
      · simp only [h, if_false] <;> omega
theorem slicePick_cut (its : List Value) (lo hi : Option Int) : slicePick its.toArray lo hi none = ((its.drop (HT.sIx its.length 0 lo)).take (HT.sIx its.length its.length hi - HT.sIx its.length 0 lo)).toArray := by
  obtain ⟨h1, h2, h3⟩ := slice_bounds lo hi its.toArray.size
  unfold slicePick
  rw [h1, h2, h3]
  simp only [sliceRange_one, pick_run, List.size_toArray] <;> rfl
def rSlL (K : PySem.W.Frag) : V → Option Int → Option Int → Hp → VK → Prop := fun x lo hi H Q => ∃ a xs, x = .ref a ∧ SqL K H a xs ∧ ∀ p, H p = none → Q (.ref p) (upd H p (.lst (cutV xs lo hi)))
theorem sl_list : SlR X (rSlL X.K) := by
  intro pins s σ H x v vl vu lo hi sl Q I rx hs pl pu h
  obtain ⟨a, xs, rfl, hx, q⟩ := h
  cases rx
  obtain ⟨its, r, ht, hz⟩ := I.list hx
  have hlen := r.length
  refine ⟨"list", _, slot_list_getitem.lookup, ht.isList.typeIs, ?_⟩
  refine wpAny_getItem_list_slice ht.isList hs pl pu .none (by simp) ?_ (by rw [List.size_toArray] <;> omega)
  rw [slicePick_cut, ← hlen]
  refine ⟨.ref s.heap.objs.size, _, I.laid (t' := s.toks) (o := .lst (cutV xs lo hi)) (fun b ob q => Heap.get?_push_of_some _ q) (Nat.le_refl _) ?_, rfl, q _ (I.hok.fresh (Nat.le_refl _))⟩
  exact ⟨Nat.le_trans (cutV_length xs lo hi) hz, _, 0, (r.drop (HT.sIx xs.length 0 lo)).take (HT.sIx xs.length xs.length hi - HT.sIx xs.length 0 lo), Heap.get?_push_size _ rfl⟩
def flatV : V → Bool
  | .non => true
  | .bl _ => true
  | .int _ => true
  | .str _ => true
  | _ => false
def eqV : V → V → Bool
  | .non, .non => true
  | .bl a, .bl b => a == b
  | .bl a, .int b => (if a then 1 else 0) == b
  | .int a, .bl b => a == (if b then 1 else 0)
  | .int a, .int b => a == b
  | .str a, .str b => a == b
  | _, _ => false
theorem eqAt_V {A : Around} {s : Shared} {y x : V} {u v : Value} (ry : RelV y u) (rx : RelV x v) (fy : flatV y = true) (fx : flatV x = true) : SeqAt.EqAt A s u v (eqV y x) := by
  cases y with
  | non =>
    cases ry
    cases x with
    | non => cases rx; exact SeqAt.EqAt.same _
    | bl b => cases rx; exact SeqAt.EqAt.none_bool b
    | int b => obtain ⟨t, rfl⟩ := rx; exact SeqAt.EqAt.none_int b t
    | str b => obtain ⟨t, rfl⟩ := rx; exact SeqAt.EqAt.none_str b t
    | _ => exact absurd (show false = true from fx) Bool.false_ne_true
  | bl a =>
    cases ry
    cases x with
    | non => cases rx; exact SeqAt.EqAt.bool_none a
    | bl b => cases rx; exact SeqAt.EqAt.bool_bool a b
    | int b => obtain ⟨t, rfl⟩ := rx; exact SeqAt.EqAt.bool_int a b t
    | str b => obtain ⟨t, rfl⟩ := rx; exact SeqAt.EqAt.bool_str a b t
    | _ => exact absurd (show false = true from fx) Bool.false_ne_true
  | int a =>
    obtain ⟨t', rfl⟩ := ry
    cases x with
    | non => cases rx; exact SeqAt.EqAt.int_none a t'
    | bl b => cases rx; exact SeqAt.EqAt.int_bool a t' b
    | int b => obtain ⟨t, rfl⟩ := rx; exact SeqAt.EqAt.int_int a t' b t
    | str b => obtain ⟨t, rfl⟩ := rx; exact SeqAt.EqAt.int_str a t' b t
    | _ => exact absurd (show false = true from fx) Bool.false_ne_true
  | str a =>
    obtain ⟨t', rfl⟩ := ry
    cases x with
    | non => cases rx; exact SeqAt.EqAt.str_none a t'
    | bl b => cases rx; exact SeqAt.EqAt.str_bool a t' b
    | int b => obtain ⟨t, rfl⟩ := rx; exact SeqAt.EqAt.str_int a t' b t
    | str b => obtain ⟨t, rfl⟩ := rx; exact SeqAt.EqAt.str_str a t' b t
    | _ => exact absurd (show false = true from fx) Bool.false_ne_true
  | _ => exact absurd (show false = true from fy) Bool.false_ne_true
def eqU (x : V) (u : Value) : Bool := match u with
  | .none => eqV .non x
  | .bool b => eqV (.bl b) x
  | .int i _ => eqV (.int i) x
  | .str z _ => eqV (.str z) x
  | _ => false
theorem eqU_of {x y : V} {u : Value} (r : RelV y u) (f : flatV y = true) : eqU x u = eqV y x := by
  cases y with
  | non => cases r; rfl
  | bl b => cases r; rfl
  | int i => obtain ⟨t, rfl⟩ := r; rfl
  | str z => obtain ⟨t, rfl⟩ := r; rfl
  | _ => exact absurd (show false = true from f) Bool.false_ne_true
theorem any_eqU {x : V} : ∀ {xs : List V} {us : List Value}, Vals xs us → xs.all flatV = true → us.any (eqU x) = xs.any fun y => eqV y x
  | _, _, .nil, _ => rfl
  | y :: xs, u :: us, .cons r t, f => by
    rw [List.all_cons, Bool.and_eq_true] at f
    rw [List.any_cons, List.any_cons, eqU_of r f.1, any_eqU t f.2]
theorem mem_eqAt {A : Around} {s : Shared} {x : V} {v : Value} (rx : RelV x v) (fx : flatV x = true) : ∀ {xs : List V} {us : List Value}, Vals xs us → xs.all flatV = true → ∀ u ∈ us, SeqAt.EqAt A s u v (eqU x u)
  | _, _, .nil, _ => fun u hu => by cases hu
  | y :: xs, u :: us, .cons r t, f => fun u' hu => by
    rw [List.all_cons, Bool.and_eq_true] at f
    rcases List.mem_cons.mp hu with rfl | hu
    · rw [eqU_of r f.1]; exact eqAt_V r rx f.1 fx
    · exact mem_eqAt rx fx t f.2 u' hu
def inV (x : V) (xs : List V) : Bool := xs.any fun y => eqV y x
def rIn (K : PySem.W.Frag) (neg : Bool) : R2 := fun x y H Q => ∃ p xs, y = .ref p ∧ (SqL K H p xs ∨ SqT K H p xs) ∧ flatV x = true ∧ xs.all flatV = true ∧ Q (.bl (if neg then !inV x xs else inV x xs)) H
theorem op_in_seq : OpR X (compareOp .In) (rIn X.K false) := by
  intro pins s σ H x y v u Q I rx ry h
  obtain ⟨p, xs, rfl, hq, fx, fs, q⟩ := h
  cases ry
  rcases hq with hq | hq
  · obtain ⟨its, r, pl, hz⟩ := I.list hq
    refine SeqAt.in_listAt (eqU x) pl.isList (fun w hw => mem_eqAt rx fx r fs w (by simpa using hw)) ⟨.bl _, H, I, rfl, ?_⟩
    rw [show its.toArray.any (eqU x) = its.any (eqU x) by simp, any_eqU r fs]
    exact q
  · obtain ⟨its, r, pl, hz⟩ := I.tuple hq
    refine SeqAt.in_tupleAt (eqU x) pl (fun w hw => mem_eqAt rx fx r fs w (by simpa using hw)) ⟨.bl _, H, I, rfl, ?_⟩
    rw [show its.toArray.any (eqU x) = its.any (eqU x) by simp, any_eqU r fs]
    exact q
theorem op_notIn_seq : OpR X (compareOp .NotIn) (rIn X.K true) := by
  intro pins s σ H x y v u Q I rx ry h
  obtain ⟨p, xs, rfl, hq, fx, fs, q⟩ := h
  cases ry
  rcases hq with hq | hq
  · obtain ⟨its, r, pl, hz⟩ := I.list hq
    refine SeqAt.notIn_listAt (eqU x) pl.isList (fun w hw => mem_eqAt rx fx r fs w (by simpa using hw)) ⟨.bl _, H, I, rfl, ?_⟩
    rw [show its.toArray.any (eqU x) = its.any (eqU x) by simp, any_eqU r fs]
    exact q
  · obtain ⟨its, r, pl, hz⟩ := I.tuple hq
    refine SeqAt.notIn_tupleAt (eqU x) pl (fun w hw => mem_eqAt rx fx r fs w (by simpa using hw)) ⟨.bl _, H, I, rfl, ?_⟩
    rw [show its.toArray.any (eqU x) = its.any (eqU x) by simp, any_eqU r fs]
    exact q
theorem op_notIn_str : OpR X (compareOp .NotIn) (fun x y H Q => ∃ i j, x = .str i ∧ y = .str j ∧ Q (.bl (!(!(Builtin.Str.occurrences j i 0 j.length 1).isEmpty))) H) := by
  intro pins s σ H x y v u Q I rx ry h
  obtain ⟨i, j, rfl, rfl, q⟩ := h
  obtain ⟨t, rfl⟩ := rx
  obtain ⟨t', rfl⟩ := ry
  exact notIn_str ⟨.bl _, H, I, rfl, q⟩
theorem call_len_seq : CallR X (.builtin "len") (fun xs H Q => ∃ p ys, xs = [.ref p] ∧ (SqL X.K H p ys ∨ SqT X.K H p ys) ∧ Q (.int ys.length) H) := by
  intro pins s σ H xs us Q I r h
  obtain ⟨p, ys, rfl, hq, q⟩ := h
  obtain ⟨u, rfl, rx⟩ := vals1 r
  cases rx
  have hn := line63
  rcases hq with hq | hq
  · obtain ⟨its, r', pl, hz⟩ := I.list hq
    have hlen := r'.length
    exact Calls.call_len_list pl.isList (by simp only [List.size_toArray] <;> omega) ⟨.int ys.length, H, I.tok _, ⟨s.toks + 1, by rw [List.size_toArray, hlen]⟩, q⟩
  · obtain ⟨its, r', pl, hz⟩ := I.tuple hq
    have hlen := r'.length
    exact len_tuple pl (by simp only [List.size_toArray] <;> omega) ⟨.int ys.length, H, I.tok _, ⟨s.toks + 1, by rw [List.size_toArray, hlen]⟩, q⟩
theorem call_len_str : CallR X (.builtin "len") (fun xs H Q => ∃ z, xs = [.str z] ∧ z.length ≤ sizeLine ∧ Q (.int z.length) H) := by
  intro pins s σ H xs us Q I r h
  obtain ⟨z, rfl, hz, q⟩ := h
  obtain ⟨u, rfl, t, rfl⟩ := vals1 r
  have hn := line63
  exact len_str (by omega) ⟨.int z.length, H, I.tok _, ⟨_, rfl⟩, q⟩
theorem CallR.or {f : Value} {r r' : List V → Hp → VK → Prop} (h : CallR X f r) (h' : CallR X f r') : CallR X f (fun xs H Q => r xs H Q ∨ r' xs H Q) := by
  intro pins s σ H xs us Q I rs q
  rcases q with q | q
  · exact h pins s σ H xs us Q I rs q
  · exact h' pins s σ H xs us Q I rs q
theorem call_list_of : CallR X (.type "list") (fun xs H Q => ∃ p ys, xs = [.ref p] ∧ (SqL X.K H p ys ∨ SqT X.K H p ys) ∧ ∀ l, H l = none → Q (.ref l) (upd H l (.lst ys))) := by
  intro pins s σ H xs us Q I r h
  obtain ⟨p, ys, rfl, hq, q⟩ := h
  obtain ⟨u, rfl, rx⟩ := vals1 r
  cases rx
  have fin : ∀ (its : List Value), Vals ys its → ys.length ≤ sizeLine → ∀ (h' : Heap) (c' : Nat), (∀ b o', s.heap.get? b = some o' → h'.get? b = some o') →
      h'.get? s.heap.objs.size = some { cls := .type "list", dict := none, data := .seq its.toArray c', slots := #[] } → EP X pins σ Q (.ref s.heap.objs.size) { s with heap := h' } := fun its r' hz h' c' kp e =>
    ⟨.ref s.heap.objs.size, _, I.laid (t' := s.toks) kp (Nat.le_refl _) (show ObjOk X.prog X.w X.K _ h' _ (.lst ys) from ⟨hz, its, c', r', e⟩), rfl, q _ (I.hok.fresh (Nat.le_refl _))⟩
  rcases hq with hq | hq
  · obtain ⟨its, r', pl, hz⟩ := I.list hq
    have hlen := r'.length
    obtain ⟨o, ho, hc, n, hd⟩ := pl.isList
    exact call_list_seq p (.inl rfl) ho hc hd (fun h' c' kp e => fin its r' hz h' c' kp e) (by simp only [List.size_toArray] <;> omega)
  · obtain ⟨its, r', pl, hz⟩ := I.tuple hq
    have hlen := r'.length
    obtain ⟨o, ho, hc, n, hd⟩ := pl
    exact call_list_seq p (.inr rfl) ho hc hd (fun h' c' kp e => fin its r' hz h' c' kp e) (by simp only [List.size_toArray] <;> omega)
theorem call_tuple_of : CallR X (.type "tuple") (fun xs H Q => ∃ p ys, xs = [.ref p] ∧ ((SqL X.K H p ys ∧ ∀ l, H l = none → Q (.ref l) (upd H l (.tup ys))) ∨ (SqT X.K H p ys ∧ Q (.ref p) H))) := by
  intro pins s σ H xs us Q I r h
  obtain ⟨p, ys, rfl, h⟩ := h
  obtain ⟨u, rfl, rx⟩ := vals1 r
  cases rx
  rcases h with ⟨hq, q⟩ | ⟨hq, q⟩
  · obtain ⟨its, r', pl, hz⟩ := I.list hq
    have hlen := r'.length
    refine call_tuple_list pl.isList (fun h' kp => ?_) (by simp only [List.size_toArray] <;> omega)
    have I1 : Inv X pins σ H { s with heap := h' } := I.kept (t' := s.toks) kp
    have I2 : Inv X pins σ (upd H h'.objs.size (.tup ys)) { s with heap := h'.push { cls := .type "tuple", data := .seq its.toArray } } :=
      I1.laid (t' := s.toks) (fun b o e => Heap.get?_push_of_some _ e) (Nat.le_refl _) (show ObjOk X.prog X.w X.K _ _ _ (.tup ys) from ⟨hz, its, r', IsTup.new _ _⟩)
    exact ⟨.ref h'.objs.size, _, I2, rfl, q _ (I1.hok.fresh (Nat.le_refl _))⟩
  · obtain ⟨its, r', pl, hz⟩ := I.tuple hq
    exact call_tuple_same pl ⟨.ref p, H, I, rfl, q⟩
def tyV (K : PySem.W.Frag) (T : String) (x : V) (H : Hp) : Prop := match x with
  | .str _ => T = "str"
  | .int _ => T = "int"
  | .ref p => (T = "list" ∧ ∃ xs, SqL K H p xs) ∨ (T = "tuple" ∧ ∃ o, K.lookup p = some o ∧ o.cls = .type "tuple" ∧ o.dict = none) ∨
      (T = "dict" ∧ ((∃ kvs, H p = some (.dK kvs)) ∨ ∃ kvs, H p = some (.dT kvs))) ∨ (T = "set" ∧ ∃ S n, H p = some (.set S n))
  | _ => False
theorem tyV_is {pins : List (Addr × Obj)} {σ : St} {H : Hp} {s : Shared} {T : String} {x : V} {v : Value} (I : Inv X pins σ H s) (r : RelV x v) (ty : tyV X.K T x H) :
    s.TypeIs v T ∧ ∀ a, v = .ref a → ∃ ob, s.heap.get? a = some ob ∧ ob.dict = none := by
  cases x with
  | str z =>
    obtain ⟨t, rfl⟩ := r
    cases (show T = "str" from ty)
    exact ⟨typeIs_str s z t, fun _ e => nomatch e⟩
  | int i =>
    obtain ⟨t, rfl⟩ := r
    cases (show T = "int" from ty)
    exact ⟨typeIs_int s i t, fun _ e => nomatch e⟩
  | ref p =>
    cases r
    rcases ty with ⟨rfl, xs, hq⟩ | ⟨rfl, o, hk, hc, hd⟩ | ⟨rfl, hk⟩ | ⟨rfl, S, n, hk⟩
    · obtain ⟨its, _, pl, _⟩ := I.list hq
      refine ⟨pl.isList.typeIs, fun a e => ?_⟩
      cases e
      obtain ⟨o, n, e, c, hd, _⟩ := pl
      exact ⟨o, e, hd⟩
    · refine ⟨⟨o, I.kIn p o hk, hc⟩, fun a e => ?_⟩
      cases e
      exact ⟨o, I.kIn _ o hk, hd⟩
    · have z : ∃ o, s.heap.get? p = some o ∧ o.ExactDict := by
        rcases hk with ⟨kvs, hk⟩ | ⟨kvs, hk⟩
        · obtain ⟨_, _, _, _, o, _, _, e, ex, _⟩ := I.hok p _ hk
          exact ⟨o, e, ex⟩
        · obtain ⟨_, _, _, _, o, _, _, e, ex, _⟩ := I.hok p _ hk
          exact ⟨o, e, ex⟩
      obtain ⟨o, e, ex⟩ := z
      refine ⟨⟨o, e, ex.1⟩, fun a e2 => ?_⟩
      cases e2
      exact ⟨o, e, ex.2.1⟩
    · obtain ⟨o, _, _, _, e, ex, _⟩ := I.hok p _ hk
      refine ⟨⟨o, e, ex.1⟩, fun a e2 => ?_⟩
      cases e2
      exact ⟨o, e, ex.2.1⟩
  | _ => exact False.elim ty
def tBM (K : PySem.W.Frag) (T : String) (r : V → List V → Hp → VK → Prop) (to : TE) (t : TA) : TE := fun σ H Q => to σ H fun x H1 => tyV K T x H1 ∧ t σ H1 fun xs H2 => r x xs H2 Q
variable {o e : Expr} {es : List Expr} {to : TE} {t : TA} {name : Str} {apos cpos : Pos} {T id : String} {r : V → List V → Hp → VK → Prop}
theorem pe_bm (pa : PlainAttrs T) (slot : Slot T name id) (hty : typeOf (.builtin id) = pure (.type "method_descriptor")) (hm : MtR X id r) (ho : PE X o to) (ha : PA X (e :: es) t)
    (hbase : attributeBase o name X.env (eval o X.env) = eval o X.env := by rfl)
    (hfew : ((backTo cpos (starEach (e :: es) X.env)).all (fun x => !x.1) && (backToKw cpos (keywordEach [] X.env)).all (fun x => x.1.isSome)
      && decide ((e :: es).length + ([] : List Keyword).length + (if ([] : List Keyword).isEmpty then 0 else 1) < 30)) = true := by rfl)
    (hline : (apos.endLine == cpos.line) = true := by rfl) (hs : starEach (e :: es) X.env = (false, eval e X.env) :: starEach es X.env := by rfl) (hplain : (backTo cpos (starEach es X.env)).any (·.1) = false := by rfl) :
    PE X (.Call (.Attribute o name apos) (e :: es) [] cpos) (tBM X.K T r to t) := by
  intro pins s σ H Q I h
  refine wpAny_Call_method_late hbase hfew hline rfl (thn (ho pins s σ H _ I h) fun v s1 ⟨x, H1, I1, r1, ty, q1⟩ => ?_)
  obtain ⟨h1, h2⟩ := tyV_is I1 r1 ty
  refine ⟨T, id, pa, slot, hty, h1, h2, ?_⟩
  have hA := ha cpos pins s1 σ H1 _ I1 q1
  rw [hs] at hA ⊢
  refine Calls.callWith_builtin (by show (false || (backTo cpos (starEach es X.env)).any (·.1)) = false; rw [hplain] <;> rfl) (Calls.evalArgs_plain ?_)
  exact thn hA fun us s2 ⟨vs, H2, I2, r2, q2⟩ => hm pins s2 σ H2 x vs v us Q I2 r1 r2 q2
end
end L2
namespace L2
open PySem PySem.Spec PyProof.Rows
def MtM (X : Cx) (id : String) (r : V → List V → Hp → VK → Prop) : Prop :=
  ∀ (pins : List (Addr × Obj)) (s : Shared) (σ : St) (H : Hp) (x : V) (xs : List V) (v : Value) (us : List Value) (Q : VK), Inv X pins σ H s → RelV x v → Vals xs us → r x xs H Q →
    wpAny (model X.prog X.w) X.A (call (.builtin id) (v :: us)) (EP X pins σ Q) X.xe s
theorem Vals.one {x : V} {us : List Value} (h : Vals [x] us) : ∃ u, us = [u] ∧ RelV x u := by
  cases h with
  | cons r t => cases t; exact ⟨_, rfl, r⟩
theorem Vals.two {x y : V} {us : List Value} (h : Vals [x, y] us) : ∃ u v, us = [u, v] ∧ RelV x u ∧ RelV y v := by
  cases h with
  | cons r t =>
    obtain ⟨v, rfl, q⟩ := Vals.one t
    exact ⟨_, v, rfl, r, q⟩
theorem Vals.zero {us : List Value} (h : Vals [] us) : us = [] := by cases h; rfl
theorem Vals.dropLast {xs : List V} {us : List Value} (h : Vals xs us) : Vals xs.dropLast us.dropLast := by
  induction h with
  | nil => exact .nil
  | cons r t ih =>
    cases t with
    | nil => exact .nil
    | cons q t' => exact .cons r ih
theorem Vals.reverse {xs : List V} {us : List Value} (h : Vals xs us) : Vals xs.reverse us.reverse := by
  induction h with
  | nil => exact .nil
  | cons r t ih => rw [List.reverse_cons, List.reverse_cons]; exact Vals.append ih (.cons r .nil)
theorem Vals.rep {xs : List V} {us : List Value} (h : Vals xs us) : ∀ k : Nat, Vals (List.replicate k xs).flatten (List.replicate k us).flatten
  | 0 => .nil
  | k + 1 => by
    rw [List.replicate_succ, List.replicate_succ, List.flatten_cons, List.flatten_cons]
    exact Vals.append h (Vals.rep h k)
theorem foldl_rep (its : List Value) : ∀ (k : Nat) (acc : List Value),
    List.foldl (fun x1 x2 => x1 ++ x2) acc.toArray (List.replicate k its.toArray) = (acc ++ (List.replicate k its).flatten).toArray
  | 0, acc => by simp
  | k + 1, acc => by
    have e : acc.toArray ++ its.toArray = (acc ++ its).toArray := by simp
    have e2 : (acc ++ its) ++ (List.replicate k its).flatten = acc ++ (List.replicate (k + 1) its).flatten := by
      rw [List.replicate_succ, List.flatten_cons, List.append_assoc]
    rw [← e2, ← foldl_rep its k (acc ++ its), ← e, List.replicate_succ, List.foldl_cons]
section
variable {X : Cx} {pins : List (Addr × Obj)} {σ : St} {H : Hp} {s : Shared} {l b : Addr} {xs ys zs : List V}
theorem Inv.lset {its its' : List Value} {n : Nat} {f : Array Value → Array Value} {t' : Nat} (I : Inv X pins σ H s) (hH : H l = some (.lst xs))
    (e : s.heap.get? l = some { cls := .type "list", data := .seq its.toArray n }) (hf : f its.toArray = its'.toArray) (hv : Vals ys its') (hz : ys.length ≤ sizeLine) :
    Inv X pins σ (upd H l (.lst ys)) { s with heap := s.heap.update l (Obj.mapSeq f), toks := t' } := by
  have q := PySem.IsL.update e f
  rw [hf] at q
  refine I.write (x := l) (e := l) (by rw [hH]; exact trivial) (.inl rfl) (fun b' u hb hu => (Heap.get?_update_other s.heap (Obj.mapSeq f) (Ne.symm hb)).trans hu) ⟨_, q⟩ ?_
  exact ⟨hz, its', _, hv, q⟩
theorem Inv.lnew {its : List Value} {t' : Nat} (I : Inv X pins σ H s) (hv : Vals ys its) (hz : ys.length ≤ sizeLine) :
    Inv X pins σ (upd H s.heap.objs.size (.lst ys)) { s with heap := s.heap.push { cls := .type "list", data := .seq its.toArray }, toks := t' } :=
  I.laid (fun _ _ q => Heap.get?_push_of_some _ q) (Nat.le_refl _) ⟨hz, its, 0, hv, Heap.get?_push_size _ rfl⟩
theorem Inv.fresh (I : Inv X pins σ H s) : H s.heap.objs.size = none := I.hok.fresh (Nat.le_refl _)
theorem Inv.lstM (I : Inv X pins σ H s) (hH : H l = some (.lst xs)) : xs.length ≤ sizeLine ∧ ∃ (its : List Value) (n : Nat), Vals xs its ∧ xs.length = its.length ∧ s.heap.get? l = some { cls := .type "list", data := .seq its.toArray n } := by
  obtain ⟨z, its, n, r, e⟩ := I.hok l _ hH
  exact ⟨z, its, n, r, r.length, e⟩
theorem notLongL {n : Nat} (h : n ≤ sizeLine) : Builtin.List.listTooLong n = false := by
  unfold Builtin.List.listTooLong
  exact decide_eq_false (by omega)
end
section
variable {X : Cx}
def rAppend : V → List V → Hp → VK → Prop := fun x vs H Q => ∃ l xs y, x = .ref l ∧ vs = [y] ∧ H l = some (.lst xs) ∧ xs.length < sizeLine ∧ Q .non (upd H l (.lst (xs ++ [y])))
theorem mt_append : MtM X "list.append" rAppend := by
  intro pins s σ H x vs v us Q I rx rv h
  obtain ⟨l, xs, y, rfl, rfl, hH, hz, q⟩ := h
  cases rx
  obtain ⟨u, rfl, ru⟩ := rv.one
  obtain ⟨z, its, n, r, hl, e⟩ := I.lstM hH
  refine call_meets F.slot_list_append ⟨_, e, rfl⟩ F.entry_list_append (F.args_list_append_2 _ _) (PySem.list_append l its.toArray n u (by rw [List.size_toArray]; omega)) ⟨e, ?_⟩
  refine ⟨.non, _, I.lset (its' := its ++ [u]) hH e (by simp) (r.append (.cons ru .nil)) ?_, rfl, q⟩
  rw [List.length_append, List.length_singleton]
  omega
def rCat : R2 := fun x y H Q => ∃ l b xs zs, x = .ref l ∧ y = .ref b ∧ H l = some (.lst xs) ∧ H b = some (.lst zs) ∧ xs.length + zs.length ≤ sizeLine ∧ ∀ p, H p = none → Q (.ref p) (upd H p (.lst (xs ++ zs)))
theorem op_cat : OpR X (binaryOp .Add) rCat := by
  intro pins s σ H x y v u Q I rx ry h
  obtain ⟨l, b, xs, zs, rfl, rfl, hH, hB, hz, q⟩ := h
  cases rx
  cases ry
  obtain ⟨z, its, n, r, hl, e⟩ := I.lstM hH
  obtain ⟨z2, its2, n2, r2, hl2, e2⟩ := I.lstM hB
  refine PySem.P.add_list e e2 ?_ (by rw [List.size_toArray, List.size_toArray]; omega)
  have ea : its.toArray ++ its2.toArray = (its ++ its2).toArray := by simp
  rw [ea]
  exact ⟨.ref _, _, I.lnew (t' := s.toks) (r.append r2) (by rw [List.length_append]; omega), rfl, q _ I.fresh⟩
def rRep : R2 := fun x y H Q => ∃ l k xs, x = .ref l ∧ y = .int k ∧ H l = some (.lst xs) ∧ -(2 ^ 63) ≤ k ∧ k < 2 ^ 63 ∧ xs.length * k.toNat ≤ sizeLine ∧
  ∀ p, H p = none → Q (.ref p) (upd H p (.lst (List.replicate k.toNat xs).flatten))
theorem len_rep {α : Type} (xs : List α) (k : Nat) : (List.replicate k xs).flatten.length = k * xs.length := by
  induction k with
  | zero => simp
  | succ k ih => rw [List.replicate_succ, List.flatten_cons, List.length_append, ih, Nat.succ_mul, Nat.add_comm]
theorem op_rep : OpR X (binaryOp .Mult) rRep := by
  intro pins s σ H x y v u Q I rx ry h
  obtain ⟨l, k, xs, rfl, rfl, hH, h1, h2, hz, q⟩ := h
  cases rx
  obtain ⟨t, rfl⟩ := ry
  obtain ⟨z, its, n, r, hl, e⟩ := I.lstM hH
  have hlen : its.toArray.size * k.toNat ≤ sizeLine := by rw [List.size_toArray, ← hl]; exact hz
  have hcap : ¬ its.toArray.size * k.toNat > (2 ^ 63 - 1) / 8 := by
    have : (sizeLine : Nat) ≤ (2 ^ 63 - 1) / 8 := by decide
    omega
  have hfit : ¬ (!Builtin.List.listFitsIndex k) = true := by
    rw [fitsIndex_both h1 h2]
    exact Bool.false_ne_true
  have hlong : ¬ Builtin.List.listTooLong (its.toArray.size * k.toNat) = true := by
    rw [notLongL hlen]
    exact Bool.false_ne_true
  have hnew : List.foldl (fun x1 x2 => x1 ++ x2) #[] (List.replicate (if its.toArray.isEmpty = true then 0 else k.toNat) its.toArray) = (List.replicate k.toNat its).flatten.toArray := by
    have f0 : ∀ m : Nat, List.foldl (fun x1 x2 => x1 ++ x2) #[] (List.replicate m its.toArray) = (List.replicate m its).flatten.toArray := fun m => by
      have := foldl_rep its m []
      rw [List.nil_append] at this
      exact this
    rw [f0]
    cases its with
    | nil => simp
    | cons a r' => rw [if_neg (by simp)]
  refine wpAny_binaryOp_repeat_ref (T := "list") (U := "int") (by decide) ⟨_, e, rfl⟩ (fun s' => typeIs_int s' k t) noFill_list_mul F.fills_int_mul F.slot_int_rmul repeat_list F.slot_int_index.lookup
    (call_meets F.slot_int_rmul (typeIs_int s k t) F.entry_int_rmul (F.args_int_rmul_2 _ _) (int___rmul___int_list k t l its.toArray n)
      ⟨e, rfl, ⟨_, e, rfl⟩, call_meets F.slot_list_mul ⟨_, e, rfl⟩ F.entry_list_mul (F.args_list_mul_2 _ _) (AutoListH.list___mul___list_int_3 l its.toArray n k t hfit hcap hlong) ⟨e, ?_⟩⟩)
  rw [hnew]
  exact ⟨.ref _, _, I.lnew (t' := s.toks) (r.rep k.toNat) (by rw [len_rep, Nat.mul_comm]; exact hz), rfl, q _ I.fresh⟩
end
section
variable {prog : Program} {w : World} {A : Around} {E : Value → Shared → Prop} {s : Shared}
end
section
variable {X : Cx}
end
end L2
namespace Att
open PySem PySem.W PySem.Calls PyProof.Rows
theorem ints_of_wellAll {P : Params} {h : Heap} : ∀ (ns : List Int) (vs : List Value), WellAll P h vs (ns.map WData.int) → IntsAre vs ns := by
  intro ns
  induction ns with
  | nil =>
    intro vs w
    rw [List.map_nil] at w
    cases w
    exact .nil
  | cons n ns ih =>
    intro vs w
    rw [List.map_cons] at w
    cases w with
    | cons a b =>
      cases a
      exact .cons _ _ (ih _ b)
theorem script_of {l : OpenLaw} {n : Nat} (hn : l.most = some n) {P : Params} {h : Heap} {args : List WData} {vals : List Value}
    (hpre : l.row.toRowW.claim.pre args = true) (hwl : WellAll P h vals args) :
    ∃ a vs ns, vals = [Value.ref a] ∧ args = [WData.list (ns.map WData.int)] ∧ h.get? a = some { cls := .type "list", data := .seq vs.toArray } ∧ IntsAre vs ns ∧ ns.length ≤ n := by
  have hsh : WShape.hasAll [] args [.list .int] = true := (pre_splitW hpre).1
  have hc : l.pre.holds [] { args := args } = true := (pre_splitW hpre).2
  obtain ⟨d, r, rfl, h1, h2⟩ := hasAllW_cons hsh
  obtain rfl := hasAllW_nil h2
  obtain ⟨xs, rfl, h3⟩ := hasW_list h1
  obtain ⟨ns, rfl⟩ := items_int h3
  have hlen : ns.length ≤ n := by
    unfold OpenLaw.pre at hc
    have h4 : (WTm.not (.lt (.lit (.int (n : Int))) (.len (.arg 0)))).holds [] { args := [.list (ns.map .int)] } = true := by
      have h4 := (holds_andW hc).1
      rw [hn] at h4
      exact h4
    have h5 := condW_of h4 (w_not (w_lt w_lit (w_len_list (w_arg rfl))))
    rw [List.length_map] at h5
    refine Nat.le_of_not_lt fun q => ?_
    have q' : (n : Int) < ((ns.length : Nat) : Int) := by omega
    first
      | (rw [decide_eq_true q'] at h5; exact absurd h5 (by decide))
      | (simp at h5; omega)
  cases hwl with
  | cons w1 w2 =>
    cases w2
    cases w1 with
    | list ho hall => exact ⟨_, _, ns, rfl, rfl, ho, ints_of_wellAll ns _ hall, hlen⟩
theorem post_true (l : OpenLaw) (args : List WData) : l.row.toRowW.claim.post args (.bool true) args = true :=
  postW_of (r := l.row.toRowW) (X := (true == true))
    (show WShape.has [] (.bool true) .bool = true by first | rfl | decide | simp [WShape.has, WShape.arms, WShape.armsAll])
    (show (WTm.eq .res (.lit (.bool true))).value [] { args := args, res := some (.bool true), after := args } = some (.bool (true == true)) from w_eq_bool (w_res rfl) w_lit) rfl
theorem attach_call {l : OpenLaw} {n : Nat} {q : Program} {loose : List Str} {XP : (Str → Option Value) → Heap → Prop} {YP : World → Heap → Prop} {d : DefRec}
    (hn : l.most = some n) (hdf : d.params.defaults = [])
    (call : ∀ (w : World) (s₀ s₁ : Shared) (mg mb : Str → Option Value) (fa : Addr) (o : Obj) (pm cd doc : Value) (a : Addr) (vs : List Value) (ns : List Int),
      Ground q loose [] XP w s₀ mg mb s₁.heap → YP w s₁.heap →
      s₁.heap.get? fa = some o → o.data = .func (docDef d.name d.params d.body d.scope pm cd doc) → s₁.heap.CodeRec cd d.name → mg d.name = some (.ref fa) →
      s₁.heap.get? a = some { cls := .type "list", data := .seq vs.toArray } → IntsAre vs ns → ns.length ≤ n → s₁.gens = #[] →
      codeAny (model l.prog w) callerA (.call (.ref fa) ⟨[.ref a], []⟩) (fun r s' => r = .ok (.ret (.bool true)) ∧ OldK s₁.heap s'.heap ∧ s'.os = s₁.os ∧ AllBare s'.gens) s₁) :
    WalkO q loose XP YP l.row.toRowW d [] (fun f vs => PySem.call f vs) := by
  intro w s₀ s₁ mg mb G Y fa o pm cd doc dV kV ho hd hcd hD hmg hg args vals as hpre hlay hrd hwl hlo
  obtain rfl : dV = .none := Dflts.none hD hdf
  obtain rfl : kV = .none := Dflts.noKw hD
  obtain ⟨a, vs, ns, rfl, rfl, hobj, hints, hlen⟩ := script_of hn hpre hwl
  refine enter_call (codeAny_mono (call w s₀ s₁ mg mb fa o pm cd doc a vs ns G Y ho (fd_plain hd) hcd hmg hobj hints hlen hg) fun r s' hq => ?_)
  obtain ⟨rfl, h2, h3, h4⟩ := hq
  exact ⟨.inl ⟨.bool true, .bool true, [], rfl, fun _ => rfl, .bool true, post_true l _, fun _ => ⟨List.Pairwise.nil, fun _ hm => (nomatch hm)⟩⟩, h2, h3, h4⟩
section
variable {prog : Program} {w : World} {A : Around} {E : Value → Shared → Prop} {s : Shared} {K : Frag}
theorem get_field {x C : Addr} {ox : Obj} {es : List DictEntry} {n : Nat} {name : Str} {expr : Bool} {v : Value} {Q : Value → Shared → Prop}
    (X : K.In s.heap) (I : PySem.W.InstAt s.heap x ox C (some (dictOf es n))) (hg : plainGet K C name = true) (hh : hasDictIn K C = true) (ha : findIn K (.ref C) name = some none)
    (hl : getL name es = some (some v)) (hv : handedIn v = true) (h : Q v { s with toks := s.toks + 1 }) : wpAny (model prog w) A (getAttr (.ref x) name expr) Q E s :=
  get_value X I (plainGet_of hg).1 (findObj_own hh ha rfl hl) hv h
def ledger (h : Heap) (L d : Addr) : List (Addr × Obj) := (List.range h.objs.size).filterMap fun a => if a = L ∨ a = d then none else (h.get? a).map fun o => (a, o)
end
end Att
namespace L2
open PySem PySem.Spec PyProof.Rows
theorem vals_ints : ∀ {vs : List Value} {ns : List Int}, IntsAre vs ns → Vals (ns.map V.int) vs
  | _, _, .nil => .nil
  | _, _, .cons n t h => .cons ⟨t, rfl⟩ (vals_ints h)
def Only (H : Hp) : Prop := ∀ b, H b = none ∨ ∃ o xs, H b = some (.frz o (.lst xs))
theorem law_call {P : Program} {w : World} {K : PySem.W.Frag} {mg mb : Str → Option Value} {CX : CXT} {k : Nat} {fa a : Addr} {fd : FuncData} {x : Str} {sp : Sp} {s₁ : Shared} {vs : List Value} {ns : List Int}
    (KX : K.In s₁.heap) (hns : s₁.heap.Ns mainGlobals mg) (hb : s₁.heap.Ns builtinsNs mb) (hbb : ∀ x : Str, x ≠ "__name__" → mb x = bootBuiltins x) (hlim : s₁.heap.NoLimit) (hg : s₁.gens = #[])
    (ha : s₁.heap.get? a = some { cls := .type "list", data := .seq vs.toArray }) (hi : IntsAre vs ns) (hl : ns.length ≤ sizeLine) (hr : Room k callerA)
    (F : ∀ base : Heap, K.In base → base.Ns mainGlobals mg → FnOk P w K mg base CX k fa fd [x] sp) (hbind : ∀ (s : Shared) (u : Value), BindsTo s fd ⟨[u], []⟩ [(x, u)])
    (hsp : ∀ H : Hp, Only H → SqL K H a (ns.map V.int) → sp [.ref a] H (fun v _ => v = .bl true) fun _ _ _ => False)
    (hCX : ∀ H e s', CX [] H s₁ (fun _ _ _ => False) e s' → False) :
    codeAny (model P w) callerA (.call (.ref fa) ⟨[.ref a], []⟩) (fun r s' => r = .ok (.ret (.bool true)) ∧ OldK s₁.heap s'.heap ∧ s'.os = s₁.os ∧ AllBare s'.gens) s₁ := by
  have rv := vals_ints hi
  have lenV := hi.length
  have core : ∀ H : Hp, Only H → SqL K H a (ns.map V.int) → HOk P w K H s₁.heap → (∀ b, H b ≠ none → b = a) → (H a ≠ none → K.lookup a = none) →
      codeAny (model P w) callerA (.call (.ref fa) ⟨[.ref a], []⟩) (fun r s' => r = .ok (.ret (.bool true)) ∧ OldK s₁.heap s'.heap ∧ s'.os = s₁.os ∧ AllBare s'.gens) s₁ := by
    intro H hO hS hok hA hK
    have base_of : ∀ {b : Addr} {o : Obj}, s₁.heap.get? b = some o → H b = none → (hidT s₁.heap H).get? b = some o := fun e n => hidT_get e n
    have noA : ∀ {b : Addr} {o : Obj} {es : Array DictEntry} {ep : Nat}, s₁.heap.get? b = some o → o.data = .dict es ep → H b = none := fun {b o es ep} e d => by
      cases q : H b with
      | none => rfl
      | some u =>
        have e' : b = a := hA b (by rw [q]; simp)
        subst e'
        rw [ha] at e; cases e
        have d' : Data.seq vs.toArray _ = Data.dict es ep := d
        cases d'
    have nsK : ∀ {b : Addr} {m : Str → Option Value}, s₁.heap.Ns b m → (hidT s₁.heap H).Ns b m := fun {b m} ⟨o, es, ep, e, d, r⟩ => ⟨o, es, ep, base_of e (noA e d), d, r⟩
    have hKb : K.In (hidT s₁.heap H) := fun b o e => base_of (KX b o e) (by
      cases q : H b with
      | none => rfl
      | some u =>
        have e' : b = a := hA b (by rw [q]; simp)
        subst e'
        rw [hK (by rw [q]; simp)] at e; cases e)
    have hM : Mod K mg (hidT s₁.heap H) := ⟨hKb, nsK hns, ⟨mb, nsK hb, hbb⟩, let ⟨mc, h1, h2⟩ := hlim; ⟨mc, nsK h1, h2⟩⟩
    have e0 : Env0 P w K mg (hidT s₁.heap H) callerA [] s₁ H := ⟨rfl, hM, fun b o e => of_hidT e, Nat.le_of_eq (hidT_size _ _), trivial, fun b hb => absurd (show b ∈ ([] : List Addr) from hb) (by simp), hok, .of_eq hg⟩
    refine codeAny_mono ((F _ hKb (nsK hns)).run callerA [] s₁ H ⟨[.ref a], []⟩ [.ref a] [.ref a] _ _ hr e0 (hbind s₁ (.ref a)) (.cons rfl .nil) (hsp H hO hS)) fun r s' h => ?_
    cases r with
    | error e => exact (hCX H e s' h).elim
    | ok fl =>
      cases fl with
      | next => exact False.elim h
      | brk => exact False.elim h
      | cont => exact False.elim h
      | ret u =>
        obtain ⟨v, H', os, bare, un, hok', r', q⟩ := h
        have q' : v = .bl true := q
        subst q'
        obtain rfl : u = Value.bool true := r'
        refine ⟨rfl, OldK.of_keep fun b o e => ?_, os, bare⟩
        cases q : H b with
        | none => exact un.keep b o e q (by intro z; exact absurd (show b ∈ ([] : List Addr) from z) (by simp)) (by simp)
        | some u =>
          rcases hO b with z | ⟨ob, xs, z⟩
          · rw [q] at z; cases z
          · have z2 := un.frzs b ob _ z
            obtain ⟨e1, _⟩ := hok b _ z
            obtain ⟨e2, _⟩ := hok' b _ z2
            rw [e] at e1; cases e1
            exact e2
  cases hk : K.lookup a with
  | some o =>
    have e := KX a o hk
    rw [ha] at e
    cases e
    refine core (fun _ => none) (fun _ => .inl rfl) (.inr ⟨_, vs.toArray, _, hk, rfl, rfl, rfl, by rw [List.size_toArray, lenV]; exact hl, by simpa using rv⟩) (fun b u z => by have z' : (none : Option HO) = some u := z; cases z') (fun b z => absurd rfl z) fun z => absurd rfl z
  | none =>
    refine core (fun b => if b = a then some (.frz { cls := .type "list", data := .seq vs.toArray } (.lst (ns.map V.int))) else none) (fun b => ?_) (.inl (.inr ⟨{ cls := .type "list", data := .seq vs.toArray }, if_pos rfl⟩)) (fun b u z => ?_) (fun b z => ?_) fun _ => hk
    · by_cases hb : b = a
      · exact .inr ⟨_, _, if_pos hb⟩
      · exact .inl (if_neg hb)
    · by_cases hb : b = a
      · have z' := (if_pos hb).symm.trans z
        cases z'
        subst hb
        exact ⟨ha, by rw [List.length_map]; exact hl, vs, _, rv, ha⟩
      · have z' := (if_neg hb).symm.trans z
        cases z'
    · by_cases hb : b = a
      · exact hb
      · exact absurd (if_neg hb) z
end L2
namespace L2
open PySem PySem.Spec PyProof.Rows
theorem walk_of {l : PySem.W.OpenLaw} {n k : Nat} {q : Program} {loose : List Str} {XP : (Str → Option Value) → Heap → Prop} {YP : World → Heap → Prop} {d : DefRec} {K : Params → PySem.W.Frag} {CX : World → CXT} {sp : World → Sp} {x : Str}
    (hn : l.most = some n) (hn2 : n ≤ sizeLine) (hdf : d.params.defaults = []) (hr : Room k callerA)
    (hY : ∀ (w : World) (h : Heap), YP w h → (K w.params).In h)
    (F : ∀ (w : World) (mg : Str → Option Value) (fa : Addr) (h : Heap), (K w.params).In h → h.Ns mainGlobals mg → mg d.name = some (.ref fa) →
      ∃ fd : FuncData, (∀ (s : Shared) (u : Value), BindsTo s fd ⟨[u], []⟩ [(x, u)]) ∧
        ∀ base : Heap, (K w.params).In base → base.Ns mainGlobals mg → FnOk l.prog w (K w.params) mg base (CX w) k fa fd [x] (sp w))
    (hsp : ∀ (w : World) (H : Hp) (a : Addr) (ns : List Int), ns.length ≤ n → Only H → SqL (K w.params) H a (ns.map V.int) → sp w [.ref a] H (fun v _ => v = .bl true) fun _ _ _ => False)
    (hCX : ∀ (w : World) (H : Hp) (s : Shared) (e : Value) (s' : Shared), CX w [] H s (fun _ _ _ => False) e s' → False) :
    PySem.W.WalkO q loose XP YP l.row.toRowW d [] (fun f vs => PySem.call f vs) := by
  refine Att.attach_call hn hdf fun w s₀ s₁ mg mb fa o pm cd doc a vs ns G Y ho hd hcd hmg hobj hints hlen hg => ?_
  have KX := hY w _ Y
  obtain ⟨fd, hb, hF⟩ := F w mg fa _ KX G.T.g hmg
  exact law_call KX G.T.g G.T.b G.T.builtins G.T.nolimit hg hobj hints (Nat.le_trans hlen hn2) hr hF hb (fun H hO hS => hsp w H a ns hlen hO hS) fun H e s' => hCX w H s₁ e s'
end L2
namespace L2
open PySem PySem.Spec PyProof.Rows
def inClass (s : Stmt) (j : Nat) : Stmt := match s with
  | .ClassDef _ _ _ body _ _ _ _ _ _ _ => body.getD j (.Pass ⟨0, 0, 0, 0⟩)
  | _ => .Pass ⟨0, 0, 0, 0⟩
def defArgs (s : Stmt) : Arguments := match s with
  | .FunctionDef _ a _ _ _ _ _ _ _ _ => a
  | _ => { posonlyargs := [], args := [], vararg := none, kwonlyargs := [], kw_defaults := [], kwarg := none, defaults := [] }
def defBody (s : Stmt) : List Stmt := match s with
  | .FunctionDef _ _ b _ _ _ _ _ _ _ => b
  | _ => []
def defScope (s : Stmt) : Scope := match s with
  | .FunctionDef _ _ _ _ _ _ sc _ _ _ => sc
  | _ => { kind := .function, names := [], isGenerator := false, isCoroutine := false }
abbrev CX0 : CXT := fun _ _ _ _ _ _ => False
abbrev E0 : XK := fun _ _ _ => False
theorem pass0 {X : Cx} : Passes CX0 X E0 := fun _ _ _ _ _ _ _ h => h.elim
structure Fun (K : PySem.W.Frag) (x qual : Str) (st : Stmt) (f : Addr) (fd : FuncData) : Prop where
  ex : ∃ (oc : Value) (od : Option Addr) (kV doc pm : Value) (an : Option Addr) (cdv ct : Value) (osl : Array (Option Value)),
    fd = PySem.W.fnOf x qual (defArgs st) (defBody st) (defScope st) .none kV doc pm an cdv ct ∧ K.lookup f = some ⟨oc, od, .func fd, osl⟩ ∧ PySem.W.codeIn K cdv qual = true
  kp : PySem.W.keepIn K (.ref f) = true
section
variable {P : Program} {w : World} {K : PySem.W.Frag} {mg : Str → Option Value} {base : Heap}
theorem Fun.ok {x qual : Str} {st : Stmt} {f : Addr} {fd : FuncData} {N ps : List Str} {k : Nat} {sp : Sp} (F : Fun K x qual st f fd) (S : FnScope N ps (defScope st)) (len : ∀ vs H Q E, sp vs H Q E → vs.length = ps.length)
    (hbody : ∀ (cdv : Value) (A : Around) (outer : List Env) (s : Shared) (H : Hp) (vs : List V) (Q : VK) (E : XK), Room k (A.deeper (envOfC qual (defScope st) s.heap.objs.size f cdv)) → sp vs H Q E →
      ∃ t, PSs (cxOf CX0 P w K mg base N qual (defScope st) f cdv A outer s H E).nox (defBody st) t ∧ t { nx := fun _ H' => Q .non H', rt := Q } (start N vs) H) : FnOk P w K mg base CX0 (k + 1) f fd ps sp := by
  obtain ⟨oc, od, kV, doc, pm, an, cdv, ct, osl, rfl, lk, hcd⟩ := F.ex
  refine fn_of lk hcd S len fun A outer s H vs Q E hr hsp => ?_
  obtain ⟨t, h, q⟩ := hbody cdv A outer s H vs Q E hr hsp
  exact ⟨t, h.nox, q⟩
theorem Fun.binds {x qual : Str} {st : Stmt} {f : Addr} {fd : FuncData} {ps : List Str} (F : Fun K x qual st f fd)
    (h : ∀ (kV doc pm : Value) (an : Option Addr) (cdv ct : Value) (us : List Value), us.length = ps.length → bindArgs (PySem.W.fnOf x qual (defArgs st) (defBody st) (defScope st) .none kV doc pm an cdv ct) ⟨us, []⟩ = pure (ps.zip us)) : Binds K fd ps [] := by
  obtain ⟨oc, od, kV, doc, pm, an, cdv, ct, osl, rfl, lk, hcd⟩ := F.ex
  exact .all (h kV doc pm an cdv ct)
theorem fun_mk {x qual : Str} {st : Stmt} {f : Addr} {oc : Value} {od an : Option Addr} {osl : Array (Option Value)} {kV doc pm cdv ct : Value} (l : K.lookup f = some ⟨oc, od, .func (PySem.W.fnOf x qual (defArgs st) (defBody st) (defScope st) .none kV doc pm an cdv ct), osl⟩)
    (c : PySem.W.codeIn K cdv qual = true) (k : PySem.W.keepIn K (.ref f) = true) : Fun K x qual st f (PySem.W.fnOf x qual (defArgs st) (defBody st) (defScope st) .none kV doc pm an cdv ct) := ⟨⟨oc, od, kV, doc, pm, an, cdv, ct, osl, rfl, l, c⟩, k⟩
end
theorem hu_of {A : Around} {k : Nat} (hr : Room k A) : A.units + 1 < cLine := Nat.lt_of_le_of_lt (Nat.add_le_add_left (by decide : 1 ≤ 64) _) hr.units
theorem small1000 {n : Nat} (h : n ≤ 1000) : n < sizeLine := Nat.lt_of_le_of_lt h (by decide)
section
variable {X : Cx}
theorem pv (i : Nat) {x : Str} {pos : Pos} (hN : X.N[i]? = some x := by rfl) (hv : Vis X.env.scope x := by first | exact Or.inl rfl | exact Or.inr (Or.inl rfl) | exact Or.inr (Or.inr rfl)) (hd : (x == ("__debug__" : Str)) = false := by decide)
    (hcd : (x == ("__classdict__" : Str)) = false := by decide) : PE X (.Name x pos) (tVar i) := pe_var hN hv hd hcd
end
theorem iteF {A B : Prop} (h : B) : if false = true then A else B := by
  rw [if_neg Bool.false_ne_true]
  exact h
theorem iteT {A B : Prop} (h : A) : if true = true then A else B := by
  rw [if_pos rfl]
  exact h
def Same (H H' : Hp) : Prop := ∀ b o, H b = some o → H' b = some o
theorem Same.refl (H : Hp) : Same H H := fun _ _ h => h
theorem Same.trans {H H1 H2 : Hp} (a : Same H H1) (b : Same H1 H2) : Same H H2 := fun c o h => b c o (a c o h)
theorem Same.free {H H' : Hp} (e : Same H H') {l : Addr} (h : H' l = Option.none) : H l = Option.none := by
  cases q : H l with
  | none => rfl
  | some o =>
    rw [e l o q] at h
    cases h
theorem Same.seq {K : PySem.W.Frag} {H H' : Hp} {a : Addr} {xs : List V} (e : Same H H') (h : SqL K H a xs) : SqL K H' a xs := by
  rcases h with (h | ⟨o, h⟩) | h
  · exact .inl (.inl (e _ _ h))
  · exact .inl (.inr ⟨o, e _ _ h⟩)
  · exact .inr h
end L2
namespace L2
open PySem PySem.Spec PyProof.Rows
section
variable {X : Cx}
theorem call_lenD : CallR X (.builtin "len") (fun xs H Q => ∃ a kvs, xs = [V.ref a] ∧ H a = some (.dK kvs) ∧ Q (.int kvs.length) H) := by
  intro pins s σ H xs us Q I r h
  obtain ⟨a, kvs, rfl, ha, q⟩ := h
  obtain ⟨u, rfl, ru⟩ := vals1 r
  cases ru
  exact d_len I (.inl ha) fun t s' I' => ⟨.int kvs.length, H, I', ⟨t, rfl⟩, q⟩
end
section
variable {κ : Type} [DecidableEq κ]
end
end L2
namespace L2
open PySem PySem.Spec PyProof.Rows
theorem forIn_yield_fold {α β : Type} {l : List α} {f : α → β → Sem (ForInStep β)} (g : α → β → β) : ∀ (c : β), (∀ x ∈ l, ∀ c, f x c = pure (.yield (g x c))) →
    forIn l c f = pure (l.foldl (fun c x => g x c) c) := by
  induction l with
  | nil => intro c _; rfl
  | cons x l ih =>
    intro c h
    rw [List.forIn_cons, h x List.mem_cons_self, pure_bind]
    exact ih _ fun y hy => h y (List.mem_cons_of_mem _ hy)
def clStep (env : Env) (x : Str × NameKind) (c : List (Str × Addr)) : List (Str × Addr) := if x.2 = .free then (x.1, (env.cells.lookup x.1).getD 0) :: c else c
def clOf (env : Env) (names : List (Str × NameKind)) : List (Str × Addr) := names.foldl (fun c x => clStep env x c) []
theorem closureFor_cl {scope : Scope} {env : Env} (h : ∀ x ∈ scope.names, x.2 = .free → ∃ c, env.cells.lookup x.1 = some c) : closureFor scope env = pure (clOf env scope.names) := by
  simp only [closureFor]
  rw [forIn_yield_fold (clStep env) [] (fun x hx c => by
    obtain ⟨n, kind⟩ := x
    by_cases e : kind = .free
    · subst e
      obtain ⟨a, ha⟩ := h _ hx rfl
      have ha' : env.cells.lookup n = some a := ha
      simp [clStep, cellOf, ha']
    · have : (kind == NameKind.free) = false := by simpa using e
      simp [clStep, e, this])]
  rfl
theorem clFold_sub {env : Env} : ∀ (l : List (Str × NameKind)) (cs : List (Str × Addr)), (∀ x ∈ l, x.2 = .free → ∃ c, env.cells.lookup x.1 = some c) → (∀ y c, cs.lookup y = some c → env.cells.lookup y = some c) →
    ∀ y c, (l.foldl (fun c x => clStep env x c) cs).lookup y = some c → env.cells.lookup y = some c
  | [], cs, _, h2, y, c, e => h2 y c e
  | x :: r, cs, h1, h2, y, c, e => by
    refine clFold_sub r (clStep env x cs) (fun z hz => h1 z (List.mem_cons_of_mem _ hz)) (fun z d q => ?_) y c e
    unfold clStep at q
    by_cases k : x.2 = .free
    · rw [if_pos k] at q
      obtain ⟨a, ha⟩ := h1 x List.mem_cons_self k
      rw [List.lookup_cons] at q
      cases hb : z == x.1 with
      | true =>
        rw [hb] at q
        have ez : z = x.1 := by simpa using hb
        rw [ha] at q
        have q' : a = d := by simpa using q
        rw [ez, ha, q']
      | false =>
        rw [hb] at q
        exact h2 z d q
    · rw [if_neg k] at q
      exact h2 z d q
theorem cl_sub {env : Env} {names : List (Str × NameKind)} (h : ∀ x ∈ names, x.2 = .free → ∃ c, env.cells.lookup x.1 = some c) {y : Str} {c : Addr} (e : (clOf env names).lookup y = some c) : env.cells.lookup y = some c :=
  clFold_sub names [] h (fun y c q => by simp at q) y c e
theorem clFold_has {env : Env} {y : Str} : ∀ (l : List (Str × NameKind)) (cs : List (Str × Addr)), ((y, .free) ∈ l ∨ ∃ c, cs.lookup y = some c) → ∃ c, (l.foldl (fun c x => clStep env x c) cs).lookup y = some c
  | [], cs, h => by
    rcases h with h | h
    · simp at h
    · exact h
  | x :: r, cs, h => by
    refine clFold_has r (clStep env x cs) ?_
    rcases h with h | ⟨c, h⟩
    · rcases List.mem_cons.mp h with e | e
      · refine .inr ⟨(env.cells.lookup y).getD 0, ?_⟩
        rw [← e]
        simp [clStep]
      · exact .inl e
    · refine .inr ?_
      unfold clStep
      split
      · rw [List.lookup_cons]
        split
        · exact ⟨_, rfl⟩
        · exact ⟨c, h⟩
      · exact ⟨c, h⟩
theorem cl_has {env : Env} {names : List (Str × NameKind)} {y : Str} (h : (y, .free) ∈ names) : ∃ c, (clOf env names).lookup y = some c := clFold_has names [] (.inl h)
theorem mem_of_lookup {x : Str} {k : NameKind} : ∀ {l : List (Str × NameKind)}, l.lookup x = some k → (x, k) ∈ l
  | [], h => by simp at h
  | (n, j) :: r, h => by
    rw [List.lookup_cons] at h
    cases hb : x == n with
    | true =>
      rw [hb] at h
      have e : x = n := by simpa using hb
      have e2 : j = k := by simpa using h
      rw [e, e2]
      exact List.mem_cons_self
    | false =>
      rw [hb] at h
      exact List.mem_cons_of_mem _ (mem_of_lookup h)
theorem relabel_free {env : Env} : ∀ {names : List (Str × NameKind)} {x : Str}, names.lookup x = some .free →
    (names.map fun (n, k) => if (k == NameKind.free && env.scope.kind == .function && env.kindOf n == some .cell) then (n, NameKind.cell) else (n, k)).lookup x = some .cell ∨
    (names.map fun (n, k) => if (k == NameKind.free && env.scope.kind == .function && env.kindOf n == some .cell) then (n, NameKind.cell) else (n, k)).lookup x = some .free
  | [], _, h => by simp at h
  | (n, k) :: r, x, h => by
    have ih := @relabel_free env r x
    cases hx : x == n with
    | true =>
      simp only [List.lookup_cons, hx] at h
      cases h
      by_cases hc : (NameKind.free == NameKind.free && env.scope.kind == .function && env.kindOf n == some .cell) = true
      · refine .inl ?_
        simp only [List.map_cons, if_pos hc, List.lookup_cons, hx]
      · refine .inr ?_
        simp only [List.map_cons, if_neg hc, List.lookup_cons, hx]
    | false =>
      simp only [List.lookup_cons, hx] at h
      have ih := ih h
      by_cases hc : (k == NameKind.free && env.scope.kind == .function && env.kindOf n == some .cell) = true
      · simp only [List.map_cons, if_pos hc, List.lookup_cons, hx]
        exact ih
      · simp only [List.map_cons, if_neg hc, List.lookup_cons, hx]
        exact ih
theorem of_relabel {env : Env} : ∀ {names : List (Str × NameKind)} {x : Str} {j : NameKind}, (∀ y ∈ names, y.2 ≠ .cell) → (j = .cell ∨ j = .free) →
    (names.map fun (n, k) => if (k == NameKind.free && env.scope.kind == .function && env.kindOf n == some .cell) then (n, NameKind.cell) else (n, k)).lookup x = some j → (x, .free) ∈ names
  | [], _, _, _, _, h => by simp at h
  | (n, k) :: r, x, j, hn, hj, h => by
    have ih := @of_relabel env r x j (fun y hy => hn y (List.mem_cons_of_mem _ hy)) hj
    cases hx : x == n with
    | true =>
      have e : x = n := by simpa using hx
      subst e
      by_cases hc : (k == NameKind.free && env.scope.kind == .function && env.kindOf x == some .cell) = true
      · have hk : k = .free := by
          simp only [Bool.and_eq_true, beq_iff_eq] at hc
          exact hc.1.1
        subst hk
        exact List.mem_cons_self
      · simp only [List.map_cons, if_neg hc, List.lookup_cons, hx] at h
        have hk : k = j := by simpa using h
        rcases hj with z | z
        · exact absurd (hk.trans z) (hn (x, k) List.mem_cons_self)
        · rw [hk, z]
          exact List.mem_cons_self
    | false =>
      by_cases hc : (k == NameKind.free && env.scope.kind == .function && env.kindOf n == some .cell) = true
      · simp only [List.map_cons, if_pos hc, List.lookup_cons, hx] at h
        exact List.mem_cons_of_mem _ (ih h)
      · simp only [List.map_cons, if_neg hc, List.lookup_cons, hx] at h
        exact List.mem_cons_of_mem _ (ih h)
abbrev Cx.comp (X : Cx) (N : List Str) (scope : Scope) (C : Addr) (s : Shared) (H : Hp) (fp : List Addr) : Cx where
  prog := X.prog
  w := X.w
  K := X.K
  mg := X.mg
  base := X.base
  A := X.A
  N := N
  s₀ := s
  H₀ := H
  env := compEnvC scope (clOf X.env scope.names) C X.env
  outer := X.stack
  stack := X.stack
  ex := fp
  fn := fun _ => false
  calm := X.calm
  pn := []
  xe := fun _ _ => False
def capOk (scope : Scope) (ON N : List Str) (cap : List (Option Nat)) : Bool :=
  cap.length == N.length && (List.range N.length).all fun j => match cap[j]? with
    | some (some i) => (match N[j]?, ON[i]? with
      | some x, some y => x == y && (scope.names.lookup x == some NameKind.free)
      | _, _ => false)
    | _ => true
structure CSc (osc scope : Scope) (ON N : List Str) (cap : List (Option Nat)) : Prop where
  kind : scope.kind = .function
  noc : ∀ y ∈ scope.names, y.2 ≠ .cell
  loc : ∀ y ∈ scope.names, y.2 = .local → scope.names.lookup y.1 = some .local
  fr : ∀ y ∈ scope.names, y.2 = .free → osc.names.lookup y.1 = some .cell ∨ osc.names.lookup y.1 = some .free
  cap : capOk scope ON N cap = true
theorem CSc.at {osc scope : Scope} {ON N : List Str} {cap : List (Option Nat)} (S : CSc osc scope ON N cap) {j i : Nat} {x : Str} (h : cap[j]? = some (some i)) (hx : N[j]? = some x) : ON[i]? = some x ∧ scope.names.lookup x = some .free := by
  have h0 := S.cap
  unfold capOk at h0
  rw [Bool.and_eq_true] at h0
  have hj : j < N.length := (List.getElem?_eq_some_iff.mp hx).1
  have h1 := List.all_eq_true.mp h0.2 j (List.mem_range.mpr hj)
  rw [h] at h1
  dsimp only at h1
  rw [hx] at h1
  cases hy : ON[i]? with
  | none => rw [hy] at h1; simp at h1
  | some y =>
    rw [hy] at h1
    simp only [Bool.and_eq_true, beq_iff_eq] at h1
    exact ⟨by rw [h1.1], h1.2⟩
theorem CSc.len {osc scope : Scope} {ON N : List Str} {cap : List (Option Nat)} (S : CSc osc scope ON N cap) : cap.length = N.length := by
  have h0 := S.cap
  unfold capOk at h0
  rw [Bool.and_eq_true, beq_iff_eq] at h0
  exact h0.1
def capV (σ : St) : Option Nat → Option V
  | some i => (σ[i]?).getD none
  | none => none
def capSt (cap : List (Option Nat)) (σ : St) : St := cap.map (capV σ)
def PIfs (X : Cx) (ifs : List Expr) (t : TT) : Prop :=
  ∀ (pins : List (Addr × Obj)) (s : Shared) (σ : St) (H : Hp) (Q : Bool → Hp → Prop), Inv X pins σ H s → t σ H Q →
    wpAny (model X.prog X.w) X.A (forIn ifs true fun c r => if r = true then do let ok ← isTrue c X.env (eval c X.env); pure (ForInStep.yield ok) else pure (ForInStep.yield r)) (TP X pins σ Q) X.xe s
def tIf0 : TT := fun _ H Q => Q true H
theorem pifs_nil {X : Cx} : PIfs X [] tIf0 := fun _ _ _ H _ I h => wpAny_tests_nil ⟨H, I, h⟩
theorem pifs_one {X : Cx} {c : Expr} {t : TT} (h : PT X c t) : PIfs X [c] t := fun pins s σ H Q I q => wpAny_tests_one (h pins s σ H Q I q)
theorem codeAny_compLoop_testsG {prog : Program} {w : World} {A : Around} {R : Result → Shared → Prop} {s : Shared} {elt target iter : Expr} {ifs : List Expr} {scope : Scope} {pos : Pos} {it acc : Value} {env : Env} (I : Nat → Shared → Prop)
    (turn : ∀ n s, I n s → wpAny (model prog w) A (pyNext it) (fun r s₁ => match r with
      | none => R (.ok .next) s₁
      | some v => wpAny (model prog w) A (letOwnedTupleGo target it v) (fun _ s₁' => wpAny (model prog w) A (assign target env v) (fun _ s₂ =>
          wpAny (model prog w) A (forIn ifs true fun c r => if r = true then do let ok ← isTrue c env (eval c env); pure (ForInStep.yield ok) else pure (ForInStep.yield r)) (fun ok s₃ =>
            if ok = true then wpAny (model prog w) A (eval elt env) (fun x s₄ =>
              wpAny (model prog w) A (call (.builtin "list.append") [acc, x]) (fun _ s₅ => ∃ m, m < n ∧ I m s₅) (fun _ _ => False) s₄) (fun _ _ => False) s₃
            else ∃ m, m < n ∧ I m s₃) (fun _ _ => False) s₂) (fun _ _ => False) s₁') (fun _ _ => False) s₁) (fun _ _ => False) s)
    (n : Nat) (h : I n s) :
    codeAny (model prog w) A (.compLoop (.ListComp elt [⟨target, iter, ifs, 0⟩] scope pos) 0 it acc env) R s := by
  refine codeAny_loop rfl I (fun n s hI => ?_) n h
  show wpAny _ A ((compTurn (.ListComp elt [⟨target, iter, ifs, 0⟩] scope pos) 0 it acc env).onRaise (fun x => do noteFrame x env; theTreesLotGoes x)) _ _ s
  refine wpAny_noted ?_
  rw [compTurn_list]
  refine wpAny_bind (wpAny_standAt (wpAny_bind (wpAny_mono (turn n s hI) (fun r s₁ h₁ => ?_) fun _ _ h' => h'.elim)))
  cases r with
  | none => exact wpAny_pure h₁
  | some v =>
    refine wpAny_bind (wpAny_mono h₁ (fun _ s₁' h₁' => ?_) fun _ _ h' => h'.elim)
    refine wpAny_bind (wpAny_mono h₁' (fun _ s₂ h₂ => wpAny_bind (wpAny_mono h₂ (fun ok s₃ h₃ => ?_) fun _ _ h' => h'.elim)) fun _ _ h' => h'.elim)
    cases ok with
    | false => exact wpAny_pure ⟨rfl, h₃⟩
    | true =>
      exact wpAny_bind (wpAny_bind (wpAny_mono h₃ (fun x s₄ h₄ => wpAny_bind (wpAny_mono h₄ (fun _ s₅ h₅ => wpAny_pure (wpAny_pure ⟨rfl, h₅⟩)) fun _ _ h' => h'.elim)) fun _ _ h' => h'.elim))
def Kp (σ σ2 : St) : Prop := σ.length = σ2.length ∧ ∀ (i : Nat) (v : V), σ[i]? = some (some v) → σ2[i]? = some (some v)
structure TComp (wi : TI) (cap : List (Option Nat)) (g : TG) (tt : TT) (te : TE) (σ : St) (H : Hp) (Q : VK) : Prop where
  ex : wi σ H fun J H1 => ∀ D, H1 D = none → ∃ W : Nat → Nat → List V → Hp → Prop,
  (∃ m, W 0 m [] (upd H1 D (.lst []))) ∧ ∀ i m ys H, W i m ys H → H D = some (.lst ys) ∧ ((J.stop i H ∧ Q (.ref D) H) ∨
    (J.go i H ∧ ∃ N : List V → Hp → Prop, (∀ ys' H', N ys' H' → ∃ m', m' < m ∧ W (i + 1) m' ys' H') ∧ ∀ x H', J.yld i H x H' → g x (capSt cap σ) H' fun σ2 H2 => Kp (capSt cap σ) σ2 ∧ tt σ2 H2 fun b H3 =>
      if b = true then te σ2 H3 fun y H4 => H4 D = some (.lst ys) ∧ ys.length < sizeLine ∧ N (ys ++ [y]) (upd H4 D (.lst (ys ++ [y]))) else N ys H3))
def tComp (wi : TI) (cap : List (Option Nat)) (g : TG) (tt : TT) (te : TE) : TE := fun σ H Q => TComp wi cap g tt te σ H Q
section
variable {X : Cx} {tg iter elt : Expr} {ifs : List Expr} {scope osc : Scope} {ON N : List Str} {cap : List (Option Nat)} {wi : TI} {g : TG} {tt : TT} {te : TE} {pos : Pos}
theorem comp_ok {pins : List (Addr × Obj)} {σ : St} {H2 : Hp} {s2 : Shared} {fp : List Addr} {C : Addr} (I2 : Inv X pins σ H2 s2) (S : CSc osc scope ON N cap) (hsc : X.env.scope = osc) (f2 : ∀ b ∈ fp, FpOk X pins H2 b)
    (hfp : ∀ b ∈ fp, b < s2.heap.objs.size) (hC : s2.heap.objs.size ≤ C) : (X.comp N scope C s2 H2 fp).Ok := by
  have hfr : ∀ x ∈ scope.names, x.2 = .free → ∃ c, X.env.cells.lookup x.1 = some c := fun x hx e => I2.ok.has x.1 (by
    rcases S.fr x hx e with z | z
    · exact .inl (by rw [Env.kindOf, hsc]; exact z)
    · exact .inr (by rw [Env.kindOf, hsc]; exact z))
  refine ⟨I2.mod, S.kind, I2.ok.glob, I2.ok.blt, hC, fun x y c h1 h2 => I2.ok.inj x y c (cl_sub hfr h1) (cl_sub hfr h2), fun x h => ?_, fun x c h => by simp at h, I2.ok.hd, I2.ok.frames, .inl rfl, fun b hb => ⟨?_, fun x c e => ?_⟩, fun b o e => I2.bs b o e, ?_, fun b o e hb => ?_, fun b hb hz => ?_, I2.stack, I2.stkFree⟩
  · have hm : (x, NameKind.free) ∈ scope.names := by
      rcases h with h | h
      · exact of_relabel (env := X.env) S.noc (.inl rfl) h
      · exact of_relabel (env := X.env) S.noc (.inr rfl) h
    exact cl_has hm
  · exact Nat.ne_of_lt (Nat.lt_of_lt_of_le (hfp b hb) hC)
  · exact (f2 b hb).2.2.2.2.1 x c (cl_sub hfr e)
  · exact Nat.le_trans I2.ok.bsz I2.sz
  · rcases (f2 b hb).2.2.2.1 with z | z
    · exact I2.ok.noex b o e z
    · exact absurd (Nat.lt_of_lt_of_le (Heap.lt_size e) (Nat.le_trans I2.ok.bsz z)) (Nat.lt_irrefl _)
  · obtain ⟨_, f1, f3, _⟩ := f2 b hb
    rcases List.mem_cons.mp (I2.stkSub b hz) with z | z
    · exact f1 z
    · exact f3 z
theorem comp_core {pins : List (Addr × Obj)} {s : Shared} {σ : St} {H : Hp} {Q : VK} {RR : Value → Addr → Result → Shared → Prop} {cqual : Str} (hc : X.calm = true) (S : CSc osc scope ON N cap) (hsc : X.env.scope = osc) (hN : X.N = ON)
    (hi : PI X tg iter wi) (hg : ∀ C s H fp, PG (X.comp N scope C s H fp) tg g) (ht : ∀ C s H fp, PIfs (X.comp N scope C s H fp) ifs tt) (he : ∀ C s H fp, PE (X.comp N scope C s H fp) elt te)
    (I : Inv X pins σ H s) (h : tComp wi cap g tt te σ H Q)
    (fin : ∀ D C H' s', Inv X pins σ H' s' → FpOk X pins H' C → (∃ m, s'.heap.Ns C m) → Q (.ref D) H' → RR (.ref D) C (.ok .next) s') :
    wpAny (model X.prog X.w) X.A (eval iter X.env) (fun x s₁ => wpAny (model X.prog X.w) X.A (pyIter x) (fun itv s₂ => wpAny (model X.prog X.w) X.A (newList []) (fun acc s₃ =>
      wpAny (model X.prog X.w) X.A (newFunctionEnv scope X.env.globals (clOf X.env scope.names) [] X.env.qual none .none (some X.env)) (fun cenv s₄ =>
        codeAny (model X.prog X.w) X.A (.compStart (.ListComp elt [⟨tg, iter, ifs, 0⟩] scope pos) 0 itv acc { cenv with scope := relabel scope X.env }) (RR acc cenv.locals) s₄) X.xe s₃) X.xe s₂) X.xe s₁) X.xe s := by
  refine thn (hi pins s σ H _ I h.ex) fun v s1 h1 => thn h1 fun itv s2 h2 => ?_
  obtain ⟨it, fp, tn, J, H2, e, I2, T, st2, f2, q2⟩ := h2
  subst e
  refine wpAny_newObj_type (wpAny_newFunctionEnv S.noc (by intro y hy; simp at hy) (fun h₁ hns₁ hsb₁ => ?_) S.kind)
  dsimp only at hns₁ hsb₁ ⊢
  generalize hH2 : s2.heap.push { cls := .type "list", dict := none, data := .seq ([] : List Value).toArray } = P2 at hns₁ hsb₁ ⊢
  generalize hD : s2.heap.objs.size = D
  generalize hCe : P2.objs.size = C at hns₁ hsb₁ ⊢
  have hCD : C = D + 1 := by rw [← hCe, ← hH2, Heap.size_push, hD]
  have hCle : s2.heap.objs.size ≤ C := by rw [hCD, hD]; exact Nat.le_succ _
  have hfp : ∀ b ∈ fp, b < s2.heap.objs.size := fun b hb => by
    obtain ⟨o, e, _⟩ := T.obj 0 _ st2 b hb
    exact Heap.lt_size e
  have below : ∀ b, b < s2.heap.objs.size → b ≠ C := fun b hb => Nat.ne_of_lt (Nat.lt_of_lt_of_le hb hCle)
  have k1 : ∀ b o, s2.heap.get? b = some o → h₁.get? b = some o := fun b o e => hsb₁.extBut b o (below b (Heap.lt_size e)) (Heap.get?_push_of_some _ (hH2 ▸ Heap.get?_push_of_some _ e))
  have hDC : D ≠ C := by rw [hCD]; exact Nat.ne_of_lt (Nat.lt_succ_self _)
  have gD : h₁.get? D = some { cls := .type "list", dict := none, data := .seq ([] : List Value).toArray } := by
    refine hsb₁.extBut D _ hDC (Heap.get?_push_of_some _ ?_)
    rw [← hH2, ← hD]
    exact Heap.get?_push_size _ rfl
  have nD : H2 D = none := I2.hok.fresh (by rw [hD]; exact Nat.le_refl _)
  have nC : H2 C = none := I2.hok.fresh hCle
  have hfr : ∀ x ∈ scope.names, x.2 = .free → ∃ c, X.env.cells.lookup x.1 = some c := fun x hx e => I2.ok.has x.1 (by
    rcases S.fr x hx e with z | z
    · exact .inl (by rw [Env.kindOf, hsc]; exact z)
    · exact .inr (by rw [Env.kindOf, hsc]; exact z))
  obtain ⟨W, ⟨m0, w0⟩, turn⟩ := q2 D nD
  have IY : Inv (X.comp N scope C s2 H2 fp) [] (capSt cap σ) (upd H2 D (.lst [])) { s2 with heap := h₁, toks := s2.toks + ([] : List (Str × Value)).length } := by
    have hp : s2.heap.objs.size ≤ D := by rw [hD]; exact Nat.le_refl _
    refine ⟨comp_ok I2 S hsc f2 hfp hCle, rfl, I2.bare, Un.laid k1 hp nD, ⟨_, hns₁, fun j x v e1 e2 e3 => ?_⟩, fun x c e => ?_, ?_, fun x c e => ?_, fun p hp => by simp at hp, I2.hok.laid k1 hp ⟨Nat.zero_le _, [], _, .nil, gD⟩, ?_⟩
    · have e2' : (cap.map (capV σ))[j]? = some (some v) := e2
      rw [List.getElem?_map] at e2'
      cases q : cap[j]? with
      | none => rw [q] at e2'; cases e2'
      | some o =>
        rw [q] at e2'
        have e4 : capV σ o = some v := Option.some.inj e2'
        cases o with
        | none => cases e4
        | some i =>
          have hσ : σ[i]? = some (some v) := by
            have e5 : (σ[i]?).getD none = some v := e4
            cases z : σ[i]? with
            | none => rw [z] at e5; cases e5
            | some w => rw [z] at e5; exact congrArg some e5
          obtain ⟨hx1, hx2⟩ := S.at q e1
          have hk : X.env.kindOf x = some .cell ∨ X.env.kindOf x = some .free := by
            rcases S.fr _ (mem_of_lookup hx2) rfl with z | z
            · exact .inl (by rw [Env.kindOf, hsc]; exact z)
            · exact .inr (by rw [Env.kindOf, hsc]; exact z)
          obtain ⟨m, hn, hl⟩ := I2.loc
          obtain ⟨u, r, l⟩ := hl i x v (by rw [hN]; exact hx1) hσ (by
            rcases hk with z | z
            · exact .inr (.inl z)
            · exact .inr (.inr z))
          refine ⟨u, r, ?_⟩
          rcases l with ⟨z, _⟩ | ⟨_, c, hc', hcell⟩
          · rcases hk with y | y
            · rw [y] at z; cases z
            · rw [y] at z; cases z
          · obtain ⟨c', hc2⟩ := cl_has (env := X.env) (mem_of_lookup hx2)
            have e6 := cl_sub hfr hc2
            rw [hc'] at e6
            have e7 : c = c' := Option.some.inj e6
            subst e7
            obtain ⟨oc, ho, hd⟩ := hcell
            exact .inr ⟨relabel_free (env := X.env) hx2, c, hc2, ⟨oc, k1 c oc ho, hd⟩⟩
    · obtain ⟨v, oc, ho, hd⟩ := I2.cell x c (cl_sub hfr e)
      exact ⟨v, oc, k1 c oc ho, hd⟩
    · show upd H2 D (.lst []) C = none
      rw [upd_ne (Ne.symm hDC)]
      exact nC
    · have e' := cl_sub hfr e
      obtain ⟨v, oc, ho, hd⟩ := I2.cell x c e'
      show upd H2 D (.lst []) c = none
      rw [upd_ne (fun z => absurd (Heap.lt_size ho) (by rw [z, hD]; exact Nat.lt_irrefl _))]
      exact I2.freeC x c e'
    · show (cap.map (capV σ)).length = N.length
      rw [List.length_map]
      exact S.len
  have stat : ∀ {H' : Hp}, (∀ b ∈ fp, H' b = none) → ∀ b ∈ fp, FpOk (X.comp N scope C s2 H2 fp) [] H' b := fun hn b hb => by
    obtain ⟨_, f1, f3, f4, f5, f6⟩ := f2 b hb
    refine ⟨hn b hb, below b (hfp b hb), fun hz => ?_, .inl hb, fun x c e => f5 x c (cl_sub hfr e), fun p hp => by simp at hp⟩
    rcases List.mem_cons.mp (I2.stkSub b hz) with z | z
    · exact f1 z
    · exact f3 z
  have back : ∀ {σ' : St} {H' : Hp} {s' : Shared}, Inv (X.comp N scope C s2 H2 fp) [] σ' H' s' → Inv X pins σ H' s' := fun {σ' H' s'} I' =>
    I2.call' (ch := fp) I'.os I'.base I'.hok I'.bare fun b hb => let ⟨_, f1, _, f4, f5, f6⟩ := f2 b hb; ⟨f4, f1, f5, f6⟩
  have st1 : tn 0 h₁ := T.keep 0 _ _ st2 fun b _ o e => k1 b o e
  have fr1 : ∀ b ∈ fp, upd H2 D (.lst []) b = none := fun b hb => by
    rw [upd_ne (fun z => absurd (hfp b hb) (by rw [z, hD]; exact Nat.lt_irrefl _))]
    exact (f2 b hb).1
  have loop : codeAny (model X.prog X.w) X.A (.compLoop (.ListComp elt [⟨tg, iter, ifs, 0⟩] scope pos) 0 (.ref it) (.ref D) (compEnvC scope (clOf X.env scope.names) C X.env)) (RR (.ref D) C) { s2 with heap := h₁, toks := s2.toks + ([] : List (Str × Value)).length } := by
    refine codeAny_compLoop_testsG (fun n s' => ∃ i ys H', Inv (X.comp N scope C s2 H2 fp) [] (capSt cap σ) H' s' ∧ tn i s'.heap ∧ (∀ b ∈ fp, H' b = none) ∧ W i n ys H') ?_ m0 ⟨0, [], _, IY, st1, fr1, w0⟩
    rintro n s3 ⟨i, ys, H3, I3, st3, fr3, w3⟩
    obtain ⟨hDy, hturn⟩ := turn i n ys H3 w3
    rcases hturn with ⟨stop, qn⟩ | ⟨go, Nx, hNx, step⟩
    · refine thn (T.done (X.comp N scope C s2 H2 fp) rfl rfl rfl hc i [] s3 (capSt cap σ) H3 _ I3 (stat fr3) st3 stop) fun r s4 ⟨hr, I4⟩ => ?_
      subst hr
      obtain ⟨m, hm, _⟩ := I4.loc
      exact fin D C H3 s4 (back I4) (I2.fpOk hCle I4.free) ⟨m, hm⟩ qn
    · refine thn (T.item (X.comp N scope C s2 H2 fp) rfl rfl rfl hc i [] s3 (capSt cap σ) H3 _ I3 (stat fr3) st3 go) fun r s4 ⟨u, hr, h4⟩ => ?_
      subst hr
      refine thn h4 fun _ s5 ⟨x, H5, I5, r5, y5, st5, fr5⟩ => ?_
      have I5' := I5.pinned (stat fr5) (T.obj _ _ st5)
      refine thn (hg C s2 H2 fp _ s5 (capSt cap σ) H5 x u _ I5' r5 (step x H5 y5)) fun _ s6 ⟨σ6, H6, I6, kp6, q6⟩ => ?_
      refine thn (ht C s2 H2 fp _ s6 σ6 H6 _ I6 q6) fun b s7 ⟨H7, I7, q7⟩ => ?_
      have again : ∀ {ys' : List V} {H7 : Hp} {s7 : Shared}, Inv (X.comp N scope C s2 H2 fp) ([] ++ pinsAt fp s5.heap) σ6 H7 s7 → Nx ys' H7 → ∃ m, m < n ∧ ∃ i ys H', Inv (X.comp N scope C s2 H2 fp) [] (capSt cap σ) H' s7 ∧ tn i s7.heap ∧ (∀ b ∈ fp, H' b = none) ∧ W i m ys H' := fun {ys' H7 s7} I7 n7 => by
        obtain ⟨m', hm, w7⟩ := hNx ys' H7 n7
        refine ⟨m', hm, i + 1, ys', H7, I7.unpinned.weak kp6.1 kp6.2, T.keep _ _ _ st5 fun b hb o e => (I7.pin (b, o) (List.mem_append_right _ (List.mem_append_right _ (mem_pinsAt hb e)))).1, fun b hb => ?_, w7⟩
        obtain ⟨o, e, d⟩ := T.obj _ _ st5 b hb
        exact (I7.pin (b, o) (List.mem_append_right _ (List.mem_append_right _ (mem_pinsAt hb e)))).2.1
      cases b with
      | false =>
        rw [if_neg Bool.false_ne_true] at q7 ⊢
        exact again I7 q7
      | true =>
        rw [if_pos rfl] at q7 ⊢
        refine thn (he C s2 H2 fp _ s7 σ6 H7 _ I7 q7) fun xv s8 ⟨y, H8, I8, r8, hD8, hl8, n8⟩ => ?_
        refine thn (mt_append (X := X.comp N scope C s2 H2 fp) _ s8 σ6 H8 (.ref D) [y] (.ref D) [xv] (fun _ H9 => Nx (ys ++ [y]) H9) I8 rfl (.cons r8 .nil) ⟨D, ys, y, rfl, rfl, hD8, hl8, n8⟩) fun _ s9 ⟨_, H9, I9, _, n9⟩ => ?_
        exact again I9 n9
  subst hD hCe
  exact codeAny_compStart_list loop (T.self _ 0 _ _ _ st1 loop)
theorem hclos_of {pins : List (Addr × Obj)} {s : Shared} {σ : St} {H : Hp} (S : CSc osc scope ON N cap) (hsc : X.env.scope = osc) (I : Inv X pins σ H s) : closureFor scope X.env = pure (clOf X.env scope.names) :=
  closureFor_cl fun x hx e => I.ok.has x.1 (by
    rcases S.fr x hx e with z | z
    · exact .inl (by rw [Env.kindOf, hsc]; exact z)
    · exact .inr (by rw [Env.kindOf, hsc]; exact z))
theorem Inv.letgo {pins : List (Addr × Obj)} {s' : Shared} {σ : St} {H' : Hp} {C : Addr} {h' : Heap} (I : Inv X pins σ H' s') (f : FpOk X pins H' C) (hs : Heap.SameBut C s'.heap h') : Inv X pins σ H' { s' with heap := h' } :=
  I.turned (t' := s'.toks) (it := C) (fun b o hb e => (hs.2 b hb).trans e) f.1 f.2.1 f.2.2.2.1 f.2.2.2.2.1 f.2.2.2.2.2
theorem pe_comp (S : CSc osc scope ON N cap) (hi : PI X tg iter wi) (hg : ∀ C s H fp, PG (X.comp N scope C s H fp) tg g) (ht : ∀ C s H fp, PIfs (X.comp N scope C s H fp) ifs tt) (he : ∀ C s H fp, PE (X.comp N scope C s H fp) elt te)
    (hc : X.calm = true := by rfl) (hsc : X.env.scope = osc := by rfl) (hN : X.N = ON := by rfl) (hs : ∀ x, foldedSetIterable iter X.env x = pure x := by intro _; rfl) : PE X (.ListComp elt [⟨tg, iter, ifs, 0⟩] scope pos) (tComp wi cap g tt te) := by
  intro pins s σ H Q I h
  rw [eval_ListComp]
  refine wpAny_comprehension_free (use := none) rfl hs (hclos_of S hsc I) S.kind S.loc ?_
  refine comp_core (RR := fun acc C => compPost (model X.prog X.w) X.A X.xe none (EP X pins σ Q) acc C) (cqual := "") hc S hsc hN hi hg ht he I h fun D C H' s' I' f hm q => ?_
  obtain ⟨m, hm⟩ := hm
  exact ⟨m, hm, fun h' hs' => ⟨.ref D, H', I'.letgo f hs', rfl, q⟩⟩
end
section
variable {tt : TT} {te : TE} {Q : VK} {σ0 rest : St} {H : Hp} {D : Addr}
end
end L2
namespace L2
open PySem PySem.Spec PyProof.Rows
section
variable {X : Cx} {pins : List (Addr × Obj)} {σ : St} {H H' : Hp} {s : Shared} {h' : Heap}
theorem Inv.turnedL {t' : Nat} {ch : List Addr} {a : Addr} {o : HO} (I : Inv X pins σ H s) (k : ∀ b u, b ∉ ch → s.heap.get? b = some u → h'.get? b = some u) (ht : ∀ b u, s.heap.get? b = some u → ∃ u', h'.get? b = some u') (hf : ∀ b ∈ ch, FpOk X pins H b)
    (hp : s.heap.objs.size ≤ a) (new : ObjOk X.prog X.w X.K (upd H a o) h' a o) : Inv X pins σ (upd H a o) { s with heap := h', toks := t' } := by
  have hn : H a = none := I.hok.fresh hp
  have nch : ∀ b u, H b = some u → b ∉ ch := fun b u e hb => by
    rw [(hf b hb).1] at e; cases e
  have na : ∀ b u, s.heap.get? b = some u → b ≠ a := fun b u e => Nat.ne_of_lt (Nat.lt_of_lt_of_le (Heap.lt_size e) hp)
  have hhok : HOk X.prog X.w X.K (upd H a o) h' := fun b u e => by
    by_cases hb : b = a
    · subst hb; rw [upd_same] at e; cases e; exact new
    · rw [upd_ne hb] at e
      refine (I.hok b u e).stay (fun c v hc q => k c v ?_ q) (fun c q => by rw [upd_ne (ne_of_none q hn)]; exact q) fun c xs q => by rw [upd_ne (ne_of_none q hn)]; exact q
      rcases hc with rfl | hc
      · exact nch c u e
      · exact nch c _ hc
  refine I.step (g' := s.gens) (d' := s.drawn) (ch := ch) (fun b hb => let ⟨_, f1, _, f4, f5, f6⟩ := hf b hb; ⟨f4, f1, f5, f6⟩) (fun b o _ _ hc e _ => k b o hc e) (fun b o _ _ hc e _ => ⟨o.slots, k b o hc e⟩)
    (fun b o _ e n => by rw [upd_ne (na b o e)]; exact n) (fun b o _ e => ht b o e) (fun b xs q => by rw [upd_ne (ne_of_none q hn)]; exact q) (fun b u xs q => by rw [upd_ne (ne_of_none q hn)]; exact q)
    (fun b ps q => ⟨#[], by rw [upd_ne (ne_of_none q hn), q]; simp⟩) (fun m hm => ?_) hhok I.bare
  obtain ⟨oL, es, ep, ho, r⟩ := hm
  have nL : X.env.locals ∉ ch := fun hb => (hf _ hb).2.1 rfl
  exact ⟨oL, es, ep, k _ oL nL ho, r⟩
end
section
variable {X : Cx}
end
def Its (x : Str) : It := ⟨fun i _ => i < x.cps.size, fun i H v H' => H' = H ∧ ∃ c, x.cps[i]? = some c ∧ v = .str ⟨#[c]⟩, fun i _ => i = x.cps.size⟩
theorem turn_str {P : Program} {w : World} {K : PySem.W.Frag} {tg : Expr} (it : Addr) (x : Str) (t : Tok) (ty : String) (hty : ["enumerate", "zip", "dict_itemiterator", "dict_reverseitemiterator", "odict_iterator", "itertools.zip_longest", "itertools.pairwise"].contains ty = false)
    (W : ∀ A : Around, A.handled = none → Walks P w A it [it] [it] x.cps.size (SignAt x) (fun i h => h.IsStrIter it ty x t i))
    (slf : ∀ (A : Around) (i : Nat) (s : Shared) (Q : Value → Shared → Prop) (E : Value → Shared → Prop), s.heap.IsStrIter it ty x t i → Q (.ref it) s → wpAny (model P w) A (pyIter (.ref it)) Q E s) :
    Turn P w K tg (Its x) [it] it (fun i h => h.IsStrIter it ty x t i) where
  mem := by simp
  obj := fun i h st b hb => by
    have e : b = it := by simpa using hb
    subst e
    obtain ⟨o, e, c, d⟩ := st
    exact ⟨o, e, fun v z => by rw [d] at z; cases z⟩
  keep := fun i h h' st k => by
    obtain ⟨o, e, r⟩ := st
    exact ⟨o, k it (by simp) o e, r⟩
  item := by
    intro X hP hw hK hc i pins s σ H E I hf st hg
    subst hP hw hK
    obtain ⟨f0, f1, f2, f3, f4, f5⟩ := hf it (by simp)
    refine (W X.A (I.ok.hd hc)).item i s _ _ hg st fun v h' tk hv st' kk => ?_
    obtain ⟨c, u, hx, rfl⟩ := hv
    have I1 : Inv X pins σ H { s with heap := h', toks := tk } := I.turned (fun b o hb e => kk b o (by simpa using hb) e) f0 f1 f3 f4 f5
    obtain ⟨o, e, cc, d⟩ := id st'
    exact ⟨_, rfl, go_of (s := { s with heap := h', toks := tk }) e cc d hty ⟨.str ⟨#[c]⟩, H, I1, ⟨u, rfl⟩, ⟨rfl, c, hx, rfl⟩, st', fun b hb => (hf b hb).1⟩⟩
  done := by
    intro X hP hw hK hc i pins s σ H E I hf st hg
    subst hP hw hK
    obtain ⟨f0, f1, f2, f3, f4, f5⟩ := hf it (by simp)
    have hg' : i = x.cps.size := hg
    subst hg'
    exact (W X.A (I.ok.hd hc)).done s _ _ st fun h' tk kk => ⟨rfl, I.turned (fun b o hb e => kk b o (by simpa using hb) e) f0 f1 f3 f4 f5⟩
  self := slf
section
variable {X : Cx} {tg : Expr}
def iStr (tl : TE) : TI := fun σ H R => tl σ H fun x H1 => ∃ z, x = .str z ∧ R (Its z) H1
theorem pi_str {l : Expr} {tl : TE} (hl : PE X l tl) : PI X tg l (iStr tl) := by
  intro pins s σ H R I h
  refine thn (hl pins s σ H _ I h) fun v s1 ⟨x, H1, I1, r1, q1⟩ => ?_
  obtain ⟨z, e, q⟩ := q1
  subst e
  obtain ⟨t, rfl⟩ := r1
  have fp : ∀ b ∈ [s1.heap.objs.size], FpOk X pins H1 b := fun b hb => by
    have e : b = s1.heap.objs.size := by simpa using hb
    subst e
    exact I1.fpOk (Nat.le_refl _) (I1.hok.fresh (Nat.le_refl _))
  cases ha : z.cps.all (· < 128)
  · exact wpAny_pyIter_wide ha ⟨s1.heap.objs.size, [s1.heap.objs.size], _, _, H1, rfl, I1.kept (t' := s1.toks) fun b o e => Heap.get?_push_of_some _ e, turn_str _ z t "str_iterator" (by decide) (fun A hA => Walks.strWide hA _ z t) (fun A i s Q E st h => wpAny_pyIter_striter_wide st h), ⟨_, Heap.get?_push_size _ rfl, rfl, rfl⟩, fp, q⟩
  · exact wpAny_pyIter_ascii ha ⟨s1.heap.objs.size, [s1.heap.objs.size], _, _, H1, rfl, I1.kept (t' := s1.toks) fun b o e => Heap.get?_push_of_some _ e, turn_str _ z t "str_ascii_iterator" (by decide) (fun A hA => Walks.strAscii hA _ z t) (fun A i s Q E st h => wpAny_pyIter_striter_ascii st h), ⟨_, Heap.get?_push_size _ rfl, rfl, rfl⟩, fp, q⟩
end
section
variable {tt : TT} {te : TE} {Q : VK} {σ0 rest : St} {H : Hp} {D : Addr}
end
section
variable {X : Cx}
theorem vals_strs : ∀ {l : List (Str × Tok)} {zs : List Str}, l.map (·.1) = zs → Vals (zs.map V.str) (strValues l)
  | [], _, e => by subst e; exact .nil
  | (x, t) :: r, _, e => by subst e; exact .cons ⟨t, rfl⟩ (vals_strs rfl)
theorem strs_of_vals : ∀ {zs : List Str} {us : List Value}, Vals (zs.map V.str) us → ∃ l : List (Str × Tok), us = strValues l ∧ l.map (·.1) = zs
  | [], _, r => by cases r; exact ⟨[], rfl, rfl⟩
  | z :: zs, _, r => by
    cases r with
    | cons r1 r2 =>
      obtain ⟨t, rfl⟩ := r1
      obtain ⟨l, rfl, e⟩ := strs_of_vals r2
      exact ⟨(z, t) :: l, rfl, by rw [List.map_cons, e]⟩
def rSplit : V → List V → Hp → VK → Prop := fun x vs H Q => ∃ z y, x = .str z ∧ vs = [.str y] ∧ (y.length == 0) = false ∧ z.length ≤ 1000000 ∧ ∀ l, H l = none → Q (.ref l) (upd H l (.lst ((Txt.split z y).map V.str)))
theorem parts_len (x y : Str) : (Builtin.Str.partsBetween x (Builtin.Str.occurrences x y 0 x.length (x.length + 1)) y.length).length ≤ x.length + 2 := by
  have h := StrLaws.occ_length_le_len x y 0 x.length (x.length + 1)
  unfold Builtin.Str.partsBetween
  simp only [List.length_map, List.length_zip, List.length_cons, List.length_append, List.length_nil]
  omega
theorem split_len {x y : Str} : (Txt.split x y).length ≤ x.length + 2 := by
  unfold Txt.split
  split
  · simp
  · split
    · simp
    · exact parts_len x y
theorem mt_split : MtR X "str.split" rSplit := by
  intro pins s σ H x vs v us Q I rx rv h
  obtain ⟨z, y, rfl, rfl, hy, hz, q⟩ := h
  obtain ⟨t, rfl⟩ := rx
  obtain ⟨u, rfl, u', rfl⟩ := rv.one
  have sl := @split_len z y
  have hz2 : z.length ≤ sizeLine := Nat.le_trans hz (by decide)
  have hz3 : z.length + 2 ≤ sizeLine := Nat.le_trans (Nat.add_le_add_right hz 2) (by decide)
  have e0 : ∀ (l : List (Str × Tok)) (t' : Nat), l.map (·.1) = Txt.split z y → EP X pins σ Q (.ref s.heap.objs.size) { s with heap := s.heap.push { cls := .type "list", data := .seq (strValues l).toArray }, toks := t' } := fun l t' e =>
    ⟨.ref s.heap.objs.size, _, I.lnew (vals_strs e) (by
      rw [List.length_map]
      exact Nat.le_trans sl hz3), rfl, q _ I.fresh⟩
  cases h1 : (decide (z.length < y.length) || decide (Builtin.Str.strKind z < Builtin.Str.strKind y))
  · cases hf : (Builtin.Str.occurrences z y 0 z.length (z.length + 1)).isEmpty
    · refine call_meets F.slot_str_split (typeIs_str _ _ _) F.entry_str_split (F.args_str_split_2 _ _) (meets_str_split_sep z y t u' h1 hy hf hz2 (Nat.le_trans (parts_len z y) hz3)) ?_
      show wants _ _ _ { s with toks := _, heap := s.heap.push { cls := .type "list", data := .seq (strsFrom s.toks (Builtin.Str.partsBetween z (Builtin.Str.occurrences z y 0 z.length (z.length + 1)) y.length)).toArray } }
      rw [strsFrom_eq]
      exact e0 (numbered s.toks _) _ ((numbered_texts _ _).trans ((if_neg (ne_true_of_eq_false h1)).trans (if_neg (ne_true_of_eq_false hf))).symm)
    · exact call_meets F.slot_str_split (typeIs_str _ _ _) F.entry_str_split (F.args_str_split_2 _ _) (meets_str_split_not_found z y t u' h1 hy hf)
        (e0 [(z, t)] s.toks ((if_neg (ne_true_of_eq_false h1)).trans (if_pos hf)).symm)
  · exact call_meets F.slot_str_split (typeIs_str _ _ _) F.entry_str_split (F.args_str_split_2 _ _) (meets_str_split_cannot_occur z y t u' h1) (e0 [(z, t)] s.toks (if_pos h1).symm)
def rJoin (K : PySem.W.Frag) : V → List V → Hp → VK → Prop := fun x vs H Q => ∃ z l zs, x = .str z ∧ vs = [.ref l] ∧ SqL K H l (zs.map V.str) ∧ JoinOk z zs = true ∧ Q (.str (Str.join z zs)) H
theorem mt_join : MtR X "str.join" (rJoin X.K) := by
  intro pins s σ H x vs v us Q I rx rv h
  obtain ⟨z, l, zs, rfl, rfl, hl, ok, q⟩ := h
  obtain ⟨t, rfl⟩ := rx
  obtain ⟨u, rfl, ru⟩ := rv.one
  cases ru
  obtain ⟨its, r, p, _⟩ := I.list hl
  obtain ⟨l', e, e2⟩ := strs_of_vals r
  subst e
  refine SC.join p.isList e2 ok fun t' k => ⟨.str (Str.join z zs), H, I.tok _, ⟨t', ?_⟩, q⟩
  unfold Txt.join
  rw [StrLaws.glued_eq_join]
theorem bools_get {bs : List Bool} {us : List Value} (r : Vals (bs.map V.bl) us) {i : Nat} {v : Value} (e : us[i]? = some v) : ∃ b, bs[i]? = some b ∧ v = .bool b := by
  have hl := r.length
  rw [List.length_map] at hl
  have hi : i < us.length := (List.getElem?_eq_some_iff.mp e).1
  have hb : bs[i]? = some bs[i] := List.getElem?_eq_getElem (by omega)
  obtain ⟨u, h1, h2⟩ := r.get (i := i) (x := .bl bs[i]) (by rw [List.getElem?_map, hb] <;> rfl)
  rw [e] at h1
  cases h1
  exact ⟨_, hb, h2⟩
theorem range_all {bs : List Bool} {n : Nat} (hn : n = bs.length) : ((List.range n).all fun i => (bs[i]?).getD true) = bs.all id := by
  subst hn
  rw [Bool.eq_iff_iff]
  simp only [List.all_eq_true, List.mem_range, id]
  constructor
  · intro h x hx
    obtain ⟨i, hi, e⟩ := List.mem_iff_getElem.mp hx
    have := h i hi
    rw [List.getElem?_eq_getElem hi] at this
    rw [← e]
    exact this
  · intro h i hi
    rw [List.getElem?_eq_getElem hi]
    exact h _ (List.getElem_mem hi)
theorem kept_iter {h h' : Heap} {o : Obj} (hk : ∀ b x, b ∉ [h.objs.size] → (h.push o).get? b = some x → h'.get? b = some x) : ∀ b x, h.get? b = some x → h'.get? b = some x :=
  fun b x e => hk b x (fun hm => by rw [List.mem_singleton.mp hm] at e; exact Nat.lt_irrefl _ (Heap.lt_size e)) (Heap.get?_push_of_some _ e)
theorem call_all (hc : X.calm = true := by rfl) : CallR X (.builtin "all") (fun xs H Q => ∃ (p : Addr) (bs : List Bool), xs = [.ref p] ∧ SqL X.K H p (bs.map V.bl) ∧ Q (.bl (bs.all id)) H) := by
  intro pins s σ H xs us Q I r h
  obtain ⟨l, bs, rfl, hq, q⟩ := h
  obtain ⟨u, rfl, rx⟩ := vals1 r
  cases rx
  obtain ⟨its, r', pl, hz⟩ := I.list hq
  have hl := pl.isList
  have hlen := r'.length
  rw [List.length_map] at hlen
  have hlt : l < s.heap.objs.size := by obtain ⟨_, e, _⟩ := hl; exact Heap.lt_size e
  have hh := I.ok.hd hc
  refine call_all_walk (wpAny_pyIter_list hl ?_)
  refine ⟨s.heap.objs.size, [s.heap.objs.size, l], [s.heap.objs.size], its.toArray.size, _, _, fun i => (bs[i]?).getD true, rfl, Walks.list (A := X.A.in1) hh _ l (Nat.ne_of_lt hlt) its.toArray,
    ⟨⟨_, Heap.get?_push_size _ rfl, rfl, rfl⟩, hl.push _⟩, fun i v s' Q' E' hP hQ => ?_, fun h' tk hk => ?_⟩
  · obtain ⟨b, e, rfl⟩ := bools_get r' (i := i) (v := v) (by simpa using hP)
    simp only [e, Option.getD_some] at hQ
    exact wpAny_truthy_bool hQ
  · refine ⟨.bl (bs.all id), H, I.kept (kept_iter hk), ?_, q⟩
    rw [range_all (by simp [hlen])]
    rfl
theorem call_list_dict (hc : X.calm = true := by rfl) : CallR X (.type "list") (fun xs H Q => ∃ p kvs, xs = [.ref p] ∧ H p = some (.dK kvs) ∧ ∀ l, H l = none → Q (.ref l) (upd H l (.lst (kvs.map fun kv => kV kv.1)))) := by
  intro pins s σ H xs us Q I r h
  obtain ⟨p, kvs, rfl, hp, q⟩ := h
  obtain ⟨u, rfl, rx⟩ := vals1 r
  cases rx
  obtain ⟨hz, lo, vs, rel, hD⟩ := dk_of I.hok hp
  obtain ⟨o, es, ep, ho, hx, hd, hk, hpr, hn⟩ := hD
  have hlen := rel.length
  refine PySem.W.kdl_call (PySem.W.kdl_dict (knd := mixKind X.prog X.w) (kvs := vs) (ep := ep) lo) (I.ok.hd hc) ⟨o, es, ho, hx, hd, hk, hpr, hn⟩ (by omega) fun h' tk acc' c' kk hS hacc => ?_
  have hv : Vals (kvs.map fun kv => kV kv.1) acc'.toList := by
    have gen : ∀ (l : List (Key × V)) (l2 : List (Key × Value)) (us : List Value), KV l l2 → us.length = l2.length → (∀ (j : Nat) (v : Value), us[j]? = some v → ∃ k x, l2[j]? = some (k, x) ∧ (mixKind X.prog X.w).is k v = true) → Vals (l.map fun kv => kV kv.1) us := by
      intro l
      induction l with
      | nil =>
        intro l2 us hr hl hu
        cases hr
        have : us = [] := List.length_eq_zero_iff.mp hl
        subst this
        exact .nil
      | cons a r ih =>
        intro l2 us hr hl hu
        cases hr with
        | @cons _ b _ r2 h1 h2 =>
          cases us with
          | nil => simp at hl
          | cons v us =>
            obtain ⟨k, x, e, hk⟩ := hu 0 v rfl
            have e' : b = (k, x) := by simpa using e
            have ek : a.1 = k := by rw [h1.1, e']
            refine .cons ?_ (ih r2 us h2 (by simpa using hl) fun j w e => by simpa using hu (j + 1) w (by simpa using e))
            show RelV (kV a.1) v
            rw [ek]
            rcases keyIs_shape hk with ⟨i, t, rfl, rfl⟩ | ⟨x, t, rfl, rfl⟩
            · exact ⟨t, rfl⟩
            · exact ⟨t, rfl⟩
    refine gen kvs vs acc'.toList rel (by rw [Array.length_toList]; exact hacc.1) fun j v e => hacc.2 j v (by rw [← Array.getElem?_toList]; exact e)
  refine ⟨.ref s.heap.objs.size, _, I.laid kk (Nat.le_refl _) (show ObjOk X.prog X.w X.K _ h' _ (.lst _) from ⟨?_, acc'.toList, c', hv, ?_⟩), rfl, q _ I.fresh⟩
  · rw [List.length_map]; omega
  · simpa using hS
mutual
inductive Dt (K : PySem.W.Frag) (H : Hp) : V → PyData → Prop
  | non : Dt K H .non .none
  | bl (b : Bool) : Dt K H (.bl b) (.bool b)
  | int (i : Int) : Dt K H (.int i) (.int i)
  | str (x : Str) : Dt K H (.str x) (.str x)
  | lst {a : Addr} {xs : List V} {ds : List PyData} : SqL K H a xs → Dts K H xs ds → Dt K H (.ref a) (.list ds)
  | tup {a : Addr} {xs : List V} {ds : List PyData} : SqT K H a xs → Dts K H xs ds → Dt K H (.ref a) (.tuple ds)
inductive Dts (K : PySem.W.Frag) (H : Hp) : List V → List PyData → Prop
  | nil : Dts K H [] []
  | cons {x : V} {xs : List V} {d : PyData} {ds : List PyData} : Dt K H x d → Dts K H xs ds → Dts K H (x :: xs) (d :: ds)
end
mutual
theorem Dt.reads {pins : List (Addr × Obj)} {σ : St} {H : Hp} {s : Shared} (I : Inv X pins σ H s) : ∀ {x : V} {d : PyData} {u : Value}, Dt X.K H x d → RelV x u → ∃ as, Reads s.heap u d as
  | _, _, _, .non, r => by cases r; exact ⟨[], .none⟩
  | _, _, _, .bl b, r => by cases r; exact ⟨[], .bool b⟩
  | _, _, _, .int i, r => by obtain ⟨t, rfl⟩ := r; exact ⟨[], .int i t⟩
  | _, _, _, .str x, r => by obtain ⟨t, rfl⟩ := r; exact ⟨[], .str x t⟩
  | _, _, _, .lst hq hs, r => by
    cases r
    obtain ⟨its, rv, pl, _⟩ := I.list hq
    obtain ⟨o, e, c, n, d⟩ := pl.isList
    obtain ⟨as, ra⟩ := Dts.reads I hs rv
    exact ⟨_, .list e c d (by simpa using ra)⟩
  | _, _, _, .tup hq hs, r => by
    cases r
    obtain ⟨its, rv, pl, _⟩ := I.tuple hq
    obtain ⟨o, e, c, n, d⟩ := pl
    obtain ⟨as, ra⟩ := Dts.reads I hs rv
    exact ⟨_, .tuple e c d (by simpa using ra)⟩
theorem Dts.reads {pins : List (Addr × Obj)} {σ : St} {H : Hp} {s : Shared} (I : Inv X pins σ H s) : ∀ {xs : List V} {ds : List PyData} {us : List Value}, Dts X.K H xs ds → Vals xs us → ∃ as, ReadsAll s.heap us ds as
  | _, _, _, .nil, r => by cases r; exact ⟨[], .nil⟩
  | _, _, _, .cons h hs, r => by
    cases r with
    | cons r1 r2 =>
      obtain ⟨as, ra⟩ := Dt.reads I h r1
      obtain ⟨bs, rb⟩ := Dts.reads I hs r2
      exact ⟨_, .cons ra rb⟩
end
theorem op_eqD (hu : X.A.units + 64 < cLine) : OpR X (compareOp .Eq) (fun x y H Q => ∃ d e, Dt X.K H x d ∧ Dt X.K H y e ∧ SeqAt.shaped d = true ∧ SeqAt.shaped e = true ∧ Q (.bl (PyData.eqv d e)) H) := by
  intro pins s σ H x y v u Q I rx ry h
  obtain ⟨d, e, h1, h2, s1, s2, q⟩ := h
  obtain ⟨as, ra⟩ := h1.reads I rx
  obtain ⟨bs, rb⟩ := h2.reads I ry
  exact eq_dataH ra rb s1 s2 hu ⟨.bl _, H, I, rfl, q⟩
theorem op_neD (hu : X.A.units + 64 < cLine) : OpR X (compareOp .NotEq) (fun x y H Q => ∃ d e, Dt X.K H x d ∧ Dt X.K H y e ∧ SeqAt.shaped d = true ∧ SeqAt.shaped e = true ∧ Q (.bl (!PyData.eqv d e)) H) := by
  intro pins s σ H x y v u Q I rx ry h
  obtain ⟨d, e, h1, h2, s1, s2, q⟩ := h
  obtain ⟨as, ra⟩ := h1.reads I rx
  obtain ⟨bs, rb⟩ := h2.reads I ry
  exact ne_dataH ra rb s1 s2 hu ⟨.bl _, H, I, rfl, q⟩
end
end L2
namespace L2
open PySem PySem.Spec PyProof.Rows
structure Cal (P : Program) (w : World) (K : PySem.W.Frag) (mg : Str → Option Value) (base : Heap) (k : Nat) (x : Str) (ps : List Str) (sp : Sp) : Prop where
  ex : ∃ f fd, FnOk P w K mg base CX0 k f fd ps sp ∧ Binds K fd ps [] ∧ PySem.W.keepIn K (.ref f) = true ∧ mg x = some (.ref f)
theorem cal_mk {P : Program} {w : World} {K : PySem.W.Frag} {mg : Str → Option Value} {base : Heap} {k : Nat} {x : Str} {ps : List Str} {sp : Sp} {st : Stmt} {f : Addr} {fd : FuncData} (F : Fun K x x st f fd)
    (hm : mg x = some (.ref f)) (hb : Binds K fd ps []) (G : FnOk P w K mg base CX0 k f fd ps sp) : Cal P w K mg base k x ps sp := ⟨f, fd, G, hb, F.kp, hm⟩
theorem pe_cal {X : Cx} {k j : Nat} {x : Str} {ps : List Str} {sp : Sp} {p pos : Pos} {e : Expr} {es : List Expr} {t : TA} (c : Cal X.prog X.w X.K X.mg X.base k x ps sp) (hr : Room j X.A) (ha : PA X (e :: es) t) (hle : k ≤ j := by decide) (hg : Gl X x := by rfl)
    (hdb : (x == ("__debug__" : Str)) = false := by decide) (he : starEach (e :: es) X.env = (false, eval e X.env) :: starEach es X.env := by rfl) (hpl : (backTo pos (starEach es X.env)).any (·.1) = false := by rfl) :
    PE X (.Call (.Name x p) (e :: es) [] pos) (tCall sp [] E0 t) := by
  obtain ⟨f, fd, G, hb, kp, hm⟩ := c.ex
  exact pe_call G (hr.mono hle) hg hm kp hb .nil pass0 ha hdb he hpl
theorem same_new {H : Hp} {p : Addr} (h : H p = none) (o : HO) : Same H (upd H p o) := fun b u q => by rw [upd_ne (ne_of_none q h)]; exact q
theorem Same.new {H H' : Hp} {p : Addr} (s : Same H H') (h : H' p = none) (o : HO) : Same H (upd H' p o) := s.trans (same_new h o)
theorem Same.over {H H' : Hp} {p : Addr} (s : Same H H') (h : H p = none) (o : HO) : Same H (upd H' p o) := fun b u q => by rw [upd_ne (ne_of_none q h)]; exact s b u q
theorem small {n : Nat} (h : n ≤ 1000) : n ≤ sizeLine := Nat.le_of_lt (small1000 h)
theorem le_line {n : Nat} (h : n ≤ 1000000) : n < sizeLine := Nat.lt_of_le_of_lt h (by decide)
abbrev PureAt (t : TE) (σ : St) (H : Hp) (v : V) : Prop := ∀ H', Same H H' → ∀ Q : VK, (∀ H'', Same H' H'' → Q v H'') → t σ H' Q
abbrev PureT (t : TT) (σ : St) (H : Hp) (b : Bool) : Prop := ∀ H', Same H H' → ∀ Q : Bool → Hp → Prop, (∀ H'', Same H' H'' → Q b H'') → t σ H' Q
section
variable {tt : TT} {te : TE} {Q : VK} {σ0 rest : St} {H : Hp} {D : Addr}
end
section
variable {K : PySem.W.Frag} {wi : TI} {cap : List (Option Nat)} {tt : TT} {te : TE} {σ rest : St} {H : Hp} {Q : VK} {xs : List V}
theorem PureAt.same {t : TE} {H1 : Hp} {v : V} (h : PureAt t σ H v) (s : Same H H1) : PureAt t σ H1 v := fun H' s' Q q => h H' (s.trans s') Q q
theorem PureT.same {t : TT} {H1 : Hp} {b : Bool} (h : PureT t σ H b) (s : Same H H1) : PureT t σ H1 b := fun H' s' Q q => h H' (s.trans s') Q q
end
def Txts (K : PySem.W.Frag) (H : Hp) (v : V) (ws : List Str) : Prop := ∃ l, v = .ref l ∧ SqL K H l (ws.map V.str)
theorem Txts.mono {K : PySem.W.Frag} {H H' : Hp} {v : V} {ws : List Str} (h : Txts K H v ws) (s : Same H H') : Txts K H' v ws := let ⟨l, e, q⟩ := h; ⟨l, e, s.seq q⟩
def Rws (K : PySem.W.Frag) (H : Hp) (v : V) (rs : List (List Str)) : Prop := ∃ l ys, v = .ref l ∧ SqL K H l ys ∧ Paired (fun ws y => Txts K H y ws) rs ys
theorem paired_mono {α β : Type} {F G : α → β → Prop} (f : ∀ a b, F a b → G a b) : ∀ {l₁ : List α} {l₂ : List β}, Paired F l₁ l₂ → Paired G l₁ l₂
  | _, _, .nil => .nil
  | _, _, .cons h t => .cons (f _ _ h) (paired_mono f t)
theorem Rws.mono {K : PySem.W.Frag} {H H' : Hp} {v : V} {rs : List (List Str)} (h : Rws K H v rs) (s : Same H H') : Rws K H' v rs := let ⟨l, ys, e, q, p⟩ := h; ⟨l, ys, e, s.seq q, paired_mono (fun _ _ t => t.mono s) p⟩
theorem Paired.get {α β : Type} {F : α → β → Prop} : ∀ {l₁ : List α} {l₂ : List β} {i : Nat} {y : β}, Paired F l₁ l₂ → l₂[i]? = some y → ∃ x, l₁[i]? = some x ∧ F x y
  | _, _, _, _, .nil, e => by simp at e
  | _, _, 0, _, .cons r _, e => by simp at e; subst e; exact ⟨_, rfl, r⟩
  | _, _, i + 1, y, .cons _ t, e => by
    obtain ⟨x, h1, h2⟩ := Paired.get (i := i) (y := y) t (by simpa using e)
    exact ⟨x, by simpa using h1, h2⟩
section
variable (K : PySem.W.Frag) {X : Cx}
end
end L2
namespace L2
open PySem PySem.Spec PyProof.Rows
def cutS (x : Str) (lo hi : Option Int) : Str := ⟨((x.cps.toList.drop (HT.sIx x.length 0 lo)).take (HT.sIx x.length x.length hi - HT.sIx x.length 0 lo)).toArray⟩
theorem idx_cut (lo hi : Option Int) (n : Nat) : Builtin.Str.strSliceIndices lo hi 1 n = (List.range (HT.sIx n n hi - HT.sIx n 0 lo)).map (HT.sIx n 0 lo + ·) := by
  rw [← sliceRange_one]
  unfold Builtin.Str.strSliceIndices
  have cl : ∀ (o : Option Int) (d : Nat), d ≤ n → (match o with | none => (d : Int) | some i => let i := if i < 0 then i + (n : Int) else i; if (1 : Int) > 0 then max 0 (min i (n : Int)) else max (-1) (min i ((n : Int) - 1))) = ((HT.sIx n d o : Nat) : Int) := fun o d hd => by
    cases o with
    | none => rfl
    | some i =>
      simp only [HT.sIx, show (1 : Int) > 0 by decide, if_true]
      by_cases h : i < 0
      · simp only [h, if_true] <;> omega
      · simp only [h, if_false] <;> omega
  have c1 := cl lo 0 (Nat.zero_le _)
  have c2 := cl hi n (Nat.le_refl _)
  simp only [show (1 : Int) > 0 by decide, if_true] at c1 c2 ⊢
  exact congr (congrArg sliceRange c1) c2 ▸ rfl
theorem made_cut (x : Str) (t : Tok) (l u : Option (Int × Tok)) {Q : Value → Shared → Prop} {s : Shared} (hl : x.length ≤ sizeLine)
    (h : ∀ t' s', (s' = s ∨ s' = { s with toks := s.toks + 1 }) → Q (.str (cutS x (l.map (·.1)) (u.map (·.1))) t') s') : (sliceMade x t l u none).post Q s := by
  unfold sliceMade slicePicked
  have e : Builtin.Str.strSliceIndices (l.map (·.1)) (u.map (·.1)) ((((none : Option (Int × Tok)).map (·.1)).getD 1)) x.length = _ := idx_cut (l.map (·.1)) (u.map (·.1)) x.length
  rw [e]
  have hp := pick_run x.cps (HT.sIx x.length 0 (l.map (·.1))) (HT.sIx x.length x.length (u.map (·.1)) - HT.sIx x.length 0 (l.map (·.1)))
  have hs : HT.sIx x.length x.length (u.map (·.1)) ≤ x.length := HT.sIx_le _ _ (Nat.le_refl _) _
  have hc : x.length = x.cps.toList.length := by simp [Str.length]
  by_cases hw : ((((none : Option (Int × Tok)).map (·.1)).getD 1 == 1 && ((List.range (HT.sIx x.length x.length (u.map (·.1)) - HT.sIx x.length 0 (l.map (·.1)))).map (HT.sIx x.length 0 (l.map (·.1)) + ·)).length == x.length) = true)
  · rw [if_pos hw]
    show Q (.str x t) s
    have hn : HT.sIx x.length x.length (u.map (·.1)) - HT.sIx x.length 0 (l.map (·.1)) = x.length := by
      have := (Bool.and_eq_true _ _ ▸ hw).2
      simpa using this
    have e2 : cutS x (l.map (·.1)) (u.map (·.1)) = x := by
      unfold cutS
      rw [hn]
      by_cases h0 : x.length = 0
      · have : x.cps.toList = [] := List.eq_nil_of_length_eq_zero (by omega)
        cases x with | mk c => simp at this; subst this; simp
      · have h1 : HT.sIx x.length 0 (l.map (·.1)) = 0 := by omega
        rw [h1, List.drop_zero, hc, List.take_length]
    have := h t s (.inl rfl)
    rw [e2] at this
    exact this
  · rw [if_neg hw, hp]
    refine ⟨?_, h _ _ (.inr rfl)⟩
    show ((x.cps.toList.drop _).take _).toArray.size ≤ sizeLine
    rw [List.size_toArray, List.length_take, List.length_drop, ← hc]
    omega
section
variable {X : Cx}
def rSlS : V → Option Int → Option Int → Hp → VK → Prop := fun x lo hi H Q => ∃ z, x = .str z ∧ z.length ≤ sizeLine ∧ Q (.str (cutS z lo hi)) H
theorem sl_str : SlR X rSlS := by
  intro pins s σ H x v vl vu lo hi sl Q I rx hs pl pu h
  obtain ⟨z, rfl, hz, q⟩ := h
  obtain ⟨t, rfl⟩ := rx
  refine ⟨"str", _, slot_str_getitem.lookup, typeIs_str s z t, ?_⟩
  have part : ∀ {v : Value} {o : Option Int}, IsPart v o → ∃ p : Option (Int × Tok), v = partValue p ∧ p.map (·.1) = o := fun p => by
    cases p with
    | none => exact ⟨none, rfl, rfl⟩
    | int i t => exact ⟨some (i, t), rfl, rfl⟩
  obtain ⟨l, rfl, rfl⟩ := part pl
  obtain ⟨u, rfl, rfl⟩ := part pu
  refine wpAny_getItem_str_slice (l := l) (u := u) (st := none) hs rfl (made_cut z t l u hz fun t' s' hs' => ?_)
  rcases hs' with rfl | rfl
  · exact ⟨.str (cutS z (l.map (·.1)) (u.map (·.1))), H, I, ⟨t', rfl⟩, q⟩
  · exact ⟨.str (cutS z (l.map (·.1)) (u.map (·.1))), H, I.tok _, ⟨t', rfl⟩, q⟩
def rSlA (K : PySem.W.Frag) : V → Option Int → Option Int → Hp → VK → Prop := fun x lo hi H Q => rSlL K x lo hi H Q ∨ rSlS x lo hi H Q
theorem sl_any : SlR X (rSlA X.K) := sl_list.or sl_str
end
end L2
namespace L2
open PySem PySem.Spec PyProof.Rows
section
variable {X : Cx} {pins : List (Addr × Obj)} {σ : St} {H H' : Hp} {s : Shared} {h' : Heap}
end
section
variable {X : Cx}
end
end L2
namespace L2
open PySem PySem.Spec PyProof.Rows
section
variable {X : Cx}
end
end L2
namespace L2
open PySem PySem.Spec PyProof.Rows
section
variable {prog : Program} {w : World} {A : Around} {E : Value → Shared → Prop} {s : Shared}
end
section
variable {X : Cx} {tg : Expr}
end
end L2
namespace L2
open PySem PySem.Spec PyProof.Rows
section
variable {X : Cx} {tg : Expr}
end
end L2
namespace L2
open PySem PySem.Spec PyProof.Rows
section
variable {prog : Program} {w : World} {A : Around} {E : Value → Shared → Prop} {s : Shared}
theorem nextT {it t : Addr} {i : Nat} {items : Array Value} {x : Value} {Q : Value → Shared → Prop} (hit : s.heap.IsTupleIter it t i) (ht : s.heap.IsTuple t items) (hx : items[i]? = some x)
    (hQ : ∀ h', h'.IsTupleIter it t (i + 1) → Heap.SameBut it s.heap h' → Q x { s with heap := h' }) : wpAny (model prog w) A (Builtin.SmallTypes.nextOf (.ref it)) Q E s := by
  obtain ⟨o, eo, co, fo⟩ := id hit
  obtain ⟨p, ep, _, np, dp⟩ := ht
  unfold Builtin.SmallTypes.nextOf
  refine wpAny_bind (wpAny_callSpecial?_slot (name := Str.ofString "__next__") hit.typeIs F.slot_tuple_iterator_next (wpAny_call_entry F.slot_tuple_iterator_next hit.typeIs F.entry_tuple_iterator_next ?_ (F.args_tuple_iterator_next_1 _)))
  show wpAny _ _ (field (.ref it) 0 >>= _) _ _ _
  refine wpAny_bind (wpAny_field eo fo (x := .ref t) rfl ?_)
  show wpAny _ _ (if (Value.ref t == Value.none) = true then _ else _) _ _ _
  rw [if_neg (fun z : (Value.ref t == Value.none) = true => Bool.false_ne_true z)]
  show wpAny _ _ (field (.ref it) 1 >>= _) _ _ _
  refine wpAny_bind (wpAny_field eo fo (x := .int i 0) rfl ?_)
  show wpAny _ _ (seqItems? (.ref t) >>= _) _ _ _
  refine wpAny_bind (wpAny_seqItems ep dp ?_); simp only [Int.toNat_natCast, hx]
  refine wpAny_bind (wpAny_setField eo fo (by simp) (wpAny_pure ⟨x, rfl, wpAny_pure (hQ _ ⟨_, Heap.get?_update_self _ eo (Obj.isFreed_of_fields (Obj.data_mapFields fo _)), (Obj.cls_mapFields ..).trans co, ?_⟩ (Heap.SameBut.update ..))⟩))
  rw [Obj.data_mapFields fo]
  simp [rawInt]
theorem nextT_end {it t : Addr} {i : Nat} {items : Array Value} {Q : Value → Shared → Prop} (hh : A.handled = none) (hit : s.heap.IsTupleIter it t i) (ht : s.heap.IsTuple t items) (hx : items[i]? = none)
    (hE : ∀ h' e, Heap.ExtBut it s.heap h' → (∃ o, h'.get? e = some o ∧ o.cls = .type "StopIteration") → E (.ref e) { s with heap := h' }) : wpAny (model prog w) A (Builtin.SmallTypes.nextOf (.ref it)) Q E s := by
  obtain ⟨o, eo, co, fo⟩ := id hit
  obtain ⟨p, ep, _, np, dp⟩ := ht
  unfold Builtin.SmallTypes.nextOf
  refine wpAny_bind (wpAny_callSpecial?_slot (name := Str.ofString "__next__") hit.typeIs F.slot_tuple_iterator_next (wpAny_call_entry F.slot_tuple_iterator_next hit.typeIs F.entry_tuple_iterator_next ?_ (F.args_tuple_iterator_next_1 _)))
  show wpAny _ _ (field (.ref it) 0 >>= _) _ _ _
  refine wpAny_bind (wpAny_field eo fo (x := .ref t) rfl ?_)
  show wpAny _ _ (if (Value.ref t == Value.none) = true then _ else _) _ _ _
  rw [if_neg (fun z : (Value.ref t == Value.none) = true => Bool.false_ne_true z)]
  show wpAny _ _ (field (.ref it) 1 >>= _) _ _ _
  refine wpAny_bind (wpAny_field eo fo (x := .int i 0) rfl ?_)
  show wpAny _ _ (seqItems? (.ref t) >>= _) _ _ _
  refine wpAny_bind (wpAny_seqItems ep dp ?_); simp only [Int.toNat_natCast, hx]
  refine wpAny_bind (wpAny_rule (wpAny_bind (wpAny_setField eo fo (by simp) ?_)))
  show wpAny _ _ (newExc (.type "StopIteration") [] >>= _) _ _ _
  refine wpAny_bind ?_; simp only [newExc, newTuple]
  refine wpAny_bind (wpAny_newObj_type (wpAny_bind (m := firstArgMember _ _) (wpAny_of_eq (a := Value.none) (by first | rfl | (simp only [firstArgMember]; rfl)) (wpAny_newObj_type ?_ (by size_fits)))) (by size_fits))
  simp only [raiseNew]
  refine wpAny_bind (wpAny_handled ?_); rw [hh]
  refine wpAny_bind (wpAny_pure (wpAny_throw ?_))
  exact hE _ _ (((Heap.SameBut.update ..).extBut.push _).push _) ⟨_, Heap.get?_push_size _ rfl, rfl⟩
theorem drawsT (hh : A.handled = none) (it t : Addr) (hne : t ≠ it) (items : Array Value) : Draws prog w A it [it, t] items.size (fun i v => items[i]? = some v) (fun i h => h.IsTupleIter it t i ∧ h.IsTuple t items) where
  live := fun i h st => let ⟨o, e, _⟩ := st.1; ⟨o, e⟩
  frame := fun i h h' st k => ⟨st.1.at fun o e => k it (by simp) o e, let ⟨o, e, c⟩ := st.2; ⟨o, k t (by simp) o e, c⟩⟩
  item := fun i s Q E hi st hQ => nextT st.1 st.2 (Array.getElem?_eq_getElem hi) fun h' a b => hQ _ h' s.toks (Array.getElem?_eq_getElem hi) ⟨a, let ⟨o, e, c⟩ := st.2; ⟨o, (b.2 t hne).trans e, c⟩⟩ b
  done := fun s Q E st hE => nextT_end hh st.1 st.2 (Array.getElem?_eq_none (Nat.le_refl _)) hE
variable {z TI TO i1 i2 : Addr} {fp1 fp2 : List Addr} {n1 n2 : Nat} {P1 P2 : Nat → Value → Prop} {St1 St2 : Nat → Heap → Prop}
end
inductive SK where | L | T
def SK.ty : SK → String
  | .L => "list_iterator"
  | .T => "tuple_iterator"
def SK.is (k : SK) (h : Heap) (a : Addr) (items : Array Value) : Prop := match k with
  | .L => h.IsList a items
  | .T => h.IsTuple a items
def SK.at (k : SK) (h : Heap) (it a : Addr) (i : Nat) : Prop := match k with
  | .L => h.IsListIter it a i
  | .T => h.IsTupleIter it a i
theorem SK.at_of {k : SK} {h : Heap} {it a : Addr} (e : h.get? it = some { cls := .type k.ty, data := .fields #[.ref a, .int 0 0] }) : k.at h it a 0 := by
  cases k with
  | L => exact ⟨_, e, rfl, rfl⟩
  | T => exact ⟨_, e, rfl, rfl⟩
theorem SK.at_obj {k : SK} {h : Heap} {it a : Addr} {i : Nat} (st : k.at h it a i) : ∃ o, h.get? it = some o ∧ ∀ v, o.data ≠ .cell v := by
  cases k with
  | L => obtain ⟨o, e, c, d⟩ := st; exact ⟨o, e, fun v y => by rw [d] at y; cases y⟩
  | T => obtain ⟨o, e, c, d⟩ := st; exact ⟨o, e, fun v y => by rw [d] at y; cases y⟩
theorem SK.at_keep {k : SK} {h h' : Heap} {it a : Addr} {i : Nat} (st : k.at h it a i) (q : ∀ o, h.get? it = some o → h'.get? it = some o) : k.at h' it a i := by
  cases k with
  | L => exact Heap.IsListIter.at st q
  | T => exact Heap.IsTupleIter.at st q
theorem SK.is_lt {k : SK} {h : Heap} {a : Addr} {items : Array Value} (p : k.is h a items) : a < h.objs.size := by
  cases k with
  | L => obtain ⟨o, e, _⟩ := p; exact Heap.lt_size e
  | T => obtain ⟨o, e, _⟩ := p; exact Heap.lt_size e
theorem SK.draws {prog : Program} {w : World} {A : Around} (k : SK) (hh : A.handled = none) (it a : Addr) (hne : a ≠ it) (items : Array Value) : Draws prog w A it [it, a] items.size (fun i v => items[i]? = some v) (fun i h => k.at h it a i ∧ k.is h a items) := by
  cases k with
  | L => exact Draws.list hh it a hne items
  | T => exact drawsT hh it a hne items
end L2
namespace L2
open PySem PySem.Spec PyProof.Rows
section
variable {prog : Program} {w : World} {A : Around} {E : Value → Shared → Prop} {s : Shared}
end
def SK.sq (k : SK) (K : PySem.W.Frag) (H : Hp) (a : Addr) (xs : List V) : Prop := match k with
  | .L => SqL K H a xs
  | .T => SqT K H a xs
section
variable {X : Cx} {pins : List (Addr × Obj)} {σ : St} {H : Hp} {s : Shared}
theorem Inv.sk (I : Inv X pins σ H s) {k : SK} {a : Addr} {xs : List V} (h : k.sq X.K H a xs) : ∃ its : List Value, Vals xs its ∧ k.is s.heap a its.toArray := by
  cases k with
  | L => obtain ⟨its, r, p, _⟩ := I.list h; exact ⟨its, r, p.isList⟩
  | T => obtain ⟨its, r, p, _⟩ := I.tuple h; exact ⟨its, r, p⟩
theorem Inv.sk_inj (I : Inv X pins σ H s) {k : SK} {a : Addr} {xs ys : List V} (h : k.sq X.K H a xs) (h' : k.sq X.K H a ys) : xs = ys := by
  cases k with
  | L => exact I.list_inj h h'
  | T => exact I.tuple_inj h h'
end
section
variable {X : Cx}
end
end L2
namespace L2
open PySem PySem.Spec PyProof.Rows
def metS (val : Nat → Str) : Nat → List Str
  | 0 => []
  | i + 1 => if val i ∈ metS val i then metS val i else metS val i ++ [val i]
theorem metS_len (val : Nat → Str) : ∀ i, (metS val i).length ≤ i
  | 0 => Nat.le_refl _
  | i + 1 => by
    have := metS_len val i
    unfold metS
    split
    · omega
    · rw [List.length_append, List.length_singleton]; omega
theorem metS_mem (val : Nat → Str) (i : Nat) (x : Str) : decide (x ∈ metS val (i + 1)) = (decide (x ∈ metS val i) || decide (x = val i)) := by
  show decide (x ∈ if val i ∈ metS val i then metS val i else metS val i ++ [val i]) = _
  by_cases h : val i ∈ metS val i
  · rw [if_pos h]
    by_cases e : x = val i
    · subst e; simp [h]
    · simp [e]
  · rw [if_neg h]; simp [List.mem_append]
theorem metS_one (val : Nat → Str) (i : Nat) : (metS val (i + 1)).length = if decide (val i ∈ metS val i) = true then (metS val i).length else (metS val i).length + 1 := by
  show (if val i ∈ metS val i then metS val i else metS val i ++ [val i]).length = _
  by_cases h : val i ∈ metS val i <;> simp [h]
theorem setOf_eq {prog : Program} {w : World} {h : Heap} {a : Addr} {S S' : Str → Bool} {n n' : Nat} (q : h.SetOf (strKind prog w) a S n) (e : ∀ k, S k = S' k) (en : n = n') : h.SetOf (strKind prog w) a S' n' := by
  obtain rfl : S = S' := funext e
  exact en ▸ q
theorem setOf_up {prog : Program} {w : World} {h h' : Heap} {a : Addr} {S : Str → Bool} {n : Nat} (q : h.SetOf (strKind prog w) a S n) (k : ∀ o, h.get? a = some o → h'.get? a = some o) : h'.SetOf (strKind prog w) a S n := by
  obtain ⟨o, es, ep, t, ho, r⟩ := q
  exact ⟨o, es, ep, t, k o ho, r⟩
section
variable {prog : Program} {w : World} {A : Around} {R : Result → Shared → Prop} {J : Addr} {fp wr : List Addr} {G : Array GenState → Array GenState → Prop} {n : Nat} {P : Nat → Value → Prop} {St : Nat → Shared → Prop}
theorem set_loop (W : WalksS prog w A.in1 J fp wr G n P St) (N : Addr) (hNf : N ∉ fp) (val : Nat → Str) (hval : ∀ i v, P i v → ∃ t, v = .str (val i) t) (hb : n + 1 < scanBound) : ∀ (k i : Nat) (s : Shared), n - i = k → i ≤ n → St i s →
    s.heap.SetOf (strKind prog w) N (fun x => decide (x ∈ metS val i)) (metS val i).length → (∀ s', Moved (N :: wr) G s s' → s'.heap.SetOf (strKind prog w) N (fun x => decide (x ∈ metS val n)) (metS val n).length → R (.ok (.ret .none)) s') →
    codeAny (model prog w) A (.builtin "set.update.loop" ⟨[.ref N, .ref J], []⟩) R s := by
  have hNw : N ∉ wr := fun h => hNf (W.sub _ h)
  have more : ∀ b ∈ wr, b ∈ N :: wr := fun b hb => List.mem_cons_of_mem _ hb
  intro k
  induction k with
  | zero =>
    intro i s hk hi st hS hR
    obtain rfl : i = n := by omega
    refine codeAny_builtin F.entry_set_update_loop ?_; rw [Around.under_plainId F.plain_set_update_loop _]
    show wpAny _ A.in1 (pyNext (.ref J) >>= _) _ _ _
    refine wpAny_bind (W.done s _ _ st fun t hm => ?_)
    show wpAny _ A.in1 (ret Value.none) _ _ _
    exact wpAny_pure (hR t (hm.mono more) (setOf_up hS fun o e => hm.heap N o hNw e))
  | succ k ih =>
    intro i s hk hi st hS hR
    have hlt : i < n := by omega
    refine codeAny_builtin F.entry_set_update_loop ?_; rw [Around.under_plainId F.plain_set_update_loop _]
    show wpAny _ A.in1 (pyNext (.ref J) >>= _) _ _ _
    refine wpAny_bind (W.item i s _ _ hlt st fun v t hP st' hm => ?_)
    obtain ⟨u, rfl⟩ := hval i v hP
    have hS' := setOf_up hS fun o e => hm.heap N o hNw e
    have hkey : (strKind prog w).is (val i) (.str (val i) u) = true := PySem.strKind_is _ _ _ _
    show wpAny _ A.in1 (holding [Value.str (val i) u] (setAdd N (.str (val i) u)) >>= _) _ _ _
    refine wpAny_bind (wpAny_holding ?_); unfold setAdd
    refine wpAny_holding (wpAny_bind ((strKind prog w).pyHash (k := val i) hkey ?_))
    refine wpAny_setAddHashed_of (knd := strKind prog w) (s := { t with toks := t.toks + 1 }) hkey rfl hS' (by have := metS_len val i; omega) fun h' sb hS2 => ?_
    have hS3 := setOf_eq (S' := fun x => decide (x ∈ metS val (i + 1))) hS2 (fun x => (metS_mem val i x).symm) (metS_one val i).symm
    refine wpAny_pure ⟨plainId_quiet F.plain_set_update_loop _, ih (i + 1) _ (by omega) hlt (W.frame _ t _ _ st' (Nat.le_succ _) fun b hb o e => (sb.2 b fun q => hNf (q ▸ hb)).trans e) hS3 fun r hm' hS4 => ?_⟩
    exact hR r (Moved.trans W.gtrans ((hm.mono more).then_heap (Nat.le_succ _) fun b o hb e => (sb.2 b fun q => hb (q ▸ List.mem_cons_self)).trans e) hm') hS4
end
theorem tup_no_set : isSubtype (.type "tuple") (.type "set") = pure false := by rw [isSubtype_type]; kernel_rfl
theorem tup_no_fset : isSubtype (.type "tuple") (.type "frozenset") = pure false := by rw [isSubtype_type]; kernel_rfl
section
variable {prog : Program} {w : World} {A : Around} {E : Value → Shared → Prop} {s : Shared}
set_option maxHeartbeats 6400000 in
theorem call_setT {l : Addr} {items : Array Value} {val : Nat → Str} {Q : Value → Shared → Prop} (hh : A.handled = none) (hl : s.heap.IsTuple l items) (hv : ∀ (i : Nat) (v : Value), items[i]? = some v → ∃ t, v = .str (val i) t) (hb : items.size + 1 < scanBound)
    (h : ∀ (h' : Heap) (tk : Nat), h'.SetOf (strKind prog w) s.heap.objs.size (fun x => decide (x ∈ metS val items.size)) (metS val items.size).length → (∀ b o, s.heap.get? b = some o → h'.get? b = some o) → Q (.ref s.heap.objs.size) { s with heap := h', toks := tk }) :
    wpAny (model prog w) A (call (.type "set") [.ref l]) Q E s := by
  obtain ⟨c, tl, hmro⟩ := PySem.F.called_set.mro
  have hmade := PySem.F.called_set.made
  have hsub := PySem.F.called_set.sub
  refine wpAny_call (codeAny_of_tree ?_); show wpAny _ _ (callAny (.type "set") _) _ _ _
  refine wpAny_pure ⟨Code.quiet_builtin _ (by decide +kernel), codeAny_builtin PySem.F.entry_type_call ?_⟩; rw [Around.under_plain (weight_type_call_type "set" [.ref l] []) rfl]
  have h1 := PySem.F.called_set.notType
  have h2 := PySem.F.called_set.canCreate
  have hct := PySem.F.typeCall_set_1 (.ref l)
  (repeat (any_goals (first | assumption | wp_step)))
  refine codeAny_mono (code_set_new_1 (.ref l) (E := E) (Q₁ := fun x t => ∃ led : Bool, x = .ref s.heap.objs.size ∧ t = { s with heap := s.heap.push { cls := .type "set", dict := none, data := .set #[] 0 (.fresh 0 0 led) } }) fun led => ⟨led, rfl, rfl⟩) fun r t hr => ?_
  cases r with
  | error e => exact hr
  | ok fl =>
    cases fl with
    | ret x =>
      obtain ⟨led, rfl, rfl⟩ := hr
      have g0 : (s.heap.push { cls := .type "set", dict := none, data := .set #[] 0 (.fresh 0 0 led) }).get? s.heap.objs.size = some { cls := .type "set", dict := none, data := .set #[] 0 (.fresh 0 0 led) } := Heap.get?_push_size _ rfl
      have hT : Shared.TypeIs { s with heap := s.heap.push { cls := .type "set", dict := none, data := .set #[] 0 (.fresh 0 0 led) } } (.ref s.heap.objs.size) "set" := ⟨_, g0, rfl⟩
      have hli := PySem.F.called_set.init.lookup
      have hbi := PySem.F.called_set.init.bind (.ref s.heap.objs.size)
      (repeat (any_goals (first | assumption | wp_step)))
      refine codeAny_mono (codeAny_call_builtin (R := wants (fun r u => r = .none ∧ ∃ h' tk, u = { s with heap := h', toks := tk } ∧ h'.SetOf (strKind prog w) s.heap.objs.size (fun x => decide (x ∈ metS val items.size)) (metS val items.size).length ∧
          (∀ b o, s.heap.get? b = some o → h'.get? b = some o)) E) PySem.F.called_set.init.plain PySem.F.entry_set_init (check_set_init_1 hT ?_)) fun r u hr => ?_
      · obtain ⟨ol, hol, hcl, nl, hdl⟩ := hl
        obtain ⟨ocls, odict, odata, oslots⟩ := ol
        simp only at hcl hdl
        subst hcl; subst hdl
        have hol' : (s.heap.push { cls := .type "set", dict := none, data := .set #[] 0 (.fresh 0 0 led) }).get? l = some { cls := .type "tuple", dict := odict, data := .seq items nl, slots := oslots } := Heap.get?_push_of_some _ hol
        have k1 := tup_no_set
        have k2 := tup_no_fset
        have k3 : (Value.type "tuple" == Value.type "dict") = false := by decide
        have hl1 : (s.heap.push { cls := .type "set", dict := none, data := .set #[] 0 (.fresh 0 0 led) }).IsTuple l items := ⟨_, hol', rfl, nl, rfl⟩
        unfold Builtin.«set.__init__» noKeywords Builtin.Frozenset.updateFrom
        generalize hPI : pyIter = PI; wp_walk; subst hPI
        refine wpAny_pyIter_tuple hl1 (wpAny_bind (wpAny_runValue ?_))
        have lt : l < s.heap.objs.size := Heap.lt_size hol
        have hh3 : A.in1.in1.in1.handled = none := by simp [hh]
        have hI : l ≠ (s.heap.push { cls := .type "set", dict := none, data := .set #[] 0 (.fresh 0 0 led) }).objs.size := by rw [Heap.size_push]; exact Nat.ne_of_lt (Nat.lt_succ_of_lt lt)
        have hNf : s.heap.objs.size ∉ [(s.heap.push { cls := .type "set", dict := none, data := .set #[] 0 (.fresh 0 0 led) }).objs.size, l] := by
          rw [Heap.size_push]
          simp only [List.mem_cons, List.not_mem_nil, or_false, not_or]
          exact ⟨Nat.ne_of_lt (Nat.lt_succ_self _), Nat.ne_of_gt lt⟩
        refine set_loop ((Walks.tuple hh3 _ l hI items).toS) s.heap.objs.size hNf val hv hb (items.size - 0) 0 _ (by omega) (Nat.zero_le _) ⟨⟨_, Heap.get?_push_size _ rfl, rfl, rfl⟩, ?_⟩ ?_ fun u hm hS => ?_
        · obtain ⟨o, e, r⟩ := hl1
          exact ⟨o, Heap.get?_push_of_some _ e, r⟩
        · exact setOf_eq ((PyProof.Rows.setObjOf_fresh (knd := strKind prog w) led).setOf (Heap.get?_push_of_some _ g0) (by unfold scanBound; omega)) (fun _ => rfl) rfl
        · rw [Moved.eq_with hm]
          show wpAny _ _ _ _ _ _
          refine wpAny_pure ?_; show wpAny _ _ (ret Value.none) _ _ _
          refine wpAny_pure ⟨rfl, u.heap, u.toks, rfl, hS, fun b o e => hm.heap b o ?_ (Heap.get?_push_of_some _ (Heap.get?_push_of_some _ e))⟩
          have lb : b < s.heap.objs.size := Heap.lt_size e
          rw [Heap.size_push]
          simp only [List.mem_cons, List.not_mem_nil, or_false, not_or]
          exact ⟨Nat.ne_of_lt lb, Nat.ne_of_lt (Nat.lt_succ_of_lt lb)⟩
      · cases r with
        | error e => exact hr
        | ok fl2 =>
          cases fl2 with
          | ret r =>
            obtain ⟨rfl, h', tk, rfl, hS, hk⟩ := hr
            (repeat (any_goals (first | assumption | wp_step)))
            exact h _ _ hS hk
          | _ => exact hr.elim
    | _ => exact hr.elim
end
end L2
namespace L2
open PySem PySem.Spec PyProof.Rows
def unlike (xs : List Str) : Nat := (metS (fun i => xs.getD i ⟨#[]⟩) xs.length).length
theorem vals_str {xs : List Str} : ∀ {its : List Value}, Vals (xs.map V.str) its → its.length = xs.length ∧ ∀ (i : Nat) v, its[i]? = some v → ∃ t, v = .str (xs.getD i ⟨#[]⟩) t := by
  induction xs with
  | nil =>
    intro its r
    cases r
    exact ⟨rfl, fun i v h => by simp at h⟩
  | cons x xs ih =>
    intro its r
    cases r with
    | cons q t =>
      obtain ⟨h1, h2⟩ := ih t
      refine ⟨by simp [h1], fun i v h => ?_⟩
      cases i with
      | zero =>
        simp at h
        obtain ⟨u, e⟩ := q
        exact ⟨u, by rw [← h, e]; rfl⟩
      | succ i =>
        obtain ⟨u, e⟩ := h2 i v (by simpa using h)
        exact ⟨u, by rw [e]; simp⟩
section
variable {X : Cx}
def tLenSet (K : PySem.W.Frag) (ta : TA) : TE := fun σ H Q => ta σ H fun vs H1 => ∃ a xs, vs = [.ref a] ∧ SqT K H1 a (xs.map V.str) ∧ xs.length ≤ 1000 ∧ Q (.int (unlike xs : Nat)) H1
theorem pe_lenset {a : Expr} {ta : TA} {p p2 pos pos2 : Pos} (hg : Gl X "len") (hm : X.mg "len" = none) (hg2 : Gl X "set") (hm2 : X.mg "set" = none) (hb : bootBuiltins "set" = some (.type "set")) (hc : X.calm = true) (ha : PA X [a] ta) (hs : starEach [a] X.env = (false, eval a X.env) :: starEach [] X.env := by rfl) (hp2 : (backTo pos2 (starEach [] X.env)).any (·.1) = false := by rfl)
    (hs2 : starEach [.Call (.Name "set" p2) [a] [] pos2] X.env = (false, eval (.Call (.Name "set" p2) [a] [] pos2) X.env) :: starEach [] X.env := by rfl) (hpl : (backTo pos (starEach [] X.env)).any (·.1) = false := by rfl) :
    PE X (.Call (.Name "len" p) [.Call (.Name "set" p2) [a] [] pos2] [] pos) (tLenSet X.K ta) := by
  intro pins s σ H Q I h
  have hbl : bootBuiltins "len" = some (.builtin "len") := by decide +kernel
  refine wpAny_Call_Name_kw (ld_blt I hg hm hbl (PyProof.Rows.callWith_builtin1 ?_ hs2 hpl) (by decide) (by decide))
  rw [hs2]
  show wpAny _ _ (spliced ((false, eval (.Call (.Name "set" p2) [a] [] pos2) X.env) :: backTo pos (starEach [] X.env))) _ _ s
  refine Calls.spliced_cons (Call_ (ld_blt I hg2 hm2 hb (PyProof.Rows.callWith_type1 (thn (ha pos2 pins s σ H _ I h) fun us s1 ⟨vs, H1, I1, r1, q1⟩ => ?_) hs hp2)))
  obtain ⟨a, xs, e, hq, hl, q⟩ := q1
  subst e
  obtain ⟨u, rfl, ru⟩ := vals1 r1
  cases ru
  obtain ⟨its, rv, pl, hz⟩ := I1.tuple hq
  obtain ⟨l1, hv⟩ := vals_str rv
  have hsc : (1002 : Nat) < scanBound := by decide
  have hbd : its.toArray.size + 1 < scanBound := by rw [List.size_toArray]; omega
  refine call_setT (val := fun i => xs.getD i ⟨#[]⟩) (I1.ok.hd hc) (show s1.heap.IsTuple a its.toArray from pl) (fun i v hi => hv i v (by simpa using hi)) hbd fun h' tk hS hk => Calls.spliced_nil ?_
  obtain ⟨o, es, ep, t, ho, hex, hd, hel, hmem, hb', hf, hn⟩ := hS
  have hn' : es.size = unlike xs := by rw [hn, List.size_toArray, l1]; rfl
  have hlt : ((es.size : Nat) : Int) < 2 ^ 63 := by
    have h63 : (2 ^ 63 : Int) = 9223372036854775808 := by decide
    have hle := metS_len (fun i => xs.getD i ⟨#[]⟩) its.toArray.size
    have : es.size ≤ 1001 := by rw [hn]; rw [List.size_toArray] at hle ⊢; omega
    omega
  refine call_len_set ho hex hd hf hlt ?_
  rw [hn']
  exact ⟨.int (unlike xs : Nat), H1, I1.kept hk, ⟨_, rfl⟩, q⟩
end
end L2
namespace L2
open PySem PySem.Spec PyProof.Rows
section
variable {X : Cx} {tg : Expr}
end
end L2
namespace L2
open PySem PySem.Spec PyProof.Rows
section
variable {X : Cx} {tg : Expr} {pins : List (Addr × Obj)} {σ : St} {H : Hp} {s : Shared} {apos cpos pos : Pos} {td ty tx tv : TE} {o e f : Expr}
theorem KT.get {K : PySem.W.Frag} {kvs : List (List Key × V)} {xs : List (List Key × Addr × Value)} (r : KT K H kvs xs) : ∀ {i : Nat} {p : List Key × V}, kvs[i]? = some p → ∃ b u, xs[i]? = some (p.1, b, u) ∧ CKey K H b p.1 := by
  induction r with
  | nil => intro i p h; simp at h
  | @cons p q ps qs h t ih =>
    intro i p' e
    cases i with
    | zero =>
      cases e
      obtain ⟨k, b, u⟩ := q
      obtain ⟨h1, h2, _⟩ := h
      dsimp only at h1 h2
      exact ⟨b, u, by rw [h1]; rfl, h2⟩
    | succ i => exact ih (i := i) e
end
end L2
namespace L2
open PySem PySem.Spec PyProof.Rows
section
variable {prog : Program} {w : World} {κ : Type} [DecidableEq κ] {kd : HeapKind prog w κ} {A : Around} {E : Value → Shared → Prop} {s : Shared} {d a it vw : Addr} {xs : List (κ × Addr × Value)} {k : κ} {v ok ov : Value}
end
end L2
namespace L2
open PySem PySem.Spec PyProof.Rows
section
variable {X : Cx} {tg : Expr} {pins : List (Addr × Obj)} {σ : St} {H : Hp} {s : Shared} {apos cpos pos : Pos} {td : TE} {o : Expr}
def Itdi (K : PySem.W.Frag) (a : Addr) (n : Nat) : It :=
  ⟨fun i H => ∃ kvs, Rd H a (.dT kvs) ∧ kvs.length = n ∧ i < n, fun i H x H' => ∃ t kvs b ks y, H t = none ∧ x = .ref t ∧ H' = upd H t (.tup [.ref b, y]) ∧ Rd H a (.dT kvs) ∧ kvs[i]? = some (ks, y) ∧ CKey K H b ks, fun i H => ∃ kvs, Rd H a (.dT kvs) ∧ kvs.length = n ∧ n ≤ i⟩
def iDi (K : PySem.W.Frag) (tl : TE) : TI := fun σ H R => tl σ H fun x H1 => ∃ a kvs, x = .ref a ∧ Rd H1 a (.dT kvs) ∧ R (Itdi K a kvs.length) H1
end
end L2
namespace L2
open PySem PySem.Spec PyProof.Rows
def IsRvd (h : Heap) (a t : Addr) (i : Int) : Prop := ∃ o, h.get? a = some o ∧ o.cls = .type "reversed" ∧ o.data = .fields #[.ref t, rawInt i]
theorem IsRvd.at {h h' : Heap} {a l : Addr} {i : Int} (x : IsRvd h a l i) (e : ∀ o, h.get? a = some o → h'.get? a = some o) : IsRvd h' a l i := let ⟨o, ho, r⟩ := x; ⟨o, e _ ho, r⟩
section
variable {prog : Program} {w : World} {A : Around} {E : Value → Shared → Prop} {s : Shared}
end
section
variable {X : Cx} {tg : Expr}
end
end L2
namespace L2
open PySem PySem.Spec PyProof.Rows
section
variable {prog : Program} {w : World} {A : Around} {E : Value → Shared → Prop} {s : Shared}
end
section
variable {X : Cx}
end
end L2
namespace HT
open PySem PyProof.Rows
section
open PySem.SeqAt
open PySem.AutoSeq1 (wpAny_loadPart')
open PySem.MeetsSeq PySem.MeetsSeq2 PySem.MeetsSeq3
theorem IntsAre.drop_cons {vs : List Value} {x : Int} {ns : List Int} (h : IntsAre vs (x :: ns)) : ∃ t ws, vs = .int x t :: ws ∧ IntsAre ws ns := by
  cases h with
  | cons a t h' => exact ⟨t, _, rfl, h'⟩
theorem IntsAre.drop_nil {vs : List Value} (h : IntsAre vs []) : vs = [] := by
  cases h
  rfl
theorem at_drop {its : Array Value} {i : Nat} {v : Value} {ws : List Value} (h : its.toList.drop i = v :: ws) : its[((i : Nat) : Int).toNat]? = some v ∧ its.toList.drop (i + 1) = ws ∧ i < its.size := by
  have h1 : its.toList[i]? = some v := by
    have := congrArg (fun l => l[0]?) h
    simpa using this
  have h2 : i < its.toList.length := by
    rcases Nat.lt_or_ge i its.toList.length with z | z
    · exact z
    · rw [List.drop_of_length_le z] at h; cases h
  refine ⟨by simpa using h1, ?_, by simpa using h2⟩
  rw [← List.tail_drop, h]
  rfl
theorem at_end {its : Array Value} {i : Nat} (h : its.toList.drop i = []) : its[((i : Nat) : Int).toNat]? = none ∧ its.size ≤ i := by
  have h1 : its.size ≤ i := by
    have := congrArg List.length h
    simp at this
    omega
  exact ⟨by simp; omega, h1⟩
theorem ltLoop (p q : Addr) (its jts : Array Value) (n n2 : Nat) (dd dd2 : Option Addr) (sl sl2 : Array (Option Value)) : ∀ (ns ms : List Int) (i : Nat), i ≤ its.size → i ≤ jts.size → IntsAre (its.toList.drop i) ns → IntsAre (jts.toList.drop i) ms →
    Meets (Builtin.«list.__eq__.loop» ⟨[.ref p, .ref q, rawInt i, rawInt 0], []⟩)
      (fun A R s => s.heap.get? p = some { cls := .type "list", dict := dd, data := .seq its n, slots := sl } ∧ s.heap.get? q = some { cls := .type "list", dict := dd2, data := .seq jts n2, slots := sl2 } ∧ R (.ok (.ret (.bool (lexLt ns ms)))) s) := by
  intro ns
  induction ns with
  | nil =>
    intro ms i i1 i2 hi hj prog w A R s h
    obtain ⟨hp, g, d, tk, os⟩ := s; obtain ⟨hl, hb, h⟩ := h
    have e1 := at_end (IntsAre.drop_nil hi)
    wp_walk using wpAny_loadPart' hl, wpAny_loadPart' hb
    rw [e1.1]
    cases ms with
    | nil =>
      have e2 := at_end (IntsAre.drop_nil hj)
      rw [e2.1]
      wp_walk using wpAny_loadPart' hl, wpAny_loadPart' hb
      show R (.ok (.ret (.bool (decide (its.size < jts.size))))) _
      rw [decide_eq_false (by omega)]
      exact h
    | cons y ms =>
      obtain ⟨t, ws, ew, _⟩ := IntsAre.drop_cons hj
      have e2 := at_drop ew
      rw [e2.1]
      wp_walk using wpAny_loadPart' hl, wpAny_loadPart' hb
      show R (.ok (.ret (.bool (decide (its.size < jts.size))))) _
      rw [decide_eq_true (by omega)]
      exact h
  | cons x ns ih =>
    intro ms i i1 i2 hi hj prog w A R s h
    obtain ⟨hp, g, d, tk, os⟩ := s; obtain ⟨hl, hb, h⟩ := h
    obtain ⟨t, vs, ev, hi'⟩ := IntsAre.drop_cons hi
    have e1 := at_drop ev
    wp_walk using wpAny_loadPart' hl, wpAny_loadPart' hb
    rw [e1.1]
    cases ms with
    | nil =>
      have e2 := at_end (IntsAre.drop_nil hj)
      rw [e2.1]
      wp_walk using wpAny_loadPart' hl, wpAny_loadPart' hb
      show R (.ok (.ret (.bool (decide (its.size < jts.size))))) _
      rw [decide_eq_false (by omega)]
      exact h
    | cons y ms =>
      obtain ⟨u, ws, ew, hj'⟩ := IntsAre.drop_cons hj
      have e2 := at_drop ew
      rw [e2.1]
      rw [lexLt_cons] at h
      obtain ⟨e, he, hiff⟩ := eqAt_int A.in1 ⟨hp, g, d, tk, os⟩ x t y u
      refine wpAny_bind (he prog w _ _ ?_)
      cases e with
      | true =>
        rw [if_pos (hiff.mp rfl)] at h
        have hc : ((i : Int) + 1) = ((i + 1 : Nat) : Int) := by omega
        wp_walk
        rw [hc]
        refine ⟨plainId_quiet plain_eq_loop _, codeAny_builtin entry_eq_loop ?_⟩
        rw [Around.under_plainId plain_eq_loop _]
        exact ih ms (i + 1) (by omega) (by omega) (by rw [e1.2.1]; exact hi') (by rw [e2.2.1]; exact hj') prog w A R _ ⟨hl, hb, h⟩
      | false =>
        rw [if_neg (fun z => absurd (hiff.mpr z) Bool.false_ne_true)] at h
        have hri := rcLt_int A.in1 ⟨hp, g, d, tk, os⟩ x t y u prog w
        wp_walk using wpAny_loadPart' hl, wpAny_loadPart' hb
        rw [e1.1, e2.1]
        wp_walk using hri
        exact h
theorem ltLists (p q : Addr) (its jts : Array Value) (n n2 : Nat) (dd dd2 : Option Addr) (sl sl2 : Array (Option Value)) (ns ms : List Int) (hi : IntsAre its.toList ns) (hj : IntsAre jts.toList ms) :
    Meets (Builtin.«list.__lt__» ⟨[.ref p, .ref q], []⟩)
      (fun A R s => s.heap.get? p = some { cls := .type "list", dict := dd, data := .seq its n, slots := sl } ∧ s.heap.get? q = some { cls := .type "list", dict := dd2, data := .seq jts n2, slots := sl2 } ∧ R (.ok (.ret (.bool (lexLt ns ms)))) s) := by
  intro prog w A R s h
  obtain ⟨hp, g, d, tk, os⟩ := s; obtain ⟨hl, hb, h⟩ := h
  have f3 := AutoSeq1.sub_list_list
  wp_walk using wpAny_loadPart' hl, wpAny_loadPart' hb
  refine ⟨plainId_quiet plain_eq_loop _, codeAny_builtin entry_eq_loop ?_⟩
  rw [Around.under_plainId plain_eq_loop _]
  exact ltLoop p q its jts n n2 dd dd2 sl sl2 ns ms 0 (Nat.zero_le _) (Nat.zero_le _) (by simpa using hi) (by simpa using hj) prog w A R _ ⟨hl, hb, h⟩
end
theorem lt_listInts {prog : Program} {w : World} {A : Around} {E : Value → Shared → Prop} {s : Shared} {p q : Addr} {its jts : Array Value} {ns ms : List Int} {Q : Value → Shared → Prop} (hl : s.heap.IsList p its) (hb : s.heap.IsList q jts) (hi : IntsAre its.toList ns) (hj : IntsAre jts.toList ms)
    (hu : A.units < cLine) (h : Q (.bool (lexLt ns ms)) s) : wpAny (model prog w) A (compareOp .Lt (.ref p) (.ref q)) Q E s := by
  obtain ⟨⟨c1, d1, o1, s1⟩, ho, hc, n, hd⟩ := id hl
  obtain ⟨⟨c2, d2, o2, s2⟩, ho2, hc2, n2, hd2⟩ := id hb
  simp only at hc hd hc2 hd2
  subst hc hd hc2 hd2
  exact richCompare_meets_room (op := .Lt) ⟨_, ho, rfl⟩ ⟨_, ho2, rfl⟩ PySem.F.slot_list_lt PySem.F.entry_list_lt (PySem.F.args_list_lt_2 _ _) (ltLists p q its jts n n2 d1 d2 s1 s2 ns ms hi hj)
    ⟨ho, ho2, ⟨(fun x => nomatch x), h⟩⟩ hu
end HT
namespace L2
open PySem PyProof.Rows
section
variable {X : Cx}
def rLtL (K : PySem.W.Frag) : R2 := fun x y H Q => ∃ a b ns ms, x = .ref a ∧ y = .ref b ∧ SqL K H a (ns.map V.int) ∧ SqL K H b (ms.map V.int) ∧ Q (.bl (HT.lexLt ns ms)) H
theorem op_ltL (hu : X.A.units < cLine) : OpR X (compareOp .Lt) (rLtL X.K) := by
  intro pins s σ H x y v u Q I rx ry h
  obtain ⟨a, b, ns, ms, rfl, rfl, ha, hb, q⟩ := h
  cases rx
  cases ry
  obtain ⟨its, r1, p1, _⟩ := I.list ha
  obtain ⟨jts, r2, p2, _⟩ := I.list hb
  exact HT.lt_listInts p1.isList p2.isList (intsAre_of r1) (intsAre_of r2) hu ⟨.bl (HT.lexLt ns ms), H, I, rfl, q⟩
end
end L2
namespace L2
open PySem PySem.Spec PyProof.Rows
def en1 (k : SK) (h : Heap) (l : Addr) : Heap := h.push { cls := .type k.ty, data := .fields #[.ref l, .int 0 0] }
def en2 (k : SK) (h : Heap) (l : Addr) : Heap := (en1 k h l).push { cls := .type "enumerate", data := .fields #[.none, .bool false, .ref h.objs.size, rawInt 0, .none, .none] }
theorem newEnum (k : SK) (l : Addr) (xs : Array Value) : Meets (Builtin.«enumerate.__new__» ⟨[.type "enumerate", .ref l], []⟩) (fun _ R s => k.is s.heap l xs ∧ R (.ok (.ret (.ref (en1 k s.heap l).objs.size))) { s with heap := en2 k s.heap l }) :=
  .of_wp fun prog w A R s h => by
    obtain ⟨hp, g, d, tk, os⟩ := s
    obtain ⟨q1, h⟩ := h
    have hsub := sub_enumerate
    cases k with
    | L =>
      have e1 : Heap.IsList (Shared.heap ⟨hp, g, d, tk, os⟩) l xs := q1
      wp_walk using wpAny_pyIter_list e1
      refine wpAny_stack_any fun st => wpAny_pure ?_
      split
      · rename_i c _ _ _ _ _
        cases (c == Value.type "enumerate") <;> (wp_walk using wpAny_pyIter_list e1; exact ⟨_, rfl, h⟩)
      · wp_walk using wpAny_pyIter_list e1
        exact ⟨_, rfl, h⟩
    | T =>
      have e1 : Heap.IsTuple (Shared.heap ⟨hp, g, d, tk, os⟩) l xs := q1
      wp_walk using wpAny_pyIter_tuple e1
      refine wpAny_stack_any fun st => wpAny_pure ?_
      split
      · rename_i c _ _ _ _ _
        cases (c == Value.type "enumerate") <;> (wp_walk using wpAny_pyIter_tuple e1; exact ⟨_, rfl, h⟩)
      · wp_walk using wpAny_pyIter_tuple e1
        exact ⟨_, rfl, h⟩
theorem call_enumK {prog : Program} {w : World} {A : Around} {E : Value → Shared → Prop} {s : Shared} {k : SK} {l : Addr} {xs : Array Value} {Q : Value → Shared → Prop} (q1 : k.is s.heap l xs)
    (h : ∀ h', IsEnum h' (s.heap.objs.size + 1) s.heap.objs.size 0 .none → k.at h' s.heap.objs.size l 0 → (∀ b o, s.heap.get? b = some o → h'.get? b = some o) → Q (.ref (s.heap.objs.size + 1)) { s with heap := h' }) :
    wpAny (model prog w) A (call (.type "enumerate") [.ref l]) Q E s := by
  refine callType_new F.called_enumerate (by decide) (F.typeCall_enumerate_1 _) (F.newCall_enumerate_1 _) (fun obj => F.args_object_init_2 obj _) F.entry_enumerate_new (newEnum k l xs) ⟨q1, ?_⟩
  have hz : (en1 k s.heap l).objs.size = s.heap.objs.size + 1 := Heap.size_push ..
  show _ ∧ _
  rw [hz]
  have he : IsEnum (en2 k s.heap l) (s.heap.objs.size + 1) s.heap.objs.size 0 .none := by
    have z := Heap.get?_push_size (en1 k s.heap l) (o := { cls := .type "enumerate", data := .fields #[.none, .bool false, .ref s.heap.objs.size, rawInt 0, .none, .none] }) rfl
    rw [hz] at z
    exact z
  exact ⟨⟨_, he, rfl⟩, h _ he (SK.at_of (Heap.get?_push_of_some _ (Heap.get?_push_size _ rfl))) fun b o x => Heap.get?_push_of_some _ (Heap.get?_push_of_some _ x)⟩
def Itek (K : PySem.W.Frag) (k : SK) (a : Addr) : It :=
  ⟨fun i H => ∃ xs x, k.sq K H a xs ∧ xs[i]? = some x, fun i H v H' => ∃ t x, H t = none ∧ v = .ref t ∧ H' = upd H t (.tup [.int (i : Nat), x]) ∧ ∀ xs, k.sq K H a xs → xs[i]? = some x, fun i H => ∃ xs, k.sq K H a xs ∧ xs.length = i⟩
def EAt (k : SK) (e it a : Addr) (i : Nat) (h : Heap) : Prop := (∃ old, IsEnum h e it (i : Nat) old) ∧ k.at h it a i
theorem turn_enumK {P : Program} {w : World} {K : PySem.W.Frag} {es : List Expr} {x1 : Nat} {tpos : Pos} (k : SK) (a e it : Addr) (hne : e ≠ it) (hae : a ≠ e) (hai : a ≠ it) : Turn P w K (.Tuple es x1 tpos) (Itek K k a) [it, e] e (EAt k e it a) where
  mem := by simp
  obj := fun i h st b hb => by
    obtain ⟨⟨old, he⟩, s1⟩ := st
    simp only [List.mem_cons, List.not_mem_nil, or_false] at hb
    rcases hb with rfl | rfl
    · exact SK.at_obj s1
    · exact ⟨_, he, fun v y => by have y' : Data.fields _ = Data.cell v := y; cases y'⟩
  keep := fun i h h' st kk => by
    obtain ⟨⟨old, he⟩, s1⟩ := st
    exact ⟨⟨old, kk e (by simp) _ he⟩, SK.at_keep s1 fun o q => kk it (by simp) o q⟩
  item := by
    intro X hP hw hK hc i pins s σ H E I hf st hg
    subst hP hw hK
    obtain ⟨xs, x, hq, hx⟩ := hg
    obtain ⟨⟨old, he⟩, s1⟩ := st
    obtain ⟨its, rv, p1⟩ := I.sk hq
    obtain ⟨u, hu, ru⟩ := rv.get hx
    have hh := I.ok.hd hc
    have hi1 : i < its.toArray.size := by
      rcases Nat.lt_or_ge i its.length with q | q
      · simpa using q
      · rw [List.getElem?_eq_none q] at hu; cases hu
    refine wpAny_pyNext_enum_itemD (SK.draws (prog := X.prog) (w := X.w) (A := X.A.in1) k hh it a hai its.toArray) he ⟨s1, p1⟩ hi1 hne (by simp [hne, hae.symm]) fun x' h' tk ex heo j1 htup hsz hk => ⟨_, rfl, ?_⟩
    have eu : x' = u := Option.some.inj (by rw [← ex, ← hu]; simp)
    subst eu
    refine wpAny_letOwnedTupleGo_enum (s := { s with heap := h', toks := tk + 1 }) heo fun h2 he2 hs2 => ?_
    have hel : e < s.heap.objs.size := Heap.lt_size he
    have g2 : h2.get? s.heap.objs.size = some { cls := .type "tuple", data := .seq #[.int i tk, x'] } := (hs2.2 _ (Nat.ne_of_gt hel)).trans htup
    have k2 : ∀ b o, b ∉ [it, e] → s.heap.get? b = some o → h2.get? b = some o := fun b o hb q => by
      simp only [List.mem_cons, List.not_mem_nil, or_false, not_or] at hb
      exact (hs2.2 b hb.2).trans (hk b o hb.2 hb.1 q)
    have g1 : k.at h2 it a (i + 1) := SK.at_keep j1.1 fun o q => (hs2.2 it (Ne.symm hne)).trans q
    have ht2 : ∀ b o, s.heap.get? b = some o → ∃ o', h2.get? b = some o' := fun b o q => by
      by_cases n1 : b = it
      · subst n1; obtain ⟨o', e', _⟩ := SK.at_obj g1; exact ⟨o', e'⟩
      · by_cases n2 : b = e
        · subst n2; exact ⟨_, he2⟩
        · exact ⟨o, k2 b o (by simp [n1, n2]) q⟩
    have I2 : Inv X pins σ (upd H s.heap.objs.size (.tup [.int (i : Nat), x])) { s with heap := h2, toks := tk + 1 } :=
      I.turnedL (ch := [it, e]) k2 ht2 hf (Nat.le_refl _) ⟨by show 2 ≤ sizeLine; decide, [.int i tk, x'], .cons ⟨_, rfl⟩ (.cons ru .nil), ⟨_, g2, rfl, _, rfl⟩⟩
    refine ⟨.ref s.heap.objs.size, _, I2, rfl, ⟨s.heap.objs.size, x, I.fresh, rfl, rfl, fun ys hy => by rw [I.sk_inj hy hq]; exact hx⟩, ⟨⟨x', he2⟩, g1⟩, fun b hb => ?_⟩
    have hb0 := (hf b hb).1
    rw [upd_ne ?_]
    · exact hb0
    · simp only [List.mem_cons, List.not_mem_nil, or_false] at hb
      rcases hb with rfl | rfl
      · obtain ⟨o, e1, _⟩ := SK.at_obj s1; exact Nat.ne_of_lt (Heap.lt_size e1)
      · exact Nat.ne_of_lt hel
  done := by
    intro X hP hw hK hc i pins s σ H E I hf st hg
    subst hP hw hK
    obtain ⟨xs, hq, hx⟩ := hg
    obtain ⟨⟨old, he⟩, s1⟩ := st
    obtain ⟨its, rv, p1⟩ := I.sk hq
    obtain ⟨f0, f1, f2, f3, f4, f5⟩ := hf it (by simp)
    have hl := rv.length
    have hi : i = its.toArray.size := by rw [List.size_toArray]; omega
    rw [hi] at s1
    exact wpAny_pyNext_enum_endD (SK.draws (prog := X.prog) (w := X.w) (A := X.A.in1) k (I.ok.hd hc) it a hai its.toArray) he ⟨s1, p1⟩ fun h' eb => ⟨rfl, I.turned (t' := s.toks) (fun b o hb q => eb b o hb q) f0 f1 f3 f4 f5⟩
  self := fun A i s Q E st h => by
    obtain ⟨⟨old, he⟩, s1⟩ := st
    have hT : s.TypeIs (.ref e) "enumerate" := ⟨_, he, rfl⟩
    refine wpAny_pyIter_slot hT F.slot_enumerate_iter (wpAny_call_entry F.slot_enumerate_iter hT F.entry_enumerate_iter ?_ (F.args_enumerate_iter_1 _))
    show wpAny _ _ (ret (.ref e)) _ _ s
    exact wpAny_pure ⟨_, rfl, "enumerate", _, hT, F.slot_enumerate_next.lookup, h⟩
section
variable {X : Cx}
def iEnumK (K : PySem.W.Frag) (k : SK) (ta : TA) : TI := fun σ H R => ta σ H fun vs H1 => ∃ a, vs = [.ref a] ∧ (∃ xs, k.sq K H1 a xs) ∧ R (Itek K k a) H1
theorem pi_enumK {k : SK} {l : Expr} {ta : TA} {es : List Expr} {x1 : Nat} {tpos p pos : Pos} (hg : Gl X "enumerate") (hm : X.mg "enumerate" = none) (ha : PA X [l] ta) (hs : starEach [l] X.env = [(false, eval l X.env)] := by rfl) :
    PI X (.Tuple es x1 tpos) (.Call (.Name "enumerate" p) [l] [] pos) (iEnumK X.K k ta) := by
  intro pins s σ H R I h
  refine Call_ (ld_blt I hg hm PyProof.Rows.boot_enumerate (PyProof.Rows.callWith_type1 (thn (ha pos pins s σ H _ I h) fun us s1 ⟨vs, H1, I1, r1, q1⟩ => ?_) hs rfl))
  obtain ⟨a, e, ⟨xs, hq⟩, q⟩ := q1
  subst e
  obtain ⟨u, rfl, ru⟩ := vals1 r1
  cases ru
  obtain ⟨its, rv, p1⟩ := I1.sk hq
  refine call_enumK p1 fun h' he hit hk => ?_
  have I2 : Inv X pins σ H1 { s1 with heap := h' } := I1.kept (t' := s1.toks) hk
  have la := SK.is_lt p1
  have st : EAt k (s1.heap.objs.size + 1) s1.heap.objs.size a 0 h' := ⟨⟨.none, he⟩, hit⟩
  have T := turn_enumK (P := X.prog) (w := X.w) (K := X.K) (es := es) (x1 := x1) (tpos := tpos) k a (s1.heap.objs.size + 1) s1.heap.objs.size (Nat.succ_ne_self _) (Nat.ne_of_lt (Nat.lt_succ_of_lt la)) (Nat.ne_of_lt la)
  refine T.self X.A 0 { s1 with heap := h' } _ _ st ?_
  refine ⟨s1.heap.objs.size + 1, [s1.heap.objs.size, s1.heap.objs.size + 1], _, _, H1, rfl, I2, T, st, fun b hb => ?_, q⟩
  have hb' : s1.heap.objs.size ≤ b := by
    simp only [List.mem_cons, List.not_mem_nil, or_false] at hb
    rcases hb with z | z
    · rw [z]; exact Nat.le_refl _
    · rw [z]; exact Nat.le_succ _
  exact I1.fpOk hb' (I1.hok.fresh hb')
end
end L2
namespace L2
open PySem PySem.Spec PyProof.Rows
section
variable {prog : Program} {w : World} {A : Around} {E : Value → Shared → Prop} {s : Shared}
end
section
variable {X : Cx} {pos : Pos}
end
end L2
namespace L2
open PySem PySem.Spec PyProof.Rows
section
variable {X : Cx}
end
end L2
namespace MR
open PySem L2
inductive PV where
  | non | bl (b : Bool) | int (i : Int) | str (x : Str)
  | lst (xs : List PV) | frz (xs : List PV) | tup (xs : List PV) | ktp (xs : List PV)
  | dK (kvs : List (Key × PV)) | dT (kvs : List (List Key × PV))
  | obj (c : Nat) (fs : List (Str × PV))
structure MC where
  K : PySem.W.Frag
  cl : Nat → Addr
mutual
inductive Rep (C : MC) (A : Addr → Prop) (H : Hp) : V → PV → Prop
  | non : Rep C A H .non .non
  | bl (b : Bool) : Rep C A H (.bl b) (.bl b)
  | int (i : Int) : Rep C A H (.int i) (.int i)
  | str (x : Str) : Rep C A H (.str x) (.str x)
  | lst {a : Addr} {vs : List V} {xs : List PV} : H a = some (.lst vs) → A a → Reps C A H vs xs → Rep C A H (.ref a) (.lst xs)
  | lstF {a : Addr} {o : Obj} {vs : List V} {xs : List PV} : H a = some (.frz o (.lst vs)) → Reps C A H vs xs → Rep C A H (.ref a) (.frz xs)
  | lstK {a : Addr} {vs : List V} {xs : List PV} : SqL C.K (fun _ => none) a vs → Reps C A H vs xs → Rep C A H (.ref a) (.frz xs)
  | tup {a : Addr} {vs : List V} {xs : List PV} : H a = some (.tup vs) → Reps C A H vs xs → Rep C A H (.ref a) (.tup xs)
  | tupC {a : Addr} {vs : List V} {xs : List PV} : KTup C.K a vs → Reps C A H vs xs → Rep C A H (.ref a) (.tup xs)
  | tupK {a : Addr} {vs : List V} {xs : List PV} : SqT C.K (fun _ => none) a vs → Reps C A H vs xs → Rep C A H (.ref a) (.ktp xs)
  | dK {a : Addr} {kv : List (Key × V)} {kvs : List (Key × PV)} : H a = some (.dK kv) → A a → RepK C A H kv kvs → Rep C A H (.ref a) (.dK kvs)
  | dT {a : Addr} {kv : List (List Key × V)} {kvs : List (List Key × PV)} : H a = some (.dT kv) → A a → RepT C A H kv kvs → Rep C A H (.ref a) (.dT kvs)
  | obj {a dx : Addr} {c : Nat} {f : List (Str × V)} {fs : List (Str × PV)} : H a = some (.ins (C.cl c) dx f) → A a → RepF C A H f fs → Rep C A H (.ref a) (.obj c fs)
inductive Reps (C : MC) (A : Addr → Prop) (H : Hp) : List V → List PV → Prop
  | nil : Reps C A H [] []
  | cons {v : V} {p : PV} {vs : List V} {ps : List PV} : Rep C A H v p → Reps C A H vs ps → Reps C A H (v :: vs) (p :: ps)
inductive RepK (C : MC) (A : Addr → Prop) (H : Hp) : List (Key × V) → List (Key × PV) → Prop
  | nil : RepK C A H [] []
  | cons {k : Key} {v : V} {p : PV} {vs : List (Key × V)} {ps : List (Key × PV)} : Rep C A H v p → RepK C A H vs ps → RepK C A H ((k, v) :: vs) ((k, p) :: ps)
inductive RepT (C : MC) (A : Addr → Prop) (H : Hp) : List (List Key × V) → List (List Key × PV) → Prop
  | nil : RepT C A H [] []
  | cons {k : List Key} {v : V} {p : PV} {vs : List (List Key × V)} {ps : List (List Key × PV)} : Rep C A H v p → RepT C A H vs ps → RepT C A H ((k, v) :: vs) ((k, p) :: ps)
inductive RepF (C : MC) (A : Addr → Prop) (H : Hp) : List (Str × V) → List (Str × PV) → Prop
  | nil : RepF C A H [] []
  | cons {k : Str} {v : V} {p : PV} {vs : List (Str × V)} {ps : List (Str × PV)} : Rep C A H v p → RepF C A H vs ps → RepF C A H ((k, v) :: vs) ((k, p) :: ps)
end
def isMut : HO → Bool
  | .lst _ => true
  | .dK _ => true
  | .dT _ => true
  | .ins _ _ _ => true
  | _ => false
def Ex (A : Addr → Prop) (H : Hp) (A' : Addr → Prop) (H' : Hp) : Prop := ∀ a o, H a = some o → (A a → H' a = some o ∧ A' a) ∧ (isMut o = false → H' a = some o)
theorem Ex.refl (A : Addr → Prop) (H : Hp) : Ex A H A H := fun a o h => ⟨fun q => ⟨h, q⟩, fun _ => h⟩
theorem Ex.trans {A B C : Addr → Prop} {H I J : Hp} (e : Ex A H B I) (f : Ex B I C J) : Ex A H C J := fun a o h => ⟨fun q => by
  obtain ⟨h1, q1⟩ := (e a o h).1 q
  exact (f a o h1).1 q1, fun m => (f a o ((e a o h).2 m)).2 m⟩
theorem Ex.of_same {A : Addr → Prop} {H H' : Hp} (s : Same H H') : Ex A H A H' := fun a o h => ⟨fun q => ⟨s a o h, q⟩, fun _ => s a o h⟩
mutual
theorem Rep.ex {C : MC} {A A' : Addr → Prop} {H H' : Hp} (e : Ex A H A' H') : ∀ {v : V} {p : PV}, Rep C A H v p → Rep C A' H' v p
  | _, _, .non => .non
  | _, _, .bl b => .bl b
  | _, _, .int i => .int i
  | _, _, .str x => .str x
  | _, _, .lst h q r => .lst ((e _ _ h).1 q).1 ((e _ _ h).1 q).2 (Reps.ex e r)
  | _, _, .lstF h r => .lstF ((e _ _ h).2 rfl) (Reps.ex e r)
  | _, _, .lstK h r => .lstK h (Reps.ex e r)
  | _, _, .tup h r => .tup ((e _ _ h).2 rfl) (Reps.ex e r)
  | _, _, .tupC h r => .tupC h (Reps.ex e r)
  | _, _, .tupK h r => .tupK h (Reps.ex e r)
  | _, _, .dK h q r => .dK ((e _ _ h).1 q).1 ((e _ _ h).1 q).2 (RepK.ex e r)
  | _, _, .dT h q r => .dT ((e _ _ h).1 q).1 ((e _ _ h).1 q).2 (RepT.ex e r)
  | _, _, .obj h q r => .obj ((e _ _ h).1 q).1 ((e _ _ h).1 q).2 (RepF.ex e r)
theorem Reps.ex {C : MC} {A A' : Addr → Prop} {H H' : Hp} (e : Ex A H A' H') : ∀ {v : List V} {p : List PV}, Reps C A H v p → Reps C A' H' v p
  | _, _, .nil => .nil
  | _, _, .cons h t => .cons (Rep.ex e h) (Reps.ex e t)
theorem RepK.ex {C : MC} {A A' : Addr → Prop} {H H' : Hp} (e : Ex A H A' H') : ∀ {v : List (Key × V)} {p : List (Key × PV)}, RepK C A H v p → RepK C A' H' v p
  | _, _, .nil => .nil
  | _, _, .cons h t => .cons (Rep.ex e h) (RepK.ex e t)
theorem RepT.ex {C : MC} {A A' : Addr → Prop} {H H' : Hp} (e : Ex A H A' H') : ∀ {v : List (List Key × V)} {p : List (List Key × PV)}, RepT C A H v p → RepT C A' H' v p
  | _, _, .nil => .nil
  | _, _, .cons h t => .cons (Rep.ex e h) (RepT.ex e t)
theorem RepF.ex {C : MC} {A A' : Addr → Prop} {H H' : Hp} (e : Ex A H A' H') : ∀ {v : List (Str × V)} {p : List (Str × PV)}, RepF C A H v p → RepF C A' H' v p
  | _, _, .nil => .nil
  | _, _, .cons h t => .cons (Rep.ex e h) (RepF.ex e t)
end
theorem ex_weak {A A' : Addr → Prop} {H : Hp} (h : ∀ a o, H a = some o → A a → A' a) : Ex A H A' H := fun a o e => ⟨fun q => ⟨e, h a o e q⟩, fun _ => e⟩
theorem Reps.length {C : MC} {A : Addr → Prop} {H : Hp} : ∀ {vs : List V} {ps : List PV}, Reps C A H vs ps → vs.length = ps.length
  | _, _, .nil => rfl
  | _, _, .cons _ t => by simp [Reps.length t]
theorem Reps.append {C : MC} {A : Addr → Prop} {H : Hp} : ∀ {vs us : List V} {ps qs : List PV}, Reps C A H vs ps → Reps C A H us qs → Reps C A H (vs ++ us) (ps ++ qs)
  | _, _, _, _, .nil, h => h
  | _, _, _, _, .cons h t, r => .cons h (Reps.append t r)
theorem Reps.get {C : MC} {A : Addr → Prop} {H : Hp} : ∀ {vs : List V} {ps : List PV} {i : Nat} {p : PV}, Reps C A H vs ps → ps[i]? = some p → ∃ v, vs[i]? = some v ∧ Rep C A H v p
  | _, _, _, _, .nil, e => by simp at e
  | _, _, 0, _, .cons h t, e => by simp at e; subst e; exact ⟨_, rfl, h⟩
  | _, _, i + 1, p, .cons h t, e => by
    obtain ⟨v, e1, r⟩ := Reps.get (i := i) (p := p) t (by simpa using e)
    exact ⟨v, by simpa using e1, r⟩
theorem Reps.drop {C : MC} {A : Addr → Prop} {H : Hp} : ∀ {vs : List V} {ps : List PV} (n : Nat), Reps C A H vs ps → Reps C A H (vs.drop n) (ps.drop n)
  | _, _, 0, h => by simpa using h
  | _, _, n + 1, .nil => by simpa using Reps.nil
  | _, _, n + 1, .cons _ t => by simpa using Reps.drop n t
theorem Reps.take {C : MC} {A : Addr → Prop} {H : Hp} : ∀ {vs : List V} {ps : List PV} (n : Nat), Reps C A H vs ps → Reps C A H (vs.take n) (ps.take n)
  | _, _, 0, h => by simpa using Reps.nil
  | _, _, n + 1, .nil => by simpa using Reps.nil
  | _, _, n + 1, .cons h t => by simpa using Reps.cons h (Reps.take n t)
theorem Reps.set {C : MC} {A : Addr → Prop} {H : Hp} {v : V} {p : PV} (r : Rep C A H v p) : ∀ {vs : List V} {ps : List PV} (n : Nat), Reps C A H vs ps → Reps C A H (vs.set n v) (ps.set n p)
  | _, _, _, .nil => .nil
  | _, _, 0, .cons _ t => .cons r t
  | _, _, n + 1, .cons h t => .cons h (Reps.set r n t)
theorem Reps.reverse {C : MC} {A : Addr → Prop} {H : Hp} : ∀ {vs : List V} {ps : List PV}, Reps C A H vs ps → Reps C A H vs.reverse ps.reverse
  | _, _, .nil => .nil
  | _, _, .cons h t => by
    rw [List.reverse_cons, List.reverse_cons]
    exact (Reps.reverse t).append (.cons h .nil)
theorem reps_of {C : MC} {A : Addr → Prop} {H : Hp} {α : Type} (f : α → V) (g : α → PV) (h : ∀ x, Rep C A H (f x) (g x)) : ∀ l : List α, Reps C A H (l.map f) (l.map g)
  | [] => .nil
  | x :: l => .cons (h x) (reps_of f g h l)
theorem RepK.val {C : MC} {A : Addr → Prop} {H : Hp} {k : Key} : ∀ {kv : List (Key × V)} {kvs : List (Key × PV)}, RepK C A H kv kvs → (∃ v p, valV kv k = some v ∧ (kvs.find? fun x => decide (x.1 = k)).map (·.2) = some p ∧ Rep C A H v p) ∨ (valV kv k = none ∧ (kvs.find? fun x => decide (x.1 = k)).map (·.2) = none)
  | _, _, .nil => .inr ⟨rfl, rfl⟩
  | _, _, .cons (k := k') (v := v) (p := p) h t => by
    by_cases e : k' = k
    · subst e
      exact .inl ⟨v, p, valV_pos rfl, by simp, h⟩
    · rw [valV_neg e, List.find?_cons_of_neg (by simpa using e)]
      exact RepK.val t
theorem RepT.val {C : MC} {A : Addr → Prop} {H : Hp} {k : List Key} : ∀ {kv : List (List Key × V)} {kvs : List (List Key × PV)}, RepT C A H kv kvs → (∃ v p, valV kv k = some v ∧ (kvs.find? fun x => decide (x.1 = k)).map (·.2) = some p ∧ Rep C A H v p) ∨ (valV kv k = none ∧ (kvs.find? fun x => decide (x.1 = k)).map (·.2) = none)
  | _, _, .nil => .inr ⟨rfl, rfl⟩
  | _, _, .cons (k := k') (v := v) (p := p) h t => by
    by_cases e : k' = k
    · subst e
      exact .inl ⟨v, p, valV_pos rfl, by simp, h⟩
    · rw [valV_neg e, List.find?_cons_of_neg (by simpa using e)]
      exact RepT.val t
theorem RepF.look {C : MC} {A : Addr → Prop} {H : Hp} {k : Str} {p : PV} : ∀ {f : List (Str × V)} {fs : List (Str × PV)}, RepF C A H f fs → fs.lookup k = some p → ∃ v, f.lookup k = some v ∧ Rep C A H v p
  | _, _, .nil, e => by cases e
  | _, _, .cons (k := k') (v := v) (p := p') h t, e => by
    rw [List.lookup_cons] at e ⊢
    cases q : k == k' with
    | true => rw [q] at e; cases e; exact ⟨v, rfl, h⟩
    | false => rw [q] at e; exact RepF.look t e
def Top (C : MC) (A : Addr → Prop) (H : Hp) (a : Addr) : PV → Prop
  | .lst xs => ∃ vs, H a = some (.lst vs) ∧ Reps C A H vs xs
  | .dK kvs => ∃ kv, H a = some (.dK kv) ∧ RepK C A H kv kvs
  | .dT kvs => ∃ kv, H a = some (.dT kv) ∧ RepT C A H kv kvs
  | .obj c fs => ∃ dx f, H a = some (.ins (C.cl c) dx f) ∧ RepF C A H f fs
  | _ => False
theorem Top.ex {C : MC} {A A' : Addr → Prop} {H H' : Hp} {a : Addr} {p : PV} (e : Ex A H A' H') (h : ∀ o, H a = some o → H' a = some o) (t : Top C A H a p) : Top C A' H' a p := by
  cases p with
  | lst xs => obtain ⟨vs, q, r⟩ := t; exact ⟨vs, h _ q, r.ex e⟩
  | dK kvs => obtain ⟨vs, q, r⟩ := t; exact ⟨vs, h _ q, r.ex e⟩
  | dT kvs => obtain ⟨vs, q, r⟩ := t; exact ⟨vs, h _ q, r.ex e⟩
  | obj c fs => obtain ⟨dx, f, q, r⟩ := t; exact ⟨dx, f, h _ q, r.ex e⟩
  | _ => exact t
theorem Top.live {C : MC} {A : Addr → Prop} {H : Hp} {a : Addr} {p : PV} (t : Top C A H a p) : ∃ o, H a = some o ∧ isMut o = true := by
  cases p with
  | lst xs => obtain ⟨vs, q, r⟩ := t; exact ⟨_, q, rfl⟩
  | dK kvs => obtain ⟨vs, q, r⟩ := t; exact ⟨_, q, rfl⟩
  | dT kvs => obtain ⟨vs, q, r⟩ := t; exact ⟨_, q, rfl⟩
  | obj c fs => obtain ⟨dx, f, q, r⟩ := t; exact ⟨_, q, rfl⟩
  | _ => exact t.elim
theorem Top.rep {C : MC} {A : Addr → Prop} {H : Hp} {a : Addr} {p : PV} (t : Top C A H a p) (h : A a) : Rep C A H (.ref a) p := by
  cases p with
  | lst xs => obtain ⟨vs, q, r⟩ := t; exact .lst q h r
  | dK kvs => obtain ⟨vs, q, r⟩ := t; exact .dK q h r
  | dT kvs => obtain ⟨vs, q, r⟩ := t; exact .dT q h r
  | obj c fs => obtain ⟨dx, f, q, r⟩ := t; exact .obj q h r
  | _ => exact t.elim
def RepB (C : MC) (A : Addr → Prop) (H : Hp) (v : V) (p : PV) : Prop := Rep C A H v p ∨ ∃ a, v = .ref a ∧ Top C A H a p
theorem RepB.ex {C : MC} {A A' : Addr → Prop} {H H' : Hp} {v : V} {p : PV} (e : Ex A H A' H') (s : Same H H') (h : RepB C A H v p) : RepB C A' H' v p := by
  rcases h with h | ⟨a, q, t⟩
  · exact .inl (h.ex e)
  · exact .inr ⟨a, q, t.ex e fun o z => s _ _ z⟩
section
variable {C : MC} {A : Addr → Prop} {H : Hp} {v : V}
theorem sqK {K : PySem.W.Frag} {a : Addr} {vs : List V} (h : SqL K (fun _ => none) a vs) : SqL K H a vs := by
  rcases h with (h | ⟨o, h⟩) | h
  · cases h
  · cases h
  · exact .inr h
theorem sqTK {K : PySem.W.Frag} {a : Addr} {vs : List V} (h : SqT K (fun _ => none) a vs) : SqT K H a vs := by
  rcases h with (h | ⟨o, h⟩) | h
  · cases h
  · cases h
  · exact .inr h
theorem RepB.lst {xs : List PV} (h : RepB C A H v (.lst xs)) : ∃ a vs, v = .ref a ∧ H a = some (.lst vs) ∧ Reps C A H vs xs := by
  rcases h with h | ⟨a, rfl, vs, q, r⟩
  · cases h with
    | lst q _ r => exact ⟨_, _, rfl, q, r⟩
  · exact ⟨a, vs, rfl, q, r⟩
theorem RepB.frz {xs : List PV} (h : RepB C A H v (.frz xs)) : ∃ a vs, v = .ref a ∧ SqL C.K H a vs ∧ Reps C A H vs xs := by
  rcases h with h | ⟨a, rfl, t⟩
  · cases h with
    | lstF q r => exact ⟨_, _, rfl, .inl (.inr ⟨_, q⟩), r⟩
    | lstK q r => exact ⟨_, _, rfl, sqK q, r⟩
  · exact t.elim
def TupR (K : PySem.W.Frag) (H : Hp) (a : Addr) (vs : List V) : Prop := H a = some (.tup vs) ∨ KTup K a vs
theorem TupR.sq {K : PySem.W.Frag} {H : Hp} {a : Addr} {vs : List V} (h : TupR K H a vs) : SqT K H a vs := h.elim (fun q => SqT.of q) Or.inr
theorem TupR.rep {C : MC} {A : Addr → Prop} {H : Hp} {a : Addr} {vs : List V} {xs : List PV} (h : TupR C.K H a vs) (r : Reps C A H vs xs) : Rep C A H (.ref a) (.tup xs) := h.elim (fun q => .tup q r) fun q => .tupC q r
theorem TupR.ex {K : PySem.W.Frag} {A A' : Addr → Prop} {H H' : Hp} {a : Addr} {vs : List V} (h : TupR K H a vs) (e : Ex A H A' H') : TupR K H' a vs := h.imp (fun q => (e _ _ q).2 rfl) id
theorem TupR.up {K : PySem.W.Frag} {H H' : Hp} {a : Addr} {vs : List V} (h : TupR K H a vs) (s : Same H H') : TupR K H' a vs := h.imp (fun q => s _ _ q) id
theorem TupR.key {K : PySem.W.Frag} {H : Hp} {a : Addr} {vs : List V} {ks : List Key} (h : TupR K H a vs) (k : KeyT ks vs) : CKey K H a ks := h.imp (fun q => ⟨vs, q, k⟩) fun q => ⟨vs, q, k⟩
theorem RepB.tup {xs : List PV} (h : RepB C A H v (.tup xs)) : ∃ a vs, v = .ref a ∧ TupR C.K H a vs ∧ Reps C A H vs xs := by
  rcases h with h | ⟨a, rfl, t⟩
  · cases h with
    | tup q r => exact ⟨_, _, rfl, .inl q, r⟩
    | tupC q r => exact ⟨_, _, rfl, .inr q, r⟩
  · exact t.elim
theorem RepB.ktp {xs : List PV} (h : RepB C A H v (.ktp xs)) : ∃ a vs, v = .ref a ∧ SqT C.K H a vs ∧ Reps C A H vs xs := by
  rcases h with h | ⟨a, rfl, t⟩
  · cases h with
    | tupK q r => exact ⟨_, _, rfl, sqTK q, r⟩
  · exact t.elim
theorem RepB.dK {kvs : List (Key × PV)} (h : RepB C A H v (.dK kvs)) : ∃ a kv, v = .ref a ∧ H a = some (.dK kv) ∧ RepK C A H kv kvs := by
  rcases h with h | ⟨a, rfl, vs, q, r⟩
  · cases h with
    | dK q _ r => exact ⟨_, _, rfl, q, r⟩
  · exact ⟨a, vs, rfl, q, r⟩
theorem RepB.dT {kvs : List (List Key × PV)} (h : RepB C A H v (.dT kvs)) : ∃ a kv, v = .ref a ∧ H a = some (.dT kv) ∧ RepT C A H kv kvs := by
  rcases h with h | ⟨a, rfl, vs, q, r⟩
  · cases h with
    | dT q _ r => exact ⟨_, _, rfl, q, r⟩
  · exact ⟨a, vs, rfl, q, r⟩
theorem RepB.obj {c : Nat} {fs : List (Str × PV)} (h : RepB C A H v (.obj c fs)) : ∃ a dx f, v = .ref a ∧ H a = some (.ins (C.cl c) dx f) ∧ RepF C A H f fs := by
  rcases h with h | ⟨a, rfl, dx, vs, q, r⟩
  · cases h with
    | obj q _ r => exact ⟨_, _, _, rfl, q, r⟩
  · exact ⟨a, dx, vs, rfl, q, r⟩
theorem RepB.int {i : Int} (h : RepB C A H v (.int i)) : v = .int i := by
  rcases h with h | ⟨a, rfl, t⟩
  · cases h; rfl
  · exact t.elim
theorem RepB.str {x : Str} (h : RepB C A H v (.str x)) : v = .str x := by
  rcases h with h | ⟨a, rfl, t⟩
  · cases h; rfl
  · exact t.elim
theorem RepB.bl {x : Bool} (h : RepB C A H v (.bl x)) : v = .bl x := by
  rcases h with h | ⟨a, rfl, t⟩
  · cases h; rfl
  · exact t.elim
theorem RepB.non (h : RepB C A H v .non) : v = .non := by
  rcases h with h | ⟨a, rfl, t⟩
  · cases h; rfl
  · exact t.elim
end
structure BX where
  C : MC
  A : Addr → Prop
  H0 : Hp
  fx : Nat → Option V
abbrev Env := List (Option PV)
def Bs (b : BX) (Ow : Addr → Prop) (a : Addr) : Prop := ¬ Ow a ∧ (b.A a ∨ b.H0 a = none)
structure ER (b : BX) (Ow : Addr → Prop) (G : List Nat) (σ : St) (env : Env) (H : Hp) : Prop where
  len : σ.length = env.length
  same : Same b.H0 H
  live : ∀ a, Ow a → ∃ o, H a = some o
  new : ∀ a, Ow a → b.H0 a = none
  val : ∀ i p, env[i]? = some (some p) → i ∉ G → ∃ v, σ[i]? = some (some v) ∧ Rep b.C (Bs b Ow) H v p
  own : ∀ i p, env[i]? = some (some p) → i ∈ G → ∃ a, σ[i]? = some (some (.ref a)) ∧ Ow a ∧ Top b.C (Bs b Ow) H a p
  sep : ∀ i j a p q, env[i]? = some (some p) → i ∈ G → σ[i]? = some (some (.ref a)) → env[j]? = some (some q) → j ∈ G → σ[j]? = some (some (.ref a)) → i = j
  fix : ∀ i v, b.fx i = some v → σ[i]? = some (some v)
inductive Md where | val | own | bor
def Res (b : BX) (Ow : Addr → Prop) (H H' : Hp) (m : Md) (v : V) (p : PV) : Prop := match m with
  | .val => Rep b.C (Bs b Ow) H' v p
  | .own => ∃ a, v = .ref a ∧ H a = none ∧ Top b.C (fun c => Bs b Ow c ∧ c ≠ a) H' a p
  | .bor => RepB b.C (Bs b Ow) H' v p
def tM (b : BX) (G : List Nat) (m : Md) (f : Env → Option PV) : TE := fun σ H Q => ∃ Ow env p, ER b Ow G σ env H ∧ f env = some p ∧ ∀ v H', Same H H' → Res b Ow H H' m v p → Q v H'
def tMT (b : BX) (G : List Nat) (f : Env → Option Bool) : TT := fun σ H Q => ∃ Ow env k, ER b Ow G σ env H ∧ f env = some k ∧ ∀ H', Same H H' → Q k H'
section
variable {b : BX} {Ow : Addr → Prop} {G : List Nat} {σ : St} {env : Env} {H H' : Hp}
theorem ER.up (E : ER b Ow G σ env H) (s : Same H H') : ER b Ow G σ env H' :=
  ⟨E.len, E.same.trans s, fun a h => let ⟨o, e⟩ := E.live a h; ⟨o, s _ _ e⟩, E.new, fun i p h n => let ⟨v, e, r⟩ := E.val i p h n; ⟨v, e, r.ex (.of_same s)⟩,
    fun i p h n => let ⟨a, e, w, t⟩ := E.own i p h n; ⟨a, e, w, t.ex (.of_same s) fun o z => s _ _ z⟩, E.sep, E.fix⟩
theorem ER.fresh (E : ER b Ow G σ env H) {a : Addr} (h : H a = none) : Bs b Ow a :=
  ⟨fun w => (by obtain ⟨o, e⟩ := E.live a w; rw [h] at e; cases e), .inr (E.same.free h)⟩
theorem Res.val {m : Md} {v : V} {p : PV} (E : ER b Ow G σ env H) (hm : m ≠ .bor) (r : Res b Ow H H' m v p) : Res b Ow H H' .val v p := by
  cases m with
  | val => exact r
  | bor => exact absurd rfl hm
  | own =>
    obtain ⟨a, rfl, h, t⟩ := r
    have hw : Ex (fun c => Bs b Ow c ∧ c ≠ a) H' (Bs b Ow) H' := ex_weak fun _ _ _ z => z.1
    exact (t.ex hw fun o z => z).rep (E.fresh h)
theorem Res.bor {m : Md} {v : V} {p : PV} (r : Res b Ow H H' m v p) : Res b Ow H H' .bor v p := by
  cases m with
  | val => exact .inl r
  | bor => exact r
  | own =>
    obtain ⟨a, rfl, h, t⟩ := r
    have hw : Ex (fun c => Bs b Ow c ∧ c ≠ a) H' (Bs b Ow) H' := ex_weak fun _ _ _ z => z.1
    exact .inr ⟨a, rfl, t.ex hw fun o z => z⟩
theorem Res.up {m : Md} {v : V} {p : PV} {H'' : Hp} (r : Res b Ow H H' m v p) (s : Same H' H'') : Res b Ow H H'' m v p := by
  cases m with
  | val => exact Rep.ex (.of_same s) r
  | bor => exact RepB.ex (.of_same s) s r
  | own =>
    obtain ⟨a, e, h, t⟩ := r
    exact ⟨a, e, h, t.ex (.of_same s) fun o z => s _ _ z⟩
theorem Res.down {m : Md} {v : V} {p : PV} {H'' : Hp} (s : Same H H') (r : Res b Ow H' H'' m v p) : Res b Ow H H'' m v p := by
  cases m with
  | val => exact r
  | bor => exact r
  | own =>
    obtain ⟨a, e, h, t⟩ := r
    exact ⟨a, e, s.free h, t⟩
end
theorem PE.imp {X : Cx} {e : Expr} {t u : TE} (h : PE X e t) (i : ∀ σ H Q, u σ H Q → t σ H Q) : PE X e u := fun pins s σ H Q I q => h pins s σ H Q I (i σ H Q q)
theorem PT.imp {X : Cx} {e : Expr} {t u : TT} (h : PT X e t) (i : ∀ σ H Q, u σ H Q → t σ H Q) : PT X e u := fun pins s σ H Q I q => h pins s σ H Q I (i σ H Q q)
theorem PS.imp {X : Cx} {e : Stmt} {t u : TS} (h : PS X e t) (i : ∀ D σ H, u D σ H → t D σ H) : PS X e u := fun pins s σ H D I q => h pins s σ H D I (i D σ H q)
theorem PE.or {X : Cx} {e : Expr} {t u : TE} (h : PE X e t) (h' : PE X e u) : PE X e (fun σ H Q => t σ H Q ∨ u σ H Q) := fun pins s σ H Q I q => q.elim (h pins s σ H Q I) (h' pins s σ H Q I)
theorem OpR.or {X : Cx} {op : Value → Value → Sem Value} {r r' : R2} (h : OpR X op r) (h' : OpR X op r') : OpR X op (fun x y H Q => r x y H Q ∨ r' x y H Q) := fun pins s σ H x y v u Q I rx ry q => q.elim (h pins s σ H x y v u Q I rx ry) (h' pins s σ H x y v u Q I rx ry)
abbrev SE (X : Cx) (b : BX) (G : List Nat) (m : Md) (e : Expr) (f : Env → Option PV) : Prop := PE X e (tM b G m f)
abbrev ST (X : Cx) (b : BX) (G : List Nat) (e : Expr) (f : Env → Option Bool) : Prop := PT X e (tMT b G f)
theorem SE.bor {X : Cx} {b : BX} {G : List Nat} {m : Md} {e : Expr} {f : Env → Option PV} (h : SE X b G m e f) : SE X b G .bor e f :=
  PE.imp h fun σ H Q ⟨Ow, env, p, E, hf, k⟩ => ⟨Ow, env, p, E, hf, fun v H' s r => k v H' s r.bor⟩
theorem SE.val {X : Cx} {b : BX} {G : List Nat} {e : Expr} {f : Env → Option PV} (h : SE X b G .own e f) : SE X b G .val e f :=
  PE.imp h fun σ H Q ⟨Ow, env, p, E, hf, k⟩ => ⟨Ow, env, p, E, hf, fun v H' s r => k v H' s (r.val E (by intro z; cases z))⟩
end MR
namespace MR
open PySem L2
def bC (p : PV) (env : Env) : Option PV := some p
@[simp] theorem bC_ap (p : PV) (env : Env) : bC p env = (some p) := id rfl
def bV (i : Nat) (env : Env) : Option PV := match env[i]? with | some o => o | none => none
@[simp] theorem bV_ap (i : Nat) (env : Env) : bV i env = (match env[i]? with | some o => o | none => none) := id rfl
def b1 (g : PV → Option PV) (f : Env → Option PV) (env : Env) : Option PV := (f env).bind g
@[simp] theorem b1_ap (g : PV → Option PV) (f : Env → Option PV) (env : Env) : b1 g f env = ((f env).bind g) := id rfl
def b2 (g : PV → PV → Option PV) (f h : Env → Option PV) (env : Env) : Option PV := (f env).bind fun x => (h env).bind fun y => g x y
@[simp] theorem b2_ap (g : PV → PV → Option PV) (f h : Env → Option PV) (env : Env) : b2 g f h env = ((f env).bind fun x => (h env).bind fun y => g x y) := id rfl
def b3 (g : PV → PV → PV → Option PV) (f h k : Env → Option PV) (env : Env) : Option PV := (f env).bind fun x => (h env).bind fun y => (k env).bind fun z => g x y z
@[simp] theorem b3_ap (g : PV → PV → PV → Option PV) (f h k : Env → Option PV) (env : Env) : b3 g f h k env = ((f env).bind fun x => (h env).bind fun y => (k env).bind fun z => g x y z) := id rfl
def bAnd (f g : Env → Option PV) (env : Env) : Option PV := (f env).bind fun x => match x with | .bl true => g env | .bl false => some (.bl false) | _ => none
@[simp] theorem bAnd_ap (f g : Env → Option PV) (env : Env) : bAnd f g env = ((f env).bind fun x => match x with | .bl true => g env | .bl false => some (.bl false) | _ => none) := id rfl
def bOr (f g : Env → Option PV) (env : Env) : Option PV := (f env).bind fun x => match x with | .bl true => some (.bl true) | .bl false => g env | _ => none
@[simp] theorem bOr_ap (f g : Env → Option PV) (env : Env) : bOr f g env = ((f env).bind fun x => match x with | .bl true => some (.bl true) | .bl false => g env | _ => none) := id rfl
def bNot (f : Env → Option PV) (env : Env) : Option PV := (f env).bind fun x => match x with | .bl c => some (.bl (!c)) | _ => none
@[simp] theorem bNot_ap (f : Env → Option PV) (env : Env) : bNot f env = ((f env).bind fun x => match x with | .bl c => some (.bl (!c)) | _ => none) := id rfl
def bIf (c : Env → Option Bool) (f g : Env → Option PV) (env : Env) : Option PV := (c env).bind fun x => if x = true then f env else g env
@[simp] theorem bIf_ap (c : Env → Option Bool) (f g : Env → Option PV) (env : Env) : bIf c f g env = ((c env).bind fun x => if x = true then f env else g env) := id rfl
def tV (f : Env → Option PV) (env : Env) : Option Bool := (f env).bind fun x => match x with | .bl c => some c | _ => none
@[simp] theorem tV_ap (f : Env → Option PV) (env : Env) : tV f env = ((f env).bind fun x => match x with | .bl c => some c | _ => none) := id rfl
def tA (f g : Env → Option Bool) (env : Env) : Option Bool := (f env).bind fun x => if x = true then g env else some false
@[simp] theorem tA_ap (f g : Env → Option Bool) (env : Env) : tA f g env = ((f env).bind fun x => if x = true then g env else some false) := id rfl
def tO (f g : Env → Option Bool) (env : Env) : Option Bool := (f env).bind fun x => if x = true then some true else g env
@[simp] theorem tO_ap (f g : Env → Option Bool) (env : Env) : tO f g env = ((f env).bind fun x => if x = true then some true else g env) := id rfl
def tN (f : Env → Option Bool) (env : Env) : Option Bool := (f env).bind fun x => some (!x)
@[simp] theorem tN_ap (f : Env → Option Bool) (env : Env) : tN f env = ((f env).bind fun x => some (!x)) := id rfl
def bNil (env : Env) : Option (List PV) := some []
@[simp] theorem bNil_ap (env : Env) : bNil env = (some []) := id rfl
def bCons (f : Env → Option PV) (g : Env → Option (List PV)) (env : Env) : Option (List PV) := (f env).bind fun x => (g env).bind fun xs => some (x :: xs)
@[simp] theorem bCons_ap (f : Env → Option PV) (g : Env → Option (List PV)) (env : Env) : bCons f g env = ((f env).bind fun x => (g env).bind fun xs => some (x :: xs)) := id rfl
def bLst (g : Env → Option (List PV)) (env : Env) : Option PV := (g env).bind fun xs => if xs.length ≤ 1000000 then some (.lst xs) else none
@[simp] theorem bLst_ap (g : Env → Option (List PV)) (env : Env) : bLst g env = ((g env).bind fun xs => if xs.length ≤ 1000000 then some (.lst xs) else none) := id rfl
def bTup (g : Env → Option (List PV)) (env : Env) : Option PV := (g env).bind fun xs => if xs.length ≤ 1000000 then some (.tup xs) else none
@[simp] theorem bTup_ap (g : Env → Option (List PV)) (env : Env) : bTup g env = ((g env).bind fun xs => if xs.length ≤ 1000000 then some (.tup xs) else none) := id rfl
def bCall (m : List PV → Option PV) (g : Env → Option (List PV)) (env : Env) : Option PV := (g env).bind m
@[simp] theorem bCall_ap (m : List PV → Option PV) (g : Env → Option (List PV)) (env : Env) : bCall m g env = ((g env).bind m) := id rfl
section
variable {b : BX} {G : List Nat} {m : Md} {σ : St} {H : Hp} {Q : VK}
def Op2 (b : BX) (m : Md) (r : R2) (g : PV → PV → Option PV) : Prop := ∀ (Ow : Addr → Prop) (H : Hp) (v1 v2 : V) (p1 p2 p : PV) (Q : VK), (∀ a, H a = none → Bs b Ow a) → RepB b.C (Bs b Ow) H v1 p1 → RepB b.C (Bs b Ow) H v2 p2 → g p1 p2 = some p →
  (∀ v H', Same H H' → Res b Ow H H' m v p → Q v H') → r v1 v2 H Q
theorem tM_op {r : R2} {g : PV → PV → Option PV} {f1 f2 : Env → Option PV} (hr : Op2 b m r g) (h : tM b G m (b2 g f1 f2) σ H Q) : tOp r (tM b G .bor f1) (tM b G .bor f2) σ H Q := by
  obtain ⟨Ow, env, p, E, hf, k⟩ := h
  unfold b2 at hf
  cases h1 : f1 env with
  | none => rw [h1] at hf; cases hf
  | some p1 =>
    rw [h1] at hf
    cases h2 : f2 env with
    | none => rw [h2] at hf; cases hf
    | some p2 =>
      rw [h2] at hf
      exact ⟨Ow, env, p1, E, h1, fun v1 H1 s1 r1 => ⟨Ow, env, p2, E.up s1, h2, fun v2 H2 s2 r2 => hr Ow H2 v1 v2 p1 p2 p Q (fun a => (E.up (s1.trans s2)).fresh) (r1.up s2) r2 hf fun v H' s r => k v H' (s1.trans (s2.trans s)) (r.down (s1.trans s2))⟩⟩
def Op1 (b : BX) (m : Md) (r : V → Hp → VK → Prop) (g : PV → Option PV) : Prop := ∀ (Ow : Addr → Prop) (H : Hp) (v1 : V) (p1 p : PV) (Q : VK), (∀ a, H a = none → Bs b Ow a) → RepB b.C (Bs b Ow) H v1 p1 → g p1 = some p →
  (∀ v H', Same H H' → Res b Ow H H' m v p → Q v H') → r v1 H Q
theorem tM_un {r : V → Hp → VK → Prop} {g : PV → Option PV} {f1 : Env → Option PV} (hr : Op1 b m r g) (h : tM b G m (b1 g f1) σ H Q) : tM b G .bor f1 σ H fun x H1 => r x H1 Q := by
  obtain ⟨Ow, env, p, E, hf, k⟩ := h
  unfold b1 at hf
  cases h1 : f1 env with
  | none => rw [h1] at hf; cases hf
  | some p1 =>
    rw [h1] at hf
    exact ⟨Ow, env, p1, E, h1, fun v1 H1 s1 r1 => hr Ow H1 v1 p1 p Q (fun a => (E.up s1).fresh) r1 hf fun v H' s r => k v H' (s1.trans s) (r.down s1)⟩
end
@[simp] def addV : PV → PV → Option PV
  | .int i, .int j => some (.int (i + j))
  | .str x, .str y => if x.length + y.length ≤ 1000000 then some (.str (x ++ y)) else none
  | .lst xs, .lst ys => if xs.length + ys.length ≤ 1000000 then some (.lst (xs ++ ys)) else none
  | _, _ => none
@[simp] def catV : PV → PV → Option PV
  | .lst xs, .lst ys => if xs.length + ys.length ≤ 1000000 then some (.lst (xs ++ ys)) else none
  | _, _ => none
@[simp] def subV : PV → PV → Option PV
  | .int i, .int j => some (.int (i - j))
  | _, _ => none
noncomputable def smI (i : Int) : Bool := @decide (-18446744073709551616 < i ∧ i < 18446744073709551616) (Classical.propDecidable _)
@[simp] noncomputable def mulV : PV → PV → Option PV
  | .int i, .int j => if (smI i || smI j) = true then some (.int (i * j)) else none
  | _, _ => none
@[simp] def divV : PV → PV → Option PV
  | .int i, .int j => if 0 < j ∧ j < 1073741824 then some (.int (i / j)) else none
  | _, _ => none
@[simp] def modV : PV → PV → Option PV
  | .int i, .int j => if 0 < j then some (.int (i % j)) else none
  | _, _ => none
@[simp] def powV : PV → PV → Option PV
  | .int i, .int j => if 0 ≤ j ∧ j ≤ 1000000 ∧ i.natAbs < 2 ^ 64 then some (.int (i ^ j.toNat)) else none
  | _, _ => none
@[simp] def cmpV (g : Int → Int → Bool) : PV → PV → Option PV
  | .int i, .int j => some (.bl (g i j))
  | _, _ => none
theorem line_le {n : Nat} (h : n ≤ 1000000) : n ≤ sizeLine := Nat.le_of_lt (le_line h)
section
variable {b : BX}
theorem o2_int0 {g : Int → Int → Int} {f : PV → PV → Option PV} (hf : ∀ x y p, f x y = some p → ∃ i j, x = .int i ∧ y = .int j ∧ p = .int (g i j)) : Op2 b .val (rI0 fun i j => .int (g i j)) f := by
  intro Ow H v1 v2 p1 p2 p Q hn r1 r2 e k
  obtain ⟨i, j, rfl, rfl, rfl⟩ := hf _ _ _ e
  rw [r1.int, r2.int]
  exact ⟨i, j, rfl, rfl, k _ H (Same.refl _) (.int _)⟩
theorem o2_cmp {g : Int → Int → Bool} : Op2 b .val (rI0 fun i j => .bl (g i j)) (cmpV g) := by
  intro Ow H v1 v2 p1 p2 p Q hn r1 r2 e k
  unfold cmpV at e
  split at e
  · cases e
    rw [r1.int, r2.int]
    exact ⟨_, _, rfl, rfl, k _ H (Same.refl _) (.bl _)⟩
  · cases e
theorem o2_sub : Op2 b .val (rI0 fun i j => .int (i - j)) subV := o2_int0 fun x y p e => by
  unfold subV at e
  split at e
  · cases e; exact ⟨_, _, rfl, rfl, rfl⟩
  · cases e
theorem o2_mul : Op2 b .val (rI CMul fun i j => .int (i * j)) mulV := by
  intro Ow H v1 v2 p1 p2 p Q hn r1 r2 e k
  unfold mulV at e
  split at e
  · split at e
    · rename_i h
      cases e
      rw [r1.int, r2.int]
      refine ⟨_, _, rfl, rfl, ?_, k _ H (Same.refl _) (.int _)⟩
      simp only [smI, Bool.or_eq_true, decide_eq_true_eq] at h
      exact h
    · cases e
  · cases e
theorem smI_of {i : Int} (h : -18446744073709551616 < i) (h' : i < 18446744073709551616) : smI i = true := @decide_eq_true _ (Classical.propDecidable _) ⟨h, h'⟩
theorem o2_div : Op2 b .val (rI CDiv fun i j => .int (i / j)) divV := by
  intro Ow H v1 v2 p1 p2 p Q hn r1 r2 e k
  unfold divV at e
  split at e
  · split at e
    · rename_i h
      cases e
      rw [r1.int, r2.int]
      exact ⟨_, _, rfl, rfl, h, k _ H (Same.refl _) (.int _)⟩
    · cases e
  · cases e
theorem o2_mod : Op2 b .val (rI (fun _ j => 0 < j) fun i j => .int (i % j)) modV := by
  intro Ow H v1 v2 p1 p2 p Q hn r1 r2 e k
  unfold modV at e
  split at e
  · split at e
    · rename_i h
      cases e
      rw [r1.int, r2.int]
      exact ⟨_, _, rfl, rfl, h, k _ H (Same.refl _) (.int _)⟩
    · cases e
  · cases e
end
theorem res_new {b : BX} {Ow : Addr → Prop} {H : Hp} {a : Addr} {vs : List V} {xs : List PV} (h : H a = none) (r : Reps b.C (Bs b Ow) H vs xs) : Res b Ow H (upd H a (.lst vs)) .own (.ref a) (.lst xs) := by
  refine ⟨a, rfl, h, vs, upd_same, r.ex fun c o e => ?_⟩
  have hc : c ≠ a := ne_of_none e h
  exact ⟨fun q => ⟨by rw [upd_ne hc]; exact e, q, hc⟩, fun _ => by rw [upd_ne hc]; exact e⟩
theorem res_tup {b : BX} {Ow : Addr → Prop} {H H0 : Hp} {a : Addr} {vs : List V} {xs : List PV} (h : H a = none) (r : Reps b.C (Bs b Ow) H vs xs) : Res b Ow H0 (upd H a (.tup vs)) .val (.ref a) (.tup xs) :=
  Rep.tup upd_same (r.ex (.of_same (same_new h _)))
section
variable {b : BX}
theorem o2_add : Op2 b .val (fun x y H Q => (rI0 (fun i j => .int (i + j)) x y H Q ∨ ∃ i j, x = .str i ∧ y = .str j ∧ i.length + j.length ≤ sizeLine ∧ Q (.str (i ++ j)) H) ∨ rCat x y H Q) addV := by
  intro Ow H v1 v2 p1 p2 p Q hn r1 r2 e k
  unfold addV at e
  split at e
  · cases e
    rw [r1.int, r2.int]
    exact .inl (.inl ⟨_, _, rfl, rfl, k _ H (Same.refl _) (.int _)⟩)
  · split at e
    · rename_i h
      cases e
      rw [r1.str, r2.str]
      exact .inl (.inr ⟨_, _, rfl, rfl, line_le h, k _ H (Same.refl _) (.str _)⟩)
    · cases e
  · split at e
    · rename_i h
      cases e
      obtain ⟨a, vs, rfl, ha, ra⟩ := r1.lst
      obtain ⟨c, us, rfl, hc, rc⟩ := r2.lst
      exact .inr ⟨a, c, vs, us, rfl, rfl, ha, hc, line_le (by rw [ra.length, rc.length]; exact h), fun q hq => k _ _ (same_new hq _) (.lst upd_same (hn q hq) ((ra.append rc).ex (.of_same (same_new hq _))))⟩
    · cases e
  · cases e
theorem o2_cat : Op2 b .own rCat catV := by
  intro Ow H v1 v2 p1 p2 p Q hn r1 r2 e k
  unfold catV at e
  split at e
  · split at e
    · rename_i h
      cases e
      obtain ⟨a, vs, rfl, ha, ra⟩ := r1.lst
      obtain ⟨c, us, rfl, hc, rc⟩ := r2.lst
      refine ⟨a, c, vs, us, rfl, rfl, ha, hc, line_le (by rw [ra.length, rc.length]; exact h), fun q hq => k _ _ (same_new hq _) (res_new hq (ra.append rc))⟩
    · cases e
  · cases e
end
section
variable {X : Cx} {b : BX} {G : List Nat} {m : Md} {e e1 e2 : Expr} {f f1 f2 : Env → Option PV} {pos : Pos}
theorem se_int {i j pos} : SE X b G .val (.Constant (.int i) j pos) (bC (.int i)) := PE.imp pe_int fun σ H Q ⟨Ow, env, p, E, hf, k⟩ => by cases hf; exact k _ H (Same.refl _) (.int i)
theorem se_bl {i j pos} : SE X b G .val (.Constant (.bool i) j pos) (bC (.bl i)) := PE.imp pe_bl fun σ H Q ⟨Ow, env, p, E, hf, k⟩ => by cases hf; exact k _ H (Same.refl _) (.bl i)
theorem se_str {i j pos} : SE X b G .val (.Constant (.str i) j pos) (bC (.str i)) := PE.imp pe_str fun σ H Q ⟨Ow, env, p, E, hf, k⟩ => by cases hf; exact k _ H (Same.refl _) (.str i)
theorem se_non {j pos} : SE X b G .val (.Constant .none j pos) (bC .non) := PE.imp pe_non fun σ H Q ⟨Ow, env, p, E, hf, k⟩ => by cases hf; exact k _ H (Same.refl _) .non
theorem bV_some {i : Nat} {env : Env} {p : PV} (h : bV i env = some p) : env[i]? = some (some p) := by
  unfold bV at h
  split at h
  · rename_i o e; rw [e, h]
  · cases h
theorem se_v (i : Nat) {x : Str} {pos : Pos} (hN : X.N[i]? = some x := by rfl) (hv : Vis X.env.scope x := by first | exact Or.inl rfl | exact Or.inr (Or.inl rfl) | exact Or.inr (Or.inr rfl)) (hG : i ∉ G := by decide) (hd : (x == ("__debug__" : Str)) = false := by decide)
    (hcd : (x == ("__classdict__" : Str)) = false := by decide) : SE X b G .val (.Name x pos) (bV i) := PE.imp (pe_var hN hv hd hcd) fun σ H Q ⟨Ow, env, p, E, hf, k⟩ => by
  obtain ⟨v, e, r⟩ := E.val i p (bV_some hf) hG
  exact ⟨v, e, k v H (Same.refl _) r⟩
theorem se_b (i : Nat) {x : Str} {pos : Pos} (hN : X.N[i]? = some x := by rfl) (hv : Vis X.env.scope x := by first | exact Or.inl rfl | exact Or.inr (Or.inl rfl) | exact Or.inr (Or.inr rfl)) (hd : (x == ("__debug__" : Str)) = false := by decide)
    (hcd : (x == ("__classdict__" : Str)) = false := by decide) : SE X b G .bor (.Name x pos) (bV i) := PE.imp (pe_var hN hv hd hcd) fun σ H Q ⟨Ow, env, p, E, hf, k⟩ => by
  by_cases hG : i ∈ G
  · obtain ⟨a, e, _, t⟩ := E.own i p (bV_some hf) hG
    exact ⟨_, e, k _ H (Same.refl _) (.inr ⟨a, rfl, t⟩)⟩
  · obtain ⟨v, e, r⟩ := E.val i p (bV_some hf) hG
    exact ⟨v, e, k v H (Same.refl _) (.inl r)⟩
theorem se_gS {x z : Str} {t : Tok} {pos : Pos} (hm : X.mg x = some (.str z t)) (hg : Gl X x := by rfl) (hd : (x == ("__debug__" : Str)) = false := by decide) : SE X b G .val (.Name x pos) (bC (.str z)) :=
  PE.imp (pe_glob hg hm (v := .str z) ⟨_, rfl⟩ hd) fun σ H Q ⟨Ow, env, p, E, hf, k⟩ => by cases hf; exact k _ H (Same.refl _) (.str z)
theorem se_gI {x : Str} {i : Int} {t : Tok} {pos : Pos} (hm : X.mg x = some (.int i t)) (hg : Gl X x := by rfl) (hd : (x == ("__debug__" : Str)) = false := by decide) : SE X b G .val (.Name x pos) (bC (.int i)) :=
  PE.imp (pe_glob hg hm (v := .int i) ⟨_, rfl⟩ hd) fun σ H Q ⟨Ow, env, p, E, hf, k⟩ => by cases hf; exact k _ H (Same.refl _) (.int i)
theorem se_op {op : Operator} {r : R2} {g : PV → PV → Option PV} (ho : OpR X (binaryOp op) r) (hr : Op2 b m r g) {m1 m2 : Md} (h1 : SE X b G m1 e1 f1) (h2 : SE X b G m2 e2 f2) : SE X b G m (.BinOp e1 op e2 pos) (b2 g f1 f2) :=
  PE.imp (pe_op ho h1.bor h2.bor) fun σ H Q h => tM_op hr h
theorem se_add {m1 m2 : Md} (h1 : SE X b G m1 e1 f1) (h2 : SE X b G m2 e2 f2) : SE X b G .val (.BinOp e1 .Add e2 pos) (b2 addV f1 f2) := se_op (OpR.or (OpR.or op_add op_add_str) op_cat) o2_add h1 h2
theorem se_cat {m1 m2 : Md} (h1 : SE X b G m1 e1 f1) (h2 : SE X b G m2 e2 f2) : SE X b G .own (.BinOp e1 .Add e2 pos) (b2 catV f1 f2) := se_op op_cat o2_cat h1 h2
theorem se_sub {m1 m2 : Md} (h1 : SE X b G m1 e1 f1) (h2 : SE X b G m2 e2 f2) : SE X b G .val (.BinOp e1 .Sub e2 pos) (b2 subV f1 f2) := se_op op_sub o2_sub h1 h2
theorem se_mul {m1 m2 : Md} (h1 : SE X b G m1 e1 f1) (h2 : SE X b G m2 e2 f2) : SE X b G .val (.BinOp e1 .Mult e2 pos) (b2 mulV f1 f2) := se_op op_mul o2_mul h1 h2
theorem se_div {m1 m2 : Md} (h1 : SE X b G m1 e1 f1) (h2 : SE X b G m2 e2 f2) : SE X b G .val (.BinOp e1 .FloorDiv e2 pos) (b2 divV f1 f2) := se_op op_fdiv o2_div h1 h2
theorem se_mod {m1 m2 : Md} (h1 : SE X b G m1 e1 f1) (h2 : SE X b G m2 e2 f2) : SE X b G .val (.BinOp e1 .Mod e2 pos) (b2 modV f1 f2) := se_op op_mod o2_mod h1 h2
end
end MR
namespace MR
open PySem L2
@[simp] def eqS : PV → PV → Option Bool
  | .non, .non => some true
  | .non, .int _ => some false | .int _, .non => some false | .non, .bl _ => some false | .bl _, .non => some false | .non, .str _ => some false | .str _, .non => some false
  | .int i, .int j => some (decide (i = j))
  | .bl i, .bl j => some (decide (i = j))
  | .str i, .str j => some (decide (i = j))
  | .int _, .str _ => some false | .str _, .int _ => some false | .bl _, .str _ => some false | .str _, .bl _ => some false
  | _, _ => none
mutual
def toD : PV → Option PyData
  | .non => some .none
  | .bl b => some (.bool b)
  | .int i => some (.int i)
  | .str x => some (.str x)
  | .lst xs => (toDs xs).map .list
  | .frz xs => (toDs xs).map .list
  | .tup xs => (toDs xs).map .tuple
  | .ktp xs => (toDs xs).map .tuple
  | _ => none
def toDs : List PV → Option (List PyData)
  | [] => some []
  | x :: xs => match toD x, toDs xs with
    | some d, some ds => some (d :: ds)
    | _, _ => none
end
def eqD (x y : PV) : Option Bool := match toD x, toD y with
  | some d, some e => if SeqAt.shaped d = true ∧ SeqAt.shaped e = true then some (PyData.eqv d e) else none
  | _, _ => none
def eqP (x y : PV) : Option Bool := match eqS x y with
  | some k => some k
  | none => eqD x y
def eqQ (x y : PV) : Option PV := (eqP x y).map .bl
@[simp] theorem eqQ_ap (x y : PV) : eqQ x y = ((eqP x y).map .bl) := id rfl
def neQ (x y : PV) : Option PV := (eqP x y).map fun k => .bl (!k)
@[simp] theorem neQ_ap (x y : PV) : neQ x y = ((eqP x y).map fun k => .bl (!k)) := id rfl
mutual
theorem Rep.dt {C : MC} {A : Addr → Prop} {H : Hp} : ∀ {v : V} {p : PV} {d : PyData}, Rep C A H v p → toD p = some d → Dt C.K H v d
  | _, _, _, .non, e => by simp only [toD] at e; cases e; exact .non
  | _, _, _, .bl b, e => by simp only [toD] at e; cases e; exact .bl b
  | _, _, _, .int b, e => by simp only [toD] at e; cases e; exact .int b
  | _, _, _, .str b, e => by simp only [toD] at e; cases e; exact .str b
  | _, _, _, .lst (xs := xs) h _ r, e => by
    simp only [toD] at e
    cases q : toDs xs with
    | none => rw [q] at e; cases e
    | some ds => rw [q] at e; cases e; exact .lst (SqL.of h) (Reps.dt r q)
  | _, _, _, .lstF (xs := xs) h r, e => by
    simp only [toD] at e
    cases q : toDs xs with
    | none => rw [q] at e; cases e
    | some ds => rw [q] at e; cases e; exact .lst (.inl (.inr ⟨_, h⟩)) (Reps.dt r q)
  | _, _, _, .lstK (xs := xs) h r, e => by
    simp only [toD] at e
    cases q : toDs xs with
    | none => rw [q] at e; cases e
    | some ds => rw [q] at e; cases e; exact .lst (sqK h) (Reps.dt r q)
  | _, _, _, .tup (xs := xs) h r, e => by
    simp only [toD] at e
    cases q : toDs xs with
    | none => rw [q] at e; cases e
    | some ds => rw [q] at e; cases e; exact .tup (SqT.of h) (Reps.dt r q)
  | _, _, _, .tupC (xs := xs) h r, e => by
    simp only [toD] at e
    cases q : toDs xs with
    | none => rw [q] at e; cases e
    | some ds => rw [q] at e; cases e; exact .tup (.inr h) (Reps.dt r q)
  | _, _, _, .tupK (xs := xs) h r, e => by
    simp only [toD] at e
    cases q : toDs xs with
    | none => rw [q] at e; cases e
    | some ds => rw [q] at e; cases e; exact .tup (sqTK h) (Reps.dt r q)
  | _, _, _, .dK h _ r, e => by simp only [toD] at e; cases e
  | _, _, _, .dT h _ r, e => by simp only [toD] at e; cases e
  | _, _, _, .obj h _ r, e => by simp only [toD] at e; cases e
theorem Reps.dt {C : MC} {A : Addr → Prop} {H : Hp} : ∀ {v : List V} {p : List PV} {d : List PyData}, Reps C A H v p → toDs p = some d → Dts C.K H v d
  | _, _, _, .nil, e => by simp only [toDs] at e; cases e; exact .nil
  | _, _, _, .cons (p := p) (ps := ps) h t, e => by
    simp only [toDs] at e
    cases q : toD p with
    | none => rw [q] at e; cases e
    | some d =>
      cases q2 : toDs ps with
      | none => rw [q, q2] at e; cases e
      | some ds => rw [q, q2] at e; cases e; exact .cons (Rep.dt h q) (Reps.dt t q2)
end
theorem RepB.dt {C : MC} {A : Addr → Prop} {H : Hp} {v : V} {p : PV} {d : PyData} (h : RepB C A H v p) (e : toD p = some d) : Dt C.K H v d := by
  rcases h with h | ⟨a, rfl, t⟩
  · exact h.dt e
  · cases p with
    | lst xs =>
      obtain ⟨vs, q, r⟩ := t
      exact (Rep.lst (A := fun _ => True) q True.intro (r.ex (ex_weak fun _ _ _ _ => True.intro))).dt e
    | dK kvs => simp only [toD] at e; cases e
    | dT kvs => simp only [toD] at e; cases e
    | obj c fs => simp only [toD] at e; cases e
    | _ => exact t.elim
theorem eqS_scal {C : MC} {A : Addr → Prop} {H : Hp} {v u : V} {p q : PV} {k : Bool} (h : RepB C A H v p) (h' : RepB C A H u q) (e : eqS p q = some k) : scal v u = true ∧ decide (v = u) = k := by
  unfold eqS at e
  split at e <;> first | cases e | skip
  · rw [h.non, h'.non]; exact ⟨rfl, rfl⟩
  · rw [h.non, h'.int]; exact ⟨rfl, rfl⟩
  · rw [h.int, h'.non]; exact ⟨rfl, rfl⟩
  · rw [h.non, h'.bl]; exact ⟨rfl, rfl⟩
  · rw [h.bl, h'.non]; exact ⟨rfl, rfl⟩
  · rw [h.non, h'.str]; exact ⟨rfl, rfl⟩
  · rw [h.str, h'.non]; exact ⟨rfl, rfl⟩
  · rw [h.int, h'.int]; exact ⟨rfl, by simp⟩
  · rw [h.bl, h'.bl]; exact ⟨rfl, by simp⟩
  · rw [h.str, h'.str]; exact ⟨rfl, by simp⟩
  · rw [h.int, h'.str]; exact ⟨rfl, rfl⟩
  · rw [h.str, h'.int]; exact ⟨rfl, rfl⟩
  · rw [h.bl, h'.str]; exact ⟨rfl, rfl⟩
  · rw [h.str, h'.bl]; exact ⟨rfl, rfl⟩
def rEqA (K : PySem.W.Frag) : R2 := fun x y H Q => rEq x y H Q ∨ ∃ d e, Dt K H x d ∧ Dt K H y e ∧ SeqAt.shaped d = true ∧ SeqAt.shaped e = true ∧ Q (.bl (PyData.eqv d e)) H
def rNeA (K : PySem.W.Frag) : R2 := fun x y H Q => rNe x y H Q ∨ ∃ d e, Dt K H x d ∧ Dt K H y e ∧ SeqAt.shaped d = true ∧ SeqAt.shaped e = true ∧ Q (.bl (!PyData.eqv d e)) H
section
variable {b : BX}
theorem o2_eq : Op2 b .val (rEqA b.C.K) eqQ := by
  intro Ow H v1 v2 p1 p2 p Q hn r1 r2 e k
  unfold eqQ eqP at e
  cases q : eqS p1 p2 with
  | some c =>
    rw [q] at e
    cases e
    obtain ⟨h1, h2⟩ := eqS_scal r1 r2 q
    exact .inl ⟨h1, by rw [h2]; exact k _ H (Same.refl _) (.bl c)⟩
  | none =>
    rw [q] at e
    simp only [eqD] at e
    cases q1 : toD p1 with
    | none => rw [q1] at e; cases e
    | some d =>
      cases q2 : toD p2 with
      | none => rw [q1, q2] at e; cases e
      | some d' =>
        rw [q1, q2] at e
        simp only at e
        split at e
        · rename_i hs
          cases e
          exact .inr ⟨d, d', r1.dt q1, r2.dt q2, hs.1, hs.2, k _ H (Same.refl _) (.bl _)⟩
        · cases e
theorem o2_ne : Op2 b .val (rNeA b.C.K) neQ := by
  intro Ow H v1 v2 p1 p2 p Q hn r1 r2 e k
  unfold neQ eqP at e
  cases q : eqS p1 p2 with
  | some c =>
    rw [q] at e
    cases e
    obtain ⟨h1, h2⟩ := eqS_scal r1 r2 q
    exact .inl ⟨h1, by rw [h2]; exact k _ H (Same.refl _) (.bl _)⟩
  | none =>
    rw [q] at e
    simp only [eqD] at e
    cases q1 : toD p1 with
    | none => rw [q1] at e; cases e
    | some d =>
      cases q2 : toD p2 with
      | none => rw [q1, q2] at e; cases e
      | some d' =>
        rw [q1, q2] at e
        simp only at e
        split at e
        · rename_i hs
          cases e
          exact .inr ⟨d, d', r1.dt q1, r2.dt q2, hs.1, hs.2, k _ H (Same.refl _) (.bl _)⟩
        · cases e
end
@[simp] def keyOf : PV → Option Key
  | .int i => some (.inl i)
  | .str x => some (.inr x)
  | _ => none
@[simp] def keysOf : List PV → Option (List Key)
  | [] => some []
  | x :: xs => match keyOf x, keysOf xs with
    | some k, some ks => some (k :: ks)
    | _, _ => none
@[simp] def keysB : List PV → Option (List Key)
  | [.str x, .bl b] => some [.inr x, .inl (if b = true then 1 else 0)]
  | xs => keysOf xs
@[simp] def flatP : PV → Bool
  | .non => true
  | .bl _ => true
  | .int _ => true
  | .str _ => true
  | _ => false
def eqF : PV → PV → Bool
  | .non, .non => true
  | .bl a, .bl b => a == b
  | .bl a, .int b => (if a then 1 else 0) == b
  | .int a, .bl b => a == (if b then 1 else 0)
  | .int a, .int b => a == b
  | .str a, .str b => a == b
  | _, _ => false
def dLook {κ : Type} [DecidableEq κ] (kvs : List (κ × PV)) (k : κ) : Option PV := (kvs.find? fun x => decide (x.1 = k)).map (·.2)
def inD (x : PV) (ys : List PV) : Option Bool := match toD x, toDs ys with
  | some d, some ds => if PyData.canLayAll0 ds = true ∧ d.canLay0 = true ∧ d.depth ≤ 32 then some (ds.any fun y => PyData.eqv y d) else none
  | _, _ => none
theorem inD_some {x : PV} {ys : List PV} {k : Bool} (h : inD x ys = some k) : ∃ d ds, toD x = some d ∧ toDs ys = some ds ∧ PyData.canLayAll0 ds = true ∧ d.canLay0 = true ∧ d.depth ≤ 32 ∧ (ds.any fun y => PyData.eqv y d) = k := by
  unfold inD at h
  split at h
  · rename_i d ds h1 h2
    split at h
    · rename_i hc
      exact ⟨d, ds, h1, h2, hc.1, hc.2.1, hc.2.2, Option.some.inj h⟩
    · cases h
  · cases h
def inP : PV → PV → Option Bool
  | x, .lst ys => if flatP x = true ∧ ys.all flatP = true then some (ys.any fun y => eqF y x) else inD x ys
  | x, .frz ys => if flatP x = true ∧ ys.all flatP = true then some (ys.any fun y => eqF y x) else inD x ys
  | x, .ktp ys => if flatP x = true ∧ ys.all flatP = true then some (ys.any fun y => eqF y x) else inD x ys
  | x, .tup ys => if flatP x = true ∧ ys.all flatP = true then some (ys.any fun y => eqF y x) else inD x ys
  | .str x, .str y => some (!(Builtin.Str.occurrences y x 0 y.length 1).isEmpty)
  | x, .dK kvs => (keyOf x).map fun k => (dLook kvs k).isSome
  | .tup xs, .dT kvs => (keysB xs).map fun k => (dLook kvs k).isSome
  | _, _ => none
theorem Reps.keys {C : MC} {A : Addr → Prop} {H : Hp} : ∀ {vs : List V} {ps : List PV} {ks : List Key}, Reps C A H vs ps → keysOf ps = some ks → vs = ks.map kV
  | _, _, _, .nil, e => by cases e; rfl
  | _, _, _, .cons (p := p) (ps := ps) h t, e => by
    unfold keysOf at e
    cases q : keyOf p with
    | none => rw [q] at e; cases e
    | some k =>
      cases q2 : keysOf ps with
      | none => rw [q, q2] at e; cases e
      | some ks =>
        rw [q, q2] at e
        cases e
        have ih := Reps.keys t q2
        rw [List.map_cons, ih]
        congr 1
        unfold keyOf at q
        split at q <;> cases q <;> cases h <;> rfl
theorem Reps.keysB {C : MC} {A : Addr → Prop} {H : Hp} {vs : List V} {ps : List PV} {ks : List Key} (r : Reps C A H vs ps) (e : keysB ps = some ks) : KeyT ks vs := by
  unfold MR.keysB at e
  split at e
  · cases e
    cases r with
    | cons h1 t => cases t with
      | cons h2 t => cases t; cases h1; cases h2; exact .inr ⟨_, _, rfl, rfl⟩
  · exact .inl (r.keys e)
theorem RepB.key {C : MC} {A : Addr → Prop} {H : Hp} {v : V} {p : PV} {k : Key} (h : RepB C A H v p) (e : keyOf p = some k) : v = kV k := by
  unfold keyOf at e
  split at e
  · cases e; exact h.int
  · cases e; exact h.str
  · cases e
theorem RepB.flat {C : MC} {A : Addr → Prop} {H : Hp} {v : V} {p : PV} (h : RepB C A H v p) (e : flatP p = true) : flatV v = true := by
  unfold flatP at e
  split at e
  · rw [h.non]; rfl
  · rw [h.bl]; rfl
  · rw [h.int]; rfl
  · rw [h.str]; rfl
  · cases e
def fV : PV → V
  | .bl b => .bl b
  | .int i => .int i
  | .str x => .str x
  | _ => .non
theorem RepB.fV {C : MC} {A : Addr → Prop} {H : Hp} {v : V} {p : PV} (h : RepB C A H v p) (e : flatP p = true) : v = fV p := by
  cases p with
  | non => exact h.non
  | bl b => exact h.bl
  | int i => exact h.int
  | str x => exact h.str
  | _ => cases e
theorem eqF_V (p q : PV) (hp : flatP p = true) (hq : flatP q = true) : L2.eqV (fV p) (fV q) = eqF p q := by
  cases p <;> cases q <;> first | rfl | (cases hp; done) | (cases hq; done)
theorem Reps.flat {C : MC} {A : Addr → Prop} {H : Hp} {v : V} {p : PV} (h : RepB C A H v p) (e : flatP p = true) : ∀ {vs : List V} {ps : List PV}, Reps C A H vs ps → ps.all flatP = true → vs.all flatV = true ∧ inV v vs = ps.any fun y => eqF y p
  | _, _, .nil, _ => ⟨rfl, rfl⟩
  | _, _, .cons (v := v') (p := p') (vs := vs) (ps := ps) q t, e' => by
    rw [List.all_cons, Bool.and_eq_true] at e'
    obtain ⟨h1, h2⟩ := Reps.flat h e t e'.2
    have hf : flatV v' = true := RepB.flat (.inl q) e'.1
    refine ⟨by rw [List.all_cons, hf, h1]; rfl, ?_⟩
    unfold inV at h2 ⊢
    rw [List.any_cons, List.any_cons, h2]
    have q1 := h.fV e
    have q2 := RepB.fV (.inl q) e'.1
    rw [q1, q2, eqF_V _ _ e'.1 e]
section
variable {X : Cx}
theorem op_din (hu : X.A.units + 1 < cLine) : OpR X (compareOp .In) (fun x y H Q => ∃ a o, y = .ref a ∧ DGet X.K H a x o ∧ Q (.bl o.isSome) H) := by
  intro pins s σ H x y v u Q I rx ry h
  obtain ⟨a, o, rfl, g, q⟩ := h
  obtain rfl : u = Value.ref a := ry
  exact d_in hu I g rx fun s3 I3 => ⟨.bl o.isSome, H, I3, rfl, q⟩
def rInD (K : PySem.W.Frag) (neg : Bool) : R2 := fun x y H Q => ∃ d ds, (Dt K H y (.list ds) ∨ Dt K H y (.tuple ds)) ∧ Dt K H x d ∧ PyData.canLayAll0 ds = true ∧ d.canLay0 = true ∧ d.depth ≤ 32 ∧ Q (.bl (if neg then !(ds.any fun y => PyData.eqv y d) else ds.any fun y => PyData.eqv y d)) H
theorem op_inD (hu : X.A.units + 64 < cLine) : OpR X (compareOp .In) (rInD X.K false) := by
  intro pins s σ H x y v u Q I rx ry h
  obtain ⟨d, ds, h1, h2, c1, c2, c3, q⟩ := h
  have hm : min (PyData.depthAll ds) d.depth ≤ d.depth := Nat.min_le_right _ _
  obtain ⟨as, ra⟩ := h2.reads I rx
  rcases h1 with h1 | h1
  · obtain ⟨bs, rb⟩ := h1.reads I ry
    exact PySem.SeqAt.in_list_reads rb ra c1 c2 (by omega) ⟨.bl _, H, I, rfl, q⟩
  · obtain ⟨bs, rb⟩ := h1.reads I ry
    exact PySem.SeqAt.in_tuple_reads rb ra c1 c2 (by omega) ⟨.bl _, H, I, rfl, q⟩
theorem op_notInD (hu : X.A.units + 64 < cLine) : OpR X (compareOp .NotIn) (rInD X.K true) := by
  intro pins s σ H x y v u Q I rx ry h
  obtain ⟨d, ds, h1, h2, c1, c2, c3, q⟩ := h
  have hm : min (PyData.depthAll ds) d.depth ≤ d.depth := Nat.min_le_right _ _
  obtain ⟨as, ra⟩ := h2.reads I rx
  rcases h1 with h1 | h1
  · obtain ⟨bs, rb⟩ := h1.reads I ry
    exact PySem.SeqAt.notIn_list_reads rb ra c1 c2 (by omega) ⟨.bl _, H, I, rfl, q⟩
  · obtain ⟨bs, rb⟩ := h1.reads I ry
    exact PySem.SeqAt.notIn_tuple_reads rb ra c1 c2 (by omega) ⟨.bl _, H, I, rfl, q⟩
theorem op_dnotin (hu : X.A.units + 1 < cLine) : OpR X (compareOp .NotIn) (fun x y H Q => ∃ a o, y = .ref a ∧ DGet X.K H a x o ∧ Q (.bl (!o.isSome)) H) := by
  intro pins s σ H x y v u Q I rx ry h
  obtain ⟨a, o, rfl, g, q⟩ := h
  obtain rfl : u = Value.ref a := ry
  exact d_notIn hu I g rx fun s3 I3 => ⟨.bl (!o.isSome), H, I3, rfl, q⟩
end
def rInA (K : PySem.W.Frag) : R2 := fun x y H Q => (rIn K false x y H Q ∨ ∃ i j, x = .str i ∧ y = .str j ∧ Q (.bl (!(Builtin.Str.occurrences j i 0 j.length 1).isEmpty)) H) ∨ (∃ a o, y = .ref a ∧ DGet K H a x o ∧ Q (.bl o.isSome) H) ∨ rInD K false x y H Q
def rNotInA (K : PySem.W.Frag) : R2 := fun x y H Q => (rIn K true x y H Q ∨ ∃ i j, x = .str i ∧ y = .str j ∧ Q (.bl (!(!(Builtin.Str.occurrences j i 0 j.length 1).isEmpty))) H) ∨ (∃ a o, y = .ref a ∧ DGet K H a x o ∧ Q (.bl (!o.isSome)) H) ∨ rInD K true x y H Q
def inQ (x y : PV) : Option PV := (inP x y).map .bl
@[simp] theorem inQ_ap (x y : PV) : inQ x y = ((inP x y).map .bl) := id rfl
def notInQ (x y : PV) : Option PV := (inP x y).map fun k => .bl (!k)
@[simp] theorem notInQ_ap (x y : PV) : notInQ x y = ((inP x y).map fun k => .bl (!k)) := id rfl
theorem in_gen {C : MC} {A : Addr → Prop} {H : Hp} {v1 v2 : V} {p1 p2 : PV} {k : Bool} (r1 : RepB C A H v1 p1) (r2 : RepB C A H v2 p2) (e : inP p1 p2 = some k) :
    (∃ p xs, v2 = .ref p ∧ (SqL C.K H p xs ∨ SqT C.K H p xs) ∧ flatV v1 = true ∧ xs.all flatV = true ∧ inV v1 xs = k) ∨ (∃ i j, v1 = .str i ∧ v2 = .str j ∧ (!(Builtin.Str.occurrences j i 0 j.length 1).isEmpty) = k) ∨ (∃ a o, v2 = .ref a ∧ DGet C.K H a v1 o ∧ o.isSome = k) ∨ ∃ d ds, (Dt C.K H v2 (.list ds) ∨ Dt C.K H v2 (.tuple ds)) ∧ Dt C.K H v1 d ∧ PyData.canLayAll0 ds = true ∧ d.canLay0 = true ∧ d.depth ≤ 32 ∧ (ds.any fun y => PyData.eqv y d) = k := by
  unfold inP at e
  split at e
  · split at e
    · rename_i h
      cases e
      obtain ⟨a, vs, rfl, ha, ra⟩ := r2.lst
      obtain ⟨h1, h2⟩ := Reps.flat r1 h.1 ra h.2
      exact .inl ⟨a, vs, rfl, .inl (SqL.of ha), r1.flat h.1, h1, h2⟩
    · obtain ⟨d, ds, t1, t2, c1, c2, c3, c4⟩ := inD_some e
      exact .inr (.inr (.inr ⟨d, ds, .inl (r2.dt (by simp [toD, t2])), r1.dt t1, c1, c2, c3, c4⟩))
  · split at e
    · rename_i h
      cases e
      obtain ⟨a, vs, rfl, ha, ra⟩ := r2.frz
      obtain ⟨h1, h2⟩ := Reps.flat r1 h.1 ra h.2
      exact .inl ⟨a, vs, rfl, .inl ha, r1.flat h.1, h1, h2⟩
    · obtain ⟨d, ds, t1, t2, c1, c2, c3, c4⟩ := inD_some e
      exact .inr (.inr (.inr ⟨d, ds, .inl (r2.dt (by simp [toD, t2])), r1.dt t1, c1, c2, c3, c4⟩))
  · split at e
    · rename_i h
      cases e
      obtain ⟨a, vs, rfl, ha, ra⟩ := r2.ktp
      obtain ⟨h1, h2⟩ := Reps.flat r1 h.1 ra h.2
      exact .inl ⟨a, vs, rfl, .inr ha, r1.flat h.1, h1, h2⟩
    · obtain ⟨d, ds, t1, t2, c1, c2, c3, c4⟩ := inD_some e
      exact .inr (.inr (.inr ⟨d, ds, .inr (r2.dt (by simp [toD, t2])), r1.dt t1, c1, c2, c3, c4⟩))
  · split at e
    · rename_i h
      cases e
      obtain ⟨a, vs, rfl, ha, ra⟩ := r2.tup
      obtain ⟨h1, h2⟩ := Reps.flat r1 h.1 ra h.2
      exact .inl ⟨a, vs, rfl, .inr ha.sq, r1.flat h.1, h1, h2⟩
    · obtain ⟨d, ds, t1, t2, c1, c2, c3, c4⟩ := inD_some e
      exact .inr (.inr (.inr ⟨d, ds, .inr (r2.dt (by simp [toD, t2])), r1.dt t1, c1, c2, c3, c4⟩))
  · cases e
    exact .inr (.inl ⟨_, _, r1.str, r2.str, rfl⟩)
  · obtain ⟨a, kv, rfl, ha, ra⟩ := r2.dK
    cases q : keyOf p1 with
    | none => rw [q] at e; cases e
    | some ky =>
      rw [q] at e
      cases e
      rw [r1.key q]
      refine .inr (.inr (.inl ⟨a, _, rfl, DGet.k ha, ?_⟩))
      unfold dLook
      dsimp only
      rcases RepK.val (k := ky) ra with ⟨v, p, h1, h2, _⟩ | ⟨h1, h2⟩
      · rw [h1, h2]; rfl
      · rw [h1, h2]; rfl
  · rename_i xs kvs
    obtain ⟨a, kv, rfl, ha, ra⟩ := r2.dT
    obtain ⟨c, vs, rfl, hc, rc⟩ := r1.tup
    cases q : keysB xs with
    | none => rw [q] at e; cases e
    | some ky =>
      rw [q] at e
      cases e
      refine .inr (.inr (.inl ⟨a, _, rfl, DGet.t ha (hc.key (rc.keysB q)), ?_⟩))
      unfold dLook
      dsimp only
      rcases RepT.val (k := ky) ra with ⟨v, p, h1, h2, _⟩ | ⟨h1, h2⟩
      · rw [h1, h2]; rfl
      · rw [h1, h2]; rfl
  · cases e
section
variable {b : BX}
theorem o2_in : Op2 b .val (rInA b.C.K) inQ := by
  intro Ow H v1 v2 p1 p2 p Q hn r1 r2 e k
  unfold inQ at e
  cases q : inP p1 p2 with
  | none => rw [q] at e; cases e
  | some c =>
    rw [q] at e
    cases e
    have fin := k (.bl c) H (Same.refl _) (.bl c)
    rcases in_gen r1 r2 q with ⟨a, xs, rfl, h1, h2, h3, h4⟩ | ⟨i, j, rfl, rfl, h1⟩ | ⟨a, o, rfl, h1, h2⟩ | ⟨d, ds, h1, h2, c1, c2, c3, h4⟩
    · subst h4; exact .inl (.inl ⟨a, xs, rfl, h1, h2, h3, fin⟩)
    · subst h1; exact .inl (.inr ⟨i, j, rfl, rfl, fin⟩)
    · subst h2; exact .inr (.inl ⟨a, o, rfl, h1, fin⟩)
    · subst h4; exact .inr (.inr ⟨d, ds, h1, h2, c1, c2, c3, fin⟩)
theorem o2_notin : Op2 b .val (rNotInA b.C.K) notInQ := by
  intro Ow H v1 v2 p1 p2 p Q hn r1 r2 e k
  unfold notInQ at e
  cases q : inP p1 p2 with
  | none => rw [q] at e; cases e
  | some c =>
    rw [q] at e
    cases e
    have fin := k (.bl (!c)) H (Same.refl _) (.bl _)
    rcases in_gen r1 r2 q with ⟨a, xs, rfl, h1, h2, h3, h4⟩ | ⟨i, j, rfl, rfl, h1⟩ | ⟨a, o, rfl, h1, h2⟩ | ⟨d, ds, h1, h2, c1, c2, c3, h4⟩
    · subst h4; exact .inl (.inl ⟨a, xs, rfl, h1, h2, h3, fin⟩)
    · subst h1; exact .inl (.inr ⟨i, j, rfl, rfl, fin⟩)
    · subst h2; exact .inr (.inl ⟨a, o, rfl, h1, fin⟩)
    · subst h4; exact .inr (.inr ⟨d, ds, h1, h2, c1, c2, c3, fin⟩)
end
@[simp] def nonP : PV → Bool
  | .non => true
  | _ => false
def isN (x y : PV) : Option PV := match y with
  | .non => some (.bl (nonP x))
  | _ => none
@[simp] theorem isN_ap (x y : PV) : isN x y = (match y with
  | .non => some (.bl (nonP x))
  | _ => none) := id rfl
def isNotN (x y : PV) : Option PV := match y with
  | .non => some (.bl (!nonP x))
  | _ => none
@[simp] theorem isNotN_ap (x y : PV) : isNotN x y = (match y with
  | .non => some (.bl (!nonP x))
  | _ => none) := id rfl
theorem RepB.isN {C : MC} {A : Addr → Prop} {H : Hp} {v : V} {p : PV} (h : RepB C A H v p) : decide (v = .non) = nonP p := by
  cases p with
  | non => rw [h.non]; rfl
  | bl b => rw [h.bl]; rfl
  | int b => rw [h.int]; rfl
  | str b => rw [h.str]; rfl
  | lst b => obtain ⟨a, _, rfl, _⟩ := h.lst; rfl
  | frz b => obtain ⟨a, _, rfl, _⟩ := h.frz; rfl
  | tup b => obtain ⟨a, _, rfl, _⟩ := h.tup; rfl
  | ktp b => obtain ⟨a, _, rfl, _⟩ := h.ktp; rfl
  | dK b => obtain ⟨a, _, rfl, _⟩ := h.dK; rfl
  | dT b => obtain ⟨a, _, rfl, _⟩ := h.dT; rfl
  | obj c b => obtain ⟨a, _, _, rfl, _⟩ := h.obj; rfl
section
variable {b : BX}
theorem o2_isN : Op2 b .val (fun x y H Q => y = .non ∧ Q (.bl (decide (x = .non))) H) isN := by
  intro Ow H v1 v2 p1 p2 p Q hn r1 r2 e k
  cases p2 with
  | non =>
    simp only [isN] at e
    cases e
    exact ⟨r2.non, by rw [r1.isN]; exact k _ H (Same.refl _) (.bl _)⟩
  | _ => simp only [isN] at e; cases e
end
section
variable {X : Cx} {b : BX} {G : List Nat} {m : Md} {e e1 e2 e3 : Expr} {f f1 f2 f3 : Env → Option PV} {pos : Pos} {m1 m2 m3 : Md}
structure SC (X : Cx) (b : BX) (G : List Nat) (op : CmpOp) (e1 e2 : Expr) (f : Env → Option PV) : Prop where
  pe : ∀ pos, SE X b G .val (.Compare e1 [op] [e2] pos) f
  pt : ∀ pos, ST X b G (.Compare e1 [op] [e2] pos) (tV f)
theorem sc_of {op : CmpOp} {r : R2} {g : PV → PV → Option PV} (ho : OpR X (compareOp op) r) (hr : Op2 b .val r g) (h1 : SE X b G m1 e1 f1) (h2 : SE X b G m2 e2 f2) (hm : behindInMarks op e2 = false) : SC X b G op e1 e2 (b2 g f1 f2) := by
  refine ⟨fun pos => PE.imp (pe_cmpR ho h1.bor h2.bor hm) fun σ H Q h => tM_op hr h, fun pos => PT.imp (pt_cmpR ho h1.bor h2.bor hm) fun σ H Q h => ?_⟩
  obtain ⟨Ow, env, c, E, hf, k⟩ := h
  unfold tV at hf
  cases q : b2 g f1 f2 env with
  | none => rw [q] at hf; cases hf
  | some p =>
    rw [q] at hf
    refine tM_op (Q := fun x H' => ∃ k, x = .bl k ∧ _) hr ⟨Ow, env, p, E, q, fun v H' s r => ?_⟩
    cases p with
    | bl d =>
      cases hf
      cases r
      exact ⟨_, rfl, k H' s⟩
    | _ => cases hf
theorem sc_eq {j : Nat} (hr : Room j X.A) (h1 : SE X b G m1 e1 f1) (h2 : SE X b G m2 e2 f2) (hK : X.K = b.C.K := by rfl) : SC X b G .Eq e1 e2 (b2 eqQ f1 f2) := sc_of (r := rEqA b.C.K) (by rw [← hK]; exact OpR.or op_eq (op_eqD hr.units)) o2_eq h1 h2 (nomark _)
theorem sc_ne {j : Nat} (hr : Room j X.A) (h1 : SE X b G m1 e1 f1) (h2 : SE X b G m2 e2 f2) (hK : X.K = b.C.K := by rfl) : SC X b G .NotEq e1 e2 (b2 neQ f1 f2) := sc_of (r := rNeA b.C.K) (by rw [← hK]; exact OpR.or op_ne (op_neD hr.units)) o2_ne h1 h2 (nomark _)
theorem sc_gt (h1 : SE X b G m1 e1 f1) (h2 : SE X b G m2 e2 f2) : SC X b G .Gt e1 e2 (b2 (cmpV fun i j => decide (j < i)) f1 f2) := sc_of op_gt o2_cmp h1 h2 (nomark _)
theorem sc_in {j : Nat} (hr : Room j X.A) (h1 : SE X b G m1 e1 f1) (h2 : SE X b G m2 e2 f2) (hm : behindInMarks .In e2 = false := by rfl) (hK : X.K = b.C.K := by rfl) : SC X b G .In e1 e2 (b2 inQ f1 f2) :=
  sc_of (r := rInA b.C.K) (by rw [← hK]; exact OpR.or (OpR.or op_in_seq op_in_str) (OpR.or (op_din (hu_of hr)) (op_inD hr.units))) o2_in h1 h2 hm
theorem sc_notin {j : Nat} (hr : Room j X.A) (h1 : SE X b G m1 e1 f1) (h2 : SE X b G m2 e2 f2) (hm : behindInMarks .NotIn e2 = false := by rfl) (hK : X.K = b.C.K := by rfl) : SC X b G .NotIn e1 e2 (b2 notInQ f1 f2) :=
  sc_of (r := rNotInA b.C.K) (by rw [← hK]; exact OpR.or (OpR.or op_notIn_seq op_notIn_str) (OpR.or (op_dnotin (hu_of hr)) (op_notInD hr.units))) o2_notin h1 h2 hm
theorem sc_is (h1 : SE X b G m1 e1 f1) (h2 : SE X b G m2 e2 f2) : SC X b G .Is e1 e2 (b2 isN f1 f2) := sc_of op_isN o2_isN h1 h2 (nomark _)
theorem se_cmp {op : CmpOp} (h : SC X b G op e1 e2 f) : SE X b G .val (.Compare e1 [op] [e2] pos) f := h.pe pos
theorem st_cmp {op : CmpOp} (h : SC X b G op e1 e2 f) : ST X b G (.Compare e1 [op] [e2] pos) (tV f) := h.pt pos
def bChain (g g' : Int → Int → Bool) (f1 f2 f3 : Env → Option PV) (env : Env) : Option PV := (f1 env).bind fun x => (f2 env).bind fun y => match x, y with
  | .int i, .int j => if g i j = true then (f3 env).bind fun z => cmpV g' y z else some (.bl false)
  | _, _ => none
@[simp] theorem bChain_ap (g g' : Int → Int → Bool) (f1 f2 f3 : Env → Option PV) (env : Env) : bChain g g' f1 f2 f3 env = ((f1 env).bind fun x => (f2 env).bind fun y => match x, y with
  | .int i, .int j => if g i j = true then (f3 env).bind fun z => cmpV g' y z else some (.bl false)
  | _, _ => none) := id rfl
theorem bChain_some {g g' : Int → Int → Bool} {f1 f2 f3 : Env → Option PV} {env : Env} {p : PV} (h : bChain g g' f1 f2 f3 env = some p) :
    ∃ i j, f1 env = some (.int i) ∧ f2 env = some (.int j) ∧ ((g i j = false ∧ p = .bl false) ∨ (g i j = true ∧ ∃ l, f3 env = some (.int l) ∧ p = .bl (g' j l))) := by
  unfold bChain at h
  cases q1 : f1 env with
  | none => rw [q1] at h; cases h
  | some p1 =>
    cases q2 : f2 env with
    | none => rw [q1, q2] at h; cases h
    | some p2 =>
      rw [q1, q2] at h
      simp only [Option.bind_some] at h
      split at h
      · rename_i i j
        refine ⟨i, j, rfl, rfl, ?_⟩
        cases hg : g i j with
        | false =>
          rw [hg] at h
          cases h
          exact .inl ⟨rfl, rfl⟩
        | true =>
          rw [hg] at h
          simp only [if_true] at h
          obtain ⟨p3, q3, h⟩ := Option.bind_eq_some_iff.mp h
          cases p3 with
          | int l =>
            cases h
            exact .inr ⟨rfl, l, q3, rfl⟩
          | _ => cases h
      · cases h
theorem se_chain {op op' : CmpOp} {g g' : Int → Int → Bool} (ho : OpR X (compareOp op) (rI0 fun i j => .bl (g i j))) (ho' : OpR X (compareOp op') (rI0 fun i j => .bl (g' i j))) (h1 : SE X b G m1 e1 f1) (h2 : SE X b G m2 e2 f2) (h3 : SE X b G m3 e3 f3)
    (hm : lastMarks [op, op'] [e2, e3] = false := by with_unfolding_all rfl) : SE X b G .val (.Compare e1 [op, op'] [e2, e3] pos) (bChain g g' f1 f2 f3) :=
  PE.imp (pe_chain ho ho' h1.bor h2.bor h3.bor hm) fun σ H Q ⟨Ow, env, p, E, hf, k⟩ => by
    obtain ⟨i, j, q1, q2, hc⟩ := bChain_some hf
    refine ⟨Ow, env, _, E, q1, fun v1 H1 s1 r1 => ⟨Ow, env, _, E.up s1, q2, fun v2 H2 s2 r2 => ?_⟩⟩
    have r1' : RepB b.C (Bs b Ow) H2 v1 (.int i) := Res.up (m := .bor) r1 s2
    have r2' : RepB b.C (Bs b Ow) H2 v2 (.int j) := r2
    rw [r1'.int, r2'.int]
    refine ⟨i, j, rfl, rfl, g i j, rfl, ?_⟩
    rcases hc with ⟨hc, rfl⟩ | ⟨hc, l, q3, rfl⟩
    · rw [hc]
      simp only [Bool.false_eq_true, if_false]
      exact k _ H2 (s1.trans s2) (.bl false)
    · rw [hc]
      simp only [if_true]
      refine ⟨Ow, env, _, E.up (s1.trans s2), q3, fun v3 H3 s3 r3 => ?_⟩
      have r3' : RepB b.C (Bs b Ow) H3 v3 (.int l) := r3
      rw [r3'.int]
      exact ⟨_, _, rfl, rfl, k _ H3 (s1.trans (s2.trans s3)) (.bl _)⟩
theorem se_one {op} (h : SE X b G m e f) : SE X b G m (.BoolOp op [e] pos) f := pe_one h
theorem se_and {rest : List Expr} (h1 : SE X b G .val e1 f1) (h2 : SE X b G .val (.BoolOp .And (e2 :: rest) pos) f2) : SE X b G .val (.BoolOp .And (e1 :: e2 :: rest) pos) (bAnd f1 f2) :=
  PE.imp (pe_and h1 h2) fun σ H Q ⟨Ow, env, p, E, hf, k⟩ => by
    unfold bAnd at hf
    cases q1 : f1 env with
    | none => rw [q1] at hf; cases hf
    | some p1 =>
      rw [q1] at hf
      refine ⟨Ow, env, p1, E, q1, fun v1 H1 s1 r1 => ?_⟩
      cases p1 with
      | bl c =>
        cases r1
        refine ⟨c, rfl, ?_⟩
        cases c with
        | true => exact ⟨Ow, env, p, E.up s1, hf, fun v H' s r => k v H' (s1.trans s) r⟩
        | false => cases hf; exact k _ H1 s1 (.bl false)
      | _ => cases hf
@[simp] def negV : PV → Option PV
  | .int i => some (.int (-i))
  | _ => none
theorem se_neg (h1 : SE X b G m e1 f1) : SE X b G .val (.UnaryOp .USub e1 pos) (b1 negV f1) :=
  PE.imp (pe_un un_neg h1.bor) fun σ H Q h => tM_un (r := rU fun i => .int (-i)) (fun Ow H v1 p1 p Q hn r1 e k => by
    cases p1 <;> simp only [negV] at e <;> cases e
    exact ⟨_, r1.int, k _ H (Same.refl _) (.int _)⟩) h
theorem st_val (h : SE X b G .val e f) (he : ∀ whole, isTrue e X.env whole = (do let v ← whole; standAt e.pos; holding [v] (truthy v)) := by intro _; rfl) : ST X b G e (tV f) :=
  PT.imp (pt_val h he) fun σ H Q ⟨Ow, env, c, E, hf, k⟩ => by
    unfold tV at hf
    cases q1 : f env with
    | none => rw [q1] at hf; cases hf
    | some p1 =>
      rw [q1] at hf
      refine ⟨Ow, env, p1, E, q1, fun v1 H1 s1 r1 => ?_⟩
      cases p1 with
      | bl d => cases r1; cases hf; exact ⟨_, rfl, k H1 s1⟩
      | _ => cases hf
theorem st_not {g : Env → Option Bool} (h : ST X b G e g) : ST X b G (.UnaryOp .Not e pos) (tN g) :=
  PT.imp (pt_not h) fun σ H Q ⟨Ow, env, c, E, hf, k⟩ => by
    unfold tN at hf
    cases q1 : g env with
    | none => rw [q1] at hf; cases hf
    | some p1 => rw [q1] at hf; cases hf; exact ⟨Ow, env, p1, E, q1, fun H' s => k H' s⟩
abbrev SW (X : Cx) (b : BX) (G : List Nat) (e : Expr) (g : Env → Option Bool) : Prop := PW X e (tMT b G g)
theorem PW.imp {t u : TT} (h : PW X e t) (i : ∀ σ H Q, u σ H Q → t σ H Q) : PW X e u := fun wh pins s σ H Q I q => h wh pins s σ H Q I (i σ H Q q)
variable {g1 g2 : Env → Option Bool}
theorem sw_and1 (h : ST X b G e g1) : SW X b G (.BoolOp .And [e] pos) g1 := pw_and1 h
theorem sw_or1 (h : ST X b G e g1) : SW X b G (.BoolOp .Or [e] pos) g1 := pw_or1 h
theorem sw_and {rest : List Expr} (h1 : ST X b G e1 g1) (h2 : SW X b G (.BoolOp .And (e2 :: rest) pos) g2) : SW X b G (.BoolOp .And (e1 :: e2 :: rest) pos) (tA g1 g2) :=
  PW.imp (pw_and h1 h2) fun σ H Q ⟨Ow, env, c, E, hf, k⟩ => by
    unfold tA at hf
    cases q1 : g1 env with
    | none => rw [q1] at hf; cases hf
    | some p1 =>
      rw [q1] at hf
      refine ⟨Ow, env, p1, E, q1, fun H1 s1 => ?_⟩
      cases p1 with
      | true => exact ⟨Ow, env, c, E.up s1, hf, fun H' s => k H' (s1.trans s)⟩
      | false => cases hf; exact k H1 s1
theorem sw_or {rest : List Expr} (h1 : ST X b G e1 g1) (h2 : SW X b G (.BoolOp .Or (e2 :: rest) pos) g2) : SW X b G (.BoolOp .Or (e1 :: e2 :: rest) pos) (tO g1 g2) :=
  PW.imp (pw_or h1 h2) fun σ H Q ⟨Ow, env, c, E, hf, k⟩ => by
    unfold tO at hf
    cases q1 : g1 env with
    | none => rw [q1] at hf; cases hf
    | some p1 =>
      rw [q1] at hf
      refine ⟨Ow, env, p1, E, q1, fun H1 s1 => ?_⟩
      cases p1 with
      | false => exact ⟨Ow, env, c, E.up s1, hf, fun H' s => k H' (s1.trans s)⟩
      | true => cases hf; exact k H1 s1
theorem SW.st (h : SW X b G e g1) : ST X b G e g1 := h _
end
end MR
namespace MR
open PySem L2
def ArA (b : BX) (Ow : Addr → Prop) (L : Bool) (H : Hp) (a : Addr) : Prop := Bs b Ow a ∨ (L = true ∧ ∃ vs, H a = some (.lst vs))
def tMA (b : BX) (G : List Nat) (L : Bool) (g : Env → Option (List PV)) : TA := fun σ H Q => ∃ Ow env ps, ER b Ow G σ env H ∧ g env = some ps ∧ ∀ vs H', Same H H' → Reps b.C (ArA b Ow L H') H' vs ps → Q vs H'
abbrev SA (X : Cx) (b : BX) (G : List Nat) (L : Bool) (es : List Expr) (g : Env → Option (List PV)) : Prop := PA X es (tMA b G L g)
theorem PA.imp {X : Cx} {es : List Expr} {t u : TA} (h : PA X es t) (i : ∀ σ H Q, u σ H Q → t σ H Q) : PA X es u := fun pos pins s σ H Q I q => h pos pins s σ H Q I (i σ H Q q)
theorem ArA.ex {b : BX} {Ow : Addr → Prop} {L : Bool} {H H' : Hp} (s : Same H H') : Ex (ArA b Ow L H) H (ArA b Ow L H') H' := fun a o h => ⟨fun q => ⟨s _ _ h, q.imp id fun ⟨l, vs, e⟩ => ⟨l, vs, s _ _ e⟩⟩, fun _ => s _ _ h⟩
section
variable {X : Cx} {b : BX} {G : List Nat} {m m1 m2 : Md} {L : Bool} {e e1 e2 : Expr} {es : List Expr} {f f1 f2 : Env → Option PV} {g : Env → Option (List PV)} {pos p : Pos}
theorem sa_nil : SA X b G L [] bNil := PA.imp pa_nil fun σ H Q ⟨Ow, env, ps, E, hg, k⟩ => by cases hg; exact k [] H (Same.refl _) .nil
theorem sa_cons (h1 : SE X b G .val e f) (h2 : SA X b G L es g) (hs : starEach (e :: es) X.env = (false, eval e X.env) :: starEach es X.env := by rfl) : SA X b G L (e :: es) (bCons f g) :=
  PA.imp (pa_cons h1 h2 hs) fun σ H Q ⟨Ow, env, ps, E, hg, k⟩ => by
    unfold bCons at hg
    cases q1 : f env with
    | none => rw [q1] at hg; cases hg
    | some p1 =>
      rw [q1] at hg
      cases q2 : g env with
      | none => rw [q2] at hg; cases hg
      | some ps' =>
        rw [q2] at hg
        cases hg
        exact ⟨Ow, env, p1, E, q1, fun v H1 s1 r1 => ⟨Ow, env, ps', E.up s1, q2, fun vs H2 s2 r2 => k (v :: vs) H2 (s1.trans s2) (.cons (Rep.ex (fun a o h => ⟨fun q => ⟨s2 _ _ h, .inl q⟩, fun _ => s2 _ _ h⟩) r1) r2)⟩⟩
def bL (f : Env → Option PV) (env : Env) : Option PV := (f env).bind fun p => match p with | .lst xs => some (.lst xs) | _ => none
@[simp] theorem bL_ap (f : Env → Option PV) (env : Env) : bL f env = ((f env).bind fun p => match p with | .lst xs => some (.lst xs) | _ => none) := id rfl
theorem arA_f {b : BX} {Ow : Addr → Prop} {H : Hp} {vs : List V} {ps : List PV} (h : Reps b.C (ArA b Ow false H) H vs ps) : Reps b.C (Bs b Ow) H vs ps := h.ex (ex_weak fun a o _ q => q.elim id fun z => by cases z.1)
theorem se_lst (h : SA X b G false es g) : SE X b G .own (.List es pos) (bLst g) := PE.imp (pe_lst h) fun σ H Q ⟨Ow, env, p, E, hf, k⟩ => by
  unfold bLst at hf
  cases q1 : g env with
  | none => rw [q1] at hf; cases hf
  | some ps =>
    rw [q1] at hf
    simp only [Option.bind_some] at hf
    split at hf
    · rename_i hl
      cases hf
      refine ⟨Ow, env, ps, E, q1, fun vs H1 s1 r => ⟨line_le (by rw [r.length]; exact hl), fun q hq => k _ _ (s1.trans (same_new hq _)) (Res.down s1 (res_new hq (arA_f r)))⟩⟩
    · cases hf
theorem se_tup {x1} (h : SA X b G false es g) : SE X b G .val (.Tuple es x1 pos) (bTup g) := PE.imp (pe_tup h) fun σ H Q ⟨Ow, env, p, E, hf, k⟩ => by
  unfold bTup at hf
  cases q1 : g env with
  | none => rw [q1] at hf; cases hf
  | some ps =>
    rw [q1] at hf
    simp only [Option.bind_some] at hf
    split at hf
    · rename_i hl
      cases hf
      refine ⟨Ow, env, ps, E, q1, fun vs H1 s1 r => ⟨line_le (by rw [r.length]; exact hl), fun q hq => k _ _ (s1.trans (same_new hq _)) (res_tup hq (arA_f r))⟩⟩
    · cases hf
@[simp] def ixP : PV → PV → Option PV
  | .lst xs, .int i => atI xs i
  | .frz xs, .int i => atI xs i
  | .tup xs, .int i => atI xs i
  | .ktp xs, .int i => atI xs i
  | .str x, .int i => if x.length ≤ 1000000 then (atI x.cps.toList i).map fun c => .str ⟨#[c]⟩ else none
  | .dK kvs, y => (keyOf y).bind fun k => dLook kvs k
  | .dT kvs, .tup ys => (keysB ys).bind fun k => dLook kvs k
  | _, _ => none
theorem Reps.atI {C : MC} {A : Addr → Prop} {H : Hp} {vs : List V} {ps : List PV} {i : Int} {p : PV} (h : Reps C A H vs ps) (e : atI ps i = some p) : ∃ v, L2.atI vs i = some v ∧ Rep C A H v p := by
  unfold L2.atI at e ⊢
  rw [h.length]
  cases q : ixN ps.length i with
  | none => rw [q] at e; cases e
  | some j => rw [q] at e; exact h.get e
theorem se_ix {j : Nat} (hr : Room j X.A) (h1 : SE X b G m1 e1 f1) (h2 : SE X b G m2 e2 f2) (hs : PlainIx e2 := by intro _ _; rfl) (hs' : NoSl e2 := by intro _ _; rfl) (hK : X.K = b.C.K := by rfl) : SE X b G .val (.Subscript e1 e2 pos) (b2 ixP f1 f2) := by
  refine PE.imp (PE.or (pe_ix (r := rIx b.C.K) (by rw [← hK]; exact ix_seq) h1.bor h2.bor hs) (pe_dget (hu_of hr) h1.bor h2.bor hs')) fun σ H Q h => ?_
  obtain ⟨Ow, env, p, E, hf, k⟩ := h
  unfold b2 at hf
  cases q1 : f1 env with
  | none => rw [q1] at hf; cases hf
  | some p1 =>
    rw [q1] at hf
    cases q2 : f2 env with
    | none => rw [q2] at hf; cases hf
    | some p2 =>
      rw [q2] at hf
      simp only [Option.bind_some] at hf
      have step : ∀ (R : V → V → Hp → VK → Prop), (∀ H2 v1 v2, RepB b.C (Bs b Ow) H2 v1 p1 → RepB b.C (Bs b Ow) H2 v2 p2 → Same H H2 → R v1 v2 H2 Q) → tM b G .bor f1 σ H fun x H1 => tM b G .bor f2 σ H1 fun y H2 => R x y H2 Q := fun R hR =>
        ⟨Ow, env, p1, E, q1, fun v1 H1 s1 r1 => ⟨Ow, env, p2, E.up s1, q2, fun v2 H2 s2 r2 => hR H2 v1 v2 (Res.up (m := .bor) r1 s2) r2 (s1.trans s2)⟩⟩
      unfold ixP at hf
      split at hf
      · refine .inl (step _ fun H2 v1 v2 r1 r2 s => ?_)
        obtain ⟨a, vs, rfl, ha, ra⟩ := r1.lst
        obtain ⟨v, hv, rv⟩ := ra.atI hf
        rw [r2.int]
        exact .inl ⟨a, vs, _, v, rfl, rfl, SqL.of ha, hv, k v H2 s rv⟩
      · refine .inl (step _ fun H2 v1 v2 r1 r2 s => ?_)
        obtain ⟨a, vs, rfl, ha, ra⟩ := r1.frz
        obtain ⟨v, hv, rv⟩ := ra.atI hf
        rw [r2.int]
        exact .inl ⟨a, vs, _, v, rfl, rfl, ha, hv, k v H2 s rv⟩
      · refine .inl (step _ fun H2 v1 v2 r1 r2 s => ?_)
        obtain ⟨a, vs, rfl, ha, ra⟩ := r1.tup
        obtain ⟨v, hv, rv⟩ := ra.atI hf
        rw [r2.int]
        exact .inr (.inl ⟨a, vs, _, v, rfl, rfl, ha.sq, hv, k v H2 s rv⟩)
      · refine .inl (step _ fun H2 v1 v2 r1 r2 s => ?_)
        obtain ⟨a, vs, rfl, ha, ra⟩ := r1.ktp
        obtain ⟨v, hv, rv⟩ := ra.atI hf
        rw [r2.int]
        exact .inr (.inl ⟨a, vs, _, v, rfl, rfl, ha, hv, k v H2 s rv⟩)
      · split at hf
        · rename_i x i hx
          cases q3 : atI x.cps.toList i with
          | none => rw [q3] at hf; cases hf
          | some c =>
            rw [q3] at hf
            cases hf
            refine .inl (step _ fun H2 v1 v2 r1 r2 s => ?_)
            rw [r1.str, r2.int]
            exact .inr (.inr ⟨x, i, c, rfl, rfl, line_le hx, q3, k _ H2 s (.str _)⟩)
        · cases hf
      · rename_i kvs
        cases q3 : keyOf p2 with
        | none => rw [q3] at hf; cases hf
        | some ky =>
          rw [q3] at hf
          simp only [Option.bind_some] at hf
          refine .inr (step (fun x y H2 Q => ∃ a v, x = .ref a ∧ DGet X.K H2 a y (some v) ∧ Q v H2) fun H2 v1 v2 r1 r2 s => ?_)
          obtain ⟨a, kv, rfl, ha, ra⟩ := r1.dK
          rw [r2.key q3]
          unfold dLook at hf
          rcases RepK.val (k := ky) ra with ⟨v, p', h1, h2, rv⟩ | ⟨h1, h2⟩
          · rw [h2] at hf
            cases hf
            exact ⟨a, v, rfl, by rw [← h1]; exact DGet.k ha, k v H2 s rv⟩
          · rw [h2] at hf; cases hf
      · rename_i kvs ys
        cases q3 : keysB ys with
        | none => rw [q3] at hf; cases hf
        | some ky =>
          rw [q3] at hf
          simp only [Option.bind_some] at hf
          refine .inr (step (fun x y H2 Q => ∃ a v, x = .ref a ∧ DGet X.K H2 a y (some v) ∧ Q v H2) fun H2 v1 v2 r1 r2 s => ?_)
          obtain ⟨a, kv, rfl, ha, ra⟩ := r1.dT
          obtain ⟨c, vs, rfl, hc, rc⟩ := r2.tup
          unfold dLook at hf
          rcases RepT.val (k := ky) ra with ⟨v, p', h1, h2, rv⟩ | ⟨h1, h2⟩
          · rw [h2] at hf
            cases hf
            exact ⟨a, v, rfl, by rw [← h1, hK]; exact DGet.t ha (hc.key (rc.keysB q3)), k v H2 s rv⟩
          · rw [h2] at hf; cases hf
      · cases hf
def cutP (xs : List PV) (lo hi : Option Int) : List PV := (xs.drop (HT.sIx xs.length 0 lo)).take (HT.sIx xs.length xs.length hi - HT.sIx xs.length 0 lo)
theorem Reps.cut {C : MC} {A : Addr → Prop} {H : Hp} {vs : List V} {ps : List PV} (h : Reps C A H vs ps) (lo hi : Option Int) : Reps C A H (cutV vs lo hi) (cutP ps lo hi) := by
  unfold cutV cutP
  rw [h.length]
  exact (h.drop _).take _
def oN (env : Env) : Option (Option Int) := some none
@[simp] theorem oN_ap (env : Env) : oN env = (some none) := id rfl
def oS (f : Env → Option PV) (env : Env) : Option (Option Int) := (f env).bind fun p => match p with | .int i => some (some i) | _ => none
@[simp] theorem oS_ap (f : Env → Option PV) (env : Env) : oS f env = ((f env).bind fun p => match p with | .int i => some (some i) | _ => none) := id rfl
def tMO (b : BX) (G : List Nat) (f : Env → Option (Option Int)) : TO := fun σ H Q => ∃ Ow env o, ER b Ow G σ env H ∧ f env = some o ∧ ∀ H', Same H H' → Q o H'
theorem PO.imp {x : Option Expr} {t u : TO} (h : PO X x t) (i : ∀ σ H Q, u σ H Q → t σ H Q) : PO X x u := by
  intro pins s σ H Q I q
  exact h pins s σ H Q I (i σ H Q q)
abbrev SO (X : Cx) (b : BX) (G : List Nat) (e : Option Expr) (f : Env → Option (Option Int)) : Prop := PO X e (tMO b G f)
theorem so_none : SO X b G none oN := PO.imp po_none fun σ H Q ⟨Ow, env, o, E, hf, k⟩ => by cases hf; exact k H (Same.refl _)
theorem so_some (h : SE X b G m e f) : SO X b G (some e) (oS f) := PO.imp (po_some h.bor) fun σ H Q ⟨Ow, env, o, E, hf, k⟩ => by
  unfold oS at hf
  cases q1 : f env with
  | none => rw [q1] at hf; cases hf
  | some p1 =>
    rw [q1] at hf
    refine ⟨Ow, env, p1, E, q1, fun v H1 s1 r1 => ?_⟩
    have r1' : RepB b.C (Bs b Ow) H1 v p1 := r1
    cases p1 <;> simp only [Option.bind_some] at hf <;> cases hf
    exact ⟨_, r1'.int, k H1 s1⟩
def bSl (f : Env → Option PV) (lo hi : Env → Option (Option Int)) (env : Env) : Option PV := (f env).bind fun x => (lo env).bind fun l => (hi env).bind fun h => match x with
  | .lst xs => some (.lst (cutP xs l h))
  | .frz xs => some (.lst (cutP xs l h))
  | .str x => if x.length ≤ 1000000 then some (.str (cutS x l h)) else none
  | _ => none
@[simp] theorem bSl_ap (f : Env → Option PV) (lo hi : Env → Option (Option Int)) (env : Env) : bSl f lo hi env = ((f env).bind fun x => (lo env).bind fun l => (hi env).bind fun h => match x with
  | .lst xs => some (.lst (cutP xs l h))
  | .frz xs => some (.lst (cutP xs l h))
  | .str x => if x.length ≤ 1000000 then some (.str (cutS x l h)) else none
  | _ => none) := id rfl
theorem se_sl {lo hi : Option Expr} {p2 : Pos} {fl fh : Env → Option (Option Int)} (h1 : SE X b G m e f) (hl : SO X b G lo fl) (hh : SO X b G hi fh) (hK : X.K = b.C.K := by rfl) : SE X b G .val (.Subscript e (.Slice lo hi none p2) pos) (bSl f fl fh) := by
  refine PE.imp (pe_slice (r := rSlA b.C.K) (by rw [← hK]; exact sl_any) h1.bor hl hh) fun σ H Q ⟨Ow, env, p, E, hf, k⟩ => ?_
  unfold bSl at hf
  cases q1 : f env with
  | none => rw [q1] at hf; cases hf
  | some p1 =>
    rw [q1] at hf
    cases q2 : fl env with
    | none => rw [q2] at hf; cases hf
    | some l =>
      rw [q2] at hf
      cases q3 : fh env with
      | none => rw [q3] at hf; cases hf
      | some h =>
        rw [q3] at hf
        refine ⟨Ow, env, p1, E, q1, fun v H1 s1 r1 => ⟨Ow, env, l, E.up s1, q2, fun H2 s2 => ⟨Ow, env, h, E.up (s1.trans s2), q3, fun H3 s3 => ?_⟩⟩⟩
        have r1' : RepB b.C (Bs b Ow) H3 v p1 := Res.up (m := .bor) r1 (s2.trans s3)
        cases p1 <;> simp only [Option.bind_some] at hf
        case lst xs =>
          cases hf
          obtain ⟨a, vs, rfl, ha, ra⟩ := r1'.lst
          exact .inl ⟨a, vs, rfl, SqL.of ha, fun q hq => k _ _ (s1.trans (s2.trans (s3.trans (same_new hq _)))) (Res.val (m := .own) E (fun z => nomatch z) (Res.down (s1.trans (s2.trans s3)) (res_new hq (ra.cut l h))))⟩
        case frz xs =>
          cases hf
          obtain ⟨a, vs, rfl, ha, ra⟩ := r1'.frz
          exact .inl ⟨a, vs, rfl, ha, fun q hq => k _ _ (s1.trans (s2.trans (s3.trans (same_new hq _)))) (Res.val (m := .own) E (fun z => nomatch z) (Res.down (s1.trans (s2.trans s3)) (res_new hq (ra.cut l h))))⟩
        case str x =>
          split at hf
          · rename_i hx
            cases hf
            exact .inr ⟨x, r1'.str, line_le hx, k _ _ (s1.trans (s2.trans s3)) (.str _)⟩
          · cases hf
        all_goals cases hf
def bSlO (f : Env → Option PV) (lo hi : Env → Option (Option Int)) (env : Env) : Option PV := (f env).bind fun x => (lo env).bind fun l => (hi env).bind fun h => match x with
  | .lst xs => some (.lst (cutP xs l h))
  | .frz xs => some (.lst (cutP xs l h))
  | _ => none
@[simp] theorem bSlO_ap (f : Env → Option PV) (lo hi : Env → Option (Option Int)) (env : Env) : bSlO f lo hi env = ((f env).bind fun x => (lo env).bind fun l => (hi env).bind fun h => match x with
  | .lst xs => some (.lst (cutP xs l h))
  | .frz xs => some (.lst (cutP xs l h))
  | _ => none) := id rfl
theorem se_blt {id : String} {x : Str} {r : List V → Hp → VK → Prop} {g : PV → Option PV} (hc : CallR X (.builtin id) r) (hr : Op1 b m (fun v H Q => r [v] H Q) g) (hm : X.mg x = none) (hv : bootBuiltins x = some (.builtin id)) (h : SE X b G m1 e f)
    (hg : Gl X x := by rfl) (hn : x ≠ "__name__" := by decide) (hdb : (x == ("__debug__" : Str)) = false := by decide) (he : starEach [e] X.env = (false, eval e X.env) :: starEach [] X.env := by rfl) :
    SE X b G m (.Call (.Name x p) [e] [] pos) (b1 g f) :=
  PE.imp (pe_callB hc hg hm hv (pa_cons h.bor pa_nil he) hn hdb he rfl) fun σ H Q h => tM_un hr h
theorem se_blty {id : String} {x : Str} {r : List V → Hp → VK → Prop} {g : PV → Option PV} (hc : CallR X (.type id) r) (hr : Op1 b m (fun v H Q => r [v] H Q) g) (hm : X.mg x = none) (hv : bootBuiltins x = some (.type id)) (h : SE X b G m1 e f)
    (hg : Gl X x := by rfl) (hn : x ≠ "__name__" := by decide) (hdb : (x == ("__debug__" : Str)) = false := by decide) (he : starEach [e] X.env = (false, eval e X.env) :: starEach [] X.env := by rfl) :
    SE X b G m (.Call (.Name x p) [e] [] pos) (b1 g f) :=
  PE.imp (pe_callTy hc hg hm hv (pa_cons h.bor pa_nil he) hn hdb he rfl) fun σ H Q h => tM_un hr h
@[simp] def lenV : PV → Option PV
  | .lst xs => some (.int xs.length)
  | .frz xs => some (.int xs.length)
  | .tup xs => some (.int xs.length)
  | .ktp xs => some (.int xs.length)
  | .str x => if x.length ≤ 1000000 then some (.int x.length) else none
  | .dK kvs => some (.int kvs.length)
  | _ => none
theorem RepK.length {C : MC} {A : Addr → Prop} {H : Hp} : ∀ {vs : List (Key × V)} {ps : List (Key × PV)}, RepK C A H vs ps → vs.length = ps.length
  | _, _, .nil => rfl
  | _, _, .cons _ t => by simp [RepK.length t]
theorem se_len (hm : X.mg "len" = none) (h : SE X b G m1 e f) (hK : X.K = b.C.K := by rfl) (hg : Gl X "len" := by rfl) (he : starEach [e] X.env = (false, eval e X.env) :: starEach [] X.env := by rfl) : SE X b G .val (.Call (.Name "len" p) [e] [] pos) (b1 lenV f) := by
  refine se_blt (CallR.or (CallR.or call_len_seq call_len_str) call_lenD) (fun Ow H v1 p1 p Q hn r1 e k => ?_) hm PySem.boot_len h hg (by decide) (by decide) he
  rw [hK]
  cases p1 <;> simp only [lenV] at e
  case lst xs => cases e; obtain ⟨a, vs, rfl, ha, ra⟩ := r1.lst; exact .inl (.inl ⟨a, vs, rfl, .inl (SqL.of ha), by rw [ra.length]; exact k _ H (Same.refl _) (.int _)⟩)
  case frz xs => cases e; obtain ⟨a, vs, rfl, ha, ra⟩ := r1.frz; exact .inl (.inl ⟨a, vs, rfl, .inl ha, by rw [ra.length]; exact k _ H (Same.refl _) (.int _)⟩)
  case tup xs => cases e; obtain ⟨a, vs, rfl, ha, ra⟩ := r1.tup; exact .inl (.inl ⟨a, vs, rfl, .inr ha.sq, by rw [ra.length]; exact k _ H (Same.refl _) (.int _)⟩)
  case ktp xs => cases e; obtain ⟨a, vs, rfl, ha, ra⟩ := r1.ktp; exact .inl (.inl ⟨a, vs, rfl, .inr ha, by rw [ra.length]; exact k _ H (Same.refl _) (.int _)⟩)
  case str x =>
    split at e
    · rename_i hx
      cases e
      rw [r1.str]
      exact .inl (.inr ⟨x, rfl, line_le hx, k _ H (Same.refl _) (.int _)⟩)
    · cases e
  case dK kvs => cases e; obtain ⟨a, vs, rfl, ha, ra⟩ := r1.dK; exact .inr ⟨a, vs, rfl, ha, by rw [ra.length]; exact k _ H (Same.refl _) (.int _)⟩
  all_goals cases e
def unKey : Key → PV
  | .inl i => .int i
  | .inr x => .str x
@[simp] def listV : PV → Option PV
  | .lst xs => some (.lst xs)
  | .frz xs => some (.lst xs)
  | .tup xs => some (.lst xs)
  | .ktp xs => some (.lst xs)
  | .dK kvs => some (.lst (kvs.map fun kv => unKey kv.1))
  | _ => none
theorem rep_key {C : MC} {A : Addr → Prop} {H : Hp} (k : Key) : Rep C A H (kV k) (unKey k) := by cases k with | inl i => exact .int i | inr x => exact .str x
theorem RepK.keys {C : MC} {A : Addr → Prop} {H : Hp} : ∀ {vs : List (Key × V)} {ps : List (Key × PV)}, RepK C A H vs ps → Reps C A H (vs.map fun kv => kV kv.1) (ps.map fun kv => unKey kv.1)
  | _, _, .nil => .nil
  | _, _, .cons (k := k) _ t => .cons (rep_key k) (RepK.keys t)
theorem se_list (hm : X.mg "list" = none) (h : SE X b G m1 e f) (hcm : X.calm = true := by rfl) (hK : X.K = b.C.K := by rfl) (hg : Gl X "list" := by rfl) (he : starEach [e] X.env = (false, eval e X.env) :: starEach [] X.env := by rfl) : SE X b G .own (.Call (.Name "list" p) [e] [] pos) (b1 listV f) := by
  refine se_blty (CallR.or call_list_of (call_list_dict hcm)) (fun Ow H v1 p1 p Q hn r1 e k => ?_) hm PyProof.Rows.boot_list h hg (by decide) (by decide) he
  rw [hK]
  cases p1 <;> simp only [listV] at e <;> cases e
  case lst xs => obtain ⟨a, vs, rfl, ha, ra⟩ := r1.lst; exact .inl ⟨a, vs, rfl, .inl (SqL.of ha), fun l hl => k _ _ (same_new hl _) (res_new hl ra)⟩
  case frz xs => obtain ⟨a, vs, rfl, ha, ra⟩ := r1.frz; exact .inl ⟨a, vs, rfl, .inl ha, fun l hl => k _ _ (same_new hl _) (res_new hl ra)⟩
  case tup xs => obtain ⟨a, vs, rfl, ha, ra⟩ := r1.tup; exact .inl ⟨a, vs, rfl, .inr ha.sq, fun l hl => k _ _ (same_new hl _) (res_new hl ra)⟩
  case ktp xs => obtain ⟨a, vs, rfl, ha, ra⟩ := r1.ktp; exact .inl ⟨a, vs, rfl, .inr ha, fun l hl => k _ _ (same_new hl _) (res_new hl ra)⟩
  case dK kvs => obtain ⟨a, vs, rfl, ha, ra⟩ := r1.dK; exact .inr ⟨a, vs, rfl, ha, fun l hl => k _ _ (same_new hl _) (res_new hl ra.keys)⟩
@[simp] def intV : PV → Option PV
  | .int i => some (.int i)
  | .bl k => some (.int (if k then 1 else 0))
  | _ => none
theorem se_int1 (hm : X.mg "int" = none) (h : SE X b G m1 e f) (hg : Gl X "int" := by rfl) (he : starEach [e] X.env = (false, eval e X.env) :: starEach [] X.env := by rfl) : SE X b G .val (.Call (.Name "int" p) [e] [] pos) (b1 intV f) := by
  refine se_blty call_int1 (fun Ow H v1 p1 p Q hn r1 e k => ?_) hm PyProof.Rows.boot_int h hg (by decide) (by decide) he
  cases p1 <;> simp only [intV] at e <;> cases e
  · rw [r1.bl]; exact .inr ⟨_, rfl, k _ H (Same.refl _) (.int _)⟩
  · rw [r1.int]; exact .inl ⟨_, rfl, k _ H (Same.refl _) (.int _)⟩
@[simp] def bools : List PV → Option (List Bool)
  | [] => some []
  | .bl c :: r => (bools r).map (c :: ·)
  | _ :: _ => none
theorem Reps.bools {C : MC} {A : Addr → Prop} {H : Hp} : ∀ {vs : List V} {ps : List PV} {bs : List Bool}, Reps C A H vs ps → bools ps = some bs → vs = bs.map V.bl
  | _, _, _, .nil, e => by cases e; rfl
  | _, _, _, .cons (p := p) (ps := ps) h t, e => by
    cases p <;> simp only [MR.bools] at e <;> first | cases e | skip
    rename_i c
    cases q : MR.bools ps with
    | none => rw [q] at e; cases e
    | some bs => rw [q] at e; cases e; cases h; rw [Reps.bools t q]; rfl
@[simp] def allV : PV → Option PV
  | .lst xs => (bools xs).map fun bs => .bl (bs.all id)
  | _ => none
@[simp] def anyV : PV → Option PV
  | .lst xs => (bools xs).map fun bs => .bl (bs.any id)
  | _ => none
theorem se_all (hm : X.mg "all" = none) (h : SE X b G m1 e f) (hcm : X.calm = true := by rfl) (hg : Gl X "all" := by rfl) (he : starEach [e] X.env = (false, eval e X.env) :: starEach [] X.env := by rfl) : SE X b G .val (.Call (.Name "all" p) [e] [] pos) (b1 allV f) := by
  refine se_blt (call_all hcm) (fun Ow H v1 p1 p Q hn r1 e k => ?_) hm PyProof.Rows.boot_all h hg (by decide) (by decide) he
  cases p1 <;> simp only [allV] at e <;> first | cases e | skip
  rename_i xs
  cases q : bools xs with
  | none => rw [q] at e; cases e
  | some bs =>
    rw [q] at e
    cases e
    obtain ⟨a, vs, rfl, ha, ra⟩ := r1.lst
    have hv := ra.bools q
    subst hv
    exact ⟨a, bs, rfl, SqL.of ha, k _ H (Same.refl _) (.bl _)⟩
@[simp] def strsP : List PV → Option (List Str)
  | [] => some []
  | .str c :: r => (strsP r).map (c :: ·)
  | _ :: _ => none
theorem Reps.strsP {C : MC} {A : Addr → Prop} {H : Hp} : ∀ {vs : List V} {ps : List PV} {bs : List Str}, Reps C A H vs ps → strsP ps = some bs → vs = bs.map V.str
  | _, _, _, .nil, e => by cases e; rfl
  | _, _, _, .cons (p := p) (ps := ps) h t, e => by
    cases p <;> simp only [MR.strsP] at e <;> first | cases e | skip
    rename_i c
    cases q : MR.strsP ps with
    | none => rw [q] at e; cases e
    | some bs => rw [q] at e; cases e; cases h; rw [Reps.strsP t q]; rfl
@[simp] def joinV : PV → PV → Option PV
  | .str z, .lst xs => (strsP xs).bind fun zs => if JoinOk z zs = true then some (.str (Str.join z zs)) else none
  | _, _ => none
@[simp] def splitV : PV → PV → Option PV
  | .str z, .str y => if (y.length == 0) = false ∧ z.length ≤ 1000000 then some (.lst ((Txt.split z y).map .str)) else none
  | _, _ => none
theorem se_sm {id : String} {name : Str} {apos cpos : Pos} {o : Expr} {fo : Env → Option PV} {r : V → List V → Hp → VK → Prop} {g : PV → PV → Option PV} (slot : Slot "str" name id) (hty : typeOf (.builtin id) = pure (.type "method_descriptor")) (pa : PlainAttrs "str") (hm : MtR X id r)
    (hr : Op2 b m (fun x y H Q => (∃ z, x = .str z) → r x [y] H Q) g) (hgs : ∀ x y p, g x y = some p → ∃ z, x = .str z) (ho : SE X b G m1 o fo) (h : SE X b G m2 e f)
    (hbase : attributeBase o name X.env (eval o X.env) = eval o X.env := by rfl)
    (hfew : ((backTo cpos (starEach [e] X.env)).all (fun x => !x.1) && (backToKw cpos (keywordEach [] X.env)).all (fun x => x.1.isSome)
      && decide ([e].length + ([] : List Keyword).length + (if ([] : List Keyword).isEmpty then 0 else 1) < 30)) = true := by rfl)
    (hline : (apos.endLine == cpos.line) = true := by rfl) (hs : starEach [e] X.env = (false, eval e X.env) :: starEach [] X.env := by rfl) :
    SE X b G m (.Call (.Attribute o name apos) [e] [] cpos) (b2 g fo f) := by
  refine PE.imp (pe_bm pa slot hty hm ho.bor (pa_cons h.bor pa_nil hs) hbase hfew hline hs rfl) fun σ H Q h => ?_
  obtain ⟨Ow, env, p, E, hf, k⟩ := h
  unfold b2 at hf
  cases q1 : fo env with
  | none => rw [q1] at hf; cases hf
  | some p1 =>
    rw [q1] at hf
    cases q2 : f env with
    | none => rw [q2] at hf; cases hf
    | some p2 =>
      rw [q2] at hf
      simp only [Option.bind_some] at hf
      obtain ⟨z, rfl⟩ := hgs _ _ _ hf
      refine ⟨Ow, env, _, E, q1, fun v1 H1 s1 r1 => ?_⟩
      have r1' : RepB b.C (Bs b Ow) H1 v1 (.str z) := r1
      have ev := r1'.str
      subst ev
      refine ⟨rfl, Ow, env, p2, E.up s1, q2, fun v2 H2 s2 r2 => ?_⟩
      exact hr Ow H2 _ v2 _ p2 p Q (fun a => (E.up (s1.trans s2)).fresh) (RepB.ex (.of_same s2) s2 r1') r2 hf (fun v H' s r => k v H' (s1.trans (s2.trans s)) (r.down (s1.trans s2))) ⟨z, rfl⟩
theorem o2_join : Op2 b .val (fun x y H Q => (∃ z, x = .str z) → rJoin b.C.K x [y] H Q) joinV := by
  intro Ow H v1 v2 p1 p2 p Q hn r1 r2 e k _
  unfold joinV at e
  split at e
  · rename_i z xs
    cases q : strsP xs with
    | none => rw [q] at e; cases e
    | some zs =>
      rw [q] at e
      simp only [Option.bind_some] at e
      split at e
      · rename_i hj
        cases e
        obtain ⟨a, vs, rfl, ha, ra⟩ := r2.lst
        have hv := ra.strsP q
        subst hv
        exact ⟨z, a, zs, r1.str, rfl, SqL.of ha, hj, k _ H (Same.refl _) (.str _)⟩
      · cases e
  · cases e
theorem o2_split : Op2 b .own (fun x y H Q => (∃ z, x = .str z) → rSplit x [y] H Q) splitV := by
  intro Ow H v1 v2 p1 p2 p Q hn r1 r2 e k _
  unfold splitV at e
  split at e
  · rename_i z y
    split at e
    · rename_i hj
      cases e
      refine ⟨z, y, r1.str, by rw [r2.str], hj.1, hj.2, fun l hl => k _ _ (same_new hl _) (res_new hl (reps_of _ _ (fun x => .str x) _))⟩
    · cases e
  · cases e
theorem se_split {apos cpos : Pos} {o : Expr} {fo : Env → Option PV} (ho : SE X b G m1 o fo) (h : SE X b G m2 e f) (hbase : attributeBase o "split" X.env (eval o X.env) = eval o X.env := by rfl)
    (hfew : ((backTo cpos (starEach [e] X.env)).all (fun x => !x.1) && (backToKw cpos (keywordEach [] X.env)).all (fun x => x.1.isSome)
      && decide ([e].length + ([] : List Keyword).length + (if ([] : List Keyword).isEmpty then 0 else 1) < 30)) = true := by rfl)
    (hline : (apos.endLine == cpos.line) = true := by rfl) (hs : starEach [e] X.env = (false, eval e X.env) :: starEach [] X.env := by rfl) :
    SE X b G .own (.Call (.Attribute o "split" apos) [e] [] cpos) (b2 splitV fo f) :=
  se_sm PySem.F.slot_str_split PySem.F.type_str_split PySem.F.plainAttrs_str mt_split o2_split (fun x y p e => by
    unfold splitV at e
    split at e
    · exact ⟨_, rfl⟩
    · cases e) ho h hbase hfew hline hs
def Ret (C : MC) (A : Addr → Prop) (H : Hp) (ro : Bool) (H' : Hp) (v : V) (p : PV) : Prop := match ro with
  | true => ∃ a, v = .ref a ∧ H a = none ∧ Top C (fun c => (A c ∨ H c = none) ∧ c ≠ a) H' a p
  | false => Rep C (fun c => A c ∨ H c = none) H' v p
def spM (C : MC) (m : List PV → Option PV) (ro : Bool) : Sp := fun vs H Q _ => ∃ A ps p, Reps C A H vs ps ∧ m ps = some p ∧ ∀ v H', Same H H' → Ret C A H ro H' v p → Q v H'
def mdOf : Bool → Md
  | true => .own
  | false => .val
theorem Ret.res {Ow : Addr → Prop} {σ : St} {env : Env} {H H1 H' : Hp} {ro : Bool} {v : V} {q : PV} (E : ER b Ow G σ env H) (s : Same H H1) (r : Ret b.C (Bs b Ow) H1 ro H' v q) : Res b Ow H H' (mdOf ro) v q := by
  cases ro with
  | true =>
    obtain ⟨a, rfl, h, t⟩ := r
    exact ⟨a, rfl, s.free h, t.ex (ex_weak fun c o _ z => ⟨z.1.elim id fun w => (E.up s).fresh w, z.2⟩) fun o z => z⟩
  | false => exact Rep.ex (ex_weak fun c o _ z => z.elim id fun w => (E.up s).fresh w) r
theorem se_call {k j : Nat} {x : Str} {ps : List Str} {mi : List PV → Option PV} {ro : Bool} (c : Cal X.prog X.w X.K X.mg X.base k x ps (spM b.C mi ro)) (hr : Room j X.A) (ha : SA X b G false (e :: es) g) (hle : k ≤ j := by decide) (hg : Gl X x := by rfl)
    (hdb : (x == ("__debug__" : Str)) = false := by decide) (he : starEach (e :: es) X.env = (false, eval e X.env) :: starEach es X.env := by rfl) (hpl : (backTo pos (starEach es X.env)).any (·.1) = false := by rfl) :
    SE X b G (mdOf ro) (.Call (.Name x p) (e :: es) [] pos) (bCall mi g) := by
  refine PE.imp (pe_cal c hr ha hle hg hdb he hpl) fun σ H Q ⟨Ow, env, q, E, hf, kk⟩ => ?_
  unfold bCall at hf
  cases q1 : g env with
  | none => rw [q1] at hf; cases hf
  | some qs =>
    rw [q1] at hf
    refine ⟨Ow, env, qs, E, q1, fun vs H1 s1 r => ?_⟩
    dsimp only
    rw [List.append_nil]
    exact ⟨Bs b Ow, qs, q, arA_f r, hf, fun v H' s' rr => kk v H' (s1.trans s') (Ret.res E s1 rr)⟩
mutual
def noL : PV → Bool
  | .lst _ => false
  | .tup xs => noLs xs
  | .ktp xs => noLs xs
  | .frz xs => noLs xs
  | .dK kvs => noLk kvs
  | .dT kvs => noLt kvs
  | .obj _ fs => noLf fs
  | _ => true
def noLs : List PV → Bool
  | [] => true
  | x :: xs => noL x && noLs xs
def noLk : List (Key × PV) → Bool
  | [] => true
  | x :: xs => noL x.2 && noLk xs
def noLt : List (List Key × PV) → Bool
  | [] => true
  | x :: xs => noL x.2 && noLt xs
def noLf : List (Str × PV) → Bool
  | [] => true
  | x :: xs => noL x.2 && noLf xs
end
def NL (A A' : Addr → Prop) (H : Hp) : Prop := ∀ a o, H a = some o → A a → A' a ∨ ∃ vs, o = .lst vs
mutual
theorem Rep.nl {C : MC} {A A' : Addr → Prop} {H : Hp} (e : NL A A' H) : ∀ {v : V} {p : PV}, Rep C A H v p → noL p = true → Rep C A' H v p
  | _, _, .non, _ => .non
  | _, _, .bl b, _ => .bl b
  | _, _, .int i, _ => .int i
  | _, _, .str x, _ => .str x
  | _, _, .lst h q r, n => by simp only [noL] at n; cases n
  | _, _, .lstF h r, n => .lstF h (Reps.nl e r (by simpa only [noL] using n))
  | _, _, .lstK h r, n => .lstK h (Reps.nl e r (by simpa only [noL] using n))
  | _, _, .tup h r, n => .tup h (Reps.nl e r (by simpa only [noL] using n))
  | _, _, .tupC h r, n => .tupC h (Reps.nl e r (by simpa only [noL] using n))
  | _, _, .tupK h r, n => .tupK h (Reps.nl e r (by simpa only [noL] using n))
  | _, _, .dK h q r, n => .dK h ((e _ _ h q).elim id fun ⟨_, z⟩ => nomatch z) (RepK.nl e r (by simpa only [noL] using n))
  | _, _, .dT h q r, n => .dT h ((e _ _ h q).elim id fun ⟨_, z⟩ => nomatch z) (RepT.nl e r (by simpa only [noL] using n))
  | _, _, .obj h q r, n => .obj h ((e _ _ h q).elim id fun ⟨_, z⟩ => nomatch z) (RepF.nl e r (by simpa only [noL] using n))
theorem Reps.nl {C : MC} {A A' : Addr → Prop} {H : Hp} (e : NL A A' H) : ∀ {v : List V} {p : List PV}, Reps C A H v p → noLs p = true → Reps C A' H v p
  | _, _, .nil, _ => .nil
  | _, _, .cons h t, n => by
    simp only [noLs, Bool.and_eq_true] at n
    exact .cons (Rep.nl e h n.1) (Reps.nl e t n.2)
theorem RepK.nl {C : MC} {A A' : Addr → Prop} {H : Hp} (e : NL A A' H) : ∀ {v : List (Key × V)} {p : List (Key × PV)}, RepK C A H v p → noLk p = true → RepK C A' H v p
  | _, _, .nil, _ => .nil
  | _, _, .cons h t, n => by
    simp only [noLk, Bool.and_eq_true] at n
    exact .cons (Rep.nl e h n.1) (RepK.nl e t n.2)
theorem RepT.nl {C : MC} {A A' : Addr → Prop} {H : Hp} (e : NL A A' H) : ∀ {v : List (List Key × V)} {p : List (List Key × PV)}, RepT C A H v p → noLt p = true → RepT C A' H v p
  | _, _, .nil, _ => .nil
  | _, _, .cons h t, n => by
    simp only [noLt, Bool.and_eq_true] at n
    exact .cons (Rep.nl e h n.1) (RepT.nl e t n.2)
theorem RepF.nl {C : MC} {A A' : Addr → Prop} {H : Hp} (e : NL A A' H) : ∀ {v : List (Str × V)} {p : List (Str × PV)}, RepF C A H v p → noLf p = true → RepF C A' H v p
  | _, _, .nil, _ => .nil
  | _, _, .cons h t, n => by
    simp only [noLf, Bool.and_eq_true] at n
    exact .cons (Rep.nl e h n.1) (RepF.nl e t n.2)
end
def bCallB (mi : List PV → Option PV) (g : Env → Option (List PV)) (env : Env) : Option PV := ((g env).bind mi).bind fun p => if noL p = true then some p else none
@[simp] theorem bCallB_ap (mi : List PV → Option PV) (g : Env → Option (List PV)) (env : Env) : bCallB mi g env = (((g env).bind mi).bind fun p => if noL p = true then some p else none) := id rfl
def bFld (c : Nat) (x : Str) (f : Env → Option PV) (env : Env) : Option PV := (f env).bind fun p => match p with
  | .obj c' fs => if c' = c then fs.lookup x else none
  | _ => none
@[simp] theorem bFld_ap (c : Nat) (x : Str) (f : Env → Option PV) (env : Env) : bFld c x f env = ((f env).bind fun p => match p with
  | .obj c' fs => if c' = c then fs.lookup x else none
  | _ => none) := id rfl
def bMeth (c : Nat) (x : Str) (mi : List PV → Option PV) (f : Env → Option PV) (g : Env → Option (List PV)) (env : Env) : Option PV := (f env).bind fun p => match p with
  | .obj c' fs => if c' = c ∧ fs.lookup x = none then (g env).bind fun ps => mi (p :: ps) else none
  | _ => none
@[simp] theorem bMeth_ap (c : Nat) (x : Str) (mi : List PV → Option PV) (f : Env → Option PV) (g : Env → Option (List PV)) (env : Env) : bMeth c x mi f g env = ((f env).bind fun p => match p with
  | .obj c' fs => if c' = c ∧ fs.lookup x = none then (g env).bind fun ps => mi (p :: ps) else none
  | _ => none) := id rfl
theorem se_callV {k j : Nat} {x : Str} {ps : List Str} {mi : List PV → Option PV} (c : Cal X.prog X.w X.K X.mg X.base k x ps (spM b.C mi false)) (hr : Room j X.A) (ha : SA X b G false (e :: es) g) (hle : k ≤ j := by decide) (hg : Gl X x := by rfl)
    (hdb : (x == ("__debug__" : Str)) = false := by decide) (he : starEach (e :: es) X.env = (false, eval e X.env) :: starEach es X.env := by rfl) (hpl : (backTo pos (starEach es X.env)).any (·.1) = false := by rfl) :
    SE X b G .val (.Call (.Name x p) (e :: es) [] pos) (bCall mi g) := se_call c hr ha hle hg hdb he hpl
end
end MR
namespace MR
open PySem L2
section
variable {b : BX} {Ow : Addr → Prop} {G : List Nat} {σ : St} {env : Env} {H H' : Hp}
theorem ER.set (E : ER b Ow G σ env H) {i : Nat} {v : V} {p : PV} (hi : i ∉ G) (r : Rep b.C (Bs b Ow) H v p) (hx : b.fx i = none) : ER b Ow G (σ.set i (some v)) (env.set i (some p)) H := by
  refine ⟨by rw [List.length_set, List.length_set]; exact E.len, E.same, E.live, E.new, fun j q e n => ?_, fun j q e n => ?_, fun j k a q q' e1 n1 s1 e2 n2 s2 => ?_, fun k w hw => ?_⟩
  · by_cases hj : i = j
    · subst hj
      rw [List.getElem?_set] at e
      split at e
      · split at e
        · rename_i hl
          have := Option.some.inj (Option.some.inj e)
          subst this
          exact ⟨v, by rw [List.getElem?_set_self (by rw [E.len]; exact hl)], r⟩
        · cases e
      · exact absurd rfl ‹_›
    · rw [List.getElem?_set_ne hj] at e ⊢
      exact E.val j q e n
  · have hj : i ≠ j := fun z => hi (z ▸ n)
    rw [List.getElem?_set_ne hj] at e ⊢
    exact E.own j q e n
  · have hj : i ≠ j := fun z => hi (z ▸ n1)
    have hk : i ≠ k := fun z => hi (z ▸ n2)
    rw [List.getElem?_set_ne hj] at e1 s1
    rw [List.getElem?_set_ne hk] at e2 s2
    exact E.sep j k a q q' e1 n1 s1 e2 n2 s2
  · by_cases hk : i = k
    · subst hk; rw [hx] at hw; cases hw
    · rw [List.getElem?_set_ne hk]; exact E.fix k w hw
theorem ER.setO (E : ER b Ow G σ env H) {i : Nat} {a : Addr} {p : PV} {H0 : Hp} {G' : List Nat} (hG : ∀ j, j ∈ G' ↔ (j ∈ G ∨ j = i)) (s0 : Same H0 H) (hn : H0 a = none) (hE0 : ER b Ow G σ env H0) (t : Top b.C (fun c => Bs b Ow c ∧ c ≠ a) H a p) (hx : b.fx i = none) :
    ER b (fun c => Ow c ∨ c = a) G' (σ.set i (some (.ref a))) (env.set i (some p)) H ∧ Ex (Bs b Ow) H0 (Bs b fun c => Ow c ∨ c = a) H := by
  have hx0 : Ex (Bs b Ow) H0 (Bs b fun c => Ow c ∨ c = a) H := fun c o h => ⟨fun q => ⟨s0 _ _ h, fun z => z.elim q.1 (ne_of_none h hn), q.2⟩, fun _ => s0 _ _ h⟩
  have ht : Top b.C (Bs b fun c => Ow c ∨ c = a) H a p := t.ex (ex_weak fun c o _ q => ⟨fun z => z.elim q.1.1 q.2, q.1.2⟩) fun o z => z
  refine ⟨⟨by rw [List.length_set, List.length_set]; exact E.len, E.same, fun c w => w.elim (E.live c) fun z => by subst z; obtain ⟨o, h, _⟩ := t.live; exact ⟨o, h⟩, fun c w => w.elim (E.new c) fun z => by subst z; exact hE0.same.free hn, fun j q e n => ?_, fun j q e n => ?_, fun j k c q q' e1 n1 s1 e2 n2 s2 => ?_, fun k w hw => ?_⟩, hx0⟩
  · have hj : i ≠ j := fun z => n ((hG j).mpr (.inr z.symm))
    rw [List.getElem?_set_ne hj] at e ⊢
    obtain ⟨v, h1, h2⟩ := hE0.val j q e fun z => n ((hG j).mpr (.inl z))
    exact ⟨v, h1, h2.ex hx0⟩
  · by_cases hj : i = j
    · subst hj
      rw [List.getElem?_set] at e
      split at e
      · split at e
        · rename_i hl
          have := Option.some.inj (Option.some.inj e)
          subst this
          exact ⟨a, by rw [List.getElem?_set_self (by rw [E.len]; exact hl)], .inr rfl, ht⟩
        · cases e
      · exact absurd rfl ‹_›
    · rw [List.getElem?_set_ne hj] at e ⊢
      have nG : j ∈ G := ((hG j).mp n).elim id fun z => absurd z.symm hj
      obtain ⟨c, h1, h2, h3⟩ := hE0.own j q e nG
      exact ⟨c, h1, .inl h2, h3.ex hx0 fun o z => s0 _ _ z⟩
  · have old : ∀ {j : Nat} {q : PV}, i ≠ j → j ∈ G' → env[j]? = some (some q) → σ[j]? = some (some (.ref c)) → c ≠ a := fun {j q} hj n e s => by
      have nG : j ∈ G := ((hG j).mp n).elim id fun z => absurd z.symm hj
      obtain ⟨c', h1, h2, h3⟩ := hE0.own j q e nG
      rw [s] at h1
      cases h1
      obtain ⟨o, h4, _⟩ := h3.live
      exact ne_of_none h4 hn
    by_cases hj : i = j
    · by_cases hk : i = k
      · exact hj.symm.trans hk
      · subst hj
        rw [List.getElem?_set_ne hk] at e2 s2
        have hl : i < σ.length := by
          by_cases hl : i < σ.length
          · exact hl
          · rw [List.getElem?_eq_none (by rw [List.length_set]; omega)] at s1; cases s1
        rw [List.getElem?_set_self hl] at s1
        cases s1
        exact absurd rfl (old hk n2 e2 s2)
    · by_cases hk : i = k
      · subst hk
        rw [List.getElem?_set_ne hj] at e1 s1
        have hl : i < σ.length := by
          by_cases hl : i < σ.length
          · exact hl
          · rw [List.getElem?_eq_none (by rw [List.length_set]; omega)] at s2; cases s2
        rw [List.getElem?_set_self hl] at s2
        cases s2
        exact absurd rfl (old hj n1 e1 s1)
      · rw [List.getElem?_set_ne hj] at e1 s1
        rw [List.getElem?_set_ne hk] at e2 s2
        have g1 : j ∈ G := ((hG j).mp n1).elim id fun z => absurd z.symm hj
        have g2 : k ∈ G := ((hG k).mp n2).elim id fun z => absurd z.symm hk
        exact E.sep j k c q q' e1 g1 s1 e2 g2 s2
  · by_cases hk : i = k
    · subst hk; rw [hx] at hw; cases hw
    · rw [List.getElem?_set_ne hk]; exact E.fix k w hw
theorem ER.write (E : ER b Ow G σ env H) {i : Nat} {a : Addr} {p p' : PV} {o' : HO} (hi : i ∈ G) (hσ : σ[i]? = some (some (.ref a))) (he : env[i]? = some (some p)) (hw : Ow a) (t : Top b.C (Bs b Ow) H a p) (t' : Top b.C (Bs b Ow) (upd H a o') a p') :
    ER b Ow G σ (env.set i (some p')) (upd H a o') ∧ Ex (Bs b Ow) H (Bs b Ow) (upd H a o') := by
  obtain ⟨o, ho, hm⟩ := t.live
  have hx : Ex (Bs b Ow) H (Bs b Ow) (upd H a o') := fun c u h => ⟨fun q => ⟨by rw [upd_ne (fun z : c = a => q.1 (z ▸ hw))]; exact h, q⟩, fun m => by
    have hc : c ≠ a := fun z => by subst z; rw [ho] at h; cases h; rw [hm] at m; cases m
    rw [upd_ne hc]; exact h⟩
  refine ⟨⟨by rw [List.length_set]; exact E.len, fun c u h => ?_, fun c w => ?_, E.new, fun j q e n => ?_, fun j q e n => ?_, fun j k c q q' e1 n1 s1 e2 n2 s2 => ?_, E.fix⟩, hx⟩
  · have hc : c ≠ a := ne_of_none h (E.new a hw)
    rw [upd_ne hc]; exact E.same c u h
  · by_cases hc : c = a
    · subst hc; exact ⟨o', upd_same⟩
    · obtain ⟨u, h⟩ := E.live c w
      exact ⟨u, by rw [upd_ne hc]; exact h⟩
  · have hj : i ≠ j := fun z => n (z ▸ hi)
    rw [List.getElem?_set_ne hj] at e
    obtain ⟨v, h1, h2⟩ := E.val j q e n
    exact ⟨v, h1, h2.ex hx⟩
  · by_cases hj : i = j
    · subst hj
      rw [List.getElem?_set] at e
      split at e
      · split at e
        · have := Option.some.inj (Option.some.inj e)
          subst this
          exact ⟨a, hσ, hw, t'⟩
        · cases e
      · exact absurd rfl ‹_›
    · rw [List.getElem?_set_ne hj] at e
      obtain ⟨c, h1, h2, h3⟩ := E.own j q e n
      have hc : c ≠ a := fun z => by subst z; exact hj (E.sep i j c p q he hi hσ e n h1)
      exact ⟨c, h1, h2, h3.ex hx fun u z => by rw [upd_ne hc]; exact z⟩
  · have back : ∀ {j : Nat} {q : PV}, (env.set i (some p'))[j]? = some (some q) → ∃ q, env[j]? = some (some q) := fun {j q} e => by
      by_cases hj : i = j
      · subst hj; exact ⟨p, he⟩
      · rw [List.getElem?_set_ne hj] at e; exact ⟨q, e⟩
    obtain ⟨r1, e1'⟩ := back e1
    obtain ⟨r2, e2'⟩ := back e2
    exact E.sep j k c r1 r2 e1' n1 s1 e2' n2 s2
theorem ER.weak {G' : List Nat} (E : ER b Ow G σ env H) (h : ∀ j, j ∈ G' → j ∈ G) : ∃ Ow', ER b Ow' G' σ env H ∧ Ex (Bs b Ow) H (Bs b Ow') H := by
  refine ⟨fun a => Ow a ∧ ∃ j q, j ∈ G' ∧ env[j]? = some (some q) ∧ σ[j]? = some (some (.ref a)), ?_⟩
  have hx : Ex (Bs b Ow) H (Bs b fun a => Ow a ∧ ∃ j q, j ∈ G' ∧ env[j]? = some (some q) ∧ σ[j]? = some (some (.ref a))) H := ex_weak fun c o _ q => ⟨fun z => q.1 z.1, q.2⟩
  refine ⟨⟨E.len, E.same, fun a w => E.live a w.1, fun a w => E.new a w.1, fun i p e n => ?_, fun i p e n => ?_, fun i j a p q e1 n1 s1 e2 n2 s2 => E.sep i j a p q e1 (h i n1) s1 e2 (h j n2) s2, E.fix⟩, hx⟩
  · by_cases hi : i ∈ G
    · obtain ⟨a, h1, h2, h3⟩ := E.own i p e hi
      refine ⟨_, h1, (h3.ex hx fun o z => z).rep ⟨fun z => ?_, .inr (E.new a h2)⟩⟩
      obtain ⟨_, j, q, hj, e', s'⟩ := z
      have := E.sep i j a p q e hi h1 e' (h j hj) s'
      subst this
      exact n hj
    · obtain ⟨v, h1, h2⟩ := E.val i p e hi
      exact ⟨v, h1, h2.ex hx⟩
  · obtain ⟨a, h1, h2, h3⟩ := E.own i p e (h i n)
    exact ⟨a, h1, ⟨h2, i, p, n, e, h1⟩, h3.ex hx fun o z => z⟩
theorem ER.forget (E : ER b Ow G σ env H) (i : Nat) : ER b Ow G σ (env.set i none) H := by
  have back : ∀ {j : Nat} {q : PV}, (env.set i none)[j]? = some (some q) → env[j]? = some (some q) := fun {j q} e => by
    by_cases hj : i = j
    · subst hj
      rw [List.getElem?_set] at e
      split at e
      · split at e <;> cases e
      · exact absurd rfl ‹_›
    · rw [List.getElem?_set_ne hj] at e; exact e
  exact ⟨by rw [List.length_set]; exact E.len, E.same, E.live, E.new, fun j q e n => E.val j q (back e) n, fun j q e n => E.own j q (back e) n, fun j k a q q' e1 n1 s1 e2 n2 s2 => E.sep j k a q q' (back e1) n1 s1 (back e2) n2 s2, E.fix⟩
@[simp] def clr : List Nat → Env → Env
  | [], env => env
  | i :: r, env => clr r (env.set i none)
theorem ER.clr : ∀ {ds : List Nat} {env : Env}, ER b Ow G σ env H → ER b Ow G σ (clr ds env) H
  | [], _, E => E
  | i :: r, env, E => ER.clr (ds := r) (E.forget i)
end
inductive Out where
  | nx (e : Env) | bk (e : Env) | ct (e : Env) | rt (p : PV)
def Post (b : BX) (Ow : Addr → Prop) (H : Hp) (G L : List Nat) (ro : Bool) (D : Ends) : Out → Prop
  | .nx e => ∀ Ow' σ' H', ER b Ow' G σ' e H' → Ex (Bs b Ow) H (Bs b Ow') H' → D.nx σ' H'
  | .bk e => ∀ Ow' σ' H', ER b Ow' L σ' e H' → Ex (Bs b Ow) H (Bs b Ow') H' → D.bk σ' H'
  | .ct e => ∀ Ow' σ' H', ER b Ow' L σ' e H' → Ex (Bs b Ow) H (Bs b Ow') H' → D.ct σ' H'
  | .rt p => ∀ v H', Same b.H0 H' → Ret b.C b.A b.H0 ro H' v p → D.rt v H'
def tS (b : BX) (G G' L : List Nat) (ro : Bool) (f : Env → Option Out) : TS := fun D σ H => ∃ Ow env out, ER b Ow G σ env H ∧ f env = some out ∧ Post b Ow H G' L ro D out
abbrev SS (X : Cx) (b : BX) (G G' L : List Nat) (ro : Bool) (st : Stmt) (f : Env → Option Out) : Prop := PS X st (tS b G G' L ro f)
abbrev SSs (X : Cx) (b : BX) (G G' L : List Nat) (ro : Bool) (st : List Stmt) (f : Env → Option Out) : Prop := PSs X st (tS b G G' L ro f)
theorem PSs.imp {X : Cx} {e : List Stmt} {t u : TS} (h : PSs X e t) (i : ∀ D σ H, u D σ H → t D σ H) : PSs X e u := fun pins s σ H D I q => h pins s σ H D I (i D σ H q)
theorem PS.or {X : Cx} {e : Stmt} {t u : TS} (h : PS X e t) (h' : PS X e u) : PS X e (fun D σ H => t D σ H ∨ u D σ H) := fun pins s σ H D I q => q.elim (h pins s σ H D I) (h' pins s σ H D I)
theorem Post.ex {b : BX} {Ow Ow1 : Addr → Prop} {H H1 : Hp} {G L : List Nat} {ro : Bool} {D : Ends} {o : Out} (e : Ex (Bs b Ow) H (Bs b Ow1) H1) (h : Post b Ow H G L ro D o) : Post b Ow1 H1 G L ro D o := by
  cases o with
  | nx e' => exact fun Ow' σ' H' E x => h Ow' σ' H' E (e.trans x)
  | bk e' => exact fun Ow' σ' H' E x => h Ow' σ' H' E (e.trans x)
  | ct e' => exact fun Ow' σ' H' E x => h Ow' σ' H' E (e.trans x)
  | rt p => exact h
def sNx (env : Env) : Option Out := some (.nx env)
@[simp] theorem sNx_ap (env : Env) : sNx env = (some (.nx env)) := id rfl
def sBk (env : Env) : Option Out := some (.bk env)
@[simp] theorem sBk_ap (env : Env) : sBk env = (some (.bk env)) := id rfl
def sCt (env : Env) : Option Out := some (.ct env)
@[simp] theorem sCt_ap (env : Env) : sCt env = (some (.ct env)) := id rfl
def sNo (env : Env) : Option Out := none
@[simp] theorem sNo_ap (env : Env) : sNo env = (none) := id rfl
def sSeq (f g : Env → Option Out) (env : Env) : Option Out := (f env).bind fun o => match o with | .nx e => g e | o => some o
@[simp] theorem sSeq_ap (f g : Env → Option Out) (env : Env) : sSeq f g env = ((f env).bind fun o => match o with | .nx e => g e | o => some o) := id rfl
def sSet (i : Nat) (f : Env → Option PV) (env : Env) : Option Out := (f env).bind fun p => some (.nx (env.set i (some p)))
@[simp] theorem sSet_ap (i : Nat) (f : Env → Option PV) (env : Env) : sSet i f env = ((f env).bind fun p => some (.nx (env.set i (some p)))) := id rfl
def sRet (f : Env → Option PV) (env : Env) : Option Out := (f env).bind fun p => some (.rt p)
@[simp] theorem sRet_ap (f : Env → Option PV) (env : Env) : sRet f env = ((f env).bind fun p => some (.rt p)) := id rfl
def sIf (c : Env → Option Bool) (f g : Env → Option Out) (env : Env) : Option Out := (c env).bind fun k => if k = true then f env else g env
@[simp] theorem sIf_ap (c : Env → Option Bool) (f g : Env → Option Out) (env : Env) : sIf c f g env = ((c env).bind fun k => if k = true then f env else g env) := id rfl
def sDrop (f : Env → Option PV) (env : Env) : Option Out := (f env).bind fun _ => some (.nx env)
@[simp] theorem sDrop_ap (f : Env → Option PV) (env : Env) : sDrop f env = ((f env).bind fun _ => some (.nx env)) := id rfl
def sMut1 (g : PV → PV → Option PV) (i : Nat) (f : Env → Option PV) (env : Env) : Option Out := (bV i env).bind fun x => (f env).bind fun p => (g x p).bind fun y => some (.nx (env.set i (some y)))
@[simp] theorem sMut1_ap (g : PV → PV → Option PV) (i : Nat) (f : Env → Option PV) (env : Env) : sMut1 g i f env = ((bV i env).bind fun x => (f env).bind fun p => (g x p).bind fun y => some (.nx (env.set i (some y)))) := id rfl
def sMut0 (g : PV → Option PV) (i : Nat) (env : Env) : Option Out := (bV i env).bind fun x => (g x).bind fun y => some (.nx (env.set i (some y)))
@[simp] theorem sMut0_ap (g : PV → Option PV) (i : Nat) (env : Env) : sMut0 g i env = ((bV i env).bind fun x => (g x).bind fun y => some (.nx (env.set i (some y)))) := id rfl
def sMut2 (g : PV → PV → PV → Option PV) (i : Nat) (f h : Env → Option PV) (env : Env) : Option Out := (bV i env).bind fun x => (f env).bind fun p => (h env).bind fun q => (g x p q).bind fun y => some (.nx (env.set i (some y)))
@[simp] theorem sMut2_ap (g : PV → PV → PV → Option PV) (i : Nat) (f h : Env → Option PV) (env : Env) : sMut2 g i f h env = ((bV i env).bind fun x => (f env).bind fun p => (h env).bind fun q => (g x p q).bind fun y => some (.nx (env.set i (some y)))) := id rfl
@[simp] def appV : PV → PV → Option PV
  | .lst xs, p => if xs.length < 1000000 then some (.lst (xs ++ [p])) else none
  | _, _ => none
@[simp] def clearV : PV → Option PV
  | .lst _ => some (.lst [])
  | _ => none
@[simp] def revV : PV → Option PV
  | .lst xs => some (.lst xs.reverse)
  | _ => none
def dPut {κ : Type} [DecidableEq κ] (kvs : List (κ × PV)) (k : κ) (v : PV) : List (κ × PV) :=
  if (kvs.any fun kv => decide (kv.1 = k)) = true then kvs.map (fun kv => if kv.1 = k then (kv.1, v) else kv) else kvs ++ [(k, v)]
@[simp] def putV : PV → PV → PV → Option PV
  | .dK kvs, k, v => (keyOf k).bind fun k => if kvs.length < 1000000 then some (.dK (dPut kvs k v)) else none
  | .dT kvs, .tup ks, v => (keysB ks).bind fun k => if kvs.length < 1000000 then some (.dT (dPut kvs k v)) else none
  | .lst xs, .int i, v => (ixN xs.length i).map fun j => .lst (xs.set j v)
  | _, _, _ => none
def pF (f : Str) (v : PV) : List (Str × PV) → List (Str × PV)
  | [] => [(f, v)]
  | (g, x) :: r => if g = f then (g, v) :: r else (g, x) :: pF f v r
@[simp] def fsV (c : Nat) (x : Str) : PV → PV → Option PV
  | .obj c' fs, v => if c' = c ∧ fs.length < 1000 then some (.obj c' (pF x v fs)) else none
  | _, _ => none
section
variable {X : Cx} {b : BX} {G G' G1 L : List Nat} {ro : Bool} {st : Stmt} {rest : List Stmt} {f g : Env → Option Out} {e e1 e2 : Expr} {h h1 h2 : Env → Option PV} {m m1 m2 : Md} {pos : Pos}
theorem ss_nil : SSs X b G G L ro [] sNx := PSs.imp pss_nil fun D σ H ⟨Ow, env, o, E, hf, k⟩ => by cases hf; exact k Ow σ H E (Ex.refl _ _)
theorem ss_cons (a : SS X b G G1 L ro st f) (c : SSs X b G1 G' L ro rest g) : SSs X b G G' L ro (st :: rest) (sSeq f g) := PSs.imp (pss_cons a c) fun D σ H ⟨Ow, env, o, E, hf, k⟩ => by
  unfold sSeq at hf
  cases q : f env with
  | none => rw [q] at hf; cases hf
  | some o1 =>
    rw [q] at hf
    refine ⟨Ow, env, o1, E, q, ?_⟩
    cases o1 with
    | nx e' => exact fun Ow' σ' H' E' x => ⟨Ow', e', o, E', hf, k.ex x⟩
    | bk e' => cases hf; exact k
    | ct e' => cases hf; exact k
    | rt p => cases hf; exact k
theorem ss_one (a : SS X b G G' L ro st f) : SSs X b G G' L ro [st] f := pss_one a
theorem ss_frz (c : SSs X b G1 G' L ro rest g) (hs : ∀ j, j ∈ G1 → j ∈ G := by decide) : SSs X b G G' L ro rest g := PSs.imp c fun D σ H ⟨Ow, env, o, E, hf, k⟩ => by
  obtain ⟨Ow', E', x⟩ := E.weak hs
  exact ⟨Ow', env, o, E', hf, k.ex x⟩
theorem s_no : SS X b G G' L ro st sNo := PS.imp ps_never fun D σ H ⟨Ow, env, o, E, hf, k⟩ => by cases hf
theorem ss_no {sts : List Stmt} : SSs X b G G' L ro sts sNo := PSs.imp pss_never fun D σ H ⟨Ow, env, o, E, hf, k⟩ => by cases hf
theorem bind_some' {α β : Type} {x : Option α} {k : α → Option β} {y : β} (h : x.bind k = some y) : ∃ a, x = some a ∧ k a = some y := by
  cases x with
  | none => cases h
  | some a => exact ⟨a, rfl, h⟩
theorem tset {i : Nat} {D : Ends} {σ : St} {H : Hp} (hi : i ∉ G) (hx : b.fx i = none) (q : tS b G G L ro (sSet i h) D σ H) : tM b G .val h σ H fun v H1 => D.nx (σ.set i (some v)) H1 := by
  obtain ⟨Ow, env, o, E, hf, k⟩ := q
  obtain ⟨p, hp, e⟩ := bind_some' hf
  cases e
  exact ⟨Ow, env, p, E, hp, fun v H' s r => k Ow _ H' ((E.up s).set hi r hx) (.of_same s)⟩
theorem tsetO {i : Nat} {D : Ends} {σ : St} {H : Hp} (hG : ∀ j, j ∈ G' ↔ (j ∈ G ∨ j = i)) (hx : b.fx i = none) (q : tS b G G' L ro (sSet i h) D σ H) : tM b G .own h σ H fun v H1 => D.nx (σ.set i (some v)) H1 := by
  obtain ⟨Ow, env, o, E, hf, k⟩ := q
  obtain ⟨p, hp, e⟩ := bind_some' hf
  cases e
  refine ⟨Ow, env, p, E, hp, fun v H' s ⟨a, ev, hn, t⟩ => ?_⟩
  subst ev
  obtain ⟨E', x⟩ := (E.up s).setO hG s hn E t hx
  exact k _ _ H' E' x
theorem s_set (i : Nat) {x : Str} {pos' : Pos} (nd : X.N.Nodup) (he : SE X b G .val e h) (hG : i ∉ G := by decide) (hx : b.fx i = none := by first | rfl | assumption) (hi : X.N[i]? = some x := by rfl) (hl : Loc X.env.scope x := by first | exact Or.inl rfl | exact Or.inr rfl)
    (hs : swapsWith e (some (.Name x pos')) pos.line X.env = pure false := by rfl) (hf : X.fn x = true ∨ X.env.scope.names.lookup x = some .local := by first | exact .inl rfl | exact .inr rfl | assumption) : SS X b G G L ro (.Assign [.Name x pos'] e pos) (sSet i h) :=
  PS.imp (ps_set nd hi hl he hs hf) fun D σ H q => tset hG hx q
theorem s_setO (i : Nat) {x : Str} {pos' : Pos} (nd : X.N.Nodup) (he : SE X b G .own e h) (hG : i ∈ G := by decide) (hx : b.fx i = none := by first | rfl | assumption) (hi : X.N[i]? = some x := by rfl) (hl : Loc X.env.scope x := by first | exact Or.inl rfl | exact Or.inr rfl)
    (hs : swapsWith e (some (.Name x pos')) pos.line X.env = pure false := by rfl) (hf : X.fn x = true ∨ X.env.scope.names.lookup x = some .local := by first | exact .inl rfl | exact .inr rfl | assumption) : SS X b G G L ro (.Assign [.Name x pos'] e pos) (sSet i h) :=
  PS.imp (ps_set nd hi hl he hs hf) fun D σ H q => tsetO (fun j => ⟨.inl, fun z => z.elim id fun y => y ▸ hG⟩) hx q
theorem s_ret (he : SE X b G .val e h) : SS X b G G' L false (.Return (some e) pos) (sRet h) := PS.imp (ps_ret he) fun D σ H ⟨Ow, env, o, E, hf, k⟩ => by
  obtain ⟨p, hp, z1⟩ := bind_some' hf
  clear hf
  cases z1
  exact ⟨Ow, env, p, E, hp, fun v H' s r => k v H' (E.same.trans s) (Rep.ex (ex_weak fun c o _ q => q.2) r)⟩
theorem s_if {c : Expr} {k : Env → Option Bool} {sa sb : List Stmt} (hc : ST X b G c k) (ha : SSs X b G G' L ro sa f) (hb : SSs X b G G' L ro sb g) : SS X b G G' L ro (.If c sa sb pos) (sIf k f g) := PS.imp (ps_if hc ha hb) fun D σ H ⟨Ow, env, o, E, hf, kk⟩ => by
  obtain ⟨p, hp, z1⟩ := bind_some' hf
  clear hf
  refine ⟨Ow, env, p, E, hp, fun H' s => ?_⟩
  cases p with
  | true => exact iteT ⟨Ow, env, o, E.up s, z1, kk.ex (.of_same s)⟩
  | false => exact iteF ⟨Ow, env, o, E.up s, z1, kk.ex (.of_same s)⟩
theorem s_app (i : Nat) {x : Str} {p1 apos cpos : Pos} (he : SE X b G .val e h) (hi : i ∈ G := by decide) (hN : X.N[i]? = some x := by rfl) (hv : Vis X.env.scope x := by first | exact Or.inl rfl | exact Or.inr (Or.inl rfl) | exact Or.inr (Or.inr rfl)) (hd : (x == ("__debug__" : Str)) = false := by decide)
    (hcd : (x == ("__classdict__" : Str)) = false := by decide) (hbase : attributeBase (.Name x p1) "append" X.env (eval (.Name x p1) X.env) = eval (.Name x p1) X.env := by rfl)
    (hfew : ((backTo cpos (starEach [e] X.env)).all (fun x => !x.1) && (backToKw cpos (keywordEach [] X.env)).all (fun x => x.1.isSome)
      && decide ([e].length + ([] : List Keyword).length + (if ([] : List Keyword).isEmpty then 0 else 1) < 30)) = true := by rfl)
    (hline : (apos.endLine == cpos.line) = true := by rfl) (hs : starEach [e] X.env = (false, eval e X.env) :: starEach [] X.env := by rfl) :
    SS X b G G L ro (.Expr (.Call (.Attribute (.Name x p1) "append" apos) [e] [] cpos) pos) (sMut1 appV i h) :=
  PS.imp (ps_expr (pe_bm PySem.F.plainAttrs_list PySem.F.slot_list_append PySem.F.type_list_append mt_append (pe_var hN hv hd hcd) (pa_cons he pa_nil hs) hbase hfew hline hs rfl)) fun D σ H ⟨Ow, env, o, E, hf, k⟩ => by
    obtain ⟨px, hpx, z1⟩ := bind_some' hf
    clear hf
    obtain ⟨p, hp, z2⟩ := bind_some' z1
    clear z1
    obtain ⟨y, hy, z3⟩ := bind_some' z2
    clear z2
    cases z3
    obtain ⟨a, ea, w, t⟩ := E.own i px (bV_some hpx) hi
    cases px <;> simp only [appV] at hy <;> first | cases hy | skip
    rename_i xs
    split at hy
    · rename_i hl
      cases hy
      obtain ⟨vs, ha, ra⟩ := id t
      refine ⟨_, ea, .inl ⟨rfl, _, SqL.of ha⟩, Ow, env, p, E, hp, fun v H' s r => ?_⟩
      refine ⟨a, vs, v, rfl, rfl, s _ _ ha, le_line (by rw [ra.length]; omega), ?_⟩
      have ra' : Reps b.C (Bs b Ow) (upd H' a (.lst (vs ++ [v]))) (vs ++ [v]) (xs ++ [p]) := by
        refine (ra.ex (.of_same s)).append (.cons r .nil) |>.ex fun c o h => ⟨fun q => ⟨by rw [upd_ne (fun z : c = a => q.1 (z ▸ w))]; exact h, q⟩, fun m => ?_⟩
        have hc : c ≠ a := fun z => by subst z; rw [s _ _ ha] at h; cases h; cases m
        rw [upd_ne hc]; exact h
      obtain ⟨E', x⟩ := (E.up s).write hi ea (bV_some hpx) w (t.ex (.of_same s) fun o z => s _ _ z) (o' := .lst (vs ++ [v])) (p' := .lst (xs ++ [p])) ⟨_, upd_same, ra'⟩
      exact k Ow σ _ E' ((Ex.of_same s).trans x)
    · cases hy
theorem RepK.put {C : MC} {A : Addr → Prop} {H : Hp} {k : Key} {v : V} {p : PV} (r : Rep C A H v p) {kv : List (Key × V)} {kvs : List (Key × PV)} (t : RepK C A H kv kvs) : RepK C A H (putK kv k v) (dPut kvs k p) := by
  have hany : ∀ {kv : List (Key × V)} {kvs : List (Key × PV)}, RepK C A H kv kvs → (kv.any fun x => decide (x.1 = k)) = (kvs.any fun x => decide (x.1 = k)) := by
    intro kv kvs t
    induction kv generalizing kvs with
    | nil => cases t; rfl
    | cons x l ih => cases t with | cons h t => rw [List.any_cons, List.any_cons, ih t]
  have hmap : ∀ {kv : List (Key × V)} {kvs : List (Key × PV)}, RepK C A H kv kvs → RepK C A H (kv.map fun x => if x.1 = k then (x.1, v) else x) (kvs.map fun x => if x.1 = k then (x.1, p) else x) := by
    intro kv kvs t
    induction kv generalizing kvs with
    | nil => cases t; exact .nil
    | cons x l ih =>
      cases t with
      | cons h t =>
        rw [List.map_cons, List.map_cons]
        rename_i k' v' p' ps'
        by_cases e : k' = k
        · simp only [e, if_true]; exact .cons r (ih t)
        · simp only [e, if_false]; exact .cons h (ih t)
  have happ : ∀ {kv : List (Key × V)} {kvs : List (Key × PV)}, RepK C A H kv kvs → RepK C A H (kv ++ [(k, v)]) (kvs ++ [(k, p)]) := by
    intro kv kvs t
    induction kv generalizing kvs with
    | nil => cases t; exact .cons r .nil
    | cons x l ih => cases t with | cons h t => exact .cons h (ih t)
  unfold putK dPut
  rw [hany t]
  split
  · exact hmap t
  · exact happ t
theorem RepT.put {C : MC} {A : Addr → Prop} {H : Hp} {k : List Key} {v : V} {p : PV} (r : Rep C A H v p) {kv : List (List Key × V)} {kvs : List (List Key × PV)} (t : RepT C A H kv kvs) : RepT C A H (putK kv k v) (dPut kvs k p) := by
  have hany : ∀ {kv : List (List Key × V)} {kvs : List (List Key × PV)}, RepT C A H kv kvs → (kv.any fun x => decide (x.1 = k)) = (kvs.any fun x => decide (x.1 = k)) := by
    intro kv kvs t
    induction kv generalizing kvs with
    | nil => cases t; rfl
    | cons x l ih => cases t with | cons h t => rw [List.any_cons, List.any_cons, ih t]
  have hmap : ∀ {kv : List (List Key × V)} {kvs : List (List Key × PV)}, RepT C A H kv kvs → RepT C A H (kv.map fun x => if x.1 = k then (x.1, v) else x) (kvs.map fun x => if x.1 = k then (x.1, p) else x) := by
    intro kv kvs t
    induction kv generalizing kvs with
    | nil => cases t; exact .nil
    | cons x l ih =>
      cases t with
      | cons h t =>
        rw [List.map_cons, List.map_cons]
        rename_i k' v' p' ps'
        by_cases e : k' = k
        · simp only [e, if_true]; exact .cons r (ih t)
        · simp only [e, if_false]; exact .cons h (ih t)
  have happ : ∀ {kv : List (List Key × V)} {kvs : List (List Key × PV)}, RepT C A H kv kvs → RepT C A H (kv ++ [(k, v)]) (kvs ++ [(k, p)]) := by
    intro kv kvs t
    induction kv generalizing kvs with
    | nil => cases t; exact .cons r .nil
    | cons x l ih => cases t with | cons h t => exact .cons h (ih t)
  unfold putK dPut
  rw [hany t]
  split
  · exact hmap t
  · exact happ t
theorem RepT.length {C : MC} {A : Addr → Prop} {H : Hp} : ∀ {vs : List (List Key × V)} {ps : List (List Key × PV)}, RepT C A H vs ps → vs.length = ps.length
  | _, _, .nil => rfl
  | _, _, .cons _ t => by simp [RepT.length t]
theorem RepF.length {C : MC} {A : Addr → Prop} {H : Hp} : ∀ {vs : List (Str × V)} {ps : List (Str × PV)}, RepF C A H vs ps → vs.length = ps.length
  | _, _, .nil => rfl
  | _, _, .cons _ t => by simp [RepF.length t]
theorem RepF.put {C : MC} {A : Addr → Prop} {H : Hp} {k : Str} {v : V} {p : PV} (r : Rep C A H v p) : ∀ {kv : List (Str × V)} {kvs : List (Str × PV)}, RepF C A H kv kvs → RepF C A H (putF k v kv) (pF k p kvs)
  | _, _, .nil => .cons r .nil
  | _, _, .cons (k := k') h t => by
    unfold putF pF
    split
    · exact .cons r t
    · exact .cons h (RepF.put r t)
theorem ex_write {Ow : Addr → Prop} {H : Hp} {a : Addr} {o o' : HO} (w : Ow a) (ha : H a = some o) (hm : isMut o = true) : Ex (Bs b Ow) H (Bs b Ow) (upd H a o') := fun c u h => ⟨fun q => ⟨by rw [upd_ne (fun z : c = a => q.1 (z ▸ w))]; exact h, q⟩, fun m => by
  have hc : c ≠ a := fun z => by subst z; rw [ha] at h; cases h; rw [hm] at m; cases m
  rw [upd_ne hc]; exact h⟩
theorem s_put (i : Nat) {x : Str} {p1 p2 : Pos} {j : Nat} (hr : Room j X.A) (hk : SE X b G .val e1 h1) (hv' : SE X b G .val e2 h2) (hi : i ∈ G := by decide) (hN : X.N[i]? = some x := by rfl) (hv : Vis X.env.scope x := by first | exact Or.inl rfl | exact Or.inr (Or.inl rfl) | exact Or.inr (Or.inr rfl)) (hd : (x == ("__debug__" : Str)) = false := by decide)
    (hcd : (x == ("__classdict__" : Str)) = false := by decide) (hs : swapsWith e2 (some (.Subscript (.Name x p1) e1 p2)) pos.line X.env = pure false := by rfl) (hs2 : swapsWithSole [.Subscript (.Name x p1) e1 p2] e2 pos.line X.env = pure false := by rfl) (hw : swappedStores [.Subscript (.Name x p1) e1 p2] e2 X.env = pure none := by rfl)
    (ha1 : (assignEach [.Subscript (.Name x p1) e1 p2] X.env).map (·.2) = [assign (.Subscript (.Name x p1) e1 p2) X.env] := by rfl)
    (ha : ∀ v, assign (.Subscript (.Name x p1) e1 p2) X.env v = (do
      let ov ← holding [v] (eval (.Name x p1) X.env)
      let iv ← holding [v, ov] (eval e1 X.env)
      standAt p2
      holding [v, ov, iv] (setItem ov iv v)
      release [v, ov, iv] []) := by intro _; rfl) (hK : X.K = b.C.K := by rfl) : SS X b G G L ro (.Assign [.Subscript (.Name x p1) e1 p2] e2 pos) (sMut2 putV i h1 h2) := by
  refine PS.imp (PS.or (ps_dput (hu_of hr) (pe_var hN hv hd hcd) hk hv' hs) (ps_asg hv' (pg_sub (pe_var hN hv hd hcd) hk set_list ha) hs2 hw ha1)) fun D σ H ⟨Ow, env, o, E, hf, k⟩ => ?_
  obtain ⟨px, hpx, z1⟩ := bind_some' hf
  clear hf
  obtain ⟨pk, hpk, z2⟩ := bind_some' z1
  clear z1
  obtain ⟨pv, hpv, z3⟩ := bind_some' z2
  clear z2
  obtain ⟨y, hy, z4⟩ := bind_some' z3
  clear z3
  cases z4
  obtain ⟨a, ea, w, t⟩ := E.own i px (bV_some hpx) hi
  have fin : ∀ {H2 : Hp} {o' : HO}, Same H H2 → Top b.C (Bs b Ow) (upd H2 a o') a y → D.nx σ (upd H2 a o') := fun {H2 o'} s t' => by
    obtain ⟨E', x⟩ := (E.up s).write hi ea (bV_some hpx) w (t.ex (.of_same s) fun o z => s _ _ z) t'
    exact k Ow σ _ E' ((Ex.of_same s).trans x)
  unfold putV at hy
  split at hy
  · obtain ⟨ky, hky, hy⟩ := bind_some' hy
    split at hy
    · rename_i hl
      cases hy
      obtain ⟨kv, ha, ra⟩ := id t
      refine .inl ⟨Ow, env, pv, E, hpv, fun v H1 s1 r1 => ⟨_, ea, Ow, env, pk, E.up s1, hpk, fun u H2 s2 r2 => ?_⟩⟩
      have s := s1.trans s2
      have eu := RepB.key (.inl r2) hky
      subst eu
      refine ⟨a, _, rfl, DPut.k (s _ _ ha) (le_line (by rw [ra.length]; omega)), fin s ⟨_, upd_same, ?_⟩⟩
      exact (RepK.put (k := ky) (Rep.ex (.of_same s2) r1) (ra.ex (.of_same s))).ex (ex_write w (s _ _ ha) rfl)
    · cases hy
  · obtain ⟨ky, hky, hy⟩ := bind_some' hy
    split at hy
    · rename_i hl
      cases hy
      obtain ⟨kv, ha, ra⟩ := id t
      refine .inl ⟨Ow, env, pv, E, hpv, fun v H1 s1 r1 => ⟨_, ea, Ow, env, _, E.up s1, hpk, fun u H2 s2 r2 => ?_⟩⟩
      have s := s1.trans s2
      obtain ⟨c, us, rfl, hc, rc⟩ := RepB.tup (.inl r2)
      refine ⟨a, _, rfl, DPut.t (s _ _ ha) (by rw [hK]; exact hc.key (rc.keysB hky)) (le_line (by rw [ra.length]; omega)), fin s ⟨_, upd_same, ?_⟩⟩
      exact (RepT.put (k := ky) (Rep.ex (.of_same s2) r1) (ra.ex (.of_same s))).ex (ex_write w (s _ _ ha) rfl)
    · cases hy
  · rename_i xs n
    cases q : ixN xs.length n with
    | none => rw [q] at hy; cases hy
    | some jj =>
      rw [q] at hy
      cases hy
      obtain ⟨vs, ha, ra⟩ := id t
      refine .inr ⟨Ow, env, pv, E, hpv, fun v H1 s1 r1 => ⟨_, ea, Ow, env, _, E.up s1, hpk, fun u H2 s2 r2 => ?_⟩⟩
      have s := s1.trans s2
      have eu := RepB.int (.inl r2)
      subst eu
      refine ⟨a, vs, n, jj, rfl, rfl, s _ _ ha, by rw [ra.length]; exact q, fin s ⟨_, upd_same, ?_⟩⟩
      exact (Reps.set (Rep.ex (.of_same s2) r1) jj (ra.ex (.of_same s))).ex (ex_write w (s _ _ ha) rfl)
  · cases hy
def IW (b : BX) (Ow : Addr → Prop) (fr : Bool) (H1 : Hp) (J : It) (ps : List PV) : Prop := ∀ Ow' H, (fr = false → Same H1 H) → Ex (Bs b Ow) H1 (Bs b Ow') H → (∀ a, H a = none → Bs b Ow' a) →
  (∀ i p, ps[i]? = some p → J.go i H ∧ ∀ x H', J.yld i H x H' → Same H H' ∧ Rep b.C (Bs b Ow') H' x p) ∧ J.stop ps.length H
def tMI (b : BX) (G : List Nat) (fr : Bool) (g : Env → Option (List PV)) : TI := fun σ H R => ∃ Ow env ps, ER b Ow G σ env H ∧ g env = some ps ∧ ∀ J H1, Same H H1 → IW b Ow fr H1 J ps → R J H1
abbrev SI (X : Cx) (b : BX) (G : List Nat) (fr : Bool) (tg it : Expr) (g : Env → Option (List PV)) : Prop := PI X tg it (tMI b G fr g)
theorem PI.imp {tg it : Expr} {t u : TI} (h : PI X tg it t) (i : ∀ σ H R, u σ H R → t σ H R) : PI X tg it u := fun pins s σ H R I q => h pins s σ H R I (i σ H R q)
theorem PI.or {tg it : Expr} {t u : TI} (h : PI X tg it t) (h' : PI X tg it u) : PI X tg it (fun σ H R => t σ H R ∨ u σ H R) := fun pins s σ H R I q => q.elim (h pins s σ H R I) (h' pins s σ H R I)
def chV (x : Str) : List PV := x.cps.toList.map fun c => .str ⟨#[c]⟩
@[simp] def itV : PV → Option (List PV)
  | .lst xs => some xs
  | .frz xs => some xs
  | .tup xs => some xs
  | .ktp xs => some xs
  | .str x => some (chV x)
  | _ => none
def iV (f : Env → Option PV) (env : Env) : Option (List PV) := (f env).bind itV
@[simp] theorem iV_ap (f : Env → Option PV) (env : Env) : iV f env = ((f env).bind itV) := id rfl
theorem iw_list {Ow : Addr → Prop} {fr : Bool} {H1 : Hp} {a : Addr} {vs : List V} {xs : List PV} (hq : ∀ Ow' H, (fr = false → Same H1 H) → Ex (Bs b Ow) H1 (Bs b Ow') H → SqL b.C.K H a vs ∧ Reps b.C (Bs b Ow') H vs xs) : IW b Ow fr H1 (Itl b.C.K a) xs := by
  intro Ow' H h0 h1 hn
  obtain ⟨q, r⟩ := hq Ow' H h0 h1
  refine ⟨fun i p hp => ?_, ⟨vs, q, by rw [r.length]; exact Nat.le_refl _⟩⟩
  obtain ⟨v, hv, rv⟩ := r.get hp
  refine ⟨⟨vs, v, q, hv⟩, fun x H' y => ?_⟩
  obtain ⟨e, y⟩ := y
  subst e
  have e2 := y vs q
  rw [hv] at e2
  cases e2
  exact ⟨Same.refl _, rv⟩
theorem iw_tup {Ow : Addr → Prop} {fr : Bool} {H1 : Hp} {a : Addr} {vs : List V} {xs : List PV} (hq : ∀ Ow' H, (fr = false → Same H1 H) → Ex (Bs b Ow) H1 (Bs b Ow') H → SqT b.C.K H a vs ∧ Reps b.C (Bs b Ow') H vs xs) : IW b Ow fr H1 (Itt b.C.K a) xs := by
  intro Ow' H h0 h1 hn
  obtain ⟨q, r⟩ := hq Ow' H h0 h1
  refine ⟨fun i p hp => ?_, ⟨vs, q, by rw [r.length]; exact Nat.le_refl _⟩⟩
  obtain ⟨v, hv, rv⟩ := r.get hp
  refine ⟨⟨vs, v, q, hv⟩, fun x H' y => ?_⟩
  obtain ⟨e, y⟩ := y
  subst e
  have e2 := y vs q
  rw [hv] at e2
  cases e2
  exact ⟨Same.refl _, rv⟩
theorem iw_str {Ow : Addr → Prop} {fr : Bool} {H1 : Hp} {x : Str} : IW b Ow fr H1 (Its x) (chV x) := by
  intro Ow' H h0 h1 hn
  refine ⟨fun i p hp => ?_, by show (chV x).length = x.cps.size; unfold chV; rw [List.length_map, Array.length_toList]⟩
  unfold chV at hp
  rw [List.getElem?_map] at hp
  cases q : x.cps.toList[i]? with
  | none => rw [q] at hp; cases hp
  | some c =>
    rw [q] at hp
    cases hp
    have hc : x.cps[i]? = some c := by rw [← Array.getElem?_toList]; exact q
    refine ⟨(Array.getElem?_eq_some_iff.mp hc).1, fun v H' y => ?_⟩
    obtain ⟨e, c', h', ev⟩ := y
    subst e
    rw [hc] at h'
    cases h'
    subst ev
    exact ⟨Same.refl _, .str _⟩
theorem si_v {tg : Expr} {fr : Bool} (he : SE X b G m e h) (hm : fr = true → m ≠ .bor := by simp) (hK : X.K = b.C.K := by rfl) : SI X b G fr tg e (iV h) := by
  have hPI := PI.or (tg := tg) (PI.or (pi_list he) (pi_tup he)) (pi_str he)
  refine PI.imp hPI fun σ H R ⟨Ow, env, ps, E, hg, k⟩ => ?_
  rw [hK]
  obtain ⟨p, hp, hps⟩ := bind_some' hg
  have keep : ∀ {H1 Ow' H2} {v : V}, Same H H1 → Res b Ow H H1 m v p → (fr = false → Same H1 H2) → Ex (Bs b Ow) H1 (Bs b Ow') H2 → RepB b.C (Bs b Ow') H2 v p := fun {H1 Ow' H2 v} s r h0 h1 => by
    cases fr with
    | false => exact RepB.ex h1 (h0 rfl) r.bor
    | true => exact .inl (Rep.ex h1 (r.val E (hm rfl)))
  unfold itV at hps
  split at hps
  · cases hps
    refine .inl (.inl ⟨Ow, env, _, E, hp, fun v H1 s r => ?_⟩)
    have r1 : RepB b.C (Bs b Ow) H1 v (.lst _) := r.bor
    obtain ⟨a, vs, rfl, ha, ra⟩ := r1.lst
    refine ⟨a, rfl, ⟨vs, SqL.of ha⟩, k _ _ s (iw_list (vs := vs) fun Ow' H2 h0 h1 => ?_)⟩
    obtain ⟨a', vs', e', ha', ra'⟩ := (keep s r h0 h1).lst
    cases e'
    have : H2 a = some (.lst vs) := by
      cases fr with
      | false => exact h0 rfl _ _ ha
      | true =>
        have rv : Rep b.C (Bs b Ow) H1 (.ref a) (.lst _) := r.val E (hm rfl)
        cases rv with
        | lst q1 q2 q3 => rw [ha] at q1; cases q1; exact ((h1 _ _ ha).1 q2).1
    rw [ha'] at this
    cases this
    exact ⟨SqL.of ha', ra'⟩
  · cases hps
    refine .inl (.inl ⟨Ow, env, _, E, hp, fun v H1 s r => ?_⟩)
    have r1 : Rep b.C (Bs b Ow) H1 v (.frz _) := (by rcases r.bor with z | ⟨_, _, z⟩; exact z; exact z.elim)
    cases r1 with
    | lstF q1 q3 => exact ⟨_, rfl, ⟨_, .inl (.inr ⟨_, q1⟩)⟩, k _ _ s (iw_list fun Ow' H2 h0 h1 => ⟨.inl (.inr ⟨_, (h1 _ _ q1).2 rfl⟩), q3.ex h1⟩)⟩
    | lstK q1 q3 => exact ⟨_, rfl, ⟨_, sqK q1⟩, k _ _ s (iw_list fun Ow' H2 h0 h1 => ⟨sqK q1, q3.ex h1⟩)⟩
  · cases hps
    refine .inl (.inr ⟨Ow, env, _, E, hp, fun v H1 s r => ?_⟩)
    have r1 : RepB b.C (Bs b Ow) H1 v (.tup _) := r.bor
    obtain ⟨a, vs, rfl, ha, ra⟩ := r1.tup
    exact ⟨a, rfl, ⟨vs, ha.sq⟩, k _ _ s (iw_tup (vs := vs) fun Ow' H2 h0 h1 => ⟨(ha.ex h1).sq, ra.ex h1⟩)⟩
  · cases hps
    refine .inl (.inr ⟨Ow, env, _, E, hp, fun v H1 s r => ?_⟩)
    have r1 : RepB b.C (Bs b Ow) H1 v (.ktp _) := r.bor
    rcases r1 with r1 | ⟨_, _, t⟩
    · cases r1 with
      | tupK q1 q3 => exact ⟨_, rfl, ⟨_, sqTK q1⟩, k _ _ s (iw_tup fun Ow' H2 h0 h1 => ⟨sqTK q1, q3.ex h1⟩)⟩
    · exact t.elim
  · cases hps
    refine .inr ⟨Ow, env, _, E, hp, fun v H1 s r => ?_⟩
    have r1 : RepB b.C (Bs b Ow) H1 v (.str _) := r.bor
    exact ⟨_, r1.str, k _ _ s iw_str⟩
  · cases hps
noncomputable def rgI (i : Int) : Bool := @decide (-4611686018427387904 ≤ i ∧ i < 4611686018427387904) (Classical.propDecidable _)
theorem rgI_of {i : Int} (h : -4611686018427387904 ≤ i) (h' : i < 4611686018427387904) : rgI i = true := @decide_eq_true _ (Classical.propDecidable _) ⟨h, h'⟩
theorem rgI_to {i : Int} (h : rgI i = true) : -(2 ^ 62) ≤ i ∧ i < 2 ^ 62 := by
  simp only [rgI, decide_eq_true_eq] at h
  exact h
def rngV (lo hi : Int) : List PV := (List.range (hi - lo).toNat).map fun i => .int (lo + (i : Nat))
noncomputable def iR1 (f : Env → Option PV) (env : Env) : Option (List PV) := (f env).bind fun p => match p with
  | .int j => if rgI j = true then some (rngV 0 j) else none
  | _ => none
@[simp] theorem iR1_ap (f : Env → Option PV) (env : Env) : iR1 f env = ((f env).bind fun p => match p with
  | .int j => if rgI j = true then some (rngV 0 j) else none
  | _ => none) := id rfl
noncomputable def iR2 (f g : Env → Option PV) (env : Env) : Option (List PV) := (f env).bind fun p => (g env).bind fun q => match p, q with
  | .int i, .int j => if (rgI i && rgI j) = true then some (rngV i j) else none
  | _, _ => none
@[simp] theorem iR2_ap (f g : Env → Option PV) (env : Env) : iR2 f g env = ((f env).bind fun p => (g env).bind fun q => match p, q with
  | .int i, .int j => if (rgI i && rgI j) = true then some (rngV i j) else none
  | _, _ => none) := id rfl
theorem iw_rng {Ow : Addr → Prop} {fr : Bool} {H1 : Hp} {lo hi : Int} : IW b Ow fr H1 (Itr lo (hi - lo).toNat) (rngV lo hi) := by
  intro Ow' H h0 h1 hn
  have hl : (rngV lo hi).length = (hi - lo).toNat := by unfold rngV; rw [List.length_map, List.length_range]
  refine ⟨fun i p hp => ?_, by show (hi - lo).toNat ≤ (rngV lo hi).length; rw [hl]; exact Nat.le_refl _⟩
  have hi' : i < (hi - lo).toNat := by rw [← hl]; exact (List.getElem?_eq_some_iff.mp hp).1
  refine ⟨hi', fun x H' y => ?_⟩
  obtain ⟨e, ex⟩ := y
  subst e ex
  unfold rngV at hp
  rw [List.getElem?_map, List.getElem?_range hi'] at hp
  cases hp
  exact ⟨Same.refl _, .int _⟩
theorem si_r1 {tg : Expr} {fr : Bool} {p pos : Pos} (hm : X.mg "range" = none) (he : SE X b G m e h) (hg : Gl X "range" := by rfl) (hs : starEach [e] X.env = [(false, eval e X.env)] := by rfl) (hs' : starEach [e] X.env = (false, eval e X.env) :: starEach [] X.env := by rfl) : SI X b G fr tg (.Call (.Name "range" p) [e] [] pos) (iR1 h) := by
  refine PI.imp (pi_range1 hg hm (pa_cons he.bor pa_nil hs') hs) fun σ H R ⟨Ow, env, ps, E, hf, k⟩ => ?_
  obtain ⟨p1, hp, hps⟩ := bind_some' hf
  refine ⟨Ow, env, p1, E, hp, fun v H1 s r => ?_⟩
  have r1 : RepB b.C (Bs b Ow) H1 v p1 := r
  cases p1 <;> simp only at hps <;> first | cases hps | skip
  rename_i j
  split at hps
  · rename_i hj
    cases hps
    have hw : IW b Ow fr H1 (Itr 0 (j - 0).toNat) (rngV 0 j) := iw_rng
    rw [Int.sub_zero] at hw
    exact ⟨j, by rw [r1.int], (rgI_to hj).1, (rgI_to hj).2, k _ _ s hw⟩
  · cases hps
def enumV (n : Nat) : List PV → List PV
  | [] => []
  | x :: xs => .tup [.int (n : Nat), x] :: enumV (n + 1) xs
theorem enumV_get {p : PV} : ∀ {xs : List PV} {n i : Nat}, (enumV n xs)[i]? = some p → ∃ x, xs[i]? = some x ∧ p = .tup [.int ((n + i : Nat) : Int), x]
  | [], n, i, e => by simp [enumV] at e
  | x :: xs, n, 0, e => by
    simp [enumV] at e
    exact ⟨x, rfl, by rw [← e]; rfl⟩
  | x :: xs, n, i + 1, e => by
    simp only [enumV, List.getElem?_cons_succ] at e
    obtain ⟨y, h1, h2⟩ := enumV_get e
    exact ⟨y, by simpa using h1, by rw [h2, Nat.add_right_comm, Nat.add_assoc]⟩
theorem enumV_length : ∀ {xs : List PV} {n : Nat}, (enumV n xs).length = xs.length
  | [], _ => rfl
  | x :: xs, n => by simp [enumV, enumV_length (xs := xs)]
def iE (f : Env → Option PV) (env : Env) : Option (List PV) := (f env).bind fun p => match p with
  | .lst xs => some (enumV 0 xs)
  | _ => none
@[simp] theorem iE_ap (f : Env → Option PV) (env : Env) : iE f env = ((f env).bind fun p => match p with
  | .lst xs => some (enumV 0 xs)
  | _ => none) := id rfl
end
end MR
namespace MR
open PySem L2
def gN (i : Nat) (p : PV) (env : Env) : Option Env := some (env.set i (some p))
@[simp] theorem gN_ap (i : Nat) (p : PV) (env : Env) : gN i p env = (some (env.set i (some p))) := id rfl
@[simp] def gNs : List Nat → List PV → Env → Option Env
  | [], [], env => some env
  | i :: is, p :: ps, env => gNs is ps (env.set i (some p))
  | _, _, _ => none
def gT (is : List Nat) (p : PV) (env : Env) : Option Env := match p with
  | .tup xs => gNs is xs env
  | _ => none
@[simp] theorem gT_ap (is : List Nat) (p : PV) (env : Env) : gT is p env = (match p with
  | .tup xs => gNs is xs env
  | _ => none) := id rfl
def tMG (b : BX) (G : List Nat) (g : PV → Env → Option Env) : TG := fun v σ H Q => ∃ Ow env p env', ER b Ow G σ env H ∧ Rep b.C (Bs b Ow) H v p ∧ g p env = some env' ∧ ∀ σ', ER b Ow G σ' env' H → Q σ' H
def tMGs (b : BX) (G : List Nat) (is : List Nat) : TGs := fun vs σ H Q => ∃ Ow env ps env', ER b Ow G σ env H ∧ Reps b.C (Bs b Ow) H vs ps ∧ gNs is ps env = some env' ∧ ∀ σ', ER b Ow G σ' env' H → Q σ' H
abbrev SG (X : Cx) (b : BX) (G : List Nat) (tg : Expr) (g : PV → Env → Option Env) : Prop := PG X tg (tMG b G g)
abbrev SGs (X : Cx) (b : BX) (G : List Nat) (tgs : List Expr) (is : List Nat) : Prop := PGs X tgs (tMGs b G is)
theorem PG.imp {X : Cx} {tg : Expr} {t u : TG} (h : PG X tg t) (i : ∀ v σ H Q, u v σ H Q → t v σ H Q) : PG X tg u := fun pins s σ H v w Q I r q => h pins s σ H v w Q I r (i v σ H Q q)
theorem PGs.imp {X : Cx} {tg : List Expr} {t u : TGs} (h : PGs X tg t) (i : ∀ v σ H Q, u v σ H Q → t v σ H Q) : PGs X tg u := fun pins s σ H v w Q I r q => h pins s σ H v w Q I r (i v σ H Q q)
section
variable {X : Cx} {b : BX} {G G' L : List Nat} {ro : Bool} {pos : Pos}
theorem sg_n (i : Nat) {x : Str} (nd : X.N.Nodup) (hG : i ∉ G := by decide) (hx : b.fx i = none := by first | rfl | assumption) (hi : X.N[i]? = some x := by rfl) (hl : Loc X.env.scope x := by first | exact Or.inl rfl | exact Or.inr rfl)
    (hf : X.fn x = true ∨ X.env.scope.names.lookup x = some .local := by first | exact .inl rfl | exact .inr rfl | assumption) : SG X b G (.Name x pos) (gN i) :=
  PG.imp (pg_name nd hi hl hf) fun v σ H Q ⟨Ow, env, p, env', E, r, e, k⟩ => by cases e; exact k _ (E.set hG r hx)
theorem sgs_nil : SGs X b G [] [] := PGs.imp pgs_nil fun vs σ H Q ⟨Ow, env, ps, env', E, r, e, k⟩ => by
  cases ps with
  | nil => cases r; cases e; exact ⟨rfl, k σ E⟩
  | cons p ps => cases e
theorem sgs_cons (i : Nat) {x : Str} {es : List Expr} {is : List Nat} {p1 : Pos} (nd : X.N.Nodup) (h2 : SGs X b G es is) (hG : i ∉ G := by decide) (hx : b.fx i = none := by first | rfl | assumption) (hi : X.N[i]? = some x := by rfl) (hl : Loc X.env.scope x := by first | exact Or.inl rfl | exact Or.inr rfl)
    (hf : X.fn x = true ∨ X.env.scope.names.lookup x = some .local := by first | exact .inl rfl | exact .inr rfl | assumption) (hs : (assignEach (.Name x p1 :: es) X.env).map (·.2) = assign (.Name x p1) X.env :: (assignEach es X.env).map (·.2) := by rfl) : SGs X b G (.Name x p1 :: es) (i :: is) :=
  PGs.imp (pgs_cons (pg_name nd hi hl hf) h2 hs) fun vs σ H Q ⟨Ow, env, ps, env', E, r, e, k⟩ => by
    cases ps with
    | nil => cases e
    | cons p ps =>
      cases r with
      | cons r1 r2 => exact ⟨_, _, rfl, Ow, env.set i (some p), ps, env', E.set hG r1 hx, r2, e, k⟩
theorem gNs_len : ∀ {is : List Nat} {ps : List PV} {env env' : Env}, gNs is ps env = some env' → ps.length = is.length
  | [], [], _, _, _ => rfl
  | i :: is, p :: ps, env, env', e => by simp [gNs_len (is := is) (ps := ps) e]
  | [], _ :: _, _, _, e => by cases e
  | _ :: _, [], _, _, e => by cases e
theorem sg_t {es : List Expr} {k : Nat} {is : List Nat} (h : SGs X b G es is) (hc : X.calm = true := by rfl) (hn : (assignEach es X.env).length = is.length := by rfl) (hst : (assignEach es X.env).findIdx? (·.1) = none := by rfl) (hK : X.K = b.C.K := by rfl) : SG X b G (.Tuple es k pos) (gT is) :=
  PG.imp (pg_tup hc h hn hst) fun v σ H Q ⟨Ow, env, p, env', E, r, e, k⟩ => by
    cases p <;> simp only [gT] at e <;> first | cases e | skip
    rename_i xs
    obtain ⟨a, vs, rfl, ha, ra⟩ := RepB.tup (.inl r)
    rw [hK]
    exact ⟨a, vs, rfl, ha.sq, by rw [ra.length]; exact gNs_len e, Ow, env, xs, env', E, ra, e, k⟩
def loopS (g : PV → Env → Option Env) (ds : List Nat) (body : Env → Option Out) : List PV → Env → Option Out
  | [], env => some (.nx env)
  | x :: xs, env => (g x env).bind fun e1 => (body e1).bind fun o => match o with
    | .nx e => loopS g ds body xs (clr ds e)
    | .ct e => loopS g ds body xs (clr ds e)
    | .bk e => some (.nx (clr ds e))
    | .rt p => some (.rt p)
def sFor (g : PV → Env → Option Env) (src : Env → Option (List PV)) (ds : List Nat) (body : Env → Option Out) (env : Env) : Option Out := (src env).bind fun xs => loopS g ds body xs (clr ds env)
@[simp] theorem sFor_ap (g : PV → Env → Option Env) (src : Env → Option (List PV)) (ds : List Nat) (body : Env → Option Out) (env : Env) : sFor g src ds body env = ((src env).bind fun xs => loopS g ds body xs (clr ds env)) := id rfl
theorem s_for {tg it : Expr} {body : List Stmt} {g : PV → Env → Option Env} {src : Env → Option (List PV)} {f : Env → Option Out} (ds : List Nat) (hi : SI X b G true tg it src) (hg : SG X b G tg g) (hb : SSs X b G G G ro body f) (hp : PassesOwn (model X.prog X.w) X.A X.env X.xe) (hc : X.calm = true := by rfl)
    (hs : ∀ x, foldedSetIterable it X.env x = pure x := by intro _; rfl) : SS X b G G L ro (.For tg it body [] pos) (sFor g src ds f) := by
  refine PS.imp (ps_for hp hc hi hg hb hs) fun D σ H ⟨Ow, env, out, E, hf, k⟩ => ?_
  obtain ⟨ps, hps, hl⟩ := bind_some' hf
  refine ⟨Ow, env, ps, E, hps, fun J H1 s1 iw => ?_⟩
  refine ⟨fun i m σ2 H2 => m = ps.length - i ∧ i ≤ ps.length ∧ ∃ Ow2 env2, ER b Ow2 G σ2 env2 H2 ∧ Ex (Bs b Ow) H1 (Bs b Ow2) H2 ∧ loopS g ds f (ps.drop i) env2 = some out, ⟨ps.length, by simp, Nat.zero_le _, Ow, clr ds env, (E.up s1).clr, Ex.refl _ _, by simpa using hl⟩, ?_⟩
  rintro i m σ2 H2 ⟨rfl, hi, Ow2, env2, E2, x2, l2⟩
  obtain ⟨w1, w2⟩ := iw Ow2 H2 (fun z => by cases z) x2 fun a => E2.fresh
  have xk : Ex (Bs b Ow) H (Bs b Ow2) H2 := (Ex.of_same s1).trans x2
  by_cases hlt : i < ps.length
  · rw [List.drop_eq_getElem_cons hlt] at l2
    obtain ⟨e1, he1, l2⟩ := bind_some' l2
    obtain ⟨o, ho, l2⟩ := bind_some' l2
    obtain ⟨g1, g2⟩ := w1 i ps[i] (List.getElem?_eq_getElem hlt)
    refine .inr ⟨g1, fun σ' H' => i + 1 ≤ ps.length ∧ ∃ Ow2 env2, ER b Ow2 G σ' env2 H' ∧ Ex (Bs b Ow) H1 (Bs b Ow2) H' ∧ loopS g ds f (ps.drop (i + 1)) env2 = some out, fun σ' H' q => ⟨ps.length - (i + 1), by omega, rfl, q⟩, fun x H' y => ?_⟩
    obtain ⟨s3, r3⟩ := g2 x H' y
    refine ⟨Ow2, env2, _, e1, E2.up s3, r3, he1, fun σ3 E3 => ⟨Ow2, e1, o, E3, ho, ?_⟩⟩
    cases o with
    | nx e' => exact fun Ow' σ' H'' E' x' => ⟨hlt, Ow', _, E'.clr, x2.trans ((Ex.of_same s3).trans x'), l2⟩
    | ct e' => exact fun Ow' σ' H'' E' x' => ⟨hlt, Ow', _, E'.clr, x2.trans ((Ex.of_same s3).trans x'), l2⟩
    | bk e' => cases l2; exact fun Ow' σ' H'' E' x' => k Ow' σ' H'' E'.clr (xk.trans ((Ex.of_same s3).trans x'))
    | rt p => cases l2; exact k
  · have e : i = ps.length := by omega
    subst e
    rw [List.drop_length] at l2
    cases l2
    exact .inl ⟨w2, k Ow2 σ2 H2 E2 xk⟩
def loopW (c : Env → Option Bool) (ds : List Nat) (body : Env → Option Out) : Nat → Env → Option Out
  | 0, _ => none
  | n + 1, env => (c env).bind fun k => if k = true then (body env).bind fun o => match o with
      | .nx e => loopW c ds body n (clr ds e)
      | .ct e => loopW c ds body n (clr ds e)
      | .bk e => some (.nx (clr ds e))
      | .rt p => some (.rt p)
    else some (.nx env)
def sWhile (n : Nat) (c : Env → Option Bool) (ds : List Nat) (body : Env → Option Out) (env : Env) : Option Out := loopW c ds body n (clr ds env)
@[simp] theorem sWhile_ap (n : Nat) (c : Env → Option Bool) (ds : List Nat) (body : Env → Option Out) (env : Env) : sWhile n c ds body env = (loopW c ds body n (clr ds env)) := id rfl
end
def capE (cap : List (Option Nat)) (env : Env) : Env := cap.map fun o => match o with | some i => (env[i]?).getD none | none => none
@[simp] theorem capE_ap (cap : List (Option Nat)) (env : Env) : capE cap env = (cap.map fun o => match o with | some i => (env[i]?).getD none | none => none) := id rfl
def capG (cap : List (Option Nat)) (G : List Nat) : List Nat := (List.range cap.length).filter fun j => match cap[j]? with | some (some i) => decide (i ∈ G) | _ => false
def BX.in (b : BX) : BX := { b with fx := fun _ => none }
def compL (env : Env) (g : PV → Env → Option Env) (t : Env → Option Bool) (f : Env → Option PV) : List PV → Option (List PV)
  | [] => some []
  | x :: xs => (g x env).bind fun e => (t e).bind fun k => if k = true then (f e).bind fun y => (compL env g t f xs).bind fun ys => some (y :: ys) else compL env g t f xs
def bComp (cap : List (Option Nat)) (src : Env → Option (List PV)) (g : PV → Env → Option Env) (t : Env → Option Bool) (f : Env → Option PV) (env : Env) : Option PV := (src env).bind fun xs => if xs.length ≤ 1000000 then (compL (capE cap env) g t f xs).bind fun ys => some (.lst ys) else none
@[simp] theorem bComp_ap (cap : List (Option Nat)) (src : Env → Option (List PV)) (g : PV → Env → Option Env) (t : Env → Option Bool) (f : Env → Option PV) (env : Env) : bComp cap src g t f env = ((src env).bind fun xs => if xs.length ≤ 1000000 then (compL (capE cap env) g t f xs).bind fun ys => some (.lst ys) else none) := id rfl
def tTrue (env : Env) : Option Bool := some true
@[simp] theorem tTrue_ap (env : Env) : tTrue env = (some true) := id rfl
theorem capG_mem {cap : List (Option Nat)} {G : List Nat} {j : Nat} : j ∈ capG cap G ↔ ∃ i, cap[j]? = some (some i) ∧ i ∈ G := by
  unfold capG
  rw [List.mem_filter, List.mem_range]
  constructor
  · rintro ⟨h1, h2⟩
    split at h2
    · rename_i i e; exact ⟨i, e, by simpa using h2⟩
    · cases h2
  · rintro ⟨i, e, h⟩
    refine ⟨(List.getElem?_eq_some_iff.mp e).1, ?_⟩
    rw [e]; simpa using h
theorem capE_get {cap : List (Option Nat)} {env : Env} {j : Nat} {p : PV} (h : (capE cap env)[j]? = some (some p)) : ∃ i, cap[j]? = some (some i) ∧ env[i]? = some (some p) := by
  unfold capE at h
  rw [List.getElem?_map] at h
  cases q : cap[j]? with
  | none => rw [q] at h; cases h
  | some o =>
    rw [q] at h
    cases o with
    | none => cases h
    | some i =>
      refine ⟨i, rfl, ?_⟩
      have h' : (env[i]?).getD none = some p := by simpa using h
      cases q2 : env[i]? with
      | none => rw [q2] at h'; cases h'
      | some o => rw [q2] at h'; simp at h'; rw [h']
theorem capSt_get {cap : List (Option Nat)} {σ : St} {j i : Nat} {v : V} (h : cap[j]? = some (some i)) (e : σ[i]? = some (some v)) : (capSt cap σ)[j]? = some (some v) := by
  unfold capSt
  rw [List.getElem?_map, h]
  simp [capV, e]
def capInj (cap : List (Option Nat)) : Bool := (List.range cap.length).all fun j => (List.range cap.length).all fun k => match cap[j]?, cap[k]? with
  | some (some i), some (some i') => decide (i = i' → j = k)
  | _, _ => true
theorem capInj_of {cap : List (Option Nat)} (h : capInj cap = true) {j k i : Nat} (h1 : cap[j]? = some (some i)) (h2 : cap[k]? = some (some i)) : j = k := by
  have a := List.all_eq_true.mp h j (List.mem_range.mpr (List.getElem?_eq_some_iff.mp h1).1)
  have c := List.all_eq_true.mp a k (List.mem_range.mpr (List.getElem?_eq_some_iff.mp h2).1)
  rw [h1, h2] at c
  simpa using c
theorem ER.cap {b : BX} {Ow : Addr → Prop} {G : List Nat} {σ : St} {env : Env} {H : Hp} {cap : List (Option Nat)} (E : ER b Ow G σ env H) (hc : capInj cap = true) : ER b.in Ow (capG cap G) (capSt cap σ) (capE cap env) H := by
  refine ⟨by unfold capSt capE; rw [List.length_map, List.length_map], E.same, E.live, E.new, fun j p e n => ?_, fun j p e n => ?_, fun j k a p q e1 n1 s1 e2 n2 s2 => ?_, fun k v z => by cases z⟩
  · obtain ⟨i, h1, h2⟩ := capE_get e
    obtain ⟨v, h3, h4⟩ := E.val i p h2 fun z => n (capG_mem.mpr ⟨i, h1, z⟩)
    exact ⟨v, capSt_get h1 h3, h4⟩
  · obtain ⟨i, h1, h2⟩ := capE_get e
    obtain ⟨i', h1', hG⟩ := capG_mem.mp n
    rw [h1] at h1'; cases h1'
    obtain ⟨a, h3, h4, h5⟩ := E.own i p h2 hG
    exact ⟨a, capSt_get h1 h3, h4, h5⟩
  · obtain ⟨i, h1, h2⟩ := capE_get e1
    obtain ⟨i', h1', hG⟩ := capG_mem.mp n1
    rw [h1] at h1'; cases h1'
    obtain ⟨k', h3, h4⟩ := capE_get e2
    obtain ⟨k'', h3', hG2⟩ := capG_mem.mp n2
    rw [h3] at h3'; cases h3'
    obtain ⟨c, g1, _, _⟩ := E.own i p h2 hG
    obtain ⟨c2, g2, _, _⟩ := E.own k' q h4 hG2
    have t1 := capSt_get (cap := cap) h1 g1
    have t2 := capSt_get (cap := cap) h3 g2
    rw [s1] at t1; cases t1
    rw [s2] at t2; cases t2
    have := E.sep i k' _ p q h2 hG g1 h4 hG2 g2
    subst this
    exact capInj_of hc h1 h3
theorem ER.more {b : BX} {Ow : Addr → Prop} {G : List Nat} {σ : St} {env : Env} {H H' : Hp} {D : Addr} (E : ER b Ow G σ env H) (hD : H D = none) (s : Same H H') (hl : ∃ o, H' D = some o) : ER b (fun c => Ow c ∨ c = D) G σ env H' ∧ Ex (Bs b Ow) H (Bs b fun c => Ow c ∨ c = D) H' := by
  have hx : Ex (Bs b Ow) H (Bs b fun c => Ow c ∨ c = D) H' := fun c o h => ⟨fun q => ⟨s _ _ h, fun z => z.elim q.1 (ne_of_none h hD), q.2⟩, fun _ => s _ _ h⟩
  exact ⟨⟨E.len, E.same.trans s, fun c w => w.elim (fun z => let ⟨o, h⟩ := E.live c z; ⟨o, s _ _ h⟩) fun z => by subst z; exact hl, fun c w => w.elim (E.new c) fun z => by subst z; exact E.same.free hD, fun i p e n => let ⟨v, h1, h2⟩ := E.val i p e n; ⟨v, h1, h2.ex hx⟩,
    fun i p e n => let ⟨a, h1, h2, h3⟩ := E.own i p e n; ⟨a, h1, .inl h2, h3.ex hx fun o z => s _ _ z⟩, E.sep, E.fix⟩, hx⟩
structure TgOk (K : PySem.W.Frag) (cap : List (Option Nat)) (g : TG) (gm : PV → Env → Option Env) : Prop where
  go : ∀ (b : BX) (Ow : Addr → Prop) (G : List Nat) (σ : St) (env e : Env) (H : Hp) (v : V) (p : PV) (Q : St → Hp → Prop), b.C.K = K → (∀ i, b.fx i = none) → ER b Ow (capG cap G) (capSt cap σ) (capE cap env) H → Rep b.C (Bs b Ow) H v p → gm p (capE cap env) = some e →
    (∀ σ', Kp (capSt cap σ) σ' → ER b Ow (capG cap G) σ' e H → Q σ' H) → g v (capSt cap σ) H Q
theorem kp_set {σ σ' : St} {i : Nat} {v : V} (h : Kp σ σ') (hn : ∀ w, σ[i]? ≠ some (some w)) : Kp σ (σ'.set i (some v)) := by
  refine ⟨by rw [List.length_set]; exact h.1, fun j w e => ?_⟩
  by_cases hj : i = j
  · subst hj; exact absurd e (hn w)
  · rw [List.getElem?_set_ne hj]; exact h.2 j w e
theorem kp_refl (σ : St) : Kp σ σ := ⟨rfl, fun _ _ e => e⟩
theorem capSt_none {cap : List (Option Nat)} {σ : St} {i : Nat} (h : cap[i]? = some none) (w : V) : (capSt cap σ)[i]? ≠ some (some w) := by
  unfold capSt
  rw [List.getElem?_map, h]
  intro z; cases z
theorem capG_none {cap : List (Option Nat)} {G : List Nat} {i : Nat} (h : cap[i]? = some none) : i ∉ capG cap G := fun z => by
  obtain ⟨k, e, _⟩ := capG_mem.mp z
  rw [h] at e; cases e
theorem tg_n {K : PySem.W.Frag} {cap : List (Option Nat)} (i : Nat) (h : cap[i]? = some none := by rfl) : TgOk K cap (gName i) (gN i) :=
  ⟨fun b Ow G σ env e H v p Q hK hx E r he k => by
    cases he
    exact k _ (kp_set (kp_refl _) (capSt_none h)) (E.set (capG_none h) r (hx _))⟩
section
variable {X : Cx} {b : BX} {G L : List Nat} {ro : Bool} {pos : Pos} {tg iter elt : Expr} {ifs : List Expr} {scope osc : Scope} {ON N : List Str} {cap : List (Option Nat)} {src : Env → Option (List PV)} {g : TG} {gm : PV → Env → Option Env} {t : Env → Option Bool} {f : Env → Option PV}
theorem tcomp {σ : St} {H : Hp} {Q : VK} (tgo : TgOk b.C.K cap g gm) (hc : capInj cap = true) (h : tM b G .own (bComp cap src gm t f) σ H Q) :
    tComp (tMI b G false src) cap g (tMT b.in (capG cap G) t) (tM b.in (capG cap G) .val f) σ H Q := by
  obtain ⟨Ow, env, p, E, hf, k⟩ := h
  obtain ⟨xs, hxs, hf⟩ := bind_some' hf
  split at hf
  · rename_i hlen
    obtain ⟨ys, hys, hf⟩ := bind_some' hf
    cases hf
    refine ⟨Ow, env, xs, E, hxs, fun J H1 s1 iw D hD => ?_⟩
    have E1 := E.up s1
    have nD : H D = none := s1.free hD
    refine ⟨fun i m vs H2 => m = xs.length - i ∧ i ≤ xs.length ∧ Same H1 H2 ∧ H2 D = some (.lst vs) ∧ vs.length ≤ i ∧ ∃ done rest, Reps b.C (Bs b fun c => Ow c ∨ c = D) H2 vs done ∧ compL (capE cap env) gm t f (xs.drop i) = some rest ∧ done ++ rest = ys,
      ⟨xs.length, by simp, Nat.zero_le _, same_new hD _, upd_same, Nat.le_refl _, [], ys, .nil, by simpa using hys, rfl⟩, ?_⟩
    rintro i m vs H2 ⟨rfl, hi, s2, d2, hv, done, rest, rd, cl, hdone⟩
    refine ⟨d2, ?_⟩
    obtain ⟨E2, x2⟩ := E1.more hD s2 ⟨_, d2⟩
    obtain ⟨w1, w2⟩ := iw _ H2 (fun _ => s2) x2 fun a => E2.fresh
    by_cases hlt : i < xs.length
    · rw [List.drop_eq_getElem_cons hlt] at cl
      obtain ⟨e1, he1, cl⟩ := bind_some' cl
      obtain ⟨kk, hk, cl⟩ := bind_some' cl
      obtain ⟨g1, g2⟩ := w1 i xs[i] (List.getElem?_eq_getElem hlt)
      refine .inr ⟨g1, fun vs' H' => i + 1 ≤ xs.length ∧ Same H1 H' ∧ H' D = some (.lst vs') ∧ vs'.length ≤ i + 1 ∧ ∃ done rest, Reps b.C (Bs b fun c => Ow c ∨ c = D) H' vs' done ∧ compL (capE cap env) gm t f (xs.drop (i + 1)) = some rest ∧ done ++ rest = ys, fun vs' H' q => ⟨xs.length - (i + 1), by omega, rfl, q⟩, fun x H' y => ?_⟩
      obtain ⟨s3, r3⟩ := g2 x H' y
      have E3 := (E2.up s3).cap hc
      refine tgo.go b.in _ G σ env e1 H' x _ _ rfl (fun _ => rfl) E3 r3 he1 fun σ3 kp E4 => ⟨kp, _, e1, kk, E4, hk, fun H4 s4 => ?_⟩
      have d4 : H4 D = some (.lst vs) := s4 _ _ (s3 _ _ d2)
      have s24 : Same H2 H4 := s3.trans s4
      cases kk with
      | false =>
        refine iteF ⟨hlt, s2.trans s24, d4, Nat.le_succ_of_le hv, done, rest, rd.ex (.of_same s24), ?_, hdone⟩
        simpa using cl
      | true =>
        simp only [if_true] at cl
        obtain ⟨y1, hy1, cl⟩ := bind_some' cl
        obtain ⟨ys1, hys1, cl⟩ := bind_some' cl
        cases cl
        refine iteT ⟨_, e1, y1, E4.up s4, hy1, fun v5 H5 s5 r5 => ⟨s5 _ _ d4, le_line (by omega), hlt, ?_, upd_same, by rw [List.length_append]; show vs.length + 1 ≤ i + 1; omega, done ++ [y1], ys1, ?_, hys1, by rw [List.append_assoc]; exact hdone⟩⟩
        · exact fun c o h => by rw [upd_ne (ne_of_none h hD)]; exact s5 _ _ (s24 _ _ (s2 _ _ h))
        · have r5' : Rep b.C (Bs b fun c => Ow c ∨ c = D) H5 v5 y1 := r5
          refine ((rd.ex (.of_same (s24.trans s5))).append (.cons r5' .nil)).ex ?_
          exact ex_write (b := b) (Ow := fun c => Ow c ∨ c = D) (.inr rfl) (s5 _ _ d4) rfl
    · have e : i = xs.length := by omega
      subst e
      rw [List.drop_length] at cl
      cases cl
      rw [List.append_nil] at hdone
      subst hdone
      refine .inl ⟨w2, k _ H2 (s1.trans s2) ⟨D, rfl, nD, vs, d2, rd.ex (ex_weak fun c o _ q => ⟨⟨fun z => q.1 (.inl z), q.2⟩, fun z => q.1 (.inr z)⟩)⟩⟩
  · cases hf
theorem sifs_nil {X : Cx} : PIfs X [] (tMT b G tTrue) := fun pins s σ H Q I ⟨Ow, env, k, E, hf, kk⟩ => by cases hf; exact pifs_nil pins s σ H Q I (kk H (Same.refl _))
theorem se_comp (S : CSc osc scope ON N cap) (tgo : TgOk b.C.K cap g gm) (hi : SI X b G false tg iter src) (hg : ∀ C s H fp, PG (X.comp N scope C s H fp) tg g) (ht : ∀ C s H fp, PIfs (X.comp N scope C s H fp) ifs (tMT b.in (capG cap G) t)) (he : ∀ C s H fp, SE (X.comp N scope C s H fp) b.in (capG cap G) .val elt f)
    (hci : capInj cap = true := by rfl) (hc : X.calm = true := by rfl) (hsc : X.env.scope = osc := by rfl) (hN : X.N = ON := by rfl) (hs : ∀ x, foldedSetIterable iter X.env x = pure x := by intro _; rfl) : SE X b G .own (.ListComp elt [⟨tg, iter, ifs, 0⟩] scope pos) (bComp cap src gm t f) :=
  PE.imp (pe_comp S hi hg ht he hc hsc hN hs) fun σ H Q h => tcomp tgo hci h
end
def mDef (n k : Nat) (ro : Bool) (f : Env → Option Out) (ps : List PV) : Option PV := if ps.length = k then (f (ps.map some ++ List.replicate (n - k) none)).bind fun o => match o with
  | .nx _ => if ro = true then none else some .non
  | .rt p => some p
  | _ => none
  else none
@[simp] theorem mDef_ap (n k : Nat) (ro : Bool) (f : Env → Option Out) (ps : List PV) : mDef n k ro f ps = (if ps.length = k then (f (ps.map some ++ List.replicate (n - k) none)).bind fun o => match o with
  | .nx _ => if ro = true then none else some .non
  | .rt p => some p
  | _ => none
  else none) := id rfl
theorem er_start {C : MC} {A : Addr → Prop} {H : Hp} {N : List Str} {vs : List V} {ps : List PV} {G : List Nat} (r : Reps C A H vs ps) (hG : ∀ i, i ∈ G → ps.length ≤ i) (hn : ps.length ≤ N.length) : ER ⟨C, A, H, fun _ => none⟩ (fun _ => False) G (L2.start N vs) (ps.map some ++ List.replicate (N.length - ps.length) none) H := by
  have hl := r.length
  have old : ∀ i p, (ps.map some ++ List.replicate (N.length - ps.length) none)[i]? = some (some p) → ps[i]? = some p := fun i p e => by
    by_cases hi : i < ps.length
    · rw [List.getElem?_append_left (by rw [List.length_map]; exact hi), List.getElem?_map] at e
      cases q : ps[i]? with
      | none => rw [q] at e; cases e
      | some p' => rw [q] at e; cases e; rfl
    · rw [List.getElem?_append_right (by rw [List.length_map]; omega), List.getElem?_replicate] at e
      split at e <;> cases e
  refine ⟨?_, Same.refl _, fun a w => w.elim, fun a w => w.elim, fun i p e n => ?_, fun i p e n => ?_, fun i j a p q e1 n1 s1 e2 n2 s2 => ?_, fun k v z => by cases z⟩
  · unfold L2.start
    simp only [List.length_append, List.length_map, List.length_replicate]
    omega
  · obtain ⟨v, hv, rv⟩ := r.get (old i p e)
    refine ⟨v, ?_, rv.ex (ex_weak fun a o _ q => ⟨fun z => z, .inl q⟩)⟩
    unfold L2.start
    have hi : i < vs.length := (List.getElem?_eq_some_iff.mp hv).1
    rw [List.getElem?_append_left (by rw [List.length_map]; exact hi), List.getElem?_map, hv]
    rfl
  · have h1 := (List.getElem?_eq_some_iff.mp (old i p e)).1
    have h2 := hG i n
    omega
  · have h1 := (List.getElem?_eq_some_iff.mp (old i p e1)).1
    have h2 := hG i n1
    omega
theorem body_ok {X : Cx} {C : MC} {N : List Str} {n k : Nat} {G G' L : List Nat} {ro : Bool} {body : List Stmt} {f : Env → Option Out} (hN : N.length = n) (hk : k ≤ n) (hG : (G.all fun i => decide (k ≤ i)) = true) (hb : ∀ A H, SSs X ⟨C, A, H, fun _ => none⟩ G G' L ro body f)
    {vs : List V} {H : Hp} {Q : VK} {E : XK} (h : spM C (mDef n k ro f) ro vs H Q E) : ∃ t, PSs X body t ∧ t { nx := fun _ H' => Q .non H', rt := Q } (L2.start N vs) H := by
  obtain ⟨A, ps, p, r, hm, kk⟩ := h
  refine ⟨_, hb A H, ?_⟩
  unfold mDef at hm
  split at hm
  · rename_i hl
    obtain ⟨o, ho, hm⟩ := bind_some' hm
    refine ⟨_, _, o, er_start (N := N) (G := G) r (fun i hi => by rw [hl]; simpa using List.all_eq_true.mp hG i hi) (by omega), by rw [hN, hl]; exact ho, ?_⟩
    cases o with
    | nx e =>
      cases ro with
      | true => cases hm
      | false => cases hm; exact fun Ow' σ' H' E' _ => kk .non H' E'.same .non
    | rt q => cases hm; exact fun v H' s rr => kk v H' s rr
    | bk e => cases hm
    | ct e => cases hm
  · cases hm
theorem spM_len {C : MC} {n k : Nat} {f : Env → Option Out} {ro ro' : Bool} {vs : List V} {H : Hp} {Q : VK} {E : XK} (h : spM C (mDef n k ro' f) ro vs H Q E) : vs.length = k := by
  obtain ⟨A, ps, p, r, hm, kk⟩ := h
  unfold mDef at hm
  split at hm
  · rename_i hl; rw [r.length]; exact hl
  · cases hm
def mInit (n k c : Nat) (f : Env → Option Out) (ps : List PV) : Option (List (Str × PV)) := if ps.length + 1 = k then (f (some (.obj c []) :: (ps.map some ++ List.replicate (n - k) none))).bind fun o => match o with
  | .nx (some (.obj c' fs) :: _) => if c' = c then some fs else none
  | _ => none
  else none
@[simp] theorem mInit_ap (n k c : Nat) (f : Env → Option Out) (ps : List PV) : mInit n k c f ps = (if ps.length + 1 = k then (f (some (.obj c []) :: (ps.map some ++ List.replicate (n - k) none))).bind fun o => match o with
  | .nx (some (.obj c' fs) :: _) => if c' = c then some fs else none
  | _ => none
  else none) := id rfl
def bMake (c : Nat) (m : List PV → Option (List (Str × PV))) (g : Env → Option (List PV)) (env : Env) : Option PV := (g env).bind fun ps => (m ps).bind fun fs => some (.obj c fs)
@[simp] theorem bMake_ap (c : Nat) (m : List PV → Option (List (Str × PV))) (g : Env → Option (List PV)) (env : Env) : bMake c m g env = ((g env).bind fun ps => (m ps).bind fun fs => some (.obj c fs)) := id rfl
def bMakeB (c : Nat) (m : List PV → Option (List (Str × PV))) (g : Env → Option (List PV)) (env : Env) : Option PV := (g env).bind fun ps => (m ps).bind fun fs => if noLf fs = true then some (.obj c fs) else none
@[simp] theorem bMakeB_ap (c : Nat) (m : List PV → Option (List (Str × PV))) (g : Env → Option (List PV)) (env : Env) : bMakeB c m g env = ((g env).bind fun ps => (m ps).bind fun fs => if noLf fs = true then some (.obj c fs) else none) := id rfl
section
variable {X : Cx} {b : BX} {G : List Nat} {pos p : Pos} {e : Expr} {es : List Expr} {g : Env → Option (List PV)}
@[simp] def tyN : PV → Option String
  | .non => some "NoneType"
  | .bl _ => some "bool"
  | .int _ => some "int"
  | .str _ => some "str"
  | .lst _ => some "list"
  | .tup _ => some "tuple"
  | .dK _ => some "dict"
  | .dT _ => some "dict"
  | _ => none
def isiV (tb : List (String × Bool)) (p : PV) : Option PV := (tyN p).bind fun t => (tb.lookup t).bind fun k => some (.bl k)
@[simp] theorem isiV_ap (tb : List (String × Bool)) (p : PV) : isiV tb p = ((tyN p).bind fun t => (tb.lookup t).bind fun k => some (.bl k)) := id rfl
theorem RepB.ty {C : MC} {A : Addr → Prop} {H : Hp} {v : V} {p : PV} {t : String} (r : RepB C A H v p) (h : tyN p = some t) : TyOf C.K H v (.type t) := by
  cases p <;> simp only [tyN] at h <;> cases h
  · rw [r.non]; exact .non
  · rw [r.bl]; exact .bl _
  · rw [r.int]; exact .int _
  · rw [r.str]; exact .str _
  · obtain ⟨a, vs, rfl, ha, _⟩ := r.lst; exact .lst ha
  · obtain ⟨a, vs, rfl, ha, _⟩ := r.tup; exact ha.elim (fun q => .tup q) fun q => .tupC q
  · obtain ⟨a, vs, rfl, ha, _⟩ := r.dK; exact .dK ha
  · obtain ⟨a, vs, rfl, ha, _⟩ := r.dT; exact .dT ha
end
end MR
namespace MR
open PySem L2
def BX.fixed (b : BX) (j : Nat) (v : V) : BX := { b with fx := fun i => if i = j then some v else b.fx i }
def loopO (j : Nat) (g : PV → Env → Option Env) (ds : List Nat) (body : Env → Option Out) : Nat → Nat → Env → Option Out
  | 0, _, _ => none
  | n + 1, k, env => match bV j env with
    | some (.lst ys) => match ys[k]? with
      | none => some (.nx env)
      | some y => (g y env).bind fun e1 => (body e1).bind fun o => match o with
        | .nx e => loopO j g ds body n (k + 1) (clr ds e)
        | .ct e => loopO j g ds body n (k + 1) (clr ds e)
        | .bk e => some (.nx (clr ds e))
        | .rt p => some (.rt p)
    | _ => none
def sForO (j n : Nat) (g : PV → Env → Option Env) (ds : List Nat) (body : Env → Option Out) (env : Env) : Option Out := loopO j g ds body n 0 (clr ds env)
@[simp] theorem sForO_ap (j n : Nat) (g : PV → Env → Option Env) (ds : List Nat) (body : Env → Option Out) (env : Env) : sForO j n g ds body env = loopO j g ds body n 0 (clr ds env) := id rfl
section
variable {X : Cx} {b : BX} {G G' L : List Nat} {ro : Bool} {pos : Pos}
theorem ER.free {Ow Ow' : Addr → Prop} {σ σ' : St} {env env' : Env} {H H' : Hp} {j : Nat} {v : V} (E0 : ER b Ow G σ env H) (h : σ[j]? = some (some v)) (E : ER (b.fixed j v) Ow' G' σ' env' H') : ER b Ow' G' σ' env' H' :=
  ⟨E.len, E.same, E.live, E.new, E.val, E.own, E.sep, fun i w e => by
    by_cases hi : i = j
    · subst hi
      have h1 := E0.fix i w e
      rw [h] at h1
      cases h1
      exact E.fix i v (if_pos rfl)
    · exact E.fix i w ((if_neg hi).trans e)⟩
def zipV (xs ys : List PV) : List PV := List.zipWith (fun x y => .tup [x, y]) xs ys
def iZ (f g : Env → Option PV) (env : Env) : Option (List PV) := (f env).bind fun p => (g env).bind fun q => match p, q with
  | .lst xs, .lst ys => some (zipV xs ys)
  | _, _ => none
@[simp] theorem iZ_ap (f g : Env → Option PV) (env : Env) : iZ f g env = ((f env).bind fun p => (g env).bind fun q => match p, q with
  | .lst xs, .lst ys => some (zipV xs ys)
  | _, _ => none) := id rfl
end
end MR
namespace L2
open PySem PySem.Spec PyProof.Rows
section
variable {X : Cx}
end
end L2
namespace MR
open PySem L2
section
variable {X : Cx} {b : BX} {G G' L : List Nat} {ro : Bool} {pos p : Pos} {m m1 m2 : Md} {e e1 e2 : Expr} {f f1 f2 : Env → Option PV}
@[simp] def minV : PV → PV → Option PV
  | .int i, .int j => some (.int (if j < i then j else i))
  | _, _ => none
@[simp] def maxV : PV → PV → Option PV
  | .int i, .int j => some (.int (if j > i then j else i))
  | _, _ => none
@[simp] def endswithV : PV → PV → Option PV
  | .str x, .str y => some (.bl (Txt.endswith x y))
  | _, _ => none
end
end MR
namespace MR
open PySem L2
section
variable {X : Cx} {b : BX} {G G' L : List Nat} {ro : Bool} {pos p : Pos} {m m1 m2 : Md} {e e1 e2 : Expr} {f f1 f2 h : Env → Option PV}
@[simp] def extV : PV → PV → Option PV
  | .lst xs, .lst ys => if xs.length + ys.length ≤ 1000000 then some (.lst (xs ++ ys)) else none
  | _, _ => none
@[simp] def repV : PV → PV → Option PV
  | .lst xs, .int k => if -1000000 ≤ k ∧ k ≤ 1000000 ∧ xs.length * k.toNat ≤ 1000000 then some (.lst (List.replicate k.toNat xs).flatten) else none
  | _, _ => none
theorem Reps.repl {C : MC} {A : Addr → Prop} {H : Hp} {vs : List V} {ps : List PV} (h : Reps C A H vs ps) : ∀ n : Nat, Reps C A H (List.replicate n vs).flatten (List.replicate n ps).flatten
  | 0 => .nil
  | n + 1 => by
    rw [List.replicate_succ, List.replicate_succ, List.flatten_cons, List.flatten_cons]
    exact h.append (Reps.repl h n)
theorem o2_rep : Op2 b .own rRep repV := by
  intro Ow H v1 v2 p1 p2 p Q hn r1 r2 e k
  unfold repV at e
  split at e
  · split at e
    · rename_i h
      cases e
      obtain ⟨a, vs, rfl, ha, ra⟩ := r1.lst
      have e2 := r2.int
      subst e2
      have h63 : (2 ^ 63 : Int) = 9223372036854775808 := by decide
      exact ⟨a, _, vs, rfl, rfl, ha, by omega, by omega, line_le (by rw [ra.length]; exact h.2.2), fun q hq => k _ _ (same_new hq _) (res_new hq (ra.repl _))⟩
    · cases e
  · cases e
theorem se_rep (h1 : SE X b G m1 e1 f1) (h2 : SE X b G m2 e2 f2) : SE X b G .own (.BinOp e1 .Mult e2 pos) (b2 repV f1 f2) := se_op op_rep o2_rep h1 h2
@[simp] def tupleV : PV → Option PV
  | .lst xs => some (.tup xs)
  | .frz xs => some (.tup xs)
  | .tup xs => some (.tup xs)
  | _ => none
theorem se_tuple (hm : X.mg "tuple" = none) (h : SE X b G m1 e f) (hK : X.K = b.C.K := by rfl) (hg : Gl X "tuple" := by rfl) (he : starEach [e] X.env = (false, eval e X.env) :: starEach [] X.env := by rfl) : SE X b G .val (.Call (.Name "tuple" p) [e] [] pos) (b1 tupleV f) := by
  refine se_blty call_tuple_of (fun Ow H v1 p1 p Q hn r1 e k => ?_) hm PyProof.Rows.boot_tuple h hg (by decide) (by decide) he
  rw [hK]
  cases p1 <;> simp only [tupleV] at e <;> cases e
  case lst xs => obtain ⟨a, vs, rfl, ha, ra⟩ := r1.lst; exact ⟨a, vs, rfl, .inl ⟨SqL.of ha, fun l hl => k _ _ (same_new hl _) (res_tup hl ra)⟩⟩
  case frz xs => obtain ⟨a, vs, rfl, ha, ra⟩ := r1.frz; exact ⟨a, vs, rfl, .inl ⟨ha, fun l hl => k _ _ (same_new hl _) (res_tup hl ra)⟩⟩
  case tup xs => obtain ⟨a, vs, rfl, ha, ra⟩ := r1.tup; exact ⟨a, vs, rfl, .inr ⟨ha.sq, k _ _ (Same.refl _) (ha.rep ra)⟩⟩
@[simp] def lrngV : PV → Option PV
  | .int j => if 0 ≤ j ∧ j ≤ 1000000 then some (.lst (rngV 0 j)) else none
  | _ => none
@[simp] def lrevV : PV → Option PV
  | .lst xs => some (.lst xs.reverse)
  | _ => none
def iRv (f : Env → Option PV) (env : Env) : Option (List PV) := (f env).bind fun p => match p with
  | .lst xs => some xs.reverse
  | _ => none
@[simp] theorem iRv_ap (f : Env → Option PV) (env : Env) : iRv f env = ((f env).bind fun p => match p with
  | .lst xs => some xs.reverse
  | _ => none) := id rfl
def dnV (n : Int) : List PV := (List.range (n + 1).toNat).reverse.map fun i => .int (i : Nat)
def iDn (f : Env → Option PV) (env : Env) : Option (List PV) := (f env).bind fun p => match p with
  | .int n => if -1 ≤ n ∧ n ≤ 1000000 then some (dnV n) else none
  | _ => none
@[simp] theorem iDn_ap (f : Env → Option PV) (env : Env) : iDn f env = ((f env).bind fun p => match p with
  | .int n => if -1 ≤ n ∧ n ≤ 1000000 then some (dnV n) else none
  | _ => none) := id rfl
@[simp] def backV : PV → Option PV
  | .lst xs => some (.lst xs.reverse)
  | _ => none
def firstD (d : PyData) : List PyData → Nat → Option Nat
  | [], _ => none
  | e :: es, n => if PyData.eqv e d = true then some n else firstD d es (n + 1)
def idxV (xs : List PV) (y : PV) : Option Nat := match toD y, toDs xs with
  | some d, some ds => if d.canLay0 = true ∧ PyData.canLayAll0 ds = true ∧ d.depth ≤ 32 ∧ ds.length ≤ 1000000 then firstD d ds 0 else none
  | _, _ => none
@[simp] def indexV : PV → PV → Option PV
  | .lst xs, y => (idxV xs y).map fun n => .int (n : Nat)
  | _, _ => none
def sUnp (g : PV → Env → Option Env) (f : Env → Option PV) (env : Env) : Option Out := (f env).bind fun p => (g p env).bind fun e => some (.nx e)
@[simp] theorem sUnp_ap (g : PV → Env → Option Env) (f : Env → Option PV) (env : Env) : sUnp g f env = ((f env).bind fun p => (g p env).bind fun e => some (.nx e)) := id rfl
theorem s_unp {tg : Expr} {g : PV → Env → Option Env} (he : SE X b G .val e h) (hg : SG X b G tg g) (hs : swapsWithSole [tg] e pos.line X.env = pure false := by rfl) (hw : swappedStores [tg] e X.env = pure none := by rfl)
    (h1 : (assignEach [tg] X.env).map (·.2) = [assign tg X.env] := by rfl) : SS X b G G L ro (.Assign [tg] e pos) (sUnp g h) :=
  PS.imp (ps_asg he hg hs hw h1) fun D σ H ⟨Ow, env, o, E, hf, k⟩ => by
    obtain ⟨p, hp, z1⟩ := bind_some' hf
    clear hf
    obtain ⟨env', he', z2⟩ := bind_some' z1
    clear z1
    cases z2
    exact ⟨Ow, env, p, E, hp, fun v H' s r => ⟨Ow, env, p, env', E.up s, r, he', fun σ' E' => k Ow σ' H' E' (.of_same s)⟩⟩
end
end MR
namespace MR
open PySem L2
section
variable {X : Cx} {b : BX} {G G' L : List Nat} {ro : Bool} {pos p p2 pos2 : Pos} {m m1 m2 : Md} {e e1 e2 : Expr} {f f1 f2 h : Env → Option PV}
end
end MR
namespace MR
theorem lenS {α : Type} {n : Nat} {us : List α} (hl : us.length = n + 1) : ∃ a r, us = a :: r ∧ r.length = n := by
  cases us with
  | nil => cases hl
  | cons a r => exact ⟨a, r, rfl, Nat.succ.inj hl⟩
@[elab_as_elim] theorem len0 {α : Type} {P : List α → Prop} (us : List α) (hl : us.length = 0) (h : P []) : P us := by
  cases us with
  | nil => exact h
  | cons a r => cases hl
@[elab_as_elim] theorem len1 {α : Type} {P : List α → Prop} (us : List α) (hl : us.length = 1) (h : ∀ a, P [a]) : P us := by
  obtain ⟨a, r, rfl, hr⟩ := lenS hl
  exact len0 (P := fun r => P (a :: r)) r hr (h a)
@[elab_as_elim] theorem len2 {α : Type} {P : List α → Prop} (us : List α) (hl : us.length = 2) (h : ∀ a b, P [a, b]) : P us := by
  obtain ⟨a, r, rfl, hr⟩ := lenS hl
  exact len1 (P := fun r => P (a :: r)) r hr (h a)
end MR
namespace MR
open PySem L2
@[simp] def seqV : PV → Option (List PV)
  | .lst xs => some xs
  | .frz xs => some xs
  | .tup xs => some xs
  | .ktp xs => some xs
  | _ => none
def kd : PV → SK
  | .tup _ => .T
  | .ktp _ => .T
  | _ => .L
def iZ2 (f g : Env → Option PV) (env : Env) : Option (List PV) := (f env).bind fun p => (g env).bind fun q => (seqV p).bind fun xs => (seqV q).bind fun ys => some (zipV xs ys)
@[simp] theorem iZ2_ap (f g : Env → Option PV) (env : Env) : iZ2 f g env = ((f env).bind fun p => (g env).bind fun q => (seqV p).bind fun xs => (seqV q).bind fun ys => some (zipV xs ys)) := id rfl
section
variable {X : Cx} {b : BX} {G G' L : List Nat} {ro : Bool} {pos p : Pos} {m m1 m2 : Md} {e e1 e2 : Expr}
theorem seq_keep {Ow : Addr → Prop} {σ : St} {env : Env} {H H2 : Hp} {fr : Bool} {v : V} {p : PV} {xs : List PV} (E : ER b Ow G σ env H) (r : Res b Ow H H2 m v p) (hmd : fr = true → m ≠ .bor) (hs : seqV p = some xs) :
    ∃ a vs, v = .ref a ∧ SK.sq (kd p) b.C.K H2 a vs ∧ Reps b.C (Bs b Ow) H2 vs xs ∧ ∀ Ow' H3, (fr = false → Same H2 H3) → Ex (Bs b Ow) H2 (Bs b Ow') H3 → SK.sq (kd p) b.C.K H3 a vs ∧ Reps b.C (Bs b Ow') H3 vs xs := by
  have b1 : RepB b.C (Bs b Ow) H2 v p := r.bor
  unfold seqV at hs
  split at hs
  · cases hs
    obtain ⟨a, vs, rfl, ha, ra⟩ := b1.lst
    refine ⟨a, vs, rfl, SqL.of ha, ra, fun Ow' H3 h0 hx => ?_⟩
    have hq : H3 a = some (.lst vs) := by
      cases fr with
      | false => exact h0 rfl _ _ ha
      | true =>
        have rv : Rep b.C (Bs b Ow) H2 (.ref a) (.lst _) := r.val E (hmd rfl)
        cases rv with
        | lst q1 q2 q3 => rw [ha] at q1; cases q1; exact ((hx _ _ ha).1 q2).1
    exact ⟨SqL.of hq, ra.ex hx⟩
  · cases hs
    have r1 : Rep b.C (Bs b Ow) H2 v (.frz _) := (by rcases b1 with z | ⟨_, _, z⟩; exact z; exact z.elim)
    cases r1 with
    | lstF q1 q3 => exact ⟨_, _, rfl, .inl (.inr ⟨_, q1⟩), q3, fun Ow' H3 h0 hx => ⟨.inl (.inr ⟨_, (hx _ _ q1).2 rfl⟩), q3.ex hx⟩⟩
    | lstK q1 q3 => exact ⟨_, _, rfl, sqK q1, q3, fun Ow' H3 h0 hx => ⟨sqK q1, q3.ex hx⟩⟩
  · cases hs
    obtain ⟨a, vs, rfl, ha, ra⟩ := b1.tup
    exact ⟨a, vs, rfl, ha.sq, ra, fun Ow' H3 h0 hx => ⟨(ha.ex hx).sq, ra.ex hx⟩⟩
  · cases hs
    have r1 : Rep b.C (Bs b Ow) H2 v (.ktp _) := (by rcases b1 with z | ⟨_, _, z⟩; exact z; exact z.elim)
    cases r1 with
    | tupK q1 q3 => exact ⟨_, _, rfl, sqTK q1, q3, fun Ow' H3 h0 hx => ⟨sqTK q1, q3.ex hx⟩⟩
  · cases hs
theorem PI.all {α : Type} {tg iter : Expr} {wi : α → TI} (h : ∀ a, PI X tg iter (wi a)) : PI X tg iter (fun σ H R => ∃ a, wi a σ H R) := fun pins s σ H R I ⟨a, q⟩ => h a pins s σ H R I q
end
end MR
namespace MR
open PySem L2
section
variable {X : Cx} {b : BX} {G G' L : List Nat} {pos p p2 pos2 : Pos} {m m1 m2 : Md} {e : Expr} {f : Env → Option PV}
@[simp] def lensetV : PV → Option PV
  | .tup xs => (strsP xs).bind fun ws => if ws.length ≤ 1000 then some (.int (unlike ws : Nat)) else none
  | _ => none
theorem lensetV_some {x q : PV} (h : lensetV x = some q) : ∃ xs ws, x = .tup xs ∧ strsP xs = some ws ∧ ws.length ≤ 1000 ∧ q = .int (unlike ws : Nat) := by
  unfold lensetV at h
  split at h
  · obtain ⟨ws, h1, h2⟩ := bind_some' h
    split at h2
    · cases h2; exact ⟨_, ws, rfl, h1, ‹_›, rfl⟩
    · cases h2
  · cases h
theorem se_lenset (hm : X.mg "len" = none) (hm2 : X.mg "set" = none) (h : SE X b G m1 e f) (hb : bootBuiltins "set" = some (.type "set") := by decide +kernel) (hK : X.K = b.C.K := by rfl) (hc : X.calm = true := by rfl) (hg : Gl X "len" := by rfl) (hg2 : Gl X "set" := by rfl) (hs' : starEach [e] X.env = (false, eval e X.env) :: starEach [] X.env := by rfl) (hp2 : (backTo pos2 (starEach [] X.env)).any (·.1) = false := by rfl)
    (hs2 : starEach [.Call (.Name "set" p2) [e] [] pos2] X.env = (false, eval (.Call (.Name "set" p2) [e] [] pos2) X.env) :: starEach [] X.env := by rfl) (hpl : (backTo pos (starEach [] X.env)).any (·.1) = false := by rfl) :
    SE X b G .val (.Call (.Name "len" p) [.Call (.Name "set" p2) [e] [] pos2] [] pos) (b1 lensetV f) := by
  refine PE.imp (pe_lenset hg hm hg2 hm2 hb hc (pa_cons h.bor pa_nil hs') hs' hp2 hs2 hpl) fun σ H Q ⟨Ow, env, q, E, hf, k⟩ => ?_
  rw [hK]
  obtain ⟨x, hx, hf⟩ := bind_some' hf
  obtain ⟨xs, ws, rfl, h1, h2, rfl⟩ := lensetV_some hf
  refine ⟨Ow, env, _, E, hx, fun v H1 s r => ?_⟩
  have r1 : RepB b.C (Bs b Ow) H1 v (.tup xs) := r
  obtain ⟨a, vs, rfl, ha, ra⟩ := r1.tup
  have ev := ra.strsP h1
  subst ev
  exact ⟨a, ws, rfl, ha.sq, h2, k _ H1 s (.int _)⟩
end
end MR
namespace L2
open PySem PyProof
section
variable {X : Cx}
theorem strsAre_vals : ∀ {zs : List Str} {us : List Value}, Vals (zs.map V.str) us → PyProof.Rows.StrsAre us zs
  | [], _, r => by cases r; constructor
  | z :: zs, _, r => by cases r with | cons h t => obtain ⟨t', rfl⟩ := h; exact .cons _ _ (strsAre_vals t)
def rJoin2 (K : PySem.W.Frag) : V → List V → Hp → VK → Prop := fun x vs H Q => rJoin K x vs H Q ∨ ∃ z l zs, x = .str z ∧ vs = [.ref l] ∧ SqT K H l (zs.map V.str) ∧ z.length ≤ 64 ∧ (zs.map (·.length)).sum + zs.length * 64 ≤ 16777216 ∧ Q (.str (Str.join z zs)) H
theorem mt_join2 : MtR X "str.join" (rJoin2 X.K) := by
  intro pins s σ H x vs v us Q I rx rv h
  rcases h with h | h
  · exact mt_join _ _ _ _ _ _ _ _ _ I rx rv h
  obtain ⟨z, l, zs, rfl, rfl, hl, h1, h2, q⟩ := h
  obtain ⟨t, rfl⟩ := rx
  obtain ⟨u, rfl, ru⟩ := rv.one
  cases ru
  obtain ⟨its, r, p, _⟩ := I.tuple hl
  refine PyProof.Rows.join_tupleC p (strsAre_vals r) h1 h2 fun t' k => ⟨.str (Str.join z zs), H, I.tok _, ⟨t', ?_⟩, q⟩
  unfold Txt.join
  rw [StrLaws.glued_eq_join]
end
end L2
namespace MR
open PySem L2
section
variable {X : Cx} {b : BX} {G G' L : List Nat} {pos p p2 pos2 : Pos} {m m1 m2 : Md} {e : Expr} {f : Env → Option PV}
@[simp] def joinV2 : PV → PV → Option PV
  | .str z, .tup xs => (strsP xs).bind fun zs => if z.length ≤ 64 ∧ (zs.map (·.length)).sum + zs.length * 64 ≤ 16777216 then some (.str (Str.join z zs)) else none
  | x, y => joinV x y
theorem o2_join2 : Op2 b .val (fun x y H Q => (∃ z, x = .str z) → rJoin2 b.C.K x [y] H Q) joinV2 := by
  intro Ow H v1 v2 p1 p2 p Q hn r1 r2 e k hz
  unfold joinV2 at e
  split at e
  · rename_i z xs
    obtain ⟨zs, q, e⟩ := bind_some' e
    split at e
    · rename_i hj
      cases e
      obtain ⟨a, vs, rfl, ha, ra⟩ := r2.tup
      have hv := ra.strsP q
      subst hv
      exact .inr ⟨z, a, zs, r1.str, rfl, ha.sq, hj.1, hj.2, k _ H (Same.refl _) (.str _)⟩
    · cases e
  · exact .inl (o2_join Ow H v1 v2 _ _ p Q hn r1 r2 e k hz)
theorem se_join2 {apos cpos : Pos} {o : Expr} {fo : Env → Option PV} (ho : SE X b G m1 o fo) (h : SE X b G m2 e f) (hK : X.K = b.C.K := by rfl) (hbase : attributeBase o "join" X.env (eval o X.env) = eval o X.env := by rfl)
    (hfew : ((backTo cpos (starEach [e] X.env)).all (fun x => !x.1) && (backToKw cpos (keywordEach [] X.env)).all (fun x => x.1.isSome)
      && decide ([e].length + ([] : List Keyword).length + (if ([] : List Keyword).isEmpty then 0 else 1) < 30)) = true := by rfl)
    (hline : (apos.endLine == cpos.line) = true := by rfl) (hs : starEach [e] X.env = (false, eval e X.env) :: starEach [] X.env := by rfl) :
    SE X b G .val (.Call (.Attribute o "join" apos) [e] [] cpos) (b2 joinV2 fo f) :=
  se_sm PySem.F.slot_str_join PySem.F.type_str_join PySem.F.plainAttrs_str (r := rJoin2 b.C.K) (by rw [← hK]; exact mt_join2) o2_join2 (fun x y p e => by
    unfold joinV2 at e
    split at e
    · exact ⟨_, rfl⟩
    · unfold joinV at e
      split at e
      · exact ⟨_, rfl⟩
      · cases e) ho h hbase hfew hline hs
end
end MR
namespace L2
open PySem PySem.Spec PyProof PyProof.Rows
section
variable {X : Cx}
end
end L2
namespace MR
open PySem L2
section
variable {X : Cx} {b : BX} {G G' L : List Nat} {pos p p2 pos2 : Pos} {m m1 m2 : Md} {e : Expr} {f : Env → Option PV}
@[simp] def intsP : List PV → Option (List Int)
  | [] => some []
  | .int c :: r => (intsP r).map (c :: ·)
  | _ :: _ => none
theorem Reps.intsP {C : MC} {A : Addr → Prop} {H : Hp} : ∀ {vs : List V} {ps : List PV} {bs : List Int}, Reps C A H vs ps → intsP ps = some bs → vs = bs.map V.int
  | _, _, _, .nil, e => by cases e; rfl
  | _, _, _, .cons (p := p) (ps := ps) h t, e => by
    cases p <;> simp only [MR.intsP] at e <;> first | cases e | skip
    rename_i c
    cases q : MR.intsP ps with
    | none => rw [q] at e; cases e
    | some bs => rw [q] at e; cases e; cases h; rw [Reps.intsP t q]; rfl
@[simp] def sumV : PV → Option PV
  | .lst xs => (intsP xs).map fun ns => .int ns.sum
  | _ => none
end
end MR
namespace MR
open PySem L2
section
variable {X : Cx} {b : BX} {G G' L : List Nat} {ro : Bool} {pos p p2 pos2 : Pos} {m m1 m2 : Md} {e : Expr} {f : Env → Option PV}
def sMv (i j : Nat) (env : Env) : Option Out := (bV j env).bind fun p => some (.nx ((env.set i (some p)).set j none))
@[simp] theorem sMv_ap (i j : Nat) (env : Env) : sMv i j env = ((bV j env).bind fun p => some (.nx ((env.set i (some p)).set j none))) := id rfl
end
end MR
namespace MR
open PySem L2
section
variable {X : Cx} {b : BX} {G G' L : List Nat} {ro : Bool} {pos p p2 pos2 : Pos} {m m1 m2 : Md} {e : Expr} {h : Env → Option PV}
def iRv2 (f : Env → Option PV) (env : Env) : Option (List PV) := (f env).bind fun p => (seqV p).bind fun xs => some xs.reverse
@[simp] theorem iRv2_ap (f : Env → Option PV) (env : Env) : iRv2 f env = ((f env).bind fun p => (seqV p).bind fun xs => some xs.reverse) := id rfl
end
end MR
namespace MR
open PySem L2
@[simp] def seqS : PV → Option (List PV)
  | .str x => some (chV x)
  | p => seqV p
def iZ3 (f g : Env → Option PV) (env : Env) : Option (List PV) := (f env).bind fun p => (g env).bind fun q => (seqS p).bind fun xs => (seqV q).bind fun ys => some (zipV xs ys)
@[simp] theorem iZ3_ap (f g : Env → Option PV) (env : Env) : iZ3 f g env = ((f env).bind fun p => (g env).bind fun q => (seqS p).bind fun xs => (seqV q).bind fun ys => some (zipV xs ys)) := id rfl
section
variable {X : Cx} {b : BX} {G G' L : List Nat} {ro : Bool} {pos p : Pos} {m m1 m2 : Md} {e e1 e2 : Expr}
end
end MR
namespace MR
open PySem L2
section
variable {X : Cx} {b : BX} {G : List Nat} {pos : Pos} {m1 m2 m3 : Md} {e1 e2 e3 : Expr} {f1 f2 f3 : Env → Option PV}
end
end MR
namespace MR
open PySem L2
section
variable {X : Cx} {b : BX} {G G' L : List Nat} {pos p p2 pos2 : Pos} {m m1 m2 : Md} {e1 e2 : Expr} {f1 f2 : Env → Option PV}
@[simp] def ltV2 : PV → PV → Option PV
  | .int i, .int j => some (.bl (decide (i < j)))
  | .lst xs, .lst ys => (intsP xs).bind fun ns => (intsP ys).bind fun ms => some (.bl (HT.lexLt ns ms))
  | _, _ => none
theorem o2_lt2 : Op2 b .val (fun x y H Q => rI0 (fun i j => .bl (decide (i < j))) x y H Q ∨ rLtL b.C.K x y H Q) ltV2 := by
  intro Ow H v1 v2 p1 p2 p Q hn r1 r2 e k
  unfold ltV2 at e
  split at e
  · cases e
    rw [r1.int, r2.int]
    exact .inl ⟨_, _, rfl, rfl, k _ H (Same.refl _) (.bl _)⟩
  · rename_i xs ys
    obtain ⟨a, vs, rfl, ha, ra⟩ := r1.lst
    obtain ⟨c, ws, rfl, hc, rc⟩ := r2.lst
    obtain ⟨ns, q1, e⟩ := bind_some' e
    obtain ⟨ms, q2, e⟩ := bind_some' e
    cases e
    have h1 := ra.intsP q1
    have h2 := rc.intsP q2
    subst h1 h2
    exact .inr ⟨a, c, ns, ms, rfl, rfl, SqL.of ha, SqL.of hc, k _ H (Same.refl _) (.bl _)⟩
  · cases e
theorem sc_lt2 {j : Nat} (hr : Room j X.A) (h1 : SE X b G m1 e1 f1) (h2 : SE X b G m2 e2 f2) (hK : X.K = b.C.K := by rfl) : SC X b G .Lt e1 e2 (b2 ltV2 f1 f2) :=
  sc_of (r := fun x y H Q => rI0 (fun i j => .bl (decide (i < j))) x y H Q ∨ rLtL b.C.K x y H Q) (by rw [← hK]; exact OpR.or op_lt (op_ltL hr.units0)) o2_lt2 h1 h2 (nomark _)
end
end MR
namespace MR
open PySem L2
def iE2 (f : Env → Option PV) (env : Env) : Option (List PV) := (f env).bind fun p => (seqV p).bind fun xs => some (enumV 0 xs)
@[simp] theorem iE2_ap (f : Env → Option PV) (env : Env) : iE2 f env = ((f env).bind fun p => (seqV p).bind fun xs => some (enumV 0 xs)) := id rfl
section
variable {X : Cx} {b : BX} {G G' L : List Nat} {ro : Bool} {pos p : Pos} {m m1 m2 : Md} {e e1 e2 : Expr}
theorem si_enum2 {fr : Bool} {h : Env → Option PV} {es : List Expr} {x1 : Nat} {tpos : Pos} (hm : X.mg "enumerate" = none) (he : SE X b G m e h) (hmd : fr = true → m ≠ .bor := by simp) (hK : X.K = b.C.K := by rfl) (hg : Gl X "enumerate" := by rfl) (hs : starEach [e] X.env = [(false, eval e X.env)] := by rfl) (hs' : starEach [e] X.env = (false, eval e X.env) :: starEach [] X.env := by rfl) :
    SI X b G fr (.Tuple es x1 tpos) (.Call (.Name "enumerate" p) [e] [] pos) (iE2 h) := by
  refine PI.imp (PI.all fun k : SK => pi_enumK (k := k) hg hm (pa_cons he pa_nil hs') hs) fun σ H R ⟨Ow, env, ps, E, hf, k⟩ => ?_
  rw [hK]
  obtain ⟨p1, hp1, z1⟩ := bind_some' hf
  clear hf
  obtain ⟨xs, hxs, z4⟩ := bind_some' z1
  clear z1
  cases z4
  refine ⟨kd p1, Ow, env, p1, E, hp1, fun v H1 s r => ?_⟩
  obtain ⟨a, vs, rfl, qa, ra, ka⟩ := seq_keep (fr := fr) E r hmd hxs
  refine ⟨a, rfl, ⟨vs, qa⟩, k _ _ s fun Ow' H3 h0 hx hn => ?_⟩
  obtain ⟨qa', ra'⟩ := ka Ow' H3 h0 hx
  refine ⟨fun i p hp' => ?_, ⟨vs, qa', by rw [enumV_length, ra'.length]⟩⟩
  obtain ⟨x, hx', rfl⟩ := enumV_get hp'
  obtain ⟨v, hv, rv⟩ := ra'.get hx'
  refine ⟨⟨vs, v, qa', hv⟩, fun y H' yl => ?_⟩
  obtain ⟨t, x', ht, e1, e2, yl⟩ := yl
  subst e1 e2
  have e3 := yl vs qa'
  rw [hv] at e3
  cases e3
  refine ⟨same_new ht _, .tup upd_same (.cons ?_ (.cons (rv.ex (.of_same (same_new ht _))) .nil))⟩
  rw [Nat.zero_add]
  exact .int _
end
end MR
namespace HT
open PySem PyProof.Rows
section
open PySem.SeqAt
open PySem.AutoSeq1 (wpAny_loadPart')
open PySem.MeetsSeq PySem.MeetsSeq2 PySem.MeetsSeq3
end
section
variable {A : Around} {s : Shared}
end
end HT
namespace HT
open PySem PyProof.Rows
def ltTwo (n1 n2 m1 m2 : List Int) : Bool := if n1 = m1 then lexLt n2 m2 else lexLt n1 m1
end HT
namespace L2
open PySem PyProof.Rows
section
variable {X : Cx}
end
end L2
namespace MR
open PySem L2
inductive Inn (C : MC) (A : Addr → Prop) (H : Hp) : List Addr → List (List PV) → Prop
  | nil : Inn C A H [] []
  | cons {c : Addr} {cs : List Addr} {us : List V} {ys : List PV} {yss : List (List PV)} : H c = some (.lst us) → Reps C A H us ys → Inn C A H cs yss → Inn C A H (c :: cs) (ys :: yss)
theorem Inn.ex {C : MC} {A A' : Addr → Prop} {H H' : Hp} (e : Ex A H A' H') : ∀ {cs : List Addr} {yss : List (List PV)}, (∀ c ∈ cs, H' c = H c) → Inn C A H cs yss → Inn C A' H' cs yss
  | _, _, _, .nil => .nil
  | _, _, h, .cons q r t => .cons ((h _ List.mem_cons_self).trans q) (r.ex e) (Inn.ex e (fun c hc => h c (List.mem_cons_of_mem _ hc)) t)
theorem Inn.live {C : MC} {A : Addr → Prop} {H : Hp} : ∀ {cs : List Addr} {yss : List (List PV)}, Inn C A H cs yss → ∀ c ∈ cs, ∃ us, H c = some (.lst us)
  | _, _, .nil, c, hc => by cases hc
  | _, _, .cons q r t, c, hc => by
    rcases List.mem_cons.mp hc with z | z
    · subst z; exact ⟨_, q⟩
    · exact Inn.live t c z
theorem Inn.length {C : MC} {A : Addr → Prop} {H : Hp} : ∀ {cs : List Addr} {yss : List (List PV)}, Inn C A H cs yss → cs.length = yss.length
  | _, _, .nil => rfl
  | _, _, .cons q r t => by rw [List.length_cons, List.length_cons, Inn.length t]
theorem Inn.reps {C : MC} {A A' : Addr → Prop} {H : Hp} (e : Ex A H A' H) : ∀ {cs : List Addr} {yss : List (List PV)}, (∀ c ∈ cs, A' c) → Inn C A H cs yss → Reps C A' H (cs.map V.ref) (yss.map PV.lst)
  | _, _, _, .nil => .nil
  | _, _, h, .cons q r t => .cons (.lst q (h _ List.mem_cons_self) (r.ex e)) (Inn.reps e (fun c hc => h c (List.mem_cons_of_mem _ hc)) t)
theorem Inn.get {C : MC} {A : Addr → Prop} {H : Hp} : ∀ {cs : List Addr} {yss : List (List PV)} {j : Nat} {ys : List PV}, Inn C A H cs yss → yss[j]? = some ys → ∃ c us, cs[j]? = some c ∧ H c = some (.lst us) ∧ Reps C A H us ys
  | _, _, _, _, .nil, e => by simp at e
  | _, _, 0, _, .cons q r t, e => by simp at e; subst e; exact ⟨_, _, rfl, q, r⟩
  | _, _, j + 1, _, .cons q r t, e => by
    obtain ⟨c, us, h1, h2, h3⟩ := Inn.get t (j := j) (by simpa using e)
    exact ⟨c, us, by simpa using h1, h2, h3⟩
theorem Inn.set {C : MC} {A : Addr → Prop} {H H' : Hp} {us : List V} {ys : List PV} (e : Ex A H A H') (r' : Reps C A H' us ys) : ∀ {cs : List Addr} {yss : List (List PV)} {j : Nat} {c : Addr}, cs.Nodup → cs[j]? = some c → H' c = some (.lst us) → (∀ x ∈ cs, x ≠ c → H' x = H x) → Inn C A H cs yss → Inn C A H' cs (yss.set j ys)
  | _, _, _, _, _, h, _, _, .nil => by simp at h
  | _, _, 0, _, nd, h, hc, k, .cons q r t => by
    simp at h
    subst h
    rw [List.nodup_cons] at nd
    exact .cons hc r' (Inn.ex e (fun x hx => k x (List.mem_cons_of_mem _ hx) fun z => nd.1 (z ▸ hx)) t)
  | _, _, j + 1, _, nd, h, hc, k, .cons q r t => by
    rw [List.nodup_cons] at nd
    have h' := h
    rw [List.getElem?_cons_succ] at h'
    have hm := List.mem_of_getElem? h'
    exact .cons ((k _ List.mem_cons_self fun z => nd.1 (z ▸ hm)).trans q) (r.ex e) (Inn.set e r' (j := j) nd.2 h' hc (fun x hx => k x (List.mem_cons_of_mem _ hx)) t)
def bn (b : BX) (i : Nat) (a : Addr) (cs : List Addr) (H : Hp) : BX := ⟨b.C, fun x => b.A x ∧ x ∉ a :: cs, fun x => if x ∈ a :: cs then H x else b.H0 x, fun j => if j = i then some (.ref a) else b.fx j⟩
def KN (b : BX) (Ow : Addr → Prop) (a : Addr) (cs : List Addr) (x : Addr) : Prop := Bs b Ow x ∧ x ∉ a :: cs
theorem bn_eq {b : BX} {i : Nat} {a : Addr} {cs : List Addr} {H H' : Hp} (h : ∀ x ∈ a :: cs, H' x = H x) : bn b i a cs H' = bn b i a cs H := by
  unfold bn
  congr 1
  funext x
  by_cases hx : x ∈ a :: cs
  · rw [if_pos hx, if_pos hx, h x hx]
  · rw [if_neg hx, if_neg hx]
theorem bn_bs {b : BX} {i : Nat} {a : Addr} {cs : List Addr} {H : Hp} {Ow : Addr → Prop} (lv : ∀ x ∈ a :: cs, ∃ o, H x = some o) {x : Addr} : Bs (bn b i a cs H) Ow x ↔ KN b Ow a cs x := by
  constructor
  · rintro ⟨n, (⟨h, z⟩ | h)⟩
    · exact ⟨⟨n, .inl h⟩, z⟩
    · have h' : (if x ∈ a :: cs then H x else b.H0 x) = none := h
      by_cases hx : x ∈ a :: cs
      · rw [if_pos hx] at h'
        obtain ⟨o, e⟩ := lv x hx
        rw [h'] at e; cases e
      · rw [if_neg hx] at h'
        exact ⟨⟨n, .inr h'⟩, hx⟩
  · rintro ⟨⟨n, (h | h)⟩, z⟩
    · exact ⟨n, .inl ⟨h, z⟩⟩
    · exact ⟨n, .inr (by show (if x ∈ a :: cs then H x else b.H0 x) = none; rw [if_neg z]; exact h)⟩
structure EN (b : BX) (Ow : Addr → Prop) (G : List Nat) (i : Nat) (σ : St) (env : Env) (H : Hp) (a : Addr) (cs : List Addr) (yss : List (List PV)) : Prop where
  val : env[i]? = some (some (.lst (yss.map PV.lst)))
  top : H a = some (.lst (cs.map V.ref))
  nd : (a :: cs).Nodup
  new : ∀ x ∈ a :: cs, b.H0 x = none
  inn : Inn b.C (KN b Ow a cs) H cs yss
  er : ER (bn b i a cs H) Ow G σ (env.set i none) H
section
variable {b : BX} {Ow : Addr → Prop} {G : List Nat} {i : Nat} {σ : St} {env : Env} {H H' : Hp} {a : Addr} {cs : List Addr} {yss : List (List PV)}
theorem EN.live (E : EN b Ow G i σ env H a cs yss) : ∀ x ∈ a :: cs, ∃ o, H x = some o := fun x hx => by
  rcases List.mem_cons.mp hx with z | z
  · subst z; exact ⟨_, E.top⟩
  · obtain ⟨us, h⟩ := E.inn.live x z; exact ⟨_, h⟩
theorem EN.slot (E : EN b Ow G i σ env H a cs yss) : σ[i]? = some (some (.ref a)) := E.er.fix i (.ref a) (by show (if i = i then _ else _) = _; rw [if_pos rfl])
theorem EN.not_ow (E : EN b Ow G i σ env H a cs yss) : ∀ x ∈ a :: cs, ¬ Ow x := fun x hx w => by
  have h := E.er.new x w
  have h' : (if x ∈ a :: cs then H x else b.H0 x) = none := h
  rw [if_pos hx] at h'
  obtain ⟨o, e⟩ := E.live x hx
  rw [h'] at e; cases e
theorem EN.of {Ow' : Addr → Prop} {σ' : St} {e : Env} (E : EN b Ow G i σ env H a cs yss) (E' : ER (bn b i a cs H) Ow' G σ' e H') (x : Ex (Bs (bn b i a cs H) Ow) H (Bs (bn b i a cs H) Ow') H') :
    EN b Ow' G i σ' (e.set i (some (.lst (yss.map PV.lst)))) H' a cs yss ∧ Ex (KN b Ow a cs) H (KN b Ow' a cs) H' := by
  have st : ∀ y ∈ a :: cs, H' y = H y := fun y hy => by
    obtain ⟨o, h⟩ := E.live y hy
    rw [h]
    exact E'.same y o (by show (if y ∈ a :: cs then H y else b.H0 y) = some o; rw [if_pos hy]; exact h)
  have lv' : ∀ y ∈ a :: cs, ∃ o, H' y = some o := fun y hy => by rw [st y hy]; exact E.live y hy
  have x' : Ex (KN b Ow a cs) H (KN b Ow' a cs) H' := fun c o hc => ⟨fun q => by
    obtain ⟨h1, h2⟩ := (x c o hc).1 ((bn_bs E.live).mpr q)
    exact ⟨h1, (bn_bs E.live).mp h2⟩, (x c o hc).2⟩
  have hl : i < e.length := by
    have h := E'.fix i (.ref a) (by show (if i = i then _ else _) = _; rw [if_pos rfl])
    rw [← E'.len]
    rcases Nat.lt_or_ge i σ'.length with z | z
    · exact z
    · rw [List.getElem?_eq_none z] at h; cases h
  refine ⟨⟨by rw [List.getElem?_set_self hl], by rw [st a List.mem_cons_self]; exact E.top, E.nd, E.new, E.inn.ex x' fun c hc => st c (List.mem_cons_of_mem _ hc), ?_⟩, x'⟩
  rw [bn_eq st, List.set_set]
  exact E'.forget i
theorem EN.up (E : EN b Ow G i σ env H a cs yss) (s : Same H H') : EN b Ow G i σ env H' a cs yss := by
  have h := (E.of (E.er.up s) (.of_same s)).1
  rw [List.set_set] at h
  have hl : i < env.length := by
    rcases Nat.lt_or_ge i env.length with z | z
    · exact z
    · have := E.val; rw [List.getElem?_eq_none z] at this; cases this
  have e : env.set i (some (.lst (yss.map PV.lst))) = env := by
    refine List.ext_getElem? fun j => ?_
    by_cases hj : i = j
    · subst hj; rw [List.getElem?_set_self hl, E.val]
    · rw [List.getElem?_set_ne hj]
  rw [e] at h
  exact h
theorem EN.out (E : EN b Ow G i σ env H a cs yss) (hi : i ∉ G) (hx : b.fx i = none) : ER b Ow G σ env H := by
  have no := E.not_ow
  have w : Ex (KN b Ow a cs) H (Bs b Ow) H := ex_weak fun c o _ q => q.1
  have w' : Ex (Bs (bn b i a cs H) Ow) H (Bs b Ow) H := ex_weak fun c o _ q => ((bn_bs E.live).mp q).1
  have back : ∀ {j : Nat} {q : PV}, i ≠ j → env[j]? = some (some q) → (env.set i none)[j]? = some (some q) := fun {j q} hj e => by rw [List.getElem?_set_ne hj]; exact e
  refine ⟨by rw [E.er.len, List.length_set], fun c o h => E.er.same c o ?_, E.er.live, fun c z => ?_, fun j q e n => ?_, fun j q e n => ?_, fun j k c q q' e1 n1 s1 e2 n2 s2 => ?_, fun k v hv => E.er.fix k v ?_⟩
  · have hc : c ∉ a :: cs := fun z => by rw [E.new c z] at h; cases h
    show (if c ∈ a :: cs then H c else b.H0 c) = some o
    rw [if_neg hc]; exact h
  · have h := E.er.new c z
    have h' : (if c ∈ a :: cs then H c else b.H0 c) = none := h
    rw [if_neg fun y => no c y z] at h'
    exact h'
  · by_cases hj : i = j
    · subst hj
      rw [E.val] at e
      cases e
      have ha : Bs b Ow a := ⟨no a List.mem_cons_self, .inr (E.new a List.mem_cons_self)⟩
      exact ⟨_, E.slot, .lst E.top ha (E.inn.reps w fun c hc => ⟨no c (List.mem_cons_of_mem _ hc), .inr (E.new c (List.mem_cons_of_mem _ hc))⟩)⟩
    · obtain ⟨v, h1, h2⟩ := E.er.val j q (back hj e) n
      exact ⟨v, h1, h2.ex w'⟩
  · have hj : i ≠ j := fun z => hi (z ▸ n)
    obtain ⟨c, h1, h2, h3⟩ := E.er.own j q (back hj e) n
    exact ⟨c, h1, h2, h3.ex w' fun o z => z⟩
  · have hj : i ≠ j := fun z => hi (z ▸ n1)
    have hk : i ≠ k := fun z => hi (z ▸ n2)
    exact E.er.sep j k c q q' (back hj e1) n1 s1 (back hk e2) n2 s2
  · show (if k = i then some (V.ref a) else b.fx k) = some v
    rw [if_neg fun z => by rw [z, hx] at hv; cases hv]
    exact hv
end
end MR
namespace MR
open PySem L2
def hid (i : Nat) (f : Env → Option Out) (env : Env) : Option Out := (f (env.set i none)).bind fun o => match o with
  | .nx e => some (.nx (e.set i (env.getD i none)))
  | _ => none
@[simp] theorem hid_ap (i : Nat) (f : Env → Option Out) (env : Env) : hid i f env = ((f (env.set i none)).bind fun o => match o with
  | .nx e => some (.nx (e.set i (env.getD i none)))
  | _ => none) := id rfl
def nIf (i : Nat) (c : Env → Option Bool) (f g : Env → Option Out) (env : Env) : Option Out := (c (env.set i none)).bind fun k => if k = true then f env else g env
@[simp] theorem nIf_ap (i : Nat) (c : Env → Option Bool) (f g : Env → Option Out) (env : Env) : nIf i c f g env = ((c (env.set i none)).bind fun k => if k = true then f env else g env) := id rfl
def gH (i : Nat) (g : PV → Env → Option Env) (p : PV) (env : Env) : Option Env := (g p (env.set i none)).map fun e => e.set i (env.getD i none)
@[simp] theorem gH_ap (i : Nat) (g : PV → Env → Option Env) (p : PV) (env : Env) : gH i g p env = ((g p (env.set i none)).map fun e => e.set i (env.getD i none)) := id rfl
def onx (f : Env → Option Out) (env : Env) : Option Out := (f env).bind fun o => match o with
  | .nx e => some (.nx e)
  | _ => none
@[simp] theorem onx_ap (f : Env → Option Out) (env : Env) : onx f env = ((f env).bind fun o => match o with
  | .nx e => some (.nx e)
  | _ => none) := id rfl
def nFor (i : Nat) (g : PV → Env → Option Env) (src : Env → Option (List PV)) (ds : List Nat) (f : Env → Option Out) (env : Env) : Option Out := (src (env.set i none)).bind fun xs => loopS (gH i g) ds (onx f) xs (clr ds env)
@[simp] theorem nFor_ap (i : Nat) (g : PV → Env → Option Env) (src : Env → Option (List PV)) (ds : List Nat) (f : Env → Option Out) (env : Env) : nFor i g src ds f env = ((src (env.set i none)).bind fun xs => loopS (gH i g) ds (onx f) xs (clr ds env)) := id rfl
@[simp] def apV : PV → PV → PV → Option PV
  | .lst ws, .int k, p => (ixN ws.length k).bind fun j => (ws[j]?).bind fun w => match w with
    | .lst ys => if ys.length < 1000000 then some (.lst (ws.set j (.lst (ys ++ [p])))) else none
    | _ => none
  | _, _, _ => none
def nApp (i : Nat) (f h : Env → Option PV) (env : Env) : Option Out := (bV i env).bind fun x => (f (env.set i none)).bind fun k => (h (env.set i none)).bind fun p => (apV x k p).bind fun y => some (.nx (env.set i (some y)))
@[simp] theorem nApp_ap (i : Nat) (f h : Env → Option PV) (env : Env) : nApp i f h env = ((bV i env).bind fun x => (f (env.set i none)).bind fun k => (h (env.set i none)).bind fun p => (apV x k p).bind fun y => some (.nx (env.set i (some y)))) := id rfl
@[simp] def newV : PV → Option PV
  | .lst ws => if ws.length < 1000000 then some (.lst (ws ++ [.lst []])) else none
  | _ => none
def nNew (i : Nat) (env : Env) : Option Out := (bV i env).bind fun x => (newV x).bind fun y => some (.nx (env.set i (some y)))
@[simp] theorem nNew_ap (i : Nat) (env : Env) : nNew i env = ((bV i env).bind fun x => (newV x).bind fun y => some (.nx (env.set i (some y)))) := id rfl
section
variable {X : Cx} {b : BX} {G G' L : List Nat} {ro : Bool} {i : Nat} {st : Stmt} {rest : List Stmt} {f g : Env → Option Out} {e e1 e2 : Expr} {h h1 h2 : Env → Option PV} {m m1 m2 : Md} {pos : Pos}
end
end MR
namespace MR
open PySem L2
section
variable {X : Cx} {b : BX} {G G' L : List Nat} {ro : Bool} {i : Nat} {st : Stmt} {rest : List Stmt} {f g : Env → Option Out} {e e1 e2 : Expr} {h h1 h2 : Env → Option PV} {m m1 m2 : Md} {pos : Pos}
theorem clr_get : ∀ {ds : List Nat} {env : Env} {i : Nat}, i ∉ ds → (clr ds env)[i]? = env[i]?
  | [], _, _, _ => rfl
  | d :: ds, env, i, h => by
    rw [List.mem_cons, not_or] at h
    show (clr ds (env.set d none))[i]? = _
    rw [clr_get h.2, List.getElem?_set_ne (Ne.symm h.1)]
theorem clr_set : ∀ {ds : List Nat} {env : Env} {i : Nat} {v : Option PV}, i ∉ ds → (clr ds env).set i v = clr ds (env.set i v)
  | [], _, _, _, _ => rfl
  | d :: ds, env, i, v, h => by
    rw [List.mem_cons, not_or] at h
    show (clr ds (env.set d none)).set i v = clr ds ((env.set i v).set d none)
    rw [clr_set h.2, List.set_comm _ _ (Ne.symm h.1)]
theorem EN.clr {Ow : Addr → Prop} {σ : St} {env : Env} {H : Hp} {a : Addr} {cs : List Addr} {yss : List (List PV)} {ds : List Nat} (E : EN b Ow G i σ env H a cs yss) (hd : i ∉ ds) : EN b Ow G i σ (clr ds env) H a cs yss :=
  ⟨by rw [clr_get hd]; exact E.val, E.top, E.nd, E.new, E.inn, by rw [clr_set hd]; exact E.er.clr⟩
end
end MR
namespace MR
open PySem L2
section
variable {X : Cx} {b : BX} {G G' L : List Nat} {ro : Bool} {i : Nat} {st : Stmt} {rest : List Stmt} {f g : Env → Option Out} {e e1 e2 : Expr} {h h1 h2 : Env → Option PV} {m m1 m2 : Md} {pos : Pos}
end
end MR
namespace MR
open PySem L2
def nInit (i n : Nat) (env : Env) : Option Out := if i < env.length ∧ n ≤ 1000 then some (.nx (env.set i (some (.lst (List.replicate n (.lst [])))))) else none
@[simp] theorem nInit_ap (i n : Nat) (env : Env) : nInit i n env = if i < env.length ∧ n ≤ 1000 then some (.nx (env.set i (some (.lst (List.replicate n (.lst [])))))) else none := id rfl
section
variable {X : Cx} {b : BX} {G G' L : List Nat} {ro : Bool} {i n : Nat} {st : Stmt} {es : List Expr} {rest : List Stmt} {f g : Env → Option Out} {e e1 e2 : Expr} {h h1 h2 : Env → Option PV} {m m1 m2 : Md} {pos : Pos}
theorem EN.start {Ow : Addr → Prop} {σ : St} {env : Env} {H H2 : Hp} {a : Addr} {cs : List Addr} (E : ER b Ow G σ env H) (hl : i < env.length) (nd : cs.Nodup) (hc : ∀ c ∈ cs, H c = none ∧ H2 c = some (.lst [])) (ho : ∀ x, x ∉ cs → H2 x = H x) (ha : H2 a = none) (hG : i ∉ G) (hxi : b.fx i = none) :
    EN b Ow G i (σ.set i (some (.ref a))) (env.set i (some (.lst (List.replicate cs.length (.lst []))))) (upd H2 a (.lst (cs.map V.ref))) a cs (List.replicate cs.length []) ∧ Ex (Bs b Ow) H (KN b Ow a cs) (upd H2 a (.lst (cs.map V.ref))) := by
  have nac : a ∉ cs := fun z => by rw [(hc a z).2] at ha; cases ha
  have hHa : H a = none := by rw [← ho a nac]; exact ha
  have hnone : ∀ x ∈ a :: cs, H x = none := fun x hx => by
    rcases List.mem_cons.mp hx with z | z
    · rw [z]; exact hHa
    · exact (hc x z).1
  have st : ∀ x o, H x = some o → (upd H2 a (.lst (cs.map V.ref))) x = some o := fun x o q => by
    have z : x ∉ a :: cs := fun y => by rw [hnone x y] at q; cases q
    rw [List.mem_cons, not_or] at z
    rw [upd_ne z.1, ho x z.2]; exact q
  have lv' : ∀ x ∈ a :: cs, ∃ o, (upd H2 a (.lst (cs.map V.ref))) x = some o := fun x hx => by
    rcases List.mem_cons.mp hx with z | z
    · rw [z]; exact ⟨_, upd_same⟩
    · rw [upd_ne (fun q : x = a => nac (q ▸ z))]; exact ⟨_, (hc x z).2⟩
  have xk : Ex (Bs b Ow) H (KN b Ow a cs) (upd H2 a (.lst (cs.map V.ref))) := fun c o q => ⟨fun w => ⟨st c o q, w, fun y => by rw [hnone c y] at q; cases q⟩, fun _ => st c o q⟩
  have xb : Ex (Bs b Ow) H (Bs (bn b i a cs (upd H2 a (.lst (cs.map V.ref)))) Ow) (upd H2 a (.lst (cs.map V.ref))) := fun c o q => ⟨fun w => ⟨st c o q, (bn_bs lv').mpr ((xk c o q).1 w).2⟩, fun _ => st c o q⟩
  have nw : ∀ x ∈ a :: cs, b.H0 x = none := fun x hx => E.same.free (hnone x hx)
  have now : ∀ x ∈ a :: cs, ¬ Ow x := fun x hx w => by obtain ⟨o, q⟩ := E.live x w; rw [hnone x hx] at q; cases q
  have inn : ∀ ds : List Addr, (∀ c ∈ ds, c ∈ cs) → Inn b.C (KN b Ow a cs) (upd H2 a (.lst (cs.map V.ref))) ds (List.replicate ds.length []) := fun ds => by
    induction ds with
    | nil => exact fun _ => .nil
    | cons d ds ih =>
      intro hd
      have hdc := hd d List.mem_cons_self
      exact .cons (by rw [upd_ne (fun q : d = a => nac (q ▸ hdc))]; exact (hc d hdc).2) .nil (ih fun c z => hd c (List.mem_cons_of_mem _ z))
  have back : ∀ {j : Nat} {q : PV}, (env.set i none)[j]? = some (some q) → i ≠ j ∧ env[j]? = some (some q) := fun {j q} e => by
    by_cases hj : i = j
    · subst hj
      rw [List.getElem?_set_self hl] at e; cases e
    · rw [List.getElem?_set_ne hj] at e; exact ⟨hj, e⟩
  refine ⟨⟨by rw [List.getElem?_set_self hl, List.map_replicate], upd_same, List.nodup_cons.mpr ⟨nac, nd⟩, nw, inn cs fun _ z => z, ?_⟩, xk⟩
  rw [List.set_set]
  refine ⟨by rw [List.length_set, List.length_set]; exact E.len, fun c o q => ?_, fun c w => ?_, fun c w => ?_, fun j q e n => ?_, fun j q e n => ?_, fun j k c q q' e1 n1 s1 e2 n2 s2 => ?_, fun k v hv => ?_⟩
  · have q' : (if c ∈ a :: cs then (upd H2 a (.lst (cs.map V.ref))) c else b.H0 c) = some o := q
    by_cases z : c ∈ a :: cs
    · rw [if_pos z] at q'; exact q'
    · rw [if_neg z] at q'; exact st c o (E.same c o q')
  · obtain ⟨o, q⟩ := E.live c w
    exact ⟨o, st c o q⟩
  · show (if c ∈ a :: cs then (upd H2 a (.lst (cs.map V.ref))) c else b.H0 c) = none
    rw [if_neg fun z => now c z w]; exact E.new c w
  · obtain ⟨hj, e'⟩ := back e
    obtain ⟨v, z1, z2⟩ := E.val j q e' n
    exact ⟨v, by rw [List.getElem?_set_ne hj]; exact z1, z2.ex xb⟩
  · obtain ⟨hj, e'⟩ := back e
    obtain ⟨c, z1, z2, z3⟩ := E.own j q e' n
    exact ⟨c, by rw [List.getElem?_set_ne hj]; exact z1, z2, z3.ex xb fun o y => st c o y⟩
  · obtain ⟨hj, e1'⟩ := back e1
    obtain ⟨hk, e2'⟩ := back e2
    rw [List.getElem?_set_ne hj] at s1
    rw [List.getElem?_set_ne hk] at s2
    exact E.sep j k c q q' e1' n1 s1 e2' n2 s2
  · have hv' : (if k = i then some (V.ref a) else b.fx k) = some v := hv
    by_cases hk : k = i
    · rw [if_pos hk] at hv'
      cases hv'
      rw [hk, List.getElem?_set_self (by rw [E.len]; exact hl)]
    · rw [if_neg hk] at hv'
      rw [List.getElem?_set_ne (Ne.symm hk)]
      exact E.fix k v hv'
def PostK (b : BX) (A : Addr → Prop) (H : Hp) (G L : List Nat) (ro : Bool) (D : Ends) : Out → Prop
  | .nx e => ∀ Ow' σ' H', ER b Ow' G σ' e H' → Ex A H (Bs b Ow') H' → D.nx σ' H'
  | .bk e => ∀ Ow' σ' H', ER b Ow' L σ' e H' → Ex A H (Bs b Ow') H' → D.bk σ' H'
  | .ct e => ∀ Ow' σ' H', ER b Ow' L σ' e H' → Ex A H (Bs b Ow') H' → D.ct σ' H'
  | .rt p => ∀ v H', Same b.H0 H' → Ret b.C b.A b.H0 ro H' v p → D.rt v H'
theorem PostK.ex {A A' : Addr → Prop} {H H' : Hp} {D : Ends} {o : Out} (e : Ex A H A' H') (p : PostK b A H G L ro D o) : PostK b A' H' G L ro D o := by
  cases o with
  | nx e' => exact fun Ow' σ' H2 E x => p Ow' σ' H2 E (e.trans x)
  | bk e' => exact fun Ow' σ' H2 E x => p Ow' σ' H2 E (e.trans x)
  | ct e' => exact fun Ow' σ' H2 E x => p Ow' σ' H2 E (e.trans x)
  | rt p' => exact p
end
end MR
namespace MR
open PySem L2
def gL (is : List Nat) (p : PV) (env : Env) : Option Env := match p with
  | .lst xs => gNs is xs env
  | _ => none
@[simp] theorem gL_ap (is : List Nat) (p : PV) (env : Env) : gL is p env = (match p with
  | .lst xs => gNs is xs env
  | _ => none) := id rfl
section
variable {X : Cx} {b : BX} {G G' L : List Nat} {pos : Pos}
end
end MR
namespace MR
open PySem L2
def ba (b : BX) (G : List Nat) (i j : Nat) (a : Addr) : BX := ⟨b.C, b.A, b.H0, fun k => if (k == i || (G.elem k && k == j)) = true then some (.ref a) else b.fx k⟩
theorem ba_i {b : BX} {G : List Nat} {i j : Nat} {a : Addr} : (ba b G i j a).fx i = some (.ref a) := by
  show (if (i == i || (G.elem i && i == j)) = true then _ else _) = _
  rw [if_pos (by simp)]
theorem ba_j {b : BX} {G : List Nat} {i j : Nat} {a : Addr} (h : j ∈ G) : (ba b G i j a).fx j = some (.ref a) := by
  show (if (j == i || (G.elem j && j == j)) = true then _ else _) = _
  rw [if_pos (by simp [h])]
theorem ba_k {b : BX} {G : List Nat} {i j k : Nat} {a : Addr} (h1 : k ≠ i) (h2 : k ≠ j) : (ba b G i j a).fx k = b.fx k := by
  show (if (k == i || (G.elem k && k == j)) = true then _ else _) = _
  rw [if_neg (by simp [h1, h2])]
structure EA (b : BX) (Ow : Addr → Prop) (G : List Nat) (i : Nat) (σ : St) (env : Env) (H : Hp) (j : Nat) (a : Addr) : Prop where
  idx : env[i]? = some (some (.int (j : Nat)))
  mem : j ∈ G
  er : ER (ba b G i j a) Ow G σ (env.set i none) H
def aSet (i j : Nat) (env : Env) : Option Out := (bV j env).bind fun _ => if i < env.length then some (.nx (env.set i (some (.int (j : Nat))))) else none
@[simp] theorem aSet_ap (i j : Nat) (env : Env) : aSet i j env = ((bV j env).bind fun _ => if i < env.length then some (.nx (env.set i (some (.int (j : Nat))))) else none) := id rfl
def aApp (i : Nat) (h : Env → Option PV) (env : Env) : Option Out := (bV i env).bind fun x => match x with
  | .int j => (bV j.toNat (env.set i none)).bind fun y => (h (env.set i none)).bind fun p => (appV y p).bind fun z => some (.nx (env.set j.toNat (some z)))
  | _ => none
@[simp] theorem aApp_ap (i : Nat) (h : Env → Option PV) (env : Env) : aApp i h env = ((bV i env).bind fun x => match x with
  | .int j => (bV j.toNat (env.set i none)).bind fun y => (h (env.set i none)).bind fun p => (appV y p).bind fun z => some (.nx (env.set j.toNat (some z)))
  | _ => none) := id rfl
section
variable {X : Cx} {b : BX} {G G' L : List Nat} {ro : Bool} {i : Nat} {st : Stmt} {rest : List Stmt} {f g : Env → Option Out} {e e1 e2 : Expr} {h h1 h2 : Env → Option PV} {m m1 m2 : Md} {pos : Pos}
variable {Ow Ow' : Addr → Prop} {σ σ' : St} {env env' : Env} {H H' : Hp} {j : Nat} {a : Addr}
theorem EA.len (E : EA b Ow G i σ env H j a) : i < env.length := by
  rcases Nat.lt_or_ge i env.length with z | z
  · exact z
  · have := E.idx; rw [List.getElem?_eq_none z] at this; cases this
theorem EA.slot (E : EA b Ow G i σ env H j a) : σ[i]? = some (some (.ref a)) ∧ σ[j]? = some (some (.ref a)) :=
  ⟨E.er.fix i _ ba_i, E.er.fix j _ (ba_j E.mem)⟩
theorem EA.of (E : EA b Ow G i σ env H j a) (E' : ER (ba b G i j a) Ow' G σ' env' H') : EA b Ow' G i σ' (env'.set i (some (.int (j : Nat)))) H' j a := by
  have hl : i < env'.length := by
    have q := E'.fix i (.ref a) ba_i
    rw [← E'.len]
    rcases Nat.lt_or_ge i σ'.length with z | z
    · exact z
    · rw [List.getElem?_eq_none z] at q; cases q
  exact ⟨by rw [List.getElem?_set_self hl], E.mem, by rw [List.set_set]; exact E'.forget i⟩
theorem EA.up (E : EA b Ow G i σ env H j a) (s : Same H H') : EA b Ow G i σ env H' j a := ⟨E.idx, E.mem, E.er.up s⟩
theorem EA.clr {ds : List Nat} (E : EA b Ow G i σ env H j a) (hd : i ∉ ds) : EA b Ow G i σ (clr ds env) H j a := ⟨by rw [clr_get hd]; exact E.idx, E.mem, by rw [clr_set hd]; exact E.er.clr⟩
end
end MR
namespace MR
open PySem L2
section
variable {X : Cx} {b : BX} {G G' L : List Nat} {ro : Bool} {i : Nat} {st : Stmt} {rest : List Stmt} {f g : Env → Option Out} {e e1 e2 : Expr} {h h1 h2 : Env → Option PV} {m m1 m2 : Md} {pos : Pos}
theorem EA.start {Ow : Addr → Prop} {σ : St} {env : Env} {H : Hp} {j : Nat} {p : PV} (E : ER b Ow G σ env H) (hl : i < env.length) (hj : j ∈ G) (hp : env[j]? = some (some p)) (hi : i ∉ G) (hx : ∀ k v, b.fx k = some v → k ≠ i ∧ k ∉ G) :
    ∃ a, σ[j]? = some (some (.ref a)) ∧ EA b Ow G i (σ.set i (some (.ref a))) (env.set i (some (.int (j : Nat)))) H j a := by
  obtain ⟨a, e1, w, t⟩ := E.own j p hp hj
  have hij : i ≠ j := fun z => hi (z ▸ hj)
  refine ⟨a, e1, by rw [List.getElem?_set_self hl], hj, ?_⟩
  rw [List.set_set]
  have hls : i < σ.length := by rw [E.len]; exact hl
  have back : ∀ {k : Nat} {q : PV}, (env.set i none)[k]? = some (some q) → i ≠ k ∧ env[k]? = some (some q) := fun {k q} e => by
    by_cases hk : i = k
    · subst hk; rw [List.getElem?_set_self hl] at e; cases e
    · rw [List.getElem?_set_ne hk] at e; exact ⟨hk, e⟩
  refine ⟨by rw [List.length_set, List.length_set]; exact E.len, E.same, E.live, E.new, fun k q eq n => ?_, fun k q eq n => ?_, fun k k' c q q' e1 n1 s1 e2 n2 s2 => ?_, fun k v hv => ?_⟩
  · obtain ⟨hk, e'⟩ := back eq
    obtain ⟨v, z1, z2⟩ := E.val k q e' n
    exact ⟨v, by rw [List.getElem?_set_ne hk]; exact z1, z2⟩
  · obtain ⟨hk, e'⟩ := back eq
    obtain ⟨c, z1, z2, z3⟩ := E.own k q e' n
    exact ⟨c, by rw [List.getElem?_set_ne hk]; exact z1, z2, z3⟩
  · obtain ⟨hk, e1'⟩ := back e1
    obtain ⟨hk', e2'⟩ := back e2
    rw [List.getElem?_set_ne hk] at s1
    rw [List.getElem?_set_ne hk'] at s2
    exact E.sep k k' c q q' e1' n1 s1 e2' n2 s2
  · by_cases hk : k = i
    · subst hk
      rw [ba_i] at hv
      cases hv
      rw [List.getElem?_set_self hls]
    · rw [List.getElem?_set_ne (Ne.symm hk)]
      by_cases hkj : k = j
      · subst hkj
        rw [ba_j hj] at hv
        cases hv
        exact e1
      · rw [ba_k hk hkj] at hv
        exact E.fix k v hv
def aOut (i : Nat) (g : Env → Option Out) (env : Env) : Option Out := g (env.set i none)
@[simp] theorem aOut_ap (i : Nat) (g : Env → Option Out) (env : Env) : aOut i g env = g (env.set i none) := id rfl
end
end MR
namespace MR
open PySem L2
@[simp] def lrngV2 : PV → PV → Option PV
  | .int i, .int j => if 0 ≤ i ∧ i ≤ j ∧ j ≤ 1000000 then some (.lst ((List.range' i.toNat (j - i).toNat).map fun k => .int (k : Nat))) else none
  | _, _ => none
section
variable {X : Cx} {b : BX} {G : List Nat} {pos p p2 pos2 : Pos} {m1 m2 : Md} {e1 e2 : Expr} {f1 f2 : Env → Option PV}
end
end MR
namespace MR
open PySem L2
@[simp] def getV2 : PV → PV → PV → Option PV
  | .dK kvs, y, z => (keyOf y).map fun k => (dLook kvs k).getD z
  | .dT kvs, .tup ys, z => (keysB ys).map fun k => (dLook kvs k).getD z
  | _, _, _ => none
section
variable {X : Cx} {b : BX} {G : List Nat} {apos cpos : Pos} {m1 m2 : Md} {e1 e2 e3 : Expr} {f1 f2 f3 : Env → Option PV}
end
end MR
namespace MR
open PySem L2
def numT : List (Str × Int) := [("0", 0), ("1", 1), ("2", 2), ("3", 3), ("4", 4), ("5", 5), ("6", 6), ("7", 7), ("8", 8), ("9", 9), ("10", 10), ("11", 11), ("12", 12)]
def numOf (x : Str) : Option Int := (numT.find? fun z => decide (z.1 = x)).map fun z => z.2
def txtOf (i : Int) : Option Str := (numT.find? fun z => decide (z.2 = i)).map fun z => z.1
@[simp] def intV2 : PV → Option PV
  | .int i => some (.int i)
  | .bl k => some (.int (if k then 1 else 0))
  | .str x => (numOf x).map .int
  | _ => none
@[simp] def strV : PV → Option PV
  | .int i => (txtOf i).map .str
  | .str x => some (.str x)
  | _ => none
@[simp] def upperV : PV → Option PV
  | .str x => if x = "abcdefghijklmnopqrstuvwxyz" then some (.str "ABCDEFGHIJKLMNOPQRSTUVWXYZ") else none
  | _ => none
def tyN2 : PV → Option String
  | .ktp _ => some "tuple"
  | p => tyN p
def isiV2 (tb : List (String × Bool)) (p : PV) : Option PV := (tyN2 p).bind fun t => (tb.lookup t).bind fun k => some (.bl k)
@[simp] theorem isiV2_ap (tb : List (String × Bool)) (p : PV) : isiV2 tb p = ((tyN2 p).bind fun t => (tb.lookup t).bind fun k => some (.bl k)) := id rfl
section
variable {X : Cx} {b : BX} {G : List Nat} {p pos : Pos} {m1 : Md} {e : Expr} {f : Env → Option PV}
end
end MR
namespace L2
open PySem PySem.Spec PyProof PyProof.Rows
def maxL : List Int → Int
  | [] => 0
  | a :: l => l.foldl (fun m x => if m < x then x else m) a
section
variable {X : Cx}
end
end L2
namespace MR
open PySem L2
section
variable {X : Cx} {b : BX} {G : List Nat} {pos p : Pos} {m1 : Md} {e : Expr} {f : Env → Option PV}
@[simp] def maxLV : PV → Option PV
  | .lst (x :: xs) => (intsP (x :: xs)).map fun ns => .int (maxL ns)
  | _ => none
end
end MR
namespace MR
open PySem L2
@[simp] def lzipV : PV → PV → Option PV
  | .lst xs, .lst ys => if ys.length = xs.length then some (.lst (List.zipWith (fun a c => .tup [a, c]) xs ys)) else none
  | _, _ => none
@[simp] def dct1V : PV → PV → Option PV
  | .tup ys, v => if flatP v = true then (keysB ys).map fun k => .dT [(k, v)] else none
  | .ktp ys, v => if flatP v = true then (keysB ys).map fun k => .dT [(k, v)] else none
  | _, _ => none
def kP : Key → PV
  | .inl i => .int i
  | .inr x => .str x
@[simp] def keysV : PV → Option (List PV)
  | .dT kvs => if (kvs.all fun kv => kv.1.length != 2) = true then some (kvs.map fun kv => .tup (kv.1.map kP)) else none
  | _ => none
def iK (f : Env → Option PV) (env : Env) : Option (List PV) := (f env).bind keysV
@[simp] theorem iK_ap (f : Env → Option PV) (env : Env) : iK f env = ((f env).bind keysV) := id rfl
@[simp] def getVK : PV → PV → PV → Option PV
  | .dT kvs, .ktp ys, z => (keysB ys).map fun k => (dLook kvs k).getD z
  | _, _, _ => none
section
variable {X : Cx} {b : BX} {G : List Nat} {apos cpos p p2 pos pos2 : Pos} {m m1 m2 : Md} {e e1 e2 e3 : Expr} {f f1 f2 f3 : Env → Option PV}
end
end MR
namespace MR
open PySem L2
def asL : List PV → Option (List (List PV))
  | [] => some []
  | .lst ys :: r => (asL r).map fun l => ys :: l
  | _ => none
section
variable {X : Cx} {b : BX} {G G' G1 L : List Nat} {ro : Bool} {i j n : Nat} {st s1 s2 : Stmt} {es : List Expr} {rest : List Stmt} {f g f1 f2 : Env → Option Out} {e e1 e2 e3 : Expr} {h h1 h2 h3 : Env → Option PV} {m m1 m2 : Md} {pos : Pos}
def nGive (i j : Nat) (f1 f2 : Env → Option Out) (env : Env) : Option Out := (f1 (env.set i none)).bind fun o1 => match o1 with
  | .nx e1 => (f2 e1).bind fun o2 => match o2 with
    | .nx e2 => (bV j e2).bind fun y => (bV i env).bind fun x => match y, x with
      | .lst ys, .lst ws => if ws.length < 1000000 then some (.nx ((e2.set j none).set i (some (.lst (ws ++ [.lst ys]))))) else none
      | _, _ => none
    | _ => none
  | _ => none
@[simp] theorem nGive_ap (i j : Nat) (f1 f2 : Env → Option Out) (env : Env) : nGive i j f1 f2 env = ((f1 (env.set i none)).bind fun o1 => match o1 with
  | .nx e1 => (f2 e1).bind fun o2 => match o2 with
    | .nx e2 => (bV j e2).bind fun y => (bV i env).bind fun x => match y, x with
      | .lst ys, .lst ws => if ws.length < 1000000 then some (.nx ((e2.set j none).set i (some (.lst (ws ++ [.lst ys]))))) else none
      | _, _ => none
    | _ => none
  | _ => none) := id rfl
theorem EN.same {Ow : Addr → Prop} {σ : St} {env : Env} {H : Hp} {a : Addr} {cs : List Addr} {yss : List (List PV)} (E : EN b Ow G i σ env H a cs yss) : Same b.H0 H := fun c o q => E.er.same c o (by
  show (if c ∈ a :: cs then H c else b.H0 c) = some o
  rw [if_neg fun z => by rw [E.new c z] at q; cases q]; exact q)
def nCall (i : Nat) (mi : List PV → Option PV) (ga : Env → Option (List PV)) (env : Env) : Option Out := (ga env).bind fun qs => (mi qs).bind fun p => match p with
  | .lst ws => (asL ws).bind fun _ => if i < env.length then some (.nx (env.set i (some (.lst ws)))) else none
  | _ => none
@[simp] theorem nCall_ap (i : Nat) (mi : List PV → Option PV) (ga : Env → Option (List PV)) (env : Env) : nCall i mi ga env = ((ga env).bind fun qs => (mi qs).bind fun p => match p with
  | .lst ws => (asL ws).bind fun _ => if i < env.length then some (.nx (env.set i (some (.lst ws)))) else none
  | _ => none) := id rfl
end
end MR
namespace MR
open PySem L2
section
variable {X : Cx} {b : BX} {G G' L : List Nat} {i j : Nat} {e1 e2 e3 : Expr} {h1 h2 h3 : Env → Option PV} {pos pos2 : Pos}
@[simp] def atL : PV → PV → Option (Nat × List PV)
  | .lst ws, .int k => (ixN ws.length k).bind fun p => (ws[p]?).bind fun w => match w with
    | .lst ys => some (p, ys)
    | _ => none
  | _, _ => none
@[simp] def puL : PV → Nat × List PV → PV → PV → Option PV
  | .lst ws, (p, ys), .int n, q => (ixN ys.length n).bind fun m => some (.lst (ws.set p (.lst (ys.set m q))))
  | _, _, _, _ => none
def nPut (i j : Nat) (h1 h2 h3 : Env → Option PV) (env : Env) : Option Out := (bV i env).bind fun x => (h1 env).bind fun k => (atL x k).bind fun w => (h3 ((env.set j none).set i none)).bind fun q => (h2 (env.set j (some (.lst w.2)))).bind fun n => (puL x w n q).bind fun y => if j < env.length then some (.nx ((env.set j none).set i (some y))) else none
@[simp] theorem nPut_ap (i j : Nat) (h1 h2 h3 : Env → Option PV) (env : Env) : nPut i j h1 h2 h3 env = ((bV i env).bind fun x => (h1 env).bind fun k => (atL x k).bind fun w => (h3 ((env.set j none).set i none)).bind fun q => (h2 (env.set j (some (.lst w.2)))).bind fun n => (puL x w n q).bind fun y => if j < env.length then some (.nx ((env.set j none).set i (some y))) else none) := id rfl
end
end MR
namespace MR
open PySem L2
@[simp] def itemsV : PV → Option (List PV)
  | .dT kvs => if (kvs.all fun kv => kv.1.length != 2) = true then some (kvs.map fun kv => .tup [.tup (kv.1.map kP), kv.2]) else none
  | _ => none
def iDi (f : Env → Option PV) (env : Env) : Option (List PV) := (f env).bind itemsV
@[simp] theorem iDi_ap (f : Env → Option PV) (env : Env) : iDi f env = ((f env).bind itemsV) := id rfl
section
variable {X : Cx} {b : BX} {G : List Nat} {apos cpos : Pos} {m : Md} {e : Expr} {f : Env → Option PV}
end
end MR
namespace MR
open PySem L2
section
variable {X : Cx} {b : BX} {G G' L : List Nat} {pos p p2 pos2 : Pos} {m m1 m2 : Md} {e1 e2 : Expr} {f1 f2 : Env → Option PV}
@[simp] def ltV3 : PV → PV → Option PV
  | .tup [.lst xs, .lst xs'], .tup [.lst ys, .lst ys'] => (intsP xs).bind fun ns => (intsP xs').bind fun ns' => (intsP ys).bind fun ms => (intsP ys').bind fun ms' => some (.bl (HT.ltTwo ns ns' ms ms'))
  | _, _ => none
end
end MR
namespace My
open PySem L2 MR
@[simp] theorem eqP_int (i j : Int) : eqP (.int i) (.int j) = some (decide (i = j)) := rfl
@[simp] theorem eqP_str (i j : Str) : eqP (.str i) (.str j) = some (decide (i = j)) := rfl
@[simp] theorem eqP_bl (i j : Bool) : eqP (.bl i) (.bl j) = some (decide (i = j)) := rfl
theorem atI_at {α : Type} {xs : List α} {k : Nat} {x : α} (h : xs[k]? = some x) : atI xs (k : Int) = some x := atI_nat h
section
variable {α : Type} {env : MR.Env} {g : PV → MR.Env → Option MR.Env} {t : MR.Env → Option Bool} {f : MR.Env → Option PV}
theorem compL_map (c h : α → PV) : ∀ (ys : List α), (∀ y ∈ ys, ∃ e, g (c y) env = some e ∧ f e = some (h y)) → compL env g tTrue f (ys.map c) = some (ys.map h)
  | [], _ => rfl
  | y :: ys, hh => by
    obtain ⟨e, h1, h2⟩ := hh y List.mem_cons_self
    have ih := compL_map c h ys fun z hz => hh z (List.mem_cons_of_mem _ hz)
    simp [compL, h1, h2, ih]
theorem compL_filter (c h : α → PV) (p : α → Bool) : ∀ (ys : List α), (∀ y ∈ ys, ∃ e, g (c y) env = some e ∧ t e = some (p y) ∧ (p y = true → f e = some (h y))) → compL env g t f (ys.map c) = some ((ys.filter p).map h)
  | [], _ => rfl
  | y :: ys, hh => by
    obtain ⟨e, h1, h2, h3⟩ := hh y List.mem_cons_self
    have ih := compL_filter c h p ys fun z hz => hh z (List.mem_cons_of_mem _ hz)
    cases hp : p y with
    | true => simp [compL, h1, h2, h3 hp, ih, hp]
    | false => simp [compL, h1, h2, ih, hp]
end
theorem enumV_map {α : Type} (c : α → PV) : ∀ (ys : List α) (n : Nat), enumV n (ys.map c) = (ys.zipIdx n).map fun y => .tup [.int (y.2 : Nat), c y.1]
  | [], _ => rfl
  | y :: ys, n => by simp [enumV, enumV_map c ys]
def addK (ks : List Str) (x : Str) : List Str := if x ∈ ks then ks else ks ++ [x]
def addKs (ks ws : List Str) : List Str := ws.foldl addK ks
def tellStep (kind : Str) (ks : List Str) : List Str → List Str
  | c :: r => if c = kind then addKs ks r else ks
  | [] => ks
def tell (kind : Str) (rs : List (List Str)) : List Str := rs.foldl (tellStep kind) []
end My
namespace My
open PySem L2 MR
section
variable {α : Type} (a b c d e f g h : α) (l : List α)
@[simp] theorem at0 : atI (a :: l) 0 = some a := atI_at (k := 0) rfl
@[simp] theorem at1 : atI (a :: b :: l) 1 = some b := atI_at (k := 1) rfl
@[simp] theorem at2 : atI (a :: b :: c :: l) 2 = some c := atI_at (k := 2) rfl
@[simp] theorem at3 : atI (a :: b :: c :: d :: l) 3 = some d := atI_at (k := 3) rfl
end
@[simp] def nxt (ds : List Nat) : Option Out → Option MR.Env
  | some (.nx e) => some (clr ds e)
  | some (.ct e) => some (clr ds e)
  | _ => none
def turn (g : PV → MR.Env → Option MR.Env) (ds : List Nat) (body : MR.Env → Option Out) (x : PV) (env : MR.Env) : Option MR.Env := (g x env).bind fun e => nxt ds (body e)
theorem turn_ap (g : PV → MR.Env → Option MR.Env) (ds : List Nat) (body : MR.Env → Option Out) (x : PV) (env : MR.Env) : turn g ds body x env = (g x env).bind fun e => nxt ds (body e) := id rfl
theorem loopS_turn {g : PV → MR.Env → Option MR.Env} {ds : List Nat} {body : MR.Env → Option Out} {x : PV} {xs : List PV} {env env' : MR.Env} (h : turn g ds body x env = some env') : loopS g ds body (x :: xs) env = loopS g ds body xs env' := by
  unfold turn at h
  obtain ⟨e, h1, h2⟩ := bind_some' h
  unfold nxt at h2
  split at h2
  · rename_i q; cases h2; simp [loopS, h1, q]
  · rename_i q; cases h2; simp [loopS, h1, q]
  · cases h2
theorem rngV_nat (n : Nat) : rngV 0 (n : Int) = (List.range n).map fun k => PV.int (k : Nat) := by
  unfold rngV
  simp
def cell (ns : List Int) (k : Nat) : Int := ns.getD k 0
def mixed (c k : Int) : Int := (c * 48271 + k * k * 69621 + 5) % 2147483647
theorem mixed_ge (c k : Int) : 0 ≤ mixed c k := Int.emod_nonneg _ (by decide)
def okP : Nat → PV → Prop
  | _, .non => True
  | _, .bl _ => True
  | _, .int _ => True
  | _, .str x => PyData.strOk x = true
  | n + 1, .lst xs => ∀ x ∈ xs, okP n x
  | n + 1, .tup xs => ∀ x ∈ xs, okP n x
  | _, _ => False
theorem okPs_d {n : Nat} (ih : ∀ p, okP n p → ∃ d, toD p = some d ∧ d.canLay0 = true ∧ d.depth ≤ n ∧ PyData.eqv d d = true) : ∀ xs : List PV, (∀ x ∈ xs, okP n x) → ∃ ds, toDs xs = some ds ∧ PyData.canLayAll0 ds = true ∧ PyData.depthAll ds ≤ n ∧ PyData.eqvAll ds ds = true
  | [], _ => ⟨[], rfl, rfl, Nat.zero_le _, rfl⟩
  | x :: xs, h => by
    obtain ⟨d, h1, h2, h3, h4⟩ := ih x (h x List.mem_cons_self)
    obtain ⟨ds, g1, g2, g3, g4⟩ := okPs_d ih xs fun z hz => h z (List.mem_cons_of_mem _ hz)
    refine ⟨d :: ds, by simp [toDs, h1, g1], by simp [PyData.canLayAll0, h2, g2], ?_, by simp [PyData.eqvAll, h4, g4]⟩
    simp only [PyData.depthAll]
    omega
theorem okP_d : ∀ (n : Nat) (p : PV), okP n p → ∃ d, toD p = some d ∧ d.canLay0 = true ∧ d.depth ≤ n ∧ PyData.eqv d d = true
  | n, .non, _ => ⟨.none, by simp [toD], by simp [PyData.canLay0], by simp [PyData.depth], by simp [PyData.eqv]⟩
  | n, .bl b, _ => ⟨.bool b, by simp [toD], by simp [PyData.canLay0], by simp [PyData.depth], by simp [PyData.eqv]⟩
  | n, .int b, _ => ⟨.int b, by simp [toD], by simp [PyData.canLay0], by simp [PyData.depth], by simp [PyData.eqv]⟩
  | n, .str b, h => ⟨.str b, by simp [toD], by simpa [PyData.canLay0, okP] using h, by simp [PyData.depth], by simp [PyData.eqv]⟩
  | n + 1, .lst xs, h => by
    obtain ⟨ds, g1, g2, g3, g4⟩ := okPs_d (okP_d n) xs (by simpa [okP] using h)
    exact ⟨.list ds, by simp [toD, g1], by simp [PyData.canLay0, g2], by simp only [PyData.depth]; omega, by simp [PyData.eqv, g4]⟩
  | n + 1, .tup xs, h => by
    obtain ⟨ds, g1, g2, g3, g4⟩ := okPs_d (okP_d n) xs (by simpa [okP] using h)
    exact ⟨.tuple ds, by simp [toD, g1], by simp [PyData.canLay0, g2], by simp only [PyData.depth]; omega, by simp [PyData.eqv, g4]⟩
  | 0, .lst _, h => by simp [okP] at h
  | 0, .tup _, h => by simp [okP] at h
  | _, .frz _, h => by simp [okP] at h
  | _, .ktp _, h => by simp [okP] at h
  | _, .dK _, h => by simp [okP] at h
  | _, .dT _, h => by simp [okP] at h
  | _, .obj _ _, h => by simp [okP] at h
theorem eqD_refl {n : Nat} {p : PV} (h : okP n p) (hn : n ≤ 64) : eqD p p = some true := by
  obtain ⟨d, h1, h2, h3, h4⟩ := okP_d n p h
  have hs : SeqAt.shaped d = true := by
    unfold SeqAt.shaped
    rw [h2, Bool.true_and, decide_eq_true_eq]
    omega
  simp [eqD, h1, hs, h4]
theorem eqS_self {p : PV} {k : Bool} (h : eqS p p = some k) : k = true := by
  cases p <;> simp at h <;> first | exact h | exact h.symm | cases h
theorem eqP_refl {n : Nat} {p : PV} (h : okP n p) (hn : n ≤ 64) : eqP p p = some true := by
  unfold eqP
  cases q : eqS p p with
  | none => exact eqD_refl h hn
  | some k => rw [eqS_self q]
@[simp] theorem eqP_nil : eqP (.lst []) (.lst []) = some true := eqP_refl (n := 1) (by simp [okP]) (by decide)
end My
namespace L2
open PySem PySem.Spec PyProof.Rows
def Still {α : Type} : Sem α → Prop
  | .pure _ => True
  | .raise _ => True
  | .unsupported _ => True
  | .finish _ => True
  | .rule _ k => Still (k ())
  | .at _ k => Still (k ())
  | .load _ _ k => ∀ o, Still (k o)
  | .update _ _ f k => (∀ o, (f o).dict = o.dict ∧ (o.isFreed = false → (f o).isFreed = false)) ∧ Still (k ())
  | .alloc _ k => ∀ a, Still (k a)
  | .loadIfAlive _ k => ∀ o, Still (k o)
  | .point _ k => Still (k ())
  | .register _ _ => True
  | .fresh k => ∀ t, Still (k t)
  | .ask k => ∀ t, Still (k t)
  | .stack k => ∀ l, Still (k l)
  | .handled _ k => ∀ l, Still (k l)
  | .choose .. => False
  | .os .. => False
  | .call .. => False
  | .newGen .. => False
  | .genState .. => False
  | .resume .. => False
  | .yield .. => False
  | .fork .. => False
  | .thread _ => False
  | .await .. => False
def Dk (h h' : Heap) : Prop := ∀ b o, h.get? b = some o → ∃ o', h'.get? b = some o' ∧ o'.dict = o.dict
theorem Dk.refl (h : Heap) : Dk h h := fun b o e => ⟨o, e, rfl⟩
theorem Dk.trans {h h' h'' : Heap} (x : Dk h h') (y : Dk h' h'') : Dk h h'' := fun b o e =>
  let ⟨o1, e1, d1⟩ := x b o e
  let ⟨o2, e2, d2⟩ := y b o1 e1
  ⟨o2, e2, d2.trans d1⟩
theorem still_wp {α : Type} {M : PySem.Model} {Γ : PySem.Ctx} {E : Value → Pos → Shared → Prop} : ∀ (t : Sem α) (Q : α → Pos → Shared → Prop) (p : Pos) (s0 s : Shared), Still t → Dk s0.heap s.heap → Sem.wp M Γ t Q E p s → Sem.wp M Γ t (fun a p' s' => Q a p' s' ∧ Dk s0.heap s'.heap) E p s := by
  intro t
  induction t with
  | pure a => intro Q p s0 s st d h; rw [Sem.wp_pure] at h ⊢; exact ⟨h, d⟩
  | raise e => intro Q p s0 s st d h; rw [Sem.wp] at h ⊢; exact h
  | unsupported w => intro Q p s0 s st d h; rw [Sem.wp] at h; exact h.elim
  | finish w => intro Q p s0 s st d h; rw [Sem.wp] at h; exact h.elim
  | rule t k ih => intro Q p s0 s st d h; rw [Sem.wp] at h ⊢; exact ih () Q p s0 s st d h
  | «at» q k ih => intro Q p s0 s st d h; rw [Sem.wp] at h ⊢; exact ih () Q q s0 s st d h
  | load a part k ih => intro Q p s0 s st d h; rw [Sem.wp] at h ⊢; obtain ⟨o, e, h⟩ := h; exact ⟨o, e, ih o Q p s0 s (st o) d h⟩
  | update a part f k ih =>
    intro Q p s0 s st d h
    rw [Sem.wp] at h ⊢
    refine ⟨h.1, ih () Q p s0 _ st.2 (d.trans fun b o e => ?_) h.2⟩
    by_cases hb : a = b
    · subst hb
      exact ⟨_, Heap.get?_update_self f e ((st.1 o).2 (Heap.get?_some_iff.mp e).2), (st.1 o).1⟩
    · exact ⟨o, (Heap.get?_update_other _ f hb).trans e, rfl⟩
  | alloc o k ih =>
    intro Q p s0 s st d h
    rw [Sem.wp] at h ⊢
    exact ih _ Q p s0 _ (st _) (d.trans fun b o' e => ⟨o', Heap.get?_push_of_some o e, rfl⟩) h
  | loadIfAlive a k ih => intro Q p s0 s st d h; rw [Sem.wp] at h ⊢; exact ih _ Q p s0 s (st _) d h
  | point l k ih => intro Q p s0 s st d h; rw [Sem.wp] at h ⊢; exact ih _ Q p s0 s st d h
  | register a k ih => intro Q p s0 s st d h; rw [Sem.wp] at h; exact h.elim
  | fresh k ih => intro Q p s0 s st d h; rw [Sem.wp] at h ⊢; exact ih _ Q p s0 _ (st _) d h
  | ask k ih => intro Q p s0 s st d h; rw [Sem.wp] at h ⊢; exact ih _ Q p s0 s (st _) d h
  | stack k ih => intro Q p s0 s st d h; rw [Sem.wp] at h ⊢; exact ih _ Q p s0 s (st _) d h
  | handled own k ih => intro Q p s0 s st d h; rw [Sem.wp] at h ⊢; exact ih _ Q p s0 s (st _) d h
  | _ => intro Q p s0 s st d h; exact False.elim st
theorem still_any {α : Type} {M : PySem.Model} {A : Around} {E : Value → Shared → Prop} {t : Sem α} {Q : α → Shared → Prop} {s : Shared} (st : Still t) (h : wpAny M A t Q E s) : wpAny M A t (fun a s' => Q a s' ∧ Dk s.heap s'.heap) E s := fun Γ p hΓ =>
  still_wp t _ p s s st (Dk.refl _) (h Γ p hΓ)
theorem Still.bind {α β : Type} : ∀ {t : Sem α} {f : α → Sem β}, Still t → (∀ a, Still (f a)) → Still (t.bind f) := by
  intro t
  induction t with
  | pure a => intro f _ h; exact h a
  | raise e => intro f _ h; trivial
  | unsupported w => intro f _ h; trivial
  | finish w => intro f _ h; trivial
  | rule t k ih => intro f st h; exact ih () st h
  | «at» q k ih => intro f st h; exact ih () st h
  | load a part k ih => intro f st h; exact fun o => ih o (st o) h
  | update a part g k ih => intro f st h; exact ⟨st.1, ih () st.2 h⟩
  | alloc o k ih => intro f st h; exact fun o => ih o (st o) h
  | loadIfAlive a k ih => intro f st h; exact fun o => ih o (st o) h
  | point l k ih => intro f st h; exact ih () st h
  | register a k ih => intro f st h; trivial
  | fresh k ih => intro f st h; exact fun o => ih o (st o) h
  | ask k ih => intro f st h; exact fun o => ih o (st o) h
  | stack k ih => intro f st h; exact fun o => ih o (st o) h
  | handled own k ih => intro f st h; exact fun o => ih o (st o) h
  | _ => intro f st h; exact False.elim st
theorem still_bind {α β : Type} {t : Sem α} {f : α → Sem β} (h1 : Still t) (h2 : ∀ a, Still (f a)) : Still (t >>= f) := Still.bind h1 h2
theorem still_load {a : Addr} : Still (load a) := fun o => trivial
theorem still_fieldsOf {v : Value} : Still (fieldsOf v) := by
  unfold fieldsOf
  cases v <;> first | trivial | skip
  refine still_bind still_load fun o => ?_
  split <;> trivial
theorem still_field {v : Value} {i : Nat} : Still (field v i) := by
  unfold field
  refine still_bind still_fieldsOf fun a => ?_
  split <;> trivial
theorem still_mapFields (g : Array Value → Array Value) (o : Obj) : (Obj.mapFields g o).dict = o.dict ∧ (o.isFreed = false → (Obj.mapFields g o).isFreed = false) := by
  unfold Obj.mapFields
  split
  · exact ⟨rfl, fun _ => rfl⟩
  · exact ⟨rfl, id⟩
theorem still_setField {v : Value} {i : Nat} {x : Value} : Still (setField v i x) := by
  unfold setField
  cases v <;> first | trivial | skip
  unfold updateField
  refine still_bind still_load fun o => ?_
  split
  · split
    · exact ⟨still_mapFields _, trivial⟩
    · trivial
  · trivial
theorem still_setFlight {e : Value} {f : Option Addr} : Still (setFlight e f) := by
  unfold setFlight
  refine still_bind still_field fun tb => ?_
  split
  · exact still_setField
  · trivial
theorem still_readyFrames : ∀ l : List Env, Still (readyFrames l)
  | [] => trivial
  | env :: outer => by
    unfold readyFrames
    cases env.frame with
    | none => trivial
    | some f =>
      refine still_bind still_load fun o => ?_
      split
      · trivial
      · refine still_bind ?_ fun im => still_bind ?_ fun back => ?_
        · unfold behindIsImport
          split
          · trivial
          · split
            · trivial
            · exact still_bind still_field fun _ => trivial
        · unfold keptBack
          split
          · split
            · trivial
            · refine still_bind ?_ fun _ => trivial
              unfold underTheClaimsCaller
              exact fun l => trivial
          · trivial
        · exact ⟨fun o => ⟨rfl, fun h => by cases o; rename_i d _; cases d <;> first | rfl | exact h⟩, still_readyFrames outer⟩
theorem still_frameOf {env : Env} : Still (PySem.frameOf env) := by
  unfold PySem.frameOf frameEnvs
  refine still_bind (still_bind (fun l => trivial) fun l => ?_) fun a => ?_
  · trivial
  · refine still_bind ?_ fun o => ?_
    · unfold frameObject
      split
      · trivial
      · exact still_bind (still_readyFrames _) fun _ => trivial
    · split <;> trivial
theorem still_entryPlace {f : Addr} {h : Bool} : Still (entryPlaceOf f h) := by
  unfold entryPlaceOf
  refine still_bind (fun l => trivial) fun acts => ?_
  split <;> trivial
theorem still_newEntry {a b c d e : Value} {pl : List Value} : Still (EntryCells.newEntry a b c d e pl) := by
  unfold EntryCells.newEntry newFields newObj
  have h : ∀ x : Data, Still (newObjAsIs (.type "traceback") x) := fun x => by
    unfold newObjAsIs
    exact still_bind (fun a => trivial) fun a => trivial
  generalize ([a, b, c, d, e] ++ if pl.isEmpty = true then List.replicate 6 Value.none else pl).toArray = vs
  by_cases hq : vs.size > sizeLine + 2
  · simp only [if_pos hq]; exact still_bind trivial fun _ => h _
  · simp only [if_neg hq]; exact h _
theorem still_noteFrame {e : Value} {env : Env} : Still (noteFrame e env) := by
  unfold noteFrame
  cases env.frame with
  | none => trivial
  | some f =>
    refine still_bind still_field fun head => ?_
    have rest : ∀ q : Bool, Still (do setField e 1 (← EntryCells.newEntry head (← PySem.frameOf env) .none (rawInt f) .none (← entryPlaceOf f q)) : Sem Unit) := fun q =>
      still_bind still_frameOf fun a => still_bind still_entryPlace fun pl => still_bind still_newEntry fun b => still_setField
    split
    · refine still_bind still_field fun y => ?_
      split
      · trivial
      · exact still_bind still_setField fun _ => rest _
    · exact rest _
theorem still_leaving {env : Env} {e : Value} : Still (leaving env e) := still_bind still_noteFrame fun _ => still_setFlight
end L2
namespace L2
open PySem PySem.Builtin PySem.Builtin.ObjectAttr
inductive TailN (h : Heap) (bmB : List Value) (ns : List Str) : List Value → Prop
  | base : TailN h bmB ns bmB
  | own {A : Addr} {c0 : Value} {dd : Option Addr} {cd : ClassData} {sl : Array (Option Value)} {mA : Str → Option Value} {tl : List Value} :
      h.get? A = some { cls := c0, dict := dd, data := .cls cd, slots := sl } → h.Ns cd.ns mA → (∀ n ∈ ns, mA n = none) → TailN h bmB ns tl → TailN h bmB ns (.ref A :: tl)
theorem TailN.has {h : Heap} {bmB tl : List Value} {ns : List Str} (T : TailN h bmB ns tl) {X : String} {b : Bool} (hb : bmB.contains (.type X) = b) : tl.contains (.type X) = b := by
  induction T with
  | base => exact hb
  | own _ _ _ _ ih => rw [List.contains_cons, ih]; rfl
theorem TailN.refuse {h : Heap} {bmB tl : List Value} {ns : List Str} (T : TailN h bmB ns tl) (self : Value) (what : Str) : refuseLoop self what tl = refuseLoop self what bmB := by
  induction T with
  | base => rfl
  | own _ _ _ _ ih => rw [refuseLoop_ref]; exact ih
section
variable {M : PySem.Model} {A : Around} {E : Value → Shared → Prop} {h : Heap} {g : Array GenState} {d : Drawn} {t : Nat} {os : OsState}
theorem TailN.along {bmB tl : List Value} {ns : List Str} {n : Str} {y : Option Value} {Q : Option Value → Shared → Prop} (hn : n ∈ ns) (T : TailN h bmB ns tl) (hr : lookupAlong bmB n = pure y) (hq : Q y ⟨h, g, d, t, os⟩) :
    wpAny M A (lookupAlong tl n) Q E ⟨h, g, d, t, os⟩ := by
  induction T with
  | base => rw [hr]; exact wpAny_pure hq
  | own hA hN hni _ ih =>
    rw [lookupAlong_cons]
    refine wpAny_bind (wpAny_classOwn_cls hA hN ?_)
    rw [hni n hn]
    exact ih
variable {nm q : Str} {C N x : Addr} {bs bm bmB : List Value} {hdct : Bool} {sn : List Str} {sub : List Value} {ab : Bool} {col : Option Bool} {dd : Option Addr} {k0 k1 k2 k3 k5 : Option Value} {B newId sa owner : String}
  {mN mA : Str → Option Value} {name : Str} {v : Value} {ns : List Str}
theorem look_tail {n : Str} {y : Option Value} {Q : Option Value → Shared → Prop} (hn : n ∈ ns) (hC : h.get? C = some (excClassObj nm q C N bs bm hdct sn sub ab col dd k0 k1 k2 k3 k5 newId)) (hN : h.Ns N mN) (hm : mN n = none)
    (T : TailN h bmB ns bm) (hb : mroOf (.type B) = pure bmB) (hB : typeLookup (.type B) n = pure y) (hq : Q y ⟨h, g, d, t, os⟩) : wpAny M A (typeLookup (.ref C) n) Q E ⟨h, g, d, t, os⟩ := by
  have hr : lookupAlong bmB n = pure y := by rw [typeLookup_eq, hb] at hB; exact hB
  rw [typeLookup_eq]
  refine wpAny_bind (wpAny_mroOf_exc hC ?_)
  rw [lookupAlong_cons]
  refine wpAny_bind (wpAny_classOwn_exc hC hN ?_)
  rw [hm]
  exact T.along hn hr hq
end
theorem check_tail {M : PySem.Model} {A : Around} {E : Value → Shared → Prop} {h : Heap} {g : Array GenState} {d : Drawn} {t : Nat} {os : OsState} {nm q : Str} {C N x : Addr} {bs bm bmB : List Value} {hdct : Bool} {sn : List Str} {sub : List Value} {ab : Bool} {col : Option Bool} {dd : Option Addr} {k0 k1 k2 k3 k5 : Option Value} {B newId sa owner : String}
    {v nv : Value} {ns : List Str} {o : Obj} {Q : Unit → Shared → Prop} (SF : StoreFacts B bmB sa owner) (hC : h.get? C = some (excClassObj nm q C N bs bm hdct sn sub ab col dd k0 k1 k2 k3 k5 newId)) (T : TailN h bmB ns bm) (hx : h.get? x = some o) (hc : o.cls = .ref C) (hq : Q () ⟨h, g, d, t, os⟩) :
    wpAny M A (checkBuiltinCall sa ⟨[.ref x, nv, v], []⟩) Q E ⟨h, g, d, t, os⟩ := by
  have hcB : (Value.ref C :: bm).contains (.type owner) = true := by rw [List.contains_cons, T.has SF.hasOwner, Bool.or_true]
  have ha := SF.args (.ref x) nv v
  simp only [checkBuiltinCall, SF.kind, SF.split]
  refine wpAny_bind ?_
  unfold isInstance
  repeat (first | (with_reducible refine wpAny_loadPart_at hx ?_; rw [hc]) | (with_reducible refine wpAny_isSubtype_exc hC ?_; rw [hcB]) | wp_step)
  cases hsig : Manifest.signature? sa with
  | none => exact wpAny_pure hq
  | some sig =>
    simp only [argsOk, hsig] at ha
    show wpAny M A (Bind.checkArgs sa sig ⟨[.ref x, nv, v], []⟩) Q E _
    rw [show Bind.checkArgs sa sig ⟨[.ref x, nv, v], []⟩ = pure () from ha]
    exact wpAny_pure hq
section
variable {prog : Program} {w : World} {A : Around} {E : Value → Shared → Prop} {h : Heap} {g : Array GenState} {d : Drawn} {t : Nat} {os : OsState}
variable {nm q : Str} {C N x : Addr} {bs bm bmB : List Value} {sn : List Str} {sub : List Value} {ab : Bool} {col : Option Bool} {dd : Option Addr} {k0 k1 k2 k3 k5 : Option Value} {B newId sa owner : String}
  {mN : Str → Option Value} {name : Str} {v : Value} {ns : List Str}
theorem entry_first {tk : Tok} {o : Obj} {Q : Fin → Shared → Prop} (SF : StoreFacts B bmB sa owner) (hC : h.get? C = some (excClassObj nm q C N bs bm true sn sub ab col dd k0 k1 k2 k3 k5 newId)) (hN : h.Ns N mN) (T : TailN h bmB ns bm)
    (hn : name ∈ ns) (hmn : mN name = none) (hB : typeLookup (.type B) name = pure none)
    (hx : h.get? x = some o) (hc : o.cls = .ref C) (hnc : ∀ c, o.data ≠ .cls c) (hd : o.dict = none)
    (hq : ∀ h' tk', h'.get? x = some { o with dict := some h.objs.size } → h'.Ns1 h.objs.size (fun y => if y = name then some v else none) → (∀ b ob, b ≠ x → h.get? b = some ob → h'.get? b = some ob) → Q (.done (.ret .none)) ⟨h', g, d, tk', os⟩) :
    wpAny (model prog w) A (Builtin.«object.__setattr__» ⟨[.ref x, .str name tk, v], []⟩) Q E ⟨h, g, d, t, os⟩ := by
  have hpass := SF.passes (.ref x)
  unfold Builtin.«object.__setattr__»
  repeat (first | rw [refuse_eq] | (rw [refuseLoop_ref, T.refuse, hpass]) | (with_reducible refine wpAny_loadPart_at hx ?_; rw [hc]) | with_reducible refine wpAny_mroOf_exc hC ?_ | (with_reducible refine look_tail hn hC hN hmn T SF.mro hB ?_) | wp_step)
  have hx1 : (h.push { cls := .type "dict", data := .dict #[] }).get? x = some o := Heap.get?_push_of_some _ hx
  have hxs : x ≠ h.objs.size := Nat.ne_of_lt (Heap.lt_size hx)
  rw [hd, if_neg (by simp [typeHasDict])]
  split
  · rename_i z; cases z
  split
  · rename_i c z; exact absurd z (hnc c)
  refine wpAny_bind (wpAny_alloc' (wpAny_bind (wpAny_update' hx1 (wpAny_pure ?_))))
  have fr : ({ o with dict := some h.objs.size } : Obj).isFreed = false := by
    have z := (Heap.get?_some_iff.mp hx).2
    obtain ⟨_, _, od, _⟩ := o
    cases od <;> first | rfl | exact z
  have gx := Heap.get?_update_self (h := h.push { cls := .type "dict", data := .dict #[] }) (fun o : Obj => { cls := o.cls, dict := some h.objs.size, data := o.data, slots := o.slots }) hx1 fr
  have gd := (Heap.get?_update_other (h.push { cls := .type "dict", data := .dict #[] }) (fun o : Obj => { cls := o.cls, dict := some h.objs.size, data := o.data, slots := o.slots }) hxs).trans (Heap.get?_push_size h rfl)
  have n0 : ((h.push { cls := .type "dict", data := .dict #[] }).update x fun o : Obj => { cls := o.cls, dict := some h.objs.size, data := o.data, slots := o.slots }).Ns h.objs.size fun _ => none := ⟨_, #[], _, gd, rfl, fun e he => absurd he (by simp), fun _ => rfl⟩
  show wpAny _ _ (storeInDict h.objs.size (.str name tk) name v) _ _ _
  unfold storeInDict newKeyGuard
  refine wpAny_bind (wpAny_pure (wpAny_bind (wpAny_nsSet1 (Heap.Ns1.of_empty n0) fun h' hn' hs => ?_)))
  obtain ⟨oD, esD, epD, hoD, hdD, hcD⟩ := hn'.count (Within.cons name v Within.nil)
  refine wpAny_bind (wpAny_lookBehind hoD (by rw [hdD]; exact pastItsLine_dict (Nat.le_trans hcD (by simp [sizeLine_eq]))) ?_)
  wp_walk
  refine hq h' _ ((hs.2 x hxs).trans gx) hn' fun b ob hb e => ?_
  exact (hs.2 b (Nat.ne_of_lt (Heap.lt_size e))).trans ((Heap.get?_update_other _ _ hb.symm).trans (Heap.get?_push_of_some _ e))
theorem store_first {o : Obj} {Q : Unit → Shared → Prop} (SF : StoreFacts B bmB sa owner) (hC : h.get? C = some (excClassObj nm q C N bs bm true sn sub ab col dd k0 k1 k2 k3 k5 newId)) (hN : h.Ns N mN) (T : TailN h bmB ns bm)
    (hs : ("__setattr__" : Str) ∈ ns) (hn : name ∈ ns) (hms : mN "__setattr__" = none) (hmn : mN name = none) (hB : typeLookup (.type B) name = pure none)
    (hx : h.get? x = some o) (hc : o.cls = .ref C) (hnc : ∀ c, o.data ≠ .cls c) (hd : o.dict = none)
    (hq : ∀ h' tk', h'.get? x = some { o with dict := some h.objs.size } → h'.Ns1 h.objs.size (fun y => if y = name then some v else none) → (∀ b ob, b ≠ x → h.get? b = some ob → h'.get? b = some ob) → Q () ⟨h', g, d, tk', os⟩) :
    wpAny (model prog w) A (setAttr (.ref x) name v) Q E ⟨h, g, d, t, os⟩ := by
  have f3 := SF.slot.bind (.ref x)
  unfold setAttr callSpecial? specialOf
  repeat (any_goals (first | assumption | (with_reducible refine wpAny_loadPart_at hx ?_; rw [hc]) | (with_reducible refine look_tail hs hC hN hms T SF.mro SF.slot.lookup ?_) | wp_step))
  refine codeAny_call_builtin SF.slot.plain SF.entry (check_tail SF hC T hx hc (entry_first SF hC hN T hn hmn hB hx hc hnc hd fun h' tk' e1 e2 e3 => ?_))
  repeat (any_goals (first | assumption | wp_step))
  exact hq h' tk' e1 e2 e3
end
end L2
namespace L2
open PySem PySem.Builtin PySem.Builtin.ObjectAttr
section
variable {prog : Program} {w : World} {A : Around} {E : Value → Shared → Prop} {h : Heap} {g : Array GenState} {d : Drawn} {t : Nat} {os : OsState}
variable {nm q : Str} {C N x dx : Addr} {bs bm bmB : List Value} {sn : List Str} {sub : List Value} {ab : Bool} {col : Option Bool} {dd : Option Addr} {k0 k1 k2 k3 k5 : Option Value} {B newId : String}
  {mN mA : Str → Option Value} {name : Str} {v : Value} {ns : List Str} {o : Obj}
theorem check_ga {M : PySem.Model} {nv : Value} {hdct : Bool} {Q : Unit → Shared → Prop} (FB : ExcAttrBase B bmB) (hC : h.get? C = some (excClassObj nm q C N bs bm hdct sn sub ab col dd k0 k1 k2 k3 k5 newId)) (T : TailN h bmB ns bm)
    (hx : h.get? x = some o) (hc : o.cls = .ref C) (hq : Q () ⟨h, g, d, t, os⟩) : wpAny M A (checkBuiltinCall "BaseException.__getattribute__" ⟨[.ref x, nv], []⟩) Q E ⟨h, g, d, t, os⟩ := by
  have hk : builtinKind "BaseException.__getattribute__" = some .slot := by decide +kernel
  have hsp : splitId "BaseException.__getattribute__" = some ("BaseException", "__getattribute__") := by decide +kernel
  have hcB : (Value.ref C :: bm).contains (.type "BaseException") = true := by rw [List.contains_cons, T.has FB.hasBase]; rfl
  have ha := F.args_bexc_ga (.ref x) nv
  simp only [checkBuiltinCall, hk, hsp]
  refine wpAny_bind ?_
  unfold isInstance
  repeat (first | (with_reducible refine wpAny_loadPart_at hx ?_; rw [hc]) | (with_reducible refine wpAny_isSubtype_exc hC ?_; rw [hcB]) | wp_step)
  exact hq
theorem entry_get {tk : Tok} {Q : Fin → Shared → Prop} (FB : ExcAttrBase B bmB) (hC : h.get? C = some (excClassObj nm q C N bs bm true sn sub ab col dd k0 k1 k2 k3 k5 newId)) (hN : h.Ns N mN) (T : TailN h bmB ns bm) (hn : name ∈ ns) (hmn : mN name = none)
    (hB : typeLookup (.type B) name = pure none) (hx : h.get? x = some o) (hc : o.cls = .ref C) (hnc : ∀ c, o.data ≠ .cls c) (hd : o.dict = some dx) (hA : h.Ns dx mA) (hv : mA name = some v) (hq : Q (.done (.ret v)) ⟨h, g, d, t, os⟩) :
    wpAny (model prog w) A (Builtin.«object.__getattribute__» ⟨[.ref x, .str name tk], []⟩) Q E ⟨h, g, d, t, os⟩ := by
  unfold Builtin.«object.__getattribute__»
  repeat (first | (with_reducible refine wpAny_loadPart_at hx ?_; rw [hc]) | (with_reducible refine look_tail hn hC hN hmn T FB.mro hB ?_) | wp_step)
  split
  · rename_i c z; exact absurd z (hnc c)
  unfold instanceDict
  repeat (first | (with_reducible refine wpAny_loadPart_at hx ?_; rw [hc]) | with_reducible refine wpAny_loadPart_at hC ?_ | wp_step)
  rw [hd]
  repeat (first | (with_reducible refine wpAny_nsGet hA ?_; rw [hv]) | wp_step)
  exact hq
theorem get_field {expr : Bool} {Q : Value → Shared → Prop} (FB : ExcAttrBase B bmB) (hC : h.get? C = some (excClassObj nm q C N bs bm true sn sub ab col dd k0 k1 k2 k3 k5 newId)) (hN : h.Ns N mN) (T : TailN h bmB ns bm)
    (h1 : ("__getattribute__" : Str) ∈ ns) (h2 : ("__getattr__" : Str) ∈ ns) (hn : name ∈ ns) (m1 : mN "__getattribute__" = none) (m2 : mN "__getattr__" = none) (hmn : mN name = none)
    (hB : typeLookup (.type B) name = pure none) (hx : h.get? x = some o) (hc : o.cls = .ref C) (hnc : ∀ c, o.data ≠ .cls c) (hd : o.dict = some dx) (hA : h.Ns dx mA) (hv : mA name = some v) (hh : handedOut v = pure v) (hq : Q v ⟨h, g, d, t + 1, os⟩) :
    wpAny (model prog w) A (getAttr (.ref x) name expr) Q E ⟨h, g, d, t, os⟩ := by
  have f3 := FB.ga.bind (.ref x)
  have hx0 : (expr && onTheHeap (Value.builtin "BaseException.__getattribute__")) = false := by cases expr <;> rfl
  have hx2 : (Value.builtin "BaseException.__getattribute__" == Value.builtin "object.__getattribute__") = false := by decide +kernel
  have hx1 : (onTheHeap (Value.ref C) && Value.builtin "BaseException.__getattribute__" == Value.builtin "object.__getattribute__") = false := by rw [hx2]; rfl
  unfold getAttr getAttrBy
  repeat (any_goals (first | assumption | (with_reducible refine wpAny_loadPart_at hx ?_; rw [hc]) | (with_reducible refine look_tail h1 hC hN m1 T FB.mro FB.ga.lookup ?_) | (with_reducible refine look_tail h2 hC hN m2 T FB.mro FB.noGetattr ?_) | wp_step))
  refine codeAny_call_builtin FB.ga.plain F.entry_bexc_ga (check_ga FB hC T hx hc (entry_get FB hC hN T hn hmn hB hx hc hnc hd hA hv ?_))
  show wpAny _ _ (handedOut v) _ _ _
  rw [hh]
  exact wpAny_pure hq
end
end L2
namespace L2
open PySem
section
variable {prog : Program} {w : World} {A : Around} {E : Value → Shared → Prop} {h : Heap} {g : Array GenState} {d : Drawn} {t : Nat} {os : OsState}
variable {nm q : Str} {C N fI : Addr} {bs bm bmB rest : List Value} {hdct : Bool} {sn : List Str} {sub : List Value} {ab : Bool} {col : Option Bool} {dd : Option Addr} {k0 k1 k2 k3 k5 : Option Value} {B newId initId : String} {mN : Str → Option Value} {oI : Obj}
theorem type_call_init (F : ExcBaseFacts B newId initId bmB) (T : OwnTail h bmB bm) {Q : Fin → Shared → Prop} (hC : h.get? C = some (excClassObj nm q C N bs bm hdct sn sub ab col dd k0 k1 k2 k3 k5 newId)) (hn : h.Ns N mN) (hi : mN "__init__" = some (.ref fI))
    (hf : h.get? fI = some oI) (hfc : oI.cls = .type "function")
    (hq : ∀ h' e, Heap.MadeExcOf h h' e (.ref C) rest → wpAny (model prog w) A (call (.ref fI) (.ref e :: rest)) (fun r s' => r = .none ∧ Q (.done (.ret (.ref e))) s') E ⟨h', g, d, t, os⟩) (hrest : rest.length ≤ sizeLine := by size_fits) :
    wpAny (model prog w) A (Builtin.«type.__call__» ⟨.ref C :: rest, []⟩) Q E ⟨h, g, d, t, os⟩ := by
  repeat (first | with_reducible refine wpAny_loadPart_at hC ?_ | with_reducible refine wpAny_madeBy_exc hC ?_ | wp_step)
  refine codeAny_call_builtin_code (Code.quiet_builtin _ F.quiet) (wpAny_check_new_subT F T hC (codeAny_exc_new_subT F T hC ?_ hrest))
  show wpAny _ _ _ _ _ _
  have up : ∀ b o, h.get? b = some o → ((h.push { cls := .type "tuple", data := .seq rest.toArray }).push { cls := .ref C, data := .fields #[.ref h.objs.size, .none, .none, .none, .bool false, .none] }).get? b = some o := fun b o e => Heap.get?_push_of_some _ (Heap.get?_push_of_some _ e)
  have ge : ((h.push { cls := .type "tuple", data := .seq rest.toArray }).push { cls := .ref C, data := .fields #[.ref h.objs.size, .none, .none, .none, .bool false, .none] }).get? (h.objs.size + 1) = some { cls := .ref C, data := .fields #[.ref h.objs.size, .none, .none, .none, .bool false, .none] } := by heap_get
  have c1 := up _ _ hC
  have f1 := up _ _ hf
  have n1 := hn.keeps up
  have t1 := T.keeps up
  have hcC : (Value.ref C :: bm).contains (.ref C) = true := by simp
  unfold isInstance
  repeat (first | with_reducible refine wpAny_loadPart_at ge ?_ | (with_reducible refine wpAny_isSubtype_exc c1 ?_; rw [hcC]) | wp_step)
  show wpAny _ _ (typeLookup (.ref C) _) _ _ _
  refine wpAny_typeLookup_tail c1 n1 t1 F.mroIs F.init.lookup ?_
  rw [hi]
  refine wpAny_holding (wpAny_bind ?_)
  unfold bindSpecial
  refine wpAny_bind (wpAny_typeOf (T := "function") ⟨_, f1, hfc⟩ ?_)
  rw [if_pos (by decide)]
  refine wpAny_pure (wpAny_bind (wpAny_mono (hq _ (h.objs.size + 1) ⟨up, Heap.get?_none_of_le (Nat.le_succ _), h.objs.size, ge, Heap.get?_none_of_le (Nat.le_refl _), Heap.get?_push_of_some _ (Heap.get?_push_size h rfl)⟩) (fun r s' hr => ?_) fun _ _ z => z))
  obtain ⟨rfl, hr⟩ := hr
  wp_walk
  exact hr
theorem call_init (F : ExcBaseFacts B newId initId bmB) (T : OwnTail h bmB bm) {Q : Value → Shared → Prop} (hC : h.get? C = some (excClassObj nm q C N bs bm hdct sn sub ab col dd k0 k1 k2 k3 k5 newId)) (hn : h.Ns N mN) (hi : mN "__init__" = some (.ref fI))
    (hf : h.get? fI = some oI) (hfc : oI.cls = .type "function")
    (hq : ∀ h' e, Heap.MadeExcOf h h' e (.ref C) rest → wpAny (model prog w) (A.under (.builtin "type.__call__" ⟨.ref C :: rest, []⟩)) (call (.ref fI) (.ref e :: rest)) (fun r s' => r = .none ∧ Q (.ref e) s') E ⟨h', g, d, t, os⟩) (hrest : rest.length ≤ sizeLine := by size_fits) :
    wpAny (model prog w) A (call (.ref C) rest) Q E ⟨h, g, d, t, os⟩ := by
  have f1 := tc_lookup
  have f2 := tc_bind (.ref C)
  have hT : (⟨h, g, d, t, os⟩ : Shared).TypeIs (.ref C) "type" := ⟨_, hC, rfl⟩
  refine wpAny_call (codeAny_of_tree ?_)
  show wpAny _ _ (callAny (.ref C) _) _ _ _
  repeat (any_goals (first | assumption | with_reducible refine wpAny_loadPart_at hC ?_ | wp_step))
  refine ⟨rfl, ?_⟩
  exact codeAny_call_builtin_at (Code.quiet_builtin _ (by decide +kernel)) entry_typeCall (wpAny_check_type_call_sub hC (type_call_init F T hC hn hi hf hfc (fun h' e hm => hq h' e hm) hrest))
end
end L2
namespace L2
open PySem PySem.Spec PyProof.Rows
def Fld (h : Heap) (a dx : Addr) : Option Nat → Prop
  | none => True
  | some n => (∃ oe, h.get? a = some oe ∧ oe.dict = some dx) ∧ ∃ m t, h.Ns dx m ∧ m "at" = some (.int (n : Int) t)
theorem Fld.go {h h' : Heap} {a dx : Addr} {d : Option Nat} (f : Fld h a dx d) (k : Dk h h') (u : h.UpToSlots h') : Fld h' a dx d := by
  cases d with
  | none => trivial
  | some n =>
    obtain ⟨⟨oe, e1, e2⟩, m, t, e3, e4⟩ := f
    obtain ⟨o', e5, e6⟩ := k a oe e1
    exact ⟨⟨o', e5, e6.trans e2⟩, m, t, u.ns e3, e4⟩
section
variable {M : PySem.Model} {A : Around} {E : Value → Shared → Prop} {s : Shared} {B : Heap} {env : Env} {outer : List Env} {L e : Addr} {cls a0 : Value} {Q : Unit → Shared → Prop} {dx : Addr} {d : Option Nat}
theorem leaves_fld (hfr : A.frames = some (env :: outer)) (hf : env.frame = some L) (fl : Heap.FlyingW B (env :: outer) e cls a0 s.heap) (f : Fld s.heap e dx d)
    (hQ : ∀ h', Heap.FlyingW B outer e cls a0 h' → s.heap.UpToSlots h' → Fld h' e dx d → Q () { s with heap := h' }) : wpAny M A (leaving env (.ref e)) Q E s := by
  refine wpAny_mono (still_any still_leaving (wpAny_leaves_onW (Q := fun _ s' => ∃ h', s' = { s with heap := h' } ∧ Heap.FlyingW B outer e cls a0 h' ∧ s.heap.UpToSlots h') hfr hf fl fun h' f1 u => ⟨h', rfl, f1, u⟩)) (fun _ s' z => ?_) fun _ _ z => z
  obtain ⟨⟨h', rfl, f1, u⟩, k⟩ := z
  exact hQ h' f1 u (f.go k u)
theorem looks_fld (hfr : A.frames = some (env :: outer)) (hf : env.frame = some L) (fl : Heap.FlyingW B (env :: outer) e cls a0 s.heap) (f : Fld s.heap e dx d)
    (hQ : ∀ h', Heap.HeldW B (env :: outer) e cls a0 L h' → s.heap.UpToSlots h' → Fld h' e dx d → Q () { s with heap := h' }) : wpAny M A (noteFrame (.ref e) env) Q E s := by
  refine wpAny_mono (still_any still_noteFrame (wpAny_looks_onW (Q := fun _ s' => ∃ h', s' = { s with heap := h' } ∧ Heap.HeldW B (env :: outer) e cls a0 L h' ∧ s.heap.UpToSlots h') hfr hf fl fun h' f1 u => ⟨h', rfl, f1, u⟩)) (fun _ s' z => ?_) fun _ _ z => z
  obtain ⟨⟨h', rfl, f1, u⟩, k⟩ := z
  exact hQ h' f1 u (f.go k u)
theorem lands_fld {l : List Env} (hh : Heap.HeldW B l e cls a0 L s.heap) (f : Fld s.heap e dx d) (hQ : ∀ h', Heap.FlyingW B l e cls a0 h' → s.heap.UpToSlots h' → Fld h' e dx d → Q () { s with heap := h' }) : wpAny M A (setFlight (.ref e) none) Q E s := by
  refine wpAny_mono (still_any still_setFlight (wpAny_landsW (Q := fun _ s' => ∃ h', s' = { s with heap := h' } ∧ Heap.FlyingW B l e cls a0 h' ∧ s.heap.UpToSlots h') hh fun h' f1 u => ⟨h', rfl, f1, u⟩)) (fun _ s' z => ?_) fun _ _ z => z
  obtain ⟨⟨h', rfl, f1, u⟩, k⟩ := z
  exact hQ h' f1 u (f.go k u)
theorem lands2_fld {l : List Env} (hh : Heap.FlyingW B l e cls a0 s.heap) (f : Fld s.heap e dx d) (hQ : ∀ h', Heap.FlyingW B l e cls a0 h' → s.heap.UpToSlots h' → Fld h' e dx d → Q () { s with heap := h' }) : wpAny M A (setFlight (.ref e) none) Q E s := by
  refine wpAny_mono (still_any still_setFlight (lands_againW (Q := fun _ s' => ∃ h', s' = { s with heap := h' } ∧ Heap.FlyingW B l e cls a0 h' ∧ s.heap.UpToSlots h') hh fun h' f1 u => ⟨h', rfl, f1, u⟩)) (fun _ s' z => ?_) fun _ _ z => z
  obtain ⟨⟨h', rfl, f1, u⟩, k⟩ := z
  exact hQ h' f1 u (f.go k u)
theorem first_fld {oe : Obj} {vs : Array Value} (hfr : A.frames = some (env :: outer)) (hl : s.heap.FunFrames B (env :: outer)) (hf : env.frame = some L) (he : s.heap.get? e = some oe) (hkb : B.StaysIn s.heap) (hen : B.get? e = none) (hd : oe.data = .fields vs) (h1 : vs[1]? = some .none) (h0 : vs[0]? = some a0) (f : Fld s.heap e dx d)
    (hQ : ∀ h', Heap.FlyingW B outer e oe.cls a0 h' → s.heap.UpToSlots h' → Fld h' e dx d → Q () { s with heap := h' }) : wpAny M A (leaving env (.ref e)) Q E s := by
  refine wpAny_mono (still_any still_leaving (wpAny_leaving_firstW (Q := fun _ s' => ∃ h', s' = { s with heap := h' } ∧ Heap.LeftW B (env :: outer) e oe.cls a0 s.heap h') hfr hl hf he hkb hen hd h1 h0 fun h' z => ⟨h', rfl, z⟩)) (fun _ s' z => ?_) fun _ _ z => z
  obtain ⟨⟨h', rfl, k1, ⟨_, _, k2⟩, k3, k4⟩, k⟩ := z
  exact hQ h' ⟨k1, hen, k2, k3⟩ k4 (f.go k k4)
end
end L2
namespace L2
open PySem
section
variable {M : PySem.Model} {A : Around} {E : Value → Shared → Prop} {env : Env}
variable {nm q : Str} {C N fI : Addr} {bs bm bmB : List Value} {hdct : Bool} {sn : List Str} {sub : List Value} {ab : Bool} {col : Option Bool} {dd : Option Addr} {k0 k1 k2 k3 k5 : Option Value} {B newId initId : String} {mN : Str → Option Value}
theorem raise_obj {s : Shared} {x : Sem Value} {Q : Flow → Shared → Prop} (hbase : bm.contains (.type "BaseException") = true) (hh : A.handled = none)
    (h : wpAny M A x (fun v s₁ => ∃ e t dx, v = .ref e ∧ s₁.heap.get? C = some (excClassObj nm q C N bs bm hdct sn sub ab col dd k0 k1 k2 k3 k5 newId) ∧ s₁.heap.get? e = some { cls := .ref C, dict := dx, data := .fields #[.ref t, .none, .none, .none, .bool false, .none] } ∧ E (.ref e) s₁) E s) : wpAny M A (raiseStmt env (some x) none) Q E s := by
  have hcB : (Value.ref C :: bm).contains (.type "BaseException") = true := by rw [List.contains_cons, hbase, Bool.or_true]
  unfold raiseStmt
  refine wpAny_bind (wpAny_mono h (fun v s₁ h₁ => ?_) fun _ _ x => x)
  obtain ⟨e, t, dx, rfl, hC, he, hE⟩ := h₁
  obtain ⟨hp, g, d, tk, os⟩ := s₁
  repeat (first | with_reducible refine wpAny_loadPart_at he ?_ | with_reducible refine wpAny_loadPart_at hC ?_ | (with_reducible refine wpAny_isSubtype_exc hC ?_; rw [hcB]) | wp_step)
  exact wpAny_raiseNew_none hh hE
end
section
variable {prog : Program} {w : World} {A : Around} {E : Value → Shared → Prop} {s : Shared} {env : Env}
variable {nm q : Str} {C N fI : Addr} {bs bm bmB : List Value} {hdct : Bool} {sn : List Str} {sub : List Value} {ab : Bool} {col : Option Bool} {dd : Option Addr} {k0 k1 k2 k3 k5 : Option Value} {B newId initId : String} {mN : Str → Option Value}
theorem raise_init (F : ExcBaseFacts B newId initId bmB) {x : Str} {np cpos pos : Pos} {args : List Expr} {Q : Flow → Shared → Prop} (hbase : bm.contains (.type "BaseException") = true) (hh : A.handled = none)
    (hplain : (backTo cpos (starEach args env)).any (·.1) = false) (hi : mN "__init__" = some (.ref fI))
    (h : wpAny (model prog w) A (eval (.Name x np) env) (fun f s₁ => f = .ref C ∧ wpAny (model prog w) A (evalArgs (.ref C) true (backTo cpos (starEach args env)) [])
      (fun a s₂ => a.kw = [] ∧ a.pos.length ≤ sizeLine ∧ s₂.heap.get? C = some (excClassObj nm q C N bs bm hdct sn sub ab col dd k0 k1 k2 k3 k5 newId) ∧ s₂.heap.Ns N mN ∧ OwnTail s₂.heap bmB bm ∧ (∃ oI, s₂.heap.get? fI = some oI ∧ oI.cls = .type "function") ∧
        ∀ h' e, Heap.MadeExcOf s₂.heap h' e (.ref C) a.pos → wpAny (model prog w) (A.under (.builtin "type.__call__" ⟨.ref C :: a.pos, []⟩)) (call (.ref fI) (.ref e :: a.pos))
          (fun r s' => r = .none ∧ s'.heap.get? C = some (excClassObj nm q C N bs bm hdct sn sub ab col dd k0 k1 k2 k3 k5 newId) ∧ (∃ t dx, s'.heap.get? e = some { cls := .ref C, dict := dx, data := .fields #[.ref t, .none, .none, .none, .bool false, .none] }) ∧ E (.ref e) s') E { s₂ with heap := h' }) E s₁) E s) :
    wpAny (model prog w) A (exec (.Raise (some (.Call (.Name x np) args [] cpos)) none pos) env) Q E s := by
  rw [arm_exec_Raise]
  refine wpAny_bind (wpAny_standAt (raise_obj (C := C) (nm := nm) (q := q) (N := N) (bs := bs) (bm := bm) (hdct := hdct) (sn := sn) (sub := sub) (ab := ab) (col := col) (dd := dd) (k0 := k0) (k1 := k1) (k2 := k2) (k3 := k3) (k5 := k5) (newId := newId) hbase hh (wpAny_bind (wpAny_mono (wpAny_Call_ofName (wpAny_mono h (fun f s₁ h₁ => ?_) fun _ _ x => x)) (fun v s₃ h₃ => wpAny_bind (wpAny_standAt (wpAny_pure h₃))) fun _ _ x => x))))
  obtain ⟨rfl, h₁⟩ := h₁
  unfold callWith
  refine wpAny_bind (wpAny_holding (wpAny_mono h₁ (fun a s₂ h₂ => wpAny_bind (wpAny_standAt ?_)) fun _ _ x => x))
  obtain ⟨apos, akw⟩ := a
  obtain ⟨hkw, hlen, hC, hn, T, ⟨oI, hf, hfc⟩, h₂⟩ := h₂
  obtain rfl : akw = [] := hkw
  obtain ⟨hp, g, d, tk, os⟩ := s₂
  simp only [hplain]
  refine wpAny_bind (wpAny_keeperOf_exc hC ?_)
  refine wpAny_bind (call_init F T hC hn hi hf hfc (fun h' e hm => wpAny_mono (h₂ h' e hm) (fun r s' z => ?_) fun _ _ z => z) hlen)
  obtain ⟨rfl, z1, ⟨t, dx, z2⟩, z4⟩ := z
  exact ⟨rfl, wpAny_bind (wpAny_holding (wpAny_point (wpAny_pure ⟨e, t, dx, rfl, z1, z2, z4⟩)))⟩
end
end L2
namespace L2
open PySem PySem.Spec PyProof.Rows
theorem ObjOk.there {P : Program} {w : World} {K : PySem.W.Frag} {H : Hp} {h : Heap} {a : Addr} {o : HO} (x : ObjOk P w K H h a o) : ∃ u, h.get? a = some u := by
  cases o with
  | lst xs => obtain ⟨_, _, _, _, e⟩ := x; exact ⟨_, e⟩
  | tup xs => obtain ⟨_, _, _, _, e, _⟩ := x; exact ⟨_, e⟩
  | dK kvs => obtain ⟨_, _, _, _, o, _, _, e, _⟩ := x; exact ⟨_, e⟩
  | dT kvs => obtain ⟨_, _, _, _, o, _, _, e, _⟩ := x; exact ⟨_, e⟩
  | set S n => obtain ⟨o, _, _, _, e, _⟩ := x; exact ⟨_, e⟩
  | ins C dx fs => obtain ⟨_, _, _, e, _⟩ := x; exact ⟨_, e⟩
  | own y => exact x
  | xd fs => obtain ⟨_, ⟨_, _, _, e, _⟩, _⟩ := x; exact ⟨_, e⟩
  | rng lo hi => obtain ⟨_, _, _, e⟩ := x; exact ⟨_, e⟩
  | frz ob u => obtain ⟨e, _⟩ := x; exact ⟨_, e⟩
  | tbl ps => exact ⟨_, (show h.get? a = some _ from x)⟩
  | met f y => exact ⟨_, (show h.get? a = some _ from x)⟩
  | ext φ => exact x.2.1
def Grd (B h₀ h : Heap) (H : Hp) (l : List Env) : Prop := ∀ b o, h.get? b = some o → B.get? b = none → b ∈ frs l ∨ (h₀.get? b = none ∧ H b = none)
structure Lies (X : Cx) (pins : List (Addr × Obj)) (σ : St) (H : Hp) (C : Value) (d : Option Nat) (e : Value) (s : Shared) : Prop where
  inv : Inv X pins σ H s
  ex : ∃ a a0 B, e = .ref a ∧ Heap.FlyingW B X.stack a C a0 s.heap ∧ X.s₀.heap.get? a = none ∧ H a = none ∧ (∀ p ∈ X.pn ++ pins, B.get? p.1 = some p.2) ∧ Grd B X.s₀.heap s.heap H X.stack ∧ ∃ dx, Fld s.heap a dx d ∧ X.s₀.heap.get? dx = none ∧ H dx = none ∧ (∀ p ∈ X.pn ++ pins, p.1 ≠ dx) ∧ X.env.locals ≠ dx ∧ ∀ x c, X.env.cells.lookup x = some c → c ≠ dx
def CXW (P : Program) (w : World) (K : PySem.W.Frag) : CXT := fun outer H s E e s' => ∃ a C a0 B H', e = .ref a ∧ s'.os = s.os ∧ AllBare s'.gens ∧ Un (frs outer) [] H H' s.heap s'.heap ∧ HOk P w K H' s'.heap ∧
  Heap.FlyingW B outer a C a0 s'.heap ∧ s.heap.get? a = none ∧ H' a = none ∧ Grd B s.heap s'.heap H' outer ∧ ∃ dx d, Fld s'.heap a dx d ∧ s.heap.get? dx = none ∧ H' dx = none ∧ E C d H'
section
variable {P : Program} {w : World} {K : PySem.W.Frag} {mg : Str → Option Value} {base : Heap} {N : List Str} {qual : Str} {scope : Scope} {f : Addr} {cd : Value} {A : Around} {outer : List Env} {s : Shared} {H : Hp} {E : XK} {CX : CXT}
variable {pins : List (Addr × Obj)} {σ : St} {H1 : Hp} {s1 : Shared}
theorem frs_stack {b : Addr} {env : Env} {outer : List Env} {L : Addr} (hf : env.frame = some L) (h : b ∈ frs (env :: outer)) : b = L ∨ b ∈ frs outer := by
  unfold frs at h ⊢
  rw [List.filterMap_cons, hf] at h
  exact List.mem_cons.mp h
theorem left_ok (I : Inv (cxOf CX P w K mg base N qual scope f cd A outer s H E) pins σ H1 s1) {B h2 : Heap} (bs : ∀ b o, B.get? b = some o → s1.heap.get? b = some o) (st : B.StaysIn h2)
    (gr : Grd B s.heap s1.heap H1 (envOfC qual scope s.heap.objs.size f cd :: outer)) (up : s1.heap.UpToSlots h2) :
    Un (frs outer) [] H H1 s.heap h2 ∧ HOk P w K H1 h2 ∧ Grd B s.heap h2 H1 outer := by
  have u : Un (frs outer) [] H H1 s.heap s1.heap := I.base
  have kept : ∀ b o, s1.heap.get? b = some o → b ∉ frs (envOfC qual scope s.heap.objs.size f cd :: outer) → (s.heap.get? b ≠ none ∨ H1 b ≠ none) → h2.get? b = some o := fun b o e n1 n2 => by
    cases q : B.get? b with
    | none => exact ((gr b o e q).elim n1 fun z => n2.elim (fun y => y z.1) fun y => y z.2).elim
    | some o' =>
      have := bs b o' q
      rw [e] at this
      cases this
      exact st b o q
  have old : ∀ b o, s.heap.get? b = some o → b ∉ frs outer → b ∉ frs (envOfC qual scope s.heap.objs.size f cd :: outer) := fun b o e n z => by
    rcases frs_stack rfl z with y | y
    · subst y; exact absurd (Heap.lt_size e) (Nat.lt_irrefl _)
    · exact n y
  have fr : ∀ b o, s1.heap.get? b = some o → b ∈ frs (envOfC qual scope s.heap.objs.size f cd :: outer) → ∃ sl, h2.get? b = some { o with slots := sl } := fun b o e hb => by
    obtain ⟨_, o', e', hd⟩ := I.stack.mem hb
    rw [e] at e'
    cases e'
    exact up b o e hd
  refine ⟨⟨fun b o q n hb hx => ?_, fun b o q n hb hx => ?_, u.free, fun b o q hx => ?_, u.tups, u.frzs, u.tbls⟩, fun b v q => ?_, fun b o q n => ?_⟩
  · exact kept b o (u.keep b o q n hb hx) (old b o q hb) (.inl (by rw [q]; exact fun z => nomatch z))
  · obtain ⟨sl, e1⟩ := u.slot b o q n hb hx
    obtain ⟨sl', e2⟩ := fr b _ e1 (by unfold frs at hb ⊢; rw [List.filterMap_cons]; exact List.mem_cons_of_mem _ hb)
    exact ⟨sl', e2⟩
  · obtain ⟨o', e1⟩ := u.there b o q hx
    by_cases hb : b ∈ frs (envOfC qual scope s.heap.objs.size f cd :: outer)
    · obtain ⟨sl, e2⟩ := fr b o' e1 hb
      exact ⟨_, e2⟩
    · exact ⟨o', kept b o' e1 hb (.inl (by rw [q]; exact fun z => nomatch z))⟩
  · refine (I.hok b v q).stay (fun c x hc r => ?_) (fun _ q => q) fun _ _ q => q
    have hn : H1 c ≠ none := by
      rcases hc with rfl | hc
      · rw [q]; exact fun z => nomatch z
      · rw [hc]; exact fun z => nomatch z
    exact kept c x r (fun z => hn (I.stkFree c z)) (.inr hn)
  · cases e1 : s1.heap.get? b with
    | some o' =>
      rcases gr b o' e1 n with z | z
      · rcases frs_stack rfl z with y | y
        · subst y; exact .inr ⟨Heap.get?_none_of_le (Nat.le_refl _), I.free⟩
        · exact .inl y
      · exact .inr z
    | none =>
      refine .inr ⟨?_, ?_⟩
      · cases q2 : s.heap.get? b with
        | none => rfl
        | some o2 =>
          obtain ⟨_, e2⟩ := u.there b o2 q2 (by simp)
          rw [e1] at e2; cases e2
      · cases q2 : H1 b with
        | none => rfl
        | some v =>
          obtain ⟨_, e2⟩ := (I.hok b v q2).there
          rw [e1] at e2; cases e2
theorem lies_leave {C e : Value} {d : Option Nat} (L : Lies (cxOf (CXW P w K) P w K mg base N qual scope f cd A outer s H E) pins σ H1 C d e s1) (hE : E C d H1) : (cxOf (CXW P w K) P w K mg base N qual scope f cd A outer s H E).xe e s1 := by
  obtain ⟨a, a0, B, rfl, fl, na, nH, np, gr, dx, fd, nd, nHd, npd⟩ := L.ex
  have I := L.inv
  show wpAny (model P w) (A.deeper (envOfC qual scope s.heap.objs.size f cd)) (leaving (envOfC qual scope s.heap.objs.size f cd) (.ref a)) (fun _ s'' => CXW P w K outer H s E (.ref a) s'') (fun e' s'' => CXW P w K outer H s E e' s'') s1
  refine leaves_fld I.ok.frames rfl fl fd fun h2 fl2 up fd2 => ?_
  obtain ⟨u2, hok2, gr2⟩ := left_ok I (fun b o q => fl.1 b o q) fl2.1 gr up
  exact ⟨a, C, a0, B, H1, rfl, I.os, I.bare, u2, hok2, fl2, na, nH, gr2, dx, d, fd2, nd, nHd, hE⟩
theorem lies_of {X : Cx} (I : Inv X pins σ H1 s1) (hex : X.ex = []) {Q : XK} {e : Value} {s2 : Shared} (h : CXW X.prog X.w X.K X.stack H1 s1 Q e s2) : ∃ C d H2, Lies X pins σ H2 C d e s2 ∧ Q C d H2 := by
  obtain ⟨a, C, a0, B, H2, rfl, os, bare, un, hok, fl, na, nH, gr, dx, d, fd, nd, nHd, hQ⟩ := h
  have there : ∀ b o, X.s₀.heap.get? b = some o → ∃ o', s1.heap.get? b = some o' := fun b o q => I.base.there b o q (by rw [hex]; simp)
  have fresh : ∀ b, s1.heap.get? b = none → X.s₀.heap.get? b = none := fun b q => by
    cases z : X.s₀.heap.get? b with
    | none => rfl
    | some o => obtain ⟨_, y⟩ := there b o z; rw [q] at y; cases y
  refine ⟨C, d, H2, ⟨I.call' os un hok bare (fun b z => nomatch z), a, a0, B, rfl, fl, fresh a na, nH, fun p hp => ?_, fun b o q n => ?_, dx, fd, fresh dx nd, nHd, fun p hp z => ?_, fun z => ?_, fun x c q z => ?_⟩, hQ⟩
  · obtain ⟨e1, n1, nl, nf, _⟩ := I.pin p hp
    have nfr : p.1 ∉ frs X.stack := fun z => (List.mem_cons.mp (I.stkSub _ z)).elim nl nf
    have e2 := un.keep p.1 p.2 e1 n1 nfr (by simp)
    cases q : B.get? p.1 with
    | none =>
      rcases gr p.1 p.2 e2 q with z | z
      · exact absurd z nfr
      · rw [e1] at z; cases z.1
    | some o =>
      have := fl.1 _ _ q
      rw [e2] at this
      cases this
      rfl
  · rcases gr b o q n with z | z
    · exact .inl z
    · exact .inr ⟨fresh b z.1, z.2⟩
  · obtain ⟨e1, _⟩ := I.pin p hp
    rw [z, nd] at e1; cases e1
  · obtain ⟨m, ⟨o, es, ep, ho, _⟩, _⟩ := I.loc
    rw [z, nd] at ho; cases ho
  · obtain ⟨v, o, ho, _⟩ := I.cell x c q
    rw [z, nd] at ho; cases ho
end
end L2
namespace L2
open PySem PySem.Spec PyProof.Rows
abbrev RX := List (Addr × Obj) → St → Hp → Prop
def XE (X : Cx) (r : RX) (e : Expr) : Prop := ∀ (pins : List (Addr × Obj)) (s : Shared) (σ : St) (H : Hp), Inv X pins σ H s → r pins σ H → wpAny (model X.prog X.w) X.A (eval e X.env) (fun _ _ => False) X.xe s
def XS (X : Cx) (r : RX) (st : Stmt) : Prop := ∀ (pins : List (Addr × Obj)) (s : Shared) (σ : St) (H : Hp), Inv X pins σ H s → r pins σ H → wpAny (model X.prog X.w) X.A (exec st X.env) (fun _ _ => False) X.xe s
def XSs (X : Cx) (r : RX) (st : List Stmt) : Prop := ∀ (pins : List (Addr × Obj)) (s : Shared) (σ : St) (H : Hp), Inv X pins σ H s → r pins σ H → wpAny (model X.prog X.w) X.A (execs st X.env) (fun _ _ => False) X.xe s
structure CalX (P : Program) (w : World) (K : PySem.W.Frag) (mg : Str → Option Value) (base : Heap) (k : Nat) (x : Str) (ps : List Str) (sp : Sp) : Prop where
  ex : ∃ f fd, FnOk P w K mg base (CXW P w K) k f fd ps sp ∧ Binds K fd ps [] ∧ PySem.W.keepIn K (.ref f) = true ∧ mg x = some (.ref f)
theorem calx_mk {P : Program} {w : World} {K : PySem.W.Frag} {mg : Str → Option Value} {base : Heap} {k : Nat} {x : Str} {ps : List Str} {sp : Sp} {st : Stmt} {f : Addr} {fd : FuncData} (F : Fun K x x st f fd)
    (hm : mg x = some (.ref f)) (hb : Binds K fd ps []) (G : FnOk P w K mg base (CXW P w K) k f fd ps sp) : CalX P w K mg base k x ps sp := ⟨f, fd, G, hb, F.kp, hm⟩
section
variable {X : Cx} {r r' : RX} {e : Expr} {st : Stmt} {rest : List Stmt} {pos : Pos}
theorem xs_set {x : Str} {pos' : Pos} (h : XE X r e) (hs : swapsWith e (some (.Name x pos')) pos.line X.env = pure false := by rfl) : XS X r (.Assign [.Name x pos'] e pos) := fun pins s σ H I q =>
  wpAny_Assign_Name (thn (h pins s σ H I q) fun _ _ z => z.elim) hs
theorem xss_here (h : XS X r st) : XSs X r (st :: rest) := fun pins s σ H I q => wpAny_execs_cons (thn (h pins s σ H I q) fun _ _ z => z.elim)
end
end L2
namespace MR
open PySem L2
abbrev XV := Nat × Option Nat
def spX (C : MC) (mi : List PV → Option PV) (ro : Bool) (xi : List PV → Option XV) : Sp := fun vs H Q E => spM C mi ro vs H Q E ∨ ∃ A ps c, Reps C A H vs ps ∧ xi ps = some c ∧ ∀ H', Same H H' → E (.ref (C.cl c.1)) c.2 H'
def tX (b : BX) (G : List Nat) (W : List (Addr × Obj) → St → Hp → XV → Prop) (xf : Env → Option XV) : RX := fun pins σ H => ∃ Ow env c, ER b Ow G σ env H ∧ xf env = some c ∧ W pins σ H c
def WD (b : BX) (E : XK) : List (Addr × Obj) → St → Hp → XV → Prop := fun _ _ _ c => ∀ H1, Same b.H0 H1 → E (.ref (b.C.cl c.1)) c.2 H1
def WT (X : Cx) (b : BX) : List (Addr × Obj) → St → Hp → XV → Prop := fun pins σ H c => ∀ H1 e s, Same H H1 → Lies X pins σ H1 (.ref (b.C.cl c.1)) c.2 e s → X.xe e s
structure WOk (X : Cx) (b : BX) (W : List (Addr × Obj) → St → Hp → XV → Prop) : Prop where
  up : ∀ pins σ H H1 c, Same H H1 → W pins σ H c → W pins σ H1 c
  go : ∀ pins σ H c H1 e s, Same b.H0 H → W pins σ H c → Same H H1 → Lies X pins σ H1 (.ref (b.C.cl c.1)) c.2 e s → X.xe e s
  ex : X.ex = []
theorem wt_ok {X : Cx} {b : BX} (h : X.ex = []) : WOk X b (WT X b) := ⟨fun pins σ H H1 c s w H2 e s' s2 L => w H2 e s' (s.trans s2) L, fun pins σ H c H1 e s _ w s1 L => w H1 e s s1 L, h⟩
theorem wd_ok {P : Program} {w : World} {K : PySem.W.Frag} {mg : Str → Option Value} {base : Heap} {N : List Str} {qual : Str} {scope : Scope} {f : Addr} {cd : Value} {A : Around} {outer : List PySem.Env} {s : Shared} {H : Hp} {E : XK} {b : BX} :
    WOk (cxOf (CXW P w K) P w K mg base N qual scope f cd A outer s H E) b (WD b E) := ⟨fun pins σ H H1 c s w => w, fun pins σ H c H1 e s s0 w s1 L => lies_leave L (w H1 (s0.trans s1)), rfl⟩
def xCall (ga : Env → Option (List PV)) (xi : List PV → Option XV) (env : Env) : Option XV := (ga env).bind xi
@[simp] theorem xCall_ap (ga : Env → Option (List PV)) (xi : List PV → Option XV) (env : Env) : xCall ga xi env = ((ga env).bind xi) := id rfl
def xIf (c : Env → Option Bool) (f g : Env → Option XV) (env : Env) : Option XV := (c env).bind fun k => if k = true then f env else g env
@[simp] theorem xIf_ap (c : Env → Option Bool) (f g : Env → Option XV) (env : Env) : xIf c f g env = ((c env).bind fun k => if k = true then f env else g env) := id rfl
def xSeq (f : Env → Option Out) (g : Env → Option XV) (env : Env) : Option XV := (f env).bind fun o => match o with
  | .nx e => g e
  | _ => none
@[simp] theorem xSeq_ap (f : Env → Option Out) (g : Env → Option XV) (env : Env) : xSeq f g env = ((f env).bind fun o => match o with
  | .nx e => g e
  | _ => none) := id rfl
def xNo (env : Env) : Option XV := none
@[simp] theorem xNo_ap (env : Env) : xNo env = none := id rfl
def xC (c : XV) (env : Env) : Option XV := some c
@[simp] theorem xC_ap (c : XV) (env : Env) : xC c env = some c := id rfl
def xOr (f g : Env → Option XV) (env : Env) : Option XV := match f env with
  | some c => some c
  | none => g env
@[simp] theorem xOr_ap (f g : Env → Option XV) (env : Env) : xOr f g env = (match f env with
  | some c => some c
  | none => g env) := id rfl
section
variable {X : Cx} {b : BX} {G G1 L : List Nat} {ro : Bool} {W : List (Addr × Obj) → St → Hp → XV → Prop} {e : Expr} {es : List Expr} {st : Stmt} {rest sa sb : List Stmt} {pos p : Pos} {f g : Env → Option XV}
theorem xe_call (wo : WOk X b W) {k j : Nat} {x : Str} {ps : List Str} {mi : List PV → Option PV} {rc : Bool} {xi : List PV → Option XV} {ga : Env → Option (List PV)} (c : CalX X.prog X.w X.K X.mg X.base k x ps (spX b.C mi rc xi)) (hr : Room j X.A) (ha : SA X b G false (e :: es) ga)
    (hle : k ≤ j := by decide) (hgl : Gl X x := by rfl) (hdb : (x == ("__debug__" : Str)) = false := by decide) (he : starEach (e :: es) X.env = (false, eval e X.env) :: starEach es X.env := by rfl) (hpl : (backTo pos (starEach es X.env)).any (·.1) = false := by rfl) :
    XE X (tX b G W (xCall ga xi)) (.Call (.Name x p) (e :: es) [] pos) := by
  intro pins s σ H I ⟨Ow, env, c0, E, hx, hW⟩
  obtain ⟨fa, fd, F, hb, kp, hm⟩ := c.ex
  obtain ⟨qs, hga, hxi⟩ := bind_some' hx
  refine wpAny_Call_Name_kw (ld_glob I hgl hm ?_ hdb)
  refine PySem.W.callWith_K (h₀ := X.base) I.ok.mod.kin kp (thn (ha pos pins s σ H (fun vs H1 => Same H H1 ∧ Reps b.C (ArA b Ow false H1) H1 vs qs) I ⟨Ow, env, qs, E, hga, fun vs H1 s1 rr => ⟨s1, rr⟩⟩) fun us s1 ⟨vs, H1, I1, r, sm, rr⟩ => ⟨I1.kIn, ?_⟩) he hpl
  have hsp : spX b.C mi rc xi vs H1 (fun _ _ => False) (fun C d H2 => C = .ref (b.C.cl c0.1) ∧ d = c0.2 ∧ Same H1 H2) := .inr ⟨Bs b Ow, qs, c0, arA_f rr, hxi, fun H' s' => ⟨rfl, rfl, s'⟩⟩
  have hl : us.length = ps.length := by rw [← r.length]; exact F.len _ _ _ _ hsp
  have hbb := hb s1 us I1.kIn (by rw [List.append_nil]; exact hl)
  rw [List.append_nil] at hbb
  refine wpAny_call (codeAny_mono (F.run X.A X.stack s1 H1 ⟨us, []⟩ us vs _ _ (hr.mono hle) I1.env0 hbb r hsp) fun res s' hq => ?_)
  cases res with
  | error ex =>
    have hq' : CXW X.prog X.w X.K X.stack H1 s1 (fun C d H2 => C = .ref (b.C.cl c0.1) ∧ d = c0.2 ∧ Same H1 H2) ex s' := hq
    obtain ⟨C, d, H2, Li, hC, hd, s2⟩ := lies_of I1 wo.ex hq'
    subst hC hd
    exact wo.go pins σ H c0 H2 ex s' E.same hW (sm.trans s2) Li
  | ok fl =>
    cases fl with
    | ret u => obtain ⟨_, _, _, _, _, _, _, z⟩ := hq; exact z.elim
    | next => exact hq.elim
    | brk => exact hq.elim
    | cont => exact hq.elim
theorem xs_if (wo : WOk X b W) {c : Expr} {k : Env → Option Bool} (hc : ST X b G c k) (ha : XSs X (tX b G W f) sa) (hb : XSs X (tX b G W g) sb) : XS X (tX b G W (xIf k f g)) (.If c sa sb pos) := by
  intro pins s σ H I ⟨Ow, env, c0, E, hx, hW⟩
  obtain ⟨kk, hk, hx⟩ := bind_some' hx
  refine wpAny_If (thn (hc pins s σ H (fun d H1 => d = kk ∧ Same H H1) I ⟨Ow, env, kk, E, hk, fun H1 s1 => ⟨rfl, s1⟩⟩) fun d s1 ⟨H1, I1, hd, sm⟩ => ?_)
  subst hd
  cases d with
  | true => exact ha pins s1 σ H1 I1 ⟨Ow, env, c0, E.up sm, hx, wo.up _ _ _ _ _ sm hW⟩
  | false => exact hb pins s1 σ H1 I1 ⟨Ow, env, c0, E.up sm, hx, wo.up _ _ _ _ _ sm hW⟩
theorem xss_no : XSs X (tX b G W xNo) rest := fun pins s σ H I ⟨Ow, env, c0, E, hx, hW⟩ => nomatch hx
theorem xss_next {E0 : XK} {h : Env → Option Out} (a : SS X b G G1 L ro st h) (c : XSs X (tX b G1 (WD b E0) g) rest) : XSs X (tX b G (WD b E0) (xSeq h g)) (st :: rest) := by
  intro pins s σ H I ⟨Ow, env, c0, E, hx, hW⟩
  obtain ⟨o, ho, hx⟩ := bind_some' hx
  cases o with
  | nx e1 =>
    refine wpAny_execs_cons (thn (a pins s σ H { nx := fun σ1 H1 => tX b G1 (WD b E0) g pins σ1 H1, rt := fun _ _ => False } I ⟨Ow, env, _, E, ho, fun Ow' σ' H' E' _ => ⟨Ow', e1, c0, E', hx, hW⟩⟩) fun fl s1 hs => ?_)
    cases fl with
    | next => obtain ⟨σ1, H1, I1, q⟩ := hs; exact c pins s1 σ1 H1 I1 q
    | ret u => obtain ⟨_, _, _, _, _, q⟩ := hs; exact q.elim
    | brk => obtain ⟨_, _, _, q⟩ := hs; exact q.elim
    | cont => obtain ⟨_, _, _, q⟩ := hs; exact q.elim
  | rt v => cases hx
  | bk e1 => cases hx
  | ct e1 => cases hx
end
end MR
namespace MR
open PySem L2 PyProof.Rows PySem.Spec
def xRaise (ga : Env → Option (List PV)) (c : Nat) (env : Env) : Option XV := (ga env).bind fun qs => if qs.length ≤ 1000 then some (c, none) else none
@[simp] theorem xRaise_ap (ga : Env → Option (List PV)) (c : Nat) (env : Env) : xRaise ga c env = ((ga env).bind fun qs => if qs.length ≤ 1000 then some (c, none) else none) := id rfl
section
variable {P : Program} {w : World} {K : PySem.W.Frag} {mg : Str → Option Value} {base : Heap} {N : List Str} {qual : Str} {scope : Scope} {f : Addr} {cd : Value} {A : Around} {outer : List PySem.Env} {s : Shared} {H : Hp} {E : XK}
def xDef (n k : Nat) (f : Env → Option XV) (ps : List PV) : Option XV := if ps.length = k then f (ps.map some ++ List.replicate (n - k) none) else none
@[simp] theorem xDef_ap (n k : Nat) (f : Env → Option XV) (ps : List PV) : xDef n k f ps = (if ps.length = k then f (ps.map some ++ List.replicate (n - k) none) else none) := id rfl
theorem spX_len {C : MC} {n k : Nat} {ro : Bool} {g : Env → Option Out} {xf : Env → Option XV} {ps : List Str} (hk : ps.length = k) {vs : List V} {H : Hp} {Q : VK} {E : XK} (h : spX C (mDef n k ro g) ro (xDef n k xf) vs H Q E) : vs.length = ps.length := by
  rcases h with ⟨A, qs, p, r, hm, _⟩ | ⟨A, qs, c, r, hm, _⟩
  · unfold mDef at hm
    split at hm
    · rename_i hl; rw [r.length, hl, hk]
    · cases hm
  · unfold xDef at hm
    split at hm
    · rename_i hl; rw [r.length, hl, hk]
    · cases hm
theorem body_okx {C : MC} {n k : Nat} {G G' L : List Nat} {ro : Bool} {body : List Stmt} {g : Env → Option Out} {xf : Env → Option XV} (hN : N.length = n) (hk : k ≤ n) (hG : (G.all fun i => decide (k ≤ i)) = true)
    (hb : ∀ B H', SSs (cxOf (CXW P w K) P w K mg base N qual scope f cd A outer s H E).nox ⟨C, B, H', fun _ => none⟩ G G' L ro body g)
    (hx : ∀ B H', XSs (cxOf (CXW P w K) P w K mg base N qual scope f cd A outer s H E) (tX ⟨C, B, H', fun _ => none⟩ G (WD ⟨C, B, H', fun _ => none⟩ E) xf) body)
    {vs : List V} {Q : VK} (h : spX C (mDef n k ro g) ro (xDef n k xf) vs H Q E) : ∃ t, PSs (cxOf (CXW P w K) P w K mg base N qual scope f cd A outer s H E) body t ∧ t { nx := fun _ H' => Q .non H', rt := Q } (L2.start N vs) H := by
  rcases h with h | ⟨B, ps, c, r, hm, kk⟩
  · obtain ⟨t, h1, h2⟩ := body_ok (X := (cxOf (CXW P w K) P w K mg base N qual scope f cd A outer s H E).nox) hN hk hG hb h
    exact ⟨t, h1.nox, h2⟩
  · refine ⟨fun _ σ H' => tX ⟨C, B, H, fun _ => none⟩ G (WD ⟨C, B, H, fun _ => none⟩ E) xf [] σ H', fun pins s1 σ H1 D I q => ?_, ?_⟩
    · obtain ⟨Ow, env, c0, Er, hx1, hW⟩ := q
      exact wpAny_mono (hx B H pins s1 σ H1 I ⟨Ow, env, c0, Er, hx1, hW⟩) (fun _ _ z => z.elim) fun _ _ z => z
    · unfold xDef at hm
      split at hm
      · rename_i hl
        exact ⟨_, _, c, er_start (N := N) (G := G) r (fun i hi => by rw [hl]; simpa using List.all_eq_true.mp hG i hi) (by omega), by rw [hN, hl]; exact hm, fun H1 s1 => kk H1 s1⟩
      · cases hm
end
section
variable {P : Program} {w : World} {K : PySem.W.Frag} {mg : Str → Option Value} {base : Heap}
theorem funx_ok {x qual : Str} {st : Stmt} {f : Addr} {fd : FuncData} {N ps : List Str} {k : Nat} {sp : Sp} (F : Fun K x qual st f fd) (S : FnScope N ps (defScope st)) (len : ∀ vs H Q E, sp vs H Q E → vs.length = ps.length)
    (hbody : ∀ (cdv : Value) (A : Around) (outer : List PySem.Env) (s : Shared) (H : Hp) (vs : List V) (Q : VK) (E : XK), Room k (A.deeper (envOfC qual (defScope st) s.heap.objs.size f cdv)) → sp vs H Q E →
      ∃ t, PSs (cxOf (CXW P w K) P w K mg base N qual (defScope st) f cdv A outer s H E) (defBody st) t ∧ t { nx := fun _ H' => Q .non H', rt := Q } (start N vs) H) : FnOk P w K mg base (CXW P w K) (k + 1) f fd ps sp := by
  obtain ⟨oc, od, kV, doc, pm, an, cdv, ct, osl, rfl, lk, hcd⟩ := F.ex
  exact fn_of lk hcd S len fun A outer s H vs Q E hr hsp => hbody cdv A outer s H vs Q E hr hsp
theorem fnx_cx0 {C : MC} {k : Nat} {f : Addr} {fd : FuncData} {ps : List Str} {mi : List PV → Option PV} {ro : Bool} {xi : List PV → Option XV} (F : FnOk P w K mg base (CXW P w K) k f fd ps (spX C mi ro xi)) : FnOk P w K mg base CX0 k f fd ps (spM C mi ro) := by
  refine ⟨fun vs H Q E h => F.len vs H Q E (.inl h), fun A outer s H args us vs Q E hr e0 hb hv hs => ?_⟩
  refine codeAny_mono (F.run A outer s H args us vs Q E0 hr e0 hb hv (.inl hs)) fun r s' h => ?_
  cases r with
  | ok fl => cases fl <;> exact h
  | error e =>
    obtain ⟨_, _, _, _, _, _, _, _, _, _, _, _, _, _, _, _, _, _, _, z⟩ := (show CXW P w K outer H s E0 e s' from h)
    exact z.elim
theorem calx_cal {C : MC} {k : Nat} {x : Str} {ps : List Str} {mi : List PV → Option PV} {ro : Bool} {xi : List PV → Option XV} (c : CalX P w K mg base k x ps (spX C mi ro xi)) : Cal P w K mg base k x ps (spM C mi ro) := by
  obtain ⟨f, fd, F, hb, kp, hm⟩ := c.ex
  exact ⟨f, fd, fnx_cx0 F, hb, kp, hm⟩
end
end MR
namespace L2
open PySem PySem.Spec PyProof.Rows
def ExcAt (a C : Addr) (dx : Option Addr) (h : Heap) : Prop := ∃ o vs, h.get? a = some o ∧ o.cls = .ref C ∧ o.data = .fields vs ∧ ∀ x, dx = some x → o.dict = some x
def exo (a C : Addr) (dx : Option Addr) : HO := .ext (ExcAt a C dx)
theorem exo_ok {P : Program} {w : World} {K : PySem.W.Frag} {H : Hp} {h : Heap} {a C : Addr} {dx : Option Addr} (e : ExcAt a C dx h) : ObjOk P w K H h a (exo a C dx) := by
  obtain ⟨o, vs, q1, q2, q3, q4⟩ := e
  exact ⟨⟨o, vs, q1, q2, q3, q4⟩, ⟨o, q1⟩, fun g1 g2 ⟨o', vs', r1, r2, r3, r4⟩ k => ⟨o', vs', k _ r1, r2, r3, r4⟩⟩
def XAt (x : Addr) (n : Nat) (h : Heap) : Prop := ∃ m t, h.Ns x m ∧ m "at" = some (.int (n : Int) t)
def xat (x : Addr) (n : Nat) : HO := .ext (XAt x n)
theorem xat_ok {P : Program} {w : World} {K : PySem.W.Frag} {H : Hp} {h : Heap} {x : Addr} {n : Nat} (e : XAt x n h) : ObjOk P w K H h x (xat x n) := by
  obtain ⟨m, t, ⟨o, es, ep, ho, r⟩, e2⟩ := e
  exact ⟨⟨m, t, ⟨o, es, ep, ho, r⟩, e2⟩, ⟨o, ho⟩, fun g1 g2 ⟨m', t', ⟨o', es', ep', ho', r'⟩, e2'⟩ k => ⟨m', t', ⟨o', es', ep', k _ ho', r'⟩, e2'⟩⟩
def trkx (H : Hp) (a dx C : Addr) : Option Nat → Hp
  | none => upd H a (exo a C none)
  | some n => upd (upd H dx (xat dx n)) a (exo a C (some dx))
def Cx.hd1 (X : Cx) (a : Addr) : Cx := { X with A := X.A.mark (some (.ref a)), calm := false, xe := fun _ _ => False }
section
variable {X : Cx} {pins : List (Addr × Obj)} {σ : St} {H : Hp} {s : Shared}
theorem Inv.mark1 (I : Inv X pins σ H s) (a : Addr) : Inv (X.hd1 a) pins σ H s :=
  ⟨⟨I.ok.mod, I.ok.kind, I.ok.glob, I.ok.blt, I.ok.above, I.ok.inj, I.ok.has, I.ok.cab, (fun z => nomatch z), I.ok.frames, I.ok.stk, I.ok.exf, I.ok.bs, I.ok.bsz, I.ok.noex, I.ok.exfs, I.ok.funs, I.ok.frf⟩, I.os, I.bare, I.base, I.loc, I.cell, I.free, I.freeC, I.pin, I.hok, I.len⟩
theorem Inv.unmark1 (ok : X.Ok) {a : Addr} (I : Inv (X.hd1 a) pins σ H s) : Inv X pins σ H s := ⟨ok, I.os, I.bare, I.base, I.loc, I.cell, I.free, I.freeC, I.pin, I.hok, I.len⟩
theorem held_ok (I : Inv X pins σ H s) (hex : X.ex = []) {B h2 : Heap} (bs : ∀ b o, B.get? b = some o → s.heap.get? b = some o) (st : B.StaysIn h2) (gr : Grd B X.s₀.heap s.heap H X.stack) (up : s.heap.UpToSlots h2)
    (pn : ∀ p ∈ X.pn ++ pins, B.get? p.1 = some p.2) : Inv X pins σ H { s with heap := h2 } := by
  have u := I.base
  have kept : ∀ b o, s.heap.get? b = some o → b ∉ frs X.stack → (X.s₀.heap.get? b ≠ none ∨ H b ≠ none) → h2.get? b = some o := fun b o e n1 n2 => by
    cases q : B.get? b with
    | none => exact ((gr b o e q).elim n1 fun z => n2.elim (fun y => y z.1) fun y => y z.2).elim
    | some o' =>
      have := bs b o' q
      rw [e] at this
      cases this
      exact st b o q
  have old : ∀ b o, X.s₀.heap.get? b = some o → b ∉ X.fs → b ∉ frs X.stack := fun b o e n z => by
    rcases List.mem_cons.mp (I.stkSub b z) with y | y
    · subst y; exact absurd (Nat.lt_of_lt_of_le (Heap.lt_size e) I.ok.above) (Nat.lt_irrefl _)
    · exact n y
  have cells : ∀ c v, s.heap.IsCell c v → h2.IsCell c v := fun c v ⟨o, ho, hd⟩ => by
    obtain ⟨sl, e⟩ := up c o ho fun vs z => by rw [hd] at z; cases z
    exact ⟨_, e, hd⟩
  refine ⟨I.ok, I.os, I.bare, ⟨fun b o q n hb hx => ?_, fun b o q n hb hx => ?_, u.free, fun b o q hx => ?_, u.tups, u.frzs, u.tbls⟩, ?_, fun x c e => ?_, I.free, I.freeC, fun p hp => ?_, fun b v q => ?_, I.len⟩
  · exact kept b o (u.keep b o q n hb hx) (old b o q hb) (.inl (by rw [q]; exact fun z => nomatch z))
  · obtain ⟨sl, e1⟩ := u.slot b o q n hb hx
    obtain ⟨_, o', e', hd⟩ := I.funs.mem hb
    rw [e1] at e'
    cases e'
    obtain ⟨sl', e2⟩ := up b _ e1 hd
    exact ⟨sl', e2⟩
  · obtain ⟨o', e1⟩ := u.there b o q hx
    by_cases hb : b ∈ frs X.stack
    · obtain ⟨_, o2, e2, hd⟩ := I.stack.mem hb
      rw [e1] at e2
      cases e2
      obtain ⟨sl, e3⟩ := up b _ e1 hd
      exact ⟨_, e3⟩
    · exact ⟨o', kept b o' e1 hb (.inl (by rw [q]; exact fun z => nomatch z))⟩
  · obtain ⟨m, hn, hl⟩ := I.loc
    refine ⟨m, up.ns hn, fun i x v e1 e2 e3 => ?_⟩
    obtain ⟨w', r, l⟩ := hl i x v e1 e2 e3
    refine ⟨w', r, ?_⟩
    rcases l with l | ⟨k, c, e, z⟩
    · exact .inl l
    · exact .inr ⟨k, c, e, cells c _ z⟩
  · obtain ⟨v, z⟩ := I.cell x c e
    exact ⟨v, cells c v z⟩
  · obtain ⟨_, n, nl, nf, d⟩ := I.pin p hp
    exact ⟨st _ _ (pn p hp), n, nl, nf, d⟩
  · refine (I.hok b v q).stay (fun c x hc r => ?_) (fun _ q => q) fun _ _ q => q
    have hn : H c ≠ none := by
      rcases hc with rfl | hc
      · rw [q]; exact fun z => nomatch z
      · rw [hc]; exact fun z => nomatch z
    exact kept c x r (fun z => hn (I.stkFree c z)) (.inr hn)
theorem Inv.trackE (I : Inv X pins σ H s) {a : Addr} {φ : Heap → Prop} (e : ∀ H', ObjOk X.prog X.w X.K H' s.heap a (.ext φ)) (na : X.s₀.heap.get? a = none) (nH : H a = none) (np : ∀ p ∈ X.pn ++ pins, p.1 ≠ a) (nL : X.env.locals ≠ a) (nC : ∀ x c, X.env.cells.lookup x = some c → c ≠ a) : Inv X pins σ (upd H a (.ext φ)) s := by
  have u := I.base
  refine ⟨I.ok, I.os, I.bare, ⟨u.keep, u.slot, fun b o q n hx => ?_, u.there, fun b xs q => ?_, fun b o xs q => ?_, fun b ps q => ?_⟩, I.loc, I.cell, ?_, fun x c q => ?_, fun p hp => ?_, fun b v q => ?_, I.len⟩
  · rw [upd_ne (fun z => by rw [z, na] at q; cases q)]; exact u.free b o q n hx
  · rw [upd_ne (ne_of_none (u.tups b xs q) nH)]; exact u.tups b xs q
  · rw [upd_ne (ne_of_none (u.frzs b o xs q) nH)]; exact u.frzs b o xs q
  · obtain ⟨more, z⟩ := u.tbls b ps q
    exact ⟨more, by rw [upd_ne (ne_of_none z nH)]; exact z⟩
  · rw [upd_ne nL]; exact I.free
  · rw [upd_ne (nC x c q)]; exact I.freeC x c q
  · obtain ⟨e1, n, nl, nf, d⟩ := I.pin p hp
    exact ⟨e1, by rw [upd_ne (np p hp)]; exact n, nl, nf, d⟩
  · by_cases hb : b = a
    · subst hb
      rw [upd_same] at q
      cases q
      exact e _
    · rw [upd_ne hb] at q
      exact (I.hok b v q).stay (fun c x _ r => r) (fun c r => by rw [upd_ne (ne_of_none r nH)]; exact r) fun c xs r => by rw [upd_ne (ne_of_none r nH)]; exact r
theorem fields_loc (I : Inv X pins σ H s) {a : Addr} {oe : Obj} {vs : Array Value} (he : s.heap.get? a = some oe) (hd : oe.data = .fields vs) : X.env.locals ≠ a ∧ ∀ x c, X.env.cells.lookup x = some c → c ≠ a := by
  refine ⟨fun z => ?_, fun x c q z => ?_⟩
  · obtain ⟨m, ⟨o, es, ep, ho, hdd, _⟩, _⟩ := I.loc
    rw [z, he] at ho
    cases ho
    rw [hd] at hdd; cases hdd
  · obtain ⟨v, o, ho, hdd⟩ := I.cell x c q
    rw [z, he] at ho
    cases ho
    rw [hd] at hdd; cases hdd
theorem Inv.trackX (I : Inv X pins σ H s) {a dx C : Addr} {d : Option Nat} {oe : Obj} {vs : Array Value} (he : s.heap.get? a = some oe) (hc : oe.cls = .ref C) (hd : oe.data = .fields vs) (f : Fld s.heap a dx d)
    (na : X.s₀.heap.get? a = none) (nH : H a = none) (np : ∀ p ∈ X.pn ++ pins, p.1 ≠ a) (nd : X.s₀.heap.get? dx = none) (nHd : H dx = none) (npd : ∀ p ∈ X.pn ++ pins, p.1 ≠ dx) (nL : X.env.locals ≠ dx) (nC : ∀ x c, X.env.cells.lookup x = some c → c ≠ dx) : Inv X pins σ (trkx H a dx C d) s := by
  cases d with
  | none => exact I.trackE (fun H' => exo_ok ⟨oe, vs, he, hc, hd, fun x z => nomatch z⟩) na nH np (fields_loc I he hd).1 (fields_loc I he hd).2
  | some n =>
    obtain ⟨⟨oe', e1, e2⟩, m, t, hn, hm⟩ := f
    rw [he] at e1
    cases e1
    have ne : a ≠ dx := fun z => by
      obtain ⟨o, es, ep, ho, hdd, _⟩ := hn
      rw [← z, he] at ho
      cases ho
      rw [hd] at hdd; cases hdd
    have I1 := I.trackE (φ := XAt dx n) (fun H' => xat_ok ⟨m, t, hn, hm⟩) nd nHd npd nL nC
    exact I1.trackE (φ := ExcAt a C (some dx)) (fun H' => exo_ok ⟨oe, vs, he, hc, hd, fun x z => by cases z; exact e2⟩) na (by rw [upd_ne ne]; exact nH) np (fields_loc I he hd).1 (fields_loc I he hd).2
theorem name_goes {M : Model} {A : Around} {E : Value → Shared → Prop} {Q : Unit → Shared → Prop} {i : Nat} {n : Str} {pos : Pos} (I : Inv X pins σ H s) (nd : X.N.Nodup) (hi : X.N[i]? = some n) (hk : X.env.scope.names.lookup n = some .local)
    (h : ∀ s', Inv X pins (σ.set i none) H s' → Q () s') : wpAny M A (do bindName X.env n .none; unbindBehindTheSuite X.env n pos) Q E s := by
  obtain ⟨m, hn, hl⟩ := id I.loc
  have hcls : (X.env.scope.kind == .class || (X.env.scope.kind == .module && X.env.locals != X.env.globals)) = false := by rw [I.ok.kind]; rfl
  refine wpAny_nameGoes_keeps hk hn hcls fun h' v hn' hs => ?_
  obtain ⟨oL, _, _, hoL, _⟩ := id hn
  have far : ∀ b o, X.s₀.heap.get? b = some o → b ≠ X.env.locals := fun b o e => Nat.ne_of_lt (Nat.lt_of_lt_of_le (Heap.lt_size e) I.ok.above)
  refine h _ ⟨I.ok, I.os, I.bare, ⟨fun b o e n hb hx => (hs.2 b (far b o e)).trans (I.base.keep b o e n hb hx), fun b o e n hb hx => ?_, I.base.free, fun b o e hx => ?_, I.base.tups, I.base.frzs, I.base.tbls⟩, ⟨_, hn', fun j y v' e1 e2 e3 => ?_⟩, fun y c e => ?_, I.free, I.freeC, fun p hp => ?_, fun b v q => ?_, by rw [List.length_set]; exact I.len⟩
  · obtain ⟨sl, e1⟩ := I.base.slot b o e n hb hx
    exact ⟨sl, (hs.2 b (far b o e)).trans e1⟩
  · obtain ⟨o', e1⟩ := I.base.there b o e hx
    exact ⟨o', (hs.2 b (far b o e)).trans e1⟩
  · have hj : i ≠ j := fun z => by
      subst z
      rw [List.getElem?_set] at e2
      split at e2
      · split at e2 <;> cases e2
      · exact absurd rfl ‹¬ i = i›
    rw [List.getElem?_set_ne hj] at e2
    obtain ⟨u', r', q⟩ := hl j y v' e1 e2 e3
    refine ⟨u', r', ?_⟩
    rcases q with ⟨k, e⟩ | ⟨k, c, e, z⟩
    · refine .inl ⟨k, ?_⟩
      have : y ≠ n := fun e => hj (nodup_ix nd (e ▸ hi) e1)
      show (if y = n then v else m y) = some u'
      rw [if_neg this]; exact e
    · exact .inr ⟨k, c, e, z.sameBut hs (I.cne y c e)⟩
  · obtain ⟨w', z⟩ := I.cell y c e
    exact ⟨w', z.sameBut hs (I.cne y c e)⟩
  · obtain ⟨e, n, ne, nf, d⟩ := I.pin p hp
    exact ⟨(hs.2 p.1 ne).trans e, n, ne, nf, d⟩
  · refine (I.hok b v q).stay (fun c x hc r => (hs.2 c ?_).trans r) (fun _ q => q) fun _ _ q => q
    rintro rfl
    rcases hc with z | z
    · rw [← z, I.free] at q; cases q
    · rw [I.free] at z; cases z
end
end L2
namespace MR
open PySem L2 PyProof.Rows PySem.Spec
theorem ps_tryx {X : Cx} {b : BX} {G : List Nat} {body : List Stmt} {tn : TS} {xf : Env → Option XV} {cx n wn : Str} {Cc : Addr} {iw ie : Nat} {np p1 p2 p3 hp pos : Pos} (hX : ∀ e s, X.xe e s → False) (hex : X.ex = []) (hst : X.stack = X.env :: X.outer) (hfr : X.env.frame = some X.env.locals) (ndp : X.N.Nodup)
    (hn : X.N[ie]? = some n) (hnl : X.env.scope.names.lookup n = some .local) (hw : X.N[iw]? = some wn) (hwl : Loc X.env.scope wn) (hgl : Gl X cx) (hm : X.mg cx = some (.ref Cc)) (h1 : PSs X body tn) (h2 : ∀ E', XSs (X.wish E') (tX b G (WT (X.wish E') b) xf) body)
    (hd : (cx == ("__debug__" : Str)) = false := by decide) (hdn : (n == ("__debug__" : Str)) = false := by decide) (hcn : (n == ("__classdict__" : Str)) = false := by decide)
    (hsw : swapsWith (.Name n p2) (some (.Name wn p1)) p3.line X.env = pure false := by rfl) (hfn : X.fn wn = true ∨ X.env.scope.names.lookup wn = some .local := by first | exact .inl rfl | exact .inr rfl | assumption) :
    PS X (.Try body [.ExceptHandler (some (.Name cx np)) (some n) [.Assign [.Name wn p1] (.Name n p2) p3] hp] [] [] pos) (fun D σ H => tn D σ H ∨ ∃ Ow env c, ER b Ow G σ env H ∧ xf env = some c ∧ PySem.W.exmOne X.K (.ref (b.C.cl c.1)) (.ref Cc) = some true ∧
      ∀ a dx H1, Same H H1 → H1 a = none → H1 dx = none → (c.2.isSome = true → a ≠ dx) → D.nx (((σ.set ie (some (.ref a))).set iw (some (.ref a))).set ie none) (trkx H1 a dx (b.C.cl c.1) c.2)) := by
  intro pins s σ H D I q
  rcases q with q | ⟨Ow, env, c, E, hxf, hexm, kk⟩
  · refine wpAny_Try_except (wpAny_mono (h1 pins s σ H D I q) (fun f s1 hs => ?_) fun e s1 hs => (hX e s1 hs).elim)
    cases f with
    | next => exact wpAny_execs_nil hs
    | ret u => exact hs
    | brk => exact hs
    | cont => exact hs
  · refine wpAny_Try_except (wpAny_mono (h2 (fun e s₁ => wpAny (model X.prog X.w) X.A (noteFrame e X.env) (fun _ s₂ => wpAny (model X.prog X.w) X.A (setFlight e none) (fun _ s₃ => wpAny (model X.prog X.w) X.A (handleBy e X.env [.ExceptHandler (some (.Name cx np)) (some n) [.Assign [.Name wn p1] (.Name n p2) p3] hp]) (SP X pins D) X.xe s₃) X.xe s₂) X.xe s₁) pins s σ H (I.wish _) ⟨Ow, env, c, E, hxf, fun H1 ex s1 sm Li => ?_⟩) (fun _ _ z => z.elim) fun _ _ z => z)
    obtain ⟨a, a0, B, rfl, fl, na, nH, pn, gr, dx, fd, nd, nHd, npd, nLd, nCd⟩ := Li.ex
    have I1 : Inv X pins σ H1 s1 := Li.inv.wish X.xe
    have fl : Heap.FlyingW B X.stack a (.ref (b.C.cl c.1)) a0 s1.heap := fl
    have pn : ∀ p ∈ X.pn ++ pins, B.get? p.1 = some p.2 := pn
    have gr : Grd B X.s₀.heap s1.heap H1 X.stack := gr
    have npd : ∀ p ∈ X.pn ++ pins, p.1 ≠ dx := npd
    have nd : X.s₀.heap.get? dx = none := nd
    have nLd : X.env.locals ≠ dx := nLd
    have nCd : ∀ x c, X.env.cells.lookup x = some c → c ≠ dx := nCd
    rw [hst] at fl
    have ok := I.ok
    have frm : X.A.frames = some (X.env :: X.outer) := by rw [← hst]; exact ok.frames
    show wpAny (model X.prog X.w) X.A (noteFrame (.ref a) X.env) _ X.xe s1
    refine looks_fld frm hfr fl fd fun h4 held4 up4 fd4 => ?_
    refine lands_fld held4 fd4 fun h5 fl5 up5 fd5 => ?_
    have np : ∀ p ∈ X.pn ++ pins, p.1 ≠ a := fun p hp z => by
      have := pn p hp
      rw [z, fl.2.1] at this; cases this
    have up45 := up4.trans up5
    have I5 : Inv X pins σ H1 { s1 with heap := h5 } := held_ok I1 hex (fun b o q => fl.1 b o q) fl5.1 gr up45 pn
    obtain ⟨oe, vs, hoe, hoc, hod, _⟩ := fl5.first
    refine wpAny_handleBy_cons (codeAny_handlers_test ?_) (by intro q; cases q)
    refine ld_glob (X := X.hd1 a) (I5.mark1 a) hgl hm ?_ hd
    have LT : PySem.W.Looks (model X.prog X.w) h5 (typeOf (.ref a)) (.ref (b.C.cl c.1)) := hoc ▸ (PySem.W.Looks.ld hoe).andThen .now
    refine PySem.W.Looks.here (PySem.W.exm_one I5.kIn LT hexm) ?_
    show codeAny (model X.prog X.w) (X.A.mark (some (.ref a))) (.handlers (.ref a) [.ExceptHandler none (some n) [.Assign [.Name wn p1] (.Name n p2) p3] hp] X.env) _ { s1 with heap := h5 }
    refine codeAny_handlers_suite_as ?_
    refine lands2_fld fl5 fd5 fun h6 fl6 up6 fd6 => ?_
    have I6 : Inv X pins σ H1 { s1 with heap := h6 } := held_ok I1 hex (fun b o q => fl.1 b o q) fl6.1 gr (up45.trans up6) pn
    obtain ⟨o6, v6, ho6, hc6, hd6, _⟩ := fl6.first
    have I7 := (I6.trackX (a := a) (C := b.C.cl c.1) ho6 hc6 hd6 fd6 na nH np nd nHd npd nLd nCd).mark1 a
    have ned : c.2.isSome = true → a ≠ dx := fun z y => by
      cases q : c.2 with
      | none => rw [q] at z; cases z
      | some n =>
        rw [q] at fd6
        obtain ⟨_, m, t, ⟨o, es, ep, ho, hdd, _⟩, _⟩ := fd6
        rw [← y, ho6] at ho
        cases ho
        rw [hd6] at hdd; cases hdd
    have hil : ie < σ.length := by rw [I.len]; exact (List.getElem?_eq_some_iff.mp hn).1
    refine store_ok (X := X.hd1 a) I7 ndp hn (.inl hnl) (v := .ref a) rfl (fun s8 I8 => ?_) (.inr hnl)
    have st := pss_one (ps_set (X := X.hd1 a) (pos' := p1) (pos := p3) ndp hw hwl (pe_var (X := X.hd1 a) (pos := p2) hn (.inl hnl) hdn hcn) hsw hfn)
    refine wpAny_mono (st pins s8 _ _ { nx := fun σ9 H9 => σ9 = (σ.set ie (some (.ref a))).set iw (some (.ref a)) ∧ H9 = trkx H1 a dx (b.C.cl c.1) c.2, rt := fun _ _ => False } I8 ⟨.ref a, List.getElem?_set_self hil, rfl, rfl⟩) (fun f s9 hs => ?_) fun _ _ z => z.elim
    cases f with
    | next =>
      obtain ⟨σ9, H9, I9, e1, e2⟩ := hs
      subst e1 e2
      exact name_goes (I9.unmark1 ok) ndp hn hnl fun s10 I10 => ⟨_, _, I10, kk a dx H1 sm nH nHd ned⟩
    | ret u => obtain ⟨_, _, _, _, _, z⟩ := hs; exact z.elim
    | brk => obtain ⟨_, _, _, z⟩ := hs; exact z.elim
    | cont => obtain ⟨_, _, _, z⟩ := hs; exact z.elim
end MR
namespace L2
open PySem PySem.Spec PyProof.Rows
structure XCls (K : PySem.W.Frag) (C : Addr) : Prop where
  ga : PySem.W.findIn K (.ref C) "__getattribute__" = some (some (.builtin "BaseException.__getattribute__"))
  gr : PySem.W.findIn K (.ref C) "__getattr__" = some none
  cl : PySem.W.findIn K (.ref C) "__class__" = some (some (.builtin "object.__class__"))
  bo : PySem.W.mroIn K C (.type "object") = some true
  be : PySem.W.mroIn K C (.type "BaseException") = some true
section
variable {prog : Program} {w : World} {A : Around} {E : Value → Shared → Prop} {h : Heap} {g : Array GenState} {d : Drawn} {t : Nat} {os : OsState} {a C : Addr} {dx : Option Addr} {K : PySem.W.Frag}
theorem exc_get1 {R : Result → Shared → Prop} (KI : K.In h) (xc : XCls K C) (ex : ExcAt a C dx h) (hq : R (.ok (.ret (.ref C))) ⟨h, g, d, t, os⟩) :
    codeAny (model prog w) A (.call (.builtin "getset_descriptor.__get__") ⟨[.builtin "object.__class__", .ref a, .ref C], []⟩) R ⟨h, g, d, t, os⟩ := by
  obtain ⟨o, vs, hx, hc, hd, _⟩ := ex
  have hT5 : (⟨h, g, d, t, os⟩ : Shared).TypeIs (.builtin "object.__class__") "getset_descriptor" := F.typeOf_object_class
  have Lo := PySem.W.looks_mroIn (M := model prog w) KI xc.bo
  refine codeAny_call_builtin F.slot_gs_get.plain F.entry_gs_get (F.slot_gs_get.check _ _ _ _ _ _ _ _ hT5 (F.args_gs_get _ _ _) ?_)
  repeat (any_goals (first | assumption | (with_reducible refine wpAny_loadPart_at hx ?_; rw [hc]) | (rw [F.owner_object_class]; with_reducible refine Lo.at ?_) | with_reducible refine Lo.at ?_ | wp_step))
  refine ⟨Code.quiet_builtin _ (by decide +kernel), codeAny_builtin F.entry_object_class ?_⟩
  repeat (any_goals (first | assumption | (with_reducible refine wpAny_loadPart_at hx ?_; rw [hc]) | wp_step))
theorem exc_get2 {tk : Tok} {Q : Fin → Shared → Prop} (KI : K.In h) (xc : XCls K C) (ex : ExcAt a C dx h) (hq : Q (.done (.ret (.ref C))) ⟨h, g, d, t, os⟩) :
    wpAny (model prog w) A (Builtin.«object.__getattribute__» ⟨[.ref a, .str "__class__" tk], []⟩) Q E ⟨h, g, d, t, os⟩ := by
  obtain ⟨o, vs, hx, hc, hd, _⟩ := id ex
  have hT5 : (⟨h, g, d, t, os⟩ : Shared).TypeIs (.builtin "object.__class__") "getset_descriptor" := F.typeOf_object_class
  have f5 := F.typeOf_object_class
  have f6 := F.slot_gs_get.lookup
  have f7 := F.slot_gs_set.lookup
  have Lc := PySem.W.looks_findIn (M := model prog w) KI xc.cl
  repeat (any_goals (first | assumption | (with_reducible refine wpAny_loadPart_at hx ?_; rw [hc]) | with_reducible refine Lc.at ?_ | wp_step))
  refine exc_get1 KI xc ex ?_
  repeat (any_goals (first | assumption | wp_step))
theorem exc_chk {M : Model} {nameV : Value} {Q : Unit → Shared → Prop} (KI : K.In h) (xc : XCls K C) (ex : ExcAt a C dx h) (hq : Q () ⟨h, g, d, t, os⟩) : wpAny M A (checkBuiltinCall "BaseException.__getattribute__" ⟨[.ref a, nameV], []⟩) Q E ⟨h, g, d, t, os⟩ := by
  obtain ⟨o, vs, hx, hc, hd, _⟩ := ex
  have k1 : builtinKind "BaseException.__getattribute__" = some .slot := by decide +kernel
  have k2 : splitId "BaseException.__getattribute__" = some ("BaseException", "__getattribute__") := by decide +kernel
  have ha := F.args_bexc_ga (.ref a) nameV
  have Lb := PySem.W.looks_mroIn (M := M) KI xc.be
  simp only [checkBuiltinCall, k1, k2]
  refine wpAny_bind ?_
  unfold isInstance
  repeat (first | (with_reducible refine wpAny_loadPart_at hx ?_; rw [hc]) | with_reducible refine Lb.at ?_ | wp_step)
  exact hq
theorem exc_get3 {tk : Tok} {fill expr : Bool} {Q : Value → Shared → Prop} (KI : K.In h) (xc : XCls K C) (ex : ExcAt a C dx h) (hq : Q (.ref C) ⟨h, g, d, t, os⟩) : wpAny (model prog w) A (getAttrBy (.ref a) (.str "__class__" tk) fill expr) Q E ⟨h, g, d, t, os⟩ := by
  obtain ⟨o, vs, hx, hc, hd, _⟩ := id ex
  have f3 := F.excAttr_ValueError.ga.bind (.ref a)
  have x0 : (expr && onTheHeap (Value.builtin "BaseException.__getattribute__")) = false := by cases expr <;> rfl
  have x2 : (Value.builtin "BaseException.__getattribute__" == Value.builtin "object.__getattribute__") = false := by decide +kernel
  have x1 : (onTheHeap (Value.ref C) && Value.builtin "BaseException.__getattribute__" == Value.builtin "object.__getattribute__") = false := by rw [x2]; exact Bool.and_false _
  have Lg := PySem.W.looks_findIn (M := model prog w) KI xc.ga
  have Lr := PySem.W.looks_findIn (M := model prog w) KI xc.gr
  repeat (any_goals (first | assumption | (with_reducible refine wpAny_loadPart_at hx ?_; rw [hc]) | with_reducible refine Lg.at ?_ | with_reducible refine Lr.at ?_ | wp_step))
  refine codeAny_call_builtin F.excAttr_ValueError.ga.plain F.entry_bexc_ga (exc_chk KI xc ex (exc_get2 KI xc ex ?_))
  repeat (any_goals (first | assumption | wp_step))
theorem exc_class {Q : Option Value → Shared → Prop} (KI : K.In h) (xc : XCls K C) (ex : ExcAt a C dx h) (hq : Q (some (.ref C)) ⟨h, g, d, t + 1, os⟩) : wpAny (model prog w) A (getAttr? (.ref a) "__class__") Q E ⟨h, g, d, t, os⟩ := by
  unfold getAttr? getAttrBy?
  repeat (any_goals (first | assumption | with_reducible apply exc_get3 KI xc ex | wp_step))
end
theorem mro_cls {K : PySem.W.Frag} {C : Addr} {base : Value} {r : Bool} (e : PySem.W.mroIn K C base = some r) : ∃ c dd cd sl, K.lookup C = some ⟨c, dd, .cls cd, sl⟩ := by
  obtain ⟨cd, q, _⟩ := Option.bind_eq_some_iff.mp e
  unfold PySem.W.clsIn at q
  split at q
  · rename_i c' d' cd' sl' ho; exact ⟨_, _, _, _, ho⟩
  · cases q
theorem kitx_exc {K : PySem.W.Frag} {a C : Addr} {dx : Option Addr} (xc : XCls K C) : PySem.W.KitX K (.ref a) (.ref C) (ExcAt a C dx) where
  ty := fun M h _ ⟨o, vs, hx, hc, _⟩ => hc ▸ (PySem.W.Looks.ld hx).andThen .now
  it := fun M h KI _ => by
    obtain ⟨c, dd, cd, sl, ho⟩ := mro_cls xc.bo
    intro A' Q' E' s' k q
    unfold isType loadHead
    exact wpAny_bind (wpAny_loadPart (k _ _ (KI _ _ ho)) (wpAny_pure q))
  ne := fun h tp dd its n sl KI htp => by
    obtain ⟨c, dd', cd, sl', ho⟩ := mro_cls xc.bo
    refine Bool.eq_false_iff.mpr fun q => ?_
    have e : C = tp := Value.ref.inj (beq_iff_eq.mp q)
    subst e
    cases (KI _ _ ho).symm.trans htp
  ca := fun {prog w A E Q s} KI ex k => by
    obtain ⟨h, g, d, t, os⟩ := s
    exact exc_class KI xc ex k
end L2
namespace L2
open PySem
section
variable {prog : Program} {w : World} {A : Around} {E : Value → Shared → Prop} {h : Heap} {g : Array GenState} {d : Drawn} {t : Nat} {os : OsState}
variable {nm q : Str} {C N e t0 : Addr} {bs bm bmB rest : List Value} {hdct : Bool} {sn : List Str} {sub : List Value} {ab : Bool} {col : Option Bool} {dd dx : Option Addr} {k0 k1 k2 k3 k5 : Option Value} {B newId initId : String}
theorem base_init (F : ExcBaseFacts B newId initId bmB) (T : OwnTail h bmB bm) {Q : Value → Shared → Prop} (hC : h.get? C = some (excClassObj nm q C N bs bm hdct sn sub ab col dd k0 k1 k2 k3 k5 newId))
    (he : h.get? e = some { cls := .ref C, dict := dx, data := .fields #[.ref t0, .none, .none, .none, .bool false, .none] }) (hl : rest.length ≤ sizeLine)
    (hq : ∀ h', h'.get? e = some { cls := .ref C, dict := dx, data := .fields #[.ref h.objs.size, .none, .none, .none, .bool false, .none] } → (∀ b o, b ≠ e → h.get? b = some o → h'.get? b = some o) → Q .none ⟨h', g, d, t, os⟩) :
    wpAny (model prog w) A (call (.builtin initId) (.ref e :: rest)) Q E ⟨h, g, d, t, os⟩ := by
  refine wpAny_call (codeAny_call_builtin F.init.plain F.initEntry (wpAny_check_init_subT F T hC he rfl ?_))
  have he1 := Heap.get?_push_of_some (h := h) { cls := .type "tuple", data := .seq rest.toArray } he
  unfold Builtin.«BaseException.__init__»
  dsimp only
  rw [if_neg (by simp)]
  unfold newTuple Builtin.BaseException.bexcPut
  refine wpAny_bind (wpAny_newObj_type (wpAny_bind (wpAny_bind (wpAny_field he1 rfl rfl (wpAny_bind (wpAny_setField he1 rfl (Nat.zero_lt_succ 5) ?_))))) (by show rest.toArray.size ≤ sizeLine; rw [List.size_toArray]; exact hl))
  refine wpAny_letGo (wpAny_pure (hq _ (Heap.get?_update_self _ he1 rfl) fun b o hb q => ?_))
  exact (Heap.get?_update_other _ _ hb.symm).trans (Heap.get?_push_of_some _ q)
end
end L2
namespace L2
open PySem
structure BaseInit (K : PySem.W.Frag) (C : Addr) (I : String) : Prop where
  ga : PySem.W.specialIn K (.ref C) "__getattribute__" = some (some (.builtin "type.__getattribute__"))
  rd : PySem.W.readsIn K C (.type "type") = true
  fd : PySem.W.findCls K (.ref C) (.type "type") "__init__" = some (.val (.builtin I))
  hd : PySem.W.handedIn (.builtin I) = true
theorem init_get {prog : Program} {w : World} {A : Around} {E : Value → Shared → Prop} {s : Shared} {K : PySem.W.Frag} {C : Addr} {I : String} {pl : Sem Bool} {Q : Value × List Value → Shared → Prop} (X : K.In s.heap) (b : BaseInit K C I)
    (h : Q (.builtin I, []) { s with toks := s.toks + 1 }) : wpAny (model prog w) A (getMethod (.ref C) "__init__" pl) Q E s := PySem.W.method_cls X b.ga (PySem.W.cls_value X b.rd b.fd b.hd h)
end L2
namespace L2
open PySem PySem.Spec PyProof.Rows
def RawX (e C : Addr) (dx : Option Addr) (h : Heap) : Prop := ∃ t, h.get? e = some { cls := .ref C, dict := dx, data := .fields #[.ref t, .none, .none, .none, .bool false, .none] }
def rawx (e C : Addr) (dx : Option Addr) : HO := .ext (RawX e C dx)
theorem rawx_ok {P : Program} {w : World} {K : PySem.W.Frag} {H : Hp} {h : Heap} {e C : Addr} {dx : Option Addr} (r : RawX e C dx h) : ObjOk P w K H h e (rawx e C dx) := by
  obtain ⟨t, q⟩ := r
  exact ⟨⟨t, q⟩, ⟨_, q⟩, fun g1 g2 ⟨t', q'⟩ k => ⟨t', k _ q'⟩⟩
def tailNIn (K : PySem.W.Frag) (bmB : List Value) (ns : List Str) : List Value → Bool
  | [] => bmB == []
  | v :: r => (v :: r) == bmB || match v with
    | .ref A => (match K.lookup A with
      | some ⟨_, _, .cls cd, _⟩ => PySem.W.nsOkIn K cd.ns && ns.all (fun n => PySem.W.nsIn K cd.ns n == some none) && tailNIn K bmB ns r
      | _ => false)
    | _ => false
theorem tailN_of_in {K : PySem.W.Frag} {h : Heap} {bmB : List Value} {ns : List Str} (X : K.In h) : ∀ {l : List Value}, tailNIn K bmB ns l = true → TailN h bmB ns l
  | [], e => by rw [← beq_iff_eq.mp e]; exact .base
  | v :: r, e => by
    unfold tailNIn at e
    rcases Bool.or_eq_true_iff.mp e with q | q
    · rw [beq_iff_eq.mp q]; exact .base
    · split at q
      · split at q
        · rename_i ho
          simp only [Bool.and_eq_true, List.all_eq_true, beq_iff_eq] at q
          exact .own (X _ _ ho) (.of_isNs (PySem.W.isNs_of_in X q.1.1)) (fun n hn => PySem.W.nsMap_none_of_in X q.1.1 (q.1.2 n hn)) (tailN_of_in X q.2)
        · cases q
      · cases q
abbrev bmV : List Value := [.type "ValueError", .type "Exception", .type "BaseException", .type "object"]
abbrev nsX : List Str := ["__setattr__", "__getattribute__", "__getattr__", "at"]
def excInI (K : PySem.W.Frag) (C fI : Addr) : Bool := match K.lookup C with
  | some ⟨.type "type", _, .cls cd, sl⟩ => (match cd.mro, sl.toList with
    | .ref C' :: bm, [_, _, _, _, some (.builtin n), _] => C' == C && n == "ValueError.__new__" && !cd.hasDel && cd.hasDict && PySem.W.tailIn K bmV bm && tailNIn K bmV nsX bm && PySem.W.nsOkIn K cd.ns &&
        PySem.W.nsIn K cd.ns "__init__" == some (some (.ref fI)) && nsX.all (fun n => PySem.W.nsIn K cd.ns n == some none)
    | _, _ => false)
  | _ => false
structure ExcI (h : Heap) (C fI : Addr) : Prop where
  ex : ∃ (bm : List Value) (N : Addr) (nm qn : Str) (bs : List Value) (sn : List Str) (su : List Value) (ab : Bool) (co : Option Bool) (dd : Option Addr) (k0 k1 k2 k3 k5 : Option Value) (mN : Str → Option Value),
      h.get? C = some (excClassObj nm qn C N bs bm true sn su ab co dd k0 k1 k2 k3 k5 "ValueError.__new__") ∧ h.Ns N mN ∧ mN "__init__" = some (.ref fI) ∧ (∀ n ∈ nsX, mN n = none) ∧ OwnTail h bmV bm ∧ TailN h bmV nsX bm
theorem nsMap_some_of_in {K : PySem.W.Frag} {h : Heap} {N : Addr} {x : Str} {v : Value} {m : Str → Option Value} (X : K.In h) (G : h.Ns N m) (e : PySem.W.nsIn K N x = some (some v)) : m x = some v := by
  obtain ⟨o, es, ep, ho, hd, _, hf⟩ := G
  unfold PySem.W.nsIn at e
  split at e
  · rename_i c d es' n' sl q
    have := X _ _ q
    rw [ho] at this
    cases this
    cases hd
    split at e
    · rename_i en he
      cases e
      rw [← hf]
      unfold nsFind findBy
      rw [← Array.find?_toList, he]
      rfl
    · split at e <;> cases e
  · cases e
theorem exc_clsI {K : PySem.W.Frag} {h : Heap} {C fI : Addr} (KI : K.In h) (q : excInI K C fI = true) : ExcI h C fI := by
  unfold excInI at q
  split at q
  · rename_i dd cdd sl lk
    split at q
    · rename_i C1 bm k0 k1 k2 k3 nw k5 hmro hsl
      simp only [Bool.and_eq_true, beq_iff_eq, Bool.not_eq_true', List.all_eq_true] at q
      obtain ⟨⟨⟨⟨⟨⟨⟨⟨r1, r2⟩, hdel⟩, hdc⟩, htl⟩, htn⟩, hns⟩, hini⟩, hno⟩ := q
      subst r1 r2
      cases cdd with
      | mk nm bs mro ns qn hdd sn su ab co del =>
        have e1 : mro = .ref C1 :: bm := hmro
        have e2 : del = false := hdel
        have e4 : hdd = true := hdc
        subst e1 e2 e4
        have e3 : sl = #[k0, k1, k2, k3, some (.builtin "ValueError.__new__"), k5] := by cases sl with | mk l => exact congrArg Array.mk hsl
        subst e3
        have hN : h.Ns ns _ := .of_isNs (PySem.W.isNs_of_in KI hns)
        exact ⟨bm, ns, nm, qn, bs, sn, su, ab, co, dd, k0, k1, k2, k3, k5, _, KI _ _ lk, hN, nsMap_some_of_in KI hN hini, fun n hn => PySem.W.nsMap_none_of_in KI hns (hno n hn), PySem.W.tail_of_in KI htl, tailN_of_in KI htn⟩
    · cases q
  · cases q
end L2
set_option exponentiation.threshold 500
namespace L2
open PySem PySem.Spec PyProof.Rows
section
variable {X : Cx}
def tFs (i : Nat) : TE := fun σ H Q => ∃ n : Int, σ[i]? = some (some (.int n)) ∧ n.natAbs < 10 ^ 100 ∧ ∀ y, y.length ≤ 3000 → Q (.str y) H
theorem small_log {n : Int} (h : n.natAbs < 10 ^ 100) : n.natAbs.log2 < 1920 := by
  by_cases h0 : n.natAbs = 0
  · rw [h0]; decide
  · exact (Nat.log2_lt h0).mpr (Nat.lt_of_lt_of_le h (Nat.le_trans (show 10 ^ 100 ≤ 2 ^ 400 by decide) (Nat.pow_le_pow_right (by decide) (by decide))))
theorem len_fit {x : Str} (h : x.length ≤ 3000) : x.length ≤ sizeLine := Nat.le_trans h (by rw [sizeLine_eq]; decide)
theorem pe_fs2 {i : Nat} {c x : Str} {jj : Nat} {p1 p2 p3 p4 : Pos} (hN : X.N[i]? = some x) (hv : Vis X.env.scope x) (hc : c.length ≤ 1000) (hd : (x == ("__debug__" : Str)) = false := by decide) (hcd : (x == ("__classdict__" : Str)) = false := by decide) :
    PE X (.JoinedStr [.Constant (.str c) jj p1, .FormattedValue (.Name x p2) (-1) none p3] p4) (tFs i) := by
  intro pins s σ H Q I ⟨n, hn, hb, k⟩
  have e10 := int_text_length_le10 (k := 100) (by decide) hb
  have le : (Str.ofString (toString n)).length ≤ 101 := by rw [PySem.ofString_length]; exact e10
  have l1 : (Str.empty ++ c).length ≤ 1000 := by rw [strLen_append]; show 0 + c.length ≤ 1000; omega
  have l2 : (Str.empty ++ c ++ Str.ofString (toString n)).length ≤ 3000 := by rw [strLen_append]; omega
  refine wpAny_JoinedStr ?_
  show wpAny _ _ (eval (.Constant (.str c) jj p1) X.env) _ _ s
  refine thn (pe_str pins s σ H (fun v H1 => v = .str c ∧ H1 = H) I ⟨rfl, rfl⟩) fun u s1 ⟨v, H1, I1, r, e1, e2⟩ => ?_
  subst e1 e2
  obtain ⟨t, rfl⟩ := r
  refine ⟨c, t, rfl, len_fit (Nat.le_trans l1 (by decide)), ?_⟩
  show wpAny _ _ (eval (.FormattedValue (.Name x p2) (-1) none p3) X.env) _ _ s1
  refine wpAny_FormattedValue_plain (thn (pe_var hN hv hd hcd pins s1 σ H1 (fun v H2 => v = .int n ∧ H2 = H1) I1 ⟨.int n, hn, rfl, rfl⟩) fun u s2 ⟨v, H2, I2, r, e1, e2⟩ => ?_)
  subst e1 e2
  obtain ⟨t2, rfl⟩ := r
  refine wpAny_formatField_int (small_log hb) ⟨_, _, rfl, len_fit l2, len_fit l2, ?_⟩
  exact ⟨.str _, H2, I2.tok _, ⟨_, rfl⟩, k _ l2⟩
def tBi (i j : Nat) (C : Addr) : TS := fun D σ H => ∃ e n, σ[i]? = some (some (.ref e)) ∧ H e = some (rawx e C none) ∧ σ[j]? = some (some (.int n)) ∧ n.natAbs < 10 ^ 100 ∧ D.nx σ H
theorem upd_eq {H : Hp} {a : Addr} {o : HO} (h : H a = some o) : upd H a o = H := by
  funext b
  by_cases hb : b = a
  · subst hb; rw [upd_same, h]
  · rw [upd_ne hb]
theorem ps_base {i j : Nat} {C CL fI : Addr} {x bn : Str} {a : Expr} {p1 p2 p3 p4 p5 : Pos} (hC : excInI X.K C fI = true) (b : BaseInit X.K CL "ValueError.__init__") (hN : X.N[i]? = some x) (hv : Vis X.env.scope x) (hg : Gl X bn) (hm : X.mg bn = some (.ref CL)) (ha : PE X a (tFs j))
    (he : starEach [.Name x p3, a] X.env = (false, eval (.Name x p3) X.env) :: starEach [a] X.env) (he2 : starEach [a] X.env = (false, eval a X.env) :: starEach [] X.env) (hpl : (backTo p4 (starEach [a] X.env)).any (·.1) = false)
    (hs : swapsWith (.Call (.Attribute (.Name bn p1) "__init__" p2) [.Name x p3, a] [] p4) none p5.line X.env = pure false) {pl : Sem Bool}
    (ht : eval (.Call (.Attribute (.Name bn p1) "__init__" p2) [.Name x p3, a] [] p4) X.env = (do
      let ov ← eval (.Name bn p1) X.env
      standAt p2.atName
      let (f, first) ← holding [ov] (getMethod ov "__init__" pl)
      callWith p4 f first (backTo p4 (starEach [.Name x p3, a] X.env)) (backToKw p4 (keywordEach [] X.env))))
    (hd : (x == ("__debug__" : Str)) = false := by decide) (hcd : (x == ("__classdict__" : Str)) = false := by decide) (hdb : (bn == ("__debug__" : Str)) = false := by decide) :
    PS X (.Expr (.Call (.Attribute (.Name bn p1) "__init__" p2) [.Name x p3, a] [] p4) p5) (tBi i j C) := by
  intro pins s σ H D I ⟨e, n, hi, hH, hj, hb, qn⟩
  refine wpAny_Expr_any ?_ I.quiet hs
  refine PySem.W.methodCall_KW (pl := pl) (ld_glob I hg hm ?_ hdb) ht
  refine init_get I.kIn b ?_
  refine callWith_builtin1 (thn (pa_cons (pe_var hN hv hd hcd) (pa_cons ha pa_nil he2) he p4 pins _ σ H (fun vs H1 => H1 = H ∧ ∃ y, vs = [.ref e, y]) (I.tok _) ⟨.ref e, hi, n, hj, hb, fun y _ => ⟨rfl, .str y, rfl⟩⟩) fun us s1 ⟨vs, H1, I1, r, e1, ⟨y, e2⟩⟩ => ?_) he hpl
  subst e1 e2
  obtain ⟨u, w', rfl, r1, r2⟩ := vals2 r
  cases r1
  obtain ⟨bm, N, nm, qn', bs, sn, su, ab, co, dd, k0, k1, k2, k3, k5, mN, c1, c2, c3, c4, c5, c6⟩ := (exc_clsI I1.kIn hC).ex
  obtain ⟨t0, he0⟩ : RawX e C none s1.heap := (I1.hok e _ hH).1
  obtain ⟨hh, g, d, tk, os⟩ := s1
  refine base_init F.excBase_ValueError c5 c1 he0 (show 1 ≤ sizeLine by decide) fun h' g1 g2 => ?_
  have I2 := I1.write (x := e) (e := e) (o := rawx e C none) (h' := h') (t' := tk) (by rw [hH]; trivial) (.inl rfl) (fun b u hb q => g2 b u hb q) ⟨_, g1⟩ (rawx_ok ⟨_, g1⟩)
  rw [upd_eq hH] at I2
  exact ⟨σ, _, I2, qn⟩
def tSt (i j : Nat) (C : Addr) : TS := fun D σ H => ∃ e n, σ[i]? = some (some (.ref e)) ∧ H e = some (rawx e C none) ∧ σ[j]? = some (some (.int n)) ∧ ∀ dx, H dx = none → dx ≠ e → D.nx σ (upd (upd H dx (.xd [("at", .int n)])) e (rawx e C (some dx)))
theorem at_none : typeLookup (.type "ValueError") "at" = pure none := by rw [typeLookup_type, builtinLookup_eq_fast]; kernel_rfl
theorem ps_at {i j : Nat} {C fI : Addr} {x y : Str} {p1 p2 p3 p4 : Pos} (hC : excInI X.K C fI = true) (hN : X.N[i]? = some x) (hv : Vis X.env.scope x) (hN' : X.N[j]? = some y) (hv' : Vis X.env.scope y)
    (hs : swapsWith (.Name y p3) (some (.Attribute (.Name x p1) "at" p2)) p4.line X.env = pure false)
    (hd : (x == ("__debug__" : Str)) = false := by decide) (hcd : (x == ("__classdict__" : Str)) = false := by decide) (hd' : (y == ("__debug__" : Str)) = false := by decide) (hcd' : (y == ("__classdict__" : Str)) = false := by decide) :
    PS X (.Assign [.Attribute (.Name x p1) "at" p2] (.Name y p3) p4) (tSt i j C) := by
  intro pins s σ H D I ⟨e, n, hi, hH, hj, qn⟩
  refine plainObj_wpAny_Assign_Attribute (thn (pe_var hN' hv' hd' hcd' pins s σ H (fun v H1 => v = .int n ∧ H1 = H) I ⟨.int n, hj, rfl, rfl⟩) fun u s1 ⟨v, H1, I1, r, e1, e2⟩ => ?_) hs
  subst e1 e2
  obtain ⟨t, rfl⟩ := r
  refine thn (pe_var hN hv hd hcd pins s1 σ H1 (fun v H2 => v = .ref e ∧ H2 = H1) I1 ⟨.ref e, hi, rfl, rfl⟩) fun u s2 ⟨v, H2, I2, r, e1, e2⟩ => ?_
  subst e1 e2
  obtain rfl : u = Value.ref e := r
  obtain ⟨bm, N, nm, qn', bs, sn, su, ab, co, dd, k0, k1, k2, k3, k5, mN, c1, c2, c3, c4, c5, c6⟩ := (exc_clsI I2.kIn hC).ex
  obtain ⟨t0, he0⟩ : RawX e C none s2.heap := (I2.hok e _ hH).1
  obtain ⟨hh, g, d, tk, os⟩ := s2
  refine store_first F.store_ValueError c1 c2 c6 (by decide) (by decide) (c4 _ (by decide)) (c4 _ (by decide)) at_none he0 rfl (fun c z => nomatch z) rfl fun h' tk' g1 g2 g3 => ?_
  have hnd : H2 hh.objs.size = none := I2.hok.fresh (Nat.le_refl _)
  have ned : hh.objs.size ≠ e := Nat.ne_of_gt (Heap.lt_size he0)
  refine ⟨σ, _, I2.un (h' := h') (t' := tk') ?_ ?_, qn hh.objs.size hnd ned⟩
  · have ne : ∀ b, H2 b = none → b ≠ e := fun b n z => by subst z; rw [hH] at n; cases n
    have ot : ∀ b o, H2 b = some o → o ≠ rawx e C none → upd (upd H2 hh.objs.size (.xd [("at", .int n)])) e (rawx e C (some hh.objs.size)) b = some o := fun b o q z => by
      rw [upd_ne (fun y => by subst y; rw [hH] at q; cases q; exact z rfl), upd_ne (ne_of_none q hnd)]; exact q
    refine ⟨fun b o q n _ _ => g3 b o (ne b n) q, fun b o q n _ _ => ⟨o.slots, g3 b o (ne b n) q⟩, fun b o q n _ => ?_, fun b o q _ => ?_, fun b xs q => ot b _ q (fun z => by unfold rawx at z; cases z), fun b o u q => ot b _ q (fun z => by unfold rawx at z; cases z), fun b ps q => ⟨#[], by rw [ot b _ q (fun z => by unfold rawx at z; cases z)]; simp⟩⟩
    · rw [upd_ne (ne b n), upd_ne (Nat.ne_of_lt (Heap.lt_size q))]; exact n
    · by_cases hb : b = e
      · subst hb; exact ⟨_, g1⟩
      · exact ⟨o, g3 b o hb q⟩
  · intro b o q
    by_cases hb : b = e
    · subst hb
      rw [upd_same] at q
      cases q
      exact rawx_ok ⟨_, g1⟩
    · rw [upd_ne hb] at q
      by_cases hbd : b = hh.objs.size
      · subst hbd
        rw [upd_same] at q
        cases q
        refine ⟨_, g2, fun f => ?_⟩
        by_cases hf : f = "at"
        · subst hf; simp only [if_true]; exact ⟨t, rfl⟩
        · simp only [List.lookup, if_neg hf]
          have : (f == ("at" : Str)) = false := by simpa using hf
          rw [this]; trivial
      · rw [upd_ne hbd] at q
        refine (I2.hok b o q).stay (fun c x hc r => g3 c x ?_ r) (fun c r => ?_) fun c xs r => ?_
        · rintro rfl
          rcases hc with z | z
          · exact hb z.symm
          · rw [hH] at z; unfold rawx at z; cases z
        · rw [upd_ne (fun y => by subst y; rw [hH] at r; unfold rawx at r; cases r), upd_ne (ne_of_none r hnd)]; exact r
        · rw [upd_ne (fun y => by subst y; rw [hH] at r; unfold rawx at r; cases r), upd_ne (ne_of_none r hnd)]; exact r
end
end L2
namespace MR
open PySem L2
def KnA (C : Addr) (d : Option Nat) (a : Addr) (H : Hp) : Prop := ∃ dx, H a = some (exo a C dx) ∧ ∀ n, d = some n → ∃ x, dx = some x ∧ H x = some (xat x n)
theorem KnA.up {C : Addr} {d : Option Nat} {a : Addr} {H H' : Hp} (k : KnA C d a H) (s : Same H H') : KnA C d a H' := let ⟨dx, e2, e3⟩ := k; ⟨dx, s _ _ e2, fun n e => let ⟨x, q1, q2⟩ := e3 n e; ⟨x, q1, s _ _ q2⟩⟩
def Kn (i : Nat) (C : Addr) (d : Option Nat) (σ : St) (H : Hp) : Prop := ∃ a, σ[i]? = some (some (.ref a)) ∧ KnA C d a H
theorem Kn.up {i : Nat} {C : Addr} {d : Option Nat} {σ : St} {H H' : Hp} (k : Kn i C d σ H) (s : Same H H') : Kn i C d σ H' := let ⟨a, e1, e2⟩ := k; ⟨a, e1, e2.up s⟩
def tKn (i : Nat) (C : Addr) (dd : Option Nat) (v : V) : TE := fun σ H Q => Kn i C dd σ H ∧ ∀ H', Same H H' → Q v H'
def tKt (i : Nat) (C : Addr) (dd : Option Nat) (k : Bool) : TT := fun σ H Q => Kn i C dd σ H ∧ ∀ H', Same H H' → Q k H'
def tKs (i : Nat) (C : Addr) (dd : Option Nat) (p : PV) : TS := fun D σ H => Kn i C dd σ H ∧ ∀ v H', Same H H' → (∀ (M : MC) (A : Addr → Prop), Rep M A H' v p) → D.rt v H'
def atV : PV → Option V
  | .non => some .non
  | .bl b => some (.bl b)
  | .int i => some (.int i)
  | .str x => some (.str x)
  | _ => none
theorem atV_rep {C : MC} {A : Addr → Prop} {H : Hp} {p : PV} {v : V} (h : atV p = some v) : Rep C A H v p := by
  cases p with
  | non => cases h; exact .non
  | bl b => cases h; exact .bl b
  | int i => cases h; exact .int i
  | str x => cases h; exact .str x
  | _ => cases h
section
variable {X : Cx} {i : Nat} {C D : Addr} {dd : Option Nat} {v : V} {a c e : Expr} {b : Expr} {rest : List Expr} {pos p p1 p2 : Pos} {x dn : Str} {j k : Bool}
theorem call_isx : CallR X (.builtin "isinstance") (fun xs H Q => ∃ a C dx d c b, xs = [.ref a, d] ∧ (∀ u, RelV d u → u = c) ∧ H a = some (exo a C dx) ∧ XCls X.K C ∧ PySem.W.kitOne X.K (.ref C) c = some b ∧ Q (.bl b) H) := by
  intro pins s σ H xs us Q I r h
  obtain ⟨a, C, dx, d, c, b, rfl, hd, ea, xc, hk, q⟩ := h
  obtain ⟨u, w', rfl, r1, r2⟩ := vals2 r
  cases r1
  cases hd _ r2
  have ok : ExcAt a C dx s.heap := (I.hok a _ ea).1
  exact PySem.W.kia_one (kitx_exc xc) I.kIn ok hk (fun z => nomatch z) fun tk => ⟨.bl b, H, I.tok _, rfl, q⟩
theorem kn_isi (i : Nat) (xc : XCls X.K C) (hk : PySem.W.kitOne X.K (.ref C) (.ref D) = some k) (hm : X.mg "isinstance" = none) (hmd : X.mg dn = some (.ref D)) (hN : X.N[i]? = some x := by rfl)
    (hv : Vis X.env.scope x := by first | exact Or.inl rfl | exact Or.inr (Or.inl rfl) | exact Or.inr (Or.inr rfl)) (hd : (x == ("__debug__" : Str)) = false := by decide) (hcd : (x == ("__classdict__" : Str)) = false := by decide)
    (hg : Gl X "isinstance" := by rfl) (hgd : Gl X dn := by rfl) (hdd : (dn == ("__debug__" : Str)) = false := by decide) (hbi : bootBuiltins "isinstance" = some (.builtin "isinstance") := by decide +kernel)
    (he : starEach [.Name x p1, .Name dn p2] X.env = (false, eval (.Name x p1) X.env) :: starEach [.Name dn p2] X.env := by rfl) (he2 : starEach [.Name dn p2] X.env = (false, eval (.Name dn p2) X.env) :: starEach [] X.env := by rfl) (hpl : (backTo pos (starEach [.Name dn p2] X.env)).any (·.1) = false := by rfl) :
    PE X (.Call (.Name "isinstance" p) [.Name x p1, .Name dn p2] [] pos) (tKn i C dd (.bl k)) :=
  PE.imp (pe_callB call_isx hg hm hbi (pa_cons (pe_var hN hv hd hcd) (pa_cons (pe_glob (v := .ref D) hgd hmd rfl hdd) pa_nil he2) he) (by decide) (by decide) he hpl) fun σ H Q ⟨⟨a, e1, dx, e2, _⟩, kk⟩ => ⟨.ref a, e1, a, C, dx, .ref D, .ref D, k, rfl, fun u h => h, e2, xc, hk, kk H (Same.refl _)⟩
theorem kn_isiT (i : Nat) {dn' : String} (xc : XCls X.K C) (hk : PySem.W.kitOne X.K (.ref C) (.type dn') = some k) (hm : X.mg "isinstance" = none) (hmd : X.mg dn = none) (hbn : bootBuiltins dn = some (.type dn') := by decide +kernel) (hN : X.N[i]? = some x := by rfl)
    (hv : Vis X.env.scope x := by first | exact Or.inl rfl | exact Or.inr (Or.inl rfl) | exact Or.inr (Or.inr rfl)) (hd : (x == ("__debug__" : Str)) = false := by decide) (hcd : (x == ("__classdict__" : Str)) = false := by decide)
    (hg : Gl X "isinstance" := by rfl) (hgd : Gl X dn := by rfl) (hdn : dn ≠ "__name__" := by decide) (hdd : (dn == ("__debug__" : Str)) = false := by decide) (hbi : bootBuiltins "isinstance" = some (.builtin "isinstance") := by decide +kernel)
    (he : starEach [.Name x p1, .Name dn p2] X.env = (false, eval (.Name x p1) X.env) :: starEach [.Name dn p2] X.env := by rfl) (he2 : starEach [.Name dn p2] X.env = (false, eval (.Name dn p2) X.env) :: starEach [] X.env := by rfl) (hpl : (backTo pos (starEach [.Name dn p2] X.env)).any (·.1) = false := by rfl) :
    PE X (.Call (.Name "isinstance" p) [.Name x p1, .Name dn p2] [] pos) (tKn i C dd (.bl k)) :=
  PE.imp (pe_callB call_isx hg hm hbi (pa_cons (pe_var hN hv hd hcd) (pa_cons (pe_bltn (v := .ty dn') hgd hmd hbn rfl hdn hdd) pa_nil he2) he) (by decide) (by decide) he hpl) fun σ H Q ⟨⟨a, e1, dx, e2, _⟩, kk⟩ => ⟨.ref a, e1, a, C, dx, .ty dn', .type dn', k, rfl, fun u h => h, e2, xc, hk, kk H (Same.refl _)⟩
theorem kt_isN (i : Nat) {jj : Nat} (hN : X.N[i]? = some x := by rfl) (hv : Vis X.env.scope x := by first | exact Or.inl rfl | exact Or.inr (Or.inl rfl) | exact Or.inr (Or.inr rfl)) (hd : (x == ("__debug__" : Str)) = false := by decide) (hcd : (x == ("__classdict__" : Str)) = false := by decide) :
    PT X (.Compare (.Name x p1) [.Is] [.Constant .none jj p2] pos) (tKt i C dd false) :=
  PT.imp (pt_cmp (pc_isN (pe_var hN hv hd hcd))) fun σ H Q ⟨⟨a, e1, e2⟩, kk⟩ => ⟨.ref a, e1, false, rfl, kk H (Same.refl _)⟩
theorem kt_val (h : PE X e (tKn i C dd (.bl j))) (he : ∀ whole, isTrue e X.env whole = (do let v ← whole; standAt e.pos; holding [v] (truthy v)) := by intro _; rfl) : PT X e (tKt i C dd j) := PT.imp (pt_val h he) fun σ H Q ⟨kn, kk⟩ => ⟨kn, fun H' s => ⟨j, rfl, kk H' s⟩⟩
theorem kw_or1 (h : PT X a (tKt i C dd j)) : PW X (.BoolOp .Or [a] pos) (tKt i C dd j) := pw_or1 h
theorem kw_or (h1 : PT X a (tKt i C dd j)) (h2 : PW X (.BoolOp .Or (b :: rest) pos) (tKt i C dd k)) : PW X (.BoolOp .Or (a :: b :: rest) pos) (tKt i C dd (j || k)) := fun wh pins s σ H Q I ⟨kn, kk⟩ => pw_or h1 h2 wh pins s σ H Q I ⟨kn, fun H' s' => by
  cases j with
  | false => exact ⟨kn.up s', fun H2 s2 => kk H2 (s'.trans s2)⟩
  | true => exact kk H' s'⟩
theorem kt_not (h : PT X a (tKt i C dd j)) : PT X (.UnaryOp .Not a pos) (tKt i C dd (!j)) := PT.imp (pt_not h) fun σ H Q ⟨kn, kk⟩ => ⟨kn, fun H' s => kk H' s⟩
variable {sa sb : List Stmt} {st : List Stmt} {p' : PV}
theorem ks_ret2 {e1 e2 : Expr} {v1 v2 : V} {q1 q2 : PV} {x1} {tp : Pos} (hv1 : atV q1 = some v1) (hv2 : atV q2 = some v2) (h1 : PE X e1 (tKn i C dd v1)) (h2 : PE X e2 (tKn i C dd v2))
    (he : starEach [e1, e2] X.env = (false, eval e1 X.env) :: starEach [e2] X.env := by rfl) (he2 : starEach [e2] X.env = (false, eval e2 X.env) :: starEach [] X.env := by rfl) : PSs X (.Return (some (.Tuple [e1, e2] x1 tp)) pos :: st) (tKs i C dd (.tup [q1, q2])) :=
  PSs.imp (pss_cons (ps_ret (pe_tup (pa_cons h1 (pa_cons h2 pa_nil he2) he))) pss_never) fun D σ H ⟨k, kk⟩ => ⟨k, fun H1 s1 => ⟨k.up s1, fun H2 s2 => ⟨(by show 2 ≤ sizeLine; decide), fun a ha => kk (.ref a) _ ((s1.trans s2).trans (same_new ha _)) fun M A => .tup upd_same (.cons (atV_rep hv1) (.cons (atV_rep hv2) .nil))⟩⟩⟩
theorem kn_str {y : Str} {jj : Nat} : PE X (.Constant (.str y) jj pos) (tKn i C dd (.str y)) := PE.imp pe_str fun σ H Q ⟨_, kk⟩ => kk H (Same.refl _)
theorem ks_ifF (hc : PT X c (tKt i C dd false)) (h : PSs X st (tKs i C dd p')) : PSs X (.If c sa [] pos :: st) (tKs i C dd p') := PSs.imp (pss_cons (ps_if hc pss_never pss_nil) h) fun D σ H ⟨kn, kk⟩ => ⟨kn, fun H' s => ⟨kn.up s, fun v H2 s2 r => kk v H2 (s.trans s2) r⟩⟩
end
theorem PSs.or {X : Cx} {e : List Stmt} {t u : TS} (h : PSs X e t) (h' : PSs X e u) : PSs X e (fun D σ H => t D σ H ∨ u D σ H) := fun pins s σ H D I q => q.elim (h pins s σ H D I) (h' pins s σ H D I)
def sTry (f : Env → Option Out) (xf : Env → Option XV) (c0 : Nat) (v : Option Nat → Option PV) (r : Env → Option Out) (env : Env) : Option Out := match xf env with
  | some c => if c.1 = c0 then (v c.2).map .rt else none
  | none => (f env).bind fun o => match o with
    | .nx e => r e
    | o => some o
@[simp] theorem sTry_ap (f : Env → Option Out) (xf : Env → Option XV) (c0 : Nat) (v : Option Nat → Option PV) (r : Env → Option Out) (env : Env) : sTry f xf c0 v r env = (match xf env with
  | some c => if c.1 = c0 then (v c.2).map .rt else none
  | none => (f env).bind fun o => match o with
    | .nx e => r e
    | o => some o) := id rfl
def onN (g : Nat → PV) (d : Option Nat) : Option PV := d.map g
@[simp] theorem onN_ap (g : Nat → PV) (d : Option Nat) : onN g d = d.map g := id rfl
def onA (p : PV) (d : Option Nat) : Option PV := some p
@[simp] theorem onA_ap (p : PV) (d : Option Nat) : onA p d = some p := id rfl
theorem onN_el {X : Cx} {rest : List Stmt} {iw : Nat} {C : Addr} {g : Nat → PV} (h : ∀ n, PSs X rest (tKs iw C (some n) (g n))) (d : Option Nat) (q : PV) (e : onN g d = some q) : PSs X rest (tKs iw C d q) := by
  cases d with
  | none => cases e
  | some n => cases e; exact h n
theorem trkx_kn {H1 : Hp} {a dx C : Addr} {d : Option Nat} (nd : d.isSome = true → a ≠ dx) : KnA C d a (trkx H1 a dx C d) := by
  cases d with
  | none => exact ⟨none, upd_same, fun n z => nomatch z⟩
  | some n => exact ⟨some dx, upd_same, fun m z => by cases z; exact ⟨dx, rfl, by show upd (upd H1 dx (xat dx n)) a (exo a C (some dx)) dx = _; rw [upd_ne (Ne.symm (nd rfl)), upd_same]⟩⟩
theorem trkx_same {H1 : Hp} {a dx C : Addr} {d : Option Nat} (nH : H1 a = none) (nHd : H1 dx = none) : Same H1 (trkx H1 a dx C d) := by
  cases d with
  | none => exact same_new nH _
  | some n =>
    intro b o q
    show upd (upd H1 dx (xat dx n)) a (exo a C (some dx)) b = _
    rw [upd_ne (ne_of_none q nH), upd_ne (ne_of_none q nHd)]; exact q
theorem ss_try {X : Cx} {b : BX} {G G' L : List Nat} {body rest : List Stmt} {f r : Env → Option Out} {xf : Env → Option XV} {cx n wn : Str} {Cc : Addr} (iw ie c0 : Nat) {p : Option Nat → Option PV} {np p1 p2 p3 hp pos : Pos} (nd : X.N.Nodup)
    (hm : X.mg cx = some (.ref Cc)) (hexm : PySem.W.exmOne X.K (.ref (b.C.cl c0)) (.ref Cc) = some true) (h1 : SSs X b G G L false body f) (h2 : ∀ E', XSs (X.wish E') (tX b G (WT (X.wish E') b) xf) body) (hr : SSs X b G G' L false rest r) (hR : ∀ d q, p d = some q → PSs X rest (tKs iw (b.C.cl c0) d q))
    (hX : ∀ e s, X.xe e s → False := by exact fun _ _ z => z) (hex : X.ex = [] := by rfl) (hst : X.stack = X.env :: X.outer := by rfl) (hfr : X.env.frame = some X.env.locals := by rfl)
    (hn : X.N[ie]? = some n := by rfl) (hnl : X.env.scope.names.lookup n = some .local := by rfl) (hw : X.N[iw]? = some wn := by rfl) (hwl : Loc X.env.scope wn := by first | exact Or.inl rfl | exact Or.inr rfl) (hwe : (iw == ie) = false := by rfl) (hgl : Gl X cx := by rfl)
    (hd : (cx == ("__debug__" : Str)) = false := by decide) (hdn : (n == ("__debug__" : Str)) = false := by decide) (hcn : (n == ("__classdict__" : Str)) = false := by decide)
    (hsw : swapsWith (.Name n p2) (some (.Name wn p1)) p3.line X.env = pure false := by rfl) (hfn : X.fn wn = true ∨ X.env.scope.names.lookup wn = some .local := by first | exact .inl rfl | exact .inr rfl | assumption) :
    SSs X b G G' L false (.Try body [.ExceptHandler (some (.Name cx np)) (some n) [.Assign [.Name wn p1] (.Name n p2) p3] hp] [] [] pos :: rest) (sTry f xf c0 p r) := by
  intro pins s σ H D I ⟨Ow, env, o, E, hq, kk⟩
  rw [sTry_ap] at hq
  cases q : xf env with
  | some c =>
    rw [q] at hq
    have hq : (if c.1 = c0 then (p c.2).map Out.rt else none) = some o := hq
    by_cases hc : c.1 = c0
    · rw [if_pos hc] at hq
      obtain ⟨pv, hpv, rfl⟩ := Option.map_eq_some_iff.mp hq
      refine pss_cons (ps_tryx hX hex hst hfr nd hn hnl hw hwl hgl hm h1 h2 hd hdn hcn hsw hfn) (hR c.2 pv hpv) pins s σ H D I ?_
      refine .inr ⟨Ow, env, c, E, q, by rw [hc]; exact hexm, fun a dx H1 sm nH nHd ned => ⟨⟨a, ?_, by rw [hc]; exact trkx_kn ned⟩, fun v H' s' r' => ?_⟩⟩
      · have hil : iw < σ.length := by rw [I.len]; exact (List.getElem?_eq_some_iff.mp hw).1
        have ne : ie ≠ iw := fun z => by subst z; simp at hwe
        rw [List.getElem?_set_ne ne, List.getElem?_set_self (by rw [List.length_set]; exact hil)]
      · have kk' : ∀ v H', Same b.H0 H' → Ret b.C b.A b.H0 false H' v pv → D.rt v H' := kk
        exact kk' v H' (E.same.trans (sm.trans ((trkx_same nH nHd).trans s'))) (r' _ _)
    · rw [if_neg hc] at hq
      cases hq
  | none =>
    rw [q] at hq
    obtain ⟨o1, ho, hq⟩ := bind_some' hq
    refine pss_cons (ps_tryx hX hex hst hfr nd hn hnl hw hwl hgl hm h1 h2 hd hdn hcn hsw hfn) hr pins s σ H D I ?_
    refine .inl ⟨Ow, env, o1, E, ho, ?_⟩
    cases o1 with
    | nx e1 => exact fun Ow' σ' H' E' x => ⟨Ow', e1, o, E', hq, kk.ex x⟩
    | bk e1 => cases hq; exact kk
    | ct e1 => cases hq; exact kk
    | rt p1 => cases hq; exact kk
end MR
namespace MR
open PySem L2
section
variable {X : Cx} {i : Nat} {C D fI : Addr} {dd : Option Nat} {n : Nat} {x dn : Str} {k : Bool} {p p1 p2 p3 pos : Pos}
theorem kn_at (i : Nat) (hC : ∃ f, excInI X.K C f = true) (hN : X.N[i]? = some x := by rfl) (hv : Vis X.env.scope x := by first | exact Or.inl rfl | exact Or.inr (Or.inl rfl) | exact Or.inr (Or.inr rfl)) (hd : (x == ("__debug__" : Str)) = false := by decide) (hcd : (x == ("__classdict__" : Str)) = false := by decide)
    (hb : attributeBase (.Name x p1) "at" X.env (eval (.Name x p1) X.env) = eval (.Name x p1) X.env := by rfl) : PE X (.Attribute (.Name x p1) "at" pos) (tKn i C (some n) (.int n)) := by
  intro pins s σ H Q I ⟨⟨a, e1, dx, e2, e3⟩, kk⟩
  obtain ⟨y, rfl, e4⟩ := e3 n rfl
  refine attr_of hb (thn (pe_var hN hv hd hcd pins s σ H (fun v H1 => v = .ref a ∧ H1 = H) I ⟨.ref a, e1, rfl, rfl⟩) fun u s1 ⟨v, H1, I1, r, q1, q2⟩ => ?_)
  subst q1 q2
  obtain rfl : u = Value.ref a := r
  obtain ⟨bm, N, nm, qn', bs, sn, su, ab, co, ddd, k0, k1, k2, k3, k5, mN, c1, c2, c3, c4, c5, c6⟩ := (exc_clsI I1.kIn hC.choose_spec).ex
  obtain ⟨o, vs, hx, hc, hdt, hdx⟩ : ExcAt a C (some y) s1.heap := (I1.hok a _ e2).1
  obtain ⟨m, t, hn, hm⟩ : XAt y n s1.heap := (I1.hok y _ e4).1
  obtain ⟨hh, g, d, tk, os⟩ := s1
  refine get_field F.attrBase_ValueError c1 c2 c6 (by decide) (by decide) (by decide) (c4 _ (by decide)) (c4 _ (by decide)) (c4 _ (by decide)) at_none hx hc (fun c z => by rw [hdt] at z; cases z) (hdx y rfl) hn hm rfl ?_
  exact ⟨.int n, H1, I1.tok _, ⟨t, rfl⟩, kk H1 (Same.refl _)⟩
theorem call_isint : CallR X (.builtin "isinstance") (fun xs H Q => ∃ (j : Int) (d : V) (c : Value) (b : Bool), xs = [.int j, d] ∧ (∀ u, RelV d u → u = c) ∧ PySem.W.kitOne X.K (.type "int") c = some b ∧ Q (.bl b) H) := by
  intro pins s σ H xs us Q I r h
  obtain ⟨j, d, c, b, rfl, hd, hk, q⟩ := h
  obtain ⟨u, w', rfl, r1, r2⟩ := vals2 r
  obtain ⟨t, rfl⟩ := r1
  cases hd _ r2
  exact PySem.W.kia_one PySem.W.kitx_int I.kIn trivial hk (fun z => nomatch z) fun tk => ⟨.bl b, H, I.tok _, rfl, q⟩
theorem kn_isiA {a : Expr} {j : Int} {dn' : String} (ha : PE X a (tKn i C dd (.int j))) (hk : PySem.W.kitOne X.K (.type "int") (.type dn') = some k) (hm : X.mg "isinstance" = none) (hmd : X.mg dn = none) (hbn : bootBuiltins dn = some (.type dn') := by decide +kernel)
    (hg : Gl X "isinstance" := by rfl) (hgd : Gl X dn := by rfl) (hdn : dn ≠ "__name__" := by decide) (hdd : (dn == ("__debug__" : Str)) = false := by decide) (hbi : bootBuiltins "isinstance" = some (.builtin "isinstance") := by decide +kernel)
    (he : starEach [a, .Name dn p2] X.env = (false, eval a X.env) :: starEach [.Name dn p2] X.env := by rfl) (he2 : starEach [.Name dn p2] X.env = (false, eval (.Name dn p2) X.env) :: starEach [] X.env := by rfl) (hpl : (backTo pos (starEach [.Name dn p2] X.env)).any (·.1) = false := by rfl) :
    PE X (.Call (.Name "isinstance" p) [a, .Name dn p2] [] pos) (tKn i C dd (.bl k)) :=
  PE.imp (pe_callB call_isint hg hm hbi (pa_cons ha (pa_cons (pe_bltn (v := .ty dn') hgd hmd hbn rfl hdn hdd) pa_nil he2) he) (by decide) (by decide) he hpl) fun σ H Q ⟨kn, kk⟩ => ⟨kn, fun H1 s1 => ⟨j, .ty dn', .type dn', k, rfl, fun u h => h, hk, kk H1 s1⟩⟩
def PAC (X : Cx) (es : List Expr) (cs : List Value) : Prop := ∃ vs : List V, PA X es (fun _ H Q => Q vs H) ∧ (∀ us, Vals vs us → us = cs) ∧ vs.length = cs.length
theorem pac_nil : PAC X [] [] := ⟨[], pa_nil, fun us r => by cases r; rfl, rfl⟩
theorem pac_cons {es : List Expr} {cs : List Value} (hmd : X.mg dn = some (.ref D)) (h : PAC X es cs) (hgd : Gl X dn := by rfl) (hdd : (dn == ("__debug__" : Str)) = false := by decide)
    (he : starEach (.Name dn p2 :: es) X.env = (false, eval (.Name dn p2) X.env) :: starEach es X.env := by rfl) : PAC X (.Name dn p2 :: es) (.ref D :: cs) := by
  obtain ⟨vs, h1, h2, h3⟩ := h
  refine ⟨.ref D :: vs, pa_cons (pe_glob (v := .ref D) hgd hmd rfl hdd) h1 he, fun us r => ?_, by simp [h3]⟩
  cases r with
  | cons r1 r2 => cases r1; rw [h2 _ r2]
theorem call_isxt : CallR X (.builtin "isinstance") (fun xs H Q => ∃ a C dx tp vs cs b, xs = [.ref a, .ref tp] ∧ H tp = some (.tup vs) ∧ (∀ us, Vals vs us → us = cs) ∧ H a = some (exo a C dx) ∧ XCls X.K C ∧ PySem.W.kitAny X.K (.ref C) cs = some b ∧ Q (.bl b) H) := by
  intro pins s σ H xs us Q I r h
  obtain ⟨a, C, dx, tp, vs, cs, b, rfl, ht, hcs, ea, xc, hk, q⟩ := h
  obtain ⟨u, w', rfl, r1, r2⟩ := vals2 r
  cases r1
  cases r2
  have ok : ExcAt a C dx s.heap := (I.hok a _ ea).1
  obtain ⟨_, its, rv, ob, ho, hcl, nn, hdt⟩ := I.hok tp _ ht
  have e := hcs _ rv
  subst e
  obtain ⟨oc, odd, od, osl⟩ := ob
  dsimp only at hcl hdt
  subst hcl hdt
  exact PySem.W.kia_tup (kitx_exc xc) I.kIn ok ho hk (fun z => nomatch z) fun tk => ⟨.bl b, H, I.tok _, rfl, q⟩
theorem kn_isiN (i : Nat) {es : List Expr} {cs : List Value} {x1} (xc : XCls X.K C) (hk : PySem.W.kitAny X.K (.ref C) cs = some k) (hm : X.mg "isinstance" = none) (h : PAC X es cs) (hl : cs.length ≤ 100 := by exact Nat.le_of_ble_eq_true rfl) (hN : X.N[i]? = some x := by rfl)
    (hv : Vis X.env.scope x := by first | exact Or.inl rfl | exact Or.inr (Or.inl rfl) | exact Or.inr (Or.inr rfl)) (hd : (x == ("__debug__" : Str)) = false := by decide) (hcd : (x == ("__classdict__" : Str)) = false := by decide)
    (hg : Gl X "isinstance" := by rfl) (hbi : bootBuiltins "isinstance" = some (.builtin "isinstance") := by decide +kernel)
    (he : starEach [.Name x p1, .Tuple es x1 p2] X.env = (false, eval (.Name x p1) X.env) :: starEach [.Tuple es x1 p2] X.env := by rfl) (he2 : starEach [.Tuple es x1 p2] X.env = (false, eval (.Tuple es x1 p2) X.env) :: starEach [] X.env := by rfl) (hpl : (backTo pos (starEach [.Tuple es x1 p2] X.env)).any (·.1) = false := by rfl) :
    PE X (.Call (.Name "isinstance" p) [.Name x p1, .Tuple es x1 p2] [] pos) (tKn i C dd (.bl k)) := by
  obtain ⟨vs, h1, h2, h3⟩ := h
  refine PE.imp (pe_callB call_isxt hg hm hbi (pa_cons (pe_var hN hv hd hcd) (pa_cons (pe_tup h1) pa_nil he2) he) (by decide) (by decide) he hpl) fun σ H Q ⟨⟨a, e1, dx, e2, _⟩, kk⟩ => ?_
  refine ⟨.ref a, e1, Nat.le_trans (by rw [h3]; exact hl) (by decide), fun tp htp => ?_⟩
  exact ⟨a, C, dx, tp, vs, cs, k, rfl, upd_same, h2, by rw [upd_ne (ne_of_none e2 htp)]; exact e2, xc, hk, kk _ (same_new htp _)⟩
end
end MR
namespace L2
open PySem PySem.Spec PyProof.Rows
def del (H : Hp) (a : Addr) : Hp := fun b => if b = a then none else H b
theorem del_same {H : Hp} {a : Addr} : del H a a = none := by unfold del; rw [if_pos rfl]
theorem del_ne {H : Hp} {a b : Addr} (h : b ≠ a) : del H a b = H b := by unfold del; rw [if_neg h]
theorem Inv.forget {X : Cx} {pins : List (Addr × Obj)} {σ : St} {H : Hp} {s : Shared} (I : Inv X pins σ H s) {a : Addr} {o : HO} (h : H a = some o) (n1 : ∀ xs, o ≠ .tup xs) (n2 : ∀ ob u, o ≠ .frz ob u) (n3 : ∀ ps, o ≠ .tbl ps) (n4 : ∀ y, o ≠ .own y) : Inv X pins σ (del H a) s := by
  have u := I.base
  have kp : ∀ b v, H b = some v → v ≠ o → del H a b = some v := fun b v q z => by
    rw [del_ne (fun y => by subst y; rw [h] at q; cases q; exact z rfl)]; exact q
  have fr : ∀ b, H b = none → del H a b = none := fun b q => by
    by_cases hb : b = a
    · subst hb; exact del_same
    · rw [del_ne hb]; exact q
  refine ⟨I.ok, I.os, I.bare, ⟨u.keep, u.slot, fun b o' q n hx => fr b (u.free b o' q n hx), u.there, fun b xs q => kp b _ (u.tups b xs q) fun z => n1 _ z.symm, fun b o' xs q => kp b _ (u.frzs b o' xs q) fun z => n2 _ _ z.symm, fun b ps q => ?_⟩, I.loc, I.cell, fr _ I.free, fun x c q => fr _ (I.freeC x c q), fun p hp => ?_, fun b v q => ?_, I.len⟩
  · obtain ⟨more, z⟩ := u.tbls b ps q
    exact ⟨more, kp b _ z fun y => n3 _ y.symm⟩
  · obtain ⟨e1, n, nl, nf, d⟩ := I.pin p hp
    exact ⟨e1, fr _ n, nl, nf, d⟩
  · have hb : b ≠ a := fun z => by subst z; rw [del_same] at q; cases q
    rw [del_ne hb] at q
    exact (I.hok b v q).stay (fun c x _ r => r) (fun c r => kp c _ r fun z => n4 _ z.symm) fun c xs r => kp c _ r fun z => n1 _ z.symm
def spXi (C : Addr) : Sp := fun vs H Q _ => ∃ e n, vs = [.ref e, .int n] ∧ H e = some (rawx e C none) ∧ n.natAbs < 10 ^ 100 ∧ ∀ dx, H dx = none → dx ≠ e → Q .non (upd (upd H dx (.xd [("at", .int n)])) e (rawx e C (some dx)))
theorem fnI_ok {P : Program} {w : World} {K : PySem.W.Frag} {mg : Str → Option Value} {base : Heap} {qual : Str} {st : Stmt} {f : Addr} {fd : FuncData} {C : Addr} {k : Nat} {x y : Str} (F : Fun K "__init__" qual st f fd) (S : FnScope [x, y] [x, y] (defScope st))
    (hb : ∀ (cdv : Value) (A : Around) (outer : List Env) (s : Shared) (H : Hp) (E : XK), PSs (cxOf CX0 P w K mg base [x, y] qual (defScope st) f cdv A outer s H E).nox (defBody st) (tSeq (tBi 0 1 C) (tSt 0 1 C))) :
    FnOk P w K mg base CX0 (k + 1) f fd [x, y] (spXi C) := by
  refine F.ok S (fun vs H Q E ⟨e, n, z, _⟩ => by rw [z]; rfl) fun cdv A outer s H vs Q E hr ⟨e, n, z, hH, hn, kk⟩ => ⟨_, hb cdv A outer s H E, ?_⟩
  subst z
  exact ⟨e, n, rfl, hH, rfl, hn, e, n, rfl, hH, rfl, kk⟩
end L2
namespace MR
open PySem L2 PyProof.Rows PySem.Spec
def xRaiseN (ga : Env → Option (List PV)) (c : Nat) (env : Env) : Option XV := (ga env).bind fun qs => match qs with
  | [.int k] => if 0 ≤ k ∧ k ≤ 1000000 then some (c, some k.toNat) else none
  | _ => none
@[simp] theorem xRaiseN_ap (ga : Env → Option (List PV)) (c : Nat) (env : Env) : xRaiseN ga c env = ((ga env).bind fun qs => match qs with
  | [.int k] => if 0 ≤ k ∧ k ≤ 1000000 then some (c, some k.toNat) else none
  | _ => none) := id rfl
structure CalXi (P : Program) (w : World) (K : PySem.W.Frag) (mg : Str → Option Value) (base : Heap) (C : Addr) (k : Nat) : Prop where
  ex : ∃ f fd x y, FnOk P w K mg base CX0 k f fd [x, y] (spXi C) ∧ Binds K fd [x, y] [] ∧ PySem.W.isFn K (.ref f) = true ∧ excInI K C f = true
section
variable {P : Program} {w : World} {K : PySem.W.Frag} {mg : Str → Option Value} {base : Heap} {N : List Str} {qual : Str} {scope : Scope} {f : Addr} {cd : Value} {A : Around} {outer : List PySem.Env} {s : Shared} {H : Hp} {E : XK}
theorem xs_raiseI (c : Nat) {k j : Nat} {b : BX} {G : List Nat} {e : Expr} {x : Str} {np cpos pos : Pos} {ga : Env → Option (List PV)} (cx : CalXi P w K mg base (b.C.cl c) k) (hr : Room j (cxOf (CXW P w K) P w K mg base N qual scope f cd A outer s H E).A)
    (hm : mg x = some (.ref (b.C.cl c))) (ha : SA (cxOf (CXW P w K) P w K mg base N qual scope f cd A outer s H E) b G false [e] ga) (hle : k + 1 ≤ j := by decide)
    (hgl : Gl (cxOf (CXW P w K) P w K mg base N qual scope f cd A outer s H E) x := by rfl) (hdb : (x == ("__debug__" : Str)) = false := by decide)
    (he : starEach [e] (envOfC qual scope s.heap.objs.size f cd) = (false, eval e (envOfC qual scope s.heap.objs.size f cd)) :: starEach [] (envOfC qual scope s.heap.objs.size f cd) := by rfl) :
    XS (cxOf (CXW P w K) P w K mg base N qual scope f cd A outer s H E) (tX b G (WD b E) (xRaiseN ga c)) (.Raise (some (.Call (.Name x np) [e] [] cpos)) none pos) := by
  intro pins s1 σ H1 I ⟨Ow, env, c0, Er, hx, hW⟩
  obtain ⟨qs, hga, hx⟩ := bind_some' hx
  obtain ⟨fI, fd, y1, y2, FI, hB, hfn, hC⟩ := cx.ex
  split at hx
  rotate_left
  · cases hx
  rename_i kk
  split at hx
  rotate_left
  · cases hx
  rename_i hkk
  cases hx
  generalize hXX : cxOf (CXW P w K) P w K mg base N qual scope f cd A outer s H E = X at *
  obtain ⟨bm, Nn, nm, qn, bs, sn, su, ab, co, ddd, k0, k1, k2, k3, k5, mN, c1, c2, c3, c4, c5, c6⟩ := (exc_clsI I.ok.mod.kin (by subst hXX; exact hC)).ex
  obtain ⟨oI, hoI, hoc⟩ : ∃ oI, K.lookup fI = some oI ∧ oI.cls = .type "function" := by
    have z : PySem.W.typeIn K (.ref fI) = some (.type "function") := beq_iff_eq.mp hfn
    obtain ⟨oI, z1, z2⟩ := Option.map_eq_some_iff.mp z
    exact ⟨oI, z1, z2⟩
  have hpl : (backTo cpos (starEach [e] X.env)).any (·.1) = false := by
    subst hXX
    show (backTo cpos (starEach [e] (envOfC qual scope s.heap.objs.size f cd))).any (·.1) = false
    rw [he]; rfl
  subst hXX
  refine raise_init (C := b.C.cl c) (nm := nm) (q := qn) (N := Nn) (bs := bs) (bm := bm) (hdct := true) (sn := sn) (sub := su) (ab := ab) (col := co) (dd := ddd) (k0 := k0) (k1 := k1) (k2 := k2) (k3 := k3) (k5 := k5) (mN := mN) (fI := fI)
    F.excBase_ValueError (c5.hasType F.excBase_ValueError.hasBase) (I.ok.hd rfl) hpl c3 (ld_glob I hgl hm ⟨rfl, ?_⟩ hdb)
  have h1 := ha cpos pins s1 σ H1 (fun vs H2 => Same H1 H2 ∧ vs = [.int kk]) I ⟨Ow, env, _, Er, hga, fun vs H2 s2 rr => ⟨s2, by cases rr with | cons r1 r2 => cases r1; cases r2; rfl⟩⟩
  have h2 : wpAny (model P w) (A.deeper (envOfC qual scope s.heap.objs.size f cd)) (spliced (backTo cpos (starEach [e] (envOfC qual scope s.heap.objs.size f cd)))) _ _ s1 := h1
  show wpAny (model P w) (A.deeper (envOfC qual scope s.heap.objs.size f cd)) (evalArgs (.ref (b.C.cl c)) true (backTo cpos (starEach [e] (envOfC qual scope s.heap.objs.size f cd))) []) _ _ s1
  rw [he] at h2 ⊢
  refine Calls.evalArgs_plain (wpAny_mono h2 (fun us s2 ⟨vs, H2, I2, r, sm, hl⟩ => ?_) fun _ _ y => y)
  subst hl
  obtain ⟨u0, rfl, t, rfl⟩ : ∃ u0, us = [u0] ∧ ∃ t, u0 = Value.int kk t := by
    cases r with
    | cons r1 r2 => cases r2; exact ⟨_, rfl, r1⟩
  refine ⟨rfl, (show 1 ≤ sizeLine by decide), I2.bk _ _ c1, c2.keeps I2.bk, c5.keeps I2.bk, ⟨oI, I2.kIn _ _ hoI, hoc⟩, fun h' ex hmk => ?_⟩
  obtain ⟨t0, he0, ht0, _⟩ := hmk.there
  have I3 := I2.kept (t' := s2.toks) hmk.keeps
  have old : ∀ a, s2.heap.get? a = none → s.heap.get? a = none := fun a n => by
    cases z : s.heap.get? a with
    | none => rfl
    | some o =>
      obtain ⟨_, y⟩ := I2.base.there a o z (fun z => nomatch z)
      rw [n] at y; cases y
  have nH : H2 ex = none := by
    cases z : H2 ex with
    | none => rfl
    | some o =>
      obtain ⟨_, y⟩ := (I2.hok ex o z).there
      rw [hmk.new] at y; cases y
  have np : ∀ p ∈ (cxOf (CXW P w K) P w K mg base N qual scope f cd A outer s H E).pn ++ pins, p.1 ≠ ex := fun p hp z => by
    have := (I2.pin p hp).1
    rw [z, hmk.new] at this; cases this
  have nLC := fields_loc I3 he0 rfl
  have I4 := I3.trackE (φ := RawX ex (b.C.cl c) none) (fun H' => rawx_ok ⟨t0, he0⟩) (old ex hmk.new) nH np nLC.1 nLC.2
  have r2 : Vals [V.ref ex, V.int kk] [Value.ref ex, Value.int kk t] := .cons rfl (.cons ⟨t, rfl⟩ .nil)
  have hsp : spXi (b.C.cl c) [.ref ex, .int kk] (upd H2 ex (rawx ex (b.C.cl c) none)) (fun v H5 => v = .non ∧ ∃ dx, upd H2 ex (rawx ex (b.C.cl c) none) dx = none ∧ dx ≠ ex ∧ H5 = upd (upd (upd H2 ex (rawx ex (b.C.cl c) none)) dx (.xd [("at", .int kk)])) ex (rawx ex (b.C.cl c) (some dx))) E0 :=
    ⟨ex, kk, rfl, upd_same, Nat.lt_of_le_of_lt (show kk.natAbs ≤ 1000000 by omega) (by decide), fun dx h1 h2 => ⟨rfl, dx, h1, h2, rfl⟩⟩
  refine wpAny_call (codeAny_mono (FI.run _ _ _ _ ⟨[Value.ref ex, Value.int kk t], []⟩ [Value.ref ex, Value.int kk t] _ _ E0 ((hr.mono hle).make (b.C.cl c) [Value.int kk t] []) (I4.env0.make (b.C.cl c) [Value.int kk t] []) (hB _ [Value.ref ex, Value.int kk t] I4.kIn rfl) r2 hsp) fun res s5 hq => ?_)
  cases res with
  | error ex2 => exact False.elim hq
  | ok fl =>
    cases fl with
    | next => exact False.elim hq
    | brk => exact False.elim hq
    | cont => exact False.elim hq
    | ret u =>
      have hq' : CE (cxOf (CXW P w K) P w K mg base N qual scope f cd A outer s H E).stack P w K _ _ _ u s5 := hq
      obtain ⟨v, H5, os5, bare5, un5, hok5, rv, hv, dx, nd1, ned, hH5⟩ := id hq'
      obtain ⟨v', H5', I5, rv', hv', hH5'⟩ := I4.after (Q := fun v0 H0 => v0 = v ∧ H0 = H5) ⟨v, H5, os5, bare5, un5, hok5, rv, rfl, rfl⟩
      subst hv' hH5' hv hH5
      have ndH : H2 dx = none := by rw [upd_ne ned] at nd1; exact nd1
      have ndh : h'.get? dx = none := by
        cases z : h'.get? dx with
        | none => rfl
        | some o =>
          have := un5.free dx o z nd1 (fun z => nomatch z)
          rw [upd_ne ned, upd_same] at this; cases this
      have nd2 : s2.heap.get? dx = none := by
        cases z : s2.heap.get? dx with
        | none => rfl
        | some o => rw [hmk.keeps dx o z] at ndh; cases ndh
      obtain ⟨t1, he5⟩ : RawX ex (b.C.cl c) (some dx) s5.heap := (I5.hok ex _ upd_same).1
      obtain ⟨mA, hmA, hrel⟩ : ∃ mA, s5.heap.Ns1 dx mA ∧ ∀ f, RelO (([("at", V.int kk)] : List (Str × V)).lookup f) (mA f) := I5.hok dx (.xd [("at", .int kk)]) (by rw [upd_ne ned, upd_same])
      obtain ⟨tt, htt⟩ : ∃ tt, mA "at" = some (.int kk tt) := by
        have z := hrel "at"
        have z1 : ([("at", V.int kk)] : List (Str × V)).lookup (("at" : Str)) = some (V.int kk) := rfl
        rw [z1] at z
        cases q : mA "at" with
        | none => rw [q] at z; exact z.elim
        | some u => rw [q] at z; obtain ⟨t', rfl⟩ := (show ∃ t', u = Value.int kk t' from z); exact ⟨t', rfl⟩
      have eD : del (del (upd (upd (upd H2 ex (rawx ex (b.C.cl c) none)) dx (.xd [("at", .int kk)])) ex (rawx ex (b.C.cl c) (some dx))) ex) dx = H2 := by
        funext a
        by_cases h1 : a = dx
        · subst h1; rw [del_same, ndH]
        · rw [del_ne h1]
          by_cases h2 : a = ex
          · subst h2; rw [del_same, nH]
          · rw [del_ne h2, upd_ne h2, upd_ne h1, upd_ne h2]
      have I6 := (I5.forget (a := ex) upd_same (fun _ z => by unfold rawx at z; cases z) (fun _ _ z => by unfold rawx at z; cases z) (fun _ z => by unfold rawx at z; cases z) (fun _ z => by unfold rawx at z; cases z)).forget (a := dx) (o := .xd [("at", .int kk)]) (by rw [del_ne ned, upd_ne ned, upd_same]) (fun _ z => nomatch z) (fun _ _ z => nomatch z) (fun _ z => nomatch z) (fun _ z => nomatch z)
      rw [eD] at I6
      obtain rfl : u = Value.none := rv
      refine ⟨rfl, I6.bk _ _ c1, ⟨t1, some dx, he5⟩, ?_⟩
      show wpAny (model P w) (A.deeper (envOfC qual scope s.heap.objs.size f cd)) (leaving (envOfC qual scope s.heap.objs.size f cd) (.ref ex)) (fun _ s'' => CXW P w K outer H s E (.ref ex) s'') (fun e' s'' => CXW P w K outer H s E e' s'') s5
      have fld : Fld s5.heap ex dx (some kk.toNat) := ⟨⟨_, he5, rfl⟩, mA, tt, hmA.ns, by rw [htt, Int.toNat_of_nonneg hkk.1]⟩
      refine first_fld (B := PySem.W.hideAll s5.heap (ex :: frs (envOfC qual scope s.heap.objs.size f cd :: outer))) (a0 := .ref t1) I6.ok.frames (PySem.W.funFrames_hide I6.stack fun en hen a hfa => List.mem_cons_of_mem _ (List.mem_filterMap.mpr ⟨en, hen, hfa⟩)) rfl he5 (fun b o q => PySem.W.of_hideAll _ q) (PySem.W.hideAll_none _ List.mem_cons_self) rfl rfl rfl fld fun h6 fl6 up6 fd6 => ?_
      have gr : Grd (PySem.W.hideAll s5.heap (ex :: frs (envOfC qual scope s.heap.objs.size f cd :: outer))) s.heap s5.heap H2 (envOfC qual scope s.heap.objs.size f cd :: outer) := fun a o q n => by
        by_cases ha : a = ex
        · subst ha; exact .inr ⟨old a hmk.new, nH⟩
        · by_cases hb : a ∈ frs (envOfC qual scope s.heap.objs.size f cd :: outer)
          · exact .inl hb
          · rw [PySem.W.hideAll_get _ q (fun z => (List.mem_cons.mp z).elim ha hb)] at n; cases n
      obtain ⟨u2, hok2, gr2⟩ := left_ok I6 (fun a o q => PySem.W.of_hideAll _ q) fl6.1 gr up6
      exact ⟨ex, .ref (b.C.cl c), .ref t1, _, H2, rfl, I6.os, I6.bare, u2, hok2, fl6, old ex hmk.new, nH, gr2, dx, some kk.toNat, fd6, old dx nd2, ndH, hW H2 (Er.same.trans sm)⟩
end
end MR
namespace MR
open PySem L2 PyProof.Rows PySem.Spec
theorem PS.nox {X : Cx} {st : Stmt} {t : TS} (h : PS X.nox st t) : PS X st t := fun pins s σ H D I hw => wpAny_mono (h pins s σ H D (I.wish _) hw) (fun _ _ q => q.unwish) fun _ _ z => z.elim
def loopX (g : PV → Env → Option Env) (ds : List Nat) (f : Env → Option Out) (xf : Env → Option XV) : List PV → Env → Option XV
  | [], _ => none
  | x :: xs, env => (g x env).bind fun e1 => match xf e1 with
    | some c => some c
    | none => (f e1).bind fun o => match o with
      | .nx e => loopX g ds f xf xs (clr ds e)
      | .ct e => loopX g ds f xf xs (clr ds e)
      | _ => none
def xFor (g : PV → Env → Option Env) (src : Env → Option (List PV)) (ds : List Nat) (f : Env → Option Out) (xf : Env → Option XV) (env : Env) : Option XV := (src env).bind fun xs => loopX g ds f xf xs (clr ds env)
@[simp] theorem xFor_ap (g : PV → Env → Option Env) (src : Env → Option (List PV)) (ds : List Nat) (f : Env → Option Out) (xf : Env → Option XV) (env : Env) : xFor g src ds f xf env = ((src env).bind fun xs => loopX g ds f xf xs (clr ds env)) := id rfl
section
variable {P : Program} {w : World} {K : PySem.W.Frag} {mg : Str → Option Value} {base : Heap} {N : List Str} {qual : Str} {scope : Scope} {f : Addr} {cd : Value} {A : Around} {outer : List PySem.Env} {s : Shared} {H : Hp} {E : XK}
theorem own_passes : PassesOwn (model P w) (cxOf (CXW P w K) P w K mg base N qual scope f cd A outer s H E).A (cxOf (CXW P w K) P w K mg base N qual scope f cd A outer s H E).env (cxOf (CXW P w K) P w K mg base N qual scope f cd A outer s H E).xe := by
  show PassesOwn (model P w) (A.deeper (envOfC qual scope s.heap.objs.size f cd)) (envOfC qual scope s.heap.objs.size f cd) (fun e s' => wpAny (model P w) (A.deeper (envOfC qual scope s.heap.objs.size f cd)) (leaving (envOfC qual scope s.heap.objs.size f cd) e) (fun _ s'' => CXW P w K outer H s E e s'') (fun e' s'' => CXW P w K outer H s E e' s'') s')
  passes_own
theorem xs_for {b : BX} {G : List Nat} {ro : Bool} {tg it : Expr} {body : List Stmt} {g : PV → Env → Option Env} {src : Env → Option (List PV)} {h : Env → Option Out} {xf : Env → Option XV} {pos : Pos} (ds : List Nat)
    (hi : SI (cxOf (CXW P w K) P w K mg base N qual scope f cd A outer s H E) b G true tg it src) (hg : SG (cxOf (CXW P w K) P w K mg base N qual scope f cd A outer s H E) b G tg g)
    (hb : SSs (cxOf (CXW P w K) P w K mg base N qual scope f cd A outer s H E).nox b G G G ro body h) (hx : XSs (cxOf (CXW P w K) P w K mg base N qual scope f cd A outer s H E) (tX b G (WD b E) xf) body)
    (hs : ∀ x, foldedSetIterable it (envOfC qual scope s.heap.objs.size f cd) x = pure x := by intro _; rfl) : XS (cxOf (CXW P w K) P w K mg base N qual scope f cd A outer s H E) (tX b G (WD b E) (xFor g src ds h xf)) (.For tg it body [] pos) := by
  intro pins s1 σ H1 I ⟨Ow, env, c0, Er, hx0, hW⟩
  have hxs : PSs (cxOf (CXW P w K) P w K mg base N qual scope f cd A outer s H E) body (fun _ σ H => tX b G (WD b E) xf [] σ H) := fun pins s1 σ H1 D I ⟨Ow, env, c0, Er, q, hW⟩ => wpAny_mono (hx pins s1 σ H1 I ⟨Ow, env, c0, Er, q, hW⟩) (fun _ _ z => z.elim) fun _ _ z => z
  refine wpAny_mono (ps_for own_passes rfl hi hg (PSs.or (PSs.nox hb) hxs) hs pins s1 σ H1 { nx := fun _ _ => False, rt := fun _ _ => False } I ?_) (fun fl s2 z => ?_) fun _ _ z => z
  rotate_left
  · cases fl with
    | next => obtain ⟨_, _, _, q⟩ := z; exact q
    | ret u => obtain ⟨_, _, _, _, _, q⟩ := z; exact q
    | brk => obtain ⟨_, _, _, q⟩ := z; exact q
    | cont => obtain ⟨_, _, _, q⟩ := z; exact q
  obtain ⟨ps, hps, hl⟩ := bind_some' hx0
  refine ⟨Ow, env, ps, Er, hps, fun J H2 s2 iw => ?_⟩
  refine ⟨fun i m σ2 H3 => m = ps.length - i ∧ i ≤ ps.length ∧ ∃ Ow2 env2, ER b Ow2 G σ2 env2 H3 ∧ Ex (Bs b Ow) H2 (Bs b Ow2) H3 ∧ loopX g ds h xf (ps.drop i) env2 = some c0, ⟨ps.length, by simp, Nat.zero_le _, Ow, clr ds env, (Er.up s2).clr, Ex.refl _ _, by simpa using hl⟩, ?_⟩
  rintro i m σ2 H3 ⟨rfl, hi, Ow2, env2, E2, x2, l2⟩
  obtain ⟨w1, w2⟩ := iw Ow2 H3 (fun z => by cases z) x2 fun a => E2.fresh
  by_cases hlt : i < ps.length
  · rw [List.drop_eq_getElem_cons hlt] at l2
    obtain ⟨e1, he1, l2⟩ := bind_some' l2
    obtain ⟨g1, g2⟩ := w1 i ps[i] (List.getElem?_eq_getElem hlt)
    refine .inr ⟨g1, fun σ' H' => i + 1 ≤ ps.length ∧ ∃ Ow2 env2, ER b Ow2 G σ' env2 H' ∧ Ex (Bs b Ow) H2 (Bs b Ow2) H' ∧ loopX g ds h xf (ps.drop (i + 1)) env2 = some c0, fun σ' H' q => ⟨ps.length - (i + 1), by omega, rfl, q⟩, fun x H' y => ?_⟩
    obtain ⟨s3, r3⟩ := g2 x H' y
    refine ⟨Ow2, env2, _, e1, E2.up s3, r3, he1, fun σ3 E3 => ?_⟩
    cases q : xf e1 with
    | some c =>
      rw [q] at l2
      cases l2
      exact .inr ⟨Ow2, e1, _, E3, q, hW⟩
    | none =>
      rw [q] at l2
      obtain ⟨o, ho, l2⟩ := bind_some' l2
      refine .inl ⟨Ow2, e1, o, E3, ho, ?_⟩
      cases o with
      | nx e' => exact fun Ow' σ' H'' E' x' => ⟨hlt, Ow', _, E'.clr, x2.trans ((Ex.of_same s3).trans x'), l2⟩
      | ct e' => exact fun Ow' σ' H'' E' x' => ⟨hlt, Ow', _, E'.clr, x2.trans ((Ex.of_same s3).trans x'), l2⟩
      | bk e' => cases l2
      | rt p => cases l2
  · have e : i = ps.length := by omega
    subst e
    rw [List.drop_length] at l2
    cases l2
end
end MR
namespace MR
open PySem L2
@[simp] def absV : PV → Option PV
  | .int i => some (.int (if i < 0 then -i else i))
  | _ => none
end MR
namespace MR
open PySem PySem.Spec PyProof.Rows L2
section
variable {X : Cx} {b : BX} {G : List Nat} {p pos : Pos} {m1 : Md} {e : Expr} {f : Env → Option PV}
theorem boot_absB : bootBuiltins (Str.ofString "abs") = some (.builtin "abs") := by kernel_rfl
theorem call_abs1 : CallR X (.builtin "abs") (fun xs H Q => ∃ i : Int, xs = [.int i] ∧ Q (.int (if i < 0 then -i else i)) H) := by
  intro pins s σ H xs us Q I r h
  obtain ⟨i, rfl, q⟩ := h
  obtain ⟨u, rfl, t, rfl⟩ := vals1 r
  exact PyProof.Rows.call_abs_int fun u tk => ⟨.int _, H, I.tok _, ⟨_, rfl⟩, q⟩
theorem se_abs (hm : X.mg "abs" = none) (h : SE X b G m1 e f) (hg : Gl X "abs" := by rfl) (he : starEach [e] X.env = (false, eval e X.env) :: starEach [] X.env := by rfl) : SE X b G .val (.Call (.Name "abs" p) [e] [] pos) (b1 absV f) := by
  refine se_blt call_abs1 (fun Ow H v1 p1 p Q hn r1 e k => ?_) hm boot_absB h hg (by decide) (by decide) he
  unfold absV at e
  split at e
  · cases e; rw [r1.int]; exact ⟨_, rfl, k _ H (Same.refl _) (.int _)⟩
  · cases e
end
end MR
namespace MR
open PySem L2
def bStrs (ys : List Str) (env : Env) : Option (List PV) := some (ys.map PV.str)
@[simp] theorem bStrs_ap (ys : List Str) (env : Env) : bStrs ys env = some (ys.map PV.str) := id rfl
def strsOf : List Expr → Option (List Str)
  | [] => some []
  | .Constant (.str y) _ _ :: es => (strsOf es).map (y :: ·)
  | _ => none
theorem sa_strs {X : Cx} {b : BX} {G : List Nat} : ∀ {es : List Expr} {ys : List Str}, strsOf es = some ys → SA X b G false es (bStrs ys)
  | [], ys, h => by
    cases h
    exact sa_nil
  | e :: es, ys, h => by
    cases e with
    | Constant c j p =>
      cases c with
      | str y =>
        obtain ⟨zs, h1, rfl⟩ := Option.map_eq_some_iff.mp h
        exact sa_cons (f := bC (.str y)) (g := bStrs zs) se_str (sa_strs h1) rfl
      | _ => cases h
    | _ => cases h
def isSetS : List Stmt → Option (Str × List Str)
  | .Assign [.Name x _] (.List es _) _ :: _ => (strsOf es).map fun ys => (x, ys)
  | _ => none
theorem set_strs {B : List Stmt} {x : Str} {ys : List Str} (h : isSetS B = some (x, ys)) : ∃ es p1 p2 p3, strsOf es = some ys ∧ B = .Assign [.Name x p1] (.List es p2) p3 :: B.tail := by
  unfold isSetS at h
  split at h
  · rename_i y p1 es p2 p3 r
    obtain ⟨zs, h1, h2⟩ := Option.map_eq_some_iff.mp h
    cases h2
    exact ⟨es, p1, p2, p3, h1, rfl⟩
  · cases h
def isCatS : List Stmt → Option (Str × Str × List Str)
  | .Assign [.Name x _] (.BinOp (.Name y _) .Add (.List es _) _) _ :: _ => (strsOf es).map fun ys => (x, y, ys)
  | _ => none
theorem cat_strs {B : List Stmt} {x y : Str} {ys : List Str} (h : isCatS B = some (x, y, ys)) : ∃ es p1 p2 p3 p4 p5, strsOf es = some ys ∧ B = .Assign [.Name x p1] (.BinOp (.Name y p2) .Add (.List es p3) p4) p5 :: B.tail := by
  unfold isCatS at h
  split at h
  · obtain ⟨zs, h1, h2⟩ := Option.map_eq_some_iff.mp h
    cases h2
    exact ⟨_, _, _, _, _, _, h1, rfl⟩
  · cases h
end MR
namespace My
open PySem L2 MR
noncomputable section
def fb__law_mixed := (sRet (b2 modV (b2 addV (b2 addV (b2 mulV (bV 0) (bC (.int 48271))) (b2 mulV (b2 mulV (bV 1) (bV 1)) (bC (.int 69621)))) (bC (.int 5))) (bC (.int 2147483647))))
def mi__law_mixed := mDef 2 2 false fb__law_mixed
def lb__law_patterns_1 := (sSet 3 (b2 addV (bV 3) (b2 ixP (bC (.str "u-x")) (b2 modV (b2 divV (bV 0) (b2 addV (b2 addV (bC (.int 7)) (b2 mulV (bC (.int 5)) (bV 2))) (b2 mulV (bC (.int 11)) (bV 4)))) (bC (.int 3))))))
def lb__law_patterns_2 := (sSeq (sSet 3 (bC (.str ""))) (sSeq (sFor (gN 4) (iR1 (b2 addV (bC (.int 1)) (b2 modV (b2 divV (bV 0) (b2 addV (bC (.int 4)) (b2 mulV (bC (.int 3)) (bV 2)))) (bC (.int 4))))) [4] lb__law_patterns_1) (sIf (tV (b2 notInQ (bV 3) (bV 1))) (sMut1 appV 1 (bV 3)) sNx)))
def fb__law_patterns := (sSeq (sSet 1 (bLst bNil)) (sSeq (sFor (gN 2) (iR1 (b2 addV (bC (.int 1)) (b2 modV (bV 0) (bC (.int 4))))) [2, 3, 4] lb__law_patterns_2) (sRet (b1 tupleV (bV 1)))))
def mi__law_patterns := mDef 5 1 false fb__law_patterns
def lb__law_metre_1 := (sSeq (sSet 4 (bCall mi__law_mixed (bCons (bV 3) (bCons (bV 2) bNil)))) (sMut1 appV 1 (bTup (bCons (bCall mi__law_patterns (bCons (b2 divV (bV 4) (bC (.int 2))) bNil)) (bCons (b2 eqQ (b2 modV (bV 4) (bC (.int 2))) (bC (.int 1))) bNil)))))
def fb__law_metre := (sSeq (sSet 1 (bLst bNil)) (sSeq (sFor (gT [2, 3]) (iE2 (bV 0)) [2, 3, 4] lb__law_metre_1) (sRet (b1 tupleV (bV 1)))))
def mi__law_metre := mDef 5 1 false fb__law_metre
def lb__law_words_1 := (sSeq (sMut1 appV 1 (b2 joinV2 (bC (.str "/")) (b1 listV (bV 2)))) (sIf (tV (bV 3)) (sMut1 appV 1 (bC (.str "|"))) sNx))
def fb__law_words := (sSeq (sSet 1 (bLst bNil)) (sSeq (sFor (gT [2, 3]) (iV (bV 0)) [2, 3] lb__law_words_1) (sRet (bV 1))))
def mi__law_words := mDef 4 1 false fb__law_words
def fb__law_bad := (sSeq (sSet 1 (bLst (bStrs ["", "U", "u-y", "uu-uu", "x/u/-/uu/--", "u/u", "ux/u/ux", "/", "u/", "/u", "u//-", "u|", "|u", "||", "_"]))) (sSeq (sSet 1 (b2 catV (bV 1) (bLst (bStrs ["u-/--/u-", "-----", "u.-", "u/uuuuu", "0"])))) (sRet (b2 ixP (bV 1) (b2 modV (bV 0) (bC (.int 20)))))))
def mi__law_bad := mDef 2 1 false fb__law_bad
def ce__law_spoiled_1 := (bV 0)
def cc__law_spoiled_2 := (tV (b2 neQ (bV 0) (bC (.str "|"))))
def fb__law_spoiled := (sSeq (sSet 2 (b2 modV (b2 divV (bV 1) (bC (.int 6))) (b1 lenV (bV 0)))) (sSeq (sSet 3 (bCall mi__law_bad (bCons (b2 divV (bV 1) (bC (.int 6))) bNil))) (sSeq (sIf (tV (b2 eqQ (b2 modV (bV 1) (bC (.int 6))) (bC (.int 0)))) (sRet (bTup (bCons (b2 catV (b2 catV (bSl (bV 0) oN (oS (bV 2))) (bLst (bCons (bV 3) bNil))) (bSl (bV 0) (oS (b2 addV (bV 2) (bC (.int 1)))) oN)) (bCons (bV 2) bNil)))) sNx) (sSeq (sIf (tV (b2 eqQ (b2 modV (bV 1) (bC (.int 6))) (bC (.int 1)))) (sRet (bTup (bCons (b2 catV (b2 catV (bSl (bV 0) oN (oS (bV 2))) (bLst (bCons (bV 3) bNil))) (bSl (bV 0) (oS (bV 2)) oN)) (bCons (bV 2) bNil)))) sNx) (sSeq (sIf (tV (b2 eqQ (b2 modV (bV 1) (bC (.int 6))) (bC (.int 2)))) (sRet (bTup (bCons (b2 catV (bV 0) (bLst (bCons (bV 3) bNil))) (bCons (b1 lenV (bV 0)) bNil)))) sNx) (sSeq (sIf (tV (b2 eqQ (b2 modV (bV 1) (bC (.int 6))) (bC (.int 3)))) (sRet (bTup (bCons (b2 catV (bLst (bCons (bC (.str "|")) bNil)) (bV 0)) (bCons (bC (.int 0)) bNil)))) sNx) (sSeq (sIf (tV (b2 eqQ (b2 modV (bV 1) (bC (.int 6))) (bC (.int 4)))) (sRet (bTup (bCons (b2 catV (bV 0) (bLst (bCons (bC (.str "|")) (bCons (bC (.str "|")) bNil)))) (bCons (b2 addV (b1 lenV (bV 0)) (b1 intV (b2 neQ (b2 ixP (bV 0) (b1 negV (bC (.int 1)))) (bC (.str "|"))))) bNil)))) sNx) (sRet (bTup (bCons (b2 catV (bV 0) (b2 repV (bLst (bCons (bC (.str "u")) bNil)) (b2 subV (bC (.int 13)) (b1 lenV (bComp [none] (iV (bV 0)) (gN 0) cc__law_spoiled_2 ce__law_spoiled_1))))) (bCons (bC .non) bNil)))))))))))
def mi__law_spoiled := mDef 4 2 false fb__law_spoiled
def ce_is_pattern_1 := (b2 inQ (bV 0) (bC (.str "u-x")))
def fb_is_pattern := (sRet (bAnd (bChain (fun i j => decide (i ≤ j)) (fun i j => decide (i ≤ j)) (bC (.int 1)) (b1 lenV (bV 0)) (bC (.int 4))) (b1 allV (bComp [none] (iV (bV 0)) (gN 0) tTrue ce_is_pattern_1))))
def mi_is_pattern := mDef 1 1 false fb_is_pattern
def ce_are_patterns_1 := (bCall mi_is_pattern (bCons (bV 0) bNil))
def fb_are_patterns := (sSeq (sIf (tO (tV (b2 (cmpV fun i j => decide (j < i)) (b1 lenV (bV 0)) (bC (.int 4)))) (tV (b2 neQ (b1 lensetV (bV 0)) (b1 lenV (bV 0))))) (sRet (bC (.bl false))) sNx) (sRet (b1 allV (bComp [none] (iV (bV 0)) (gN 0) tTrue ce_are_patterns_1))))
def mi_are_patterns := mDef 1 1 false fb_are_patterns
def lb_read_metre_1 := (sSeq (sSet 4 (b1 tupleV (b2 splitV (bV 3) (bC (.str "/"))))) (sIf (tA (tV (b2 eqQ (bV 3) (bC (.str "|")))) (tA (tV (b2 (cmpV fun i j => decide (j < i)) (b1 lenV (bV 1)) (bC (.int 0)))) (tN (tV (b2 ixP (b2 ixP (bV 1) (b1 negV (bC (.int 1)))) (bC (.int 1))))))) (sMut2 putV 1 (b1 negV (bC (.int 1))) (bTup (bCons (b2 ixP (b2 ixP (bV 1) (b1 negV (bC (.int 1)))) (bC (.int 0))) (bCons (bC (.bl true)) bNil)))) (sIf (tA (tV (bCall mi_are_patterns (bCons (bV 4) bNil))) (tV (b2 ltV2 (b1 lenV (bV 1)) (bC (.int 12))))) (sMut1 appV 1 (bTup (bCons (bV 4) (bCons (bC (.bl false)) bNil)))) sNo)))
def lx_read_metre_2 := (xSeq (sSet 4 (b1 tupleV (b2 splitV (bV 3) (bC (.str "/"))))) (xIf (tA (tV (b2 eqQ (bV 3) (bC (.str "|")))) (tA (tV (b2 (cmpV fun i j => decide (j < i)) (b1 lenV (bV 1)) (bC (.int 0)))) (tN (tV (b2 ixP (b2 ixP (bV 1) (b1 negV (bC (.int 1)))) (bC (.int 1))))))) xNo (xIf (tA (tV (bCall mi_are_patterns (bCons (bV 4) bNil))) (tV (b2 ltV2 (b1 lenV (bV 1)) (bC (.int 12))))) xNo (xRaiseN (bCons (bV 2) bNil) 12))))
def fb_read_metre := (sSeq (sSet 1 (bLst bNil)) (sSeq (sFor (gT [2, 3]) (iE2 (b2 splitV (bV 0) (bC (.str " ")))) [2, 3, 4] lb_read_metre_1) (sRet (b1 tupleV (bV 1)))))
def mi_read_metre := mDef 5 1 false fb_read_metre
def xb_read_metre := (xSeq (sSet 1 (bLst bNil)) (xFor (gT [2, 3]) (iE2 (b2 splitV (bV 0) (bC (.str " ")))) [2, 3, 4] lb_read_metre_1 lx_read_metre_2))
def xi_read_metre := xDef 5 1 xb_read_metre
def tb__law_told_1 := (sSet 2 (bCall mi_read_metre (bCons (bV 0) bNil)))
def tx__law_told_2 := (xCall (bCons (bV 0) bNil) xi_read_metre)
def fb__law_told := (sSeq (sSet 1 (bC .non)) (sSeq (sSet 2 (bC .non)) (sTry tb__law_told_1 tx__law_told_2 12 (onN fun n => (.tup [(.str "none"), (.int (n : Int))])) (sSeq (sIf (tV (b2 isN (bV 1) (bC .non))) (sRet (bTup (bCons (bC (.str "metre")) (bCons (bV 2) bNil)))) sNx) sNo))))
def mi__law_told := mDef 4 1 false fb__law_told
def fb__law_cell_at := (sSeq (sIf (tV (b2 ltV2 (bV 1) (b1 lenV (bV 0)))) (sRet (b2 ixP (bV 0) (bV 1))) sNx) (sRet (bC (.int 0))))
def mi__law_cell_at := mDef 2 2 false fb__law_cell_at
def fb_law := (sSeq (sSet 1 (bCall mi__law_metre (bCons (b2 addV (bSl (bV 0) (oS (bC (.int 2))) (oS (bC (.int 14)))) (bSl (bLst (bCons (bC (.int 0)) bNil)) (oS (b2 divV (b1 lenV (bV 0)) (bC (.int 3)))) oN)) bNil))) (sSeq (sSet 2 (bCall mi__law_words (bCons (bV 1) bNil))) (sSeq (sSet 3 (b2 joinV2 (bC (.str " ")) (bV 2))) (sSeq (sIf (tO (tV (b2 neQ (bCall mi__law_told (bCons (bV 3) bNil)) (bTup (bCons (bC (.str "metre")) (bCons (bV 1) bNil))))) (tV (b2 neQ (bCall mi__law_told (bCons (bC (.str "")) bNil)) (bTup (bCons (bC (.str "none")) (bCons (bC (.int 0)) bNil)))))) (sRet (bC (.bl false))) sNx) (sSeq (sUnp (gT [4, 5]) (bCall mi__law_spoiled (bCons (bV 2) (bCons (b1 absV (bCall mi__law_cell_at (bCons (bV 0) (bCons (bC (.int 0)) bNil)))) bNil)))) (sSeq (sIf (tV (b2 isN (bV 5) (bC .non))) (sSet 5 (b2 subV (b1 lenV (bV 4)) (bC (.int 1)))) sNx) (sSeq (sSet 6 (b2 joinV2 (bC (.str " ")) (bV 4))) (sSeq (sIf (tO (tV (b2 neQ (bCall mi__law_told (bCons (bV 6) bNil)) (bTup (bCons (bC (.str "none")) (bCons (bV 5) bNil))))) (tV (b2 neQ (bCall mi__law_told (bCons (bV 6) bNil)) (bTup (bCons (bC (.str "none")) (bCons (bV 5) bNil)))))) (sRet (bC (.bl false))) sNx) (sSeq (sIf (tV (b2 neQ (bCall mi__law_told (bCons (b2 addV (bV 3) (bC (.str " "))) bNil)) (bTup (bCons (bC (.str "none")) (bCons (b1 lenV (bV 2)) bNil))))) (sRet (bC (.bl false))) sNx) (sRet (b2 eqQ (bCall mi__law_told (bCons (bV 3) bNil)) (bTup (bCons (bC (.str "metre")) (bCons (bV 1) bNil))))))))))))))
def mi_law := mDef 7 1 false fb_law
end
end My
namespace My
open PySem L2 MR
theorem loopS_ex {α S : Type} {g : PV → MR.Env → Option MR.Env} {ds : List Nat} {body : MR.Env → Option Out} (c : α → PV) (E : S → MR.Env) (I : List α → S → Prop) (hh : ∀ y ys s, I (y :: ys) s → ∃ s', I ys s' ∧ turn g ds body (c y) (E s) = some (E s')) : ∀ (ys : List α) (s : S), I ys s →
    ∃ s', I [] s' ∧ loopS g ds body (ys.map c) (E s) = some (.nx (E s'))
  | [], s, i => ⟨s, i, rfl⟩
  | y :: ys, s, i => by
    obtain ⟨s1, i1, h1⟩ := hh y ys s i
    obtain ⟨s2, i2, h2⟩ := loopS_ex c E I hh ys s1 i1
    exact ⟨s2, i2, by rw [List.map_cons, loopS_turn h1, h2]⟩
theorem mi_mixed (c k : Int) (h : smI k = true) : mi__law_mixed [.int c, .int k] = some (.int (mixed c k)) := by
  have h1 : smI 48271 = true := smI_of (by decide) (by decide)
  have h2 : smI 69621 = true := smI_of (by decide) (by decide)
  simp [mi__law_mixed, fb__law_mixed, h, h1, h2, mixed]
theorem smI_nat {k : Nat} (h : k < 1000) : smI (k : Int) = true := smI_of (by omega) (by omega)
theorem inP_strs (x : Str) (cs : List Str) : inP (.str x) (.lst (cs.map .str)) = some (decide (x ∈ cs)) := by
  have h1 : (cs.map PV.str).all flatP = true := by rw [List.all_map, List.all_eq_true]; exact fun _ _ => rfl
  have h2 : ((cs.map PV.str).any fun y => eqF y (.str x)) = decide (x ∈ cs) := by
    rw [List.any_map]
    induction cs with
    | nil => simp
    | cons c r ih =>
      rw [List.any_cons, ih (by rw [List.all_map, List.all_eq_true]; exact fun _ _ => rfl)]
      by_cases e : x = c
      · subst e; simp [eqF]
      · have e' : ¬ c = x := fun z => e z.symm
        simp [eqF, e, e']
  simp [inP, flatP, h1, h2]
structure PatOk (p : Str) : Prop where
  ge : 1 ≤ p.length
  le : p.length ≤ 4
  cs : ∀ c ∈ p.cps.toList, c = 117 ∨ c = 45 ∨ c = 120
theorem PatOk.ok {p : Str} (h : PatOk p) : PyData.strOk p = true := by
  unfold PyData.strOk
  rw [← Array.all_toList, List.all_eq_true]
  intro c hc
  rcases h.cs c hc with e | e | e <;> subst e <;> decide
structure PatsOk (ps : List Str) : Prop where
  ne : ps ≠ []
  le : ps.length ≤ 4
  ok : ∀ p ∈ ps, PatOk p
  nd : ps.Nodup
theorem ux_at {i : Int} (h0 : 0 ≤ i) (h1 : i < 3) : ∃ c, (c = 117 ∨ c = 45 ∨ c = 120) ∧ atI (("u-x" : Str).cps.toList) i = some c := by
  have e : ("u-x" : Str).cps.toList = [117, 45, 120] := by decide +kernel
  obtain ⟨k, rfl⟩ : ∃ k : Nat, i = k := ⟨i.toNat, by omega⟩
  rw [e]
  have hk : k = 0 ∨ k = 1 ∨ k = 2 := by omega
  rcases hk with rfl | rfl | rfl
  · exact ⟨117, .inl rfl, rfl⟩
  · exact ⟨45, .inr (.inl rfl), rfl⟩
  · exact ⟨120, .inr (.inr rfl), rfl⟩
theorem ux_len : ("u-x" : Str).length ≤ 1000000 := by decide +kernel
theorem slen_app (a b : Str) : (a ++ b).length = a.length + b.length := by
  show (a.cps ++ b.cps).size = _
  rw [Array.size_append]
  rfl
theorem marks_turn {n k : Int} (hn : 0 ≤ n) (hk0 : 0 ≤ k) (hk : k < 4) {L : PV} {j : Nat} (hj : j < 4) {x : Str} (hx : x.length < 1000) :
    ∃ c, (c = 117 ∨ c = 45 ∨ c = 120) ∧ turn (gN 4) [4] lb__law_patterns_1 (.int j) [some (.int n), some L, some (.int k), some (.str x), none] = some [some (.int n), some L, some (.int k), some (.str (x ++ ⟨#[c]⟩)), none] := by
  obtain ⟨c, hc, h⟩ := ux_at (i := n / (7 + 5 * k + 11 * (j : Int)) % 3) (by omega) (by omega)
  have h5 : smI 5 = true := smI_of (by decide) (by decide)
  have h11 : smI 11 = true := smI_of (by decide) (by decide)
  have hd : 0 < 7 + 5 * k + 11 * (j : Int) ∧ 7 + 5 * k + 11 * (j : Int) < 1073741824 := by omega
  have hl : x.length + (⟨#[c]⟩ : Str).length ≤ 1000000 := by
    have : (⟨#[c]⟩ : Str).length = 1 := rfl
    omega
  refine ⟨c, hc, ?_⟩
  simp [turn_ap, lb__law_patterns_1, h, h5, h11, hd, ux_len, hl]
theorem marks_run {n k : Int} (hn : 0 ≤ n) (hk0 : 0 ≤ k) (hk : k < 4) {L : PV} {t : Nat} (ht : 1 ≤ t) (ht4 : t ≤ 4) :
    ∃ x, PatOk x ∧ loopS (gN 4) [4] lb__law_patterns_1 (rngV 0 (t : Int)) [some (.int n), some L, some (.int k), some (.str ("" : Str)), none] = some (.nx [some (.int n), some L, some (.int k), some (.str x), none]) := by
  have e0 : ("" : Str).length = 0 := by decide +kernel
  have e1 : ("" : Str).cps.toList = [] := by decide +kernel
  obtain ⟨x, ⟨i1, i2, _⟩, h⟩ := loopS_ex (g := gN 4) (ds := [4]) (body := lb__law_patterns_1) (fun j : Nat => PV.int (j : Nat)) (fun x : Str => [some (.int n), some L, some (.int k), some (.str x), none])
    (fun r x => x.length + r.length = t ∧ (∀ c ∈ x.cps.toList, c = 117 ∨ c = 45 ∨ c = 120) ∧ ∀ j ∈ r, j < 4)
    (fun j r x ⟨i1, i2, i3⟩ => by
      simp only [List.length_cons] at i1
      obtain ⟨c, hc, h⟩ := marks_turn (L := L) hn hk0 hk (i3 j List.mem_cons_self) (x := x) (by omega)
      refine ⟨x ++ ⟨#[c]⟩, ⟨?_, ?_, fun z hz => i3 z (List.mem_cons_of_mem _ hz)⟩, h⟩
      · have : (⟨#[c]⟩ : Str).length = 1 := rfl
        rw [slen_app]
        omega
      · intro d hd
        have : (x ++ (⟨#[c]⟩ : Str)).cps.toList = x.cps.toList ++ [c] := by
          show (x.cps ++ #[c]).toList = _
          simp
        rw [this] at hd
        rcases List.mem_append.mp hd with z | z
        · exact i2 d z
        · rw [List.mem_singleton] at z; rw [z]; exact hc)
    (List.range t) ("" : Str) ⟨by simp [e0], (by rw [e1]; exact fun c hc => by cases hc), (fun j hj => by have := List.mem_range.mp hj; omega)⟩
  simp only [List.length_nil, Nat.add_zero] at i1
  exact ⟨x, ⟨by omega, by omega, i2⟩, by rw [rngV_nat]; exact h⟩
theorem pats_turn {n : Int} (hn : 0 ≤ n) {L : List Str} (hL : L.length < 1000) {k : Nat} (hk : k < 4) :
    ∃ x, PatOk x ∧ turn (gN 2) [2, 3, 4] lb__law_patterns_2 (.int k) [some (.int n), some (.lst (L.map .str)), none, none, none] = some [some (.int n), some (.lst ((if x ∈ L then L else L ++ [x]).map .str)), none, none, none] := by
  obtain ⟨t, ht, et⟩ : ∃ t : Nat, (1 ≤ t ∧ t ≤ 4) ∧ 1 + n / (4 + 3 * (k : Int)) % 4 = t := ⟨(1 + n / (4 + 3 * (k : Int)) % 4).toNat, by omega, by omega⟩
  obtain ⟨x, hx, h⟩ := marks_run (n := n) (k := k) (L := .lst (L.map .str)) hn (by omega) (by omega) ht.1 ht.2
  have h3 : smI 3 = true := smI_of (by decide) (by decide)
  have hd : 0 < 4 + 3 * (k : Int) ∧ 4 + 3 * (k : Int) < 1073741824 := by omega
  have hr : rgI (t : Int) = true := rgI_of (by omega) (by omega)
  have hin := inP_strs x L
  have hl : L.length < 1000000 := by omega
  refine ⟨x, hx, ?_⟩
  by_cases hm : x ∈ L
  · simp [turn_ap, lb__law_patterns_2, h3, hd, et, hr, h, hin, hm, hl]
  · simp [turn_ap, lb__law_patterns_2, h3, hd, et, hr, h, hin, hm, hl]
theorem mi_patterns {n : Int} (hn : 0 ≤ n) : ∃ ps, PatsOk ps ∧ mi__law_patterns [.int n] = some (.tup (ps.map .str)) := by
  obtain ⟨t, ht, et⟩ : ∃ t : Nat, (1 ≤ t ∧ t ≤ 4) ∧ 1 + n % 4 = t := ⟨(1 + n % 4).toNat, by omega, by omega⟩
  obtain ⟨L, ⟨i1, i2, i3, i4, _⟩, h⟩ := loopS_ex (g := gN 2) (ds := [2, 3, 4]) (body := lb__law_patterns_2) (fun k : Nat => PV.int (k : Nat)) (fun L : List Str => [some (.int n), some (.lst (L.map .str)), none, none, none])
    (fun r L => (∀ p ∈ L, PatOk p) ∧ L.Nodup ∧ L.length + r.length ≤ t ∧ (r.length = t ∨ L ≠ []) ∧ ∀ k ∈ r, k < 4)
    (fun k r L ⟨i1, i2, i3, i4, i5⟩ => by
      simp only [List.length_cons] at i3 i4
      obtain ⟨x, hx, h⟩ := pats_turn hn (L := L) (by omega) (i5 k List.mem_cons_self)
      refine ⟨_, ⟨?_, ?_, ?_, .inr ?_, fun z hz => i5 z (List.mem_cons_of_mem _ hz)⟩, h⟩
      · intro p hp
        split at hp
        · exact i1 p hp
        · rcases List.mem_append.mp hp with z | z
          · exact i1 p z
          · rw [List.mem_singleton] at z; rw [z]; exact hx
      · split
        · exact i2
        · rename_i hm
          rw [List.nodup_append]
          exact ⟨i2, by simp, fun a ha b hb e => by rw [List.mem_singleton] at hb; subst hb e; exact hm ha⟩
      · split
        · omega
        · rw [List.length_append, List.length_singleton]; omega
      · split
        · rename_i hm
          intro e
          rw [e] at hm
          cases hm
        · simp)
    (List.range t) [] ⟨(fun p hp => by cases hp), by simp, by simp, .inl (by simp), (fun k hk => by have := List.mem_range.mp hk; omega)⟩
  have hr : rgI (t : Int) = true := rgI_of (by omega) (by omega)
  have hn' : (0 : Int) < 4 := by decide
  rw [← rngV_nat] at h
  simp only [List.map_nil] at h
  refine ⟨L, ⟨?_, ?_, i1, i2⟩, ?_⟩
  · rcases i4 with z | z
    · simp at z; omega
    · exact z
  · simp at i3; omega
  · simp [mi__law_patterns, fb__law_patterns, et, hr, h]
noncomputable def pats (n : Nat) : List Str := (mi_patterns (n := (n : Int)) (by omega)).choose
theorem pats_ok (n : Nat) : PatsOk (pats n) := (mi_patterns (n := (n : Int)) (by omega)).choose_spec.1
theorem pats_mi (n : Nat) : mi__law_patterns [.int n] = some (.tup ((pats n).map .str)) := (mi_patterns (n := (n : Int)) (by omega)).choose_spec.2
abbrev Slot := List Str × Bool
def slP (s : Slot) : PV := .tup [.tup (s.1.map .str), .bl s.2]
def mP (m : List Slot) : PV := .tup (m.map slP)
def MetOk (m : List Slot) : Prop := ∀ s ∈ m, PatsOk s.1
theorem mi_metre (cs : List Int) (hc : cs.length < 1000) : ∃ m, MetOk m ∧ m.length = cs.length ∧ mi__law_metre [.lst (cs.map .int)] = some (mP m) := by
  obtain ⟨m, ⟨i1, i2, _⟩, h⟩ := loopS_ex (g := gT [2, 3]) (ds := [2, 3, 4]) (body := lb__law_metre_1) (fun y : Int × Nat => PV.tup [.int (y.2 : Nat), .int y.1]) (fun m : List Slot => [some (.lst (cs.map .int)), some (.lst (m.map slP)), none, none, none])
    (fun r m => MetOk m ∧ m.length + r.length = cs.length ∧ ∀ y ∈ r, y.2 < 1000)
    (fun y r m ⟨i1, i2, i3⟩ => by
      simp only [List.length_cons] at i2
      have h1 := mi_mixed y.1 y.2 (smI_nat (i3 y List.mem_cons_self))
      have h0 := mixed_ge y.1 y.2
      obtain ⟨q, eq⟩ : ∃ q : Nat, mixed y.1 y.2 / 2 = q := ⟨(mixed y.1 y.2 / 2).toNat, by omega⟩
      have h2 := pats_mi q
      have hl : m.length < 1000000 := by omega
      refine ⟨m ++ [(pats q, decide (mixed y.1 y.2 % 2 = 1))], ⟨?_, by simp; omega, fun z hz => i3 z (List.mem_cons_of_mem _ hz)⟩, ?_⟩
      · intro s hs
        rcases List.mem_append.mp hs with z | z
        · exact i1 s z
        · rw [List.mem_singleton] at z; rw [z]; exact pats_ok q
      · simp [turn_ap, lb__law_metre_1, h1, eq, h2, hl, slP])
    cs.zipIdx [] ⟨(fun s hs => by cases hs), by simp, (fun y hy => by
      have := List.snd_lt_of_mem_zipIdx hy
      omega)⟩
  simp only [List.length_nil, Nat.add_zero] at i2
  refine ⟨m, i1, i2, ?_⟩
  have en : enumV 0 (cs.map .int) = cs.zipIdx.map fun y : Int × Nat => PV.tup [.int (y.2 : Nat), .int y.1] := enumV_map _ _ _
  simp only [List.map_nil] at h
  simp [mi__law_metre, fb__law_metre, en, h, mP]
theorem mP_ok {m : List Slot} (h : MetOk m) : okP 3 (mP m) := by
  unfold mP
  simp only [okP, List.mem_map]
  rintro x ⟨s, hs, rfl⟩
  unfold slP
  simp only [okP, List.mem_cons, List.not_mem_nil, or_false]
  rintro x (rfl | rfl)
  · simp only [okP, List.mem_map]
    rintro x ⟨p, hp, rfl⟩
    simp only [okP]
    exact ((h s hs).ok p hp).ok
  · simp [okP]
end My
namespace My
open PySem
def isAt (x : Str) (c i : Nat) : Bool := decide (x.cps.toList[i]? = some c)
theorem occ_run (x : Str) (c limit : Nat) : ∀ (n a : Nat) (st : Array Nat × Nat), st.2 ≤ a → st.1.size + n ≤ limit →
    (forIn (List.range' a n) st (StrLaws.occBody x ⟨#[c]⟩ x.length limit)).run.fst.toList = st.1.toList ++ (List.range' a n).filter (isAt x c)
  | 0, a, st, _, _ => by simp
  | n + 1, a, st, h1, h2 => by
    rw [List.range'_succ, List.forIn_cons]
    unfold StrLaws.occBody
    have hs := StrLaws.subAt_one x c a
    by_cases h : x.cps.toList[a]? = some c
    · obtain ⟨h3, h4⟩ := hs.mpr h
      rw [if_pos ⟨⟨⟨by omega, h1⟩, h3⟩, h4⟩]
      have ih := occ_run x c limit n (a + 1) (st.1.push a, a + (⟨#[c]⟩ : Str).length) (by show a + 1 ≤ a + 1; omega) (by simp; omega)
      show (forIn (List.range' (a + 1) n) (st.1.push a, a + (⟨#[c]⟩ : Str).length) (StrLaws.occBody x ⟨#[c]⟩ x.length limit)).run.fst.toList = _
      rw [ih, List.filter_cons]
      have hi : isAt x c a = true := by simp [isAt, h]
      rw [if_pos hi]
      simp
    · rw [if_neg (fun z => h (hs.mp ⟨z.1.2, z.2⟩))]
      have ih := occ_run x c limit n (a + 1) (st.1, st.2) (by show st.2 ≤ a + 1; omega) (by show st.1.size + n ≤ limit; omega)
      show (forIn (List.range' (a + 1) n) (st.1, st.2) (StrLaws.occBody x ⟨#[c]⟩ x.length limit)).run.fst.toList = _
      rw [ih, List.filter_cons]
      have hi : isAt x c a = false := decide_eq_false h
      rw [if_neg (by rw [hi]; exact Bool.false_ne_true)]
theorem occ_all (x : Str) (c : Nat) : Builtin.Str.occurrences x ⟨#[c]⟩ 0 x.length (x.length + 1) = (List.range' 0 (x.length + 1)).filter (isAt x c) := by
  rw [StrLaws.occ_eq, occ_run x c (x.length + 1) (x.length + 1 - 0) 0 (#[], 0) (Nat.le_refl _) (by simp)]
  simp
def spl (c : Nat) : List Nat → List (List Nat)
  | [] => [[]]
  | a :: l => if a = c then [] :: spl c l else match spl c l with
    | p :: ps => (a :: p) :: ps
    | [] => [[a]]
theorem spl_ne (c : Nat) : ∀ l : List Nat, ∃ p ps, spl c l = p :: ps
  | [] => ⟨_, _, rfl⟩
  | a :: l => by
    obtain ⟨p, ps, e⟩ := spl_ne c l
    unfold spl
    split
    · exact ⟨_, _, rfl⟩
    · rw [e]; exact ⟨_, _, rfl⟩
def glue (w : List Nat) : List (List Nat) → List (List Nat)
  | p :: ps => (w ++ p) :: ps
  | [] => [w]
theorem partsFrom_spl (x : Str) (c : Nat) : ∀ (n a b : Nat), b + n = x.length → a ≤ b → (StrLaws.partsFrom x 1 a ((List.range' b (n + 1)).filter (isAt x c))).map (fun p => p.cps.toList) = glue ((x.cps.toList.drop a).take (b - a)) (spl c (x.cps.toList.drop b))
  | 0, a, b, h, hab => by
    have hl : x.cps.toList.length = x.length := Array.length_toList
    have hi : isAt x c b = false := by
      unfold isAt
      rw [List.getElem?_eq_none (by omega)]
      simp
    rw [List.range'_succ, List.filter_cons, if_neg (by rw [hi]; exact Bool.false_ne_true)]
    simp only [List.range'_zero, List.filter_nil, StrLaws.partsFrom, List.map_cons, List.map_nil]
    rw [StrLaws.strSub_toList, List.drop_eq_nil_of_le (by omega : x.cps.toList.length ≤ b)]
    simp only [spl, glue, List.append_nil]
    rw [show x.length - a = b - a by omega]
  | n + 1, a, b, h, hab => by
    have hl : x.cps.toList.length = x.length := Array.length_toList
    have hb : b < x.cps.toList.length := by omega
    rw [List.range'_succ, List.filter_cons]
    have ed : x.cps.toList.drop b = x.cps.toList[b] :: x.cps.toList.drop (b + 1) := List.drop_eq_getElem_cons hb
    by_cases hc : x.cps.toList[b] = c
    · have hi : isAt x c b = true := by
        unfold isAt
        rw [List.getElem?_eq_getElem hb, hc]
        simp
      rw [if_pos hi]
      have ih := partsFrom_spl x c n (b + 1) (b + 1) (by omega) (Nat.le_refl _)
      simp only [StrLaws.partsFrom, List.map_cons]
      rw [ih, StrLaws.strSub_toList, ed]
      obtain ⟨p, ps, e⟩ := spl_ne c (x.cps.toList.drop (b + 1))
      simp only [spl, if_pos hc, e, glue, Nat.sub_self, List.take_zero, List.nil_append, List.append_nil]
    · have hi : isAt x c b = false := by
        unfold isAt
        rw [List.getElem?_eq_getElem hb]
        exact decide_eq_false fun z => hc (Option.some.inj z)
      rw [if_neg (by rw [hi]; exact Bool.false_ne_true)]
      have ih := partsFrom_spl x c n a (b + 1) (by omega) (by omega)
      rw [ih, ed]
      obtain ⟨p, ps, e⟩ := spl_ne c (x.cps.toList.drop (b + 1))
      simp only [spl, if_neg hc, e, glue]
      have e2 : (x.cps.toList.drop a).take (b + 1 - a) = (x.cps.toList.drop a).take (b - a) ++ [x.cps.toList[b]] := by
        rw [show b + 1 - a = (b - a) + 1 by omega, List.take_add_one, List.getElem?_drop, show a + (b - a) = b by omega, List.getElem?_eq_getElem hb]
        rfl
      rw [e2]
      simp
theorem spl_none {c : Nat} : ∀ {l : List Nat}, c ∉ l → spl c l = [l]
  | [], _ => rfl
  | a :: l, h => by
    have h1 : ¬ a = c := fun e => h (by simp [e])
    have h2 : c ∉ l := fun e => h (List.mem_cons_of_mem _ e)
    unfold spl
    rw [if_neg h1, spl_none h2]
theorem spl_app {c : Nat} {r : List Nat} : ∀ {l : List Nat}, c ∉ l → spl c (l ++ c :: r) = l :: spl c r
  | [], _ => by simp [spl]
  | a :: l, h => by
    have h1 : ¬ a = c := fun e => h (by simp [e])
    have h2 : c ∉ l := fun e => h (List.mem_cons_of_mem _ e)
    rw [List.cons_append]
    have e := spl_app (r := r) h2
    show (if a = c then [] :: spl c (l ++ c :: r) else match spl c (l ++ c :: r) with | p :: ps => (a :: p) :: ps | [] => [[a]]) = _
    rw [if_neg h1, e]
def mkS (l : List Nat) : Str := ⟨l.toArray⟩
theorem mkS_toList (x : Str) : mkS x.cps.toList = x := by
  unfold mkS
  simp
theorem kind_one {c : Nat} (hc : c < 128) (x : Str) : (decide (x.length < (⟨#[c]⟩ : Str).length) || decide (Builtin.Str.strKind x < Builtin.Str.strKind ⟨#[c]⟩)) = true → x.length = 0 := by
  intro h
  rw [Bool.or_eq_true] at h
  rcases h with h | h
  · have h' := of_decide_eq_true h
    have : (⟨#[c]⟩ : Str).length = 1 := rfl
    omega
  · exfalso
    have h' := of_decide_eq_true h
    have e : Builtin.Str.strKind ⟨#[c]⟩ = 1 := by
      unfold Builtin.Str.strKind
      rw [if_pos (by simp; omega)]
    have e2 : 1 ≤ Builtin.Str.strKind x := by
      unfold Builtin.Str.strKind
      split
      · exact Nat.le_refl _
      · split <;> decide
    omega
theorem split_one {c : Nat} (hc : c < 128) (x : Str) : Txt.split x (⟨#[c]⟩ : Str) = (spl c x.cps.toList).map mkS := by
  have hl : x.cps.toList.length = x.length := Array.length_toList
  have key : (StrLaws.partsFrom x 1 0 (Builtin.Str.occurrences x ⟨#[c]⟩ 0 x.length (x.length + 1))).map (fun p => p.cps.toList) = spl c x.cps.toList := by
    rw [occ_all]
    have h := partsFrom_spl x c x.length 0 0 (by omega) (Nat.le_refl _)
    rw [h]
    obtain ⟨p, ps, e⟩ := spl_ne c x.cps.toList
    simp [glue, e]
  have key2 : StrLaws.partsFrom x 1 0 (Builtin.Str.occurrences x ⟨#[c]⟩ 0 x.length (x.length + 1)) = (spl c x.cps.toList).map mkS := by
    rw [← key, List.map_map]
    have : (mkS ∘ fun (p : Str) => p.cps.toList) = id := by
      funext p
      exact mkS_toList p
    rw [this, List.map_id]
  unfold Txt.split
  split
  · rename_i h
    have h0 := kind_one hc x h
    have : x.cps.toList = [] := List.length_eq_zero_iff.mp (by omega)
    rw [this]
    simp only [spl, List.map_cons, List.map_nil]
    rw [← this, mkS_toList]
  · split
    · rename_i h2
      have e0 : Builtin.Str.occurrences x ⟨#[c]⟩ 0 x.length (x.length + 1) = [] := List.isEmpty_iff.mp h2
      rw [← key2, e0]
      simp only [StrLaws.partsFrom]
      rw [StrLaws.sub_whole]
    · rw [StrLaws.partsBetween_eq]
      exact key2
theorem split_word1 {c : Nat} (hc : c < 128) {x : Str} (h : c ∉ x.cps.toList) : Txt.split x ⟨#[c]⟩ = [x] := by
  rw [split_one hc, spl_none h]
  simp [mkS_toList]
theorem split_cons1 {c : Nat} (hc : c < 128) {w r : Str} (h : c ∉ w.cps.toList) : Txt.split (w ++ (⟨#[c]⟩ : Str) ++ r) ⟨#[c]⟩ = w :: Txt.split r ⟨#[c]⟩ := by
  rw [split_one hc, split_one hc]
  have e : (w ++ (⟨#[c]⟩ : Str) ++ r).cps.toList = w.cps.toList ++ c :: r.cps.toList := by
    rw [Str.cps_append, Str.cps_append]
    simp
  rw [e, spl_app h, List.map_cons, mkS_toList]
theorem split_join1 {c : Nat} (hc : c < 128) : ∀ {zs : List Str}, zs ≠ [] → (∀ z ∈ zs, c ∉ z.cps.toList) → Txt.split (Str.join ⟨#[c]⟩ zs) ⟨#[c]⟩ = zs
  | [], h, _ => absurd rfl h
  | [z], _, h => split_word1 hc (h z (by simp))
  | z :: y :: r, _, h => by
    show Txt.split (z ++ (⟨#[c]⟩ : Str) ++ Str.join ⟨#[c]⟩ (y :: r)) ⟨#[c]⟩ = _
    rw [split_cons1 hc (h z (by simp)), split_join1 hc (by simp) fun x hx => h x (List.mem_cons_of_mem _ hx)]
end My
namespace My
open PySem L2 MR
theorem strsP_all : ∀ ws : List Str, strsP (ws.map PV.str) = some ws
  | [] => rfl
  | w :: ws => by simp [strsP_all ws]
theorem bools_all {α : Type} (f : α → Bool) : ∀ l : List α, bools (l.map fun x => PV.bl (f x)) = some (l.map f)
  | [] => rfl
  | w :: ws => by simp [bools_all f ws]
def ok1 (c : Nat) : Bool := !(Builtin.Str.occurrences ("u-x" : Str) ⟨#[c]⟩ 0 ("u-x" : Str).length 1).isEmpty
def isPatB (p : Str) : Bool := decide (1 ≤ p.length) && (decide (p.length ≤ 4) && p.cps.toList.all ok1)
theorem mi_isp {p : Str} (h1 : p.length ≤ 1000000) : mi_is_pattern [.str p] = some (.bl (isPatB p)) := by
  have hl : p.cps.size ≤ 1000000 := by simpa [Str.length] using h1
  have hc := compL_map (env := [none]) (g := gN 0) (f := ce_is_pattern_1) (fun c : Nat => PV.str ⟨#[c]⟩) (fun c => PV.bl (ok1 c)) p.cps.toList (fun c hc => ⟨[some (.str ⟨#[c]⟩)], rfl, by simp [ce_is_pattern_1, ok1, inP]⟩)
  have hb := bools_all ok1 p.cps.toList
  have hv : chV p = p.cps.toList.map fun c => PV.str ⟨#[c]⟩ := rfl
  have e1 : decide ((1 : Int) ≤ (p.length : Int)) = decide (1 ≤ p.length) := by congr 1; simp; omega
  have e2 : decide ((p.length : Int) ≤ 4) = decide (p.length ≤ 4) := by congr 1; simp; omega
  have h1' : (1 : Int) ≤ (p.length : Int) ↔ 1 ≤ p.length := by omega
  have h2' : (p.length : Int) ≤ 4 ↔ p.length ≤ 4 := by omega
  by_cases g1 : 1 ≤ p.length
  · by_cases g2 : p.length ≤ 4
    · have g1' := h1'.mpr g1
      have g2' := h2'.mpr g2
      simp [hv, mi_is_pattern, fb_is_pattern, h1, g1, g2, g1', g2', hl, hc, hb, isPatB, List.all_map]
    · have g1' := h1'.mpr g1
      have g2' : ¬ (p.length : Int) ≤ 4 := fun z => g2 (h2'.mp z)
      simp [hv, mi_is_pattern, fb_is_pattern, h1, g1, g2, g1', g2', hl, hc, hb, isPatB]
  · have g1' : ¬ (1 : Int) ≤ (p.length : Int) := fun z => g1 (h1'.mp z)
    simp [hv, mi_is_pattern, fb_is_pattern, h1, g1, g1', hl, hc, hb, isPatB]
def areB (ps : List Str) : Bool := decide (ps.length ≤ 4) && (decide (unlike ps = ps.length) && ps.all isPatB)
theorem mi_are {ps : List Str} (h1 : ps.length ≤ 1000) (h2 : ∀ p ∈ ps, p.length ≤ 1000000) : mi_are_patterns [.tup (ps.map .str)] = some (.bl (areB ps)) := by
  have h3 : ps.length ≤ 1000000 := by omega
  have hc := compL_map (env := [none]) (g := gN 0) (f := ce_are_patterns_1) PV.str (fun p => PV.bl (isPatB p)) ps (fun p hp => ⟨[some (.str p)], rfl, by simp [ce_are_patterns_1, mi_isp (h2 p hp)]⟩)
  have hb := bools_all isPatB ps
  by_cases g1 : ps.length ≤ 4
  · have g1' : ¬ (4 : Int) < (ps.length : Int) := by omega
    by_cases g2 : unlike ps = ps.length
    · have g2' : (unlike ps : Int) = (ps.length : Int) := by omega
      simp [mi_are_patterns, fb_are_patterns, h1, h3, g1, g1', g2, g2', hc, hb, strsP_all, areB, List.all_map]
    · have g2' : ¬ (unlike ps : Int) = (ps.length : Int) := by omega
      simp [mi_are_patterns, fb_are_patterns, h1, h3, g1, g1', g2, g2', hc, hb, strsP_all, areB]
  · have g1' : (4 : Int) < (ps.length : Int) := by omega
    simp [mi_are_patterns, fb_are_patterns, h1, h3, g1, g1', hc, hb, strsP_all, areB]
end My
namespace My
open PySem L2 MR
theorem slash_eq : ("/" : Str) = ⟨#[47]⟩ := by decide +kernel
theorem blank_eq : (" " : Str) = ⟨#[32]⟩ := by decide +kernel
theorem len_slash : ("/" : Str).length = 1 := by decide +kernel
theorem len_blank : (" " : Str).length = 1 := by decide +kernel
def pts (w : Str) : List Str := (spl 47 w.cps.toList).map mkS
theorem split_pts (w : Str) : Txt.split w ("/" : Str) = pts w := by rw [slash_eq]; exact split_one (by decide) w
theorem spl_len (c : Nat) : ∀ l : List Nat, (spl c l).length ≤ l.length + 1 ∧ ∀ p ∈ spl c l, p.length ≤ l.length
  | [] => ⟨by simp [spl], by simp [spl]⟩
  | a :: l => by
    obtain ⟨h1, h2⟩ := spl_len c l
    obtain ⟨p, ps, e⟩ := spl_ne c l
    unfold spl
    rw [e] at h1 h2 ⊢
    split
    · refine ⟨by simp at h1 ⊢; omega, fun q hq => ?_⟩
      rcases List.mem_cons.mp hq with rfl | hq
      · simp
      · have := h2 q hq; simp; omega
    · refine ⟨by simp at h1 ⊢; omega, fun q hq => ?_⟩
      rcases List.mem_cons.mp hq with rfl | hq
      · have := h2 p List.mem_cons_self; simp; omega
      · have := h2 q (List.mem_cons_of_mem _ hq); simp; omega
theorem pts_len {w : Str} (h : w.length ≤ 100) : (pts w).length ≤ 1000 ∧ ∀ p ∈ pts w, p.length ≤ 1000000 := by
  obtain ⟨h1, h2⟩ := spl_len 47 w.cps.toList
  have hl : w.cps.toList.length = w.length := Array.length_toList
  refine ⟨by unfold pts; rw [List.length_map]; omega, fun p hp => ?_⟩
  obtain ⟨q, hq, rfl⟩ := List.mem_map.mp hp
  have := h2 q hq
  have e : (mkS q).length = q.length := by simp [mkS, Str.length]
  omega
def good (w : Str) : Bool := areB (pts w)
def uncut (l : List Slot) : Bool := match l.getLast? with
  | some s => !s.2
  | none => false
def cutL (l : List Slot) : List Slot := match l.getLast? with
  | some s => l.dropLast ++ [(s.1, true)]
  | none => l
def stepW (w : Str) (l : List Slot) : Option (List Slot) := if w = ("|" : Str) ∧ uncut l = true then some (cutL l) else if good w = true ∧ l.length < 12 then some (l ++ [(pts w, false)]) else none
def rdW : List Str → Nat → List Slot → Sum (List Slot) Nat
  | [], _, l => .inl l
  | w :: ws, k, l => match stepW w l with
    | some l' => rdW ws (k + 1) l'
    | none => .inr k
theorem rdW_app : ∀ (A B : List Str) (k : Nat) (l : List Slot), rdW (A ++ B) k l = match rdW A k l with
    | .inl l' => rdW B (k + A.length) l'
    | .inr j => .inr j
  | [], B, k, l => by simp [rdW]
  | a :: A, B, k, l => by
    simp only [List.cons_append, rdW]
    cases stepW a l with
    | none => rfl
    | some l' =>
      simp only
      rw [rdW_app A B (k + 1) l', List.length_cons, show k + 1 + A.length = k + (A.length + 1) by omega]
theorem ixN_last {n : Nat} : ixN (n + 1) (-1) = some n := by
  unfold ixN
  rw [if_neg (by decide), if_pos (by omega)]
  congr 1
  omega
theorem atI_last {α : Type} (xs : List α) (x : α) : atI (xs ++ [x]) (-1) = some x := by
  unfold atI
  rw [List.length_append, List.length_singleton, ixN_last]
  simp
theorem nil_or_snoc {α : Type} (l : List α) : l = [] ∨ ∃ d s, l = d ++ [s] := by
  rcases List.eq_nil_or_concat l with h | ⟨d, s, h⟩
  · exact .inl h
  · exact .inr ⟨d, s, by rw [h, List.concat_eq_append]⟩
theorem read_step {w : Str} (hw : w.length ≤ 100) {l : List Slot} (hl : l.length ≤ 12) {T : PV} {k : Nat} (hk : k ≤ 1000) :
    match stepW w l with
    | some l' => turn (gT [2, 3]) [2, 3, 4] lb_read_metre_1 (.tup [.int k, .str w]) [some T, some (.lst (l.map slP)), none, none, none] = some [some T, some (.lst (l'.map slP)), none, none, none] ∧ lx_read_metre_2 [some T, some (.lst (l.map slP)), some (.int k), some (.str w), none] = none
    | none => lx_read_metre_2 [some T, some (.lst (l.map slP)), some (.int k), some (.str w), none] = some (12, some k) := by
  have h1 := split_pts w
  have h2 : w.length ≤ 1000000 := by omega
  obtain ⟨p1, p2⟩ := pts_len hw
  have h4 := mi_are p1 p2
  have hk2 : (k : Int) ≤ 1000000 := by omega
  have hk3 : 0 ≤ (k : Int) := by omega
  have hk4 : (k : Int).toNat = k := by simp
  have lt12 : (l.length : Int) < 12 ↔ l.length < 12 := by omega
  have hl7 : l.length < 1000000 := by omega
  have tl : (pts w).length ≤ 1000000 := by omega
  unfold stepW
  rcases nil_or_snoc l with rfl | ⟨d, s, rfl⟩
  · have hu : uncut [] = false := rfl
    rw [if_neg (by rw [hu]; simp)]
    by_cases hg : good w = true
    · have hg' : areB (pts w) = true := hg
      rw [if_pos ⟨hg, by simp⟩]
      constructor
      · by_cases hb : w = ("|" : Str)
        · simp [turn_ap, lb_read_metre_1, h1, h2, h4, hg', len_slash, hb, slP]
          simp_all
        · simp [turn_ap, lb_read_metre_1, h1, h2, h4, hg', len_slash, hb, slP]
      · by_cases hb : w = ("|" : Str)
        · simp [lx_read_metre_2, h1, h2, h4, hg', len_slash, hb, slP]
          simp_all
        · simp [lx_read_metre_2, h1, h2, h4, hg', len_slash, hb, slP]
    · have hg' : areB (pts w) = false := Bool.eq_false_iff.mpr hg
      rw [if_neg (fun z => hg z.1)]
      by_cases hb : w = ("|" : Str)
      · simp [lx_read_metre_2, h1, h2, h4, hg', len_slash, hb, slP, hk2, hk3, hk4]
        simp_all
      · simp [lx_read_metre_2, h1, h2, h4, hg', len_slash, hb, slP, hk2, hk3, hk4]
  · have hu : uncut (d ++ [s]) = !s.2 := by simp [uncut]
    have h7 := atI_last (d.map slP) (slP s)
    have h8 := @ixN_last d.length
    have hpos : (0 : Int) < (d.length : Int) + 1 := by omega
    have hl' : d.length + 1 ≤ 12 := by simpa using hl
    have hl9 : d.length + 1 < 1000000 := by omega
    by_cases hb : w = ("|" : Str)
    · cases hs : s.2 with
      | false =>
        rw [if_pos ⟨hb, by rw [hu, hs]; rfl⟩]
        have e : cutL (d ++ [s]) = d ++ [(s.1, true)] := by simp [cutL]
        have h7' : atI (d.map slP ++ [.tup [.tup (s.1.map .str), .bl false]]) (-1) = some (.tup [.tup (s.1.map .str), .bl false]) := atI_last _ _
        rw [e]
        subst hb
        constructor
        · simp [turn_ap, lb_read_metre_1, h1, h2, len_slash, hpos, h7', h8, slP, hs]
        · simp [lx_read_metre_2, h1, h2, len_slash, hpos, h7', h8, slP, hs]
      | true =>
        have h7' : atI (d.map slP ++ [.tup [.tup (s.1.map .str), .bl true]]) (-1) = some (.tup [.tup (s.1.map .str), .bl true]) := atI_last _ _
        rw [if_neg (fun z => by rw [hu, hs] at z; cases z.2)]
        subst hb
        by_cases hg : good ("|" : Str) = true
        · exact absurd hg (by decide +kernel)
        · have hg' : areB (pts ("|" : Str)) = false := Bool.eq_false_iff.mpr hg
          rw [if_neg (fun z => hg z.1)]
          simp [lx_read_metre_2, h1, h2, h4, hg', len_slash, hpos, h7', h8, slP, hs, hk2, hk3, hk4]
    · rw [if_neg (fun z => hb z.1)]
      by_cases hg : good w = true
      · have hg' : areB (pts w) = true := hg
        by_cases h12 : d.length + 1 < 12
        · have h12' : (d.length : Int) + 1 < 12 := by omega
          rw [if_pos ⟨hg, by simpa using h12⟩]
          constructor
          · simp [turn_ap, lb_read_metre_1, h1, h2, h4, hg', len_slash, hb, slP, h12', hl9]
          · simp [lx_read_metre_2, h1, h2, h4, hg', len_slash, hb, slP, h12']
        · have h12' : ¬ (d.length : Int) + 1 < 12 := by omega
          rw [if_neg (fun z => h12 (by simpa using z.2))]
          simp [lx_read_metre_2, h1, h2, h4, hg', len_slash, hb, slP, h12', hk2, hk3, hk4]
      · have hg' : areB (pts w) = false := Bool.eq_false_iff.mpr hg
        rw [if_neg (fun z => hg z.1)]
        simp [lx_read_metre_2, h1, h2, h4, hg', len_slash, hb, slP, hk2, hk3, hk4]
theorem stepW_len {w : Str} {l l' : List Slot} (h : stepW w l = some l') (hl : l.length ≤ 12) : l'.length ≤ 12 := by
  unfold stepW at h
  split at h
  · cases h
    rcases nil_or_snoc l with rfl | ⟨d, s, rfl⟩
    · simp [cutL]
    · simpa [cutL] using hl
  · split at h
    · rename_i z
      cases h
      simp; omega
    · cases h
theorem rd_run {T : PV} : ∀ (ws : List Str) (k : Nat) (l : List Slot), (∀ w ∈ ws, w.length ≤ 100) → k + ws.length ≤ 1000 → l.length ≤ 12 →
    match rdW ws k l with
    | .inl l' => loopS (gT [2, 3]) [2, 3, 4] lb_read_metre_1 ((ws.zipIdx k).map fun y : Str × Nat => PV.tup [.int (y.2 : Nat), .str y.1]) [some T, some (.lst (l.map slP)), none, none, none] = some (.nx [some T, some (.lst (l'.map slP)), none, none, none]) ∧
        loopX (gT [2, 3]) [2, 3, 4] lb_read_metre_1 lx_read_metre_2 ((ws.zipIdx k).map fun y : Str × Nat => PV.tup [.int (y.2 : Nat), .str y.1]) [some T, some (.lst (l.map slP)), none, none, none] = none
    | .inr j => loopX (gT [2, 3]) [2, 3, 4] lb_read_metre_1 lx_read_metre_2 ((ws.zipIdx k).map fun y : Str × Nat => PV.tup [.int (y.2 : Nat), .str y.1]) [some T, some (.lst (l.map slP)), none, none, none] = some (12, some j)
  | [], k, l, _, _, _ => ⟨rfl, rfl⟩
  | w :: ws, k, l, hw, hk, hl => by
    have st := read_step (hw w List.mem_cons_self) hl (T := T) (k := k) (by simp at hk; omega)
    simp only [List.zipIdx_cons, List.map_cons, rdW]
    have hg : gT [2, 3] (.tup [.int (k : Nat), .str w]) [some T, some (.lst (l.map slP)), none, none, none] = some [some T, some (.lst (l.map slP)), some (.int k), some (.str w), none] := by simp
    cases q : stepW w l with
    | none =>
      rw [q] at st
      simp only at st ⊢
      unfold loopX
      rw [hg]
      simp only [Option.bind_some, st]
    | some l' =>
      rw [q] at st
      simp only at st ⊢
      obtain ⟨s1, s2⟩ := st
      have ih := rd_run ws (k + 1) l' (fun z hz => hw z (List.mem_cons_of_mem _ hz)) (by simp at hk; omega) (stepW_len q hl) (T := T)
      have s1' := s1
      rw [turn_ap, hg] at s1'
      simp only [Option.bind_some] at s1'
      have lx : ∀ xs : List PV, loopX (gT [2, 3]) [2, 3, 4] lb_read_metre_1 lx_read_metre_2 (PV.tup [.int (k : Nat), .str w] :: xs) [some T, some (.lst (l.map slP)), none, none, none] = loopX (gT [2, 3]) [2, 3, 4] lb_read_metre_1 lx_read_metre_2 xs [some T, some (.lst (l'.map slP)), none, none, none] := fun xs => by
        rw [loopX, hg]
        simp only [Option.bind_some, s2]
        generalize lb_read_metre_1 [some T, some (.lst (l.map slP)), some (.int (k : Nat)), some (.str w), none] = o at s1' ⊢
        unfold nxt at s1'
        split at s1'
        · rw [← Option.some.inj s1']; rfl
        · rw [← Option.some.inj s1']; rfl
        · cases s1'
      rw [loopS_turn s1, lx]
      exact ih
end My
namespace My
open PySem L2 MR
theorem metS_nodup {ps : List Str} (h : ps.Nodup) : ∀ i, i ≤ ps.length → metS (fun i => ps.getD i ⟨#[]⟩) i = ps.take i
  | 0, _ => by simp [metS]
  | i + 1, hi => by
    have ih := metS_nodup h i (by omega)
    have hg : ps.getD i ⟨#[]⟩ = ps[i] := by simp [show i < ps.length by omega]
    unfold metS
    rw [ih, hg, if_neg, ← List.take_append_getElem (by omega : i < ps.length)]
    intro hm
    obtain ⟨j, hj, e⟩ := List.mem_take_iff_getElem.mp hm
    have := (List.getElem_inj h).mp e
    omega
theorem unlike_nodup {ps : List Str} (h : ps.Nodup) : unlike ps = ps.length := by
  unfold unlike
  rw [metS_nodup h _ (Nat.le_refl _), List.take_length]
theorem ok1_of {c : Nat} (hc : c = 117 ∨ c = 45 ∨ c = 120) : ok1 c = true := by
  rcases hc with rfl | rfl | rfl <;> decide +kernel
theorem areB_ok {ps : List Str} (h : PatsOk ps) : areB ps = true := by
  unfold areB
  rw [Bool.and_eq_true, Bool.and_eq_true, decide_eq_true_eq, decide_eq_true_eq, List.all_eq_true]
  refine ⟨h.le, unlike_nodup h.nd, fun p hp => ?_⟩
  have q := h.ok p hp
  unfold isPatB
  rw [Bool.and_eq_true, Bool.and_eq_true, decide_eq_true_eq, decide_eq_true_eq, List.all_eq_true]
  exact ⟨q.ge, q.le, fun c hc => ok1_of (q.cs c hc)⟩
theorem sum_le {k : Nat} : ∀ {ts : List Str}, (∀ t ∈ ts, t.length ≤ k) → (ts.map (·.length)).sum ≤ k * ts.length
  | [], _ => by simp
  | t :: ts, h => by
    have h1 := h t List.mem_cons_self
    have h2 := sum_le fun x hx => h x (List.mem_cons_of_mem _ hx)
    simp only [List.map_cons, List.sum_cons, List.length_cons]
    rw [Nat.mul_succ]
    omega
theorem joinOk_of {sep : Str} {ts : List Str} (h : (ts.map (·.length)).sum + ts.length * sep.length ≤ 1000000) : JoinOk sep ts = true := by
  unfold JoinOk Builtin.Str.tooLong
  rw [StrLaws.joinTotal]
  have : (1000000 : Nat) ≤ sizeLine := by decide
  simp
  omega
def slW (s : Slot) : Str := Str.join ("/" : Str) s.1
def wdsS (s : Slot) : List Str := if s.2 = true then [slW s, ("|" : Str)] else [slW s]
def wds (m : List Slot) : List Str := m.flatMap wdsS
theorem pats_sum {ps : List Str} (h : PatsOk ps) : (ps.map (·.length)).sum ≤ 16 := by
  have h1 := sum_le (k := 4) (ts := ps) fun p hp => (h.ok p hp).le
  have := h.le
  omega
theorem slW_len {s : Slot} (h : PatsOk s.1) : (slW s).length ≤ 20 := by
  have h1 := StrLaws.join_length_le ("/" : Str) s.1
  have h2 := pats_sum h
  have := h.le
  rw [len_slash] at h1
  unfold slW
  omega
theorem join_pats {ps : List Str} (h : PatsOk ps) : JoinOk ("/" : Str) ps = true := joinOk_of (by
  have h2 := pats_sum h
  have := h.le
  rw [len_slash]
  omega)
theorem pat_no {p : Str} (h : PatOk p) {c : Nat} (hc : c < 45 ∨ c = 47 ∨ 120 < c) : c ∉ p.cps.toList := fun z => by
  have := h.cs c z
  omega
theorem split_slW {s : Slot} (h : PatsOk s.1) : Txt.split (slW s) ("/" : Str) = s.1 := by
  unfold slW
  rw [slash_eq]
  exact split_join1 (by decide) h.ne fun p hp => pat_no (h.ok p hp) (by omega)
theorem pts_slW {s : Slot} (h : PatsOk s.1) : pts (slW s) = s.1 := by rw [← split_pts, split_slW h]
theorem good_slW {s : Slot} (h : PatsOk s.1) : good (slW s) = true := by
  unfold good
  rw [pts_slW h]
  exact areB_ok h
theorem bar_bad : good ("|" : Str) = false := by decide +kernel
theorem slW_bar {s : Slot} (h : PatsOk s.1) : ¬ slW s = ("|" : Str) := fun e => by
  have := good_slW h
  rw [e, bar_bad] at this
  cases this
theorem mem_join {sep : Str} {c : Nat} : ∀ {ts : List Str}, c ∈ (Str.join sep ts).cps.toList → c ∈ sep.cps.toList ∨ ∃ t ∈ ts, c ∈ t.cps.toList
  | [], h => by cases h
  | [t], h => .inr ⟨t, by simp, h⟩
  | t :: y :: r, h => by
    have e : (Str.join sep (t :: y :: r)).cps.toList = t.cps.toList ++ sep.cps.toList ++ (Str.join sep (y :: r)).cps.toList := by
      show (t.cps ++ sep.cps ++ (Str.join sep (y :: r)).cps).toList = _
      simp
    rw [e] at h
    rcases List.mem_append.mp h with h | h
    · rcases List.mem_append.mp h with h | h
      · exact .inr ⟨t, by simp, h⟩
      · exact .inl h
    · rcases mem_join h with h | ⟨x, hx, h⟩
      · exact .inl h
      · exact .inr ⟨x, List.mem_cons_of_mem _ hx, h⟩
structure Wd (w : Str) : Prop where
  len : w.length ≤ 100
  bl : 32 ∉ w.cps.toList
theorem wd_slW {s : Slot} (h : PatsOk s.1) : Wd (slW s) := ⟨by have := slW_len h; omega, fun z => by
  rcases mem_join z with z | ⟨p, hp, z⟩
  · rw [slash_eq] at z; simp at z
  · exact pat_no (h.ok p hp) (by omega) z⟩
theorem wd_bar : Wd ("|" : Str) := ⟨by decide +kernel, by decide +kernel⟩
theorem wds_wd {m : List Slot} (h : MetOk m) : ∀ w ∈ wds m, Wd w := fun w hw => by
  obtain ⟨s, hs, hw⟩ := List.mem_flatMap.mp hw
  unfold wdsS at hw
  split at hw
  · simp only [List.mem_cons, List.not_mem_nil, or_false] at hw
    rcases hw with rfl | rfl
    · exact wd_slW (h s hs)
    · exact wd_bar
  · rw [List.mem_singleton] at hw
    subst hw
    exact wd_slW (h s hs)
theorem wds_len : ∀ m : List Slot, (wds m).length ≤ 2 * m.length ∧ m.length ≤ (wds m).length
  | [] => ⟨by simp [wds], by simp [wds]⟩
  | s :: m => by
    obtain ⟨h1, h2⟩ := wds_len m
    have e : wds (s :: m) = wdsS s ++ wds m := by simp [wds]
    rw [e, List.length_append]
    unfold wdsS
    split <;> simp <;> omega
theorem rd_met : ∀ (d : List Slot) (l : List Slot) (k : Nat) (rest : List Str), MetOk d → l.length + d.length ≤ 12 → rdW (wds d ++ rest) k l = rdW rest (k + (wds d).length) (l ++ d)
  | [], l, k, rest, _, _ => by simp [wds]
  | s :: d, l, k, rest, h, hl => by
    have hs := h s List.mem_cons_self
    have h1 : stepW (slW s) l = some (l ++ [(s.1, false)]) := by
      unfold stepW
      rw [if_neg (fun z => slW_bar hs z.1), if_pos ⟨good_slW hs, by simp at hl; omega⟩, pts_slW hs]
    have e : wds (s :: d) = wdsS s ++ wds d := by simp [wds]
    have ih := fun k' => rd_met d (l ++ [s]) k' rest (fun x hx => h x (List.mem_cons_of_mem _ hx)) (by simp at hl ⊢; omega)
    rw [e]
    cases hc : s.2 with
    | false =>
      have e2 : wdsS s = [slW s] := by simp [wdsS, hc]
      have e3 : (s.1, false) = s := by rw [← hc]
      rw [e2]
      show rdW (slW s :: (wds d ++ rest)) k l = _
      simp only [rdW, h1]
      rw [e3, ih]
      simp [Nat.add_assoc, Nat.add_comm 1]
    | true =>
      have e2 : wdsS s = [slW s, ("|" : Str)] := by simp [wdsS, hc]
      have e3 : (s.1, true) = s := by rw [← hc]
      have h2 : stepW ("|" : Str) (l ++ [(s.1, false)]) = some (l ++ [(s.1, true)]) := by
        unfold stepW
        rw [if_pos ⟨rfl, by simp [uncut]⟩]
        simp [cutL]
      rw [e2]
      show rdW (slW s :: ("|" : Str) :: (wds d ++ rest)) k l = _
      simp only [rdW, h1, h2]
      rw [e3, ih, show k + 1 + 1 + (wds d).length = k + ([slW s, ("|" : Str)] ++ wds d).length by simp; omega, List.append_assoc, List.singleton_append]
theorem rd_own {m : List Slot} (h : MetOk m) (hl : m.length ≤ 12) (rest : List Str) : rdW (wds m ++ rest) 0 [] = rdW rest (wds m).length m := by
  have := rd_met m [] 0 rest h (by simpa using hl)
  simpa using this
end My
namespace My
open PySem L2 MR
def toldP : Sum (List Slot) Nat → PV
  | .inl m => .tup [.str "metre", mP m]
  | .inr j => .tup [.str "none", .int (j : Int)]
theorem told {t : Str} {ws : List Str} (hs : Txt.split t (" " : Str) = ws) (ht : t.length ≤ 1000000) (hw : ∀ w ∈ ws, w.length ≤ 100) (hk : ws.length ≤ 1000) : mi__law_told [.str t] = some (toldP (rdW ws 0 [])) := by
  have run := rd_run (T := .str t) ws 0 [] hw (by omega) (by simp)
  have en : enumV 0 (ws.map .str) = (ws.zipIdx 0).map fun y : Str × Nat => PV.tup [.int (y.2 : Nat), .str y.1] := enumV_map _ _ _
  have h12 : ∀ p : Option Nat → Option PV, True := fun _ => trivial
  simp only [List.map_nil] at run
  cases q : rdW ws 0 [] with
  | inl m =>
    rw [q] at run
    obtain ⟨r1, r2⟩ := run
    have a1 : mi_read_metre [.str t] = some (mP m) := by simp [mi_read_metre, fb_read_metre, hs, ht, len_blank, en, r1, mP]
    have a2 : xi_read_metre [.str t] = none := by simp [xi_read_metre, xb_read_metre, hs, ht, len_blank, en, r2]
    simp [mi__law_told, fb__law_told, tb__law_told_1, tx__law_told_2, a1, a2, toldP]
  | inr j =>
    rw [q] at run
    have a2 : xi_read_metre [.str t] = some (12, some j) := by
      have run' : loopX (gT [2, 3]) [2, 3, 4] lb_read_metre_1 lx_read_metre_2 ((ws.zipIdx 0).map fun y : Str × Nat => PV.tup [.int (y.2 : Nat), .str y.1]) [some (.str t), some (.lst []), none, none, none] = some (12, some j) := run
      simp [xi_read_metre, xb_read_metre, hs, ht, len_blank, en, run']
    simp [mi__law_told, fb__law_told, tb__law_told_1, tx__law_told_2, a2, toldP]
theorem words_turn {s : Slot} (h : PatsOk s.1) {l : List Str} (hl : l.length < 1000) {M : PV} :
    turn (gT [2, 3]) [2, 3] lb__law_words_1 (slP s) [some M, some (.lst (l.map .str)), none, none] = some [some M, some (.lst ((l ++ wdsS s).map .str)), none, none] := by
  have h1 := join_pats h
  have h2 := strsP_all s.1
  have hl' : l.length < 1000000 := by omega
  have hl2 : l.length + 1 < 1000000 := by omega
  unfold slP wdsS
  cases hs : s.2 <;> simp [turn_ap, lb__law_words_1, h1, h2, hl', hl2, slW]
theorem mi_words {m : List Slot} (h : MetOk m) (hl : m.length ≤ 12) : mi__law_words [mP m] = some (.lst ((wds m).map .str)) := by
  obtain ⟨l, ⟨d, e1, e2⟩, lp⟩ := loopS_ex (g := gT [2, 3]) (ds := [2, 3]) (body := lb__law_words_1) slP (fun l : List Str => [some (mP m), some (.lst (l.map .str)), none, none])
    (fun r l => ∃ d, m = d ++ r ∧ l = wds d)
    (fun s r l ⟨d, e1, e2⟩ => by
      subst e2
      have hd : (wds d).length < 1000 := by
        have := congrArg List.length e1
        have := (wds_len d).1
        simp at *; omega
      exact ⟨wds d ++ wdsS s, ⟨d ++ [s], by rw [e1]; simp, by simp [wds]⟩, words_turn (h s (by rw [e1]; simp)) hd⟩)
    m [] ⟨[], rfl, rfl⟩
  rw [List.append_nil] at e1
  rw [e2, ← e1] at lp
  simp only [List.map_nil] at lp
  have hm : mP m = .tup (m.map slP) := rfl
  rw [hm] at lp ⊢
  generalize hg : (wds m).map PV.str = ts at *
  simp [mi__law_words, fb__law_words, lp]
def bads : List Str := ["", "U", "u-y", "uu-uu", "x/u/-/uu/--", "u/u", "ux/u/ux", "/", "u/", "/u", "u//-", "u|", "|u", "||", "_", "u-/--/u-", "-----", "u.-", "u/uuuuu", "0"]
theorem bads_bad : ∀ w ∈ bads, good w = false ∧ ¬ w = ("|" : Str) ∧ w.length ≤ 100 ∧ 32 ∉ w.cps.toList := by decide +kernel
theorem bads_len : bads.length = 20 := by decide +kernel
theorem bad_gen {a b : List Str} {B : List PV} {i : Int} {w : Str} {k : Int} (e : a.map PV.str ++ b.map PV.str = B) (l1 : a.length ≤ 1000000) (l2 : b.length ≤ 1000000) (l3 : a.length + b.length ≤ 1000000) (h1 : k % 20 = i) (h2 : atI B i = some (.str w)) :
    mDef 2 1 false (sSeq (sSet 1 (bLst (bStrs a))) (sSeq (sSet 1 (b2 catV (bV 1) (bLst (bStrs b)))) (sRet (b2 ixP (bV 1) (b2 modV (bV 0) (bC (.int 20))))))) [.int k] = some (.str w) := by
  simp [e, l1, l2, l3, h1, h2]
theorem mi_bad (k : Nat) : ∃ w ∈ bads, mi__law_bad [.int k] = some (.str w) := by
  have hk : k % 20 < bads.length := by rw [bads_len]; omega
  refine ⟨bads[k % 20], List.getElem_mem hk, ?_⟩
  exact bad_gen (B := bads.map PV.str) (i := ((k % 20 : Nat) : Int)) rfl (by decide) (by decide) (by decide) (by omega) (atI_at (by simp [hk]))
end My
namespace My
open PySem L2 MR
theorem cutP_to (xs : List PV) (n : Nat) : cutP xs none (some (n : Int)) = xs.take n := by
  unfold cutP
  rw [HT.sIx_nat, HT.sIx_none, List.drop_zero, Nat.sub_zero]
  by_cases h : n ≤ xs.length
  · rw [Nat.min_eq_left h]
  · rw [Nat.min_eq_right (by omega), List.take_of_length_le (by omega), List.take_of_length_le (by omega)]
theorem cutP_from (xs : List PV) (n : Nat) : cutP xs (some (n : Int)) none = xs.drop n := by
  unfold cutP
  rw [HT.sIx_nat, HT.sIx_none]
  by_cases h : n ≤ xs.length
  · rw [Nat.min_eq_left h, List.take_of_length_le (by simp)]
  · rw [Nat.min_eq_right (by omega), List.drop_length, List.drop_eq_nil_of_le (by omega)]
    simp
theorem step_bad {w : Str} (h1 : good w = false) (h2 : ¬ w = ("|" : Str)) (l : List Slot) : stepW w l = none := by
  unfold stepW
  rw [if_neg (fun z => h2 z.1), if_neg (fun z => by rw [h1] at z; cases z.1)]
theorem step_cut {l : List Slot} (h : uncut l = false) : stepW ("|" : Str) l = none := by
  unfold stepW
  rw [if_neg (fun z => by rw [h] at z; cases z.2), if_neg (fun z => by rw [bar_bad] at z; cases z.1)]
theorem rd_bad {W : List Str} {m : List Slot} (h : rdW W 0 [] = .inl m) (i : Nat) (hi : i ≤ W.length) {w : Str} (h1 : good w = false) (h2 : ¬ w = ("|" : Str)) (rest : List Str) : rdW (W.take i ++ w :: rest) 0 [] = .inr i := by
  have e : rdW (W.take i ++ W.drop i) 0 [] = .inl m := by rw [List.take_append_drop]; exact h
  rw [rdW_app] at e ⊢
  cases q : rdW (W.take i) 0 [] with
  | inr j => rw [q] at e; cases e
  | inl l =>
    simp only [rdW, step_bad h1 h2 l]
    rw [List.length_take, Nat.min_eq_left hi, Nat.zero_add]
theorem rd_us : ∀ (k i : Nat) (l : List Slot), l.length + k = 13 → l.length ≤ 12 → rdW (List.replicate k ("u" : Str)) i l = .inr (i + k - 1)
  | 0, i, l, h, hl => by omega
  | k + 1, i, l, h, hl => by
    have hg : good ("u" : Str) = true := by decide +kernel
    have hb : ¬ ("u" : Str) = ("|" : Str) := by decide +kernel
    rw [List.replicate_succ]
    by_cases h12 : l.length < 12
    · have st : stepW ("u" : Str) l = some (l ++ [(pts ("u" : Str), false)]) := by
        unfold stepW
        rw [if_neg (fun z => hb z.1), if_pos ⟨hg, h12⟩]
      simp only [rdW, st]
      rw [rd_us k (i + 1) _ (by simp; omega) (by simp; omega)]
      congr 1
      omega
    · have st : stepW ("u" : Str) l = none := by
        unfold stepW
        rw [if_neg (fun z => hb z.1), if_neg (fun z => h12 z.2)]
      simp only [rdW, st]
      congr 1
      omega
theorem count_wds : ∀ {m : List Slot}, MetOk m → ((wds m).filter fun w => decide (¬ w = ("|" : Str))).length = m.length
  | [], _ => rfl
  | s :: m, h => by
    have ih := count_wds (m := m) fun x hx => h x (List.mem_cons_of_mem _ hx)
    have hb := slW_bar (h s List.mem_cons_self)
    have e : wds (s :: m) = wdsS s ++ wds m := by simp [wds]
    rw [e, List.filter_append, List.length_append, ih]
    unfold wdsS
    split <;> simp [hb] <;> omega
structure Spoiled (W' : List Str) (at' : PV) : Prop where
  wd : ∀ w ∈ W', Wd w
  ne : W' ≠ []
  le : W'.length ≤ 100
  rd : ∃ j, rdW W' 0 [] = .inr j ∧ (at' = .int (j : Int) ∨ (at' = .non ∧ W'.length = j + 1))
theorem mi_spoiled {m : List Slot} (h : MetOk m) (hne : m ≠ []) (hl : m.length ≤ 12) (n : Nat) : ∃ W' at', mi__law_spoiled [.lst ((wds m).map .str), .int n] = some (.tup [.lst (W'.map .str), at']) ∧ Spoiled W' at' := by
  obtain ⟨w, hw, hbad⟩ := mi_bad (n / 6)
  obtain ⟨g1, g2, g3, g4⟩ := bads_bad w hw
  have wdb : Wd w := ⟨g3, g4⟩
  have own := rd_own h hl
  have own0 : rdW (wds m) 0 [] = .inl m := by have := own []; simpa [rdW] using this
  have wdW := wds_wd h
  have cnt := count_wds h
  have hL1 := (wds_len m).1
  have hL2 := (wds_len m).2
  have hm1 : 1 ≤ m.length := by cases m with | nil => exact absurd rfl hne | cons a b => simp
  obtain ⟨d, s, hds⟩ : ∃ d s, m = d ++ [s] := (nil_or_snoc m).resolve_left hne
  have hW : wds m = wds d ++ wdsS s := by rw [hds]; simp [wds]
  have hsOk : PatsOk s.1 := h s (by rw [hds]; simp)
  generalize hWW : wds m = W at *
  generalize hLL : W.length = L at *
  have hLL' : (W.length : Int) = (L : Int) := by rw [hLL]
  have e0 : (n : Int) / 6 = ((n / 6 : Nat) : Int) := by omega
  have e1 : ((n / 6 : Nat) : Int) % (L : Int) = ((n / 6 % L : Nat) : Int) := by norm_cast
  generalize hq : n / 6 = q at *
  generalize ha : q % L = a at *
  have ha1 : a < L := by rw [← ha]; exact Nat.mod_lt _ (by omega)
  have hLpos : (0 : Int) < (L : Int) ∧ (L : Int) < 1073741824 := by omega
  have hL6 : W.length ≤ 1000000 := by omega
  have hL0 : 0 < L := by omega
  have c1 : cutP (W.map PV.str) none (some (a : Int)) = (W.take a).map .str := by rw [cutP_to, List.map_take]
  have c2 : cutP (W.map PV.str) (some (a : Int)) none = (W.drop a).map .str := by rw [cutP_from, List.map_drop]
  have c3 : cutP (W.map PV.str) (some ((a : Int) + 1)) none = (W.drop (a + 1)).map .str := by
    have := cutP_from (W.map PV.str) (a + 1)
    rw [List.map_drop]
    exact_mod_cast this
  have fltr := compL_filter (env := [none]) (g := gN 0) (t := cc__law_spoiled_2) (f := ce__law_spoiled_1) PV.str PV.str (fun w => decide (¬ w = ("|" : Str))) W (fun w _ => ⟨[some (.str w)], rfl, by simp [cc__law_spoiled_2], fun _ => by simp [ce__law_spoiled_1]⟩)
  have t1 : (W.take a).length = a := by rw [List.length_take]; omega
  have t2 : (W.drop a).length = L - a := by rw [List.length_drop, hLL]
  have t3 : (W.drop (a + 1)).length = L - (a + 1) := by rw [List.length_drop, hLL]
  have hr : n % 6 = 0 ∨ n % 6 = 1 ∨ n % 6 = 2 ∨ n % 6 = 3 ∨ n % 6 = 4 ∨ n % 6 = 5 := by omega
  rcases hr with hr | hr | hr | hr | hr | hr
  · have e6 : (n : Int) % 6 = 0 := by omega
    refine ⟨W.take a ++ w :: W.drop (a + 1), .int (a : Int), ?_, ⟨?_, by simp, ?_, a, rd_bad own0 a (by omega) g1 g2 _, .inl rfl⟩⟩
    · have l1 : a + 1 ≤ 1000000 := by omega
      have l2 : a + 1 + (L - (a + 1)) ≤ 1000000 := by omega
      generalize W.take a = A at *
      generalize W.drop (a + 1) = B at *
      simp [mi__law_spoiled, fb__law_spoiled, hLL', hL0, e0, e1, hLpos, hbad, e6, c1, c3, t1, t3, l1, l2]
    · intro z hz
      rcases List.mem_append.mp hz with hz | hz
      · exact wdW z (List.mem_of_mem_take hz)
      · rcases List.mem_cons.mp hz with rfl | hz
        · exact wdb
        · exact wdW z (List.mem_of_mem_drop hz)
    · rw [List.length_append, List.length_cons, t1, t3]; omega
  · have e6 : (n : Int) % 6 = 1 := by omega
    refine ⟨W.take a ++ w :: W.drop a, .int (a : Int), ?_, ⟨?_, by simp, ?_, a, rd_bad own0 a (by omega) g1 g2 _, .inl rfl⟩⟩
    · have l1 : a + 1 ≤ 1000000 := by omega
      have l2 : a + 1 + (L - a) ≤ 1000000 := by omega
      generalize W.take a = A at *
      generalize W.drop a = B at *
      simp [mi__law_spoiled, fb__law_spoiled, hLL', hL0, e0, e1, hLpos, hbad, e6, c1, c2, t1, t2, l1, l2]
    · intro z hz
      rcases List.mem_append.mp hz with hz | hz
      · exact wdW z (List.mem_of_mem_take hz)
      · rcases List.mem_cons.mp hz with rfl | hz
        · exact wdb
        · exact wdW z (List.mem_of_mem_drop hz)
    · rw [List.length_append, List.length_cons, t1, t2]; omega
  · have e6 : (n : Int) % 6 = 2 := by omega
    refine ⟨W ++ [w], .int (L : Int), ?_, ⟨?_, by simp, by simp [hLL]; omega, L, ?_, .inl rfl⟩⟩
    · have l1 : W.length + 1 ≤ 1000000 := by omega
      simp [mi__law_spoiled, fb__law_spoiled, hLL', hL0, e0, e1, hLpos, hbad, e6, l1]
    · intro z hz
      rcases List.mem_append.mp hz with hz | hz
      · exact wdW z hz
      · rw [List.mem_singleton] at hz; subst hz; exact wdb
    · have := rd_bad own0 L (by omega) g1 g2 []
      rw [List.take_of_length_le (by omega)] at this
      exact this
  · have e6 : (n : Int) % 6 = 3 := by omega
    refine ⟨("|" : Str) :: W, .int 0, ?_, ⟨?_, by simp, by simp [hLL]; omega, 0, ?_, .inl rfl⟩⟩
    · have l1 : 1 + W.length ≤ 1000000 := by omega
      simp [mi__law_spoiled, fb__law_spoiled, hLL', hL0, e0, e1, hLpos, hbad, e6, l1]
    · intro z hz
      rcases List.mem_cons.mp hz with rfl | hz
      · exact wd_bar
      · exact wdW z hz
    · simp only [rdW, step_cut (l := []) rfl]
  · have e6 : (n : Int) % 6 = 4 := by omega
    have wd4 : ∀ z ∈ W ++ [("|" : Str), ("|" : Str)], Wd z := fun z hz => by
      rcases List.mem_append.mp hz with hz | hz
      · exact wdW z hz
      · simp only [List.mem_cons, List.not_mem_nil, or_false] at hz
        rcases hz with rfl | rfl <;> exact wd_bar
    have l1 : W.length + 2 ≤ 1000000 := by omega
    cases hs : s.2 with
    | true =>
      have hlast : atI (W.map PV.str) (-1) = some (.str ("|" : Str)) := by
        rw [hW, show wdsS s = [slW s, ("|" : Str)] by simp [wdsS, hs]]
        have := atI_last ((wds d ++ [slW s]).map PV.str) (.str ("|" : Str))
        simpa using this
      refine ⟨W ++ [("|" : Str), ("|" : Str)], .int (L : Int), ?_, ⟨wd4, by simp, by simp [hLL]; omega, L, ?_, .inl rfl⟩⟩
      · simp [mi__law_spoiled, fb__law_spoiled, hLL', hL0, e0, e1, hLpos, hbad, e6, l1, hlast]
      · have hu : uncut m = false := by rw [hds]; simp [uncut, hs]
        rw [own]
        simp only [rdW, step_cut hu]
    | false =>
      have hsb := slW_bar hsOk
      have hlast : atI (W.map PV.str) (-1) = some (.str (slW s)) := by
        rw [hW, show wdsS s = [slW s] by simp [wdsS, hs]]
        have := atI_last ((wds d).map PV.str) (.str (slW s))
        simpa using this
      refine ⟨W ++ [("|" : Str), ("|" : Str)], .int ((L + 1 : Nat) : Int), ?_, ⟨wd4, by simp, by simp [hLL]; omega, L + 1, ?_, .inl rfl⟩⟩
      · simp [mi__law_spoiled, fb__law_spoiled, hLL', hL0, e0, e1, hLpos, hbad, e6, l1, hlast, hsb]
      · have hu : uncut m = true := by rw [hds]; simp [uncut, hs]
        have hc : stepW ("|" : Str) m = some (cutL m) := by unfold stepW; rw [if_pos ⟨rfl, hu⟩]
        have hu2 : uncut (cutL m) = false := by rw [hds]; simp [uncut, cutL]
        rw [own]
        simp only [rdW, hc, step_cut hu2]
  · have e6 : (n : Int) % 6 = 5 := by omega
    generalize hF : W.filter (fun w => decide (¬ w = ("|" : Str))) = F at *
    have hk : (13 : Int) - (F.length : Int) = ((13 - m.length : Nat) : Int) := by rw [cnt]; omega
    generalize hkk : 13 - m.length = k at *
    have hk13 : k ≤ 13 := by omega
    have hk1 : 1 ≤ k := by omega
    have hrep : (List.replicate k [PV.str ("u" : Str)]).flatten = (List.replicate k ("u" : Str)).map PV.str := by
      clear hk hkk hk13 hk1
      induction k with
      | zero => rfl
      | succ k ih => rw [List.replicate_succ, List.flatten_cons, ih, List.replicate_succ]; rfl
    refine ⟨W ++ List.replicate k ("u" : Str), .non, ?_, ⟨?_, ?_, by simp [hLL]; omega, L + k - 1, ?_, .inr ⟨rfl, by simp [hLL]; omega⟩⟩⟩
    · have l1 : W.length + k ≤ 1000000 := by omega
      have l2 : (-1000000 : Int) ≤ (k : Int) ∧ (k : Int) ≤ 1000000 := by omega
      have l3 : k ≤ 1000000 := by omega
      have l4 : (k : Int).toNat = k := by simp
      simp [mi__law_spoiled, fb__law_spoiled, hLL', hL0, e0, e1, hLpos, hbad, e6, fltr, hk, hrep, l1, l2, l3, l4, hL6]
    · intro z hz
      rcases List.mem_append.mp hz with hz | hz
      · exact wdW z hz
      · rw [List.eq_of_mem_replicate hz]; exact ⟨by decide +kernel, by decide +kernel⟩
    · intro z
      have := congrArg List.length z
      simp at this
      omega
    · rw [own, rd_us k L m (by omega) hl]
end My
namespace My
open PySem L2 MR
theorem mi_cell0 (ns : List Int) : ∃ n : Nat, (mi__law_cell_at [.frz (ns.map PV.int), .int 0]).bind absV = some (.int (n : Int)) := by
  cases ns with
  | nil => exact ⟨0, by simp [mi__law_cell_at, fb__law_cell_at]⟩
  | cons a r =>
    refine ⟨a.natAbs, ?_⟩
    have h1 : (0 : Int) < (r.length : Int) + 1 := by omega
    have h2 : (if a < 0 then -a else a) = (a.natAbs : Int) := by split <;> omega
    simp [mi__law_cell_at, fb__law_cell_at, h1]
    omega
theorem text_len {W : List Str} (h1 : ∀ w ∈ W, Wd w) (h2 : W.length ≤ 100) : JoinOk (" " : Str) W = true ∧ (Str.join (" " : Str) W).length ≤ 20000 := by
  have h3 := sum_le (k := 100) (ts := W) fun t ht => (h1 t ht).len
  have h4 := StrLaws.join_length_le (" " : Str) W
  rw [len_blank] at h4
  exact ⟨joinOk_of (by rw [len_blank]; omega), by omega⟩
theorem split_text {W : List Str} (h1 : ∀ w ∈ W, Wd w) (hne : W ≠ []) : Txt.split (Str.join (" " : Str) W) (" " : Str) = W := by
  rw [blank_eq]
  exact split_join1 (by decide) hne fun z hz => (h1 z hz).bl
theorem join_snoc : ∀ {W : List Str}, W ≠ [] → Str.join (" " : Str) (W ++ [("" : Str)]) = Str.join (" " : Str) W ++ (" " : Str)
  | [], h => absurd rfl h
  | [w], _ => by
    show w ++ (" " : Str) ++ ("" : Str) = w ++ (" " : Str)
    have : ("" : Str) = Str.empty := by decide +kernel
    rw [this, Str.append_empty]
  | w :: y :: r, _ => by
    have ih := join_snoc (W := y :: r) (by simp)
    show w ++ (" " : Str) ++ Str.join (" " : Str) (y :: r ++ [("" : Str)]) = w ++ (" " : Str) ++ Str.join (" " : Str) (y :: r) ++ (" " : Str)
    rw [ih]
    simp only [Str.append_assoc]
theorem wd_empty : Wd ("" : Str) := ⟨by decide +kernel, by decide +kernel⟩
theorem toldP_ok {x : Sum (List Slot) Nat} (h : ∀ m, x = .inl m → MetOk m) : eqP (toldP x) (toldP x) = some true := by
  refine eqP_refl (n := 4) ?_ (by decide)
  cases x with
  | inl m =>
    have := mP_ok (h m rfl)
    unfold toldP
    simp only [okP, List.mem_cons, List.not_mem_nil, or_false]
    rintro y (rfl | rfl)
    · simp [okP]; decide +kernel
    · exact this
  | inr j =>
    unfold toldP
    simp only [okP, List.mem_cons, List.not_mem_nil, or_false]
    rintro y (rfl | rfl)
    · simp [okP]; decide +kernel
    · simp [okP]
theorem cutP_mid (xs : List PV) (a b : Nat) : cutP xs (some (a : Int)) (some (b : Int)) = (xs.drop a).take (b - a) := by
  unfold cutP
  rw [HT.sIx_nat, HT.sIx_nat]
  by_cases h : a ≤ xs.length
  · rw [Nat.min_eq_left h]
    by_cases h2 : b ≤ xs.length
    · rw [Nat.min_eq_left h2]
    · rw [Nat.min_eq_right (by omega), List.take_of_length_le (by simp), List.take_of_length_le (by simp; omega)]
  · rw [show min a xs.length = xs.length by omega, List.drop_length, List.drop_eq_nil_of_le (by omega)]
    simp
theorem law_true (ns : List Int) (h : ns.length ≤ 63) : mi_law [.frz (ns.map PV.int)] = some (.bl true) := by
  obtain ⟨m, hm, hml, e1⟩ := mi_metre ((ns.drop 2).take 12 ++ [(0 : Int)].drop (ns.length / 3)) (by simp; omega)
  have hne : m ≠ [] := fun e => by
    rw [e] at hml
    simp at hml
    omega
  have hl : m.length ≤ 12 := by
    rw [hml]
    simp
    omega
  have c1 : cutP (ns.map PV.int) (some 2) (some 14) = ((ns.drop 2).take 12).map .int := by
    have := cutP_mid (ns.map PV.int) 2 14
    rw [List.map_take, List.map_drop]
    exact this
  have c2 : cutP [PV.int 0] (some ((ns.length / 3 : Nat) : Int)) none = ([(0 : Int)].drop (ns.length / 3)).map .int := by
    rw [cutP_from, List.map_drop]
    rfl
  obtain ⟨n0, hn0⟩ := mi_cell0 ns
  obtain ⟨W', at', e3, sp⟩ := mi_spoiled hm hne hl n0
  obtain ⟨j, hrd, hat⟩ := sp.rd
  have e2 := mi_words hm hl
  have wdW := wds_wd hm
  have hW1 := (wds_len m).1
  have hW2 := (wds_len m).2
  have hm1 : 1 ≤ m.length := by cases m with | nil => exact absurd rfl hne | cons a b => simp
  have hWne : wds m ≠ [] := fun z => by rw [z] at hW2; simp at hW2; exact hne hW2
  have own0 : rdW (wds m) 0 [] = .inl m := by have := rd_own hm hl []; simpa [rdW] using this
  have ownE : rdW (wds m ++ [("" : Str)]) 0 [] = .inr (wds m).length := by
    rw [rd_own hm hl]
    simp only [rdW, step_bad (w := ("" : Str)) (by decide +kernel) (by decide +kernel)]
  have wdE : ∀ w ∈ wds m ++ [("" : Str)], Wd w := fun w hw => by
    rcases List.mem_append.mp hw with hw | hw
    · exact wdW w hw
    · rw [List.mem_singleton] at hw; subst hw; exact wd_empty
  obtain ⟨j1, t1⟩ := text_len wdW (by omega)
  obtain ⟨j2, t2⟩ := text_len sp.wd sp.le
  have t3 : (Str.join (" " : Str) (wds m) ++ (" " : Str)).length ≤ 20001 := by rw [slen_app, len_blank]; omega
  have T1 := told (split_text wdW hWne) (by omega) (fun w hw => (wdW w hw).len) (by omega)
  have T2 := told (split_text sp.wd sp.ne) (by omega) (fun w hw => (sp.wd w hw).len) (by have := sp.le; omega)
  have T3 := told (t := Str.join (" " : Str) (wds m) ++ (" " : Str)) (by rw [← join_snoc hWne]; exact split_text wdE (by simp)) (by omega) (fun w hw => (wdE w hw).len) (by simp; omega)
  have T0 := told (t := ("" : Str)) (ws := [("" : Str)]) (by rw [blank_eq]; exact split_word1 (by decide) (by decide +kernel)) (by decide +kernel) (by decide +kernel) (by decide)
  have r0 : rdW [("" : Str)] 0 [] = .inr 0 := by simp only [rdW, step_bad (w := ("" : Str)) (by decide +kernel) (by decide +kernel)]
  rw [own0] at T1
  rw [hrd] at T2
  rw [ownE] at T3
  rw [r0] at T0
  have q1 := toldP_ok (x := .inl m) fun m' z => by cases z; exact hm
  have q2 := toldP_ok (x := .inr j) fun m' z => nomatch z
  have q3 := toldP_ok (x := .inr (wds m).length) fun m' z => nomatch z
  have q0 := toldP_ok (x := .inr 0) fun m' z => nomatch z
  simp only [toldP] at T0 T1 T2 T3 q0 q1 q2 q3
  have q0' : eqP (.tup [.str "none", .int 0]) (.tup [.str "none", .int 0]) = some true := q0
  have p1 := strsP_all (wds m)
  have p2 := strsP_all W'
  have d3 : (ns.length : Int) / 3 = ((ns.length / 3 : Nat) : Int) := by omega
  generalize ns.length / 3 = g3 at *
  have w1 : (Str.join (" " : Str) (wds m)).length + (" " : Str).length ≤ 1000000 := by rw [len_blank]; omega
  have w2 : W'.length ≤ 1000000 := by have := sp.le; omega
  have w3 : min 12 (ns.length - 2) + (1 - g3) ≤ 1000000 := by omega
  simp only [List.map_append, List.map_take, List.map_drop, List.map_cons, List.map_nil] at e1 c1 c2
  generalize hms : mP m = M at *
  generalize hwn : (wds m).length = wn at *
  have wn' : ((wds m).map PV.str).length = wn := by rw [List.length_map, hwn]
  generalize wds m = W at *
  unfold mi_law fb_law
  generalize mi__law_told = told' at *
  generalize mi__law_spoiled = spoil' at *
  generalize mi__law_metre = metre' at *
  generalize mi__law_words = words' at *
  obtain ⟨cv, hcv, hcv2⟩ : ∃ cv, mi__law_cell_at [.frz (ns.map PV.int), .int 0] = some cv ∧ absV cv = some (.int (n0 : Int)) := by
    obtain ⟨cv, h1, h2⟩ := Option.bind_eq_some_iff.mp hn0
    exact ⟨cv, h1, h2⟩
  obtain ⟨i, rfl, hi⟩ : ∃ i, cv = PV.int i ∧ (if i < 0 then -i else i) = (n0 : Int) := by
    cases cv <;> simp [MR.absV] at hcv2
    exact ⟨_, rfl, hcv2⟩
  generalize mi__law_cell_at = cell' at *
  have wi : (W.length : Int) = (wn : Int) := by rw [hwn]
  have w9 : (Str.join (" " : Str) W).length ≤ 999999 := by omega
  rcases hat with rfl | ⟨rfl, hj⟩
  · simp [c1, c2, d3, w3, e1, e2, j1, p1, T1, q1, T0, q0', hcv, hi, e3, j2, p2, T2, q2, w1, T3, q3, wi, w2, w9, len_blank]
  · have hj' : (W'.length : Int) - 1 = (j : Int) := by omega
    simp [c1, c2, d3, w3, e1, e2, j1, p1, T1, q1, T0, q0', hcv, hi, e3, j2, p2, T2, q2, w1, T3, q3, wi, w2, w9, len_blank, hj']
end My
namespace My
open PySem L2 MR
def top (i : Nat) : Stmt := PySem.Challenge.pw_lilt_k31_no_metre.main.body.getD i (.Pass ⟨0, 0, 0, 0⟩)
abbrev s__law_mixed : Stmt := top 19
abbrev s__law_patterns : Stmt := top 20
abbrev s__law_metre : Stmt := top 21
abbrev s__law_words : Stmt := top 22
abbrev s__law_bad : Stmt := top 23
abbrev s__law_spoiled : Stmt := top 25
abbrev s_is_pattern : Stmt := top 14
abbrev s_are_patterns : Stmt := top 15
abbrev s_read_metre : Stmt := top 16
abbrev s__law_told : Stmt := top 24
abbrev s__law_cell_at : Stmt := top 18
abbrev s_law : Stmt := top 26
abbrev s_NoMetre____init__ : Stmt := inClass (top 3) 0
theorem sc__law_mixed : FnScope ["_law_cell", "_law_k"] ["_law_cell", "_law_k"] (defScope s__law_mixed) := ⟨rfl, rfl, rfl, by decide +kernel, rfl, by decide +kernel, by decide +kernel⟩
theorem sc__law_patterns : FnScope ["_law_n", "_law_found", "_law_k", "_law_marks", "_law_j"] ["_law_n"] (defScope s__law_patterns) := ⟨rfl, rfl, rfl, by decide +kernel, rfl, by decide +kernel, by decide +kernel⟩
theorem sc__law_metre : FnScope ["_law_cells", "_law_metre_here", "_law_k", "_law_cell", "_law_n"] ["_law_cells"] (defScope s__law_metre) := ⟨rfl, rfl, rfl, by decide +kernel, rfl, by decide +kernel, by decide +kernel⟩
theorem sc__law_words : FnScope ["_law_metre_here", "_law_words_here", "_law_patterns_here", "_law_cut"] ["_law_metre_here"] (defScope s__law_words) := ⟨rfl, rfl, rfl, by decide +kernel, rfl, by decide +kernel, by decide +kernel⟩
theorem sc__law_bad : FnScope ["_law_cell", "_law_some"] ["_law_cell"] (defScope s__law_bad) := ⟨rfl, rfl, rfl, by decide +kernel, rfl, by decide +kernel, by decide +kernel⟩
theorem sc__law_spoiled : FnScope ["_law_words_here", "_law_cell", "_law_at", "_law_bad_here"] ["_law_words_here", "_law_cell"] (defScope s__law_spoiled) := ⟨rfl, rfl, rfl, by decide +kernel, rfl, by decide +kernel, by decide +kernel⟩
theorem sc_is_pattern : FnScope ["text"] ["text"] (defScope s_is_pattern) := ⟨rfl, rfl, rfl, by decide +kernel, rfl, by decide +kernel, by decide +kernel⟩
theorem sc_are_patterns : FnScope ["texts"] ["texts"] (defScope s_are_patterns) := ⟨rfl, rfl, rfl, by decide +kernel, rfl, by decide +kernel, by decide +kernel⟩
theorem sc_read_metre : FnScope ["text", "slots", "at", "word", "patterns"] ["text"] (defScope s_read_metre) := ⟨rfl, rfl, rfl, by decide +kernel, rfl, by decide +kernel, by decide +kernel⟩
theorem sc__law_told : FnScope ["_law_text", "_law_wrong", "_law_found", "e"] ["_law_text"] (defScope s__law_told) := ⟨rfl, rfl, rfl, by decide +kernel, rfl, by decide +kernel, by decide +kernel⟩
theorem sc__law_cell_at : FnScope ["_law_script", "_law_k"] ["_law_script", "_law_k"] (defScope s__law_cell_at) := ⟨rfl, rfl, rfl, by decide +kernel, rfl, by decide +kernel, by decide +kernel⟩
theorem sc_law : FnScope ["_law_script", "_law_metre_here", "_law_words_here", "_law_text", "_law_wrong", "_law_at", "_law_bad_here"] ["_law_script"] (defScope s_law) := ⟨rfl, rfl, rfl, by decide +kernel, rfl, by decide +kernel, by decide +kernel⟩
theorem sc_NoMetre____init__ : FnScope ["self", "at"] ["self", "at"] (defScope s_NoMetre____init__) := ⟨rfl, rfl, rfl, by decide +kernel, rfl, by decide +kernel, by decide +kernel⟩
structure Adr where
  a0 : Nat := 0
  t_MOST_MARKS : Tok
  t_MOST_PATTERNS : Tok
  t_MOST_SLOTS : Tok
  t_PATTERN_MARKS : Tok
section
variable {P : Program} {w : World} {K : PySem.W.Frag} {mg : Str → Option Value} {base : Heap} {cl : Nat → Addr} {A : Adr}
theorem okxi_NoMetre {f : Addr} {fd : FuncData} (F : Fun K "__init__" "NoMetre.__init__" s_NoMetre____init__ f fd) (hC : excInI K (cl 12) f = true) (hb : BaseInit K (cl 10) "ValueError.__init__") (hm : mg "LiltError" = some (.ref (cl 10))) : FnOk P w K mg base CX0 1 f fd ["self", "at"] (spXi (cl 12)) :=
  fnI_ok F sc_NoMetre____init__ fun cdv A' outer s H E => pss_cons (ps_base hC hb rfl (.inl rfl) rfl hm (pe_fs2 rfl (.inl rfl) (by decide)) rfl rfl rfl rfl rfl) (pss_one (ps_at hC rfl (.inl rfl) rfl (.inl rfl) rfl))
structure Tx__law_mixed (P : Program) (w : World) (K : PySem.W.Frag) (mg : Str → Option Value) (base : Heap) (cl : Nat → Addr) (A : Adr) : Prop where
  ok : True
theorem ok__law_mixed {f : Addr} {fd : FuncData} (F : Fun K "_law_mixed" "_law_mixed" s__law_mixed f fd) (T : Tx__law_mixed P w K mg base cl A) : FnOk P w K mg base CX0 1 f fd ["_law_cell", "_law_k"] (spM ⟨K, cl⟩ mi__law_mixed false) := by
  refine F.ok sc__law_mixed (fun vs H Q E h => spM_len h) (fun cdv A' outer s H vs Q E hr h => body_ok (G := []) (G' := []) (L := []) (N := ["_law_cell", "_law_k"]) rfl (by decide) (by decide) (fun B H' => ?_) h)
  exact (ss_one (s_ret (se_mod (se_add (se_add (se_mul (se_v 0) se_int) (se_mul (se_mul (se_v 1) (se_v 1)) se_int)) se_int) se_int)))
structure Tx__law_patterns (P : Program) (w : World) (K : PySem.W.Frag) (mg : Str → Option Value) (base : Heap) (cl : Nat → Addr) (A : Adr) : Prop where
  z_range : mg "range" = none
  z_tuple : mg "tuple" = none
theorem ok__law_patterns {f : Addr} {fd : FuncData} (F : Fun K "_law_patterns" "_law_patterns" s__law_patterns f fd) (T : Tx__law_patterns P w K mg base cl A) : FnOk P w K mg base CX0 1 f fd ["_law_n"] (spM ⟨K, cl⟩ mi__law_patterns false) := by
  refine F.ok sc__law_patterns (fun vs H Q E h => spM_len h) (fun cdv A' outer s H vs Q E hr h => body_ok (G := [1]) (G' := [1]) (L := []) (N := ["_law_n", "_law_found", "_law_k", "_law_marks", "_law_j"]) rfl (by decide) (by decide) (fun B H' => ?_) h)
  exact (ss_cons (s_setO 1 sc__law_patterns.nd (se_lst sa_nil)) (ss_cons (s_for [2, 3, 4] (si_r1 T.z_range (se_add se_int (se_mod (se_v 0) se_int))) (sg_n 2 sc__law_patterns.nd) (ss_cons (s_set 3 sc__law_patterns.nd se_str) (ss_cons (s_for [4] (si_r1 T.z_range (se_add se_int (se_mod (se_div (se_v 0) (se_add se_int (se_mul se_int (se_v 2)))) se_int))) (sg_n 4 sc__law_patterns.nd) (ss_one (s_set 3 sc__law_patterns.nd (se_add (se_v 3) (se_ix hr se_str (se_mod (se_div (se_v 0) (se_add (se_add se_int (se_mul se_int (se_v 2))) (se_mul se_int (se_v 4)))) se_int))))) PassesOwn.never) (ss_one (s_if (st_cmp (sc_notin hr (se_v 3) (se_b 1))) (ss_one (s_app 1 (se_v 3))) ss_nil)))) PassesOwn.never) (ss_one (s_ret (se_tuple T.z_tuple (se_b 1))))))
structure Tx__law_metre (P : Program) (w : World) (K : PySem.W.Frag) (mg : Str → Option Value) (base : Heap) (cl : Nat → Addr) (A : Adr) : Prop where
  z_enumerate : mg "enumerate" = none
  z_tuple : mg "tuple" = none
  c__law_mixed : Cal P w K mg base 1 "_law_mixed" ["_law_cell", "_law_k"] (spM ⟨K, cl⟩ mi__law_mixed false)
  c__law_patterns : Cal P w K mg base 1 "_law_patterns" ["_law_n"] (spM ⟨K, cl⟩ mi__law_patterns false)
theorem ok__law_metre {f : Addr} {fd : FuncData} (F : Fun K "_law_metre" "_law_metre" s__law_metre f fd) (T : Tx__law_metre P w K mg base cl A) : FnOk P w K mg base CX0 2 f fd ["_law_cells"] (spM ⟨K, cl⟩ mi__law_metre false) := by
  refine F.ok sc__law_metre (fun vs H Q E h => spM_len h) (fun cdv A' outer s H vs Q E hr h => body_ok (G := [1]) (G' := [1]) (L := []) (N := ["_law_cells", "_law_metre_here", "_law_k", "_law_cell", "_law_n"]) rfl (by decide) (by decide) (fun B H' => ?_) h)
  exact (ss_cons (s_setO 1 sc__law_metre.nd (se_lst sa_nil)) (ss_cons (s_for [2, 3, 4] (si_enum2 T.z_enumerate (se_v 0) (fun _ => by intro z; cases z)) (sg_t (sgs_cons 2 sc__law_metre.nd (sgs_cons 3 sc__law_metre.nd sgs_nil))) (ss_cons (s_set 4 sc__law_metre.nd (se_callV T.c__law_mixed hr (sa_cons (se_v 3) (sa_cons (se_v 2) sa_nil)))) (ss_one (s_app 1 (se_tup (sa_cons (se_callV T.c__law_patterns hr (sa_cons (se_div (se_v 4) se_int) sa_nil)) (sa_cons (se_cmp (sc_eq hr (se_mod (se_v 4) se_int) se_int)) sa_nil)))))) PassesOwn.never) (ss_one (s_ret (se_tuple T.z_tuple (se_b 1))))))
structure Tx__law_words (P : Program) (w : World) (K : PySem.W.Frag) (mg : Str → Option Value) (base : Heap) (cl : Nat → Addr) (A : Adr) : Prop where
  z_list : mg "list" = none
theorem ok__law_words {f : Addr} {fd : FuncData} (F : Fun K "_law_words" "_law_words" s__law_words f fd) (T : Tx__law_words P w K mg base cl A) : FnOk P w K mg base CX0 1 f fd ["_law_metre_here"] (spM ⟨K, cl⟩ mi__law_words false) := by
  refine F.ok sc__law_words (fun vs H Q E h => spM_len h) (fun cdv A' outer s H vs Q E hr h => body_ok (G := [1]) (G' := []) (L := []) (N := ["_law_metre_here", "_law_words_here", "_law_patterns_here", "_law_cut"]) rfl (by decide) (by decide) (fun B H' => ?_) h)
  exact (ss_cons (s_setO 1 sc__law_words.nd (se_lst sa_nil)) (ss_cons (s_for [2, 3] (si_v (se_v 0) (fun _ => by intro z; cases z)) (sg_t (sgs_cons 2 sc__law_words.nd (sgs_cons 3 sc__law_words.nd sgs_nil))) (ss_cons (s_app 1 (se_join2 se_str (se_list T.z_list (se_v 2)))) (ss_one (s_if (st_val (se_v 3)) (ss_one (s_app 1 se_str)) ss_nil))) PassesOwn.never) (ss_frz (G1 := []) (ss_one (s_ret (se_v 1))))))
structure Tx__law_bad (P : Program) (w : World) (K : PySem.W.Frag) (mg : Str → Option Value) (base : Heap) (cl : Nat → Addr) (A : Adr) : Prop where
  ok : True
theorem ok__law_bad {f : Addr} {fd : FuncData} (F : Fun K "_law_bad" "_law_bad" s__law_bad f fd) (T : Tx__law_bad P w K mg base cl A) : FnOk P w K mg base CX0 1 f fd ["_law_cell"] (spM ⟨K, cl⟩ mi__law_bad false) := by
  refine F.ok sc__law_bad (fun vs H Q E h => spM_len h) (fun cdv A' outer s H vs Q E hr h => body_ok (G := []) (G' := []) (L := []) (N := ["_law_cell", "_law_some"]) rfl (by decide) (by decide) (fun B H' => ?_) h)
  generalize hB : defBody s__law_bad = B0
  obtain ⟨e0, _, _, _, h0, q0⟩ := set_strs (B := B0) (x := "_law_some") (ys := ["", "U", "u-y", "uu-uu", "x/u/-/uu/--", "u/u", "ux/u/ux", "/", "u/", "/u", "u//-", "u|", "|u", "||", "_"]) (by rw [← hB]; rfl)
  obtain ⟨e1, _, _, _, _, _, h1, q1⟩ := cat_strs (B := B0.tail) (x := "_law_some") (y := "_law_some") (ys := ["u-/--/u-", "-----", "u.-", "u/uuuuu", "0"]) (by rw [← hB]; rfl)
  have q2 : B0.tail.tail = (defBody s__law_bad).tail.tail := by rw [← hB]
  rw [q0, q1, q2]
  clear hB q0 q1 q2
  exact (ss_cons (s_set 1 sc__law_bad.nd (SE.val (se_lst (sa_strs h0)))) (ss_cons (s_set 1 sc__law_bad.nd (SE.val (se_cat (se_v 1) (se_lst (sa_strs h1))))) (ss_one (s_ret (se_ix hr (se_v 1) (se_mod (se_v 0) se_int))))))
structure Tx__law_spoiled (P : Program) (w : World) (K : PySem.W.Frag) (mg : Str → Option Value) (base : Heap) (cl : Nat → Addr) (A : Adr) : Prop where
  z_int : mg "int" = none
  z_len : mg "len" = none
  c__law_bad : Cal P w K mg base 1 "_law_bad" ["_law_cell"] (spM ⟨K, cl⟩ mi__law_bad false)
theorem ok__law_spoiled {f : Addr} {fd : FuncData} (F : Fun K "_law_spoiled" "_law_spoiled" s__law_spoiled f fd) (T : Tx__law_spoiled P w K mg base cl A) : FnOk P w K mg base CX0 2 f fd ["_law_words_here", "_law_cell"] (spM ⟨K, cl⟩ mi__law_spoiled false) := by
  refine F.ok sc__law_spoiled (fun vs H Q E h => spM_len h) (fun cdv A' outer s H vs Q E hr h => body_ok (G := []) (G' := []) (L := []) (N := ["_law_words_here", "_law_cell", "_law_at", "_law_bad_here"]) rfl (by decide) (by decide) (fun B H' => ?_) h)
  exact (ss_cons (s_set 2 sc__law_spoiled.nd (se_mod (se_div (se_v 1) se_int) (se_len T.z_len (se_v 0)))) (ss_cons (s_set 3 sc__law_spoiled.nd (se_callV T.c__law_bad hr (sa_cons (se_div (se_v 1) se_int) sa_nil))) (ss_cons (s_if (st_cmp (sc_eq hr (se_mod (se_v 1) se_int) se_int)) (ss_one (s_ret (se_tup (sa_cons (SE.val (se_cat (se_cat (se_sl (se_v 0) so_none (so_some (se_v 2))) (se_lst (sa_cons (se_v 3) sa_nil))) (se_sl (se_v 0) (so_some (se_add (se_v 2) se_int)) so_none))) (sa_cons (se_v 2) sa_nil))))) ss_nil) (ss_cons (s_if (st_cmp (sc_eq hr (se_mod (se_v 1) se_int) se_int)) (ss_one (s_ret (se_tup (sa_cons (SE.val (se_cat (se_cat (se_sl (se_v 0) so_none (so_some (se_v 2))) (se_lst (sa_cons (se_v 3) sa_nil))) (se_sl (se_v 0) (so_some (se_v 2)) so_none))) (sa_cons (se_v 2) sa_nil))))) ss_nil) (ss_cons (s_if (st_cmp (sc_eq hr (se_mod (se_v 1) se_int) se_int)) (ss_one (s_ret (se_tup (sa_cons (SE.val (se_cat (se_v 0) (se_lst (sa_cons (se_v 3) sa_nil)))) (sa_cons (se_len T.z_len (se_v 0)) sa_nil))))) ss_nil) (ss_cons (s_if (st_cmp (sc_eq hr (se_mod (se_v 1) se_int) se_int)) (ss_one (s_ret (se_tup (sa_cons (SE.val (se_cat (se_lst (sa_cons se_str sa_nil)) (se_v 0))) (sa_cons se_int sa_nil))))) ss_nil) (ss_cons (s_if (st_cmp (sc_eq hr (se_mod (se_v 1) se_int) se_int)) (ss_one (s_ret (se_tup (sa_cons (SE.val (se_cat (se_v 0) (se_lst (sa_cons se_str (sa_cons se_str sa_nil))))) (sa_cons (se_add (se_len T.z_len (se_v 0)) (se_int1 T.z_int (se_cmp (sc_ne hr (se_ix hr (se_v 0) (se_neg se_int)) se_str)))) sa_nil))))) ss_nil) (ss_one (s_ret (se_tup (sa_cons (SE.val (se_cat (se_v 0) (se_rep (se_lst (sa_cons se_str sa_nil)) (se_sub se_int (se_len T.z_len (se_comp (osc := (defScope s__law_spoiled)) (ON := ["_law_words_here", "_law_cell", "_law_at", "_law_bad_here"]) (N := ["_law_word"]) (cap := [none]) ⟨rfl, by decide +kernel, by decide +kernel, by decide +kernel, by decide +kernel⟩ (tg_n 0) (si_v (se_v 0) (fun z => by cases z)) (fun _ _ _ _ => pg_name (i := 0) (show (["_law_word"] : List Str).Nodup by decide +kernel) rfl (Or.inl rfl)) (fun _ _ _ _ => pifs_one (st_cmp (sc_ne hr (se_v 0) se_str))) (fun _ _ _ _ => (se_v 0)))))))) (sa_cons se_non sa_nil))))))))))))
structure Tx_is_pattern (P : Program) (w : World) (K : PySem.W.Frag) (mg : Str → Option Value) (base : Heap) (cl : Nat → Addr) (A : Adr) : Prop where
  z_all : mg "all" = none
  z_len : mg "len" = none
  g_MOST_MARKS : mg "MOST_MARKS" = some (.int 4 A.t_MOST_MARKS)
  g_PATTERN_MARKS : mg "PATTERN_MARKS" = some (.str "u-x" A.t_PATTERN_MARKS)
theorem ok_is_pattern {f : Addr} {fd : FuncData} (F : Fun K "is_pattern" "is_pattern" s_is_pattern f fd) (T : Tx_is_pattern P w K mg base cl A) : FnOk P w K mg base CX0 1 f fd ["text"] (spM ⟨K, cl⟩ mi_is_pattern false) := by
  refine F.ok sc_is_pattern (fun vs H Q E h => spM_len h) (fun cdv A' outer s H vs Q E hr h => body_ok (G := []) (G' := []) (L := []) (N := ["text"]) rfl (by decide) (by decide) (fun B H' => ?_) h)
  exact (ss_one (s_ret (se_and (se_chain op_le op_le se_int (se_len T.z_len (se_v 0)) (se_gI T.g_MOST_MARKS)) (se_one (se_all T.z_all (se_comp (osc := (defScope s_is_pattern)) (ON := ["text"]) (N := ["sign"]) (cap := [none]) ⟨rfl, by decide +kernel, by decide +kernel, by decide +kernel, by decide +kernel⟩ (tg_n 0) (si_v (se_v 0) (fun z => by cases z)) (fun _ _ _ _ => pg_name (i := 0) (show (["sign"] : List Str).Nodup by decide +kernel) rfl (Or.inl rfl)) (fun _ _ _ _ => sifs_nil) (fun _ _ _ _ => (se_cmp (sc_in hr (se_v 0) (se_gS T.g_PATTERN_MARKS))))))))))
structure Tx_are_patterns (P : Program) (w : World) (K : PySem.W.Frag) (mg : Str → Option Value) (base : Heap) (cl : Nat → Addr) (A : Adr) : Prop where
  z_all : mg "all" = none
  z_len : mg "len" = none
  z_set : mg "set" = none
  g_MOST_PATTERNS : mg "MOST_PATTERNS" = some (.int 4 A.t_MOST_PATTERNS)
  c_is_pattern : Cal P w K mg base 1 "is_pattern" ["text"] (spM ⟨K, cl⟩ mi_is_pattern false)
theorem ok_are_patterns {f : Addr} {fd : FuncData} (F : Fun K "are_patterns" "are_patterns" s_are_patterns f fd) (T : Tx_are_patterns P w K mg base cl A) : FnOk P w K mg base CX0 2 f fd ["texts"] (spM ⟨K, cl⟩ mi_are_patterns false) := by
  refine F.ok sc_are_patterns (fun vs H Q E h => spM_len h) (fun cdv A' outer s H vs Q E hr h => body_ok (G := []) (G' := []) (L := []) (N := ["texts"]) rfl (by decide) (by decide) (fun B H' => ?_) h)
  exact (ss_cons (s_if (SW.st (sw_or (st_cmp (sc_gt (se_len T.z_len (se_v 0)) (se_gI T.g_MOST_PATTERNS))) (sw_or1 (st_cmp (sc_ne hr (se_lenset T.z_len T.z_set (se_v 0)) (se_len T.z_len (se_v 0))))))) (ss_one (s_ret se_bl)) ss_nil) (ss_one (s_ret (se_all T.z_all (se_comp (osc := (defScope s_are_patterns)) (ON := ["texts"]) (N := ["text"]) (cap := [none]) ⟨rfl, by decide +kernel, by decide +kernel, by decide +kernel, by decide +kernel⟩ (tg_n 0) (si_v (se_v 0) (fun z => by cases z)) (fun _ _ _ _ => pg_name (i := 0) (show (["text"] : List Str).Nodup by decide +kernel) rfl (Or.inl rfl)) (fun _ _ _ _ => sifs_nil) (fun _ _ _ _ => (se_callV T.c_is_pattern hr (sa_cons (se_v 0) sa_nil))))))))
structure Tx_read_metre (P : Program) (w : World) (K : PySem.W.Frag) (mg : Str → Option Value) (base : Heap) (cl : Nat → Addr) (A : Adr) : Prop where
  z_enumerate : mg "enumerate" = none
  z_len : mg "len" = none
  z_tuple : mg "tuple" = none
  g_MOST_SLOTS : mg "MOST_SLOTS" = some (.int 12 A.t_MOST_SLOTS)
  c_are_patterns : Cal P w K mg base 2 "are_patterns" ["texts"] (spM ⟨K, cl⟩ mi_are_patterns false)
  m_NoMetre : mg "NoMetre" = some (.ref (cl 12))
  xi_NoMetre : CalXi P w K mg base (cl 12) 1
theorem okx_read_metre {f : Addr} {fd : FuncData} (F : Fun K "read_metre" "read_metre" s_read_metre f fd) (T : Tx_read_metre P w K mg base cl A) : FnOk P w K mg base (CXW P w K) 3 f fd ["text"] (spX ⟨K, cl⟩ mi_read_metre false xi_read_metre) := by
  refine funx_ok F sc_read_metre (fun vs H Q E h => spX_len rfl h) (fun cdv A' outer s H vs Q E hr h => body_okx (G := [1]) (G' := [1]) (L := []) (N := ["text", "slots", "at", "word", "patterns"]) rfl (by decide) (by decide) (fun B H' => ?_) (fun B H' => ?_) h)
  · exact (ss_cons (s_setO 1 sc_read_metre.nd (se_lst sa_nil)) (ss_cons (s_for [2, 3, 4] (si_enum2 T.z_enumerate (se_split (se_v 0) se_str) (fun _ => by intro z; cases z)) (sg_t (sgs_cons 2 sc_read_metre.nd (sgs_cons 3 sc_read_metre.nd sgs_nil))) (ss_cons (s_set 4 sc_read_metre.nd (se_tuple T.z_tuple (se_split (se_v 3) se_str))) (ss_one (s_if (SW.st (sw_and (st_cmp (sc_eq hr (se_v 3) se_str)) (sw_and (st_cmp (sc_gt (se_len T.z_len (se_b 1)) se_int)) (sw_and1 (st_not (st_val (se_ix hr (se_ix hr (se_b 1) (se_neg se_int)) se_int))))))) (ss_one (s_put 1 hr (se_neg se_int) (se_tup (sa_cons (se_ix hr (se_ix hr (se_b 1) (se_neg se_int)) se_int) (sa_cons se_bl sa_nil))))) (ss_one (s_if (SW.st (sw_and (st_val (se_callV T.c_are_patterns hr (sa_cons (se_v 4) sa_nil))) (sw_and1 (st_cmp (sc_lt2 hr (se_len T.z_len (se_b 1)) (se_gI T.g_MOST_SLOTS)))))) (ss_one (s_app 1 (se_tup (sa_cons (se_v 4) (sa_cons se_bl sa_nil))))) (ss_one s_no)))))) PassesOwn.never) (ss_one (s_ret (se_tuple T.z_tuple (se_b 1))))))
  · exact (xss_next (L := []) (ro := false) (PS.nox (s_setO 1 sc_read_metre.nd (se_lst sa_nil))) (xss_here (xs_for (ro := false) [2, 3, 4] (si_enum2 T.z_enumerate (se_split (se_v 0) se_str) (fun _ => by intro z; cases z)) (sg_t (sgs_cons 2 sc_read_metre.nd (sgs_cons 3 sc_read_metre.nd sgs_nil))) (ss_cons (s_set 4 sc_read_metre.nd (se_tuple T.z_tuple (se_split (se_v 3) se_str))) (ss_one (s_if (SW.st (sw_and (st_cmp (sc_eq hr (se_v 3) se_str)) (sw_and (st_cmp (sc_gt (se_len T.z_len (se_b 1)) se_int)) (sw_and1 (st_not (st_val (se_ix hr (se_ix hr (se_b 1) (se_neg se_int)) se_int))))))) (ss_one (s_put 1 hr (se_neg se_int) (se_tup (sa_cons (se_ix hr (se_ix hr (se_b 1) (se_neg se_int)) se_int) (sa_cons se_bl sa_nil))))) (ss_one (s_if (SW.st (sw_and (st_val (se_callV T.c_are_patterns hr (sa_cons (se_v 4) sa_nil))) (sw_and1 (st_cmp (sc_lt2 hr (se_len T.z_len (se_b 1)) (se_gI T.g_MOST_SLOTS)))))) (ss_one (s_app 1 (se_tup (sa_cons (se_v 4) (sa_cons se_bl sa_nil))))) (ss_one s_no)))))) (xss_next (L := []) (ro := false) (PS.nox (s_set 4 sc_read_metre.nd (se_tuple T.z_tuple (se_split (se_v 3) se_str)))) (xss_here (xs_if wd_ok (SW.st (sw_and (st_cmp (sc_eq hr (se_v 3) se_str)) (sw_and (st_cmp (sc_gt (se_len T.z_len (se_b 1)) se_int)) (sw_and1 (st_not (st_val (se_ix hr (se_ix hr (se_b 1) (se_neg se_int)) se_int))))))) xss_no (xss_here (xs_if wd_ok (SW.st (sw_and (st_val (se_callV T.c_are_patterns hr (sa_cons (se_v 4) sa_nil))) (sw_and1 (st_cmp (sc_lt2 hr (se_len T.z_len (se_b 1)) (se_gI T.g_MOST_SLOTS)))))) xss_no (xss_here (xs_raiseI 12 T.xi_NoMetre hr T.m_NoMetre (sa_cons (se_v 2) sa_nil)))))))))))
structure Tx__law_told (P : Program) (w : World) (K : PySem.W.Frag) (mg : Str → Option Value) (base : Heap) (cl : Nat → Addr) (A : Adr) : Prop where
  z_ValueError : mg "ValueError" = none
  z_bool : mg "bool" = none
  z_isinstance : mg "isinstance" = none
  c_read_metre : Cal P w K mg base 3 "read_metre" ["text"] (spM ⟨K, cl⟩ mi_read_metre false)
  h_NoMetre : ∃ f, excInI K (cl 12) f = true
  k_NoMetre_11_13_14_15_16_17 : PySem.W.kitAny K (.ref (cl 12)) [.ref (cl 11), .ref (cl 13), .ref (cl 14), .ref (cl 15), .ref (cl 16), .ref (cl 17)] = some false
  k_NoMetre_NoMetre : PySem.W.kitOne K (.ref (cl 12)) (.ref (cl 12)) = some true
  k_NoMetre_ValueError : PySem.W.kitOne K (.ref (cl 12)) (.type "ValueError") = some true
  k_int_bool : PySem.W.kitOne K (.type "int") (.type "bool") = some false
  m_LiltError : mg "LiltError" = some (.ref (cl 10))
  m_NoForm : mg "NoForm" = some (.ref (cl 13))
  m_NoMetre : mg "NoMetre" = some (.ref (cl 12))
  m_NoName : mg "NoName" = some (.ref (cl 16))
  m_NoReading : mg "NoReading" = some (.ref (cl 15))
  m_NoRow : mg "NoRow" = some (.ref (cl 17))
  m_NoRule : mg "NoRule" = some (.ref (cl 11))
  m_NoWord : mg "NoWord" = some (.ref (cl 14))
  x_read_metre : CalX P w K mg base 3 "read_metre" ["text"] (spX ⟨K, cl⟩ mi_read_metre false xi_read_metre)
  xc_NoMetre : XCls K (cl 12)
  xm_NoMetre_LiltError : PySem.W.exmOne K (.ref (cl 12)) (.ref (cl 10)) = some true
theorem ok__law_told {f : Addr} {fd : FuncData} (F : Fun K "_law_told" "_law_told" s__law_told f fd) (T : Tx__law_told P w K mg base cl A) : FnOk P w K mg base CX0 4 f fd ["_law_text"] (spM ⟨K, cl⟩ mi__law_told false) := by
  refine F.ok sc__law_told (fun vs H Q E h => spM_len h) (fun cdv A' outer s H vs Q E hr h => body_ok (G := []) (G' := []) (L := []) (N := ["_law_text", "_law_wrong", "_law_found", "e"]) rfl (by decide) (by decide) (fun B H' => ?_) h)
  exact (ss_cons (s_set 1 sc__law_told.nd se_non) (ss_cons (s_set 2 sc__law_told.nd se_non) (ss_try 1 3 12 (p := (onN fun n => (.tup [(.str "none"), (.int (n : Int))]))) sc__law_told.nd T.m_LiltError T.xm_NoMetre_LiltError (ss_one (s_set 2 sc__law_told.nd (se_callV T.c_read_metre hr (sa_cons (se_v 0) sa_nil)))) (fun _ => (xss_here (xs_set (xe_call (wt_ok rfl) T.x_read_metre hr (sa_cons (se_v 0) sa_nil))))) (ss_cons (s_if (st_cmp (sc_is (se_v 1) se_non)) (ss_one (s_ret (se_tup (sa_cons se_str (sa_cons (se_v 2) sa_nil))))) ss_nil) ss_no) (onN_el fun n => (ks_ifF (kt_isN 1) (ks_ifF (PW.pt (kw_or (j := false) (k := false) (kt_not (j := true) (kt_val (kn_isi 1 T.xc_NoMetre T.k_NoMetre_NoMetre T.z_isinstance T.m_NoMetre))) (kw_or1 (kt_not (j := true) (kt_val (kn_isiT 1 (dn' := "ValueError") T.xc_NoMetre T.k_NoMetre_ValueError T.z_isinstance T.z_ValueError)))))) (ks_ifF (PW.pt (kw_or (j := false) (k := false) (kt_val (kn_isiN 1 T.xc_NoMetre T.k_NoMetre_11_13_14_15_16_17 T.z_isinstance (pac_cons T.m_NoRule (pac_cons T.m_NoForm (pac_cons T.m_NoWord (pac_cons T.m_NoReading (pac_cons T.m_NoName (pac_cons T.m_NoRow pac_nil)))))))) (kw_or1 (kt_val (kn_isiA (dn' := "bool") (kn_at 1 T.h_NoMetre) T.k_int_bool T.z_isinstance T.z_bool))))) (ks_ret2 rfl rfl kn_str (kn_at 1 T.h_NoMetre)))))))))
structure Tx__law_cell_at (P : Program) (w : World) (K : PySem.W.Frag) (mg : Str → Option Value) (base : Heap) (cl : Nat → Addr) (A : Adr) : Prop where
  z_len : mg "len" = none
theorem ok__law_cell_at {f : Addr} {fd : FuncData} (F : Fun K "_law_cell_at" "_law_cell_at" s__law_cell_at f fd) (T : Tx__law_cell_at P w K mg base cl A) : FnOk P w K mg base CX0 1 f fd ["_law_script", "_law_k"] (spM ⟨K, cl⟩ mi__law_cell_at false) := by
  refine F.ok sc__law_cell_at (fun vs H Q E h => spM_len h) (fun cdv A' outer s H vs Q E hr h => body_ok (G := []) (G' := []) (L := []) (N := ["_law_script", "_law_k"]) rfl (by decide) (by decide) (fun B H' => ?_) h)
  exact (ss_cons (s_if (st_cmp (sc_lt2 hr (se_v 1) (se_len T.z_len (se_v 0)))) (ss_one (s_ret (se_ix hr (se_v 0) (se_v 1)))) ss_nil) (ss_one (s_ret se_int)))
structure Tx_law (P : Program) (w : World) (K : PySem.W.Frag) (mg : Str → Option Value) (base : Heap) (cl : Nat → Addr) (A : Adr) : Prop where
  z_abs : mg "abs" = none
  z_len : mg "len" = none
  c__law_cell_at : Cal P w K mg base 1 "_law_cell_at" ["_law_script", "_law_k"] (spM ⟨K, cl⟩ mi__law_cell_at false)
  c__law_metre : Cal P w K mg base 2 "_law_metre" ["_law_cells"] (spM ⟨K, cl⟩ mi__law_metre false)
  c__law_spoiled : Cal P w K mg base 2 "_law_spoiled" ["_law_words_here", "_law_cell"] (spM ⟨K, cl⟩ mi__law_spoiled false)
  c__law_told : Cal P w K mg base 4 "_law_told" ["_law_text"] (spM ⟨K, cl⟩ mi__law_told false)
  c__law_words : Cal P w K mg base 1 "_law_words" ["_law_metre_here"] (spM ⟨K, cl⟩ mi__law_words false)
theorem ok_law {f : Addr} {fd : FuncData} (F : Fun K "law" "law" s_law f fd) (T : Tx_law P w K mg base cl A) : FnOk P w K mg base CX0 5 f fd ["_law_script"] (spM ⟨K, cl⟩ mi_law false) := by
  refine F.ok sc_law (fun vs H Q E h => spM_len h) (fun cdv A' outer s H vs Q E hr h => body_ok (G := []) (G' := []) (L := []) (N := ["_law_script", "_law_metre_here", "_law_words_here", "_law_text", "_law_wrong", "_law_at", "_law_bad_here"]) rfl (by decide) (by decide) (fun B H' => ?_) h)
  exact (ss_cons (s_set 1 sc_law.nd (se_callV T.c__law_metre hr (sa_cons (se_add (se_sl (se_v 0) (so_some se_int) (so_some se_int)) (se_sl (se_lst (sa_cons se_int sa_nil)) (so_some (se_div (se_len T.z_len (se_v 0)) se_int)) so_none)) sa_nil))) (ss_cons (s_set 2 sc_law.nd (se_callV T.c__law_words hr (sa_cons (se_v 1) sa_nil))) (ss_cons (s_set 3 sc_law.nd (se_join2 se_str (se_v 2))) (ss_cons (s_if (SW.st (sw_or (st_cmp (sc_ne hr (se_callV T.c__law_told hr (sa_cons (se_v 3) sa_nil)) (se_tup (sa_cons se_str (sa_cons (se_v 1) sa_nil))))) (sw_or1 (st_cmp (sc_ne hr (se_callV T.c__law_told hr (sa_cons se_str sa_nil)) (se_tup (sa_cons se_str (sa_cons se_int sa_nil)))))))) (ss_one (s_ret se_bl)) ss_nil) (ss_cons (s_unp (se_callV T.c__law_spoiled hr (sa_cons (se_v 2) (sa_cons (se_abs T.z_abs (se_callV T.c__law_cell_at hr (sa_cons (se_v 0) (sa_cons se_int sa_nil)))) sa_nil))) (sg_t (sgs_cons 4 sc_law.nd (sgs_cons 5 sc_law.nd sgs_nil)))) (ss_cons (s_if (st_cmp (sc_is (se_v 5) se_non)) (ss_one (s_set 5 sc_law.nd (se_sub (se_len T.z_len (se_v 4)) se_int))) ss_nil) (ss_cons (s_set 6 sc_law.nd (se_join2 se_str (se_v 4))) (ss_cons (s_if (SW.st (sw_or (st_cmp (sc_ne hr (se_callV T.c__law_told hr (sa_cons (se_v 6) sa_nil)) (se_tup (sa_cons se_str (sa_cons (se_v 5) sa_nil))))) (sw_or1 (st_cmp (sc_ne hr (se_callV T.c__law_told hr (sa_cons (se_v 6) sa_nil)) (se_tup (sa_cons se_str (sa_cons (se_v 5) sa_nil)))))))) (ss_one (s_ret se_bl)) ss_nil) (ss_cons (s_if (st_cmp (sc_ne hr (se_callV T.c__law_told hr (sa_cons (se_add (se_v 3) se_str) sa_nil)) (se_tup (sa_cons se_str (sa_cons (se_len T.z_len (se_v 2)) sa_nil))))) (ss_one (s_ret se_bl)) ss_nil) (ss_one (s_ret (se_cmp (sc_eq hr (se_callV T.c__law_told hr (sa_cons (se_v 3) sa_nil)) (se_tup (sa_cons se_str (sa_cons (se_v 1) sa_nil))))))))))))))))
end
end My
namespace My
open PySem L2 MR
def spLaw (K : PySem.W.Frag) : Sp := fun vs H Q _ => ∃ (a : Addr) (ns : List Int), vs = [V.ref a] ∧ Only H ∧ SqL K H a (ns.map V.int) ∧ ns.length ≤ 63 ∧ ∀ J, Q (.bl true) J
theorem law_sp {K : PySem.W.Frag} {cl : Nat → Addr} {vs : List V} {H : Hp} {Q : VK} {E : XK} (h : spLaw K vs H Q E) : spM ⟨K, cl⟩ mi_law false vs H Q E := by
  obtain ⟨a, ns, rfl, ho, hs, hl, k⟩ := h
  have ri : Reps ⟨K, cl⟩ (fun _ => True) H (ns.map V.int) (ns.map PV.int) := reps_of _ _ (fun i => .int i) ns
  refine ⟨fun _ => True, [.frz (ns.map PV.int)], .bl true, .cons ?_ .nil, law_true ns hl, fun v H' s r => ?_⟩
  · rcases hs with (hs | ⟨o, hs⟩) | hs
    · rcases ho a with z | ⟨o, xs, z⟩
      · rw [z] at hs; cases hs
      · rw [z] at hs; cases hs
    · exact .lstF hs ri
    · exact .lstK (.inr hs) ri
  · cases r
    exact k _
theorem all_mk {l : PySem.W.OpenLaw} {w : World} {K : PySem.W.Frag} {h : Heap} {mg : Str → Option Value} {fa : Addr} (X : K.In h) (G : h.Ns mainGlobals mg) (hfa : mg "law" = some (.ref fa))
    (aC_LiltError : PySem.W.nsIn K mainGlobals "LiltError" = some (some (.ref C_LiltError)))
    (aC_NoForm : PySem.W.nsIn K mainGlobals "NoForm" = some (some (.ref C_NoForm)))
    (aC_NoMetre : PySem.W.nsIn K mainGlobals "NoMetre" = some (some (.ref C_NoMetre)))
    (aC_NoName : PySem.W.nsIn K mainGlobals "NoName" = some (some (.ref C_NoName)))
    (aC_NoReading : PySem.W.nsIn K mainGlobals "NoReading" = some (some (.ref C_NoReading)))
    (aC_NoRow : PySem.W.nsIn K mainGlobals "NoRow" = some (some (.ref C_NoRow)))
    (aC_NoRule : PySem.W.nsIn K mainGlobals "NoRule" = some (some (.ref C_NoRule)))
    (aC_NoWord : PySem.W.nsIn K mainGlobals "NoWord" = some (some (.ref C_NoWord)))
    (a_0 : PySem.W.nsIn K mainGlobals "_law_mixed" = some (some (.ref f_0)))
    (l_0 : K.lookup f_0 = some ⟨oc_0, od_0, .func (PySem.W.fnOf "_law_mixed" "_law_mixed" (defArgs s__law_mixed) (defBody s__law_mixed) (defScope s__law_mixed) .none kV_0 dc_0 pm_0 an_0 cd_0 ct_0), sl_0⟩)
    (c_0 : PySem.W.codeIn K cd_0 "_law_mixed" = true)
    (k_0 : PySem.W.keepIn K (.ref f_0) = true)
    (a_1 : PySem.W.nsIn K mainGlobals "_law_patterns" = some (some (.ref f_1)))
    (l_1 : K.lookup f_1 = some ⟨oc_1, od_1, .func (PySem.W.fnOf "_law_patterns" "_law_patterns" (defArgs s__law_patterns) (defBody s__law_patterns) (defScope s__law_patterns) .none kV_1 dc_1 pm_1 an_1 cd_1 ct_1), sl_1⟩)
    (c_1 : PySem.W.codeIn K cd_1 "_law_patterns" = true)
    (k_1 : PySem.W.keepIn K (.ref f_1) = true)
    (a_2 : PySem.W.nsIn K mainGlobals "_law_metre" = some (some (.ref f_2)))
    (l_2 : K.lookup f_2 = some ⟨oc_2, od_2, .func (PySem.W.fnOf "_law_metre" "_law_metre" (defArgs s__law_metre) (defBody s__law_metre) (defScope s__law_metre) .none kV_2 dc_2 pm_2 an_2 cd_2 ct_2), sl_2⟩)
    (c_2 : PySem.W.codeIn K cd_2 "_law_metre" = true)
    (k_2 : PySem.W.keepIn K (.ref f_2) = true)
    (a_3 : PySem.W.nsIn K mainGlobals "_law_words" = some (some (.ref f_3)))
    (l_3 : K.lookup f_3 = some ⟨oc_3, od_3, .func (PySem.W.fnOf "_law_words" "_law_words" (defArgs s__law_words) (defBody s__law_words) (defScope s__law_words) .none kV_3 dc_3 pm_3 an_3 cd_3 ct_3), sl_3⟩)
    (c_3 : PySem.W.codeIn K cd_3 "_law_words" = true)
    (k_3 : PySem.W.keepIn K (.ref f_3) = true)
    (a_4 : PySem.W.nsIn K mainGlobals "_law_bad" = some (some (.ref f_4)))
    (l_4 : K.lookup f_4 = some ⟨oc_4, od_4, .func (PySem.W.fnOf "_law_bad" "_law_bad" (defArgs s__law_bad) (defBody s__law_bad) (defScope s__law_bad) .none kV_4 dc_4 pm_4 an_4 cd_4 ct_4), sl_4⟩)
    (c_4 : PySem.W.codeIn K cd_4 "_law_bad" = true)
    (k_4 : PySem.W.keepIn K (.ref f_4) = true)
    (a_5 : PySem.W.nsIn K mainGlobals "_law_spoiled" = some (some (.ref f_5)))
    (l_5 : K.lookup f_5 = some ⟨oc_5, od_5, .func (PySem.W.fnOf "_law_spoiled" "_law_spoiled" (defArgs s__law_spoiled) (defBody s__law_spoiled) (defScope s__law_spoiled) .none kV_5 dc_5 pm_5 an_5 cd_5 ct_5), sl_5⟩)
    (c_5 : PySem.W.codeIn K cd_5 "_law_spoiled" = true)
    (k_5 : PySem.W.keepIn K (.ref f_5) = true)
    (a_6 : PySem.W.nsIn K mainGlobals "is_pattern" = some (some (.ref f_6)))
    (l_6 : K.lookup f_6 = some ⟨oc_6, od_6, .func (PySem.W.fnOf "is_pattern" "is_pattern" (defArgs s_is_pattern) (defBody s_is_pattern) (defScope s_is_pattern) .none kV_6 dc_6 pm_6 an_6 cd_6 ct_6), sl_6⟩)
    (c_6 : PySem.W.codeIn K cd_6 "is_pattern" = true)
    (k_6 : PySem.W.keepIn K (.ref f_6) = true)
    (a_7 : PySem.W.nsIn K mainGlobals "are_patterns" = some (some (.ref f_7)))
    (l_7 : K.lookup f_7 = some ⟨oc_7, od_7, .func (PySem.W.fnOf "are_patterns" "are_patterns" (defArgs s_are_patterns) (defBody s_are_patterns) (defScope s_are_patterns) .none kV_7 dc_7 pm_7 an_7 cd_7 ct_7), sl_7⟩)
    (c_7 : PySem.W.codeIn K cd_7 "are_patterns" = true)
    (k_7 : PySem.W.keepIn K (.ref f_7) = true)
    (a_8 : PySem.W.nsIn K mainGlobals "read_metre" = some (some (.ref f_8)))
    (l_8 : K.lookup f_8 = some ⟨oc_8, od_8, .func (PySem.W.fnOf "read_metre" "read_metre" (defArgs s_read_metre) (defBody s_read_metre) (defScope s_read_metre) .none kV_8 dc_8 pm_8 an_8 cd_8 ct_8), sl_8⟩)
    (c_8 : PySem.W.codeIn K cd_8 "read_metre" = true)
    (k_8 : PySem.W.keepIn K (.ref f_8) = true)
    (a_9 : PySem.W.nsIn K mainGlobals "_law_told" = some (some (.ref f_9)))
    (l_9 : K.lookup f_9 = some ⟨oc_9, od_9, .func (PySem.W.fnOf "_law_told" "_law_told" (defArgs s__law_told) (defBody s__law_told) (defScope s__law_told) .none kV_9 dc_9 pm_9 an_9 cd_9 ct_9), sl_9⟩)
    (c_9 : PySem.W.codeIn K cd_9 "_law_told" = true)
    (k_9 : PySem.W.keepIn K (.ref f_9) = true)
    (a_10 : PySem.W.nsIn K mainGlobals "_law_cell_at" = some (some (.ref f_10)))
    (l_10 : K.lookup f_10 = some ⟨oc_10, od_10, .func (PySem.W.fnOf "_law_cell_at" "_law_cell_at" (defArgs s__law_cell_at) (defBody s__law_cell_at) (defScope s__law_cell_at) .none kV_10 dc_10 pm_10 an_10 cd_10 ct_10), sl_10⟩)
    (c_10 : PySem.W.codeIn K cd_10 "_law_cell_at" = true)
    (k_10 : PySem.W.keepIn K (.ref f_10) = true)
    (a_11 : PySem.W.nsIn K mainGlobals "law" = some (some (.ref f_11)))
    (l_11 : K.lookup f_11 = some ⟨oc_11, od_11, .func (PySem.W.fnOf "law" "law" (defArgs s_law) (defBody s_law) (defScope s_law) .none kV_11 dc_11 pm_11 an_11 cd_11 ct_11), sl_11⟩)
    (c_11 : PySem.W.codeIn K cd_11 "law" = true)
    (k_11 : PySem.W.keepIn K (.ref f_11) = true)
    (a_xNoMetre : PySem.W.findIn K (.ref C_NoMetre) "__init__" = some (some (.ref fx_NoMetre)))
    (i_xNoMetre : PySem.W.isFn K (.ref fx_NoMetre) = true)
    (l_xNoMetre : K.lookup fx_NoMetre = some ⟨oc_xNoMetre, od_xNoMetre, .func (PySem.W.fnOf "__init__" "NoMetre.__init__" (defArgs s_NoMetre____init__) (defBody s_NoMetre____init__) (defScope s_NoMetre____init__) .none kV_xNoMetre dc_xNoMetre pm_xNoMetre an_xNoMetre cd_xNoMetre ct_xNoMetre), sl_xNoMetre⟩)
    (c_xNoMetre : PySem.W.codeIn K cd_xNoMetre "NoMetre.__init__" = true)
    (k_xNoMetre : PySem.W.keepIn K (.ref fx_NoMetre) = true)
    (z_ValueError : PySem.W.nsIn K mainGlobals "ValueError" = some none)
    (z_abs : PySem.W.nsIn K mainGlobals "abs" = some none)
    (z_all : PySem.W.nsIn K mainGlobals "all" = some none)
    (z_bool : PySem.W.nsIn K mainGlobals "bool" = some none)
    (z_enumerate : PySem.W.nsIn K mainGlobals "enumerate" = some none)
    (z_int : PySem.W.nsIn K mainGlobals "int" = some none)
    (z_isinstance : PySem.W.nsIn K mainGlobals "isinstance" = some none)
    (z_len : PySem.W.nsIn K mainGlobals "len" = some none)
    (z_list : PySem.W.nsIn K mainGlobals "list" = some none)
    (z_range : PySem.W.nsIn K mainGlobals "range" = some none)
    (z_set : PySem.W.nsIn K mainGlobals "set" = some none)
    (z_tuple : PySem.W.nsIn K mainGlobals "tuple" = some none)
    (g_MOST_MARKS : PySem.W.nsIn K mainGlobals "MOST_MARKS" = some (some (.int 4 t_MOST_MARKS)))
    (g_MOST_PATTERNS : PySem.W.nsIn K mainGlobals "MOST_PATTERNS" = some (some (.int 4 t_MOST_PATTERNS)))
    (g_MOST_SLOTS : PySem.W.nsIn K mainGlobals "MOST_SLOTS" = some (some (.int 12 t_MOST_SLOTS)))
    (g_PATTERN_MARKS : PySem.W.nsIn K mainGlobals "PATTERN_MARKS" = some (some (.str "u-x" t_PATTERN_MARKS)))
    (xa_NoMetre : PySem.W.findIn K (.ref C_NoMetre) "__getattribute__" = some (some (.builtin "BaseException.__getattribute__")))
    (xb_NoMetre : PySem.W.findIn K (.ref C_NoMetre) "__getattr__" = some none)
    (xd_NoMetre : PySem.W.findIn K (.ref C_NoMetre) "__class__" = some (some (.builtin "object.__class__")))
    (xe_NoMetre : PySem.W.mroIn K C_NoMetre (.type "object") = some true)
    (xf_NoMetre : PySem.W.mroIn K C_NoMetre (.type "BaseException") = some true)
    (xk_NoMetre_11_13_14_15_16_17 : PySem.W.kitAny K (.ref C_NoMetre) [.ref C_NoRule, .ref C_NoForm, .ref C_NoWord, .ref C_NoReading, .ref C_NoName, .ref C_NoRow] = some false)
    (xk_NoMetre_NoMetre : PySem.W.kitOne K (.ref C_NoMetre) (.ref C_NoMetre) = some true)
    (xk_NoMetre_ValueError : PySem.W.kitOne K (.ref C_NoMetre) (.type "ValueError") = some true)
    (xk_int_bool : PySem.W.kitOne K (.type "int") (.type "bool") = some false)
    (xm_NoMetre_LiltError : PySem.W.exmOne K (.ref C_NoMetre) (.ref C_LiltError) = some true)
    (xs_NoMetre : excInI K C_NoMetre fx_NoMetre = true)
    (xt_LiltError : PySem.W.specialIn K (.ref C_LiltError) "__getattribute__" = some (some (.builtin "type.__getattribute__")))
    (xu_LiltError : PySem.W.readsIn K C_LiltError (.type "type") = true)
    (xv_LiltError : PySem.W.findCls K (.ref C_LiltError) (.type "type") "__init__" = some (.val (.builtin "ValueError.__init__"))) :
    ∃ fd : FuncData, (∀ (s : Shared) (v : Value), BindsTo s fd ⟨[v], []⟩ [("_law_script", v)]) ∧ ∀ base : Heap, K.In base → base.Ns mainGlobals mg → FnOk l.prog w K mg base CX0 5 fa fd ["_law_script"] (spLaw K) := by
  have e := hfa.symm.trans (PySem.W.mg_of X G a_11)
  cases e
  have F_0 := fun_mk (st := s__law_mixed) l_0 c_0 k_0
  have b_0 := F_0.binds (ps := ["_law_cell", "_law_k"]) fun _ _ _ _ _ _ us hl => MR.len2 us hl (fun _ _ => rfl)
  have F_1 := fun_mk (st := s__law_patterns) l_1 c_1 k_1
  have b_1 := F_1.binds (ps := ["_law_n"]) fun _ _ _ _ _ _ us hl => MR.len1 us hl (fun _ => rfl)
  have F_2 := fun_mk (st := s__law_metre) l_2 c_2 k_2
  have b_2 := F_2.binds (ps := ["_law_cells"]) fun _ _ _ _ _ _ us hl => MR.len1 us hl (fun _ => rfl)
  have F_3 := fun_mk (st := s__law_words) l_3 c_3 k_3
  have b_3 := F_3.binds (ps := ["_law_metre_here"]) fun _ _ _ _ _ _ us hl => MR.len1 us hl (fun _ => rfl)
  have F_4 := fun_mk (st := s__law_bad) l_4 c_4 k_4
  have b_4 := F_4.binds (ps := ["_law_cell"]) fun _ _ _ _ _ _ us hl => MR.len1 us hl (fun _ => rfl)
  have F_5 := fun_mk (st := s__law_spoiled) l_5 c_5 k_5
  have b_5 := F_5.binds (ps := ["_law_words_here", "_law_cell"]) fun _ _ _ _ _ _ us hl => MR.len2 us hl (fun _ _ => rfl)
  have F_6 := fun_mk (st := s_is_pattern) l_6 c_6 k_6
  have b_6 := F_6.binds (ps := ["text"]) fun _ _ _ _ _ _ us hl => MR.len1 us hl (fun _ => rfl)
  have F_7 := fun_mk (st := s_are_patterns) l_7 c_7 k_7
  have b_7 := F_7.binds (ps := ["texts"]) fun _ _ _ _ _ _ us hl => MR.len1 us hl (fun _ => rfl)
  have F_8 := fun_mk (st := s_read_metre) l_8 c_8 k_8
  have b_8 := F_8.binds (ps := ["text"]) fun _ _ _ _ _ _ us hl => MR.len1 us hl (fun _ => rfl)
  have F_9 := fun_mk (st := s__law_told) l_9 c_9 k_9
  have b_9 := F_9.binds (ps := ["_law_text"]) fun _ _ _ _ _ _ us hl => MR.len1 us hl (fun _ => rfl)
  have F_10 := fun_mk (st := s__law_cell_at) l_10 c_10 k_10
  have b_10 := F_10.binds (ps := ["_law_script", "_law_k"]) fun _ _ _ _ _ _ us hl => MR.len2 us hl (fun _ _ => rfl)
  have F_11 := fun_mk (st := s_law) l_11 c_11 k_11
  have b_11 := F_11.binds (ps := ["_law_script"]) fun _ _ _ _ _ _ us hl => MR.len1 us hl (fun _ => rfl)
  refine ⟨PySem.W.fnOf "law" "law" (defArgs s_law) (defBody s_law) (defScope s_law) .none kV_11 dc_11 pm_11 an_11 cd_11 ct_11, fun s v => .of_eq rfl, fun base _ _ => ?_⟩
  let cl : Nat → Addr := fun n => match n with | 10 => C_LiltError | 13 => C_NoForm | 12 => C_NoMetre | 16 => C_NoName | 15 => C_NoReading | 17 => C_NoRow | 11 => C_NoRule | 14 => C_NoWord | _ => 0
  let A : Adr := { t_MOST_MARKS := t_MOST_MARKS, t_MOST_PATTERNS := t_MOST_PATTERNS, t_MOST_SLOTS := t_MOST_SLOTS, t_PATTERN_MARKS := t_PATTERN_MARKS }
  have F_xNoMetre := fun_mk (st := s_NoMetre____init__) l_xNoMetre c_xNoMetre k_xNoMetre
  have b_xNoMetre := F_xNoMetre.binds (ps := ["self", "at"]) fun _ _ _ _ _ _ us hl => MR.len2 us hl (fun _ _ => rfl)
  have kxi_NoMetre : CalXi l.prog w K mg base (cl 12) 1 := ⟨_, _, _, _, okxi_NoMetre (cl := cl) F_xNoMetre xs_NoMetre ⟨xt_LiltError, xu_LiltError, xv_LiltError, by decide +kernel⟩ (PySem.W.mg_of X G aC_LiltError), b_xNoMetre, i_xNoMetre, xs_NoMetre⟩
  have G_0 := ok__law_mixed (P := l.prog) (w := w) (mg := mg) (base := base) (cl := cl) (A := A) F_0 ⟨trivial⟩
  have k__law_mixed := cal_mk F_0 (PySem.W.mg_of X G a_0) b_0 G_0
  have G_1 := ok__law_patterns (P := l.prog) (w := w) (mg := mg) (base := base) (cl := cl) (A := A) F_1 ⟨PySem.W.mg_none_of X G z_range, PySem.W.mg_none_of X G z_tuple⟩
  have k__law_patterns := cal_mk F_1 (PySem.W.mg_of X G a_1) b_1 G_1
  have G_2 := ok__law_metre (P := l.prog) (w := w) (mg := mg) (base := base) (cl := cl) (A := A) F_2 ⟨PySem.W.mg_none_of X G z_enumerate, PySem.W.mg_none_of X G z_tuple, k__law_mixed, k__law_patterns⟩
  have k__law_metre := cal_mk F_2 (PySem.W.mg_of X G a_2) b_2 G_2
  have G_3 := ok__law_words (P := l.prog) (w := w) (mg := mg) (base := base) (cl := cl) (A := A) F_3 ⟨PySem.W.mg_none_of X G z_list⟩
  have k__law_words := cal_mk F_3 (PySem.W.mg_of X G a_3) b_3 G_3
  have G_4 := ok__law_bad (P := l.prog) (w := w) (mg := mg) (base := base) (cl := cl) (A := A) F_4 ⟨trivial⟩
  have k__law_bad := cal_mk F_4 (PySem.W.mg_of X G a_4) b_4 G_4
  have G_5 := ok__law_spoiled (P := l.prog) (w := w) (mg := mg) (base := base) (cl := cl) (A := A) F_5 ⟨PySem.W.mg_none_of X G z_int, PySem.W.mg_none_of X G z_len, k__law_bad⟩
  have k__law_spoiled := cal_mk F_5 (PySem.W.mg_of X G a_5) b_5 G_5
  have G_6 := ok_is_pattern (P := l.prog) (w := w) (mg := mg) (base := base) (cl := cl) (A := A) F_6 ⟨PySem.W.mg_none_of X G z_all, PySem.W.mg_none_of X G z_len, PySem.W.mg_of X G g_MOST_MARKS, PySem.W.mg_of X G g_PATTERN_MARKS⟩
  have k_is_pattern := cal_mk F_6 (PySem.W.mg_of X G a_6) b_6 G_6
  have G_7 := ok_are_patterns (P := l.prog) (w := w) (mg := mg) (base := base) (cl := cl) (A := A) F_7 ⟨PySem.W.mg_none_of X G z_all, PySem.W.mg_none_of X G z_len, PySem.W.mg_none_of X G z_set, PySem.W.mg_of X G g_MOST_PATTERNS, k_is_pattern⟩
  have k_are_patterns := cal_mk F_7 (PySem.W.mg_of X G a_7) b_7 G_7
  have kx_read_metre := calx_mk F_8 (PySem.W.mg_of X G a_8) b_8 (okx_read_metre (P := l.prog) (w := w) (mg := mg) (base := base) (cl := cl) (A := A) F_8 ⟨PySem.W.mg_none_of X G z_enumerate, PySem.W.mg_none_of X G z_len, PySem.W.mg_none_of X G z_tuple, PySem.W.mg_of X G g_MOST_SLOTS, k_are_patterns, PySem.W.mg_of X G aC_NoMetre, kxi_NoMetre⟩)
  have k_read_metre := calx_cal kx_read_metre
  have G_9 := ok__law_told (P := l.prog) (w := w) (mg := mg) (base := base) (cl := cl) (A := A) F_9 ⟨PySem.W.mg_none_of X G z_ValueError, PySem.W.mg_none_of X G z_bool, PySem.W.mg_none_of X G z_isinstance, k_read_metre, ⟨_, xs_NoMetre⟩, xk_NoMetre_11_13_14_15_16_17, xk_NoMetre_NoMetre, xk_NoMetre_ValueError, xk_int_bool, PySem.W.mg_of X G aC_LiltError, PySem.W.mg_of X G aC_NoForm, PySem.W.mg_of X G aC_NoMetre, PySem.W.mg_of X G aC_NoName, PySem.W.mg_of X G aC_NoReading, PySem.W.mg_of X G aC_NoRow, PySem.W.mg_of X G aC_NoRule, PySem.W.mg_of X G aC_NoWord, kx_read_metre, ⟨xa_NoMetre, xb_NoMetre, xd_NoMetre, xe_NoMetre, xf_NoMetre⟩, xm_NoMetre_LiltError⟩
  have k__law_told := cal_mk F_9 (PySem.W.mg_of X G a_9) b_9 G_9
  have G_10 := ok__law_cell_at (P := l.prog) (w := w) (mg := mg) (base := base) (cl := cl) (A := A) F_10 ⟨PySem.W.mg_none_of X G z_len⟩
  have k__law_cell_at := cal_mk F_10 (PySem.W.mg_of X G a_10) b_10 G_10
  have G_11 := ok_law (P := l.prog) (w := w) (mg := mg) (base := base) (cl := cl) (A := A) F_11 ⟨PySem.W.mg_none_of X G z_abs, PySem.W.mg_none_of X G z_len, k__law_cell_at, k__law_metre, k__law_spoiled, k__law_told, k__law_words⟩
  exact G_11.imp fun vs H Q E h => law_sp h
theorem walk {l : PySem.W.OpenLaw} {q : Program} {loose : List Str} {XP : (Str → Option Value) → Heap → Prop} {YP : World → Heap → Prop} {d : DefRec} {K : Params → PySem.W.Frag} (hn : l.most = some 63) (hdf : d.params.defaults = [])
    (hY : ∀ (w : World) (h : Heap), YP w h → (K w.params).In h)
    (F : ∀ (w : World) (mg : Str → Option Value) (fa : Addr) (h : Heap), (K w.params).In h → h.Ns mainGlobals mg → mg d.name = some (.ref fa) →
      ∃ fd : FuncData, (∀ (s : Shared) (u : Value), BindsTo s fd ⟨[u], []⟩ [("_law_script", u)]) ∧ ∀ base : Heap, (K w.params).In base → base.Ns mainGlobals mg → FnOk l.prog w (K w.params) mg base CX0 5 fa fd ["_law_script"] (spLaw (K w.params))) :
    PySem.W.WalkO q loose XP YP l.row.toRowW d [] (fun f vs => PySem.call f vs) :=
  L2.walk_of (n := 63) (k := 5) (x := "_law_script") (CX := fun _ => CX0) (sp := fun w => spLaw (K w.params)) hn (by decide) hdf ⟨rfl, by decide, by decide⟩ hY F (fun _ _ a ns hl hO hS => ⟨a, ns, rfl, hO, hS, hl, fun _ => rfl⟩) fun _ _ _ _ _ z => z
end My
open PySem PySem.W PyProof.Rows
set_option maxRecDepth 100000 in
set_option maxHeartbeats 0 in
theorem PySem.Challenge.cw_lilt_k31_no_metre_holds : PySem.Challenge.rw_lilt_k31_no_metre.Holds := by
  w_on; o_law; k_head; (case hw => w_witness2)
  k_fill
  refine My.walk (l := PySem.Challenge.rw_lilt_k31_no_metre) rfl rfl (fun w h Y => PySem.W.kIn_of Y) ?F
  case F =>
    intro w mg fa h KX G hmg
    refine' My.all_mk KX G hmg ?aC_LiltError ?aC_NoForm ?aC_NoMetre ?aC_NoName ?aC_NoReading ?aC_NoRow ?aC_NoRule ?aC_NoWord ?a_0 ?l_0 ?c_0 ?k_0 ?a_1 ?l_1 ?c_1 ?k_1 ?a_2 ?l_2 ?c_2 ?k_2 ?a_3 ?l_3 ?c_3 ?k_3 ?a_4 ?l_4 ?c_4 ?k_4 ?a_5 ?l_5 ?c_5 ?k_5 ?a_6 ?l_6 ?c_6 ?k_6 ?a_7 ?l_7 ?c_7 ?k_7 ?a_8 ?l_8 ?c_8 ?k_8 ?a_9 ?l_9 ?c_9 ?k_9 ?a_10 ?l_10 ?c_10 ?k_10 ?a_11 ?l_11 ?c_11 ?k_11 ?a_xNoMetre ?i_xNoMetre ?l_xNoMetre ?c_xNoMetre ?k_xNoMetre ?z_ValueError ?z_abs ?z_all ?z_bool ?z_enumerate ?z_int ?z_isinstance ?z_len ?z_list ?z_range ?z_set ?z_tuple ?g_MOST_MARKS ?g_MOST_PATTERNS ?g_MOST_SLOTS ?g_PATTERN_MARKS ?xa_NoMetre ?xb_NoMetre ?xd_NoMetre ?xe_NoMetre ?xf_NoMetre ?xk_NoMetre_11_13_14_15_16_17 ?xk_NoMetre_NoMetre ?xk_NoMetre_ValueError ?xk_int_bool ?xm_NoMetre_LiltError ?xs_NoMetre ?xt_LiltError ?xu_LiltError ?xv_LiltError
    (case aC_LiltError | aC_NoForm | aC_NoMetre | aC_NoName | aC_NoReading | aC_NoRow | aC_NoRule | aC_NoWord | a_0 | l_0 | c_0 | k_0 | a_1 | l_1 | c_1 | k_1 | a_2 | l_2 | c_2 | k_2 | a_3 | l_3 | c_3 | k_3 | a_4 | l_4 | c_4 | k_4 | a_5 | l_5 | c_5 | k_5 | a_6 | l_6 | c_6 | k_6 | a_7 | l_7 | c_7 | k_7 | a_8 | l_8 | c_8 | k_8 | a_9 | l_9 | c_9 | k_9 | a_10 | l_10 | c_10 | k_10 | a_11 | l_11 | c_11 | k_11 | a_xNoMetre | i_xNoMetre | l_xNoMetre | c_xNoMetre | k_xNoMetre | z_ValueError | z_abs | z_all | z_bool | z_enumerate | z_int | z_isinstance | z_len | z_list | z_range | z_set | z_tuple | g_MOST_MARKS | g_MOST_PATTERNS | g_MOST_SLOTS | g_PATTERN_MARKS => k_is)
    (case xa_NoMetre => k_is)
    (case xb_NoMetre => k_is)
    (case xd_NoMetre => k_is)
    (case xe_NoMetre => k_is)
    (case xf_NoMetre => k_is)
    (case xk_NoMetre_11_13_14_15_16_17 => first | rfl | k_is | kit_is | kernel_rfl)
    (case xk_NoMetre_NoMetre => first | rfl | k_is | kit_is)
    (case xk_NoMetre_ValueError => first | rfl | k_is | kit_is)
    (case xk_int_bool => first | rfl | k_is | kit_is)
    (case xm_NoMetre_LiltError => kts_exm)
    (case xs_NoMetre => kernel_rfl)
    (case xt_LiltError => first | k_is | kernel_rfl)
    (case xu_LiltError => first | k_is | kernel_rfl)
    (case xv_LiltError => first | k_is | kernel_rfl)
