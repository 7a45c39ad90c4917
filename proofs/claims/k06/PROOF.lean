import PyProof.Rows.All
import Wide.All
import OpenK.AllK
import Wide.FinOn
import Lean
import PyProof.EqAt
import PyProof.EqKinds
import PyProof.TupleCall
import KE.KLam
import KE.KSortKey
import KE.KNestM
import KE.KRevIter
import PyProof.ListStr
import PyProof.Rows.Range3
import PyProof.Rows.SetFrom
import KE.KIntText
import PyProof.WalkInts
import PyProof.ListRange
import PyProof.CollectWalk
import PyProof.AutoListH
import PySem.Challenge.RW_lilt_k06_whole_order_of_rows
set_option Elab.async false
set_option linter.all false
set_option maxRecDepth 100000
set_option maxHeartbeats 4000000
set_option compiler.extract_closed false
noncomputable section
namespace L2
open PySem PySem.Spec PyProof.Rows
section
variable {prog : Program} {w : World} {κ : Type} [DecidableEq κ] {kd : HeapKind prog w κ} {A : Around} {E : Value → Shared → Prop} {s : Shared} {d a it : Addr} {xs : List (κ × Addr × Value)} {k : κ} {v : Value}
def DictE (kd : HeapKind prog w κ) (h : Heap) (d : Addr) (xs : List (κ × Addr × Value)) : Prop :=
  ∃ o es, h.get? d = some o ∧ o.ExactDict ∧ o.data = .dict es xs.length ∧ es.toList = xs.map (entryOfKey kd) ∧ (∀ x ∈ xs, kd.is h x.1 x.2.1) ∧ (xs.map (·.1)).Nodup
theorem DictE.of {h : Heap} (m : DictE kd h d xs) : h.DictOfH kd d xs := let ⟨o, es, q⟩ := m; ⟨o, es, _, q⟩
theorem dictSetE {Q : Unit → Shared → Prop} (hu : kd.room A) (hk : kd.is s.heap k a) (m : DictE kd s.heap d xs) (hz : xs.length ≤ sizeLine)
    (q : ∀ h', DictE kd h' d (storedH xs k a v) → Heap.SameBut d s.heap h' → Q () { s with heap := h', toks := s.toks + kd.draws k }) : wpAny (model prog w) A (dictSet d (.ref a) v) Q E s := by
  obtain ⟨o, es, o1, o2, o3, o4, o5, o6⟩ := m
  unfold dictSet
  try with_reducible refine wpAny_holding ?_
  refine wpAny_bind (kd.pyHash hu hk ?_)
  unfold dictSetHashed
  try with_reducible refine wpAny_holding ?_
  refine wpAny_bind (wpAny_dictFind_heap (s := { s with toks := s.toks + kd.draws k }) hu hk o1 o3 o4 o5 o6 (fun no => ?_) fun j p hj => ?_)
  · have nk : k ∉ xs.map (·.1) := not_mem_keys_of_get no
    have e := storedH_new (atKey_none_of_get no) a v
    rw [e] at q
    refine wpAny_bind (wpAny_rule (wpAny_updateDictKeys (hz := by have := size_of_entries o4; omega) (s := { s with toks := s.toks + kd.draws k }) o1 o3 (q _ ⟨_, _, Heap.get?_update_self _ o1 (Obj.isFreed_of_dict (Obj.data_mapDictKeys o3 _)), o2.mapDictKeys _, by rw [List.length_append]; exact Obj.data_mapDictKeys o3 _, ?_, fun x hx => ?_, ?_⟩ (Heap.SameBut.update ..))))
    · simp [o4, entryOfKey]
    · rcases List.mem_append.mp hx with z | z
      · exact kd.keeps (o5 x z) o1 o3 (Heap.SameBut.update ..)
      · rw [List.mem_singleton.mp z]; exact kd.keeps hk o1 o3 (Heap.SameBut.update ..)
    · rw [List.map_append]
      exact List.nodup_append.mpr ⟨o6, by simp, fun x hx y hy z => nk (by rw [List.map_cons, List.map_nil, List.mem_singleton] at hy; have hy : y = k := hy; subst hy z; exact hx)⟩
  · have e := storedH_old (atKey_of_get o6 hj) a v
    rw [e] at q
    refine wpAny_bind (wpAny_rule (wpAny_bind (wpAny_updateDict (s := { s with toks := s.toks + kd.draws k }) o1 o3 (wpAny_point (q _ ⟨_, _, Heap.get?_update_self _ o1 (Obj.isFreed_of_dict (Obj.data_mapDict o3 _)), o2.mapDict _, by rw [List.length_map]; exact Obj.data_mapDict o3 _, ?_, fun x hx => ?_, ?_⟩ (Heap.SameBut.update ..))))))
    · have y := modify_map_putAt (entryOfKey kd) (fun e : DictEntry => { e with val := v }) k v (fun _ _ => rfl) o6 hj
      rw [← o4] at y
      cases es
      simpa using y
    · obtain ⟨y, hy, rfl⟩ := List.mem_map.mp hx
      unfold putAt
      split <;> exact kd.keeps (o5 y hy) o1 o3 (Heap.SameBut.update ..)
    · rw [keys_map_putAt]; exact o6
theorem setItemE {Q : Unit → Shared → Prop} (hu : kd.room A.in1) (hk : kd.is s.heap k a) (m : DictE kd s.heap d xs) (hz : xs.length ≤ sizeLine)
    (q : ∀ h', DictE kd h' d (storedH xs k a v) → Heap.SameBut d s.heap h' → Q () { s with heap := h', toks := s.toks + kd.draws k }) : wpAny (model prog w) A (setItem (.ref d) (.ref a) v) Q E s := by
  have ty := m.of.typeIs
  unfold setItem
  try with_reducible refine wpAny_holding ?_
  refine wpAny_bind (wpAny_sequenceKey ty (by decide) (wpAny_bind (wpAny_callSpecial?_slot (name := Str.ofString "__setitem__") ty slot_dict_setitem (wpAny_call_entry slot_dict_setitem ty entry_dict_setitem ?_ (args_dict_setitem _ _ _)))))
  show wpAny _ _ (Builtin.Dict.notOrdered "__setitem__" ⟨[.ref d, .ref a, v], []⟩ >>= _) _ _ s
  refine wpAny_bind (wpAny_notOrdered_dict ty ?_)
  show wpAny _ _ (dictSet d (.ref a) v >>= fun _ => _) _ _ s
  exact wpAny_bind (dictSetE hu hk m hz fun h' m' hs' => wpAny_pure ⟨.none, rfl, wpAny_pure (q h' m' hs')⟩)
end
end L2
namespace L2
open PySem PySem.Spec PyProof.Rows
abbrev Key := Sum Int Str
def keyIs : Key → Value → Bool
  | .inl k, v => Value.isInt k v
  | .inr x, v => Value.isStrOf x v
def keyH (w : World) : Key → Int
  | .inl k => hashInt k
  | .inr x => hashStr w x
theorem keyIs_shape : ∀ {k : Key} {v : Value}, keyIs k v = true → (∃ i t, k = Sum.inl i ∧ v = Value.int i t) ∨ (∃ x t, k = Sum.inr x ∧ v = Value.str x t)
  | .inl i, v, h => by
    obtain ⟨t, e⟩ := Value.isInt_shape (k := i) (v := v) h
    exact .inl ⟨i, t, rfl, e⟩
  | .inr x, v, h => by
    obtain ⟨t, e⟩ := Value.isStrOf_shape (x := x) (v := v) h
    exact .inr ⟨x, t, rfl, e⟩
theorem keyIs_int (i : Int) (t : Tok) : keyIs (.inl i) (.int i t) = true := by simp [keyIs, Value.isInt]
theorem keyIs_str (x : Str) (t : Tok) : keyIs (.inr x) (.str x t) = true := by simp [keyIs, Value.isStrOf]
theorem key_ll (a b : Int) : decide ((Sum.inl a : Key) = Sum.inl b) = (a == b) := by
  by_cases e : a = b
  · subst e; simp
  · have h : ¬ (Sum.inl a : Key) = Sum.inl b := fun q => e (Sum.inl.inj q)
    rw [decide_eq_false h]
    exact (beq_eq_false_iff_ne.mpr e).symm
theorem key_rr (a b : Str) : decide ((Sum.inr a : Key) = Sum.inr b) = decide (a = b) := by
  by_cases e : a = b
  · subst e; simp
  · have h : ¬ (Sum.inr a : Key) = Sum.inr b := fun q => e (Sum.inr.inj q)
    rw [decide_eq_false h, decide_eq_false e]
theorem key_lr (a : Int) (b : Str) : decide ((Sum.inl a : Key) = Sum.inr b) = false := decide_eq_false (fun q => nomatch q)
theorem key_rl (a : Str) (b : Int) : decide ((Sum.inr a : Key) = Sum.inl b) = false := decide_eq_false (fun q => nomatch q)
def mixKind (prog : Program) (w : World) : PySem.KeyKind prog w Key where
  is := keyIs
  hash := keyH w
  inj := fun v a b ha hb => by
    rcases keyIs_shape ha with ⟨i, t, rfl, rfl⟩ | ⟨x, t, rfl, rfl⟩
    · rcases keyIs_shape hb with ⟨j, u, rfl, e⟩ | ⟨y, u, rfl, e⟩
      · injection e with e1 _; rw [e1]
      · exact nomatch e
    · rcases keyIs_shape hb with ⟨j, u, rfl, e⟩ | ⟨y, u, rfl, e⟩
      · exact nomatch e
      · injection e with e1 _; rw [e1]
  byValue := fun k v h => by
    rcases keyIs_shape h with ⟨i, t, rfl, rfl⟩ | ⟨x, t, rfl, rfl⟩ <;> rfl
  pyHash := fun hv h => by
    rcases keyIs_shape hv with ⟨i, t, rfl, rfl⟩ | ⟨x, t, rfl, rfl⟩
    · exact wpAny_pyHash_int h
    · exact wpAny_pyHash_str h
  eqBool := fun hu hv h => by
    rcases keyIs_shape hu with ⟨i, t, rfl, rfl⟩ | ⟨x, t, rfl, rfl⟩
    · rcases keyIs_shape hv with ⟨j, u, rfl, rfl⟩ | ⟨y, u, rfl, rfl⟩
      · rw [key_ll] at h; exact wpAny_eqBool_int h
      · rw [key_lr] at h; exact SeqAt.EqAt.int_str i t y u _ _ _ _ h
    · rcases keyIs_shape hv with ⟨j, u, rfl, rfl⟩ | ⟨y, u, rfl, rfl⟩
      · rw [key_rl] at h; exact SeqAt.EqAt.str_int x t j u _ _ _ _ h
      · rw [key_rr] at h; exact wpAny_eqBool_str h
  «strs» := fun k x t v h => by
    rcases keyIs_shape h with ⟨i, u, rfl, e⟩ | ⟨y, u, rfl, e⟩
    · exact nomatch e
    · injection e with e1 _
      subst e1
      cases v <;> rfl
def keyIsB : Key → Value → Bool
  | .inl k, .bool b => decide (k = if b = true then 1 else 0)
  | k, v => keyIs k v
theorem keyIsB_shape {k : Key} {v : Value} (h : keyIsB k v = true) : (∃ b, k = Sum.inl (if b = true then 1 else 0) ∧ v = Value.bool b) ∨ (∃ i t, k = Sum.inl i ∧ v = Value.int i t) ∨ (∃ x t, k = Sum.inr x ∧ v = Value.str x t) := by
  unfold keyIsB at h
  split at h
  · exact .inl ⟨_, congrArg _ (of_decide_eq_true h), rfl⟩
  · exact .inr (keyIs_shape h)
theorem keyIsB_of {k : Key} {v : Value} (h : keyIs k v = true) : keyIsB k v = true := by
  rcases keyIs_shape h with ⟨i, t, rfl, rfl⟩ | ⟨x, t, rfl, rfl⟩ <;> exact h
theorem keyIsB_bool (b : Bool) : keyIsB (.inl (if b = true then 1 else 0)) (.bool b) = true := decide_eq_true rfl
theorem key_bb (a b : Bool) : decide ((Sum.inl (if a = true then 1 else 0) : Key) = Sum.inl (if b = true then 1 else 0)) = (a == b) := by
  rw [key_ll]; cases a <;> cases b <;> rfl
theorem hash_bool {prog : Program} {w : World} {A : Around} {E : Value → Shared → Prop} {s : Shared} (b : Bool) {Q : Int → Shared → Prop} (h : Q (hashInt (if b = true then 1 else 0)) { s with toks := s.toks + 1 }) :
    wpAny (model prog w) A (pyHash (.bool b)) Q E s := by
  refine PySem.W.pyHash_slot (s := s) (T := "bool") (by cases b <;> exact PySem.typeIs_bool s _) PySem.F.slot_bool_hash entry_int_hash (args_int_hash _) (by rw [beq_builtin_none]) (.inl rfl) ?_
  have e : reduceHash (rawHash (if b = true then 1 else 0)) = hashInt (if b = true then 1 else 0) := by cases b <;> decide
  show wpAny _ _ (do ret (← mkInt (rawHash (if b = true then 1 else 0)))) _ _ s
  refine wpAny_mono (wpAny_ret_mkInt (Q := fun v s' => ∃ t, v = .int (rawHash (if b = true then 1 else 0)) t ∧ s' = { s with toks := s.toks + 1 }) ⟨_, rfl, rfl⟩) (fun fin s' hq => ?_) fun _ _ x => x
  obtain ⟨v, rfl, t, rfl, rfl⟩ := hq
  exact ⟨_, _, rfl, by rw [e]; exact h⟩
def mixKindB (prog : Program) (w : World) : PySem.KeyKind prog w Key where
  is := keyIsB
  hash := keyH w
  inj := fun v a b ha hb => by
    rcases keyIsB_shape ha with ⟨c, rfl, rfl⟩ | ⟨i, t, rfl, rfl⟩ | ⟨x, t, rfl, rfl⟩ <;> rcases keyIsB_shape hb with ⟨d, rfl, e⟩ | ⟨j, u, rfl, e⟩ | ⟨y, u, rfl, e⟩ <;> cases e <;> rfl
  byValue := fun k v h => by
    rcases keyIsB_shape h with ⟨c, rfl, rfl⟩ | ⟨i, t, rfl, rfl⟩ | ⟨x, t, rfl, rfl⟩ <;> rfl
  pyHash := fun hv h => by
    rcases keyIsB_shape hv with ⟨c, rfl, rfl⟩ | ⟨i, t, rfl, rfl⟩ | ⟨x, t, rfl, rfl⟩
    · exact hash_bool c h
    · exact wpAny_pyHash_int h
    · exact wpAny_pyHash_str h
  eqBool := fun hu hv h => by
    rcases keyIsB_shape hu with ⟨c, rfl, rfl⟩ | ⟨i, t, rfl, rfl⟩ | ⟨x, t, rfl, rfl⟩
    · rcases keyIsB_shape hv with ⟨d, rfl, rfl⟩ | ⟨j, u, rfl, rfl⟩ | ⟨y, u, rfl, rfl⟩
      · rw [key_bb] at h; exact SeqAt.EqAt.bool_bool _ _ _ _ _ _ h
      · rw [key_ll] at h; exact SeqAt.EqAt.bool_int _ _ _ _ _ _ _ h
      · rw [key_lr] at h; exact SeqAt.EqAt.bool_str _ _ _ _ _ _ _ h
    · rcases keyIsB_shape hv with ⟨d, rfl, rfl⟩ | ⟨j, u, rfl, rfl⟩ | ⟨y, u, rfl, rfl⟩
      · rw [key_ll] at h; exact SeqAt.EqAt.int_bool _ _ _ _ _ _ _ h
      · rw [key_ll] at h; exact wpAny_eqBool_int h
      · rw [key_lr] at h; exact SeqAt.EqAt.int_str i t y u _ _ _ _ h
    · rcases keyIsB_shape hv with ⟨d, rfl, rfl⟩ | ⟨j, u, rfl, rfl⟩ | ⟨y, u, rfl, rfl⟩
      · rw [key_rl] at h; exact SeqAt.EqAt.str_bool _ _ _ _ _ _ _ h
      · rw [key_rl] at h; exact SeqAt.EqAt.str_int x t j u _ _ _ _ h
      · rw [key_rr] at h; exact wpAny_eqBool_str h
  «strs» := fun k x t v h => by
    rcases keyIsB_shape h with ⟨c, rfl, e⟩ | ⟨i, u, rfl, e⟩ | ⟨y, u, rfl, e⟩
    · exact nomatch e
    · exact nomatch e
    · injection e with e1 _
      subst e1
      cases v <;> rfl
theorem mixKind_int (prog : Program) (w : World) (i : Int) (t : Tok) : (mixKind prog w).is (.inl i) (.int i t) = true := keyIs_int i t
theorem mixKind_str (prog : Program) (w : World) (x : Str) (t : Tok) : (mixKind prog w).is (.inr x) (.str x t) = true := keyIs_str x t
end L2
namespace L2
open PySem PySem.Spec PyProof.Rows
inductive V where
  | non | bl (b : Bool) | int (i : Int) | str (x : Str) | byt (b : Array UInt8) | flt (b : UInt64) | ref (a : Addr) | ty (n : String)
  deriving DecidableEq
def RelV : V → Value → Prop
  | .non, u => u = Value.none
  | .bl b, u => u = Value.bool b
  | .int i, u => ∃ t, u = Value.int i t
  | .str x, u => ∃ t, u = Value.str x t
  | .byt b, u => ∃ t, u = Value.bytes b t
  | .flt b, u => ∃ t, u = Value.float b t
  | .ref a, u => u = Value.ref a
  | .ty n, u => u = Value.type n
abbrev Vals : List V → List Value → Prop := Paired RelV
theorem Vals.length {xs : List V} {us : List Value} (r : Vals xs us) : xs.length = us.length := Paired.length r
theorem Vals.get : ∀ {xs : List V} {us : List Value} {i : Nat} {x : V}, Vals xs us → xs[i]? = some x → ∃ u, us[i]? = some u ∧ RelV x u
  | _, _, _, _, .nil, e => by simp at e
  | _, _, 0, _, .cons r _, e => by simp at e; subst e; exact ⟨_, rfl, r⟩
  | _, _, i + 1, x, .cons _ t, e => by
    obtain ⟨u, h1, h2⟩ := Vals.get (i := i) (x := x) t (by simpa using e)
    exact ⟨u, by simpa using h1, h2⟩
theorem Vals.set {x : V} {u : Value} (r : RelV x u) : ∀ {xs : List V} {us : List Value} (i : Nat), Vals xs us → Vals (xs.set i x) (us.set i u)
  | _, _, _, .nil => .nil
  | _, _, 0, .cons _ t => .cons r t
  | _, _, i + 1, .cons q t => .cons q (Vals.set r i t)
theorem Vals.append : ∀ {xs ys : List V} {us ws : List Value}, Vals xs us → Vals ys ws → Vals (xs ++ ys) (us ++ ws)
  | _, _, _, _, .nil, s => s
  | _, _, _, _, .cons r t, s => .cons r (Vals.append t s)
theorem Vals.take : ∀ {xs : List V} {us : List Value} (n : Nat), Vals xs us → Vals (xs.take n) (us.take n)
  | _, _, 0, _ => .nil
  | _, _, _ + 1, .nil => .nil
  | _, _, n + 1, .cons r t => .cons r (Vals.take n t)
theorem Vals.drop : ∀ {xs : List V} {us : List Value} (n : Nat), Vals xs us → Vals (xs.drop n) (us.drop n)
  | _, _, 0, r => r
  | _, _, _ + 1, .nil => .nil
  | _, _, n + 1, .cons _ t => Vals.drop n t
def RelO : Option V → Option Value → Prop
  | some v, some u => RelV v u
  | none, none => True
  | _, _ => False
def KV {κ : Type} : List (κ × V) → List (κ × Value) → Prop := Paired fun (p : κ × V) (q : κ × Value) => p.1 = q.1 ∧ RelV p.2 q.2
def kV : Key → V
  | .inl i => .int i
  | .inr x => .str x
def tabP : Addr := 227
def tabPos : Pos := ⟨163, 57, 163, 102⟩
def tabQ : Str := "_law_dealt.<locals>.<lambda>"
inductive HO where
  | lst (xs : List V)
  | tup (xs : List V)
  | dK (kvs : List (Key × V)) | dT (kvs : List (List Key × V))
  | set (S : Int → Bool) (n : Nat)
  | ins (C dx : Addr) (fs : List (Str × V))
  | own (x : Addr)
  | xd (fs : List (Str × V))
  | met (f x : Addr)
  | rng (lo hi : Int)
  | frz (o : Obj) (u : HO)
  | tbl (ps : Array Value)
  | tab
  | ext (φ : Heap → Prop)
abbrev Hp := Addr → Option HO
def upd (H : Hp) (a : Addr) (o : HO) : Hp := fun b => if b = a then some o else H b
theorem upd_same {H : Hp} {a : Addr} {o : HO} : upd H a o a = some o := by unfold upd; rw [if_pos rfl]
theorem upd_ne {H : Hp} {a b : Addr} {o : HO} (h : b ≠ a) : upd H a o b = H b := by unfold upd; rw [if_neg h]
theorem ne_of {H : Hp} {a b : Addr} {o u : HO} (h : H a = some o) (h' : H b = some u) (d : o ≠ u) : a ≠ b := by
  intro e; subst e; rw [h] at h'; exact d (Option.some.inj h')
theorem ne_of_none {H : Hp} {a b : Addr} {o : HO} (h : H a = some o) (h' : H b = none) : a ≠ b := by
  intro e; subst e; rw [h] at h'; cases h'
def KeyT (ks : List Key) (vs : List V) : Prop := vs = ks.map kV ∨ ∃ x b, ks = [.inr x, .inl (if b = true then 1 else 0)] ∧ vs = [.str x, .bl b]
abbrev DKey (H : Hp) (b : Addr) (ks : List Key) : Prop := ∃ vs, H b = some (.tup vs) ∧ KeyT ks vs
def KTup (K : PySem.W.Frag) (a : Addr) (xs : List V) : Prop := ∃ (o : Obj) (its : Array Value) (n : Nat), K.lookup a = some o ∧ o.cls = .type "tuple" ∧ o.data = .seq its n ∧ its.size ≤ sizeLine ∧ Vals xs its.toList
def CKey (K : PySem.W.Frag) (H : Hp) (b : Addr) (ks : List Key) : Prop := DKey H b ks ∨ ∃ vs, KTup K b vs ∧ KeyT ks vs
theorem CKey.keeps {K : PySem.W.Frag} {H H' : Hp} {b : Addr} {ks : List Key} (c : CKey K H b ks) (ht : ∀ b ys, H b = some (.tup ys) → H' b = some (.tup ys)) : CKey K H' b ks := c.imp (fun ⟨vs, e, k⟩ => ⟨vs, ht _ _ e, k⟩) id
section
variable (P : Program) (w : World) (K : PySem.W.Frag)
def ObjOk (H : Hp) (h : Heap) (a : Addr) : HO → Prop
  | .lst xs => xs.length ≤ sizeLine ∧ ∃ (its : List Value) (n : Nat), Vals xs its ∧ h.get? a = some { cls := .type "list", data := .seq its.toArray n }
  | .tup xs => xs.length ≤ sizeLine ∧ ∃ its : List Value, Vals xs its ∧ IsTup h a its.toArray
  | .dK kvs => kvs.length ≤ sizeLine ∧ (a == sysModules) = false ∧ ∃ vs, KV kvs vs ∧ h.DictOf (mixKind P w) a vs
  | .dT kvs => kvs.length ≤ sizeLine ∧ (a == sysModules) = false ∧ ∃ xs : List (List Key × Addr × Value),
      Paired (fun (p : List Key × V) (q : List Key × Addr × Value) => p.1 = q.1 ∧ CKey K H q.2.1 p.1 ∧ RelV p.2 q.2.2) kvs xs ∧
      ∃ o es ep, h.get? a = some o ∧ o.ExactDict ∧ o.data = .dict es ep ∧ es.toList = xs.map (entryOfKey (tupleKind (mixKindB P w))) ∧ (xs.map (·.1)).Nodup ∧ ep = xs.length
  | .set S n => h.SetOf (intKind P w) a S n
  | .ins C dx fs => H dx = some (.own a) ∧ fs.length ≤ 1000 ∧ dx ≠ a ∧ h.get? a = some (PySem.W.instObj C dx) ∧
      ∃ mA, h.Ns1 dx mA ∧ (∀ f, RelO (fs.lookup f) (mA f)) ∧ PySem.Within mA (fs.map (·.1))
  | .own _ => ∃ o, h.get? a = some o
  | .xd fs => ∃ mA, h.Ns1 a mA ∧ ∀ f, RelO (fs.lookup f) (mA f)
  | .rng lo hi => ∃ t u v, h.get? a = some { cls := .type "range", data := .fields #[.int lo t, .int hi u, .int 1 v] }
  | .frz o u => h.get? a = some o ∧ ObjOk H h a u
  | .tbl ps => h.get? a = some { cls := .none, data := .fields ps }
  | .tab => ∃ ps : Array Value, h.get? a = some { cls := .none, data := .fields ps } ∧ TriplesOk ps.toList ∧ (codeAmong tabPos ps.toList = none ∨ ∃ c : Addr, codeAmong tabPos ps.toList = some (.ref c) ∧ H c = some (.own a) ∧ h.CodeRec (.ref c) tabQ)
  | .met f x => h.get? a = some (PySem.W.methodObj (.ref f) (.ref x))
  | .ext φ => φ h ∧ (∃ o, h.get? a = some o) ∧ ∀ h1 h2 : Heap, φ h1 → (∀ o, h1.get? a = some o → h2.get? a = some o) → φ h2
structure HOk (H : Hp) (h : Heap) : Prop where
  o : ∀ a o, H a = some o → ObjOk P w K H h a o
  t : H tabP = some .tab
instance {P : Program} {w : World} {K : PySem.W.Frag} {H : Hp} {h : Heap} : CoeFun (HOk P w K H h) (fun _ => ∀ a o, H a = some o → ObjOk P w K H h a o) := ⟨HOk.o⟩
end
section
variable {P : Program} {w : World} {K : PySem.W.Frag} {H H' : Hp} {h h' : Heap} {a : Addr} {o : HO}
theorem ObjOk.lt (x : ObjOk P w K H h a o) : a < h.objs.size := by
  cases o with
  | lst xs => obtain ⟨_, _, _, _, e⟩ := x; exact Heap.lt_size e
  | tup xs => obtain ⟨_, _, _, p⟩ := x; exact p.lt
  | dK kvs => obtain ⟨_, _, _, _, o, _, _, e, _⟩ := x; exact Heap.lt_size e
  | dT kvs => obtain ⟨_, _, _, _, o, _, _, e, _⟩ := x; exact Heap.lt_size e
  | set S n => obtain ⟨o, _, _, _, e, _⟩ := x; exact Heap.lt_size e
  | ins C dx fs => obtain ⟨_, _, _, e, _⟩ := x; exact Heap.lt_size e
  | own y => obtain ⟨_, e⟩ := x; exact Heap.lt_size e
  | xd fs => obtain ⟨_, ⟨_, _, _, e, _⟩, _⟩ := x; exact Heap.lt_size e
  | rng lo hi => obtain ⟨_, _, _, e⟩ := x; exact Heap.lt_size e
  | frz ob u => obtain ⟨e, _⟩ := x; exact Heap.lt_size e
  | tbl ps => exact Heap.lt_size (show h.get? a = some _ from x)
  | tab => obtain ⟨_, e, _⟩ := x; exact Heap.lt_size e
  | met f y => exact Heap.lt_size (show h.get? a = some _ from x)
  | ext φ => obtain ⟨_, ⟨_, e⟩, _⟩ := x; exact Heap.lt_size e
theorem Paired.mapP {α β : Type} {F G : α → β → Prop} : ∀ {l₁ : List α} {l₂ : List β}, Paired F l₁ l₂ → (∀ a b, F a b → G a b) → Paired G l₁ l₂
  | _, _, .nil, _ => .nil
  | _, _, .cons r t, f => .cons (f _ _ r) (Paired.mapP t f)
theorem ObjOk.stay (x : ObjOk P w K H h a o) (k : ∀ b u, (b = a ∨ H b = some (.own a)) → h.get? b = some u → h'.get? b = some u)
    (ho : ∀ b, H b = some (.own a) → H' b = some (.own a)) (ht : ∀ b xs, H b = some (.tup xs) → H' b = some (.tup xs)) : ObjOk P w K H' h' a o := by
  induction o with
  | lst xs => obtain ⟨z, its, n, r, e⟩ := x; exact ⟨z, its, n, r, k _ _ (.inl rfl) e⟩
  | tup xs => obtain ⟨z, its, r, ob, e, c⟩ := x; exact ⟨z, its, r, ob, k _ _ (.inl rfl) e, c⟩
  | dK kvs => obtain ⟨z, y, vs, r, ob, es, ep, e, c⟩ := x; exact ⟨z, y, vs, r, ob, es, ep, k _ _ (.inl rfl) e, c⟩
  | dT kvs =>
    obtain ⟨z, y, xs, r, ob, es, ep, e, c⟩ := x
    exact ⟨z, y, xs, Paired.mapP r fun p q z => ⟨z.1, z.2.1.keeps ht, z.2.2⟩, ob, es, ep, k _ _ (.inl rfl) e, c⟩
  | set S n => obtain ⟨ob, es, ep, t, e, c⟩ := x; exact ⟨ob, es, ep, t, k _ _ (.inl rfl) e, c⟩
  | ins C dx fs =>
    obtain ⟨d, z, ne, e, mA, ⟨od, es, ep, e2, c⟩, r⟩ := x
    exact ⟨ho _ d, z, ne, k _ _ (.inl rfl) e, mA, ⟨od, es, ep, k _ _ (.inr d) e2, c⟩, r⟩
  | own y => obtain ⟨ob, e⟩ := x; exact ⟨ob, k _ _ (.inl rfl) e⟩
  | xd fs => obtain ⟨mA, ⟨od, es, ep, e, c⟩, r⟩ := x; exact ⟨mA, ⟨od, es, ep, k _ _ (.inl rfl) e, c⟩, r⟩
  | rng lo hi => obtain ⟨t, u, v, e⟩ := x; exact ⟨t, u, v, k _ _ (.inl rfl) e⟩
  | frz ob u ih => obtain ⟨e, q⟩ := x; exact ⟨k _ _ (.inl rfl) e, ih q⟩
  | tbl ps =>
    have e : h.get? a = some { cls := .none, data := .fields ps } := x
    show h'.get? a = some { cls := .none, data := .fields ps }
    exact k a _ (.inl rfl) e
  | tab =>
    obtain ⟨ps, e, t, z⟩ := x
    refine ⟨ps, k _ _ (.inl rfl) e, t, z.imp id ?_⟩
    rintro ⟨c, e1, e2, c2, oc, vs, tt, q, e3, r⟩
    cases q
    exact ⟨c, e1, ho _ e2, c, oc, vs, tt, rfl, k _ _ (.inr e2) e3, r⟩
  | met f y =>
    have e : h.get? a = some (PySem.W.methodObj (.ref f) (.ref y)) := x
    show h'.get? a = some (PySem.W.methodObj (.ref f) (.ref y))
    exact k a _ (.inl rfl) e
  | ext φ => obtain ⟨p, ⟨o, e⟩, st⟩ := x; exact ⟨st _ _ p fun o q => k _ _ (.inl rfl) q, ⟨o, k _ _ (.inl rfl) e⟩, st⟩
theorem HOk.lt (x : HOk P w K H h) (e : H a = some o) : a < h.objs.size := (x a o e).lt
theorem HOk.fresh (x : HOk P w K H h) (e : h.objs.size ≤ a) : H a = none := by
  cases q : H a with
  | none => rfl
  | some u => exact absurd (Nat.lt_of_lt_of_le (x.lt q) e) (Nat.lt_irrefl _)
theorem HOk.kept (x : HOk P w K H h) (k : ∀ b u, h.get? b = some u → h'.get? b = some u) : HOk P w K H h' := ⟨fun a o e =>
  (x a o e).stay (fun b u _ q => k b u q) (fun _ q => q) fun _ _ q => q, x.t⟩
theorem HOk.laid (x : HOk P w K H h) (k : ∀ b u, h.get? b = some u → h'.get? b = some u) (hp : h.objs.size ≤ a) (new : ObjOk P w K (upd H a o) h' a o) : HOk P w K (upd H a o) h' := by
  have hn := x.fresh hp
  refine ⟨fun b u e => ?_, by rw [upd_ne (ne_of_none x.t hn)]; exact x.t⟩
  by_cases hb : b = a
  · subst hb; rw [upd_same] at e; cases e; exact new
  · rw [upd_ne hb] at e
    exact (x b u e).stay (fun c v _ q => k c v q) (fun c q => by rw [upd_ne (ne_of_none q hn)]; exact q) fun c xs q => by rw [upd_ne (ne_of_none q hn)]; exact q
end
def Rd (H : Hp) (a : Addr) (u : HO) : Prop := H a = some u ∨ ∃ o, H a = some (.frz o u)
theorem Rd.ok {P : Program} {w : World} {K : PySem.W.Frag} {H : Hp} {h : Heap} {a : Addr} {u : HO} (r : Rd H a u) (x : HOk P w K H h) : ObjOk P w K H h a u := by
  rcases r with r | ⟨o, r⟩
  · exact x a u r
  · obtain ⟨_, q⟩ := x a _ r
    exact q
def Mut : Option HO → Prop
  | some (.lst _) => True
  | some (.dK _) => True
  | some (.dT _) => True
  | some (.set _ _) => True
  | some (.ins _ _ _) => True
  | some (.ext _) => True
  | _ => False
section
variable {P : Program} {w : World} {K : PySem.W.Frag} {H : Hp} {h h' : Heap} {x e : Addr} {o' : HO}
theorem HOk.write (ok : HOk P w K H h) (mu : Mut (H x)) (he : e = x ∨ H e = some (.own x)) (k : ∀ b u, b ≠ e → h.get? b = some u → h'.get? b = some u) (heo : ∃ u, h'.get? e = some u)
    (new : ObjOk P w K (upd H x o') h' x o') : HOk P w K (upd H x o') h' := by
  refine ⟨fun b u q => ?_, by rw [upd_ne (fun z => by rw [← z, ok.t] at mu; exact mu)]; exact ok.t⟩
  have nown : ∀ c y, H c = some (.own y) → c ≠ x := fun c y r z => by subst z; rw [r] at mu; exact mu
  have ntup : ∀ c xs, H c = some (.tup xs) → c ≠ x := fun c xs r z => by subst z; rw [r] at mu; exact mu
  by_cases hb : b = x
  · subst hb; rw [upd_same] at q; cases q; exact new
  · rw [upd_ne hb] at q
    by_cases hbe : b = e
    · have q' : H b = some (.own x) := by
        rcases he with z | z
        · exact absurd (hbe.trans z) hb
        · rw [hbe]; exact z
      rw [q] at q'; cases q'
      obtain ⟨v, hv⟩ := heo
      exact ⟨v, by rw [hbe]; exact hv⟩
    · refine (ok b u q).stay (fun c v hc r => k c v ?_ r) (fun c r => by rw [upd_ne (nown c b r)]; exact r) fun c xs r => by rw [upd_ne (ntup c xs r)]; exact r
      rcases hc with rfl | hc
      · exact hbe
      · rintro rfl
        rcases he with z | z
        · exact nown c b hc z
        · rw [hc] at z; cases z; exact hb rfl
end
structure Un (fs ex : List Addr) (H H' : Hp) (h h' : Heap) : Prop where
  keep : ∀ b o, h.get? b = some o → H b = none → b ∉ fs → b ∉ ex → h'.get? b = some o
  slot : ∀ b o, h.get? b = some o → H b = none → b ∈ fs → b ∉ ex → ∃ sl, h'.get? b = some { o with slots := sl }
  free : ∀ b o, h.get? b = some o → H b = none → b ∉ ex → H' b = none
  there : ∀ b o, h.get? b = some o → b ∉ ex → ∃ o', h'.get? b = some o'
  tups : ∀ b xs, H b = some (.tup xs) → H' b = some (.tup xs)
  frzs : ∀ b o u, H b = some (.frz o u) → H' b = some (.frz o u)
  tbls : ∀ b ps, H b = some (.tbl ps) → ∃ more, H' b = some (.tbl (ps ++ more))
section
variable {fs fs' ex ex' : List Addr} {H H1 H2 : Hp} {h h1 h2 h' : Heap} {a x e : Addr} {o : HO}
theorem Un.any (u : Un fs ex H H1 h h1) {b : Addr} {ob : Obj} (q : h.get? b = some ob) (n : H b = none) (hx : b ∉ ex) : ∃ sl, h1.get? b = some { ob with slots := sl } := by
  by_cases hb : b ∈ fs
  · exact u.slot b ob q n hb hx
  · exact ⟨ob.slots, u.keep b ob q n hb hx⟩
theorem Un.kept (k : ∀ b u, h.get? b = some u → h'.get? b = some u) : Un fs ex H H h h' :=
  ⟨fun b ob q _ _ _ => k b ob q, fun b ob q _ _ _ => ⟨ob.slots, k b ob q⟩, fun _ _ _ n _ => n, fun b ob q _ => ⟨ob, k b ob q⟩, fun _ _ q => q, fun _ _ _ q => q, fun _ ps q => ⟨#[], by rw [q]; simp⟩⟩
theorem Un.refl : Un fs ex H H h h := Un.kept fun _ _ q => q
theorem Un.laid (k : ∀ b u, h.get? b = some u → h'.get? b = some u) (hp : h.objs.size ≤ a) (hn : H a = none) : Un fs ex H (upd H a o) h h' where
  keep := fun b u q _ _ _ => k b u q
  slot := fun b u q _ _ _ => ⟨u.slots, k b u q⟩
  free := fun b u q n _ => by rw [upd_ne (Nat.ne_of_lt (Nat.lt_of_lt_of_le (Heap.lt_size q) hp))]; exact n
  there := fun b u q _ => ⟨u, k b u q⟩
  tups := fun b xs q => by rw [upd_ne (ne_of_none q hn)]; exact q
  frzs := fun b u xs q => by rw [upd_ne (ne_of_none q hn)]; exact q
  tbls := fun b ps q => ⟨#[], by rw [upd_ne (ne_of_none q hn), q]; simp⟩
theorem Un.write (mu : Mut (H x)) (he : e = x ∨ H e = some (.own x)) (k : ∀ b u, b ≠ e → h.get? b = some u → h'.get? b = some u) (heo : ∃ u, h'.get? e = some u) : Un fs ex H (upd H x o) h h' := by
  have hx : ∀ b, H b = none → b ≠ x := fun b n z => by subst z; rw [n] at mu; exact mu
  have hb : ∀ b, H b = none → b ≠ e := fun b n z => by
    subst z
    rcases he with r | r
    · exact hx b n r
    · rw [n] at r; cases r
  have hm : ∀ b u, H b = some u → ¬ Mut (some u) → b ≠ x := fun b u q nm z => by subst z; rw [q] at mu; exact nm mu
  refine ⟨fun b u q n _ _ => k b u (hb b n) q, fun b u q n _ _ => ⟨u.slots, k b u (hb b n) q⟩, fun b u q n _ => by rw [upd_ne (hx b n)]; exact n, fun b u q _ => ?_,
    fun b xs q => by rw [upd_ne (hm b _ q fun z => z)]; exact q, fun b u xs q => by rw [upd_ne (hm b _ q fun z => z)]; exact q, fun b ps q => ⟨#[], by rw [upd_ne (hm b _ q fun z => z), q]; simp⟩⟩
  by_cases hbe : b = e
  · subst hbe; exact heo
  · exact ⟨u, k b u hbe q⟩
end
def trk (h : Heap) (H : Hp) : List Addr := (List.range h.objs.size).filter fun a => (H a).isSome
def hidT (h : Heap) (H : Hp) : Heap := PySem.W.hideAll h (trk h H)
theorem hidT_size (h : Heap) (H : Hp) : (hidT h H).objs.size = h.objs.size := PySem.W.hideAll_size _ _
theorem hidT_get {h : Heap} {H : Hp} {b : Addr} {o : Obj} (e : h.get? b = some o) (n : H b = none) : (hidT h H).get? b = some o :=
  PySem.W.hideAll_get _ e fun hm => by
    have q : (H b).isSome = true := (List.mem_filter.mp hm).2
    rw [n] at q; simp at q
theorem of_hidT {h : Heap} {H : Hp} {b : Addr} {o : Obj} (e : (hidT h H).get? b = some o) : h.get? b = some o ∧ H b = none := by
  have e' : h.get? b = some o := PySem.W.of_hideAll (trk h H) e
  refine ⟨e', ?_⟩
  cases q : H b with
  | none => rfl
  | some x =>
    have hm : b ∈ trk h H := List.mem_filter.mpr ⟨List.mem_range.mpr (Heap.lt_size e'), by simp [q]⟩
    have z : (hidT h H).get? b = none := PySem.W.hideAll_none (trk h H) hm
    rw [z] at e; cases e
def allNews (g h : Heap) (L : Addr) : List (Addr × Obj) := (List.range h.objs.size).filterMap fun a => if a = L ∨ (g.get? a).isSome = true then none else (h.get? a).map fun o => (a, o)
theorem mem_allNews {g h : Heap} {L a : Addr} {o : Obj} (h1 : a ≠ L) (h2 : g.get? a = none) (h3 : h.get? a = some o) : (a, o) ∈ allNews g h L :=
  List.mem_filterMap.mpr ⟨a, List.mem_range.mpr (Heap.lt_size h3), by simp [h1, h2, h3]⟩
theorem of_mem_allNews {g h : Heap} {L : Addr} {p : Addr × Obj} (hp : p ∈ allNews g h L) : p.1 ≠ L ∧ g.get? p.1 = none ∧ h.get? p.1 = some p.2 := by
  obtain ⟨b, _, e⟩ := List.mem_filterMap.mp hp
  split at e
  · cases e
  · rename_i hn
    cases q : h.get? b with
    | none => rw [q] at e; simp at e
    | some u =>
      rw [q] at e
      simp only [Option.map_some, Option.some.injEq] at e
      subst e
      refine ⟨fun z => hn (.inl z), ?_, q⟩
      show g.get? b = none
      cases r : g.get? b with
      | none => rfl
      | some v => exact (hn (.inr (by simp [r]))).elim
def rest (g h : Heap) (L d : Addr) : List (Addr × Obj) := (allNews g h L).filter fun p => decide (p.1 ≠ d)
theorem rest_ne {g h : Heap} {L d : Addr} : ∀ p ∈ rest g h L d, p.1 ≠ d := fun p hp => of_decide_eq_true (List.mem_filter.mp hp).2
theorem mem_rest {g h : Heap} {L d a : Addr} {o : Obj} (h1 : a ≠ L) (h2 : g.get? a = none) (h3 : h.get? a = some o) (h4 : a ≠ d) : (a, o) ∈ rest g h L d :=
  List.mem_filter.mpr ⟨mem_allNews h1 h2 h3, decide_eq_true h4⟩
theorem news_all {g h : Heap} {L : Addr} : News g L h (allNews g h L) := fun p hp => let ⟨a, b, c⟩ := of_mem_allNews hp; ⟨c, a, b⟩
theorem kept_of_news {g h h' : Heap} {L d : Addr} {m : Str → Option Value} (k : ∀ b o, g.get? b = some o → h.get? b = some o) (F : Fr g L h' m) (N : News g L h' (rest g h L d)) :
    ∀ b o, b ≠ L → b ≠ d → h.get? b = some o → h'.get? b = some o := fun b o h1 h2 e => by
  cases q : g.get? b with
  | some u =>
    have := k b u q
    rw [e] at this; cases this
    exact F.keep b _ q
  | none => exact (N (b, o) (mem_rest h1 q e h2)).1
end L2
namespace L2
open PySem PySem.Spec PyProof.Rows
structure Mod (K : PySem.W.Frag) (mg : Str → Option Value) (base : Heap) : Prop where
  kin : K.In base
  glob : base.Ns mainGlobals mg
  blt : ∃ mb, base.Ns builtinsNs mb ∧ ∀ x : Str, x ≠ "__name__" → mb x = bootBuiltins x
  nolimit : base.NoLimit
  bat : base.BuiltinsAt mg tabP
structure Cx where
  prog : Program
  w : World
  K : PySem.W.Frag
  mg : Str → Option Value
  base : Heap
  A : Around
  N : List Str
  s₀ : Shared
  H₀ : Hp
  env : Env
  outer : List Env
  stack : List Env
  ex : List Addr
  fn : Str → Bool
  calm : Bool
  pn : List (Addr × Obj)
  xe : Value → Shared → Prop
def frs (l : List Env) : List Addr := l.filterMap (·.frame)
abbrev Cx.fs (X : Cx) : List Addr := frs X.outer
def Vis (sc : Scope) (x : Str) : Prop := sc.names.lookup x = some .local ∨ sc.names.lookup x = some .cell ∨ sc.names.lookup x = some .free
def Loc (sc : Scope) (x : Str) : Prop := sc.names.lookup x = some .local ∨ sc.names.lookup x = some .cell
def Look (env : Env) (h : Heap) (m : Str → Option Value) (x : Str) (u : Value) : Prop :=
  (env.kindOf x = some .local ∧ m x = some u) ∨ ((env.kindOf x = some .cell ∨ env.kindOf x = some .free) ∧ ∃ c, env.cells.lookup x = some c ∧ h.IsCell c (some u))
structure Cx.Ok (X : Cx) : Prop where
  mod : Mod X.K X.mg X.base
  kind : X.env.scope.kind = .function
  glob : X.env.globals = mainGlobals
  blt : X.env.builtins = builtinsNs
  above : X.s₀.heap.objs.size ≤ X.env.locals
  inj : ∀ x y c, X.env.cells.lookup x = some c → X.env.cells.lookup y = some c → x = y
  has : ∀ x, (X.env.kindOf x = some .cell ∨ X.env.kindOf x = some .free) → ∃ c, X.env.cells.lookup x = some c
  cab : ∀ x c, X.fn x = true → X.env.cells.lookup x = some c → X.s₀.heap.objs.size ≤ c
  hd : X.calm = true → X.A.handled = none
  frames : X.A.frames = some X.stack
  stk : X.stack = X.outer ∨ (X.stack = X.env :: X.outer ∧ X.env.frame = some X.env.locals)
  exf : ∀ b ∈ X.ex, b ≠ X.env.locals ∧ ∀ x c, X.env.cells.lookup x = some c → c ≠ b
  bs : ∀ b o, X.base.get? b = some o → X.s₀.heap.get? b = some o ∧ X.H₀ b = none
  bsz : X.base.objs.size ≤ X.s₀.heap.objs.size
  noex : ∀ b o, X.base.get? b = some o → b ∉ X.ex
  exfs : ∀ b ∈ X.ex, b ∉ X.fs
  funs : X.s₀.heap.FunFrames X.base X.outer
  frf : ∀ b ∈ X.fs, X.H₀ b = none
structure Inv (X : Cx) (pins : List (Addr × Obj)) (σ : List (Option V)) (H : Hp) (s : Shared) : Prop where
  ok : X.Ok
  os : s.os = X.s₀.os
  bare : AllBare s.gens
  base : Un X.fs X.ex X.H₀ H X.s₀.heap s.heap
  loc : ∃ m, s.heap.Ns X.env.locals m ∧ ∀ (i : Nat) (x : Str) (v : V), X.N[i]? = some x → σ[i]? = some (some v) → Vis X.env.scope x → ∃ u, RelV v u ∧ Look X.env s.heap m x u
  cell : ∀ x c, X.env.cells.lookup x = some c → ∃ v, s.heap.IsCell c v
  free : H X.env.locals = none
  freeC : ∀ x c, X.env.cells.lookup x = some c → H c = none
  pin : ∀ p ∈ X.pn ++ pins, s.heap.get? p.1 = some p.2 ∧ H p.1 = none ∧ p.1 ≠ X.env.locals ∧ p.1 ∉ X.fs ∧ ∀ v, p.2.data ≠ .cell v
  hok : HOk X.prog X.w X.K H s.heap
  len : σ.length = X.N.length
section
variable {X : Cx} {pins : List (Addr × Obj)} {σ : List (Option V)} {H H' : Hp} {s : Shared} {h' : Heap}
theorem Cx.Ok.nofr (ok : X.Ok) {b : Addr} {o : Obj} (e : X.base.get? b = some o) : b ∉ X.fs := fun hb => by
  have := (ok.funs.mem hb).1
  rw [e] at this; cases this
theorem Inv.bs (I : Inv X pins σ H s) : ∀ b o, X.base.get? b = some o → s.heap.get? b = some o ∧ H b = none := fun b o e =>
  ⟨I.base.keep b o (I.ok.bs b o e).1 (I.ok.bs b o e).2 (I.ok.nofr e) (I.ok.noex b o e), I.base.free b o (I.ok.bs b o e).1 (I.ok.bs b o e).2 (I.ok.noex b o e)⟩
theorem Inv.bk (I : Inv X pins σ H s) : ∀ b o, X.base.get? b = some o → s.heap.get? b = some o := fun b o e => (I.bs b o e).1
theorem Inv.mod (I : Inv X pins σ H s) : Mod X.K X.mg X.base := I.ok.mod
theorem Inv.kIn (I : Inv X pins σ H s) : X.K.In s.heap := I.ok.mod.kin.keeps I.bk
theorem Inv.fr (I : Inv X pins σ H s) : ∃ m, Fr X.base X.env.locals s.heap m :=
  let ⟨m, hn, _⟩ := I.loc
  ⟨m, hn, I.bk, Nat.le_trans I.ok.bsz I.ok.above⟩
theorem Inv.lt (I : Inv X pins σ H s) : X.env.locals < s.heap.objs.size := let ⟨_, hn, _⟩ := I.loc; hn.lt
theorem Inv.sz (I : Inv X pins σ H s) : X.s₀.heap.objs.size ≤ s.heap.objs.size := Nat.le_trans I.ok.above (Nat.le_of_lt I.lt)
theorem Inv.nofs (I : Inv X pins σ H s) {a : Addr} (h : s.heap.objs.size ≤ a) : a ∉ X.fs := fun hb => by
  obtain ⟨_, o, ho, _⟩ := I.ok.funs.mem hb
  exact absurd (Nat.lt_of_lt_of_le (Heap.lt_size ho) (Nat.le_trans I.sz h)) (Nat.lt_irrefl _)
theorem Inv.cne (I : Inv X pins σ H s) : ∀ x c, X.env.cells.lookup x = some c → c ≠ X.env.locals := fun x c e z => by
  obtain ⟨v, o, ho, hd⟩ := I.cell x c e
  obtain ⟨m, ⟨o', es, ep, ho', hd', _⟩, _⟩ := I.loc
  rw [z, ho'] at ho; cases ho; rw [hd'] at hd; cases hd
theorem Inv.funs (I : Inv X pins σ H s) : s.heap.FunFrames X.base X.outer := by
  have all : ∀ (l : List Env), (∀ b ∈ frs l, b ∈ X.fs) → X.s₀.heap.FunFrames X.base l → s.heap.FunFrames X.base l := by
    intro l
    induction l with
    | nil => intro _ _; trivial
    | cons env r ih =>
      intro hs hl
      obtain ⟨hk, ⟨L, o, hf, hn, ho, hd⟩, hr⟩ := hl
      have hL : L ∈ X.fs := hs L (by unfold frs; rw [List.filterMap_cons, hf]; exact List.mem_cons_self)
      obtain ⟨sl, e⟩ := I.base.slot L o ho (I.ok.frf L hL) hL fun z => I.ok.exfs L z hL
      exact ⟨hk, ⟨L, _, hf, hn, e, hd⟩, ih (fun b hb => hs b (by unfold frs; rw [List.filterMap_cons, hf]; exact List.mem_cons_of_mem _ hb)) hr⟩
  exact all X.outer (fun _ hb => hb) I.ok.funs
theorem Inv.stack (I : Inv X pins σ H s) : s.heap.FunFrames X.base X.stack := by
  rcases I.ok.stk with e | ⟨e, hf⟩
  · rw [e]; exact I.funs
  · rw [e]
    obtain ⟨m, hn, _⟩ := I.loc
    refine .cons (by rw [I.ok.kind]; decide) hf hn ?_ I.funs
    exact Heap.get?_none_of_le (Nat.le_trans I.ok.bsz I.ok.above)
theorem Inv.stkSub (I : Inv X pins σ H s) : ∀ b ∈ frs X.stack, b ∈ X.env.locals :: X.fs := fun b hb => by
  rcases I.ok.stk with e | ⟨e, hf⟩
  · rw [e] at hb; exact List.mem_cons_of_mem _ hb
  · rw [e] at hb
    unfold frs at hb
    rw [List.filterMap_cons, hf] at hb
    exact hb
theorem Inv.stkFree (I : Inv X pins σ H s) : ∀ b ∈ frs X.stack, H b = none := fun b hb => by
  rcases List.mem_cons.mp (I.stkSub b hb) with e | hb
  · rw [e]; exact I.free
  · obtain ⟨_, o, ho, _⟩ := I.ok.funs.mem hb
    exact I.base.free b o ho (I.ok.frf b hb) fun z => I.ok.exfs b z hb
theorem Inv.step {g' : Array GenState} {t' : Nat} {d' : Drawn} {ch : List Addr} (I : Inv X pins σ H s)
    (hch : ∀ b ∈ ch, (b ∈ X.ex ∨ X.s₀.heap.objs.size ≤ b) ∧ b ≠ X.env.locals ∧ (∀ x c, X.env.cells.lookup x = some c → c ≠ b) ∧ ∀ p ∈ X.pn ++ pins, p.1 ≠ b)
    (keep : ∀ b o, b ≠ X.env.locals → b ∉ X.fs → b ∉ ch → s.heap.get? b = some o → H b = none → h'.get? b = some o)
    (slot : ∀ b o, b ≠ X.env.locals → b ∈ X.fs → b ∉ ch → s.heap.get? b = some o → H b = none → ∃ sl, h'.get? b = some { o with slots := sl }) (free : ∀ b o, b ∉ ch → s.heap.get? b = some o → H b = none → H' b = none)
    (there : ∀ b o, b ∉ ch → s.heap.get? b = some o → ∃ o', h'.get? b = some o')
    (tups : ∀ b xs, H b = some (.tup xs) → H' b = some (.tup xs)) (frzs : ∀ b o u, H b = some (.frz o u) → H' b = some (.frz o u)) (tbls : ∀ b ps, H b = some (.tbl ps) → ∃ more, H' b = some (.tbl (ps ++ more)))
    (ns : ∀ m, s.heap.Ns X.env.locals m → h'.Ns X.env.locals m) (hok : HOk X.prog X.w X.K H' h') (hg : AllBare g') :
    Inv X pins σ H' { s with heap := h', gens := g', drawn := d', toks := t' } := by
  have neL : ∀ b o, X.s₀.heap.get? b = some o → b ≠ X.env.locals := fun b o e => Nat.ne_of_lt (Nat.lt_of_lt_of_le (Heap.lt_size e) I.ok.above)
  have neC : ∀ b o, X.s₀.heap.get? b = some o → b ∉ X.ex → b ∉ ch := fun b o e hx hb => by
    rcases (hch b hb).1 with z | z
    · exact hx z
    · exact absurd (Nat.lt_of_lt_of_le (Heap.lt_size e) z) (Nat.lt_irrefl _)
  have cellK : ∀ x c, X.env.cells.lookup x = some c → ∀ v, s.heap.IsCell c v → h'.IsCell c v := fun x c e v ⟨o, ho, hd⟩ => by
    have nch : c ∉ ch := fun z => (hch c z).2.2.1 x c e rfl
    by_cases hc : c ∈ X.fs
    · obtain ⟨sl, q⟩ := slot c o (I.cne x c e) hc nch ho (I.freeC x c e)
      exact ⟨_, q, hd⟩
    · exact ⟨o, keep c o (I.cne x c e) hc nch ho (I.freeC x c e), hd⟩
  refine ⟨I.ok, I.os, hg, ⟨fun b o e n hb hx => ?_, fun b o e n hb hx => ?_, fun b o e n hx => ?_, fun b o e hx => ?_, fun b xs e => tups b xs (I.base.tups b xs e), fun b o xs e => frzs b o xs (I.base.frzs b o xs e), fun b ps e => ?_⟩, ?_, fun x c e => ?_, ?_, fun x c e => ?_, fun p hp => ?_, hok, I.len⟩
  · exact keep b o (neL b o e) hb (neC b o e hx) (I.base.keep b o e n hb hx) (I.base.free b o e n hx)
  · obtain ⟨sl, e1⟩ := I.base.slot b o e n hb hx
    obtain ⟨sl', e2⟩ := slot b _ (neL b o e) hb (neC b o e hx) e1 (I.base.free b o e n hx)
    exact ⟨sl', e2⟩
  · obtain ⟨o', e1⟩ := I.base.there b o e hx
    exact free b o' (neC b o e hx) e1 (I.base.free b o e n hx)
  · obtain ⟨o', e1⟩ := I.base.there b o e hx
    exact there b o' (neC b o e hx) e1
  · obtain ⟨m1, e1⟩ := I.base.tbls b ps e
    obtain ⟨m2, e2⟩ := tbls b _ e1
    exact ⟨m1 ++ m2, by rw [e2, Array.append_assoc]⟩
  · obtain ⟨m, hn, hl⟩ := I.loc
    refine ⟨m, ns m hn, fun i x v e1 e2 e3 => ?_⟩
    obtain ⟨u, r, l⟩ := hl i x v e1 e2 e3
    refine ⟨u, r, ?_⟩
    rcases l with l | ⟨k, c, e, z⟩
    · exact .inl l
    · exact .inr ⟨k, c, e, cellK x c e _ z⟩
  · obtain ⟨v, z⟩ := I.cell x c e
    exact ⟨v, cellK x c e v z⟩
  · obtain ⟨m, ⟨o, _, _, ho, _⟩, _⟩ := I.loc
    exact free _ o (fun z => (hch _ z).2.1 rfl) ho I.free
  · obtain ⟨v, o, ho, hd⟩ := I.cell x c e
    exact free c o (fun z => (hch c z).2.2.1 x c e rfl) ho (I.freeC x c e)
  · obtain ⟨e, n, ne, nf, d⟩ := I.pin p hp
    have nch : p.1 ∉ ch := fun z => (hch p.1 z).2.2.2 p hp rfl
    exact ⟨keep p.1 p.2 ne nf nch e n, free p.1 p.2 nch e n, ne, nf, d⟩
theorem Inv.un {t' : Nat} (I : Inv X pins σ H s) (u : Un X.fs [] H H' s.heap h') (hok : HOk X.prog X.w X.K H' h') : Inv X pins σ H' { s with heap := h', toks := t' } := by
  obtain ⟨m, ⟨o, es, ep, ho, r⟩, _⟩ := id I.loc
  obtain ⟨sl, hL⟩ := u.any ho I.free (by simp)
  exact I.step (g' := s.gens) (d' := s.drawn) (ch := []) (fun _ z => nomatch z) (fun b o _ hb _ e n => u.keep b o e n hb (by simp)) (fun b o _ hb _ e n => u.slot b o e n hb (by simp)) (fun b o _ e n => u.free b o e n (by simp)) (fun b o _ e => u.there b o e (by simp)) u.tups u.frzs u.tbls (fun m' hm => by
    obtain ⟨o', es', ep', ho', r'⟩ := hm
    rw [ho] at ho'; cases ho'
    exact ⟨_, es', ep', hL, r'⟩) hok I.bare
theorem Inv.call {g' : Array GenState} {t' : Nat} {d' : Drawn} {ch : List Addr} (I : Inv X pins σ H s) (u : Un (frs X.stack) ch H H' s.heap h') (hok : HOk X.prog X.w X.K H' h') (hg : AllBare g')
    (hch : ∀ b ∈ ch, (b ∈ X.ex ∨ X.s₀.heap.objs.size ≤ b) ∧ b ≠ X.env.locals ∧ (∀ x c, X.env.cells.lookup x = some c → c ≠ b) ∧ ∀ p ∈ X.pn ++ pins, p.1 ≠ b) :
    Inv X pins σ H' { s with heap := h', gens := g', drawn := d', toks := t' } := by
  obtain ⟨m, ⟨o, es, ep, ho, r⟩, _⟩ := id I.loc
  obtain ⟨sl, hL⟩ := u.any ho I.free fun z => (hch _ z).2.1 rfl
  exact I.step (ch := ch) hch (fun b o hL hb hc e n => u.keep b o e n (fun z => (List.mem_cons.mp (I.stkSub b z)).elim hL hb) hc) (fun b o _ _ hc e n => u.any e n hc) (fun b o hc e n => u.free b o e n hc) (fun b o hc e => u.there b o e hc) u.tups u.frzs u.tbls (fun m' hm => by
    obtain ⟨o', es', ep', ho', r'⟩ := hm
    rw [ho] at ho'; cases ho'
    exact ⟨_, es', ep', hL, r'⟩) hok hg
theorem Inv.turned {t' : Nat} {it : Addr} (I : Inv X pins σ H s) (k : ∀ b o, b ≠ it → s.heap.get? b = some o → h'.get? b = some o) (hn : H it = none) (hL : it ≠ X.env.locals)
    (h1 : it ∈ X.ex ∨ X.s₀.heap.objs.size ≤ it) (h2 : ∀ x c, X.env.cells.lookup x = some c → c ≠ it) (h3 : ∀ p ∈ X.pn ++ pins, p.1 ≠ it) : Inv X pins σ H { s with heap := h', toks := t' } := by
  have nit : ∀ b u, H b = some u → b ≠ it := fun b u e z => by rw [z, hn] at e; cases e
  refine I.step (g' := s.gens) (d' := s.drawn) (ch := [it]) (fun b hb => ?_) (fun b o _ _ hc e _ => k b o (fun z => hc (by simp [z])) e) (fun b o _ _ hc e _ => ⟨o.slots, k b o (fun z => hc (by simp [z])) e⟩) (fun _ _ _ _ n => n)
    (fun b o hc e => ⟨o, k b o (fun z => hc (by simp [z])) e⟩) (fun _ _ e => e) (fun _ _ _ e => e) (fun b ps e => ⟨#[], by rw [e]; simp⟩) (fun m hm => ?_) ⟨fun b u e => ?_, I.hok.t⟩ I.bare
  · have e : b = it := by simpa using hb
    subst e
    exact ⟨h1, hL, h2, h3⟩
  · obtain ⟨o, es, ep, ho, r⟩ := hm
    exact ⟨o, es, ep, k _ o (Ne.symm hL) ho, r⟩
  · refine (I.hok b u e).stay (fun c v hc q => k c v ?_ q) (fun _ q => q) fun _ _ q => q
    rcases hc with z | z
    · rw [z]; exact nit b u e
    · exact nit c _ z
theorem Inv.tok (I : Inv X pins σ H s) (t : Nat) : Inv X pins σ H { s with toks := t } := I.un (h' := s.heap) (t' := t) Un.refl I.hok
theorem Inv.kept {t' : Nat} (I : Inv X pins σ H s) (k : ∀ b u, s.heap.get? b = some u → h'.get? b = some u) : Inv X pins σ H { s with heap := h', toks := t' } := I.un (Un.kept k) (I.hok.kept k)
theorem Inv.laid {a : Addr} {o : HO} {t' : Nat} (I : Inv X pins σ H s) (k : ∀ b u, s.heap.get? b = some u → h'.get? b = some u) (hp : s.heap.objs.size ≤ a) (new : ObjOk X.prog X.w X.K (upd H a o) h' a o) :
    Inv X pins σ (upd H a o) { s with heap := h', toks := t' } := I.un (Un.laid k hp (I.hok.fresh hp)) (I.hok.laid k hp new)
theorem Inv.write {x e : Addr} {o : HO} {t' : Nat} (I : Inv X pins σ H s) (mu : Mut (H x)) (he : e = x ∨ H e = some (.own x)) (k : ∀ b u, b ≠ e → s.heap.get? b = some u → h'.get? b = some u) (heo : ∃ u, h'.get? e = some u)
    (new : ObjOk X.prog X.w X.K (upd H x o) h' x o) : Inv X pins σ (upd H x o) { s with heap := h', toks := t' } := I.un (Un.write mu he k heo) (I.hok.write mu he k heo new)
theorem Inv.weak {σ' : List (Option V)} (I : Inv X pins σ H s) (hl : σ'.length = σ.length) (w : ∀ (i : Nat) v, σ'[i]? = some (some v) → σ[i]? = some (some v)) : Inv X pins σ' H s :=
  ⟨I.ok, I.os, I.bare, I.base, let ⟨m, hn, hl'⟩ := I.loc; ⟨m, hn, fun i x v e1 e2 e3 => hl' i x v e1 (w i v e2) e3⟩, I.cell, I.free, I.freeC, I.pin, I.hok, hl.trans I.len⟩
theorem Inv.pins_of {pins' : List (Addr × Obj)} (I : Inv X pins σ H s) (h : ∀ p ∈ pins', s.heap.get? p.1 = some p.2 ∧ H p.1 = none ∧ p.1 ≠ X.env.locals ∧ p.1 ∉ X.fs ∧ ∀ v, p.2.data ≠ .cell v) : Inv X pins' σ H s :=
  ⟨I.ok, I.os, I.bare, I.base, I.loc, I.cell, I.free, I.freeC, fun p hp => (List.mem_append.mp hp).elim (fun z => I.pin p (List.mem_append_left _ z)) (h p), I.hok, I.len⟩
theorem nodup_ix {N : List Str} (hN : N.Nodup) {i j : Nat} {x : Str} (a : N[i]? = some x) (b : N[j]? = some x) : i = j := by
  obtain ⟨h1, e1⟩ := List.getElem?_eq_some_iff.mp a
  obtain ⟨h2, e2⟩ := List.getElem?_eq_some_iff.mp b
  exact (List.getElem_inj hN).mp (e1.trans e2.symm)
theorem store_ok2 {M : Model} {A : Around} {E : Value → Shared → Prop} {i : Nat} {x : Str} {v : V} {u : Value} {Q : Unit → Shared → Prop} (I : Inv X pins σ H s) (hN : X.N.Nodup) (hi : X.N[i]? = some x) (hx : Loc X.env.scope x) (r : RelV v u)
    (h : ∀ s', Inv X pins (σ.set i (some v)) H s' → (∃ a, Heap.SameBut a s.heap s'.heap ∧ (a = X.env.locals ∨ X.env.cells.lookup x = some a)) → Q () s') (hf : X.fn x = true ∨ X.env.scope.names.lookup x = some .local := by first | exact .inl rfl | exact .inr rfl | assumption) : wpAny M A (storeName X.env x u) Q E s := by
  obtain ⟨m, hn, hl⟩ := id I.loc
  have hcls : (X.env.scope.kind == .class || (X.env.scope.kind == .module && X.env.locals != X.env.globals)) = false := by rw [I.ok.kind]; rfl
  have hiσ : i < σ.length := by rw [I.len]; exact (List.getElem?_eq_some_iff.mp hi).1
  have cne := I.cne
  have tracked : ∀ {a : Addr} {h' : Heap}, (∃ o, s.heap.get? a = some o ∧ H a = none) → Heap.SameBut a s.heap h' → HOk X.prog X.w X.K H h' := fun {a h'} ha hs => by
    refine ⟨fun b ob e => ?_, I.hok.t⟩
    obtain ⟨_, _, hfree⟩ := ha
    refine (I.hok b ob e).stay (fun c w' hc q => (hs.2 c ?_).trans q) (fun _ q => q) fun _ _ q => q
    rintro rfl
    rcases hc with rfl | hc
    · rw [hfree] at e; cases e
    · rw [hfree] at hc; cases hc
  rcases hx with hk | hk
  · refine wpAny_storeName_local hk hn (fun h' hn' hs => ?_) hcls
    obtain ⟨oL, _, _, hoL, _⟩ := id hn
    refine h _ ⟨I.ok, I.os, I.bare, ⟨fun b o e n hb hx => ?_, fun b o e n hb hx => ?_, I.base.free, fun b o e hx => ?_, I.base.tups, I.base.frzs, I.base.tbls⟩, ⟨_, hn', fun j y v' e1 e2 e3 => ?_⟩, fun y c e => ?_, I.free, I.freeC, fun p hp => ?_, tracked ⟨oL, hoL, I.free⟩ hs, by simpa using I.len⟩ ⟨_, hs, .inl rfl⟩
    · exact (hs.2 b (Nat.ne_of_lt (Nat.lt_of_lt_of_le (Heap.lt_size e) I.ok.above))).trans (I.base.keep b o e n hb hx)
    · obtain ⟨sl, e1⟩ := I.base.slot b o e n hb hx
      exact ⟨sl, (hs.2 b (Nat.ne_of_lt (Nat.lt_of_lt_of_le (Heap.lt_size e) I.ok.above))).trans e1⟩
    · obtain ⟨o', e1⟩ := I.base.there b o e hx
      exact ⟨o', (hs.2 b (Nat.ne_of_lt (Nat.lt_of_lt_of_le (Heap.lt_size e) I.ok.above))).trans e1⟩
    · by_cases hj : j = i
      · subst hj
        rw [hi] at e1; cases e1
        rw [List.getElem?_set_self hiσ] at e2
        cases e2
        exact ⟨u, r, .inl ⟨hk, by simp⟩⟩
      · rw [List.getElem?_set_ne (Ne.symm hj)] at e2
        obtain ⟨u', r', q⟩ := hl j y v' e1 e2 e3
        refine ⟨u', r', ?_⟩
        rcases q with ⟨k, e⟩ | ⟨k, c, e, z⟩
        · refine .inl ⟨k, ?_⟩
          have : y ≠ x := fun e => hj (nodup_ix hN e1 (e ▸ hi))
          simp [this, e]
        · exact .inr ⟨k, c, e, z.sameBut hs (cne y c e)⟩
    · obtain ⟨w', z⟩ := I.cell y c e
      exact ⟨w', z.sameBut hs (cne y c e)⟩
    · obtain ⟨e, n, ne, nf, d⟩ := I.pin p hp
      exact ⟨(hs.2 p.1 ne).trans e, n, ne, nf, d⟩
  · have hfn : X.fn x = true := by
      rcases hf with z | z
      · exact z
      · rw [z] at hk; cases hk
    obtain ⟨c, hc⟩ := I.ok.has x (.inl hk)
    obtain ⟨w', z⟩ := I.cell x c hc
    refine wpAny_storeName_cell I.ok.kind hk hc z (fun h' hc' hs => ?_)
    obtain ⟨oc, hoc, hocd⟩ := id z
    refine h { s with heap := h' } ⟨I.ok, I.os, I.bare, ⟨fun b o e n hb hx => ?_, fun b o e n hb hx => ?_, I.base.free, fun b o e hx => ?_, I.base.tups, I.base.frzs, I.base.tbls⟩, ⟨m, hn.sameBut hs (Ne.symm (cne x c hc)), fun j y v' e1 e2 e3 => ?_⟩, fun y c' e => ?_, I.free, I.freeC, fun p hp => ?_, tracked ⟨oc, hoc, I.freeC x c hc⟩ hs, by simpa using I.len⟩ ⟨c, hs, .inr hc⟩
    · exact (hs.2 b (Nat.ne_of_lt (Nat.lt_of_lt_of_le (Heap.lt_size e) (I.ok.cab x c hfn hc)))).trans (I.base.keep b o e n hb hx)
    · obtain ⟨sl, e1⟩ := I.base.slot b o e n hb hx
      exact ⟨sl, (hs.2 b (Nat.ne_of_lt (Nat.lt_of_lt_of_le (Heap.lt_size e) (I.ok.cab x c hfn hc)))).trans e1⟩
    · obtain ⟨o', e1⟩ := I.base.there b o e hx
      exact ⟨o', (hs.2 b (Nat.ne_of_lt (Nat.lt_of_lt_of_le (Heap.lt_size e) (I.ok.cab x c hfn hc)))).trans e1⟩
    · by_cases hj : j = i
      · subst hj
        rw [hi] at e1; cases e1
        rw [List.getElem?_set_self hiσ] at e2
        cases e2
        exact ⟨u, r, .inr ⟨.inl hk, c, hc, hc'⟩⟩
      · rw [List.getElem?_set_ne (Ne.symm hj)] at e2
        obtain ⟨u', r', q⟩ := hl j y v' e1 e2 e3
        refine ⟨u', r', ?_⟩
        rcases q with q | ⟨k, c', e, z'⟩
        · exact .inl q
        · refine .inr ⟨k, c', e, z'.sameBut hs ?_⟩
          rintro rfl
          exact hj (nodup_ix hN e1 (I.ok.inj _ _ _ e hc ▸ hi))
    · by_cases hcc : c' = c
      · subst hcc; exact ⟨_, hc'⟩
      · obtain ⟨w2, z2⟩ := I.cell y c' e
        exact ⟨w2, z2.sameBut hs hcc⟩
    · obtain ⟨e, n, ne, nf, d⟩ := I.pin p hp
      refine ⟨(hs.2 p.1 ?_).trans e, n, ne, nf, d⟩
      intro q
      rw [q, hoc] at e
      have q' : oc = p.2 := Option.some.inj e
      exact d w' (by rw [← q']; exact hocd)
theorem store_ok {M : Model} {A : Around} {E : Value → Shared → Prop} {i : Nat} {x : Str} {v : V} {u : Value} {Q : Unit → Shared → Prop} (I : Inv X pins σ H s) (hN : X.N.Nodup) (hi : X.N[i]? = some x) (hx : Loc X.env.scope x) (r : RelV v u)
    (h : ∀ s', Inv X pins (σ.set i (some v)) H s' → Q () s') (hf : X.fn x = true ∨ X.env.scope.names.lookup x = some .local := by first | exact .inl rfl | exact .inr rfl | assumption) : wpAny M A (storeName X.env x u) Q E s :=
  store_ok2 I hN hi hx r (fun s' I' _ => h s' I') hf
theorem Inv.call' {s' : Shared} {ch : List Addr} (I : Inv X pins σ H s) (ho : s'.os = s.os) (u : Un (frs X.stack) ch H H' s.heap s'.heap) (hok : HOk X.prog X.w X.K H' s'.heap) (hg : AllBare s'.gens)
    (hch : ∀ b ∈ ch, (b ∈ X.ex ∨ X.s₀.heap.objs.size ≤ b) ∧ b ≠ X.env.locals ∧ (∀ x c, X.env.cells.lookup x = some c → c ≠ b) ∧ ∀ p ∈ X.pn ++ pins, p.1 ≠ b) : Inv X pins σ H' s' := by
  obtain ⟨h', g', d', t', o'⟩ := s'
  have e : o' = s.os := ho
  subst e
  exact I.call (g' := g') (t' := t') (d' := d') u hok hg hch
end
abbrev XK := Value → Option Addr → Hp → Prop
abbrev St := List (Option V)
abbrev VK := V → Hp → Prop
abbrev TE := St → Hp → VK → Prop
abbrev TT := St → Hp → (Bool → Hp → Prop) → Prop
abbrev TA := St → Hp → (List V → Hp → Prop) → Prop
structure Ends where
  nx : St → Hp → Prop
  rt : VK
  bk : St → Hp → Prop := fun _ _ => False
  ct : St → Hp → Prop := fun _ _ => False
abbrev TS := Ends → St → Hp → Prop
def EP (X : Cx) (pins : List (Addr × Obj)) (σ : St) (Q : VK) (u : Value) (s' : Shared) : Prop := ∃ v H', Inv X pins σ H' s' ∧ RelV v u ∧ Q v H'
def TP (X : Cx) (pins : List (Addr × Obj)) (σ : St) (Q : Bool → Hp → Prop) (b : Bool) (s' : Shared) : Prop := ∃ H', Inv X pins σ H' s' ∧ Q b H'
def AP (X : Cx) (pins : List (Addr × Obj)) (σ : St) (Q : List V → Hp → Prop) (us : List Value) (s' : Shared) : Prop := ∃ vs H', Inv X pins σ H' s' ∧ Vals vs us ∧ Q vs H'
def SP (X : Cx) (pins : List (Addr × Obj)) (D : Ends) (f : Flow) (s' : Shared) : Prop :=
  match f with
  | .next => ∃ σ' H', Inv X pins σ' H' s' ∧ D.nx σ' H'
  | .brk => ∃ σ' H', Inv X pins σ' H' s' ∧ D.bk σ' H'
  | .cont => ∃ σ' H', Inv X pins σ' H' s' ∧ D.ct σ' H'
  | .ret u => ∃ v σ' H', Inv X pins σ' H' s' ∧ RelV v u ∧ D.rt v H'
def PE (X : Cx) (e : Expr) (t : TE) : Prop :=
  ∀ (pins : List (Addr × Obj)) (s : Shared) (σ : St) (H : Hp) (Q : VK), Inv X pins σ H s → t σ H Q → wpAny (model X.prog X.w) X.A (eval e X.env) (EP X pins σ Q) X.xe s
def PT (X : Cx) (e : Expr) (t : TT) : Prop :=
  ∀ (pins : List (Addr × Obj)) (s : Shared) (σ : St) (H : Hp) (Q : Bool → Hp → Prop), Inv X pins σ H s → t σ H Q → wpAny (model X.prog X.w) X.A (isTrue e X.env (eval e X.env)) (TP X pins σ Q) X.xe s
def PW (X : Cx) (e : Expr) (t : TT) : Prop :=
  ∀ (whole : Sem Value) (pins : List (Addr × Obj)) (s : Shared) (σ : St) (H : Hp) (Q : Bool → Hp → Prop), Inv X pins σ H s → t σ H Q → wpAny (model X.prog X.w) X.A (isTrue e X.env whole) (TP X pins σ Q) X.xe s
def PA (X : Cx) (es : List Expr) (t : TA) : Prop :=
  ∀ (pos : Pos) (pins : List (Addr × Obj)) (s : Shared) (σ : St) (H : Hp) (Q : List V → Hp → Prop), Inv X pins σ H s → t σ H Q → wpAny (model X.prog X.w) X.A (spliced (backTo pos (starEach es X.env))) (AP X pins σ Q) X.xe s
def PS (X : Cx) (st : Stmt) (t : TS) : Prop :=
  ∀ (pins : List (Addr × Obj)) (s : Shared) (σ : St) (H : Hp) (D : Ends), Inv X pins σ H s → t D σ H → wpAny (model X.prog X.w) X.A (exec st X.env) (SP X pins D) X.xe s
def PSs (X : Cx) (st : List Stmt) (t : TS) : Prop :=
  ∀ (pins : List (Addr × Obj)) (s : Shared) (σ : St) (H : Hp) (D : Ends), Inv X pins σ H s → t D σ H → wpAny (model X.prog X.w) X.A (execs st X.env) (SP X pins D) X.xe s
theorem thn {α : Type} {t : Sem α} {Q Q' : α → Shared → Prop} {M : Model} {A : Around} {E : Value → Shared → Prop} {s : Shared} (h : wpAny M A t Q E s) (hQ : ∀ a s, Q a s → Q' a s) : wpAny M A t Q' E s := wpAny_mono h hQ fun _ _ x => x
end L2
namespace L2
open PySem PySem.Spec PyProof.Rows
section
variable {X : Cx}
def tVar (i : Nat) : TE := fun σ H Q => ∃ v, σ[i]? = some (some v) ∧ Q v H
def tC (v : V) : TE := fun _ H Q => Q v H
theorem pe_var {i : Nat} {x : Str} {pos : Pos} (hN : X.N[i]? = some x) (hv : Vis X.env.scope x) (hd : (x == ("__debug__" : Str)) = false := by decide) (hcd : (x == ("__classdict__" : Str)) = false := by decide) : PE X (.Name x pos) (tVar i) := by
  intro pins s σ H Q I h
  obtain ⟨v, e, h⟩ := h
  obtain ⟨m, hn, hl⟩ := I.loc
  obtain ⟨u, r, l⟩ := hl i x v hN e hv
  have fin : EP X pins σ Q u s := ⟨v, H, I, r, h⟩
  rcases l with ⟨hk, hm⟩ | ⟨hk, c, hc, hcell⟩
  · exact wpAny_Name (wpAny_loadName_local I.ok.kind hk hn hm fin) hd
  · rcases hk with hk | hk
    · exact wpAny_Name (wpAny_loadName_cell I.ok.kind hk hc hcell fin) hd
    · exact wpAny_Name (wpAny_loadName_free I.ok.kind hk hc hcell fin hcd) hd
theorem pe_int {i j pos} : PE X (.Constant (.int i) j pos) (tC (.int i)) := fun _ _ _ H _ I h => wpAny_Constant_int ⟨.int i, H, I.tok _, ⟨_, rfl⟩, h⟩
theorem pe_bl {b j pos} : PE X (.Constant (.bool b) j pos) (tC (.bl b)) := fun _ _ _ H _ I h => Constant_bool ⟨.bl b, H, I, rfl, h⟩
theorem pe_str {x j pos} : PE X (.Constant (.str x) j pos) (tC (.str x)) := fun _ _ _ H _ I h => Calls.Constant_str ⟨.str x, H, I.tok _, ⟨_, rfl⟩, h⟩
def Gl (X : Cx) (x : Str) : Prop := X.env.kindOf x = some .globalImplicit
theorem ld_glob {E : Value → Shared → Prop} {pins : List (Addr × Obj)} {s : Shared} {σ : St} {H : Hp} {x : Str} {u : Value} {pos : Pos} {Q : Value → Shared → Prop} (I : Inv X pins σ H s) (hg : Gl X x) (hm : X.mg x = some u) (h : Q u s)
    (hd : (x == ("__debug__" : Str)) = false := by decide) : wpAny (model X.prog X.w) X.A (eval (.Name x pos) X.env) Q E s :=
  Calls.Name_function_global I.ok.kind hg (Calls.loadGlobal_global (by rw [I.ok.glob]; exact I.mod.glob.keeps I.bk) hm h) hd
theorem ld_blt {E : Value → Shared → Prop} {pins : List (Addr × Obj)} {s : Shared} {σ : St} {H : Hp} {x : Str} {u : Value} {pos : Pos} {Q : Value → Shared → Prop} (I : Inv X pins σ H s) (hg : Gl X x) (hm : X.mg x = none) (hv : bootBuiltins x = some u) (h : Q u s)
    (hn : x ≠ "__name__" := by decide) (hd : (x == ("__debug__" : Str)) = false := by decide) : wpAny (model X.prog X.w) X.A (eval (.Name x pos) X.env) Q E s := by
  obtain ⟨mb, h1, h2⟩ := I.mod.blt
  exact Calls.Name_function_global I.ok.kind hg (Calls.loadGlobal_builtin (by rw [I.ok.glob]; exact I.mod.glob.keeps I.bk) hm (by rw [I.ok.blt]; exact h1.keeps I.bk) ((h2 x hn).trans hv) h) hd
theorem pe_glob {x : Str} {v : V} {u : Value} {pos : Pos} (hg : Gl X x) (hm : X.mg x = some u) (r : RelV v u) (hd : (x == ("__debug__" : Str)) = false := by decide) : PE X (.Name x pos) (tC v) :=
  fun _ _ _ H _ I h => ld_glob I hg hm ⟨v, H, I, r, h⟩ hd
variable {a b : Expr} {ta tb : TE} {pos : Pos}
def tB (t : TE) : TT := fun σ H Q => t σ H fun x H1 => ∃ c, x = .bl c ∧ Q c H1
theorem pt_val {e : Expr} {t : TE} (h : PE X e t) (he : ∀ whole, isTrue e X.env whole = (do let v ← whole; standAt e.pos; holding [v] (truthy v)) := by intro _; rfl) : PT X e (tB t) := by
  intro pins s σ H Q I hw
  refine isTrue_plain (thn (h pins s σ H _ I hw) fun v s1 ⟨x, H1, I1, r1, q1⟩ => ?_) (he _)
  obtain ⟨d, rfl, q⟩ := q1
  cases r1
  exact wpAny_truthy_bool ⟨H1, I1, q⟩
variable {tA tB' : TT} {rest : List Expr}
def tOr (t u : TT) : TT := fun σ H Q => t σ H fun c H1 => if c = true then Q true H1 else u σ H1 Q
def tNot (t : TT) : TT := fun σ H Q => t σ H fun c H1 => Q (!c) H1
theorem pw_or1 (ha : PT X a tA) : PW X (.BoolOp .Or [a] pos) tA := by
  intro wh pins s σ H Q I h
  refine isTrue_or (thn (ha pins s σ H Q I h) fun c s1 e => ?_)
  cases c with
  | false => exact isTrue_or_nil e
  | true => exact e
theorem pw_or (ha : PT X a tA) (hb : PW X (.BoolOp .Or (b :: rest) pos) tB') : PW X (.BoolOp .Or (a :: b :: rest) pos) (tOr tA tB') := by
  intro wh pins s σ H Q I h
  refine isTrue_or (thn (ha pins s σ H _ I h) fun c s1 ⟨H1, I1, q1⟩ => ?_)
  cases c with
  | true => exact ⟨H1, I1, q1⟩
  | false => exact hb wh pins s1 σ H1 Q I1 q1
theorem pt_not (ha : PT X a tA) : PT X (.UnaryOp .Not a pos) (tNot tA) := by
  intro pins s σ H Q I h
  exact isTrue_not (ha pins s σ H (fun c H1 => Q (!c) H1) I h)
def tAndV (ta tb : TE) : TE := fun σ H Q => ta σ H fun x H1 => ∃ c, x = .bl c ∧ if c = true then tb σ H1 Q else Q (.bl false) H1
def tOrV (ta tb : TE) : TE := fun σ H Q => ta σ H fun x H1 => ∃ c, x = .bl c ∧ if c = true then Q (.bl true) H1 else tb σ H1 Q
theorem pe_one {op} {t : TE} (h : PE X a t) : PE X (.BoolOp op [a] pos) t := fun pins s σ H Q I hw => BoolOp_one (h pins s σ H Q I hw)
theorem pe_and (ha : PE X a ta) (hb : PE X (.BoolOp .And (b :: rest) pos) tb) : PE X (.BoolOp .And (a :: b :: rest) pos) (tAndV ta tb) := by
  intro pins s σ H Q I h
  refine BoolOp_and (thn (ha pins s σ H _ I h) fun v s1 ⟨x, H1, I1, r1, q1⟩ => ?_)
  obtain ⟨c, rfl, q1⟩ := q1
  cases r1
  refine wpAny_truthy_bool ?_
  cases c with
  | true => exact hb pins s1 σ H1 Q I1 q1
  | false => exact ⟨.bl false, H1, I1, rfl, q1⟩
theorem pe_or (ha : PE X a ta) (hb : PE X (.BoolOp .Or (b :: rest) pos) tb) : PE X (.BoolOp .Or (a :: b :: rest) pos) (tOrV ta tb) := by
  intro pins s σ H Q I h
  refine BoolOp_or (thn (ha pins s σ H _ I h) fun v s1 ⟨x, H1, I1, r1, q1⟩ => ?_)
  obtain ⟨c, rfl, q1⟩ := q1
  cases r1
  refine wpAny_truthy_bool ?_
  cases c with
  | false => exact hb pins s1 σ H1 Q I1 q1
  | true => exact ⟨.bl true, H1, I1, rfl, q1⟩
end
end L2
namespace L2
open PySem PySem.Spec PyProof.Rows
def SqL (K : PySem.W.Frag) (H : Hp) (a : Addr) (xs : List V) : Prop :=
  Rd H a (.lst xs) ∨
    ∃ (o : Obj) (its : Array Value) (n : Nat), K.lookup a = some o ∧ o.cls = .type "list" ∧ o.dict = none ∧ o.data = .seq its n ∧ its.size ≤ sizeLine ∧ Vals xs its.toList
def SqT (K : PySem.W.Frag) (H : Hp) (a : Addr) (xs : List V) : Prop :=
  Rd H a (.tup xs) ∨
    ∃ (o : Obj) (its : Array Value) (n : Nat), K.lookup a = some o ∧ o.cls = .type "tuple" ∧ o.data = .seq its n ∧ its.size ≤ sizeLine ∧ Vals xs its.toList
def absV : Value → Option V
  | .none => some .non
  | .bool b => some (.bl b)
  | .int i _ => some (.int i)
  | .str x _ => some (.str x)
  | .bytes b _ => some (.byt b)
  | .float b _ => some (.flt b)
  | .ref a => some (.ref a)
  | .type n => some (.ty n)
  | _ => none
theorem RelV.abs {x : V} {u : Value} (r : RelV x u) : absV u = some x := by
  cases x with
  | non => cases r; rfl
  | bl _ => cases r; rfl
  | int _ => obtain ⟨t, rfl⟩ := r; rfl
  | str _ => obtain ⟨t, rfl⟩ := r; rfl
  | byt _ => obtain ⟨t, rfl⟩ := r; rfl
  | flt _ => obtain ⟨t, rfl⟩ := r; rfl
  | ref _ => cases r; rfl
  | ty _ => cases r; rfl
theorem RelV.inj {x y : V} {u : Value} (r : RelV x u) (q : RelV y u) : x = y := Option.some.inj (r.abs.symm.trans q.abs)
theorem Vals.inj : ∀ {xs ys : List V} {us : List Value}, Vals xs us → Vals ys us → xs = ys
  | _, _, _, .nil, .nil => rfl
  | _, _, _, .cons r t, .cons r' t' => by rw [r.inj r', Vals.inj t t']
section
variable {X : Cx} {pins : List (Addr × Obj)} {σ : St} {H : Hp} {s : Shared} {a : Addr} {xs ys : List V}
theorem SqL.of {K : PySem.W.Frag} (h : H a = some (.lst xs)) : SqL K H a xs := .inl (.inl h)
theorem SqT.of {K : PySem.W.Frag} (h : H a = some (.tup xs)) : SqT K H a xs := .inl (.inl h)
theorem Inv.list (I : Inv X pins σ H s) (h : SqL X.K H a xs) : ∃ its : List Value, Vals xs its ∧ PlainL s.heap a its.toArray ∧ xs.length ≤ sizeLine := by
  rcases h with h | ⟨o, its, n, hk, hc, hd, hs, hz, r⟩
  · obtain ⟨z, its, n, r, e⟩ := h.ok I.hok
    exact ⟨its, r, ⟨_, n, e, rfl, rfl, rfl⟩, z⟩
  · refine ⟨its.toList, r, ⟨o, n, I.kIn a o hk, hc, hd, by simpa using hs⟩, ?_⟩
    have e := r.length
    simp only [Array.length_toList] at e
    omega
theorem Inv.tuple (I : Inv X pins σ H s) (h : SqT X.K H a xs) : ∃ its : List Value, Vals xs its ∧ IsTup s.heap a its.toArray ∧ xs.length ≤ sizeLine := by
  rcases h with h | ⟨o, its, n, hk, hc, hs, hz, r⟩
  · obtain ⟨z, its, r, p⟩ := h.ok I.hok
    exact ⟨its, r, p, z⟩
  · refine ⟨its.toList, r, ⟨o, I.kIn a o hk, hc, n, by simpa using hs⟩, ?_⟩
    have e := r.length
    simp only [Array.length_toList] at e
    omega
theorem Inv.list_inj (I : Inv X pins σ H s) (h : SqL X.K H a xs) (h' : SqL X.K H a ys) : xs = ys := by
  obtain ⟨its, r, ⟨o, n, e, _, _, d⟩, _⟩ := I.list h
  obtain ⟨its', r', ⟨o', n', e', _, _, d'⟩, _⟩ := I.list h'
  rw [e] at e'; cases e'
  rw [d] at d'
  injection d' with d1 _
  have : its = its' := by simpa using congrArg Array.toList d1
  subst this
  exact r.inj r'
theorem Inv.tuple_inj (I : Inv X pins σ H s) (h : SqT X.K H a xs) (h' : SqT X.K H a ys) : xs = ys := by
  obtain ⟨its, r, ⟨o, e, _, n, d⟩, _⟩ := I.tuple h
  obtain ⟨its', r', ⟨o', e', _, n', d'⟩, _⟩ := I.tuple h'
  rw [e] at e'; cases e'
  rw [d] at d'
  injection d' with d1 _
  have : its = its' := by simpa using congrArg Array.toList d1
  subst this
  exact r.inj r'
end
abbrev Cx.wish (X : Cx) (E : Value → Shared → Prop) : Cx := { X with xe := E }
abbrev Cx.nox (X : Cx) : Cx := X.wish fun _ _ => False
theorem Cx.Ok.wish {X : Cx} (ok : X.Ok) (E : Value → Shared → Prop) : (X.wish E).Ok :=
  ⟨ok.mod, ok.kind, ok.glob, ok.blt, ok.above, ok.inj, ok.has, ok.cab, ok.hd, ok.frames, ok.stk, ok.exf, ok.bs, ok.bsz, ok.noex, ok.exfs, ok.funs, ok.frf⟩
theorem Cx.Ok.unwish {X : Cx} {E : Value → Shared → Prop} (ok : (X.wish E).Ok) : X.Ok :=
  ⟨ok.mod, ok.kind, ok.glob, ok.blt, ok.above, ok.inj, ok.has, ok.cab, ok.hd, ok.frames, ok.stk, ok.exf, ok.bs, ok.bsz, ok.noex, ok.exfs, ok.funs, ok.frf⟩
section
variable {X : Cx} {pins : List (Addr × Obj)} {σ : St} {H : Hp} {s : Shared} {E : Value → Shared → Prop}
theorem Inv.wish (I : Inv X pins σ H s) (E : Value → Shared → Prop) : Inv (X.wish E) pins σ H s := ⟨I.ok.wish E, I.os, I.bare, I.base, I.loc, I.cell, I.free, I.freeC, I.pin, I.hok, I.len⟩
theorem Inv.unwish (I : Inv (X.wish E) pins σ H s) : Inv X pins σ H s := ⟨I.ok.unwish, I.os, I.bare, I.base, I.loc, I.cell, I.free, I.freeC, I.pin, I.hok, I.len⟩
theorem SP.unwish {D : Ends} {f : Flow} {s' : Shared} (h : SP (X.wish E) pins D f s') : SP X pins D f s' := by
  cases f with
  | next => obtain ⟨σ', H', I, q⟩ := h; exact ⟨σ', H', I.unwish, q⟩
  | brk => obtain ⟨σ', H', I, q⟩ := h; exact ⟨σ', H', I.unwish, q⟩
  | cont => obtain ⟨σ', H', I, q⟩ := h; exact ⟨σ', H', I.unwish, q⟩
  | ret u => obtain ⟨v, σ', H', I, r, q⟩ := h; exact ⟨v, σ', H', I.unwish, r, q⟩
theorem PSs.nox {st : List Stmt} {t : TS} (h : PSs X.nox st t) : PSs X st t := fun pins s σ H D I hw =>
  wpAny_mono (h pins s σ H D (I.wish _) hw) (fun _ _ q => q.unwish) fun _ _ z => False.elim z
end
section
variable {X : Cx} {st : Stmt} {rest : List Stmt} {t u : TS} {e : Expr} {te : TE} {pos : Pos}
def tNext : TS := fun D σ H => D.nx σ H
def tSeq (t u : TS) : TS := fun D σ H => t { D with nx := u D } σ H
theorem pss_nil : PSs X [] tNext := fun _ _ σ H _ I h => wpAny_execs_nil ⟨σ, H, I, h⟩
theorem pss_cons (h1 : PS X st t) (h2 : PSs X rest u) : PSs X (st :: rest) (tSeq t u) := by
  intro pins s σ H D I h
  refine wpAny_execs_cons (thn (h1 pins s σ H { D with nx := u D } I h) fun f s1 q => ?_)
  cases f with
  | next =>
    obtain ⟨σ', H', I', q⟩ := q
    exact h2 pins s1 σ' H' D I' q
  | ret v => exact q
  | brk => exact q
  | cont => exact q
theorem pss_one (h1 : PS X st t) : PSs X [st] t := by
  intro pins s σ H D I h
  refine wpAny_execs_cons (thn (h1 pins s σ H D I h) fun f s1 q => ?_)
  cases f with
  | next => exact wpAny_execs_nil q
  | ret v => exact q
  | brk => exact q
  | cont => exact q
theorem Inv.quiet {pins : List (Addr × Obj)} {σ : St} {H : Hp} {s : Shared} (I : Inv X pins σ H s) : interactive X.env = false := by simp [interactive, I.ok.kind]
def tDrop (te : TE) : TS := fun D σ H => te σ H fun _ H1 => D.nx σ H1
theorem ps_expr (he : PE X e te) (hs : swapsWith e none pos.line X.env = pure false := by rfl) : PS X (.Expr e pos) (tDrop te) := by
  intro pins s σ H D I h
  exact wpAny_Expr_any (thn (he pins s σ H _ I h) fun v s1 ⟨x, H1, I1, r1, q1⟩ => ⟨σ, H1, I1, q1⟩) I.quiet hs
def tRet (te : TE) : TS := fun D σ H => te σ H D.rt
theorem ps_ret (he : PE X e te) : PS X (.Return (some e) pos) (tRet te) := by
  intro pins s σ H D I h
  exact wpAny_Return_some (thn (he pins s σ H _ I h) fun v s1 ⟨x, H1, I1, r1, q1⟩ => ⟨x, σ, H1, I1, r1, q1⟩)
def tIfS (c : TT) (t u : TS) : TS := fun D σ H => c σ H fun b H1 => if b = true then t D σ H1 else u D σ H1
theorem ps_if {c : Expr} {a b : List Stmt} {tc : TT} (hc : PT X c tc) (ha : PSs X a t) (hb : PSs X b u) : PS X (.If c a b pos) (tIfS tc t u) := by
  intro pins s σ H D I h
  refine wpAny_If (thn (hc pins s σ H _ I h) fun d s1 ⟨H1, I1, q1⟩ => ?_)
  cases d with
  | true => exact ha pins s1 σ H1 D I1 q1
  | false => exact hb pins s1 σ H1 D I1 q1
def tNever : TS := fun _ _ _ => False
theorem ps_never : PS X st tNever := fun _ _ _ _ _ _ h => h.elim
end
abbrev TG := V → St → Hp → (St → Hp → Prop) → Prop
abbrev TGs := List V → St → Hp → (St → Hp → Prop) → Prop
def PG (X : Cx) (target : Expr) (t : TG) : Prop :=
  ∀ (pins : List (Addr × Obj)) (s : Shared) (σ : St) (H : Hp) (v : V) (u : Value) (Q : St → Hp → Prop), Inv X pins σ H s → RelV v u → t v σ H Q →
    wpAny (model X.prog X.w) X.A (assign target X.env u) (fun _ s' => ∃ σ' H', Inv X pins σ' H' s' ∧ Q σ' H') X.xe s
def PGs (X : Cx) (ts : List Expr) (t : TGs) : Prop :=
  ∀ (pins : List (Addr × Obj)) (s : Shared) (σ : St) (H : Hp) (vs : List V) (us : List Value) (Q : St → Hp → Prop), Inv X pins σ H s → Vals vs us → t vs σ H Q →
    wpAny (model X.prog X.w) X.A (assignInOrder ((assignEach ts X.env).map (·.2)) us) (fun _ s' => ∃ σ' H', Inv X pins σ' H' s' ∧ Q σ' H') X.xe s
abbrev TSet := V → V → V → Hp → (Hp → Prop) → Prop
def PSet (X : Cx) (t : TSet) : Prop :=
  ∀ (pins : List (Addr × Obj)) (s : Shared) (σ : St) (H : Hp) (o i v : V) (ov iv u : Value) (Q : Hp → Prop), Inv X pins σ H s → RelV o ov → RelV i iv → RelV v u → t o i v H Q →
    wpAny (model X.prog X.w) X.A (setItem ov iv u) (fun _ s' => ∃ H', Inv X pins σ H' s' ∧ Q H') X.xe s
section
variable {X : Cx} {pos : Pos}
def gName (i : Nat) : TG := fun v σ H Q => Q (σ.set i (some v)) H
theorem pg_name {i : Nat} {x : Str} (hN : X.N.Nodup) (hi : X.N[i]? = some x) (hx : Loc X.env.scope x) (hf : X.fn x = true ∨ X.env.scope.names.lookup x = some .local := by first | exact .inl rfl | exact .inr rfl | assumption) : PG X (.Name x pos) (gName i) := by
  intro pins s σ H v u Q I r h
  exact wpAny_assign_Name (store_ok I hN hi hx r (fun s' I' => ⟨_, H, I', h⟩) hf)
def gNil : TGs := fun vs σ H Q => vs = [] ∧ Q σ H
def gCons (t : TG) (u : TGs) : TGs := fun vs σ H Q => ∃ v r, vs = v :: r ∧ t v σ H fun σ' H' => u r σ' H' Q
theorem pgs_nil : PGs X [] gNil := by
  intro pins s σ H vs us Q I r h
  obtain ⟨e, h⟩ := h
  subst e
  cases r
  exact assignInOrder_nil ⟨σ, H, I, h⟩
theorem pgs_cons {e : Expr} {es : List Expr} {t : TG} {u : TGs} (h1 : PG X e t) (h2 : PGs X es u)
    (hs : (assignEach (e :: es) X.env).map (·.2) = assign e X.env :: (assignEach es X.env).map (·.2) := by rfl) : PGs X (e :: es) (gCons t u) := by
  intro pins s σ H vs us Q I r h
  obtain ⟨v, vr, e1, h⟩ := h
  subst e1
  cases r with
  | cons r rr =>
    rw [hs]
    refine assignInOrder_cons (thn (h1 pins s σ H _ _ _ I r h) fun _ s1 ⟨σ1, H1, I1, q1⟩ => ?_)
    exact h2 pins s1 σ1 H1 _ _ Q I1 rr q1
def gTup (K : PySem.W.Frag) (n : Nat) (t : TGs) : TG := fun v σ H Q => ∃ a xs, v = .ref a ∧ SqT K H a xs ∧ xs.length = n ∧ t xs σ H Q
theorem pg_tup {es : List Expr} {k : Nat} {t : TGs} {n : Nat} (hc : X.calm = true) (h : PGs X es t)
    (hn : (assignEach es X.env).length = n := by rfl) (hst : (assignEach es X.env).findIdx? (·.1) = none := by rfl) : PG X (.Tuple es k pos) (gTup X.K n t) := by
  intro pins s σ H v u Q I r hw
  obtain ⟨a, xs, e1, hq, hl, hw⟩ := hw
  subst e1
  cases r
  obtain ⟨its, rv, ht, hz⟩ := I.tuple hq
  refine assign_Tuple_tuple (I.ok.hd hc) ht (by simp [hn, ← hl, rv.length]) hst fun h' hx => ?_
  have I1 : Inv X pins σ H { s with heap := h' } := I.kept (t' := s.toks) fun b o e => hx b o (Nat.ne_of_lt (Heap.lt_size e)) e
  exact h pins _ σ H xs _ Q I1 (by simpa using rv) hw
def gSub (to ti : TE) (t : TSet) : TG := fun v σ H Q => to σ H fun o H1 => ti σ H1 fun i H2 => t o i v H2 fun H3 => Q σ H3
theorem pg_sub {o i : Expr} {to ti : TE} {t : TSet} (ho : PE X o to) (hi : PE X i ti) (hs : PSet X t)
    (ha : ∀ v, assign (.Subscript o i pos) X.env v = (do
      let ov ← holding [v] (eval o X.env)
      let iv ← holding [v, ov] (eval i X.env)
      standAt pos
      holding [v, ov, iv] (setItem ov iv v)
      release [v, ov, iv] []) := by intro _; rfl) : PG X (.Subscript o i pos) (gSub to ti t) := by
  intro pins s σ H v u Q I r h
  rw [ha]
  refine wpAny_bind (wpAny_holding (thn (ho pins s σ H _ I h) fun ov s1 ⟨x, H1, I1, r1, q1⟩ => ?_))
  refine wpAny_bind (wpAny_holding (thn (hi pins s1 σ H1 _ I1 q1) fun iv s2 ⟨y, H2, I2, r2, q2⟩ => ?_))
  refine wpAny_bind (wpAny_standAt (wpAny_bind (wpAny_holding (thn (hs pins s2 σ H2 x y v ov iv u _ I2 r1 r2 r q2) fun _ s3 ⟨H3, I3, q3⟩ => ?_))))
  exact wpAny_release ⟨σ, H3, I3, q3⟩
def tAsg (te : TE) (g : TG) : TS := fun D σ H => te σ H fun x H1 => g x σ H1 D.nx
theorem ps_asg {tg e : Expr} {te : TE} {g : TG} (he : PE X e te) (hg : PG X tg g) (hs : swapsWithSole [tg] e pos.line X.env = pure false := by rfl) (hw : swappedStores [tg] e X.env = pure none := by rfl)
    (h1 : (assignEach [tg] X.env).map (·.2) = [assign tg X.env] := by rfl) : PS X (.Assign [tg] e pos) (tAsg te g) := by
  intro pins s σ H D I h
  refine wpAny_Assign_stores (thn (he pins s σ H _ I h) fun v s1 ⟨x, H1, I1, r1, q1⟩ => ?_) hs hw
  rw [h1]
  exact thn (hg pins s1 σ H1 x v _ I1 r1 q1) fun _ s2 q => q
theorem ps_set {i : Nat} {x : Str} {e : Expr} {te : TE} {pos' : Pos} (hN : X.N.Nodup) (hi : X.N[i]? = some x) (hx : Loc X.env.scope x) (he : PE X e te) (hs : swapsWith e (some (.Name x pos')) pos.line X.env = pure false := by rfl) (hf : X.fn x = true ∨ X.env.scope.names.lookup x = some .local := by first | exact .inl rfl | exact .inr rfl | assumption) :
    PS X (.Assign [.Name x pos'] e pos) (tAsg te (gName i)) := by
  intro pins s σ H D I h
  refine wpAny_Assign_Name (thn (he pins s σ H _ I h) fun v s1 ⟨y, H1, I1, r1, q1⟩ => ?_) hs
  exact store_ok I1 hN hi hx r1 (fun s2 I2 => ⟨_, H1, I2, q1⟩) hf
end
section
variable {X : Cx} {pos : Pos}
end
structure It where
  go : Nat → Hp → Prop
  yld : Nat → Hp → V → Hp → Prop
  stop : Nat → Hp → Prop
def FpOk (X : Cx) (pins : List (Addr × Obj)) (H : Hp) (b : Addr) : Prop :=
  H b = none ∧ b ≠ X.env.locals ∧ b ∉ X.fs ∧ (b ∈ X.ex ∨ X.s₀.heap.objs.size ≤ b) ∧ (∀ x c, X.env.cells.lookup x = some c → c ≠ b) ∧ ∀ p ∈ X.pn ++ pins, p.1 ≠ b
theorem Inv.fpOk {X : Cx} {pins : List (Addr × Obj)} {σ : St} {H H' : Hp} {s : Shared} {b : Addr} (I : Inv X pins σ H s) (hb : s.heap.objs.size ≤ b) (hn : H' b = none) : FpOk X pins H' b := by
  refine ⟨hn, Nat.ne_of_gt (Nat.lt_of_lt_of_le I.lt hb), I.nofs hb, .inr (Nat.le_trans I.sz hb), fun x c e z => ?_, fun p hp z => ?_⟩
  · obtain ⟨v, q⟩ := I.cell x c e
    exact absurd (Nat.lt_of_lt_of_le q.lt (by rw [z]; exact hb)) (Nat.lt_irrefl _)
  · exact absurd (Nat.lt_of_lt_of_le (Heap.lt_size (I.pin p hp).1) (by rw [z]; exact hb)) (Nat.lt_irrefl _)
structure Turn (P : Program) (w : World) (K : PySem.W.Frag) (tg : Expr) (J : It) (fp : List Addr) (it : Addr) (tn : Nat → Heap → Prop) : Prop where
  mem : it ∈ fp
  obj : ∀ i h, tn i h → ∀ b ∈ fp, ∃ o, h.get? b = some o ∧ ∀ v, o.data ≠ .cell v
  keep : ∀ i h h', tn i h → (∀ b ∈ fp, ∀ o, h.get? b = some o → h'.get? b = some o) → tn i h'
  item : ∀ (X : Cx), X.prog = P → X.w = w → X.K = K → X.calm = true → ∀ (i : Nat) (pins : List (Addr × Obj)) (s : Shared) (σ : St) (H : Hp) (E : Value → Shared → Prop), Inv X pins σ H s → (∀ b ∈ fp, FpOk X pins H b) → tn i s.heap → J.go i H →
    wpAny (model P w) X.A (pyNext (.ref it)) (fun r s1 => ∃ u, r = some u ∧
      wpAny (model P w) X.A (letOwnedTupleGo tg (.ref it) u) (fun _ s2 => ∃ x H', Inv X pins σ H' s2 ∧ RelV x u ∧ J.yld i H x H' ∧ tn (i + 1) s2.heap ∧ ∀ b ∈ fp, H' b = none) E s1) E s
  done : ∀ (X : Cx), X.prog = P → X.w = w → X.K = K → X.calm = true → ∀ (i : Nat) (pins : List (Addr × Obj)) (s : Shared) (σ : St) (H : Hp) (E : Value → Shared → Prop), Inv X pins σ H s → (∀ b ∈ fp, FpOk X pins H b) → tn i s.heap → J.stop i H →
    wpAny (model P w) X.A (pyNext (.ref it)) (fun r s1 => r = none ∧ Inv X pins σ H s1) E s
  self : ∀ (A : Around) (i : Nat) (s : Shared) (Q : Value → Shared → Prop) (E : Value → Shared → Prop), tn i s.heap → Q (.ref it) s → wpAny (model P w) A (pyIter (.ref it)) Q E s
abbrev TI := St → Hp → (It → Hp → Prop) → Prop
def PIE (X : Cx) (pins : List (Addr × Obj)) (σ : St) (tg : Expr) (R : It → Hp → Prop) (itv : Value) (s2 : Shared) : Prop :=
  ∃ (it : Addr) (fp : List Addr) (tn : Nat → Heap → Prop) (J : It) (H' : Hp), itv = .ref it ∧ Inv X pins σ H' s2 ∧ Turn X.prog X.w X.K tg J fp it tn ∧ tn 0 s2.heap ∧ (∀ b ∈ fp, FpOk X pins H' b) ∧ R J H'
def PI (X : Cx) (tg iter : Expr) (wi : TI) : Prop :=
  ∀ (pins : List (Addr × Obj)) (s : Shared) (σ : St) (H : Hp) (R : It → Hp → Prop), Inv X pins σ H s → wi σ H R →
    wpAny (model X.prog X.w) X.A (eval iter X.env) (fun v s1 => wpAny (model X.prog X.w) X.A (pyIter v) (PIE X pins σ tg R) X.xe s1) X.xe s
theorem go_of {M : Model} {A : Around} {E : Value → Shared → Prop} {s : Shared} {tg : Expr} {it : Addr} {u : Value} {o : Obj} {n : String} {vs : Array Value} {Q : Unit → Shared → Prop} (ho : s.heap.get? it = some o) (hc : o.cls = .type n) (hd : o.data = .fields vs)
    (hn : ["enumerate", "zip", "dict_itemiterator", "dict_reverseitemiterator", "odict_iterator", "itertools.zip_longest", "itertools.pairwise"].contains n = false) (hQ : Q () s) : wpAny M A (letOwnedTupleGo tg (.ref it) u) Q E s := by
  unfold letOwnedTupleGo
  cases tg <;> first
    | exact wpAny_pure hQ
    | (cases u <;> first
        | exact wpAny_pure hQ
        | (refine wpAny_bind (wpAny_load ho ?_)
           rw [hc, hd]
           show wpAny M A (if (["enumerate", "zip", "dict_itemiterator", "dict_reverseitemiterator", "odict_iterator", "itertools.zip_longest", "itertools.pairwise"].contains n && vs[0]? == some (rawInt _)) = true then _ else _) Q E s
           rw [if_neg (by intro h; rw [hn, Bool.false_and] at h; cases h)]
           exact wpAny_pure hQ))
def Itl (K : PySem.W.Frag) (a : Addr) : It :=
  ⟨fun i H => ∃ xs x, SqL K H a xs ∧ xs[i]? = some x, fun i H x H' => H' = H ∧ ∀ xs, SqL K H a xs → xs[i]? = some x, fun i H => ∃ xs, SqL K H a xs ∧ xs.length ≤ i⟩
def Itt (K : PySem.W.Frag) (a : Addr) : It :=
  ⟨fun i H => ∃ xs x, SqT K H a xs ∧ xs[i]? = some x, fun i H x H' => H' = H ∧ ∀ xs, SqT K H a xs → xs[i]? = some x, fun i H => ∃ xs, SqT K H a xs ∧ xs.length ≤ i⟩
def Itr (lo : Int) (n : Nat) : It := ⟨fun i _ => i < n, fun i H x H' => H' = H ∧ x = .int (lo + i), fun i _ => n ≤ i⟩
theorem turn_list {P : Program} {w : World} {K : PySem.W.Frag} {tg : Expr} (a it : Addr) : Turn P w K tg (Itl K a) [it] it (fun i h => h.IsListIter it a i) where
  mem := by simp
  obj := fun i h st b hb => by
    have e : b = it := by simpa using hb
    subst e
    obtain ⟨o, e, c, d⟩ := st
    exact ⟨o, e, fun v z => by rw [d] at z; cases z⟩
  keep := fun i h h' st k => st.at fun o e => k it (by simp) o e
  item := by
    intro X hP hw hK hc i pins s σ H E I hf st hg
    subst hP hw hK
    obtain ⟨xs, x, hq, hx⟩ := hg
    obtain ⟨its, rv, p, hz⟩ := I.list hq
    obtain ⟨u, hu, ru⟩ := rv.get hx
    obtain ⟨f0, f1, f2, f3, f4, f5⟩ := hf it (by simp)
    refine wpAny_pyNext_list_item st p.isList (x := u) (by simpa using hu) fun h' st' sb => ?_
    have I1 : Inv X pins σ H { s with heap := h' } := I.turned (t' := s.toks) (fun b o hb e => (sb.2 b hb).trans e) f0 f1 f3 f4 f5
    obtain ⟨o, e, c, d⟩ := id st'
    exact ⟨u, rfl, go_of (s := { s with heap := h' }) e c d (by decide) ⟨x, H, I1, ru, ⟨rfl, fun ys hy => by rw [I.list_inj hy hq]; exact hx⟩, st', fun b hb => (hf b hb).1⟩⟩
  done := by
    intro X hP hw hK hc i pins s σ H E I hf st hg
    subst hP hw hK
    obtain ⟨xs, hq, hx⟩ := hg
    obtain ⟨its, rv, p, hz⟩ := I.list hq
    obtain ⟨f0, f1, f2, f3, f4, f5⟩ := hf it (by simp)
    have hl := rv.length
    exact wpAny_pyNext_list_end (I.ok.hd hc) st p.isList (by simp; omega) fun h' eb => ⟨rfl, I.turned (t' := s.toks) (fun b o hb e => eb b o hb e) f0 f1 f3 f4 f5⟩
  self := fun _ _ _ _ _ st h => wpAny_pyIter_listiter st h
theorem turn_tuple {P : Program} {w : World} {K : PySem.W.Frag} {tg : Expr} (a it : Addr) : Turn P w K tg (Itt K a) [it] it (fun i h => h.IsTupleIter it a i) where
  mem := by simp
  obj := fun i h st b hb => by
    have e : b = it := by simpa using hb
    subst e
    obtain ⟨o, e, c, d⟩ := st
    exact ⟨o, e, fun v z => by rw [d] at z; cases z⟩
  keep := fun i h h' st k => st.at fun o e => k it (by simp) o e
  item := by
    intro X hP hw hK hc i pins s σ H E I hf st hg
    subst hP hw hK
    obtain ⟨xs, x, hq, hx⟩ := hg
    obtain ⟨its, rv, p, hz⟩ := I.tuple hq
    obtain ⟨u, hu, ru⟩ := rv.get hx
    obtain ⟨f0, f1, f2, f3, f4, f5⟩ := hf it (by simp)
    refine wpAny_pyNext_tuple_item st (show s.heap.IsTuple a its.toArray from p) (x := u) (by simpa using hu) fun h' st' sb => ?_
    have I1 : Inv X pins σ H { s with heap := h' } := I.turned (t' := s.toks) (fun b o hb e => (sb.2 b hb).trans e) f0 f1 f3 f4 f5
    obtain ⟨o, e, c, d⟩ := id st'
    exact ⟨u, rfl, go_of (s := { s with heap := h' }) e c d (by decide) ⟨x, H, I1, ru, ⟨rfl, fun ys hy => by rw [I.tuple_inj hy hq]; exact hx⟩, st', fun b hb => (hf b hb).1⟩⟩
  done := by
    intro X hP hw hK hc i pins s σ H E I hf st hg
    subst hP hw hK
    obtain ⟨xs, hq, hx⟩ := hg
    obtain ⟨its, rv, p, hz⟩ := I.tuple hq
    obtain ⟨f0, f1, f2, f3, f4, f5⟩ := hf it (by simp)
    have hl := rv.length
    exact wpAny_pyNext_tuple_end (I.ok.hd hc) st (show s.heap.IsTuple a its.toArray from p) (by simp; omega) fun h' eb => ⟨rfl, I.turned (t' := s.toks) (fun b o hb e => eb b o hb e) f0 f1 f3 f4 f5⟩
  self := fun _ _ _ _ _ st h => wpAny_pyIter_tupleiter st h
theorem turn_range {P : Program} {w : World} {K : PySem.W.Frag} {tg : Expr} (it : Addr) (lo : Int) (n : Nat) : Turn P w K tg (Itr lo n) [it] it (fun i h => IsRangeIter h it (lo + (i : Nat) * 1) ((n : Int) - (i : Nat)) 1) where
  mem := by simp
  obj := fun i h st b hb => by
    have e : b = it := by simpa using hb
    subst e
    exact ⟨_, st, fun v z => by
      have z' : Data.fields _ = Data.cell v := z
      cases z'⟩
  keep := fun i h h' st k => k it (by simp) _ st
  item := by
    intro X hP hw hK hc i pins s σ H E I hf st hg
    subst hP hw hK
    obtain ⟨f0, f1, f2, f3, f4, f5⟩ := hf it (by simp)
    have W := Walks.range (prog := X.prog) (w := X.w) (I.ok.hd hc) it lo 1 n
    refine W.item i s _ _ hg st fun v h' tk hv st' kk => ?_
    obtain ⟨t, rfl⟩ := hv
    have I1 : Inv X pins σ H { s with heap := h', toks := tk } := I.turned (fun b o hb e => kk b o (by simpa using hb) e) f0 f1 f3 f4 f5
    refine ⟨_, rfl, go_of (s := { s with heap := h', toks := tk }) (n := "range_iterator") st' rfl rfl (by decide) ⟨.int (lo + i), H, I1, ⟨t, ?_⟩, ⟨rfl, rfl⟩, st', fun b hb => (hf b hb).1⟩⟩
    rw [Int.mul_one]
  done := by
    intro X hP hw hK hc i pins s σ H E I hf st hg
    subst hP hw hK
    obtain ⟨f0, f1, f2, f3, f4, f5⟩ := hf it (by simp)
    exact wpAny_pyNext_range_end (I.ok.hd hc) st (by have : n ≤ i := hg; omega) fun h' eb => ⟨rfl, I.turned (t' := s.toks) (fun b o hb e => eb b o hb e) f0 f1 f3 f4 f5⟩
  self := fun _ _ _ _ _ st h => wpAny_pyIter_rangeiter st h
end L2
namespace L2
open PySem PySem.Spec PyProof.Rows
section
variable {X : Cx} {tg : Expr}
def iList (K : PySem.W.Frag) (tl : TE) : TI := fun σ H R => tl σ H fun x H1 => ∃ a, x = .ref a ∧ (∃ xs, SqL K H1 a xs) ∧ R (Itl K a) H1
def iTup (K : PySem.W.Frag) (tl : TE) : TI := fun σ H R => tl σ H fun x H1 => ∃ a, x = .ref a ∧ (∃ xs, SqT K H1 a xs) ∧ R (Itt K a) H1
theorem pi_list {l : Expr} {tl : TE} (hl : PE X l tl) : PI X tg l (iList X.K tl) := by
  intro pins s σ H R I h
  refine thn (hl pins s σ H _ I h) fun v s1 ⟨x, H1, I1, r1, q1⟩ => ?_
  obtain ⟨a, e, ⟨xs, hq⟩, q⟩ := q1
  subst e
  cases r1
  obtain ⟨its, rv, p, hz⟩ := I1.list hq
  refine wpAny_pyIter_list p.isList ?_
  refine ⟨s1.heap.objs.size, [s1.heap.objs.size], _, _, H1, rfl, I1.kept (t' := s1.toks) fun b o e => Heap.get?_push_of_some _ e, turn_list a _, ⟨_, Heap.get?_push_size _ rfl, rfl, rfl⟩, fun b hb => ?_, q⟩
  have e : b = s1.heap.objs.size := by simpa using hb
  subst e
  exact I1.fpOk (Nat.le_refl _) (I1.hok.fresh (Nat.le_refl _))
theorem pi_tup {l : Expr} {tl : TE} (hl : PE X l tl) : PI X tg l (iTup X.K tl) := by
  intro pins s σ H R I h
  refine thn (hl pins s σ H _ I h) fun v s1 ⟨x, H1, I1, r1, q1⟩ => ?_
  obtain ⟨a, e, ⟨xs, hq⟩, q⟩ := q1
  subst e
  cases r1
  obtain ⟨its, rv, p, hz⟩ := I1.tuple hq
  refine wpAny_pyIter_tuple (show s1.heap.IsTuple a its.toArray from p) ?_
  refine ⟨s1.heap.objs.size, [s1.heap.objs.size], _, _, H1, rfl, I1.kept (t' := s1.toks) fun b o e => Heap.get?_push_of_some _ e, turn_tuple a _, ⟨_, Heap.get?_push_size _ rfl, rfl, rfl⟩, fun b hb => ?_, q⟩
  have e : b = s1.heap.objs.size := by simpa using hb
  subst e
  exact I1.fpOk (Nat.le_refl _) (I1.hok.fresh (Nat.le_refl _))
theorem range_it {pins : List (Addr × Obj)} {σ : St} {H : Hp} {s : Shared} {R : It → Hp → Prop} {E : Value → Shared → Prop} {lo hi : Int} {t u v : Tok} {tk : Nat} (I : Inv X pins σ H s) (h1 : -(2 ^ 62) ≤ lo) (h2 : lo < 2 ^ 62) (h3 : -(2 ^ 62) ≤ hi) (h4 : hi < 2 ^ 62)
    (q : R (Itr lo (hi - lo).toNat) H) : wpAny (model X.prog X.w) X.A (pyIter (.ref s.heap.objs.size)) (PIE X pins σ tg R) E { s with heap := s.heap.push { cls := .type "range", data := .fields #[.int lo t, .int hi u, .int 1 v] }, toks := tk } := by
  refine wpAny_pyIter_range (IsRange.new ..) (small_one h1 h2 h3 h4) ?_
  have I1 : Inv X pins σ H { s with heap := s.heap.push { cls := .type "range", data := .fields #[.int lo t, .int hi u, .int 1 v] }, toks := tk } := I.kept fun b o e => Heap.get?_push_of_some _ e
  refine ⟨(s.heap.push { cls := .type "range", data := .fields #[.int lo t, .int hi u, .int 1 v] }).objs.size, [(s.heap.push { cls := .type "range", data := .fields #[.int lo t, .int hi u, .int 1 v] }).objs.size], _, _, H, rfl,
    I1.kept (t' := tk) fun b o e => Heap.get?_push_of_some _ e, turn_range _ lo (hi - lo).toNat, ?_, fun b hb => ?_, q⟩
  · have e1 : lo + ((0 : Nat) : Int) * 1 = lo := by simp
    have e2 : (((hi - lo).toNat : Nat) : Int) - ((0 : Nat) : Int) = Builtin.Range.rangeSize lo hi 1 := by rw [rangeSize_one]; split <;> omega
    show IsRangeIter _ _ (lo + ((0 : Nat) : Int) * 1) ((((hi - lo).toNat : Nat) : Int) - ((0 : Nat) : Int)) 1
    rw [e1, e2]
    exact Heap.get?_push_size _ rfl
  · have e : b = (s.heap.push { cls := .type "range", data := .fields #[.int lo t, .int hi u, .int 1 v] }).objs.size := by simpa using hb
    subst e
    exact I1.fpOk (Nat.le_refl _) (I1.hok.fresh (Nat.le_refl _))
def iRng1 (ta : TA) : TI := fun σ H R => ta σ H fun vs H1 => ∃ j : Int, vs = [.int j] ∧ -(2 ^ 62) ≤ j ∧ j < 2 ^ 62 ∧ R (Itr 0 j.toNat) H1
theorem pi_range1 {a : Expr} {ta : TA} {p pos : Pos} (hg : Gl X "range") (hm : X.mg "range" = none) (ha : PA X [a] ta) (hs : starEach [a] X.env = [(false, eval a X.env)] := by rfl) : PI X tg (.Call (.Name "range" p) [a] [] pos) (iRng1 ta) := by
  intro pins s σ H R I h
  refine Call_ (ld_blt I hg hm boot_range (PyProof.Rows.callWith_type1 (thn (ha pos pins s σ H _ I h) fun us s1 ⟨vs, H1, I1, r1, q1⟩ => ?_) hs rfl))
  obtain ⟨j, e, q1, q2, q⟩ := q1
  subst e
  cases r1 with
  | cons r rr =>
    cases rr
    obtain ⟨t, rfl⟩ := r
    exact call_range_1 (range_it I1 (by omega) (by omega) q1 q2 (by simpa using q))
def tFor (wi : TI) (g : TG) (tb : TS) : TS := fun D σ H => wi σ H fun J H1 => ∃ W : Nat → Nat → St → Hp → Prop, (∃ m, W 0 m σ H1) ∧ ∀ i m σ H, W i m σ H →
  (J.stop i H ∧ D.nx σ H) ∨ (J.go i H ∧ ∃ N : St → Hp → Prop, (∀ σ' H', N σ' H' → ∃ m', m' < m ∧ W (i + 1) m' σ' H') ∧ ∀ x H', J.yld i H x H' → g x σ H' fun σ2 H2 => tb { D with nx := N, ct := N, bk := D.nx } σ2 H2)
def pinsAt (fp : List Addr) (h : Heap) : List (Addr × Obj) := fp.filterMap fun b => (h.get? b).map fun o => (b, o)
theorem mem_pinsAt {fp : List Addr} {h : Heap} {b : Addr} {o : Obj} (hb : b ∈ fp) (e : h.get? b = some o) : (b, o) ∈ pinsAt fp h := List.mem_filterMap.mpr ⟨b, hb, by rw [e]; rfl⟩
theorem of_pinsAt {fp : List Addr} {h : Heap} {p : Addr × Obj} (hp : p ∈ pinsAt fp h) : p.1 ∈ fp ∧ h.get? p.1 = some p.2 := by
  obtain ⟨b, hb, e⟩ := List.mem_filterMap.mp hp
  cases q : h.get? b with
  | none => rw [q] at e; cases e
  | some o =>
    rw [q] at e
    have e' : (b, o) = p := Option.some.inj e
    subst e'
    exact ⟨hb, q⟩
theorem Inv.pinned {pins : List (Addr × Obj)} {σ : St} {H : Hp} {s : Shared} {fp : List Addr} (I : Inv X pins σ H s) (hf : ∀ b ∈ fp, FpOk X pins H b) (ho : ∀ b ∈ fp, ∃ o, s.heap.get? b = some o ∧ ∀ v, o.data ≠ .cell v) : Inv X (pins ++ pinsAt fp s.heap) σ H s :=
  I.pins_of fun p hp => (List.mem_append.mp hp).elim (fun z => I.pin p (List.mem_append_right _ z)) fun z => by
    obtain ⟨hb, e⟩ := of_pinsAt z
    obtain ⟨f0, f1, f2, _⟩ := hf p.1 hb
    obtain ⟨o, e', d⟩ := ho p.1 hb
    rw [e] at e'; cases e'
    exact ⟨e, f0, f1, f2, d⟩
theorem Inv.unpinned {pins pl : List (Addr × Obj)} {σ : St} {H : Hp} {s : Shared} (I : Inv X (pins ++ pl) σ H s) : Inv X pins σ H s := I.pins_of fun p hp => I.pin p (List.mem_append_right _ (List.mem_append_left _ hp))
theorem ps_for {iter : Expr} {body : List Stmt} {wi : TI} {g : TG} {tb : TS} {pos : Pos} (hp : PassesOwn (model X.prog X.w) X.A X.env X.xe) (hc : X.calm = true) (hi : PI X tg iter wi) (hg : PG X tg g) (hb : PSs X body tb)
    (hs : ∀ x, foldedSetIterable iter X.env x = pure x := by intro _; rfl) : PS X (.For tg iter body [] pos) (tFor wi g tb) := by
  intro pins s σ H D I h
  refine wpAny_For (thn (hi pins s σ H _ I h) fun v s1 h1 => thn h1 fun itv s2 h2 => ?_) hs
  obtain ⟨it, fp, tn, J, H2, e, I2, T, st2, f2, W, ⟨m0, w0⟩, turn⟩ := h2
  subst e
  have stat : ∀ {H' : Hp}, (∀ b ∈ fp, H' b = none) → ∀ b ∈ fp, FpOk X pins H' b := fun hn b hb => ⟨hn b hb, (f2 b hb).2⟩
  refine codeAny_forLoop_any (fun n s' => ∃ i σ' H', Inv X pins σ' H' s' ∧ tn i s'.heap ∧ (∀ b ∈ fp, H' b = none) ∧ W i n σ' H') ?_ m0 ⟨0, σ, H2, I2, st2, fun b hb => (f2 b hb).1, w0⟩
  rintro n s3 ⟨i, σ3, H3, I3, st3, fr3, w3⟩
  rcases turn i n σ3 H3 w3 with ⟨stop, qn⟩ | ⟨go, N, hN, step⟩
  · refine wpAny_passesOwn hp (thn (T.done X rfl rfl rfl hc i pins s3 σ3 H3 X.xe I3 (stat fr3) st3 stop) fun r s4 ⟨hr, I4⟩ => ?_)
    subst hr
    exact wpAny_execs_nil ⟨σ3, H3, I4, qn⟩
  · refine wpAny_passesOwn hp (thn (T.item X rfl rfl rfl hc i pins s3 σ3 H3 X.xe I3 (stat fr3) st3 go) fun r s4 ⟨u, hr, h4⟩ => ?_)
    subst hr
    refine wpAny_passesOwn hp (thn h4 fun _ s5 ⟨x, H5, I5, r5, y5, st5, fr5⟩ => ?_)
    have I5' := I5.pinned (stat fr5) (T.obj _ _ st5)
    refine wpAny_passesOwn hp (thn (hg _ s5 σ3 H5 x u _ I5' r5 (step x H5 y5)) fun _ s6 ⟨σ6, H6, I6, q6⟩ => ?_)
    refine wpAny_passesOwn hp (thn (hb _ s6 σ6 H6 _ I6 q6) fun f s7 q7 => ?_)
    have again : ∀ {σ7 : St} {H7 : Hp}, Inv X (pins ++ pinsAt fp s5.heap) σ7 H7 s7 → N σ7 H7 → ∃ m, m < n ∧ ∃ i σ' H', Inv X pins σ' H' s7 ∧ tn i s7.heap ∧ (∀ b ∈ fp, H' b = none) ∧ W i m σ' H' := fun {σ7 H7} I7 n7 => by
      obtain ⟨m', hm, w7⟩ := hN σ7 H7 n7
      refine ⟨m', hm, i + 1, σ7, H7, I7.unpinned, T.keep _ _ _ st5 fun b hb o e => (I7.pin (b, o) (List.mem_append_right _ (List.mem_append_right _ (mem_pinsAt hb e)))).1, fun b hb => ?_, w7⟩
      obtain ⟨o, e, d⟩ := T.obj _ _ st5 b hb
      exact (I7.pin (b, o) (List.mem_append_right _ (List.mem_append_right _ (mem_pinsAt hb e)))).2.1
    cases f with
    | next => obtain ⟨σ7, H7, I7, n7⟩ := q7; exact again I7 n7
    | cont => obtain ⟨σ7, H7, I7, n7⟩ := q7; exact again I7 n7
    | brk => obtain ⟨σ7, H7, I7, q7⟩ := q7; exact ⟨σ7, H7, I7.unpinned, q7⟩
    | ret v => obtain ⟨x7, σ7, H7, I7, r7, q7⟩ := q7; exact ⟨x7, σ7, H7, I7.unpinned, r7, q7⟩
end
end L2
namespace L2
open PySem PySem.Spec PyProof.Rows
abbrev R2 := V → V → Hp → VK → Prop
def OpR (X : Cx) (f : Value → Value → Sem Value) (r : R2) : Prop :=
  ∀ (pins : List (Addr × Obj)) (s : Shared) (σ : St) (H : Hp) (x y : V) (v u : Value) (Q : VK), Inv X pins σ H s → RelV x v → RelV y u → r x y H Q →
    wpAny (model X.prog X.w) X.A (f v u) (EP X pins σ Q) X.xe s
def UnR (X : Cx) (f : Value → Sem Value) (r : V → Hp → VK → Prop) : Prop :=
  ∀ (pins : List (Addr × Obj)) (s : Shared) (σ : St) (H : Hp) (x : V) (v : Value) (Q : VK), Inv X pins σ H s → RelV x v → r x H Q →
    wpAny (model X.prog X.w) X.A (f v) (EP X pins σ Q) X.xe s
def CallR (X : Cx) (f : Value) (r : List V → Hp → VK → Prop) : Prop :=
  ∀ (pins : List (Addr × Obj)) (s : Shared) (σ : St) (H : Hp) (xs : List V) (us : List Value) (Q : VK), Inv X pins σ H s → Vals xs us → r xs H Q →
    wpAny (model X.prog X.w) X.A (call f us) (EP X pins σ Q) X.xe s
def tOp (r : R2) (ta tb : TE) : TE := fun σ H Q => ta σ H fun x H1 => tb σ H1 fun y H2 => r x y H2 Q
def tUn (r : V → Hp → VK → Prop) (ta : TE) : TE := fun σ H Q => ta σ H fun x H1 => r x H1 Q
def rI (C : Int → Int → Prop) (g : Int → Int → V) : R2 := fun x y H Q => ∃ i j, x = .int i ∧ y = .int j ∧ C i j ∧ Q (g i j) H
def rI0 (g : Int → Int → V) : R2 := fun x y H Q => ∃ i j, x = .int i ∧ y = .int j ∧ Q (g i j) H
def rU (g : Int → V) : V → Hp → VK → Prop := fun x H Q => ∃ i, x = .int i ∧ Q (g i) H
section
variable {X : Cx} {a b c : Expr} {ta tb tc : TE} {pos : Pos}
theorem binT (ha : PE X a ta) (hb : PE X b tb) {pins : List (Addr × Obj)} {s : Shared} {σ : St} {H : Hp} {R : V → V → Hp → Prop} (I : Inv X pins σ H s)
    (h : ta σ H fun x H1 => tb σ H1 fun y H2 => R x y H2) {Q : Value → Shared → Prop} {f : Value → Value → Sem Value}
    (hf : ∀ v u s2 x y H2, Inv X pins σ H2 s2 → RelV x v → RelV y u → R x y H2 → wpAny (model X.prog X.w) X.A (f v u) Q X.xe s2) :
    wpAny (model X.prog X.w) X.A (eval a X.env) (fun v s₁ => wpAny (model X.prog X.w) X.A (eval b X.env) (fun u s₂ => wpAny (model X.prog X.w) X.A (f v u) Q X.xe s₂) X.xe s₁) X.xe s := by
  refine thn (ha pins s σ H _ I h) fun v s1 ⟨x, H1, I1, r1, q1⟩ => ?_
  refine thn (hb pins s1 σ H1 _ I1 q1) fun u s2 ⟨y, H2, I2, r2, q2⟩ => ?_
  exact hf v u s2 x y H2 I2 r1 r2 q2
theorem pe_op {op : Operator} {r : R2} (ho : OpR X (binaryOp op) r) (ha : PE X a ta) (hb : PE X b tb) : PE X (.BinOp a op b pos) (tOp r ta tb) := by
  intro pins s σ H Q I h
  exact wpAny_BinOp (binT ha hb I h fun v u s2 x y H2 I2 rx ry q => ho pins s2 σ H2 x y v u Q I2 rx ry q)
theorem pe_un {op : UnaryOp} {r : V → Hp → VK → Prop} (ho : UnR X (unaryOp op) r) (ha : PE X a ta) : PE X (.UnaryOp op a pos) (tUn r ta) := by
  intro pins s σ H Q I h
  exact UnaryOp_ (thn (ha pins s σ H _ I h) fun v s1 ⟨x, H1, I1, r1, q1⟩ => ho pins s1 σ H1 x v Q I1 r1 q1)
theorem opI {f : Value → Value → Sem Value} {C : Int → Int → Prop} {g : Int → Int → Int}
    (rule : ∀ (i j : Int) (t u : Tok) (s : Shared) (Q : Value → Shared → Prop) (E : Value → Shared → Prop), C i j → Q (.int (g i j) s.toks) { s with toks := s.toks + 1 } → wpAny (model X.prog X.w) X.A (f (.int i t) (.int j u)) Q E s) :
    OpR X f (rI C fun i j => .int (g i j)) := by
  intro pins s σ H x y v u Q I rx ry h
  obtain ⟨i, j, rfl, rfl, hc, q⟩ := h
  obtain ⟨t, rfl⟩ := rx
  obtain ⟨t', rfl⟩ := ry
  exact rule i j t t' s _ _ hc ⟨.int (g i j), H, I.tok _, ⟨_, rfl⟩, q⟩
theorem opI0 {f : Value → Value → Sem Value} {g : Int → Int → Int}
    (rule : ∀ (i j : Int) (t u : Tok) (s : Shared) (Q : Value → Shared → Prop) (E : Value → Shared → Prop), Q (.int (g i j) s.toks) { s with toks := s.toks + 1 } → wpAny (model X.prog X.w) X.A (f (.int i t) (.int j u)) Q E s) :
    OpR X f (rI0 fun i j => .int (g i j)) := by
  intro pins s σ H x y v u Q I rx ry h
  obtain ⟨i, j, rfl, rfl, q⟩ := h
  obtain ⟨t, rfl⟩ := rx
  obtain ⟨t', rfl⟩ := ry
  exact rule i j t t' s _ _ ⟨.int (g i j), H, I.tok _, ⟨_, rfl⟩, q⟩
theorem opB0 {f : Value → Value → Sem Value} {g : Int → Int → Bool}
    (rule : ∀ (i j : Int) (t u : Tok) (s : Shared) (Q : Value → Shared → Prop) (E : Value → Shared → Prop), Q (.bool (g i j)) s → wpAny (model X.prog X.w) X.A (f (.int i t) (.int j u)) Q E s) :
    OpR X f (rI0 fun i j => .bl (g i j)) := by
  intro pins s σ H x y v u Q I rx ry h
  obtain ⟨i, j, rfl, rfl, q⟩ := h
  obtain ⟨t, rfl⟩ := rx
  obtain ⟨t', rfl⟩ := ry
  exact rule i j t t' s _ _ ⟨.bl (g i j), H, I, rfl, q⟩
def CDiv (i j : Int) : Prop := 0 < j ∧ j < 1073741824
def CMul (i j : Int) : Prop := (-(2 ^ 64) < i ∧ i < 2 ^ 64) ∨ (-(2 ^ 64) < j ∧ j < 2 ^ 64)
theorem CMul.ok {i j : Int} (h : CMul i j) : IntMulOk i j := by
  rcases h with ⟨h1, h2⟩ | ⟨h1, h2⟩
  · exact .of_left (intBits_le_64 h1 h2)
  · exact .of_right (intBits_le_64 h1 h2)
theorem op_add : OpR X (binaryOp .Add) (rI0 fun i j => .int (i + j)) := opI0 fun _ _ _ _ _ _ _ q => add_int q
theorem op_mul : OpR X (binaryOp .Mult) (rI CMul fun i j => .int (i * j)) := opI fun _ _ _ _ _ _ _ hc q => mul_int q hc.ok
theorem op_fdiv : OpR X (binaryOp .FloorDiv) (rI CDiv fun i j => .int (i / j)) := opI fun i j _ _ _ _ _ hc q => by
  have h1 : (0 : Int) < j := hc.1
  have h2 : j < 1073741824 := hc.2
  exact floordiv_int (by omega) (by rw [Int.fdiv_eq_ediv_of_nonneg i (by omega)]; exact q) (.inl (PyProof.noPylong_small (by omega)))
theorem op_mod : OpR X (binaryOp .Mod) (rI (fun _ j => 0 < j) fun i j => .int (i % j)) := opI fun i j _ _ _ _ _ hc q => by
  have h1 : (0 : Int) < j := hc
  exact mod_int' (by omega) (by rw [Int.fmod_eq_emod_of_nonneg i (by omega)]; exact q)
theorem unI {f : Value → Sem Value} {g : Int → Int}
    (rule : ∀ (i : Int) (t : Tok) (s : Shared) (Q : Value → Shared → Prop) (E : Value → Shared → Prop), Q (.int (g i) s.toks) { s with toks := s.toks + 1 } → wpAny (model X.prog X.w) X.A (f (.int i t)) Q E s) :
    UnR X f (rU fun i => .int (g i)) := by
  intro pins s σ H x v Q I rx h
  obtain ⟨i, rfl, q⟩ := h
  obtain ⟨t, rfl⟩ := rx
  exact rule i t s _ _ ⟨.int (g i), H, I.tok _, ⟨_, rfl⟩, q⟩
theorem un_neg : UnR X (unaryOp .USub) (rU fun i => .int (-i)) := unI fun _ _ _ _ _ q => neg_int q
end
def scal : V → V → Bool
  | .non, .non => true | .non, .int _ => true | .int _, .non => true | .non, .bl _ => true | .bl _, .non => true | .non, .str _ => true | .str _, .non => true
  | .int _, .int _ => true | .bl _, .bl _ => true | .str _, .str _ => true | .byt _, .byt _ => true
  | .int _, .str _ => true | .str _, .int _ => true | .bl _, .str _ => true | .str _, .bl _ => true
  | _, _ => false
def rEq : R2 := fun x y H Q => scal x y = true ∧ Q (.bl (decide (x = y))) H
def rNe : R2 := fun x y H Q => scal x y = true ∧ Q (.bl (!decide (x = y))) H
theorem dec_int {i j : Int} : decide (V.int i = V.int j) = (i == j) := by
  rw [Bool.eq_iff_iff]
  simp
theorem dec_bl {i j : Bool} : decide (V.bl i = V.bl j) = (i == j) := by
  rw [Bool.eq_iff_iff]
  simp
theorem dec_str {i j : Str} : decide (V.str i = V.str j) = (i == j) := by
  rw [Bool.eq_iff_iff]
  simp
theorem dec_byt {i j : Array UInt8} : decide (V.byt i = V.byt j) = (i.toList == j.toList) := by
  rw [Bool.eq_iff_iff]
  cases i
  cases j
  simp
section
variable {X : Cx} {a b c : Expr} {ta tb tc : TE} {pos : Pos}
theorem fin_bl {pins : List (Addr × Obj)} {σ : St} {H : Hp} {s : Shared} {Q : VK} {k k' : Bool} (I : Inv X pins σ H s) (q : Q (.bl k) H) (e : k = k') : EP X pins σ Q (.bool k') s := by
  subst e
  exact ⟨.bl k, H, I, rfl, q⟩
theorem op_eq : OpR X (compareOp .Eq) rEq := by
  intro pins s σ H x y v u Q I rx ry h
  obtain ⟨hs, q⟩ := h
  cases x with
  | non =>
    cases rx
    cases y with
    | non => cases ry; exact PySem.EqNone.eq_none_none (fin_bl I q (by simp))
    | bl j => cases ry; exact PySem.EqNone.eq_none_bool (fin_bl I q (by simp))
    | int j => obtain ⟨t', rfl⟩ := ry; exact PySem.EqNone.eq_none_int (fin_bl I q (by simp))
    | str j => obtain ⟨t', rfl⟩ := ry; exact PySem.EqNone.eq_none_str (fin_bl I q (by simp))
    | _ => exact absurd (show false = true from hs) Bool.false_ne_true
  | bl i =>
    cases rx
    cases y with
    | non => cases ry; exact PySem.EqNone.eq_bool_none (fin_bl I q (by simp))
    | bl j => cases ry; exact eq_bool (fin_bl I q dec_bl)
    | str j => obtain ⟨t', rfl⟩ := ry; exact PySem.EqMixed.eq_bool_str (fin_bl I q (by simp))
    | _ => exact absurd (show false = true from hs) Bool.false_ne_true
  | int i =>
    obtain ⟨t, rfl⟩ := rx
    cases y with
    | non => cases ry; exact PySem.EqNone.eq_int_none (fin_bl I q (by simp))
    | int j => obtain ⟨t', rfl⟩ := ry; exact eq_int (fin_bl I q dec_int)
    | str j => obtain ⟨t', rfl⟩ := ry; exact PySem.EqMixed.eq_int_str (fin_bl I q (by simp))
    | _ => exact absurd (show false = true from hs) Bool.false_ne_true
  | str i =>
    obtain ⟨t, rfl⟩ := rx
    cases y with
    | non => cases ry; exact PySem.EqNone.eq_str_none (fin_bl I q (by simp))
    | bl j => cases ry; exact PySem.EqMixed.eq_str_bool (fin_bl I q (by simp))
    | int j => obtain ⟨t', rfl⟩ := ry; exact PySem.EqMixed.eq_str_int (fin_bl I q (by simp))
    | str j => obtain ⟨t', rfl⟩ := ry; exact eq_str (fin_bl I q dec_str)
    | _ => exact absurd (show false = true from hs) Bool.false_ne_true
  | byt i =>
    obtain ⟨t, rfl⟩ := rx
    cases y with
    | byt j => obtain ⟨t', rfl⟩ := ry; exact PySem.W.eq_bytes (fin_bl I q dec_byt)
    | _ => exact absurd (show false = true from hs) Bool.false_ne_true
  | _ => cases y <;> exact absurd (show false = true from hs) Bool.false_ne_true
theorem op_ne : OpR X (compareOp .NotEq) rNe := by
  intro pins s σ H x y v u Q I rx ry h
  obtain ⟨hs, q⟩ := h
  cases x with
  | non =>
    cases rx
    cases y with
    | non => cases ry; exact PySem.EqNone.ne_none_none (fin_bl I q (by simp))
    | bl j => cases ry; exact PySem.EqNone.ne_none_bool (fin_bl I q (by simp))
    | int j => obtain ⟨t', rfl⟩ := ry; exact PySem.EqNone.ne_none_int (fin_bl I q (by simp))
    | str j => obtain ⟨t', rfl⟩ := ry; exact PySem.EqNone.ne_none_str (fin_bl I q (by simp))
    | _ => exact absurd (show false = true from hs) Bool.false_ne_true
  | bl i =>
    cases rx
    cases y with
    | non => cases ry; exact PySem.EqNone.ne_bool_none (fin_bl I q (by simp))
    | bl j => cases ry; exact ne_bool (fin_bl I q (congrArg not dec_bl))
    | str j => obtain ⟨t', rfl⟩ := ry; exact PySem.EqMixed.ne_bool_str (fin_bl I q (by simp))
    | _ => exact absurd (show false = true from hs) Bool.false_ne_true
  | int i =>
    obtain ⟨t, rfl⟩ := rx
    cases y with
    | non => cases ry; exact PySem.EqNone.ne_int_none (fin_bl I q (by simp))
    | int j => obtain ⟨t', rfl⟩ := ry; exact ne_int (fin_bl I q (congrArg not dec_int))
    | str j => obtain ⟨t', rfl⟩ := ry; exact PySem.EqMixed.ne_int_str (fin_bl I q (by simp))
    | _ => exact absurd (show false = true from hs) Bool.false_ne_true
  | str i =>
    obtain ⟨t, rfl⟩ := rx
    cases y with
    | non => cases ry; exact PySem.EqNone.ne_str_none (fin_bl I q (by simp))
    | bl j => cases ry; exact PySem.EqMixed.ne_str_bool (fin_bl I q (by simp))
    | int j => obtain ⟨t', rfl⟩ := ry; exact PySem.EqMixed.ne_str_int (fin_bl I q (by simp))
    | str j => obtain ⟨t', rfl⟩ := ry; exact ne_str (fin_bl I q (congrArg not dec_str))
    | _ => exact absurd (show false = true from hs) Bool.false_ne_true
  | byt i =>
    obtain ⟨t, rfl⟩ := rx
    cases y with
    | byt j => obtain ⟨t', rfl⟩ := ry; exact PySem.W.ne_bytes (fin_bl I q (congrArg not dec_byt))
    | _ => exact absurd (show false = true from hs) Bool.false_ne_true
  | _ => cases y <;> exact absurd (show false = true from hs) Bool.false_ne_true
theorem op_lt : OpR X (compareOp .Lt) (rI0 fun i j => .bl (decide (i < j))) := opB0 fun _ _ _ _ _ _ _ q => lt_int q
theorem op_le : OpR X (compareOp .LtE) (rI0 fun i j => .bl (decide (i ≤ j))) := opB0 fun _ _ _ _ _ _ _ q => le_int q
theorem op_gt : OpR X (compareOp .Gt) (rI0 fun i j => .bl (decide (j < i))) := opB0 fun _ _ _ _ _ _ _ q => gt_int q
theorem op_in_str : OpR X (compareOp .In) (fun x y H Q => ∃ i j, x = .str i ∧ y = .str j ∧ Q (.bl (!(Builtin.Str.occurrences j i 0 j.length 1).isEmpty)) H) := by
  intro pins s σ H x y v u Q I rx ry h
  obtain ⟨i, j, rfl, rfl, q⟩ := h
  obtain ⟨t, rfl⟩ := rx
  obtain ⟨t', rfl⟩ := ry
  exact in_str (fin_bl I q rfl)
theorem OpR.or {f : Value → Value → Sem Value} {r r' : R2} (h : OpR X f r) (h' : OpR X f r') : OpR X f (fun x y H Q => r x y H Q ∨ r' x y H Q) := by
  intro pins s σ H x y v u Q I rx ry q
  rcases q with q | q
  · exact h pins s σ H x y v u Q I rx ry q
  · exact h' pins s σ H x y v u Q I rx ry q
theorem nomark (b : Expr) {op : CmpOp} (h : op ≠ .In := by decide) (h2 : op ≠ .NotIn := by decide) : behindInMarks op b = false := by
  have e1 : (op == CmpOp.In) = false := by cases op <;> first | rfl | exact absurd rfl h
  have e2 : (op == CmpOp.NotIn) = false := by cases op <;> first | rfl | exact absurd rfl h2
  cases b <;> simp [behindInMarks, e1, e2]
theorem pe_cmpR {op : CmpOp} {r : R2} (ho : OpR X (compareOp op) r) (ha : PE X a ta) (hb : PE X b tb) (hm : behindInMarks op b = false) : PE X (.Compare a [op] [b] pos) (tOp r ta tb) := by
  intro pins s σ H Q I h
  exact wpAny_Compare1 (binT ha hb I h fun v u s2 x y H2 I2 rx ry q => ho pins s2 σ H2 x y v u Q I2 rx ry q) hm
def tTest (t : TE) : TT := fun σ H Q => t σ H fun x H' => ∃ k, x = .bl k ∧ Q k H'
theorem pt_cmpR {op : CmpOp} {r : R2} (ho : OpR X (compareOp op) r) (ha : PE X a ta) (hb : PE X b tb) (hm : behindInMarks op b = false) : PT X (.Compare a [op] [b] pos) (tTest (tOp r ta tb)) := by
  intro pins s σ H Q I h
  refine wpAny_isTrue_Compare1 (thn (ha pins s σ H _ I h) fun v s1 ⟨x, H1, I1, r1, q1⟩ => thn (hb pins s1 σ H1 _ I1 q1) fun u s2 ⟨y, H2, I2, r2, q2⟩ =>
    thn (ho pins s2 σ H2 x y v u _ I2 r1 r2 q2) fun c s3 ⟨z, H3, I3, r3, k, e, q3⟩ => ?_) hm
  subst e
  cases r3
  exact wpAny_truthy_bool ⟨H3, I3, q3⟩
def tChain (r r' : R2) (ta tb tc : TE) : TE := fun σ H Q => ta σ H fun x H1 => tb σ H1 fun y H2 => r x y H2 fun z H3 => ∃ k, z = .bl k ∧
  (if k = true then tc σ H3 fun w' H4 => r' y w' H4 Q else Q (.bl false) H3)
theorem pe_chain {op op' : CmpOp} {r r' : R2} (ho : OpR X (compareOp op) r) (ho' : OpR X (compareOp op') r') (ha : PE X a ta) (hb : PE X b tb) (hc : PE X c tc)
    (hm : lastMarks [op, op'] [b, c] = false := by with_unfolding_all rfl) : PE X (.Compare a [op, op'] [b, c] pos) (tChain r r' ta tb tc) := by
  intro pins s σ H Q I h
  refine Compare_chain (thn (ha pins s σ H _ I h) fun v s1 ⟨x, H1, I1, r1, q1⟩ => chain_link (thn (hb pins s1 σ H1 _ I1 q1) fun u s2 ⟨y, H2, I2, r2, q2⟩ =>
    thn (ho pins s2 σ H2 x y v u _ I2 r1 r2 q2) fun d s3 ⟨z, H3, I3, r3, k, e, q3⟩ => ?_)) hm
  subst e
  cases r3
  refine wpAny_truthy_bool ?_
  cases k with
  | false => exact ite_ff ⟨.bl false, H3, I3, rfl, q3⟩
  | true => exact ite_tt (chain_last (thn (hc pins s3 σ H3 _ I3 q3) fun w' s4 ⟨z', H4, I4, r4, q4⟩ => ho' pins s4 σ H4 y z' u w' Q I4 r2 r4 q4))
theorem line63 : (sizeLine : Nat) < 2 ^ 63 := by rw [sizeLine_eq]; decide
theorem op_add_str : OpR X (binaryOp .Add) (fun x y H Q => ∃ i j, x = .str i ∧ y = .str j ∧ i.length + j.length ≤ sizeLine ∧ Q (.str (i ++ j)) H) := by
  intro pins s σ H x y v u Q I rx ry h
  obtain ⟨i, j, rfl, rfl, hz, q⟩ := h
  obtain ⟨t, rfl⟩ := rx
  obtain ⟨t', rfl⟩ := ry
  exact add_str (fun t' tk => ⟨.str (i ++ j), H, I.tok _, ⟨_, rfl⟩, q⟩) hz
theorem vals1 {x : V} {us : List Value} (r : Vals [x] us) : ∃ u, us = [u] ∧ RelV x u := by
  cases r with
  | cons r1 r2 => cases r2; exact ⟨_, rfl, r1⟩
end
end L2
namespace L2
open PySem PySem.Spec PyProof.Rows
structure ObjM (h : Heap) (x dx C : Addr) (mA : Str → Option Value) : Prop where
  obj : h.get? x = some (PySem.W.instObj C dx)
  ns : h.Ns1 dx mA
  ne : dx ≠ x
theorem lookIn_ns {h : Heap} {dx : Addr} {mA : Str → Option Value} (n : h.Ns1 dx mA) : ∃ od, h.get? dx = some od ∧ ∀ name, PySem.W.lookIn name od = some (mA name) := by
  obtain ⟨o, es, ep, ho, hd, hk, _, hm⟩ := n
  refine ⟨o, ho, fun name => ?_⟩
  have e := hm name
  unfold nsFind findBy at e
  rw [← Array.find?_toList] at e
  unfold PySem.W.lookIn
  rw [hd]
  dsimp only
  split
  · rename_i y q
    rw [q] at e
    exact congrArg some e
  · rename_i q
    rw [q] at e
    have a : es.toList.any (·.refKey) = false := by
      rw [List.any_eq_false]
      intro y hy
      obtain ⟨z, t, hkey⟩ := hk y (Array.mem_toList_iff.mp hy)
      simp [DictEntry.refKey, hkey]
    have a' : ¬ es.toList.any (·.refKey) = true := by rw [a]; exact Bool.false_ne_true
    rw [if_neg a']
    exact congrArg some e
theorem ObjM.look {h : Heap} {x dx C : Addr} {mA : Str → Option Value} (I : ObjM h x dx C mA) : ∃ od, PySem.W.InstAt h x (PySem.W.instObj C dx) C (some od) ∧ ∀ name, PySem.W.lookIn name od = some (mA name) :=
  let ⟨od, ho, hl⟩ := lookIn_ns I.ns
  ⟨od, ⟨I.obj, rfl, rfl, ho⟩, hl⟩
section
variable {prog : Program} {w : World} {A : Around} {E : Value → Shared → Prop} {s : Shared} {K : PySem.W.Frag} {x dx C f : Addr} {mA : Str → Option Value} {name : Str} {v : Value}
theorem get_map {expr : Bool} {Q : Value → Shared → Prop} (X : K.In s.heap) (I : ObjM s.heap x dx C mA) (hg : PySem.W.plainGet K C name = true) (hh : PySem.W.hasDictIn K C = true)
    (ha : PySem.W.findIn K (.ref C) name = some none) (hv : mA name = some v) (hv' : PySem.W.handedIn v = true) (h : Q v { s with toks := s.toks + 1 }) :
    wpAny (model prog w) A (getAttr (.ref x) name expr) Q E s := by
  obtain ⟨od, J, hl⟩ := I.look
  exact PySem.W.get_value X J (PySem.W.plainGet_of hg).1 (PySem.W.findObj_own hh ha rfl (by rw [hl, hv])) hv' h
theorem get_meth {pl : Sem Bool} {Q : Value × List Value → Shared → Prop} (X : K.In s.heap) (I : ObjM s.heap x dx C mA) (hg : PySem.W.plainGet K C name = true)
    (hf : PySem.W.findIn K (.ref C) name = some (some (.ref f))) (ht : PySem.W.isFn K (.ref f) = true) (hv : mA name = none) (h : Q (.ref f, [.ref x]) s) :
    wpAny (model prog w) A (getMethod (.ref x) name pl) Q E s := by
  obtain ⟨od, J, hl⟩ := I.look
  exact PySem.W.method_fn X J (PySem.W.plainGet_of hg).1 (PySem.W.plainGet_of hg).2 hf (beq_iff_eq.mp ht) (by show (PySem.W.lookIn name od).map (·.isSome) = some false; rw [hl, hv]; rfl) h
theorem set_map {ns : List Str} {Q : Unit → Shared → Prop} (X : K.In s.heap) (I : ObjM s.heap x dx C mA)
    (hs : PySem.W.findIn K (.ref C) "__setattr__" = some (some (.builtin "object.__setattr__"))) (hp : PySem.W.plainOver K C = true) (ht : PySem.W.takerIn K C name = some none) (hh : PySem.W.hasDictIn K C = true)
    (hw : PySem.Within mA ns) (hsz : ns.length ≤ sizeLine)
    (h : ∀ h', ObjM h' x dx C (fun y => if y = name then some v else mA y) → Heap.SameBut dx s.heap h' → Q () { s with heap := h', toks := s.toks + 2 }) :
    wpAny (model prog w) A (setAttr (.ref x) name v) Q E s := by
  obtain ⟨od, J, hl⟩ := I.look
  refine PySem.W.set_plain X J hs (PySem.W.osa_open (s := { s with toks := s.toks + 1 }) (r := none) X J hp ht fun b => ?_)
  obtain ⟨cd, hc, hd'⟩ := PySem.W.any_some hh
  have hx : s.heap.get? x = some ⟨.ref C, some dx, .plain, #[]⟩ := I.obj
  refine wpAny_bind (wpAny_pure (wpAny_bind (wpAny_bind (wpAny_loadPart hx (wpAny_bind (PySem.W.Looks.here (s := { s with toks := s.toks + 1 }) (PySem.W.looks_clsIn X hc) ?_))))))
  rw [hd']
  refine wpAny_pure (a := some dx) (wpAny_bind (wpAny_pure (wpAny_bind ?_)))
  refine wpAny_nsSet1 (s := { s with toks := s.toks + 1 }) I.ns fun h' hn2 hs2 => ?_
  obtain ⟨oD, esD, epD, hoD, hdD, hcD⟩ := hn2.count (PySem.Within.cons name v hw)
  refine wpAny_bind (wpAny_lookBehind hoD (by rw [hdD]; exact pastItsLine_dict (Nat.le_trans hcD (by rw [List.length_cons]; omega))) ?_)
  exact wpAny_pure (h _ ⟨(hs2.2 _ (Ne.symm I.ne)).trans I.obj, hn2, I.ne⟩ hs2)
theorem make_map {R : Result → Shared → Prop} {vs : List Value} {kw : List (Str × Value)} (X : K.In s.heap) (hm : PySem.W.makesIn K C = true)
    (hi : PySem.W.findIn K (.ref C) "__init__" = some (some (.ref f))) (hf : PySem.W.typeIn K (.ref f) = some (.type "function"))
    (h : codeAny (model prog w) (A.under (.builtin "type.__call__" ⟨.ref C :: vs, kw⟩)) (.call (.ref f) ⟨.ref (s.heap.objs.size + 1) :: vs, kw⟩) (PySem.W.InitBack (s.heap.objs.size + 1) R)
      { s with heap := (s.heap.push PySem.W.emptyDict).push (PySem.W.instObj C s.heap.objs.size) }) :
    codeAny (model prog w) A (.call (.ref C) ⟨vs, kw⟩) R s := by
  obtain ⟨hh, g, d, t, os⟩ := s
  exact PySem.W.make_core (PySem.W.makes_of X hm) (PySem.W.looks_findIn X hi) (fun self => PySem.W.bind_fn X self hf) (.inl rfl) h
end
def putF (f : Str) (v : V) : List (Str × V) → List (Str × V)
  | [] => [(f, v)]
  | (g, x) :: r => if g = f then (g, v) :: r else (g, x) :: putF f v r
theorem lookup_putF (f g : Str) (v : V) : ∀ fs : List (Str × V), (putF f v fs).lookup g = if g = f then some v else fs.lookup g
  | [] => by
    show List.lookup g [(f, v)] = _
    by_cases h : g = f
    · have hb : (g == f) = true := beq_iff_eq.mpr h
      simp only [List.lookup, hb, if_pos h]
    · have hb : (g == f) = false := beq_eq_false_iff_ne.mpr h
      simp only [List.lookup, hb, if_neg h]
  | (k, x) :: r => by
    have ih := lookup_putF f g v r
    rw [show putF f v ((k, x) :: r) = (if k = f then (k, v) :: r else (k, x) :: putF f v r) from rfl]
    by_cases hk : k = f
    · rw [if_pos hk]
      by_cases h : g = k
      · have hb : (g == k) = true := beq_iff_eq.mpr h
        simp only [List.lookup, hb, if_pos (h.trans hk)]
      · have hb : (g == k) = false := beq_eq_false_iff_ne.mpr h
        simp only [List.lookup, hb, if_neg (fun e : g = f => h (e.trans hk.symm))]
    · rw [if_neg hk]
      by_cases h : g = k
      · have hb : (g == k) = true := beq_iff_eq.mpr h
        simp only [List.lookup, hb, if_neg (fun e : g = f => hk (h.symm.trans e))]
      · have hb : (g == k) = false := beq_eq_false_iff_ne.mpr h
        simp only [List.lookup, hb]
        exact ih
theorem keys_putF (f : Str) (v : V) : ∀ fs : List (Str × V), f ∈ (putF f v fs).map (·.1) ∧ ∀ g, g ∈ fs.map (·.1) → g ∈ (putF f v fs).map (·.1)
  | [] => ⟨by simp [putF], fun g h => by simp at h⟩
  | (k, x) :: r => by
    obtain ⟨i1, i2⟩ := keys_putF f v r
    rw [show putF f v ((k, x) :: r) = (if k = f then (k, v) :: r else (k, x) :: putF f v r) from rfl]
    by_cases hk : k = f
    · rw [if_pos hk]
      subst hk
      exact ⟨by simp, fun g h => by simpa using h⟩
    · rw [if_neg hk]
      refine ⟨?_, fun g h => ?_⟩
      · rw [List.map_cons]
        exact List.mem_cons_of_mem _ i1
      · rw [List.map_cons] at h ⊢
        rcases List.mem_cons.mp h with e | e
        · exact List.mem_cons.mpr (.inl e)
        · exact List.mem_cons_of_mem _ (i2 g e)
theorem length_putF (f : Str) (v : V) : ∀ fs : List (Str × V), (putF f v fs).length ≤ fs.length + 1
  | [] => by simp [putF]
  | (k, x) :: r => by
    have ih := length_putF f v r
    rw [show putF f v ((k, x) :: r) = (if k = f then (k, v) :: r else (k, x) :: putF f v r) from rfl]
    by_cases hk : k = f
    · rw [if_pos hk, List.length_cons, List.length_cons]; omega
    · rw [if_neg hk, List.length_cons, List.length_cons]; omega
theorem RelO.some_of {v : V} {o : Option Value} (r : RelO (some v) o) : ∃ u, o = some u ∧ RelV v u := by
  cases o with
  | none => exact (show False from r).elim
  | some u => exact ⟨u, rfl, r⟩
theorem RelO.none_of {o : Option Value} (r : RelO none o) : o = none := by
  cases o with
  | none => rfl
  | some u => exact (show False from r).elim
theorem handed_of {v : V} {u : Value} (r : RelV v u) : PySem.W.handedIn u = true := by
  cases v with
  | non => cases (show u = Value.none from r); rfl
  | bl b => cases (show u = Value.bool b from r); rfl
  | int i => obtain ⟨t, e⟩ := (show ∃ t, u = Value.int i t from r); cases e; rfl
  | str x => obtain ⟨t, e⟩ := (show ∃ t, u = Value.str x t from r); cases e; rfl
  | byt b => obtain ⟨t, e⟩ := (show ∃ t, u = Value.bytes b t from r); cases e; rfl
  | flt b => obtain ⟨t, e⟩ := (show ∃ t, u = Value.float b t from r); cases e; rfl
  | ref a => cases (show u = Value.ref a from r); rfl
  | ty n => cases (show u = Value.type n from r); rfl
section
variable {P : Program} {w : World} {H H' : Hp} {h h' : Heap} {a C dx : Addr} {fs fs' : List (Str × V)}
theorem ins_get {K : PySem.W.Frag} (hok : HOk P w K H h) (e : H a = some (.ins C dx fs)) : ∃ mA, ObjM h a dx C mA ∧ (∀ f, RelO (fs.lookup f) (mA f)) ∧ PySem.Within mA (fs.map (·.1)) ∧ fs.length ≤ 1000 ∧ H dx = some (.own a) := by
  obtain ⟨d, z, ne, ob, mA, n, r, q⟩ := (show ObjOk P w K H h a (.ins C dx fs) from hok a _ e)
  exact ⟨mA, ⟨ob, n, ne⟩, r, q, z, d⟩
end
structure Cls (K : PySem.W.Frag) (C : Addr) : Prop where
  pg : PySem.W.plainGet K C Str.empty = true
  hd : PySem.W.hasDictIn K C = true
  po : PySem.W.plainOver K C = true
  sa : PySem.W.findIn K (.ref C) "__setattr__" = some (some (.builtin "object.__setattr__"))
theorem Cls.get {K : PySem.W.Frag} {C : Addr} (c : Cls K C) (f : Str) : PySem.W.plainGet K C f = true := c.pg
def NoAttr (K : PySem.W.Frag) (C : Addr) (f : Str) : Prop := PySem.W.findIn K (.ref C) f = some none
theorem NoAttr.taker {K : PySem.W.Frag} {C : Addr} {f : Str} (n : NoAttr K C f) : PySem.W.takerIn K C f = some none := by
  unfold PySem.W.takerIn
  rw [show PySem.W.findIn K (.ref C) f = some none from n]
  rfl
structure Meth (K : PySem.W.Frag) (C : Addr) (m : Str) (f : Addr) : Prop where
  at_ : PySem.W.findIn K (.ref C) m = some (some (.ref f))
  fn : PySem.W.isFn K (.ref f) = true
  kp : PySem.W.keepIn K (.ref f) = true
section
variable {X : Cx} {pins : List (Addr × Obj)} {σ : St} {H : Hp} {s : Shared} {a C dx : Addr} {fs : List (Str × V)} {f : Str} {v : V} {A : Around} {E : Value → Shared → Prop}
theorem getattr_ok {b : Bool} {Q : Value → Shared → Prop} (I : Inv X pins σ H s) (e : H a = some (.ins C dx fs)) (c : Cls X.K C) (n : NoAttr X.K C f) (l : fs.lookup f = some v)
    (h : ∀ u s', Inv X pins σ H s' → RelV v u → Q u s') : wpAny (model X.prog X.w) A (getAttr (.ref a) f b) Q E s := by
  obtain ⟨mA, O, r, _, _, _⟩ := ins_get I.hok e
  obtain ⟨u, hu, ru⟩ := RelO.some_of (v := v) (o := mA f) (by rw [← l]; exact r f)
  exact get_map I.kIn O (c.get f) c.hd n hu (handed_of ru) (h u _ (I.tok _) ru)
theorem getmeth_ok {m : Str} {g : Addr} {pl : Sem Bool} {Q : Value × List Value → Shared → Prop} (I : Inv X pins σ H s) (e : H a = some (.ins C dx fs)) (c : Cls X.K C) (k : Meth X.K C m g) (l : fs.lookup m = none)
    (h : Q (.ref g, [.ref a]) s) : wpAny (model X.prog X.w) A (getMethod (.ref a) m pl) Q E s := by
  obtain ⟨mA, O, r, _, _, _⟩ := ins_get I.hok e
  have hn : mA m = none := RelO.none_of (by rw [← l]; exact r m)
  exact get_meth I.kIn O (c.get m) k.at_ k.fn hn h
theorem setattr_ok {y : V} {u : Value} {Q : Unit → Shared → Prop} (I : Inv X pins σ H s) (e : H a = some (.ins C dx fs)) (c : Cls X.K C) (n : NoAttr X.K C f) (hl : fs.length < 1000) (ry : RelV y u)
    (h : ∀ s', Inv X pins σ (upd H a (.ins C dx (putF f y fs))) s' → Q () s') : wpAny (model X.prog X.w) A (setAttr (.ref a) f u) Q E s := by
  obtain ⟨mA, O, r, wi, _, ho⟩ := ins_get I.hok e
  have hz : (fs.map (·.1)).length ≤ sizeLine := by rw [List.length_map, sizeLine_eq]; omega
  refine set_map I.kIn O c.sa c.po n.taker c.hd wi hz fun h' O' sb => h _ ?_
  have hd : ∃ o, h'.get? dx = some o := let ⟨o, _, _, e', _⟩ := O'.ns; ⟨o, e'⟩
  refine I.write (x := a) (e := dx) (by rw [e]; exact True.intro) (.inr ho) (fun b q hb z => (sb.2 b hb).trans z) hd ?_
  refine ⟨by rw [upd_ne O.ne]; exact ho, ?_, O.ne, O'.obj, _, O'.ns, fun g => ?_, fun g hg => ?_⟩
  · have := length_putF f y fs; omega
  · show RelO ((putF f y fs).lookup g) (if g = f then some u else mA g)
    rw [lookup_putF]
    by_cases q : g = f
    · rw [if_pos q, if_pos q]; exact ry
    · rw [if_neg q, if_neg q]; exact r g
  · by_cases q : g = f
    · rw [q]; exact (keys_putF f y fs).1
    · refine (keys_putF f y fs).2 g (wi g fun z => hg ?_)
      show (if g = f then some u else mA g) = none
      rw [if_neg q]; exact z
theorem Inv.made (I : Inv X pins σ H s) : Inv X pins σ (upd (upd H s.heap.objs.size (.own (s.heap.objs.size + 1))) (s.heap.objs.size + 1) (.ins C s.heap.objs.size []))
    { s with heap := (s.heap.push PySem.W.emptyDict).push (PySem.W.instObj C s.heap.objs.size) } := by
  have e1 : (s.heap.push PySem.W.emptyDict).get? s.heap.objs.size = some PySem.W.emptyDict := Heap.get?_push_size s.heap rfl
  have e2 : ((s.heap.push PySem.W.emptyDict).push (PySem.W.instObj C s.heap.objs.size)).get? (s.heap.objs.size + 1) = some (PySem.W.instObj C s.heap.objs.size) := by
    have := Heap.get?_push_size (s.heap.push PySem.W.emptyDict) (o := PySem.W.instObj C s.heap.objs.size) rfl
    rwa [Heap.size_push] at this
  have e3 : (s.heap.push PySem.W.emptyDict).Ns s.heap.objs.size (fun _ => none) := ⟨PySem.W.emptyDict, #[], _, e1, rfl, (fun e he => absurd he (by simp)), fun _ => rfl⟩
  have I1 := I.laid (a := s.heap.objs.size) (o := .own (s.heap.objs.size + 1)) (h' := s.heap.push PySem.W.emptyDict) (t' := s.toks) (fun b u q => Heap.get?_push_of_some _ q) (Nat.le_refl _) ⟨_, e1⟩
  refine I1.laid (a := s.heap.objs.size + 1) (o := .ins C s.heap.objs.size []) (t' := s.toks) (fun b u q => Heap.get?_push_of_some _ q) (Nat.le_of_eq (Heap.size_push _ _)) ?_
  have ne : s.heap.objs.size ≠ s.heap.objs.size + 1 := Nat.ne_of_lt (Nat.lt_succ_self _)
  refine ⟨by rw [upd_ne ne, upd_same], Nat.zero_le _, ne, e2, fun _ => none, (Heap.Ns1.of_empty e3).at fun o q => Heap.get?_push_of_some _ q, fun _ => True.intro, fun y hy => absurd rfl hy⟩
theorem attr_of {prog : Program} {w : World} {env : Env} {e : Expr} {f : Str} {pos : Pos} {s : Shared} {Q : Value → Shared → Prop} (hb : attributeBase e f env (eval e env) = eval e env)
    (h : wpAny (model prog w) A (eval e env) (fun o s₁ => wpAny (model prog w) A (getAttr o f true) Q E s₁) E s) : wpAny (model prog w) A (eval (.Attribute e f pos) env) Q E s :=
  Attribute_any_ h (by rw [arm_eval_Attribute, hb])
end
def tFld (K : PySem.W.Frag) (ta : TE) (f : Str) : TE := fun σ H Q => ta σ H fun x H1 => ∃ a C dx fs v, x = .ref a ∧ H1 a = some (.ins C dx fs) ∧ Cls K C ∧ NoAttr K C f ∧ fs.lookup f = some v ∧ Q v H1
def sFld (K : PySem.W.Frag) (ta tv : TE) (f : Str) : TS := fun D σ H => tv σ H fun y H1 => ta σ H1 fun x H2 => ∃ a C dx fs, x = .ref a ∧ H2 a = some (.ins C dx fs) ∧ Cls K C ∧ NoAttr K C f ∧ fs.length < 1000 ∧
  D.nx σ (upd H2 a (.ins C dx (putF f y fs)))
section
variable {X : Cx} {o e value : Expr} {f : Str} {pos pos' tpos : Pos} {ta tv : TE}
theorem pe_fld (he : PE X e ta) (hb : attributeBase e f X.env (eval e X.env) = eval e X.env) : PE X (.Attribute e f pos) (tFld X.K ta f) := by
  intro pins s σ H Q I h
  refine attr_of hb (thn (he pins s σ H _ I h) fun u s1 ⟨x, H1, I1, rx, a, C, dx, fs, v, ex, ea, c, n, l, q⟩ => ?_)
  subst ex
  obtain rfl : u = Value.ref a := rx
  exact getattr_ok I1 ea c n l fun u' s2 I2 ru => ⟨v, H1, I2, ru, q⟩
theorem ps_fld (ha : PE X o ta) (hv : PE X value tv) (hs : swapsWith value (some (.Attribute o f pos')) pos.line X.env = pure false) : PS X (.Assign [.Attribute o f pos'] value pos) (sFld X.K ta tv f) := by
  intro pins s σ H D I h
  refine plainObj_wpAny_Assign_Attribute (thn (hv pins s σ H _ I h) fun u s1 ⟨y, H1, I1, ry, q⟩ => thn (ha pins s1 σ H1 _ I1 q) fun ov s2 ⟨x, H2, I2, rx, a, C, dx, fs, ex, ea, c, n, l, q2⟩ => ?_) hs
  subst ex
  obtain rfl : ov = Value.ref a := rx
  exact setattr_ok I2 ea c n l ry fun s3 I3 => ⟨σ, _, I3, q2⟩
end
section
variable {X : Cx} {pins : List (Addr × Obj)} {σ : St} {H : Hp} {s : Shared} {A : Around} {E : Value → Shared → Prop} {Q : Value → Shared → Prop} {c : Value} {b : Bool}
end
end L2
namespace L2
open PySem PySem.Spec PyProof.Rows
structure Room (k : Nat) (A : Around) : Prop where
  hd : A.handled = none
  dp : A.depth + 3 * k + 5 < recursionLimit
  un : A.units + 16 * k + 200 < cLine
theorem Room.mono {j k : Nat} {A : Around} (r : Room k A) (h : j ≤ k) : Room j A := ⟨r.hd, by have := r.dp; omega, by have := r.un; omega⟩
theorem Room.deeper {k : Nat} {A : Around} (r : Room (k + 1) A) (env : Env) : Room k (A.deeper env) :=
  ⟨r.hd, by have := r.dp; show A.depth + 1 + 3 * k + 5 < _; omega, by have := r.un; show A.units + 3 + 16 * k + 200 < _; omega⟩
theorem make_depth {A : Around} {C : Addr} {us : List Value} {kw : List (Str × Value)} : (A.under (.builtin "type.__call__" ⟨.ref C :: us, kw⟩)).depth = A.depth + 1 := by
  first | rfl | simp [Around.under, Code.weight, Code.isCreation, Code.isGuard, Code.isCaller, Code.frames, Code.isFrame, guardIds]
theorem make_units {A : Around} {C : Addr} {us : List Value} {kw : List (Str × Value)} : (A.under (.builtin "type.__call__" ⟨.ref C :: us, kw⟩)).units = A.units + 1 := by
  first | rfl | simp [Around.under, Code.cUnits, Code.frames, Code.isFrame]
theorem Room.make {k : Nat} {A : Around} (r : Room (k + 1) A) (C : Addr) (us : List Value) (kw : List (Str × Value)) : Room k (A.under (.builtin "type.__call__" ⟨.ref C :: us, kw⟩)) :=
  ⟨r.hd, by have := r.dp; rw [make_depth]; omega, by have := r.un; rw [make_units]; omega⟩
theorem Room.depth {k : Nat} {A : Around} (r : Room k A) : A.depth < recursionLimit := by have := r.dp; omega
theorem Room.units {k : Nat} {A : Around} (r : Room k A) : A.units + 64 < cLine := by have := r.un; omega
def tNil : TA := fun _ H Q => Q [] H
def tCons (ta : TE) (tr : TA) : TA := fun σ H Q => ta σ H fun x H1 => tr σ H1 fun xs H2 => Q (x :: xs) H2
section
variable {X : Cx} {e : Expr} {es : List Expr} {te : TE} {t : TA} {pos : Pos}
theorem pa_nil : PA X [] tNil := fun _ _ _ _ H Q I h => Calls.spliced_nil ⟨[], H, I, .nil, h⟩
theorem pa_cons (ha : PE X e te) (hr : PA X es t) (hs : starEach (e :: es) X.env = (false, eval e X.env) :: starEach es X.env := by rfl) : PA X (e :: es) (tCons te t) := by
  intro pos pins s σ H Q I h
  rw [hs]
  show wpAny _ _ (spliced ((false, eval e X.env) :: backTo pos (starEach es X.env))) _ _ s
  refine Calls.spliced_cons (thn (ha pins s σ H _ I h) fun u s1 ⟨x, H1, I1, r1, q1⟩ => ?_)
  exact thn (hr pos pins s1 σ H1 _ I1 q1) fun us s2 ⟨xs, H2, I2, r2, q2⟩ => ⟨x :: xs, H2, I2, .cons r1 r2, q2⟩
def tTup (t : TA) : TE := fun σ H Q => t σ H fun xs H1 => xs.length ≤ sizeLine ∧ ∀ p, H1 p = none → Q (.ref p) (upd H1 p (.tup xs))
def tLst (t : TA) : TE := fun σ H Q => t σ H fun xs H1 => xs.length ≤ sizeLine ∧ ∀ p, H1 p = none → Q (.ref p) (upd H1 p (.lst xs))
theorem pe_tup {x1} (h : PA X es t) : PE X (.Tuple es x1 pos) (tTup t) := by
  intro pins s σ H Q I hq
  refine wpAny_Tuple_spliced (thn (h pos pins s σ H _ I hq) fun us s1 ⟨xs, H1, I1, r, z, q⟩ => ⟨by rw [← r.length]; exact z, ?_⟩)
  have hf : H1 s1.heap.objs.size = none := I1.hok.fresh (Nat.le_refl _)
  refine ⟨.ref s1.heap.objs.size, upd H1 s1.heap.objs.size (.tup xs), I1.laid (t' := s1.toks) (fun b u e => Heap.get?_push_of_some _ e) (Nat.le_refl _) ?_, rfl, q _ hf⟩
  exact ⟨z, us, r, ⟨_, Heap.get?_push_size _ rfl, rfl, _, rfl⟩⟩
theorem pe_lst (h : PA X es t) : PE X (.List es pos) (tLst t) := by
  intro pins s σ H Q I hq
  refine wpAny_List_spliced (thn (h pos pins s σ H _ I hq) fun us s1 ⟨xs, H1, I1, r, z, q⟩ => ⟨by rw [← r.length]; exact z, ?_⟩)
  have hf : H1 s1.heap.objs.size = none := I1.hok.fresh (Nat.le_refl _)
  refine ⟨.ref s1.heap.objs.size, upd H1 s1.heap.objs.size (.lst xs), I1.laid (t' := s1.toks) (fun b u e => Heap.get?_push_of_some _ e) (Nat.le_refl _) ?_, rfl, q _ hf⟩
  exact ⟨z, us, 0, r, Heap.get?_push_size _ rfl⟩
end
abbrev Sp := List V → Hp → VK → XK → Prop
abbrev CXT := List Env → Hp → Shared → XK → Value → Shared → Prop
structure Env0 (P : Program) (w : World) (K : PySem.W.Frag) (mg : Str → Option Value) (base : Heap) (A : Around) (outer : List Env) (s : Shared) (H : Hp) : Prop where
  frames : A.frames = some outer
  mod : Mod K mg base
  bs : ∀ b o, base.get? b = some o → s.heap.get? b = some o ∧ H b = none
  bsz : base.objs.size ≤ s.heap.objs.size
  funs : s.heap.FunFrames base outer
  frf : ∀ b ∈ frs outer, H b = none
  hok : HOk P w K H s.heap
  bare : AllBare s.gens
def CE (outer : List Env) (P : Program) (w : World) (K : PySem.W.Frag) (H : Hp) (s : Shared) (Q : VK) (u : Value) (s' : Shared) : Prop :=
  ∃ v H', s'.os = s.os ∧ AllBare s'.gens ∧ Un (frs outer) [] H H' s.heap s'.heap ∧ HOk P w K H' s'.heap ∧ RelV v u ∧ Q v H'
def CR (CX : CXT) (outer : List Env) (P : Program) (w : World) (K : PySem.W.Frag) (H : Hp) (s : Shared) (Q : VK) (E : XK) (r : Result) (s' : Shared) : Prop :=
  match r with
  | .ok (.ret u) => CE outer P w K H s Q u s'
  | .ok _ => False
  | .error e => CX outer H s E e s'
structure FnOk (P : Program) (w : World) (K : PySem.W.Frag) (mg : Str → Option Value) (base : Heap) (CX : CXT) (k : Nat) (f : Addr) (fd : FuncData) (ps : List Str) (sp : Sp) : Prop where
  len : ∀ vs H Q E, sp vs H Q E → vs.length = ps.length
  run : ∀ (A : Around) (outer : List Env) (s : Shared) (H : Hp) (args : Args) (us : List Value) (vs : List V) (Q : VK) (E : XK), Room k A → Env0 P w K mg base A outer s H → BindsTo s fd args (ps.zip us) → Vals vs us → sp vs H Q E →
    codeAny (model P w) A (.call (.ref f) args) (CR CX outer P w K H s Q E) s
theorem FnOk.imp {P : Program} {w : World} {K : PySem.W.Frag} {mg : Str → Option Value} {base : Heap} {CX : CXT} {k : Nat} {f : Addr} {fd : FuncData} {ps : List Str} {sp sp' : Sp} (F : FnOk P w K mg base CX k f fd ps sp)
    (h : ∀ vs H Q E, sp' vs H Q E → sp vs H Q E) : FnOk P w K mg base CX k f fd ps sp' :=
  ⟨fun vs H Q E q => F.len vs H Q E (h _ _ _ _ q), fun A outer s H args us vs Q E hr he hb hv hs => F.run A outer s H args us vs Q E hr he hb hv (h _ _ _ _ hs)⟩
theorem Env0.make {P : Program} {w : World} {K : PySem.W.Frag} {mg : Str → Option Value} {base : Heap} {A : Around} {outer : List Env} {s : Shared} {H : Hp} (e : Env0 P w K mg base A outer s H) (C : Addr) (us : List Value) (kw : List (Str × Value)) :
    Env0 P w K mg base (A.under (.builtin "type.__call__" ⟨.ref C :: us, kw⟩)) outer s H := ⟨by first | exact e.frames | (simpa [Around.under, Code.envs, Code.isFrame, pushEnvs] using e.frames), e.mod, e.bs, e.bsz, e.funs, e.frf, e.hok, e.bare⟩
section
variable {X : Cx} {pins : List (Addr × Obj)} {σ : St} {H : Hp} {s s' : Shared}
theorem Inv.env0 (I : Inv X pins σ H s) : Env0 X.prog X.w X.K X.mg X.base X.A X.stack s H :=
  ⟨I.ok.frames, I.ok.mod, I.bs, Nat.le_trans I.ok.bsz I.sz, I.stack, I.stkFree, I.hok, I.bare⟩
theorem Inv.after {Q : VK} {u : Value} (I : Inv X pins σ H s) (h : CE X.stack X.prog X.w X.K H s Q u s') : EP X pins σ Q u s' := by
  obtain ⟨v, H', os, bare, un, hok, r, q⟩ := h
  obtain ⟨hh, g, d, t, os'⟩ := s'
  obtain rfl : os' = s.os := os
  exact ⟨v, H', I.call (h' := hh) (g' := g) (d' := d) (t' := t) (ch := []) un hok bare (fun b z => absurd z (by simp)), r, q⟩
end
def tCall (sp : Sp) (dvs : List V) (E : XK) (t : TA) : TE := fun σ H Q => t σ H fun vs H1 => sp (vs ++ dvs) H1 Q E
def tMeth (C : Addr) (m : Str) (sp : Sp) (dvs : List V) (E : XK) (ta : TE) (t : TA) : TE := fun σ H Q => ta σ H fun x H1 => ∃ a dx fs, x = .ref a ∧ H1 a = some (.ins C dx fs) ∧ fs.lookup m = none ∧
  t σ H1 fun vs H2 => sp (x :: (vs ++ dvs)) H2 Q E
def tMake (C : Addr) (sp : Sp) (dvs : List V) (E : XK) (t : TA) : TE := fun σ H Q => t σ H fun vs H1 => ∀ x dx, H1 x = none → H1 dx = none → dx ≠ x →
  sp (.ref x :: (vs ++ dvs)) (upd (upd H1 dx (.own x)) x (.ins C dx [])) (fun v H2 => v = .non ∧ Q (.ref x) H2) E
def Binds (K : PySem.W.Frag) (fd : FuncData) (ps : List Str) (ds : List Value) : Prop :=
  ∀ (s : Shared) (us : List Value), K.In s.heap → (us ++ ds).length = ps.length → BindsTo s fd ⟨us, []⟩ (ps.zip (us ++ ds))
theorem Binds.all {K : PySem.W.Frag} {fd : FuncData} {ps : List Str} (h : ∀ us : List Value, us.length = ps.length → bindArgs fd ⟨us, []⟩ = pure (ps.zip us)) : Binds K fd ps [] := fun s us _ hl => by
  rw [List.append_nil] at hl ⊢
  exact .of_eq (h us hl)
def Passes (CX : CXT) (X : Cx) (E : XK) : Prop := ∀ (pins : List (Addr × Obj)) (σ : St) (H : Hp) (s : Shared) (e : Value) (s' : Shared), Inv X pins σ H s → CX X.stack H s E e s' → X.xe e s'
section
variable {X : Cx} {CX : CXT} {k : Nat} {f C : Addr} {fd : FuncData} {ps : List Str} {sp : Sp} {dvs : List V} {ds : List Value} {E : XK} {x m : Str} {p pos apos : Pos} {e o : Expr} {es : List Expr} {ta : TE} {t : TA}
theorem run_fn {pins : List (Addr × Obj)} {σ : St} {H : Hp} {s : Shared} {Q : VK} {us : List Value} {vs : List V} (F : FnOk X.prog X.w X.K X.mg X.base CX k f fd ps sp) (hr : Room k X.A) (hb : Binds X.K fd ps ds) (hd : Vals dvs ds) (hx : Passes CX X E)
    (I : Inv X pins σ H s) (r : Vals vs us) (h : sp (vs ++ dvs) H Q E) : wpAny (model X.prog X.w) X.A (call (.ref f) us) (EP X pins σ Q) X.xe s := by
  have r2 : Vals (vs ++ dvs) (us ++ ds) := r.append hd
  have hl : (us ++ ds).length = ps.length := by rw [← r2.length]; exact F.len _ _ _ _ h
  refine wpAny_call (codeAny_mono (F.run X.A X.stack s H ⟨us, []⟩ (us ++ ds) (vs ++ dvs) Q E hr I.env0 (hb s us I.kIn hl) r2 h) fun r s' hq => ?_)
  cases r with
  | error e => exact hx pins σ H s e s' I hq
  | ok fl =>
    cases fl with
    | ret u => exact I.after hq
    | next => exact False.elim hq
    | brk => exact False.elim hq
    | cont => exact False.elim hq
theorem pe_call (F : FnOk X.prog X.w X.K X.mg X.base CX k f fd ps sp) (hr : Room k X.A) (hg : Gl X x) (hm : X.mg x = some (.ref f)) (hk : PySem.W.keepIn X.K (.ref f) = true) (hb : Binds X.K fd ps ds) (hd : Vals dvs ds) (hx : Passes CX X E)
    (ha : PA X (e :: es) t) (hdb : (x == ("__debug__" : Str)) = false := by decide) (he : starEach (e :: es) X.env = (false, eval e X.env) :: starEach es X.env := by rfl) (hpl : (backTo pos (starEach es X.env)).any (·.1) = false := by rfl) :
    PE X (.Call (.Name x p) (e :: es) [] pos) (tCall sp dvs E t) := by
  intro pins s σ H Q I h
  refine wpAny_Call_Name_kw (ld_glob I hg hm ?_ hdb)
  refine PySem.W.callWith_K (h₀ := X.base) I.ok.mod.kin hk (thn (ha pos pins s σ H _ I h) fun us s1 ⟨vs, H1, I1, r, q⟩ => ⟨I1.kIn, ?_⟩) he hpl
  exact run_fn F hr hb hd hx I1 r q
theorem pe_meth {pl : Sem Bool} (he : PE X o ta) (c : Cls X.K C) (hm : Meth X.K C m f) (F : FnOk X.prog X.w X.K X.mg X.base CX k f fd ps sp) (hr : Room k X.A) (hb : Binds X.K fd ps ds) (hd : Vals dvs ds) (hx : Passes CX X E) (ha : PA X (e :: es) t)
    (hst : starEach (e :: es) X.env = (false, eval e X.env) :: starEach es X.env := by rfl) (hpl : (backTo pos (starEach es X.env)).any (·.1) = false := by rfl)
    (ht : eval (.Call (.Attribute o m apos) (e :: es) [] pos) X.env = (do
      let ov ← eval o X.env
      standAt apos.atName
      let (f, first) ← holding [ov] (getMethod ov m pl)
      callWith pos f first (backTo pos (starEach (e :: es) X.env)) (backToKw pos (keywordEach [] X.env))) := by rfl) :
    PE X (.Call (.Attribute o m apos) (e :: es) [] pos) (tMeth C m sp dvs E ta t) := by
  intro pins s σ H Q I h
  refine PySem.W.methodCall_KW (pl := pl) (thn (he pins s σ H _ I h) fun u s1 ⟨x, H1, I1, rx, a, dx, fs, ex, ea, l, q⟩ => ?_) ht
  subst ex
  obtain rfl : u = Value.ref a := rx
  refine getmeth_ok I1 ea c hm l ?_
  refine PySem.W.callWith_K (first := [.ref a]) (h₀ := X.base) I.ok.mod.kin hm.kp (thn (ha pos pins s1 σ H1 _ I1 q) fun us s2 ⟨vs, H2, I2, r, q2⟩ => ⟨I2.kIn, ?_⟩) hst hpl
  exact run_fn (us := .ref a :: us) (vs := .ref a :: vs) F hr hb hd hx I2 (.cons rfl r) q2
theorem pe_meth0 {pl : Sem Bool} (he : PE X o ta) (c : Cls X.K C) (hm : Meth X.K C m f) (F : FnOk X.prog X.w X.K X.mg X.base CX k f fd ps sp) (hr : Room k X.A) (hb : Binds X.K fd ps ds) (hd : Vals dvs ds) (hx : Passes CX X E)
    (ht : eval (.Call (.Attribute o m apos) [] [] pos) X.env = (do
      let ov ← eval o X.env
      standAt apos.atName
      let (f, first) ← holding [ov] (getMethod ov m pl)
      callWith pos f first (backTo pos (starEach [] X.env)) (backToKw pos (keywordEach [] X.env))) := by rfl) :
    PE X (.Call (.Attribute o m apos) [] [] pos) (tMeth C m sp dvs E ta tNil) := by
  intro pins s σ H Q I h
  refine PySem.W.methodCall_KW (pl := pl) (thn (he pins s σ H _ I h) fun u s1 ⟨x, H1, I1, rx, a, dx, fs, ex, ea, l, q⟩ => ?_) ht
  subst ex
  obtain rfl : u = Value.ref a := rx
  refine getmeth_ok I1 ea c hm l ?_
  exact PySem.W.callWith_K0 (first := [.ref a]) I1.kIn hm.kp (run_fn (us := [.ref a]) (vs := [.ref a]) F hr hb hd hx I1 (.cons rfl .nil) q)
structure Mk (K : PySem.W.Frag) (C f : Addr) : Prop where
  makes : PySem.W.makesIn K C = true
  init : PySem.W.findIn K (.ref C) "__init__" = some (some (.ref f))
  fn : PySem.W.isFn K (.ref f) = true
  kp : PySem.W.keepIn K (.ref C) = true
theorem run_make {pins : List (Addr × Obj)} {σ : St} {H : Hp} {s : Shared} {Q : VK} {us : List Value} {vs : List V} (M : Mk X.K C f) (F : FnOk X.prog X.w X.K X.mg X.base CX k f fd ps sp) (hr : Room (k + 1) X.A) (hb : Binds X.K fd ps ds) (hd : Vals dvs ds)
    (hx : Passes CX X E) (I : Inv X pins σ H s) (r : Vals vs us)
    (h : ∀ x dx, H x = none → H dx = none → dx ≠ x → sp (.ref x :: (vs ++ dvs)) (upd (upd H dx (.own x)) x (.ins C dx [])) (fun v H2 => v = .non ∧ Q (.ref x) H2) E) :
    wpAny (model X.prog X.w) X.A (call (.ref C) us) (EP X pins σ Q) X.xe s := by
  have hq := h (s.heap.objs.size + 1) s.heap.objs.size (I.hok.fresh (Nat.le_succ _)) (I.hok.fresh (Nat.le_refl _)) (Nat.ne_of_lt (Nat.lt_succ_self _))
  have I2 := Inv.made (C := C) I
  have r2 : Vals (V.ref (s.heap.objs.size + 1) :: (vs ++ dvs)) (Value.ref (s.heap.objs.size + 1) :: (us ++ ds)) := .cons rfl (r.append hd)
  have hl : (Value.ref (s.heap.objs.size + 1) :: us ++ ds).length = ps.length := by
    have e := r2.length
    rw [F.len _ _ _ _ hq] at e
    exact e.symm
  refine wpAny_call (make_map (f := f) I.kIn M.makes M.init (beq_iff_eq.mp M.fn) (codeAny_mono (F.run _ X.stack _ _ ⟨Value.ref (s.heap.objs.size + 1) :: us, []⟩ (Value.ref (s.heap.objs.size + 1) :: (us ++ ds)) _ _ E (hr.make C us [])
    (I2.env0.make C us []) (hb _ (Value.ref (s.heap.objs.size + 1) :: us) I2.kIn hl) r2 hq) fun r s' hq' => ?_))
  cases r with
  | error e => exact hx pins σ _ _ e s' I2 hq'
  | ok fl =>
    cases fl with
    | ret u =>
      obtain ⟨v, H', I3, rv, ev, q3⟩ := I2.after hq'
      subst ev
      exact ⟨rv, ⟨V.ref (s.heap.objs.size + 1), H', I3, rfl, q3⟩⟩
    | next => exact False.elim hq'
    | brk => exact False.elim hq'
    | cont => exact False.elim hq'
theorem pe_make (M : Mk X.K C f) (F : FnOk X.prog X.w X.K X.mg X.base CX k f fd ps sp) (hr : Room (k + 1) X.A) (hg : Gl X x) (hm : X.mg x = some (.ref C)) (hb : Binds X.K fd ps ds) (hd : Vals dvs ds) (hx : Passes CX X E)
    (ha : PA X (e :: es) t) (hdb : (x == ("__debug__" : Str)) = false := by decide) (he : starEach (e :: es) X.env = (false, eval e X.env) :: starEach es X.env := by rfl) (hpl : (backTo pos (starEach es X.env)).any (·.1) = false := by rfl) :
    PE X (.Call (.Name x p) (e :: es) [] pos) (tMake C sp dvs E t) := by
  intro pins s σ H Q I h
  refine wpAny_Call_Name_kw (ld_glob I hg hm ?_ hdb)
  refine PySem.W.callWith_K (h₀ := X.base) I.ok.mod.kin M.kp (thn (ha pos pins s σ H _ I h) fun us s1 ⟨vs, H1, I1, r, q⟩ => ⟨I1.kIn, ?_⟩) he hpl
  exact run_make M F hr hb hd hx I1 r q
end
section
variable {X : Cx} {CX : CXT} {k : Nat} {f C : Addr} {fd : FuncData} {ps ks : List Str} {sp : Sp} {E : XK} {x m : Str} {p pos apos kpos : Pos} {e o : Expr} {es : List Expr} {kws : List Keyword} {te ta : TE} {t tk : TA} {nm : Option Str}
variable {g : List Value → List Value → List Value} {gV : List V → List V → List V}
end
structure FnScope (N P : List Str) (sc : Scope) : Prop where
  kind : sc.kind = .function
  co : sc.isCoroutine = false
  gen : sc.isGenerator = false
  nd : N.Nodup
  pre : N.take P.length = P
  par : ∀ x ∈ P, sc.names.lookup x = some .local ∨ sc.names.lookup x = some .cell
  nofree : ∀ y ∈ sc.names, y.2 ≠ .free
theorem bindL_out {kindOf : Str → Option NameKind} {x : Str} : ∀ {binds : List (Str × Value)} {m : Str → Option Value}, (∀ v, (x, v) ∉ binds) → bindL kindOf binds m x = m x
  | [], _, _ => rfl
  | (n, v) :: r, m, h => by
    unfold bindL
    rw [bindL_out fun w hw => h w (List.mem_cons_of_mem _ hw)]
    split
    · have : x ≠ n := by rintro rfl; exact h v List.mem_cons_self
      simp [this]
    · rfl
theorem bindC_out {kindOf : Str → Option NameKind} {x : Str} : ∀ {binds : List (Str × Value)} {m : Str → Option Value}, (∀ v, (x, v) ∉ binds) → bindC kindOf binds m x = m x
  | [], _, _ => rfl
  | (n, v) :: r, m, h => by
    unfold bindC
    rw [bindC_out fun w hw => h w (List.mem_cons_of_mem _ hw)]
    split
    · rfl
    · have : x ≠ n := by rintro rfl; exact h v List.mem_cons_self
      simp [this]
theorem bindL_get {kindOf : Str → Option NameKind} {x : Str} {v : Value} : ∀ {P : List Str} {vs : List Value} {i : Nat} {m : Str → Option Value}, P.Nodup → P[i]? = some x → vs[i]? = some v → kindOf x = some .local →
    bindL kindOf (P.zip vs) m x = some v
  | [], _, _, _, _, h, _, _ => by simp at h
  | _ :: _, [], _, _, _, _, h, _ => by simp at h
  | p :: P, w :: vs, 0, m, nd, h1, h2, hk => by
    simp at h1 h2; subst h1; subst h2
    show bindL kindOf ((p, w) :: P.zip vs) m p = _
    unfold bindL
    rw [bindL_out fun v hv => (List.nodup_cons.mp nd).1 (List.of_mem_zip hv).1, if_pos hk]
    simp
  | p :: P, w :: vs, i + 1, m, nd, h1, h2, hk => by
    show bindL kindOf ((p, w) :: P.zip vs) m x = _
    unfold bindL
    exact bindL_get (i := i) (List.nodup_cons.mp nd).2 (by simpa using h1) (by simpa using h2) hk
theorem bindC_get {kindOf : Str → Option NameKind} {x : Str} {v : Value} : ∀ {P : List Str} {vs : List Value} {i : Nat} {m : Str → Option Value}, P.Nodup → P[i]? = some x → vs[i]? = some v → kindOf x ≠ some .local →
    bindC kindOf (P.zip vs) m x = some v
  | [], _, _, _, _, h, _, _ => by simp at h
  | _ :: _, [], _, _, _, _, h, _ => by simp at h
  | p :: P, w :: vs, 0, m, nd, h1, h2, hk => by
    simp at h1 h2; subst h1; subst h2
    show bindC kindOf ((p, w) :: P.zip vs) m p = _
    unfold bindC
    rw [bindC_out fun v hv => (List.nodup_cons.mp nd).1 (List.of_mem_zip hv).1, if_neg hk]
    simp
  | p :: P, w :: vs, i + 1, m, nd, h1, h2, hk => by
    show bindC kindOf ((p, w) :: P.zip vs) m x = _
    unfold bindC
    exact bindC_get (i := i) (List.nodup_cons.mp nd).2 (by simpa using h1) (by simpa using h2) hk
def start (N : List Str) (vs : List V) : St := vs.map some ++ List.replicate (N.length - vs.length) none
def cxOf (CX : CXT) (P : Program) (w : World) (K : PySem.W.Frag) (mg : Str → Option Value) (base : Heap) (N : List Str) (qual : Str) (scope : Scope) (f : Addr) (cd : Value) (A : Around) (outer : List Env) (s : Shared) (H : Hp) (E : XK) : Cx where
  prog := P
  w := w
  K := K
  mg := mg
  base := base
  A := A.deeper (envOfC qual scope s.heap.objs.size f cd)
  N := N
  s₀ := s
  H₀ := H
  env := envOfC qual scope s.heap.objs.size f cd
  outer := outer
  stack := envOfC qual scope s.heap.objs.size f cd :: outer
  ex := []
  calm := true
  fn := fun _ => true
  pn := []
  xe := fun e s' => wpAny (model P w) (A.deeper (envOfC qual scope s.heap.objs.size f cd)) (leaving (envOfC qual scope s.heap.objs.size f cd) e) (fun _ s'' => CX outer H s E e s'') (fun e' s'' => CX outer H s E e' s'') s'
theorem cell_has {sc : Scope} {n : Nat} {x : Str} (h : sc.names.lookup x = some .cell) : ∃ c, (cellsFrom n sc.names []).lookup x = some c := by
  have q := PySem.W.cellsFrom_some sc.names n [] (.inl h)
  exact Option.isSome_iff_exists.mp q
theorem inv_start {CX : CXT} {P : Program} {w : World} {K : PySem.W.Frag} {mg : Str → Option Value} {base : Heap} {N ps : List Str} {qual : Str} {scope : Scope} {f : Addr} {cd : Value} {A : Around} {outer : List Env} {s s1 : Shared} {H : Hp} {E : XK} {us : List Value} {vs : List V}
    (S : FnScope N ps scope) (hd : A.handled = none) (e0 : Env0 P w K mg base A outer s H) (hl : vs.length = ps.length) (r : Vals vs us)
    (x : InCallC s s.heap.objs.size (bindL (envOfC qual scope s.heap.objs.size f cd).kindOf (ps.zip us) fun _ => none) (cellsFrom (s.heap.objs.size + 1) scope.names []) (bindC (envOfC qual scope s.heap.objs.size f cd).kindOf (ps.zip us) fun _ => none) s1) :
    Inv (cxOf CX P w K mg base N qual scope f cd A outer s H E) [] (start N vs) H s1 := by
  have hpl : ps.length ≤ N.length := by have := congrArg List.length S.pre; rw [List.length_take] at this; omega
  obtain ⟨h1, tk, rfl, hk⟩ := x.done
  have noA : ∀ b : Addr, b ∉ (cxOf CX P w K mg base N qual scope f cd A outer s H E).ex := fun b z => absurd (show b ∈ ([] : List Addr) from z) (by simp)
  refine ⟨⟨e0.mod, S.kind, rfl, rfl, Nat.le_refl _, fun y z c h1 h2 => ?_, fun y hy => ?_, fun y c _ h => ?_, fun _ => hd, Around.frames_deeper e0.frames, .inr ⟨rfl, rfl⟩, fun b z => absurd z (noA b), e0.bs, e0.bsz, fun b _ _ => noA b, fun b z => absurd z (noA b), e0.funs, e0.frf⟩,
    rfl, e0.bare, Un.kept hk, ⟨_, x.toInCall.ns, fun i y v h1 h2 h3 => ?_⟩, fun y c h => ⟨_, x.cell y c h⟩, e0.hok.fresh (Nat.le_refl _), fun y c h => ?_, fun p hp => absurd (show p ∈ ([] : List (Addr × Obj)) from hp) (by simp), e0.hok.kept hk, ?_⟩
  · exact name_of_addr x.apart (PySem.mem_of_lookup h1) (PySem.mem_of_lookup h2)
  · have hy : scope.names.lookup y = some .cell ∨ scope.names.lookup y = some .free := hy
    rcases hy with hy | hy
    · exact cell_has hy
    · exact absurd rfl (S.nofree _ (PySem.mem_of_lookup hy))
  · exact Nat.le_of_lt (x.above y c (PySem.mem_of_lookup h))
  · have hi : i < vs.length := by
      unfold start at h2
      by_cases hi : i < vs.length
      · exact hi
      · rw [List.getElem?_append_right (by simpa using hi)] at h2
        rw [List.getElem?_replicate] at h2
        split at h2 <;> cases h2
    have ha : vs[i]? = some v := by
      unfold start at h2
      rw [List.getElem?_append_left (by simpa using hi), List.getElem?_map] at h2
      cases e : vs[i]? with
      | none => rw [e] at h2; cases h2
      | some a => rw [e] at h2; cases h2; rfl
    obtain ⟨u, hu, rv⟩ := r.get ha
    have hp : ps[i]? = some y := by
      rw [← S.pre, List.getElem?_take_of_lt (by omega)]; exact h1
    have ndP : ps.Nodup := by rw [← S.pre]; exact S.nd.sublist (List.take_sublist _ _)
    refine ⟨u, rv, ?_⟩
    rcases S.par y (List.mem_of_getElem? hp) with k | k
    · exact .inl ⟨k, bindL_get ndP hp hu k⟩
    · obtain ⟨c, e⟩ := cell_has (n := s.heap.objs.size + 1) k
      refine .inr ⟨.inl k, c, e, ?_⟩
      have q := x.cell y c e
      rw [bindC_get ndP hp hu (by show scope.names.lookup y ≠ _; rw [k]; decide)] at q
      exact q
  · exact e0.hok.fresh (Nat.le_of_lt (x.above y c (PySem.mem_of_lookup h)))
  · unfold start
    show _ = N.length
    rw [List.length_append, List.length_map, List.length_replicate]
    omega
theorem fn_of {CX : CXT} {P : Program} {w : World} {K : PySem.W.Frag} {mg : Str → Option Value} {base : Heap} {k : Nat} {f : Addr} {name qual : Str} {params : Arguments} {body : List Stmt} {scope : Scope} {dV kV doc pm cdv ct oc : Value} {an od : Option Addr}
    {osl : Array (Option Value)} {N ps : List Str} {sp : Sp} (lk : K.lookup f = some ⟨oc, od, .func (PySem.W.fnOf name qual params body scope dV kV doc pm an cdv ct), osl⟩) (hcd : PySem.W.codeIn K cdv qual = true) (S : FnScope N ps scope)
    (len : ∀ vs H Q E, sp vs H Q E → vs.length = ps.length)
    (hbody : ∀ (A : Around) (outer : List Env) (s : Shared) (H : Hp) (vs : List V) (Q : VK) (E : XK), Room k (A.deeper (envOfC qual scope s.heap.objs.size f cdv)) → sp vs H Q E →
      ∃ t, PSs (cxOf CX P w K mg base N qual scope f cdv A outer s H E) body t ∧ t { nx := fun _ H' => Q .non H', rt := Q } (start N vs) H) :
    FnOk P w K mg base CX (k + 1) f (PySem.W.fnOf name qual params body scope dV kV doc pm an cdv ct) ps sp := by
  refine ⟨len, fun A outer s H args us vs Q E hr e0 hb r hsp => ?_⟩
  have hl := len _ _ _ _ hsp
  have KX : K.In s.heap := e0.mod.kin.keeps fun b o e => (e0.bs b o e).1
  have lim : s.heap.NoLimit := e0.mod.nolimit.keeps fun b o e => (e0.bs b o e).1
  have hkind : ∀ y ∈ ps.zip us, scope.names.lookup y.1 = some .local ∨ (scope.names.lookup y.1 = some .cell ∧ ((cellsFrom (s.heap.objs.size + 1) scope.names []).lookup y.1).isSome = true) := fun ⟨n, v⟩ hy => by
    rcases S.par n (List.of_mem_zip hy).1 with q | q
    · exact .inl q
    · exact .inr ⟨q, PySem.W.cellsFrom_some _ _ _ (.inl q)⟩
  refine codeAny_call_function hr.depth (KX _ _ lk) rfl S.co S.gen rfl (PySem.W.codeRec_of KX hcd) (hb _ _ _ _ ?_)
  refine wpAny_newFunctionEnv_cells S.kind hkind fun env he s1 x => ?_
  subst he
  refine ⟨lim.keeps x.toInCall.keep, codeAny_func ?_⟩
  obtain ⟨t, ht, hq⟩ := hbody A outer s H vs Q E (hr.deeper _) hsp
  have I : Inv (cxOf CX P w K mg base N qual scope f cdv A outer s H E) [] (start N vs) H s1 := inv_start S hr.hd e0 hl r x
  refine wpAny_mono (ht [] s1 (start N vs) H _ I hq) (fun fl s' hs => ?_) fun e s' hs => hs
  have fin : ∀ {σ' : St} {H' : Hp} {v : V} {u : Value}, Inv (cxOf CX P w K mg base N qual scope f cdv A outer s H E) [] σ' H' s' → RelV v u → Q v H' → CE outer P w K H s Q u s' :=
    fun {σ' H' v u} J rv q => ⟨v, H', J.os, J.bare, J.base, J.hok, rv, q⟩
  cases fl with
  | ret u =>
    obtain ⟨v, σ', H', J, rv, q⟩ := hs
    exact fin J rv q
  | next =>
    obtain ⟨σ', H', J, q⟩ := hs
    exact fin (v := V.non) (u := Value.none) J rfl q
  | brk =>
    obtain ⟨_, _, _, q⟩ := hs
    exact False.elim q
  | cont =>
    obtain ⟨_, _, _, q⟩ := hs
    exact False.elim q
end L2
namespace L2
open PySem PySem.Spec PyProof.Rows
section
variable {X : Cx} {x : Str} {p pos : Pos} {e : Expr} {es : List Expr} {t : TA} {id T : String} {r : List V → Hp → VK → Prop}
def tCB (r : List V → Hp → VK → Prop) (t : TA) : TE := fun σ H Q => t σ H fun vs H1 => r vs H1 Q
theorem pe_callB (hc : CallR X (.builtin id) r) (hg : Gl X x) (hm : X.mg x = none) (hv : bootBuiltins x = some (.builtin id)) (ha : PA X (e :: es) t) (hn : x ≠ "__name__" := by decide) (hdb : (x == ("__debug__" : Str)) = false := by decide)
    (he : starEach (e :: es) X.env = (false, eval e X.env) :: starEach es X.env := by rfl) (hpl : (backTo pos (starEach es X.env)).any (·.1) = false := by rfl) : PE X (.Call (.Name x p) (e :: es) [] pos) (tCB r t) := by
  intro pins s σ H Q I h
  refine wpAny_Call_Name_kw (ld_blt I hg hm hv ?_ hn hdb)
  exact PyProof.Rows.callWith_builtin1 (thn (ha pos pins s σ H _ I h) fun us s1 ⟨vs, H1, I1, r1, q1⟩ => hc pins s1 σ H1 vs us Q I1 r1 q1) he hpl
theorem pe_callTy (hc : CallR X (.type T) r) (hg : Gl X x) (hm : X.mg x = none) (hv : bootBuiltins x = some (.type T)) (ha : PA X (e :: es) t) (hn : x ≠ "__name__" := by decide) (hdb : (x == ("__debug__" : Str)) = false := by decide)
    (he : starEach (e :: es) X.env = (false, eval e X.env) :: starEach es X.env := by rfl) (hpl : (backTo pos (starEach es X.env)).any (·.1) = false := by rfl) : PE X (.Call (.Name x p) (e :: es) [] pos) (tCB r t) := by
  intro pins s σ H Q I h
  refine wpAny_Call_Name_kw (ld_blt I hg hm hv ?_ hn hdb)
  exact PyProof.Rows.callWith_type1 (thn (ha pos pins s σ H _ I h) fun us s1 ⟨vs, H1, I1, r1, q1⟩ => hc pins s1 σ H1 vs us Q I1 r1 q1) he hpl
end
end L2
namespace L2
open PySem PySem.Spec PyProof.Rows
section
variable {κ : Type} [DecidableEq κ]
def valV (kvs : List (κ × V)) (k : κ) : Option V := (kvs.find? fun kv => decide (kv.1 = k)).map (·.2)
def putK (kvs : List (κ × V)) (k : κ) (v : V) : List (κ × V) :=
  if (kvs.any fun kv => decide (kv.1 = k)) = true then kvs.map (fun kv => if kv.1 = k then (kv.1, v) else kv) else kvs ++ [(k, v)]
theorem valV_pos {p : κ × V} {r : List (κ × V)} {k : κ} (e : p.1 = k) : valV (p :: r) k = some p.2 := by simp [valV, List.find?_cons, e]
theorem valV_neg {p : κ × V} {r : List (κ × V)} {k : κ} (e : ¬ p.1 = k) : valV (p :: r) k = valV r k := by simp [valV, List.find?_cons, e]
theorem valV_any (k : κ) : ∀ kvs : List (κ × V), (kvs.any fun kv => decide (kv.1 = k)) = (valV kvs k).isSome
  | [] => rfl
  | p :: r => by
    rw [List.any_cons]
    by_cases e : p.1 = k
    · simp only [valV_pos e, decide_eq_true e, Bool.true_or, Option.isSome_some]
    · rw [valV_neg e, decide_eq_false e, Bool.false_or]; exact valV_any k r
theorem length_putK (kvs : List (κ × V)) (k : κ) (v : V) : (putK kvs k v).length ≤ kvs.length + 1 := by
  unfold putK
  split
  · rw [List.length_map]; omega
  · rw [List.length_append, List.length_cons, List.length_nil]; omega
theorem RelO.isSome_eq {o : Option V} {u : Option Value} (r : RelO o u) : o.isSome = u.isSome := by
  cases o with
  | none => cases u with
    | none => rfl
    | some _ => exact (show False from r).elim
  | some _ => cases u with
    | none => exact (show False from r).elim
    | some _ => rfl
theorem KV.val {kvs : List (κ × V)} {vs : List (κ × Value)} (r : KV kvs vs) (k : κ) : RelO (valV kvs k) (valueAt vs k) := by
  unfold KV at r
  induction r with
  | nil => exact True.intro
  | @cons p q ps qs h t ih =>
    obtain ⟨h1, h2⟩ := h
    by_cases e : p.1 = k
    · have e' : q.1 = k := h1.symm.trans e
      have b : valueAt (q :: qs) k = some q.2 := by simp [valueAt, List.find?_cons, e']
      rw [valV_pos e, b]; exact h2
    · have e' : ¬ q.1 = k := fun z => e (h1.trans z)
      have b : valueAt (q :: qs) k = valueAt qs k := by simp [valueAt, List.find?_cons, e']
      rw [valV_neg e, b]; exact ih
theorem KV.any {kvs : List (κ × V)} {vs : List (κ × Value)} (r : KV kvs vs) (k : κ) : (kvs.any fun kv => decide (kv.1 = k)) = vs.any fun kv => decide (kv.1 = k) := by
  unfold KV at r
  induction r with
  | nil => rfl
  | cons h t ih => rw [List.any_cons, List.any_cons, ih, h.1]
theorem KV.repl {kvs : List (κ × V)} {vs : List (κ × Value)} (r : KV kvs vs) (k : κ) {y : V} {u : Value} (ry : RelV y u) :
    KV (kvs.map fun kv => if kv.1 = k then (kv.1, y) else kv) (vs.map fun kv => if kv.1 = k then (kv.1, u) else kv) := by
  unfold KV at r ⊢
  induction r with
  | nil => exact .nil
  | @cons p q ps qs h t ih =>
    rw [List.map_cons, List.map_cons]
    refine .cons ?_ ih
    obtain ⟨h1, h2⟩ := h
    by_cases e : p.1 = k
    · rw [if_pos e, if_pos (h1.symm.trans e)]; exact ⟨h1, ry⟩
    · rw [if_neg e, if_neg (fun z => e (h1.trans z))]; exact ⟨h1, h2⟩
theorem KV.put {kvs : List (κ × V)} {vs : List (κ × Value)} (r : KV kvs vs) (k : κ) {y : V} {u : Value} (ry : RelV y u) : KV (putK kvs k y) (stored vs k u) := by
  unfold putK stored
  rw [r.any k]
  by_cases e : (vs.any fun kv => decide (kv.1 = k)) = true
  · rw [if_pos e, if_pos e]; exact r.repl k ry
  · rw [if_neg e, if_neg e]; exact Paired.snoc r ⟨rfl, ry⟩
theorem KV.length {kvs : List (κ × V)} {vs : List (κ × Value)} (r : KV kvs vs) : kvs.length = vs.length := Paired.length r
end
theorem kV_is {P : Program} {w : World} {k : Key} {u : Value} (r : RelV (kV k) u) : (mixKind P w).is k u = true := by
  cases k with
  | inl i => obtain ⟨t, e⟩ := (show ∃ t, u = Value.int i t from r); subst e; exact mixKind_int P w i t
  | inr x => obtain ⟨t, e⟩ := (show ∃ t, u = Value.str x t from r); subst e; exact mixKind_str P w x t
theorem kVB_is {P : Program} {w : World} {k : Key} {u : Value} (r : RelV (kV k) u) : (mixKindB P w).is k u = true := keyIsB_of (kV_is (P := P) (w := w) r)
theorem items_k {P : Program} {w : World} : ∀ {ks : List Key} {us : List Value}, Vals (ks.map kV) us → ItemsAre (mixKindB P w) ks us
  | [], _, r => by rw [List.map_nil] at r; cases r; exact .nil
  | k :: ks, _, r => by
    rw [List.map_cons] at r
    cases r with
    | cons h t => exact .cons (kVB_is h) (items_k t)
theorem items_are {P : Program} {w : World} {ks : List Key} {vs : List V} {us : List Value} (kt : KeyT ks vs) (r : Vals vs us) : ItemsAre (mixKindB P w) ks us := by
  rcases kt with rfl | ⟨x, b, rfl, rfl⟩
  · exact items_k r
  · cases r with
    | cons h1 t => cases t with
      | cons h2 t =>
        cases t
        cases (show _ = Value.bool b from h2)
        exact .cons (kVB_is (k := .inr x) h1) (.cons (keyIsB_bool b) .nil)
abbrev KT (K : PySem.W.Frag) (H : Hp) : List (List Key × V) → List (List Key × Addr × Value) → Prop := Paired fun p q => p.1 = q.1 ∧ CKey K H q.2.1 p.1 ∧ RelV p.2 q.2.2
theorem KT.val {K : PySem.W.Frag} {H : Hp} {kvs : List (List Key × V)} {xs : List (List Key × Addr × Value)} (r : KT K H kvs xs) (k : List Key) : RelO (valV kvs k) ((atKey xs k).map (·.2)) := by
  induction r with
  | nil => exact True.intro
  | @cons p q ps qs h t ih =>
    obtain ⟨h1, _, h2⟩ := h
    by_cases e : p.1 = k
    · have e' : q.1 = k := h1.symm.trans e
      have b : atKey (q :: qs) k = some q.2 := by simp [atKey, List.find?_cons, e']
      rw [valV_pos e, b]; exact h2
    · have e' : ¬ q.1 = k := fun z => e (h1.trans z)
      have b : atKey (q :: qs) k = atKey qs k := by simp [atKey, List.find?_cons, e']
      rw [valV_neg e, b]; exact ih
theorem KT.repl {K : PySem.W.Frag} {H : Hp} {kvs : List (List Key × V)} {xs : List (List Key × Addr × Value)} (r : KT K H kvs xs) (k : List Key) {y : V} {u : Value} (ry : RelV y u) :
    KT K H (kvs.map fun kv => if kv.1 = k then (kv.1, y) else kv) (xs.map (putAt k u)) := by
  induction r with
  | nil => exact .nil
  | @cons p q ps qs h t ih =>
    rw [List.map_cons, List.map_cons]
    refine .cons ?_ ih
    obtain ⟨h1, h2, h3⟩ := h
    unfold putAt
    by_cases e : p.1 = k
    · rw [if_pos e, if_pos (h1.symm.trans e)]; exact ⟨h1, h2, ry⟩
    · rw [if_neg e, if_neg (fun z => e (h1.trans z))]; exact ⟨h1, h2, h3⟩
theorem KT.put {K : PySem.W.Frag} {H : Hp} {kvs : List (List Key × V)} {xs : List (List Key × Addr × Value)} (r : KT K H kvs xs) (k : List Key) {b : Addr} {y : V} {u : Value} (hb : CKey K H b k) (ry : RelV y u) :
    KT K H (putK kvs k y) (storedH xs k b u) := by
  have e : (kvs.any fun kv => decide (kv.1 = k)) = (atKey xs k).isSome := by
    rw [valV_any, (r.val k).isSome_eq, Option.isSome_map]
  unfold putK storedH
  rw [e]
  by_cases q : (atKey xs k).isSome = true
  · rw [if_pos q, if_pos q]; exact r.repl k ry
  · rw [if_neg q, if_neg q]; exact Paired.snoc r ⟨rfl, hb, ry⟩
theorem KT.keeps {K : PySem.W.Frag} {H H' : Hp} {kvs : List (List Key × V)} {xs : List (List Key × Addr × Value)} (r : KT K H kvs xs) (ht : ∀ b ys, H b = some (.tup ys) → H' b = some (.tup ys)) : KT K H' kvs xs :=
  Paired.mapP r fun _ _ z => ⟨z.1, z.2.1.keeps ht, z.2.2⟩
section
variable {P : Program} {w : World} {K : PySem.W.Frag} {H : Hp} {h : Heap} {a : Addr}
theorem rd_of {u : HO} (ok : HOk P w K H h) (e : Rd H a u) : ObjOk P w K H h a u := e.ok ok
theorem dk_rd {kvs : List (Key × V)} (ok : HOk P w K H h) (e : Rd H a (.dK kvs)) : kvs.length ≤ sizeLine ∧ (a == sysModules) = false ∧ ∃ vs, KV kvs vs ∧ h.DictOf (mixKind P w) a vs :=
  show ObjOk P w K H h a (.dK kvs) from rd_of ok e
theorem dk_of {kvs : List (Key × V)} (ok : HOk P w K H h) (e : H a = some (.dK kvs)) : kvs.length ≤ sizeLine ∧ (a == sysModules) = false ∧ ∃ vs, KV kvs vs ∧ h.DictOf (mixKind P w) a vs := dk_rd ok (.inl e)
theorem key_of {ks : List Key} (ok : HOk P w K H h) (e : DKey H a ks) : (tupleKind (mixKindB P w)).is h ks a := by
  obtain ⟨vs, e, kt⟩ := e
  obtain ⟨_, its, r, o, h1, h2, n, h3⟩ := (show ObjOk P w K H h a (.tup vs) from ok a _ e)
  exact ⟨o, its.toArray, n, h1, h2, h3, by simpa using items_are kt r⟩
theorem key_ofC {ks : List Key} (kin : K.In h) (ok : HOk P w K H h) (e : CKey K H a ks) : (tupleKind (mixKindB P w)).is h ks a := by
  rcases e with e | ⟨vs, ⟨o, its, n, e1, e2, e3, _, r⟩, kt⟩
  · exact key_of ok e
  · exact ⟨o, its, n, kin a o e1, e2, e3, items_are kt r⟩
theorem dt_e {kvs : List (List Key × V)} (kin : K.In h) (ok : HOk P w K H h) (e : Rd H a (.dT kvs)) : kvs.length ≤ sizeLine ∧ (a == sysModules) = false ∧ ∃ xs, KT K H kvs xs ∧ DictE (tupleKind (mixKindB P w)) h a xs := by
  obtain ⟨z, y, xs, r, o, es, ep, h1, h2, h3, h4, h5, h6⟩ := (show ObjOk P w K H h a (.dT kvs) from rd_of ok e)
  subst h6
  refine ⟨z, y, xs, r, o, es, h1, h2, h3, h4, fun x hx => ?_, h5⟩
  have all : ∀ {l : List (List Key × V)} {m : List (List Key × Addr × Value)}, KT K H l m → ∀ x ∈ m, (tupleKind (mixKindB P w)).is h x.1 x.2.1 := by
    intro l m q
    induction q with
    | nil => intro x hx; exact nomatch hx
    | cons hq t ih =>
      intro x hx
      rcases List.mem_cons.mp hx with e | hx
      · rw [e]; exact key_ofC kin ok (by rw [← hq.1]; exact hq.2.1)
      · exact ih x hx
  exact all r x hx
theorem dt_rd {kvs : List (List Key × V)} (kin : K.In h) (ok : HOk P w K H h) (e : Rd H a (.dT kvs)) : kvs.length ≤ sizeLine ∧ (a == sysModules) = false ∧
    ∃ xs, KT K H kvs xs ∧ h.DictOfH (tupleKind (mixKindB P w)) a xs := let ⟨z, y, xs, r, q⟩ := dt_e kin ok e; ⟨z, y, xs, r, q.of⟩
end
def DGet (K : PySem.W.Frag) (H : Hp) (a : Addr) (y : V) (r : Option V) : Prop :=
  (∃ kvs k, Rd H a (.dK kvs) ∧ y = kV k ∧ r = valV kvs k) ∨ ∃ kvs k b, Rd H a (.dT kvs) ∧ y = .ref b ∧ CKey K H b k ∧ r = valV kvs k
def DPut (K : PySem.W.Frag) (H : Hp) (a : Addr) (y v : V) (H' : Hp) : Prop :=
  (∃ kvs k, H a = some (.dK kvs) ∧ y = kV k ∧ kvs.length < sizeLine ∧ H' = upd H a (.dK (putK kvs k v))) ∨
  ∃ kvs k b, H a = some (.dT kvs) ∧ y = .ref b ∧ CKey K H b k ∧ kvs.length < sizeLine ∧ H' = upd H a (.dT (putK kvs k v))
theorem DGet.k {K : PySem.W.Frag} {H : Hp} {a : Addr} {kvs : List (Key × V)} {k : Key} (e : H a = some (.dK kvs)) : DGet K H a (kV k) (valV kvs k) := .inl ⟨kvs, k, .inl e, rfl, rfl⟩
theorem DGet.t {K : PySem.W.Frag} {H : Hp} {a b : Addr} {kvs : List (List Key × V)} {k : List Key} (e : H a = some (.dT kvs)) (eb : CKey K H b k) : DGet K H a (.ref b) (valV kvs k) := .inr ⟨kvs, k, b, .inl e, rfl, eb, rfl⟩
theorem DPut.k {K : PySem.W.Frag} {H : Hp} {a : Addr} {kvs : List (Key × V)} {k : Key} {v : V} (e : H a = some (.dK kvs)) (hl : kvs.length < sizeLine) : DPut K H a (kV k) v (upd H a (.dK (putK kvs k v))) := .inl ⟨kvs, k, e, rfl, hl, rfl⟩
theorem DPut.t {K : PySem.W.Frag} {H : Hp} {a b : Addr} {kvs : List (List Key × V)} {k : List Key} {v : V} (e : H a = some (.dT kvs)) (eb : CKey K H b k) (hl : kvs.length < sizeLine) :
    DPut K H a (.ref b) v (upd H a (.dT (putK kvs k v))) := .inr ⟨kvs, k, b, e, rfl, eb, hl, rfl⟩
section
variable {X : Cx} {pins : List (Addr × Obj)} {σ : St} {H : Hp} {s : Shared} {a : Addr} {y v : V} {u r : Value} {o : Option V} {A : Around} {E : Value → Shared → Prop}
theorem Inv.big (I : Inv X pins σ H s) : sysModules < s.heap.objs.size := by
  have h : mainGlobals < s.heap.objs.size := (I.mod.glob.keeps I.bk).lt
  exact Nat.lt_trans (by decide) h
theorem d_getItem {Q : Value → Shared → Prop} (hu : A.units + 1 < cLine) (I : Inv X pins σ H s) (g : DGet X.K H a y (some v)) (ry : RelV y u) (h : ∀ w' s', Inv X pins σ H s' → RelV v w' → Q w' s') :
    wpAny (model X.prog X.w) A (getItem (.ref a) u) Q E s := by
  rcases g with ⟨kvs, k, e, ey, l⟩ | ⟨kvs, k, b, e, ey, eb, l⟩
  · subst ey
    obtain ⟨z, hd, vs, rel, dd⟩ := dk_rd I.hok e
    obtain ⟨w', hw, rw'⟩ := RelO.some_of (v := v) (o := valueAt vs k) (by rw [l]; exact rel.val k)
    exact wpAny_getItem_of (kV_is ry) dd.mapOf hw (h w' _ (I.tok _) rw')
  · subst ey
    cases (show u = Value.ref b from ry)
    obtain ⟨z, hd, xs, rel, dd⟩ := dt_rd I.kIn I.hok e
    obtain ⟨w', hw, rw'⟩ := RelO.some_of (v := v) (o := (atKey xs k).map (·.2)) (by rw [l]; exact rel.val k)
    obtain ⟨p, hp, hp2⟩ := Option.map_eq_some_iff.mp hw
    refine wpAny_getItem_heap (tupleKind_room_in1 hu) (key_ofC I.kIn I.hok eb) dd hp ?_
    rw [hp2]
    exact h w' _ (I.tok _) rw'
theorem d_in {Q : Value → Shared → Prop} (hu : A.units + 1 < cLine) (I : Inv X pins σ H s) (g : DGet X.K H a y o) (ry : RelV y u) (h : ∀ s', Inv X pins σ H s' → Q (.bool o.isSome) s') :
    wpAny (model X.prog X.w) A (compareOp .In u (.ref a)) Q E s := by
  rcases g with ⟨kvs, k, e, ey, l⟩ | ⟨kvs, k, b, e, ey, eb, l⟩
  · subst ey
    obtain ⟨z, hd, vs, rel, dd⟩ := dk_rd I.hok e
    refine wpAny_in_of (kV_is ry) hd dd.mapOf ?_
    rw [← (rel.val k).isSome_eq, ← l]
    exact h _ (I.tok _)
  · subst ey
    cases (show u = Value.ref b from ry)
    obtain ⟨z, hd, xs, rel, dd⟩ := dt_rd I.kIn I.hok e
    refine wpAny_in_heap (tupleKind_room_in1 hu) (key_ofC I.kIn I.hok eb) hd dd ?_
    have q := (rel.val k).isSome_eq
    rw [Option.isSome_map] at q
    rw [← q, ← l]
    exact h _ (I.tok _)
theorem d_notIn {Q : Value → Shared → Prop} (hu : A.units + 1 < cLine) (I : Inv X pins σ H s) (g : DGet X.K H a y o) (ry : RelV y u) (h : ∀ s', Inv X pins σ H s' → Q (.bool (!o.isSome)) s') :
    wpAny (model X.prog X.w) A (compareOp .NotIn u (.ref a)) Q E s := by
  rcases g with ⟨kvs, k, e, ey, l⟩ | ⟨kvs, k, b, e, ey, eb, l⟩
  · subst ey
    obtain ⟨z, hd, vs, rel, dd⟩ := dk_rd I.hok e
    refine wpAny_notIn_of (kV_is ry) hd dd.mapOf ?_
    rw [← (rel.val k).isSome_eq, ← l]
    exact h _ (I.tok _)
  · subst ey
    cases (show u = Value.ref b from ry)
    obtain ⟨z, hd, xs, rel, dd⟩ := dt_rd I.kIn I.hok e
    refine wpAny_notIn_heap (tupleKind_room_in1 hu) (key_ofC I.kIn I.hok eb) hd dd ?_
    have q := (rel.val k).isSome_eq
    rw [Option.isSome_map] at q
    rw [← q, ← l]
    exact h _ (I.tok _)
theorem d_write {h' : Heap} {t' : Nat} {ob : HO} (I : Inv X pins σ H s) (mu : Mut (H a)) (hs : Heap.SameBut a s.heap h') (he : ∃ q, h'.get? a = some q) (new : ObjOk X.prog X.w X.K (upd H a ob) h' a ob) :
    Inv X pins σ (upd H a ob) { s with heap := h', toks := t' } :=
  I.write (x := a) (e := a) mu (.inl rfl) (fun b q hb z => (hs.2 b hb).trans z) he new
theorem dk_new {K : PySem.W.Frag} {P : Program} {w : World} {H' : Hp} {h' : Heap} {kvs : List (Key × V)} {vs : List (Key × Value)} (z : kvs.length ≤ sizeLine) (hd : (a == sysModules) = false) (rel : KV kvs vs) (dd : h'.DictOf (mixKind P w) a vs) :
    ObjOk P w K H' h' a (.dK kvs) := ⟨z, hd, vs, rel, dd⟩
theorem d_setItem {H' : Hp} {Q : Unit → Shared → Prop} (hu : A.units + 1 < cLine) (I : Inv X pins σ H s) (g : DPut X.K H a y v H') (ry : RelV y u) (rv : RelV v r) (h : ∀ s', Inv X pins σ H' s' → Q () s') :
    wpAny (model X.prog X.w) A (setItem (.ref a) u r) Q E s := by
  rcases g with ⟨kvs, k, e, ey, l, eH⟩ | ⟨kvs, k, b, e, ey, eb, l, eH⟩
  · subst ey eH
    obtain ⟨z, hd, vs, rel, dd⟩ := dk_of I.hok e
    have hz : vs.length ≤ sizeLine := by rw [← rel.length]; exact z
    have hl : (putK kvs k v).length ≤ sizeLine := by have := length_putK kvs k v; omega
    refine wpAny_setItem_pairs (hsz := hz) (kV_is ry) dd fun h' dd' hs => h _ ?_
    have he : ∃ q, h'.get? a = some q := let ⟨q, _, _, hq, _⟩ := dd'; ⟨q, hq⟩
    exact d_write I (by rw [e]; exact True.intro) hs he (dk_new hl hd (rel.put k rv) dd')
  · subst ey eH
    cases (show u = Value.ref b from ry)
    obtain ⟨z, hd, xs, rel, dd⟩ := dt_e I.kIn I.hok (.inl e)
    have hz : xs.length ≤ sizeLine := by rw [← Paired.length rel]; exact z
    have hl : (putK kvs k v).length ≤ sizeLine := by have := length_putK kvs k v; omega
    refine setItemE (tupleKind_room_in1 hu) (key_ofC I.kIn I.hok eb) dd hz fun h' dd' hs => h _ ?_
    obtain ⟨q, es, hq, h2, h3, h4, _, h5⟩ := dd'
    refine d_write I (by rw [e]; exact True.intro) hs ⟨q, hq⟩ ⟨hl, hd, _, (rel.put k eb rv).keeps fun c ys ec => ?_, q, es, _, hq, h2, h3, h4, h5, rfl⟩
    rw [upd_ne (ne_of ec e (fun z => nomatch z))]
    exact ec
end
section
variable {X : Cx} {pins : List (Addr × Obj)} {σ : St} {H : Hp} {s : Shared} {a : Addr} {kvs : List (Key × V)} {k : Key} {u : Value} {A : Around} {E : Value → Shared → Prop}
theorem d_len {Q : Value → Shared → Prop} (I : Inv X pins σ H s) (e : Rd H a (.dK kvs)) (h : ∀ t s', Inv X pins σ H s' → Q (.int kvs.length t) s') : wpAny (model X.prog X.w) A (call (.builtin "len") [.ref a]) Q E s := by
  obtain ⟨z, hd, vs, rel, dd⟩ := dk_rd I.hok e
  refine call_len_dict hd dd (by rw [← rel.length]; rw [sizeLine_eq] at z; omega) ?_
  rw [← rel.length]
  exact h _ _ (I.tok _)
end
def NoSl (i : Expr) : Prop := ∀ ov iv, subscripted i false ov iv = operate [ov, iv] (getItem ov iv)
theorem subD_of {prog : Program} {w : World} {A : Around} {E : Value → Shared → Prop} {s : Shared} {env : Env} {value slice : Expr} {pos : Pos} {T id : String} {Q : Value → Shared → Prop}
    (hl : typeLookup (.type T) "__getitem__" = pure (some (.builtin id))) (hs : NoSl slice)
    (h : wpAny (model prog w) A (eval value env) (fun o s₁ => wpAny (model prog w) A (eval slice env) (fun i s₂ => s₂.TypeIs o T ∧ wpAny (model prog w) A (getItem o i) Q E s₂) E s₁) E s) :
    wpAny (model prog w) A (eval (.Subscript value slice pos) env) Q E s := by
  refine Subscript_ (wpAny_mono h (fun o s₁ h₁ => wpAny_mono h₁ (fun i s₂ h₂ => ?_) fun _ _ x => x) fun _ _ x => x)
  obtain ⟨hT, h₂⟩ := h₂
  unfold subscriptTail
  refine wpAny_bind ?_
  rw [getitemInPython_of_ne hT.not_modules]
  refine wpAny_bind (wpAny_specialOf hT hl ?_)
  have fin : wpAny (model prog w) A (subscripted slice false o i) (fun r s₃ => wpAny (model prog w) A (letTemporaryGo value o r >>= fun _ => pure r) Q E s₃) E s₂ := by
    rw [hs o i]
    exact wpAny_operating (wpAny_mono h₂ (fun r s₃ h₃ => wpAny_bind (wpAny_letTemporaryGo (wpAny_pure h₃))) fun _ _ x => x)
  first
    | exact wpAny_pure (wpAny_bind fin)
    | exact wpAny_bind (wpAny_pure (wpAny_bind fin))
    | exact wpAny_bind fin
theorem dict_typeIs {X : Cx} {pins : List (Addr × Obj)} {σ : St} {H : Hp} {s : Shared} {a : Addr} {y : V} {o : Option V} (I : Inv X pins σ H s) (g : DGet X.K H a y o) : s.TypeIs (.ref a) "dict" := by
  rcases g with ⟨kvs, k, e, _, _⟩ | ⟨kvs, k, b, e, _, _, _⟩
  · obtain ⟨_, _, vs, _, dd⟩ := dk_rd I.hok e
    exact dd.typeIs
  · obtain ⟨_, _, xs, _, dd⟩ := dt_rd I.kIn I.hok e
    exact dd.typeIs
def tDGet (K : PySem.W.Frag) (td ty : TE) : TE := fun σ H Q => td σ H fun x H1 => ty σ H1 fun y H2 => ∃ a v, x = .ref a ∧ DGet K H2 a y (some v) ∧ Q v H2
def sDPut (K : PySem.W.Frag) (td ty tv : TE) : TS := fun D σ H => tv σ H fun v H1 => td σ H1 fun x H2 => ty σ H2 fun y H3 => ∃ a H4, x = .ref a ∧ DPut K H3 a y v H4 ∧ D.nx σ H4
section
variable {X : Cx} {o i e value : Expr} {pos pos' tpos : Pos} {td ty tv : TE}
theorem pe_dget (hu : X.A.units + 1 < cLine) (ho : PE X o td) (hi : PE X i ty) (hs : NoSl i) : PE X (.Subscript o i pos) (tDGet X.K td ty) := by
  intro pins s σ H Q I h
  refine subD_of PySem.F.slot_dict_getitem.lookup hs (thn (ho pins s σ H _ I h) fun u s1 ⟨x, H1, I1, rx, q1⟩ => thn (hi pins s1 σ H1 _ I1 q1) fun iv s2 ⟨y, H2, I2, ry, a, v, ex, g, q2⟩ => ?_)
  subst ex
  obtain rfl : u = Value.ref a := rx
  exact ⟨dict_typeIs I2 g, d_getItem hu I2 g ry fun w' s3 I3 rw' => ⟨v, H2, I3, rw', q2⟩⟩
theorem ps_dput (hu : X.A.units + 1 < cLine) (ho : PE X o td) (hi : PE X i ty) (hv : PE X value tv) (hs : swapsWith value (some (.Subscript o i pos')) pos.line X.env = pure false) :
    PS X (.Assign [.Subscript o i pos'] value pos) (sDPut X.K td ty tv) := by
  intro pins s σ H D I h
  refine wpAny_Assign_Subscript (thn (hv pins s σ H _ I h) fun r s1 ⟨v, H1, I1, rv, q1⟩ => thn (ho pins s1 σ H1 _ I1 q1) fun u s2 ⟨x, H2, I2, rx, q2⟩ => thn (hi pins s2 σ H2 _ I2 q2) fun iv s3 ⟨y, H3, I3, ry, a, H4, ex, g, q3⟩ => ?_) hs
  subst ex
  obtain rfl : u = Value.ref a := rx
  exact d_setItem hu I3 g ry rv fun s4 I4 => ⟨σ, H4, I4, q3⟩
end
theorem dk_empty {P : Program} {w : World} {K : PySem.W.Frag} {H : Hp} (h : Heap) (hb : sysModules < h.objs.size) : ObjOk P w K H (h.push { cls := .type "dict", data := .dict #[] }) h.objs.size (.dK []) :=
  ⟨Nat.zero_le _, beq_eq_false_iff_ne.mpr (Ne.symm (Nat.ne_of_lt hb)), [], .nil, Heap.DictOf.new h⟩
theorem dt_empty {P : Program} {w : World} {K : PySem.W.Frag} {H : Hp} (h : Heap) (hb : sysModules < h.objs.size) : ObjOk P w K H (h.push { cls := .type "dict", data := .dict #[] }) h.objs.size (.dT []) :=
  ⟨Nat.zero_le _, beq_eq_false_iff_ne.mpr (Ne.symm (Nat.ne_of_lt hb)), [], .nil, _, #[], 0, Heap.get?_push_size _ rfl, ⟨rfl, rfl, rfl⟩, rfl, rfl, List.nodup_nil, rfl⟩
def tDNewK : TE := fun _ H Q => ∀ p, H p = none → Q (.ref p) (upd H p (.dK []))
def tDNewT : TE := fun _ H Q => ∀ p, H p = none → Q (.ref p) (upd H p (.dT []))
section
variable {X : Cx} {pos : Pos}
theorem pe_dnewK : PE X (.Dict [] [] pos) tDNewK := fun pins s σ H Q I h =>
  wpAny_Dict_empty ⟨.ref s.heap.objs.size, _, I.laid (a := s.heap.objs.size) (o := .dK []) (t' := s.toks) (fun _ _ q => Heap.get?_push_of_some _ q) (Nat.le_refl _) (dk_empty s.heap I.big), rfl, h _ (I.hok.fresh (Nat.le_refl _))⟩
theorem pe_dnewT : PE X (.Dict [] [] pos) tDNewT := fun pins s σ H Q I h =>
  wpAny_Dict_empty ⟨.ref s.heap.objs.size, _, I.laid (a := s.heap.objs.size) (o := .dT []) (t' := s.toks) (fun _ _ q => Heap.get?_push_of_some _ q) (Nat.le_refl _) (dt_empty s.heap I.big), rfl, h _ (I.hok.fresh (Nat.le_refl _))⟩
end
section
variable {X : Cx} {pins : List (Addr × Obj)} {σ : St} {H : Hp} {s : Shared} {a : Addr} {y d : V} {u r : Value} {o : Option V} {A : Around} {E : Value → Shared → Prop}
end
section
variable {X : Cx} {o e f : Expr} {apos cpos : Pos} {td ty tx : TE}
end
section
variable {X : Cx} {pins : List (Addr × Obj)} {σ : St} {H : Hp} {s : Shared} {a : Addr} {kvs : List (Key × V)} {A : Around} {E : Value → Shared → Prop}
end
section
variable {X : Cx} {pins : List (Addr × Obj)} {σ : St} {H : Hp} {s : Shared} {a : Addr} {y : V} {u : Value} {A : Around} {E : Value → Shared → Prop}
end
end L2
namespace HT
open PySem PyProof.Rows
section
open PySem.SeqAt
open PySem.AutoSeq1 (wpAny_loadPart')
open PySem.MeetsSeq PySem.MeetsSeq2 PySem.MeetsSeq3
end
section
variable {prog : Program} {w : World} {A : Around} {E : Value → Shared → Prop} {s : Shared}
theorem cat_tup {t b : Addr} {vs ws : List Value} {Q : Value → Shared → Prop} (ht : IsTup s.heap t vs.toArray) (hb : IsTup s.heap b ws.toArray) (hv : vs ≠ [])
    (h1 : ws = [] → Q (.ref t) s) (h2 : ws ≠ [] → Q (.ref s.heap.objs.size) { s with heap := s.heap.push { cls := .type "tuple", data := .seq (vs ++ ws).toArray } })
    (hsz : vs.length + ws.length ≤ sizeLine) : wpAny (model prog w) A (binaryOp .Add (.ref t) (.ref b)) Q E s := by
  obtain ⟨⟨cls, dd, data, sl⟩, ho, hc, n, hd⟩ := id ht
  obtain ⟨⟨cls2, dd2, data2, sl2⟩, ho2, hc2, n2, hd2⟩ := id hb
  simp only at hc hd hc2 hd2
  subst hc hd hc2 hd2
  have e : vs.toArray ++ ws.toArray = (vs ++ ws).toArray := by simp
  by_cases hw : ws = []
  · exact concat_meets ⟨_, ho, rfl⟩ ⟨_, ho2, rfl⟩ noFill_tuple_add seq_tuple_add PySem.F.slot_tuple_add PySem.F.entry_tuple_add (PySem.F.args_tuple_add_2 _ _)
      (tuple_addW1 t b vs.toArray ws.toArray n n2 dd dd2 sl sl2 (by simpa using hv) (by simp [hw])) ⟨ho, ho2, h1 hw⟩
  · refine concat_meets ⟨_, ho, rfl⟩ ⟨_, ho2, rfl⟩ noFill_tuple_add seq_tuple_add PySem.F.slot_tuple_add PySem.F.entry_tuple_add (PySem.F.args_tuple_add_2 _ _)
      (tuple_addW2 t b vs.toArray ws.toArray n n2 dd dd2 sl sl2 (by simpa using hv) (by simpa using hw) (by rw [List.size_toArray, List.size_toArray]; exact hsz)) ⟨ho, ho2, ?_⟩
    rw [e]
    exact h2 hw
def sIx (n d : Nat) : Option Int → Nat
  | none => d
  | some v => if v < 0 then (v + (n : Int)).toNat else min v.toNat n
theorem sIx_none (n d : Nat) : sIx n d none = d := rfl
theorem sIx_nat (n d k : Nat) : sIx n d (some (k : Int)) = min k n := by
  show (if (k : Int) < 0 then ((k : Int) + (n : Int)).toNat else min (k : Int).toNat n) = min k n
  rw [if_neg (by omega), Int.toNat_natCast]
theorem sIx_le (n d : Nat) (hd : d ≤ n) (o : Option Int) : sIx n d o ≤ n := by
  cases o with
  | none => exact hd
  | some v =>
    show (if v < 0 then (v + (n : Int)).toNat else min v.toNat n) ≤ n
    by_cases hv : v < 0
    · rw [if_pos hv]; omega
    · rw [if_neg hv]; exact Nat.min_le_right _ _
theorem clip_eq (v : Int) (n d : Nat) : (if v < 0 then max (v + (n : Int)) 0 else min v (n : Int)) = ((sIx n d (some v) : Nat) : Int) := by
  show (if v < 0 then max (v + (n : Int)) 0 else min v (n : Int)) = (((if v < 0 then (v + (n : Int)).toNat else min v.toNat n) : Nat) : Int)
  by_cases hv : v < 0
  · simp only [if_pos hv]; omega
  · simp only [if_neg hv]; omega
theorem adjust_gen (lo hi : Option Int) (n : Nat) : Builtin.Slice.sliceAdjust lo hi 1 (n : Int) = (((sIx n 0 lo : Nat) : Int), ((sIx n n hi : Nat) : Int)) := by
  have h1 : ¬ ((1 : Int) < 0) := by omega
  unfold Builtin.Slice.sliceAdjust
  simp only [h1, if_false]
  refine Prod.ext ?_ ?_
  · cases lo with
    | none => rfl
    | some v => exact clip_eq v n 0
  · cases hi with
    | none => rfl
    | some v => exact clip_eq v n n
theorem places_gen (i j : Nat) : Builtin.Slice.slicePlaces (i : Int) (j : Int) 1 = j - i := by
  unfold Builtin.Slice.slicePlaces
  have h1 : (1 : Int) > 0 := by omega
  simp only [h1, if_true, Int.ediv_one]
  split <;> omega
theorem slicePart_ {v : Value} {o : Option Int} {Q : Option Int → Shared → Prop} (p : IsPart v o) (h : Q o s) : wpAny (model prog w) A (Builtin.Slice.slicePartIndex v) Q E s := by
  cases p with
  | none => exact slicePart_none h
  | int i t => exact slicePart_int h
theorem sliceApplied_gen {sl : Addr} {vl vu : Value} {lo hi : Option Int} {n : Nat} {Q : Int × Int × Nat → Shared → Prop} (hs : s.heap.IsSliceOf sl vl vu .none) (pl : IsPart vl lo) (pu : IsPart vu hi)
    (h : Q (((sIx n 0 lo : Nat) : Int), 1, sIx n n hi - sIx n 0 lo) s) : wpAny (model prog w) A (Builtin.Slice.sliceApplied (.ref sl) (pure (n : Int))) Q E s := by
  obtain ⟨os, hos, hcs, hds⟩ := id hs
  unfold Builtin.Slice.sliceApplied Builtin.Slice.sliceFields
  refine wpAny_bind (wpAny_bind (wpAny_field hos hds (x := vl) rfl (wpAny_bind (wpAny_field hos hds (x := vu) rfl (wpAny_bind (wpAny_field hos hds (x := .none) rfl (wpAny_pure ?_)))))))
  refine wpAny_bind (slicePart_none ?_)
  show wpAny _ _ (if ((1 : Int) == 0) = true then _ else _) _ _ s
  rw [if_neg (by decide)]
  refine wpAny_bind (slicePart_ pl (wpAny_bind (slicePart_ pu (wpAny_bind (wpAny_pure ?_)))))
  show wpAny _ _ (match Builtin.Slice.sliceAdjust lo hi 1 (n : Int) with | (lo, hi) => pure (lo, (1 : Int), Builtin.Slice.slicePlaces lo hi 1)) _ _ s
  rw [adjust_gen lo hi n]
  show wpAny _ _ (pure (((sIx n 0 lo : Nat) : Int), (1 : Int), Builtin.Slice.slicePlaces ((sIx n 0 lo : Nat) : Int) ((sIx n n hi : Nat) : Int) 1)) _ _ s
  rw [places_gen]
  exact wpAny_pure h
theorem pick_gen (xs : Array Value) (i k : Nat) : ((List.range k).filterMap fun (m : Nat) => xs[((i : Int) + (m : Int) * 1).toNat]?).toArray = ((xs.toList.drop i).take k).toArray := by
  have e : (fun (m : Nat) => xs[((i : Int) + (m : Int) * 1).toNat]?) = fun m => xs[i + m]? := by
    funext m
    have : ((i : Int) + (m : Int) * 1).toNat = i + m := by omega
    rw [this]
  rw [e]
  have := pick_run xs i k
  rw [List.filterMap_map] at this
  have e2 : ((fun x => xs[x]?) ∘ fun x => i + x) = fun m => xs[i + m]? := rfl
  rw [e2] at this
  rw [this]
theorem getItem_tuple_cut {t sl : Addr} {items : Array Value} {vl vu : Value} {lo hi : Option Int} {Q : Value → Shared → Prop} (ht : IsTup s.heap t items) (hs : s.heap.IsSliceOf sl vl vu .none) (pl : IsPart vl lo) (pu : IsPart vu hi)
    (hw : ¬ (sIx items.size 0 lo = 0 ∧ sIx items.size items.size hi = items.size))
    (h : Q (.ref s.heap.objs.size) { s with heap := s.heap.push { cls := .type "tuple", data := .seq ((items.toList.drop (sIx items.size 0 lo)).take (sIx items.size items.size hi - sIx items.size 0 lo)).toArray } })
    (hsz : items.size ≤ sizeLine) : wpAny (model prog w) A (getItem (.ref t) (.ref sl)) Q E s := by
  have htake : sizeOk (.seq ((items.toList.drop (sIx items.size 0 lo)).take (sIx items.size items.size hi - sIx items.size 0 lo)).toArray) := by
    show ((items.toList.drop (sIx items.size 0 lo)).take (sIx items.size items.size hi - sIx items.size 0 lo)).toArray.size ≤ sizeLine
    rw [List.size_toArray, List.length_take, List.length_drop, Array.length_toList]
    omega
  have hj : sIx items.size items.size hi ≤ items.size := sIx_le _ _ (Nat.le_refl _) hi
  obtain ⟨os, hos, hcs, hds⟩ := id hs
  have hTs : s.TypeIs (.ref sl) "slice" := ⟨os, hos, hcs⟩
  unfold getItem
  try with_reducible refine wpAny_holding ?_
  first | refine wpAny_bind (wpAny_pure ?_) | skip
  refine wpAny_bind (wpAny_sequenceKey ht.typeIs (by decide) ?_)
  refine wpAny_bind (wpAny_callSpecial?_slot (name := Str.ofString "__getitem__") ht.typeIs PyProof.Rows.slot_tuple_getitem
    (wpAny_call_entry PyProof.Rows.slot_tuple_getitem ht.typeIs entry_tuple_getitem ?_ (args_tuple_getitem _ _)))
  show wpAny _ _ (Builtin.Tuple.tupleItemsOf (.ref t) >>= _) _ _ s
  refine wpAny_bind (tupleItemsOf_ ht ?_)
  refine wpAny_bind (wpAny_typeOf hTs ?_)
  rw [if_pos (by decide)]
  refine wpAny_bind (sliceApplied_gen hs pl pu ?_)
  have hno : ¬ ((((sIx items.size 0 lo : Nat) : Int) == 0 && (1 : Int) == 1 && (sIx items.size items.size hi - sIx items.size 0 lo) == items.size) = true) := by
    intro q
    rw [Bool.and_eq_true, Bool.and_eq_true] at q
    have q1 : ((sIx items.size 0 lo : Nat) : Int) = 0 := eq_of_beq q.1.1
    have q2 : sIx items.size items.size hi - sIx items.size 0 lo = items.size := eq_of_beq q.2
    exact hw ⟨by omega, by omega⟩
  show wpAny _ _ (if (((sIx items.size 0 lo : Nat) : Int) == 0 && (1 : Int) == 1 && (sIx items.size items.size hi - sIx items.size 0 lo) == items.size) = true then _ else _) _ _ s
  rw [if_neg hno, pick_gen]
  first
    | exact wpAny_bind (m := Builtin.Tuple.tupleExact _) (wpAny_newObj_type (wpAny_pure ⟨_, rfl, wpAny_pure h⟩) htake)
    | exact wpAny_bind (m := Builtin.Tuple.tupleExact _) (wpAny_newObj_type (wpAny_bind (wpAny_pure (wpAny_pure ⟨_, rfl, wpAny_pure h⟩))) htake)
    | exact wpAny_bind (wpAny_bind (m := Builtin.Tuple.tupleExact _) (wpAny_newObj_type (wpAny_pure (wpAny_pure ⟨_, rfl, wpAny_pure h⟩)) htake))
    | exact wpAny_bind (wpAny_bind (m := Builtin.Tuple.tupleExact _) (wpAny_newObj_type (wpAny_pure ⟨_, rfl, wpAny_pure h⟩) htake))
end
end HT
namespace L2
open PySem PySem.Spec PyProof.Rows
abbrev TO := St → Hp → (Option Int → Hp → Prop) → Prop
def PO (X : Cx) (e : Option Expr) (t : TO) : Prop :=
  ∀ (pins : List (Addr × Obj)) (s : Shared) (σ : St) (H : Hp) (Q : Option Int → Hp → Prop), Inv X pins σ H s → t σ H Q →
    wpAny (model X.prog X.w) X.A (evalPart e X.env) (fun u s' => ∃ o H', Inv X pins σ H' s' ∧ IsPart u o ∧ Q o H') X.xe s
def tNoPart : TO := fun _ H Q => Q none H
def tPart (t : TE) : TO := fun σ H Q => t σ H fun x H1 => ∃ i, x = .int i ∧ Q (some i) H1
section
variable {X : Cx} {e : Expr} {te : TE} {lo hi : Option Expr} {tl th : TO} {pos p2 : Pos}
theorem po_none : PO X none tNoPart := by
  intro pins s σ H Q I h
  rw [evalPart_none]
  exact wpAny_pure ⟨none, H, I, .none, h⟩
theorem po_some (h : PE X e te) : PO X (some e) (tPart te) := by
  intro pins s σ H Q I hw
  rw [evalPart_some]
  refine thn (h pins s σ H _ I hw) fun u s1 ⟨x, H1, I1, r1, q1⟩ => ?_
  obtain ⟨i, rfl, q⟩ := q1
  obtain ⟨t, rfl⟩ := r1
  exact ⟨some i, H1, I1, .int i t, q⟩
def SlR (X : Cx) (r : V → Option Int → Option Int → Hp → VK → Prop) : Prop :=
  ∀ (pins : List (Addr × Obj)) (s : Shared) (σ : St) (H : Hp) (x : V) (v vl vu : Value) (lo hi : Option Int) (sl : Addr) (Q : VK), Inv X pins σ H s → RelV x v → s.heap.IsSliceOf sl vl vu .none → IsPart vl lo → IsPart vu hi → r x lo hi H Q →
    ∃ T id, typeLookup (.type T) "__getitem__" = pure (some (.builtin id)) ∧ s.TypeIs v T ∧ wpAny (model X.prog X.w) X.A (getItem v (.ref sl)) (EP X pins σ Q) X.xe s
theorem SlR.or {r r' : V → Option Int → Option Int → Hp → VK → Prop} (h : SlR X r) (h' : SlR X r') : SlR X (fun x lo hi H Q => r x lo hi H Q ∨ r' x lo hi H Q) := by
  intro pins s σ H x v vl vu lo hi sl Q I rx hs pl pu q
  rcases q with q | q
  · exact h pins s σ H x v vl vu lo hi sl Q I rx hs pl pu q
  · exact h' pins s σ H x v vl vu lo hi sl Q I rx hs pl pu q
def tSl (r : V → Option Int → Option Int → Hp → VK → Prop) (te : TE) (tl th : TO) : TE := fun σ H Q => te σ H fun x H1 => tl σ H1 fun l H2 => th σ H2 fun u H3 => r x l u H3 Q
theorem pe_slice {r : V → Option Int → Option Int → Hp → VK → Prop} (hr : SlR X r) (he : PE X e te) (hl : PO X lo tl) (hu : PO X hi th) : PE X (.Subscript e (.Slice lo hi none p2) pos) (tSl r te tl th) := by
  intro pins s σ H Q I h
  refine Subscript_ (thn (he pins s σ H _ I h) fun v s1 ⟨x, H1, I1, r1, q1⟩ => ?_)
  refine wpAny_Slice (thn (hl pins s1 σ H1 _ I1 q1) fun vl s2 ⟨l, H2, I2, pl, q2⟩ => thn (hu pins s2 σ H2 _ I2 q2) fun vu s3 ⟨u, H3, I3, pu, q3⟩ => ?_)
  rw [evalPart_none]
  refine wpAny_pure ?_
  have I4 : Inv X pins σ H3 { s3 with heap := s3.heap.push { cls := .type "slice", data := .fields #[vl, vu, .none] } } := I3.kept (t' := s3.toks) fun b ob q => Heap.get?_push_of_some _ q
  obtain ⟨T, id, hT, ht, hg⟩ := hr pins { s3 with heap := s3.heap.push { cls := .type "slice", data := .fields #[vl, vu, .none] } } σ H3 x v vl vu l u s3.heap.objs.size Q I4 r1 (Heap.IsSliceOf.new ..) pl pu q3
  show wpAny (model X.prog X.w) X.A (subscriptTail e (.Slice lo hi none p2) v (.ref s3.heap.objs.size)) (EP X pins σ Q) X.xe { s3 with heap := s3.heap.push { cls := .type "slice", data := .fields #[vl, vu, .none] } }
  exact tail_any (ops := [.ref s3.heap.objs.size, v]) ht hT hg (by with_unfolding_all rfl)
def cutV (xs : List V) (lo hi : Option Int) : List V := (xs.drop (HT.sIx xs.length 0 lo)).take (HT.sIx xs.length xs.length hi - HT.sIx xs.length 0 lo)
theorem cutV_length (xs : List V) (lo hi : Option Int) : (cutV xs lo hi).length ≤ xs.length := by
  unfold cutV
  rw [List.length_take, List.length_drop]
  omega
def rSlT (K : PySem.W.Frag) : V → Option Int → Option Int → Hp → VK → Prop := fun x lo hi H Q => ∃ a xs, x = .ref a ∧ SqT K H a xs ∧
  ¬ (HT.sIx xs.length 0 lo = 0 ∧ HT.sIx xs.length xs.length hi = xs.length) ∧ ∀ p, H p = none → Q (.ref p) (upd H p (.tup (cutV xs lo hi)))
theorem sl_tup : SlR X (rSlT X.K) := by
  intro pins s σ H x v vl vu lo hi sl Q I rx hs pl pu h
  obtain ⟨a, xs, rfl, hx, hw, q⟩ := h
  cases rx
  obtain ⟨its, r, ht, hz⟩ := I.tuple hx
  have hlen : its.toArray.size = xs.length := by rw [List.size_toArray]; exact r.length.symm
  refine ⟨"tuple", _, PyProof.Rows.slot_tuple_getitem.lookup, ht.typeIs, ?_⟩
  refine HT.getItem_tuple_cut ht hs pl pu (by rw [hlen]; exact hw) ?_ (by rw [hlen]; exact hz)
  rw [hlen]
  refine ⟨.ref s.heap.objs.size, _, I.laid (t' := s.toks) (o := .tup (cutV xs lo hi)) (fun b ob q => Heap.get?_push_of_some _ q) (Nat.le_refl _) ?_, rfl, q _ (I.hok.fresh (Nat.le_refl _))⟩
  exact ⟨Nat.le_trans (cutV_length xs lo hi) hz, _, (r.drop (HT.sIx xs.length 0 lo)).take (HT.sIx xs.length xs.length hi - HT.sIx xs.length 0 lo), IsTup.new _ _⟩
def rCatT (K : PySem.W.Frag) : R2 := fun x y H Q => ∃ a b xs ys, x = .ref a ∧ y = .ref b ∧ SqT K H a xs ∧ SqT K H b ys ∧ xs ≠ [] ∧ xs.length + ys.length ≤ sizeLine ∧
  (ys = [] → Q (.ref a) H) ∧ (ys ≠ [] → ∀ p, H p = none → Q (.ref p) (upd H p (.tup (xs ++ ys))))
theorem Vals.nil_iff {xs : List V} {us : List Value} (r : Vals xs us) : us = [] ↔ xs = [] := by
  cases r with
  | nil => simp
  | cons _ _ => simp
theorem op_catT : OpR X (binaryOp .Add) (rCatT X.K) := by
  intro pins s σ H x y v u Q I rx ry h
  obtain ⟨a, b, xs, ys, rfl, rfl, ha, hb, hx, hz, q1, q2⟩ := h
  cases rx
  cases ry
  obtain ⟨its, r1, p1, _⟩ := I.tuple ha
  obtain ⟨its2, r2, p2, _⟩ := I.tuple hb
  refine HT.cat_tup p1 p2 (fun z => hx (r1.nil_iff.mp z)) (fun z => ⟨.ref a, H, I, rfl, q1 (r2.nil_iff.mp z)⟩) (fun z => ?_) (by rw [← r1.length, ← r2.length]; exact hz)
  refine ⟨.ref s.heap.objs.size, _, I.laid (t' := s.toks) (o := .tup (xs ++ ys)) (fun b ob q => Heap.get?_push_of_some _ q) (Nat.le_refl _) ?_, rfl, q2 (fun w => z (r2.nil_iff.mpr w)) _ (I.hok.fresh (Nat.le_refl _))⟩
  exact ⟨by rw [List.length_append]; exact hz, _, r1.append r2, IsTup.new _ _⟩
end
end L2
namespace L2
open PySem PySem.Spec PyProof.Rows
def ixN (n : Nat) (i : Int) : Option Nat := if 0 ≤ i then (if i < n then some i.toNat else none) else if -(n : Int) ≤ i then some (i + n).toNat else none
def atI {α : Type} (xs : List α) (i : Int) : Option α := (ixN xs.length i).bind fun j => xs[j]?
theorem ixN_seq {n : Nat} {i : Int} {j : Nat} (h : ixN n i = some j) : seqIndex? i n = some j ∧ j < n ∧ -(n : Int) ≤ i ∧ i < n := by
  unfold ixN at h
  by_cases h0 : 0 ≤ i
  · rw [if_pos h0] at h
    by_cases h1 : i < n
    · rw [if_pos h1] at h
      have e : i.toNat = j := Option.some.inj h
      exact ⟨by rw [seqIndex_of h0 h1, e], by omega, by omega, h1⟩
    · rw [if_neg h1] at h; cases h
  · rw [if_neg h0] at h
    by_cases h1 : -(n : Int) ≤ i
    · rw [if_pos h1] at h
      have e : (i + n).toNat = j := Option.some.inj h
      exact ⟨by rw [seqIndex_neg (by omega) h1, e], by omega, h1, by omega⟩
    · rw [if_neg h1] at h; cases h
theorem atI_get {α : Type} {xs : List α} {i : Int} {v : α} (h : atI xs i = some v) : ∃ j, seqIndex? i xs.length = some j ∧ xs[j]? = some v ∧ j < xs.length ∧ -(xs.length : Int) ≤ i ∧ i < xs.length := by
  unfold atI at h
  cases e : ixN xs.length i with
  | none => rw [e] at h; cases h
  | some j =>
    rw [e] at h
    obtain ⟨h1, h2, h3, h4⟩ := ixN_seq e
    exact ⟨j, h1, h, h2, h3, h4⟩
theorem atI_nat {α : Type} {xs : List α} {j : Nat} {v : α} (h : xs[j]? = some v) : atI xs (j : Int) = some v := by
  have hj : j < xs.length := (List.getElem?_eq_some_iff.mp h).1
  have e : ixN xs.length (j : Int) = some j := by
    unfold ixN
    rw [if_pos (by omega), if_pos (by omega)]; simp
  unfold atI; rw [e]; exact h
def PlainIx (b : Expr) : Prop := ∀ o i, subscripted b false o i = operate [o, i] (getItem o i)
def IxR (X : Cx) (r : R2) : Prop :=
  ∀ (value slice : Expr) (pins : List (Addr × Obj)) (s : Shared) (σ : St) (H : Hp) (x y : V) (v u : Value) (Q : VK), Inv X pins σ H s → RelV x v → RelV y u → r x y H Q →
    subscripted slice false v u = operate [v, u] (getItem v u) → wpAny (model X.prog X.w) X.A (subscriptTail value slice v u) (EP X pins σ Q) X.xe s
def MtR (X : Cx) (id : String) (r : V → List V → Hp → VK → Prop) : Prop :=
  ∀ (pins : List (Addr × Obj)) (s : Shared) (σ : St) (H : Hp) (x : V) (xs : List V) (v : Value) (us : List Value) (Q : VK), Inv X pins σ H s → RelV x v → Vals xs us → r x xs H Q →
    wpAny (model X.prog X.w) X.A (call (.builtin id) (v :: us)) (EP X pins σ Q) X.xe s
section
variable {X : Cx} {a b : Expr} {ta tb : TE} {pos : Pos}
theorem IxR.or {r r' : R2} (h : IxR X r) (h' : IxR X r') : IxR X (fun x y H Q => r x y H Q ∨ r' x y H Q) := by
  intro value slice pins s σ H x y v u Q I rx ry q hs
  rcases q with q | q
  · exact h value slice pins s σ H x y v u Q I rx ry q hs
  · exact h' value slice pins s σ H x y v u Q I rx ry q hs
theorem pe_ix {r : R2} (hr : IxR X r) (ha : PE X a ta) (hb : PE X b tb) (hs : PlainIx b) : PE X (.Subscript a b pos) (tOp r ta tb) := by
  intro pins s σ H Q I h
  exact Subscript_ (binT ha hb I h fun v u s2 x y H2 I2 rx ry q => hr a b pins s2 σ H2 x y v u Q I2 rx ry q (hs _ _))
def rIxL (K : PySem.W.Frag) : R2 := fun x y H Q => ∃ p xs i v, x = .ref p ∧ y = .int i ∧ SqL K H p xs ∧ atI xs i = some v ∧ Q v H
def rIxT (K : PySem.W.Frag) : R2 := fun x y H Q => ∃ p xs i v, x = .ref p ∧ y = .int i ∧ SqT K H p xs ∧ atI xs i = some v ∧ Q v H
def rIxS : R2 := fun x y H Q => ∃ z i c, x = .str z ∧ y = .int i ∧ z.length ≤ sizeLine ∧ atI z.cps.toList i = some c ∧ Q (.str ⟨#[c]⟩) H
theorem ix_list : IxR X (rIxL X.K) := by
  intro value slice pins s σ H x y v u Q I rx ry h hs
  obtain ⟨p, xs, i, z, rfl, rfl, hq, he, q⟩ := h
  cases rx
  obtain ⟨t, rfl⟩ := ry
  obtain ⟨its, r, pl, hz⟩ := I.list hq
  obtain ⟨j, h1, h2, h3, h4, h5⟩ := atI_get he
  obtain ⟨w, ew, rw'⟩ := r.get h2
  have hl := r.length
  have hn := line63
  have fin : EP X pins σ Q w s := ⟨z, H, I, rw', q⟩
  by_cases h0 : 0 ≤ i
  · have hj : i.toNat = j := by
      rw [seqIndex_of h0 h5] at h1
      exact Option.some.inj h1
    exact item_listR pl.isList h0 (by omega) (by rw [hj]; simpa using ew) fin hs
  · have hj : (i + (its.toArray.size : Int)).toNat = j := by
      rw [seqIndex_neg (by omega) h4] at h1
      rw [List.size_toArray, ← hl]
      exact Option.some.inj h1
    exact subscriptTail_builtinR (x := w) pl.isList.typeIs slot_list_getitem.lookup
      (wpAny_getItem_list_neg (Q := fun r s' => r = w ∧ EP X pins σ Q r s') pl.isList (by omega) (by rw [List.size_toArray] <;> omega) (by omega) (by rw [hj]; simpa using ew) ⟨rfl, fin⟩) hs
theorem ix_tup : IxR X (rIxT X.K) := by
  intro value slice pins s σ H x y v u Q I rx ry h hs
  obtain ⟨p, xs, i, z, rfl, rfl, hq, he, q⟩ := h
  cases rx
  obtain ⟨t, rfl⟩ := ry
  obtain ⟨its, r, pl, hz⟩ := I.tuple hq
  obtain ⟨j, h1, h2, h3, h4, h5⟩ := atI_get he
  obtain ⟨w, ew, rw'⟩ := r.get h2
  have hl := r.length
  have hn := line63
  have fin : EP X pins σ Q w s := ⟨z, H, I, rw', q⟩
  exact subscriptTail_builtinR (x := w) pl.typeIs slot_tuple_getitem.lookup
    (getItem_tuple (j := j) (Q := fun r s' => r = w ∧ EP X pins σ Q r s') pl (by omega) (by omega) (by rw [List.size_toArray, ← hl]; exact h1) (by simpa using ew) ⟨rfl, fin⟩) hs
theorem ix_str : IxR X rIxS := by
  intro value slice pins s σ H x y v u Q I rx ry h hs
  obtain ⟨z, i, c, rfl, rfl, hz, he, q⟩ := h
  obtain ⟨t, rfl⟩ := rx
  obtain ⟨t', rfl⟩ := ry
  obtain ⟨j, h1, h2, h3, h4, h5⟩ := atI_get he
  have hl : z.cps.toList.length = z.length := by simp [Str.length]
  rw [hl] at h1 h4 h5
  have hn := line63
  exact tail_any (typeIs_str s z t) slot_str_getitem.lookup (getItem_str (c := c) (by
    have e1 : decide (i < -(2 ^ 63 : Int)) = false := decide_eq_false (by omega)
    have e2 : decide (i ≥ 2 ^ 63) = false := decide_eq_false (by omega)
    rw [e1, e2, Bool.or_false]) (by rw [h1]; simpa using h2) ⟨.str ⟨#[c]⟩, H, I.tok _, ⟨_, rfl⟩, q⟩) hs
def rIx (K : PySem.W.Frag) : R2 := fun x y H Q => rIxL K x y H Q ∨ rIxT K x y H Q ∨ rIxS x y H Q
theorem ix_seq : IxR X (rIx X.K) := ix_list.or (ix_tup.or ix_str)
theorem mapSeq_set (its : List Value) (n j : Nat) (u : Value) : Obj.mapSeq (·.setIfInBounds j u) { cls := .type "list", data := .seq its.toArray n } = { cls := .type "list", data := .seq (its.set j u).toArray n } := by
  simp [Obj.mapSeq]
theorem Inv.lst {pins : List (Addr × Obj)} {σ : St} {H : Hp} {s : Shared} {p : Addr} {xs : List V} (I : Inv X pins σ H s) (h : H p = some (.lst xs)) :
    ∃ (its : List Value) (n : Nat), Vals xs its ∧ s.heap.get? p = some { cls := .type "list", data := .seq its.toArray n } ∧ xs.length ≤ sizeLine := by
  obtain ⟨z, its, n, r, e⟩ := I.hok p _ h
  exact ⟨its, n, r, e, z⟩
theorem Inv.lstUpd {pins : List (Addr × Obj)} {σ : St} {H : Hp} {s : Shared} {p : Addr} {xs ys : List V} {its its' : List Value} {n n' : Nat} {f : Obj → Obj} (I : Inv X pins σ H s) (h : H p = some (.lst xs))
    (ho : s.heap.get? p = some { cls := .type "list", data := .seq its.toArray n }) (hf : f { cls := .type "list", data := .seq its.toArray n } = { cls := .type "list", data := .seq its'.toArray n' }) (r : Vals ys its') (hz : ys.length ≤ sizeLine) (t : Nat) :
    Inv X pins σ (upd H p (.lst ys)) { s with heap := s.heap.update p f, toks := t } := by
  have e : (s.heap.update p f).get? p = some { cls := .type "list", data := .seq its'.toArray n' } := by
    rw [Heap.get?_update_self f ho (by rw [hf] <;> rfl), hf]
  refine I.write (x := p) (e := p) (by rw [h]; trivial) (.inl rfl) (fun b u hb q => (Heap.get?_update_other _ _ (Ne.symm hb)).trans q) ⟨_, e⟩ ?_
  exact ⟨hz, its', n', r, e⟩
def rSetL : V → V → V → Hp → (Hp → Prop) → Prop := fun o i v H Q => ∃ p xs k j, o = .ref p ∧ i = .int k ∧ H p = some (.lst xs) ∧ ixN xs.length k = some j ∧ Q (upd H p (.lst (xs.set j v)))
theorem set_list : PSet X rSetL := by
  intro pins s σ H o i v ov iv u Q I ro ri rv h
  obtain ⟨p, xs, k, j, rfl, rfl, hp, hj, q⟩ := h
  cases ro
  obtain ⟨t, rfl⟩ := ri
  obtain ⟨its, n, r, ho, hz⟩ := I.lst hp
  obtain ⟨h1, h2, h3, h4⟩ := ixN_seq hj
  have hl := r.length
  have hn := line63
  have I' : Inv X pins σ (upd H p (.lst (xs.set j v))) { s with heap := s.heap.update p (Obj.mapSeq (·.setIfInBounds j u)) } :=
    I.lstUpd hp ho (mapSeq_set its n j u) (r.set rv j) (by rw [List.length_set]; exact hz) s.toks
  by_cases h0 : 0 ≤ k
  · have hk : k.toNat = j := by
      rw [seqIndex_of h0 h4] at h1
      exact Option.some.inj h1
    exact PySem.W.ki_setAt ho h0 (by omega) (by rw [List.size_toArray, ← hl]; exact h4) (by rw [hk]; exact ⟨_, I', q⟩)
  · have hk : (k + (its.toArray.size : Int)).toNat = j := by
      rw [seqIndex_neg (by omega) h3] at h1
      rw [List.size_toArray, ← hl]
      exact Option.some.inj h1
    exact PySem.W.ki_setBack ho (by omega) (by rw [List.size_toArray, ← hl]; exact h3) (by omega) (by rw [hk]; exact ⟨_, I', q⟩)
theorem slice_bounds (lo hi : Option Int) (n : Nat) : (sliceBounds lo hi none n).1 = ((HT.sIx n 0 lo : Nat) : Int) ∧ (sliceBounds lo hi none n).2.1 = ((HT.sIx n n hi : Nat) : Int) ∧ (sliceBounds lo hi none n).2.2 = 1 := by
  refine ⟨?_, ?_, rfl⟩
  · cases lo with
    | none => simp [sliceBounds, HT.sIx]
    | some i =>
      simp only [sliceBounds, HT.sIx, Option.getD_none, show (1 : Int) > 0 by decide, if_true]
      by_cases h : i < 0
      · simp only [h, if_true] <;> omega
      · simp only [h, if_false] <;> omega
  · cases hi with
    | none => simp [sliceBounds, HT.sIx]
    | some i =>
      simp only [sliceBounds, HT.sIx, Option.getD_none, show (1 : Int) > 0 by decide, if_true]
      by_cases h : i < 0
      · simp only [h, if_true] <;> omega
      · simp only [h, if_false] <;> omega
theorem slicePick_cut (its : List Value) (lo hi : Option Int) : slicePick its.toArray lo hi none = ((its.drop (HT.sIx its.length 0 lo)).take (HT.sIx its.length its.length hi - HT.sIx its.length 0 lo)).toArray := by
  obtain ⟨h1, h2, h3⟩ := slice_bounds lo hi its.toArray.size
  unfold slicePick
  rw [h1, h2, h3]
  simp only [sliceRange_one, pick_run, List.size_toArray] <;> rfl
def rSlL (K : PySem.W.Frag) : V → Option Int → Option Int → Hp → VK → Prop := fun x lo hi H Q => ∃ a xs, x = .ref a ∧ SqL K H a xs ∧ ∀ p, H p = none → Q (.ref p) (upd H p (.lst (cutV xs lo hi)))
theorem sl_list : SlR X (rSlL X.K) := by
  intro pins s σ H x v vl vu lo hi sl Q I rx hs pl pu h
  obtain ⟨a, xs, rfl, hx, q⟩ := h
  cases rx
  obtain ⟨its, r, ht, hz⟩ := I.list hx
  have hlen := r.length
  refine ⟨"list", _, slot_list_getitem.lookup, ht.isList.typeIs, ?_⟩
  refine wpAny_getItem_list_slice ht.isList hs pl pu .none (by simp) ?_ (by rw [List.size_toArray] <;> omega)
  rw [slicePick_cut, ← hlen]
  refine ⟨.ref s.heap.objs.size, _, I.laid (t' := s.toks) (o := .lst (cutV xs lo hi)) (fun b ob q => Heap.get?_push_of_some _ q) (Nat.le_refl _) ?_, rfl, q _ (I.hok.fresh (Nat.le_refl _))⟩
  exact ⟨Nat.le_trans (cutV_length xs lo hi) hz, _, 0, (r.drop (HT.sIx xs.length 0 lo)).take (HT.sIx xs.length xs.length hi - HT.sIx xs.length 0 lo), Heap.get?_push_size _ rfl⟩
def flatV : V → Bool
  | .non => true
  | .bl _ => true
  | .int _ => true
  | .str _ => true
  | _ => false
def eqV : V → V → Bool
  | .non, .non => true
  | .bl a, .bl b => a == b
  | .bl a, .int b => (if a then 1 else 0) == b
  | .int a, .bl b => a == (if b then 1 else 0)
  | .int a, .int b => a == b
  | .str a, .str b => a == b
  | _, _ => false
theorem eqAt_V {A : Around} {s : Shared} {y x : V} {u v : Value} (ry : RelV y u) (rx : RelV x v) (fy : flatV y = true) (fx : flatV x = true) : SeqAt.EqAt A s u v (eqV y x) := by
  cases y with
  | non =>
    cases ry
    cases x with
    | non => cases rx; exact SeqAt.EqAt.same _
    | bl b => cases rx; exact SeqAt.EqAt.none_bool b
    | int b => obtain ⟨t, rfl⟩ := rx; exact SeqAt.EqAt.none_int b t
    | str b => obtain ⟨t, rfl⟩ := rx; exact SeqAt.EqAt.none_str b t
    | _ => exact absurd (show false = true from fx) Bool.false_ne_true
  | bl a =>
    cases ry
    cases x with
    | non => cases rx; exact SeqAt.EqAt.bool_none a
    | bl b => cases rx; exact SeqAt.EqAt.bool_bool a b
    | int b => obtain ⟨t, rfl⟩ := rx; exact SeqAt.EqAt.bool_int a b t
    | str b => obtain ⟨t, rfl⟩ := rx; exact SeqAt.EqAt.bool_str a b t
    | _ => exact absurd (show false = true from fx) Bool.false_ne_true
  | int a =>
    obtain ⟨t', rfl⟩ := ry
    cases x with
    | non => cases rx; exact SeqAt.EqAt.int_none a t'
    | bl b => cases rx; exact SeqAt.EqAt.int_bool a t' b
    | int b => obtain ⟨t, rfl⟩ := rx; exact SeqAt.EqAt.int_int a t' b t
    | str b => obtain ⟨t, rfl⟩ := rx; exact SeqAt.EqAt.int_str a t' b t
    | _ => exact absurd (show false = true from fx) Bool.false_ne_true
  | str a =>
    obtain ⟨t', rfl⟩ := ry
    cases x with
    | non => cases rx; exact SeqAt.EqAt.str_none a t'
    | bl b => cases rx; exact SeqAt.EqAt.str_bool a t' b
    | int b => obtain ⟨t, rfl⟩ := rx; exact SeqAt.EqAt.str_int a t' b t
    | str b => obtain ⟨t, rfl⟩ := rx; exact SeqAt.EqAt.str_str a t' b t
    | _ => exact absurd (show false = true from fx) Bool.false_ne_true
  | _ => exact absurd (show false = true from fy) Bool.false_ne_true
def eqU (x : V) (u : Value) : Bool := match u with
  | .none => eqV .non x
  | .bool b => eqV (.bl b) x
  | .int i _ => eqV (.int i) x
  | .str z _ => eqV (.str z) x
  | _ => false
theorem eqU_of {x y : V} {u : Value} (r : RelV y u) (f : flatV y = true) : eqU x u = eqV y x := by
  cases y with
  | non => cases r; rfl
  | bl b => cases r; rfl
  | int i => obtain ⟨t, rfl⟩ := r; rfl
  | str z => obtain ⟨t, rfl⟩ := r; rfl
  | _ => exact absurd (show false = true from f) Bool.false_ne_true
theorem any_eqU {x : V} : ∀ {xs : List V} {us : List Value}, Vals xs us → xs.all flatV = true → us.any (eqU x) = xs.any fun y => eqV y x
  | _, _, .nil, _ => rfl
  | y :: xs, u :: us, .cons r t, f => by
    rw [List.all_cons, Bool.and_eq_true] at f
    rw [List.any_cons, List.any_cons, eqU_of r f.1, any_eqU t f.2]
theorem mem_eqAt {A : Around} {s : Shared} {x : V} {v : Value} (rx : RelV x v) (fx : flatV x = true) : ∀ {xs : List V} {us : List Value}, Vals xs us → xs.all flatV = true → ∀ u ∈ us, SeqAt.EqAt A s u v (eqU x u)
  | _, _, .nil, _ => fun u hu => by cases hu
  | y :: xs, u :: us, .cons r t, f => fun u' hu => by
    rw [List.all_cons, Bool.and_eq_true] at f
    rcases List.mem_cons.mp hu with rfl | hu
    · rw [eqU_of r f.1]; exact eqAt_V r rx f.1 fx
    · exact mem_eqAt rx fx t f.2 u' hu
def inV (x : V) (xs : List V) : Bool := xs.any fun y => eqV y x
def rIn (K : PySem.W.Frag) (neg : Bool) : R2 := fun x y H Q => ∃ p xs, y = .ref p ∧ (SqL K H p xs ∨ SqT K H p xs) ∧ flatV x = true ∧ xs.all flatV = true ∧ Q (.bl (if neg then !inV x xs else inV x xs)) H
theorem op_in_seq : OpR X (compareOp .In) (rIn X.K false) := by
  intro pins s σ H x y v u Q I rx ry h
  obtain ⟨p, xs, rfl, hq, fx, fs, q⟩ := h
  cases ry
  rcases hq with hq | hq
  · obtain ⟨its, r, pl, hz⟩ := I.list hq
    refine SeqAt.in_listAt (eqU x) pl.isList (fun w hw => mem_eqAt rx fx r fs w (by simpa using hw)) ⟨.bl _, H, I, rfl, ?_⟩
    rw [show its.toArray.any (eqU x) = its.any (eqU x) by simp, any_eqU r fs]
    exact q
  · obtain ⟨its, r, pl, hz⟩ := I.tuple hq
    refine SeqAt.in_tupleAt (eqU x) pl (fun w hw => mem_eqAt rx fx r fs w (by simpa using hw)) ⟨.bl _, H, I, rfl, ?_⟩
    rw [show its.toArray.any (eqU x) = its.any (eqU x) by simp, any_eqU r fs]
    exact q
theorem op_notIn_seq : OpR X (compareOp .NotIn) (rIn X.K true) := by
  intro pins s σ H x y v u Q I rx ry h
  obtain ⟨p, xs, rfl, hq, fx, fs, q⟩ := h
  cases ry
  rcases hq with hq | hq
  · obtain ⟨its, r, pl, hz⟩ := I.list hq
    refine SeqAt.notIn_listAt (eqU x) pl.isList (fun w hw => mem_eqAt rx fx r fs w (by simpa using hw)) ⟨.bl _, H, I, rfl, ?_⟩
    rw [show its.toArray.any (eqU x) = its.any (eqU x) by simp, any_eqU r fs]
    exact q
  · obtain ⟨its, r, pl, hz⟩ := I.tuple hq
    refine SeqAt.notIn_tupleAt (eqU x) pl (fun w hw => mem_eqAt rx fx r fs w (by simpa using hw)) ⟨.bl _, H, I, rfl, ?_⟩
    rw [show its.toArray.any (eqU x) = its.any (eqU x) by simp, any_eqU r fs]
    exact q
theorem op_notIn_str : OpR X (compareOp .NotIn) (fun x y H Q => ∃ i j, x = .str i ∧ y = .str j ∧ Q (.bl (!(!(Builtin.Str.occurrences j i 0 j.length 1).isEmpty))) H) := by
  intro pins s σ H x y v u Q I rx ry h
  obtain ⟨i, j, rfl, rfl, q⟩ := h
  obtain ⟨t, rfl⟩ := rx
  obtain ⟨t', rfl⟩ := ry
  exact notIn_str ⟨.bl _, H, I, rfl, q⟩
theorem call_len_seq : CallR X (.builtin "len") (fun xs H Q => ∃ p ys, xs = [.ref p] ∧ (SqL X.K H p ys ∨ SqT X.K H p ys) ∧ Q (.int ys.length) H) := by
  intro pins s σ H xs us Q I r h
  obtain ⟨p, ys, rfl, hq, q⟩ := h
  obtain ⟨u, rfl, rx⟩ := vals1 r
  cases rx
  have hn := line63
  rcases hq with hq | hq
  · obtain ⟨its, r', pl, hz⟩ := I.list hq
    have hlen := r'.length
    exact Calls.call_len_list pl.isList (by simp only [List.size_toArray] <;> omega) ⟨.int ys.length, H, I.tok _, ⟨s.toks + 1, by rw [List.size_toArray, hlen]⟩, q⟩
  · obtain ⟨its, r', pl, hz⟩ := I.tuple hq
    have hlen := r'.length
    exact len_tuple pl (by simp only [List.size_toArray] <;> omega) ⟨.int ys.length, H, I.tok _, ⟨s.toks + 1, by rw [List.size_toArray, hlen]⟩, q⟩
theorem call_len_str : CallR X (.builtin "len") (fun xs H Q => ∃ z, xs = [.str z] ∧ z.length ≤ sizeLine ∧ Q (.int z.length) H) := by
  intro pins s σ H xs us Q I r h
  obtain ⟨z, rfl, hz, q⟩ := h
  obtain ⟨u, rfl, t, rfl⟩ := vals1 r
  have hn := line63
  exact len_str (by omega) ⟨.int z.length, H, I.tok _, ⟨_, rfl⟩, q⟩
theorem CallR.or {f : Value} {r r' : List V → Hp → VK → Prop} (h : CallR X f r) (h' : CallR X f r') : CallR X f (fun xs H Q => r xs H Q ∨ r' xs H Q) := by
  intro pins s σ H xs us Q I rs q
  rcases q with q | q
  · exact h pins s σ H xs us Q I rs q
  · exact h' pins s σ H xs us Q I rs q
theorem call_list_of : CallR X (.type "list") (fun xs H Q => ∃ p ys, xs = [.ref p] ∧ (SqL X.K H p ys ∨ SqT X.K H p ys) ∧ ∀ l, H l = none → Q (.ref l) (upd H l (.lst ys))) := by
  intro pins s σ H xs us Q I r h
  obtain ⟨p, ys, rfl, hq, q⟩ := h
  obtain ⟨u, rfl, rx⟩ := vals1 r
  cases rx
  have fin : ∀ (its : List Value), Vals ys its → ys.length ≤ sizeLine → ∀ (h' : Heap) (c' : Nat), (∀ b o', s.heap.get? b = some o' → h'.get? b = some o') →
      h'.get? s.heap.objs.size = some { cls := .type "list", dict := none, data := .seq its.toArray c', slots := #[] } → EP X pins σ Q (.ref s.heap.objs.size) { s with heap := h' } := fun its r' hz h' c' kp e =>
    ⟨.ref s.heap.objs.size, _, I.laid (t' := s.toks) kp (Nat.le_refl _) (show ObjOk X.prog X.w X.K _ h' _ (.lst ys) from ⟨hz, its, c', r', e⟩), rfl, q _ (I.hok.fresh (Nat.le_refl _))⟩
  rcases hq with hq | hq
  · obtain ⟨its, r', pl, hz⟩ := I.list hq
    have hlen := r'.length
    obtain ⟨o, ho, hc, n, hd⟩ := pl.isList
    exact call_list_seq p (.inl rfl) ho hc hd (fun h' c' kp e => fin its r' hz h' c' kp e) (by simp only [List.size_toArray] <;> omega)
  · obtain ⟨its, r', pl, hz⟩ := I.tuple hq
    have hlen := r'.length
    obtain ⟨o, ho, hc, n, hd⟩ := pl
    exact call_list_seq p (.inr rfl) ho hc hd (fun h' c' kp e => fin its r' hz h' c' kp e) (by simp only [List.size_toArray] <;> omega)
def tyV (K : PySem.W.Frag) (T : String) (x : V) (H : Hp) : Prop := match x with
  | .str _ => T = "str"
  | .int _ => T = "int"
  | .ref p => (T = "list" ∧ ∃ xs, SqL K H p xs) ∨ (T = "tuple" ∧ ∃ o, K.lookup p = some o ∧ o.cls = .type "tuple" ∧ o.dict = none) ∨
      (T = "dict" ∧ ((∃ kvs, H p = some (.dK kvs)) ∨ ∃ kvs, H p = some (.dT kvs))) ∨ (T = "set" ∧ ∃ S n, H p = some (.set S n))
  | _ => False
theorem tyV_is {pins : List (Addr × Obj)} {σ : St} {H : Hp} {s : Shared} {T : String} {x : V} {v : Value} (I : Inv X pins σ H s) (r : RelV x v) (ty : tyV X.K T x H) :
    s.TypeIs v T ∧ ∀ a, v = .ref a → ∃ ob, s.heap.get? a = some ob ∧ ob.dict = none := by
  cases x with
  | str z =>
    obtain ⟨t, rfl⟩ := r
    cases (show T = "str" from ty)
    exact ⟨typeIs_str s z t, fun _ e => nomatch e⟩
  | int i =>
    obtain ⟨t, rfl⟩ := r
    cases (show T = "int" from ty)
    exact ⟨typeIs_int s i t, fun _ e => nomatch e⟩
  | ref p =>
    cases r
    rcases ty with ⟨rfl, xs, hq⟩ | ⟨rfl, o, hk, hc, hd⟩ | ⟨rfl, hk⟩ | ⟨rfl, S, n, hk⟩
    · obtain ⟨its, _, pl, _⟩ := I.list hq
      refine ⟨pl.isList.typeIs, fun a e => ?_⟩
      cases e
      obtain ⟨o, n, e, c, hd, _⟩ := pl
      exact ⟨o, e, hd⟩
    · refine ⟨⟨o, I.kIn p o hk, hc⟩, fun a e => ?_⟩
      cases e
      exact ⟨o, I.kIn _ o hk, hd⟩
    · have z : ∃ o, s.heap.get? p = some o ∧ o.ExactDict := by
        rcases hk with ⟨kvs, hk⟩ | ⟨kvs, hk⟩
        · obtain ⟨_, _, _, _, o, _, _, e, ex, _⟩ := I.hok p _ hk
          exact ⟨o, e, ex⟩
        · obtain ⟨_, _, _, _, o, _, _, e, ex, _⟩ := I.hok p _ hk
          exact ⟨o, e, ex⟩
      obtain ⟨o, e, ex⟩ := z
      refine ⟨⟨o, e, ex.1⟩, fun a e2 => ?_⟩
      cases e2
      exact ⟨o, e, ex.2.1⟩
    · obtain ⟨o, _, _, _, e, ex, _⟩ := I.hok p _ hk
      refine ⟨⟨o, e, ex.1⟩, fun a e2 => ?_⟩
      cases e2
      exact ⟨o, e, ex.2.1⟩
  | _ => exact False.elim ty
def tBM0 (K : PySem.W.Frag) (T : String) (r : V → List V → Hp → VK → Prop) (to : TE) : TE := fun σ H Q => to σ H fun x H1 => tyV K T x H1 ∧ r x [] H1 Q
def tBM (K : PySem.W.Frag) (T : String) (r : V → List V → Hp → VK → Prop) (to : TE) (t : TA) : TE := fun σ H Q => to σ H fun x H1 => tyV K T x H1 ∧ t σ H1 fun xs H2 => r x xs H2 Q
variable {o e : Expr} {es : List Expr} {to : TE} {t : TA} {name : Str} {apos cpos : Pos} {T id : String} {r : V → List V → Hp → VK → Prop}
theorem pe_bm0 (pa : PlainAttrs T) (slot : Slot T name id) (hty : typeOf (.builtin id) = pure (.type "method_descriptor")) (hm : MtR X id r) (ho : PE X o to)
    (hbase : attributeBase o name X.env (eval o X.env) = eval o X.env := by rfl) (hline : (apos.endLine == cpos.line) = true := by rfl) : PE X (.Call (.Attribute o name apos) [] [] cpos) (tBM0 X.K T r to) := by
  intro pins s σ H Q I h
  refine wpAny_Call_method0_late hbase hline (thn (ho pins s σ H _ I h) fun v s1 ⟨x, H1, I1, r1, ty, q1⟩ => ?_)
  obtain ⟨h1, h2⟩ := tyV_is I1 r1 ty
  exact ⟨T, id, pa, slot, hty, h1, h2, Calls.callWith_builtin rfl (PySem.evalArgs_none (hm pins s1 σ H1 x [] v [] Q I1 r1 .nil q1))⟩
theorem pe_bm (pa : PlainAttrs T) (slot : Slot T name id) (hty : typeOf (.builtin id) = pure (.type "method_descriptor")) (hm : MtR X id r) (ho : PE X o to) (ha : PA X (e :: es) t)
    (hbase : attributeBase o name X.env (eval o X.env) = eval o X.env := by rfl)
    (hfew : ((backTo cpos (starEach (e :: es) X.env)).all (fun x => !x.1) && (backToKw cpos (keywordEach [] X.env)).all (fun x => x.1.isSome)
      && decide ((e :: es).length + ([] : List Keyword).length + (if ([] : List Keyword).isEmpty then 0 else 1) < 30)) = true := by rfl)
    (hline : (apos.endLine == cpos.line) = true := by rfl) (hs : starEach (e :: es) X.env = (false, eval e X.env) :: starEach es X.env := by rfl) (hplain : (backTo cpos (starEach es X.env)).any (·.1) = false := by rfl) :
    PE X (.Call (.Attribute o name apos) (e :: es) [] cpos) (tBM X.K T r to t) := by
  intro pins s σ H Q I h
  refine wpAny_Call_method_late hbase hfew hline rfl (thn (ho pins s σ H _ I h) fun v s1 ⟨x, H1, I1, r1, ty, q1⟩ => ?_)
  obtain ⟨h1, h2⟩ := tyV_is I1 r1 ty
  refine ⟨T, id, pa, slot, hty, h1, h2, ?_⟩
  have hA := ha cpos pins s1 σ H1 _ I1 q1
  rw [hs] at hA ⊢
  refine Calls.callWith_builtin (by show (false || (backTo cpos (starEach es X.env)).any (·.1)) = false; rw [hplain] <;> rfl) (Calls.evalArgs_plain ?_)
  exact thn hA fun us s2 ⟨vs, H2, I2, r2, q2⟩ => hm pins s2 σ H2 x vs v us Q I2 r1 r2 q2
end
end L2
namespace L2
open PySem PySem.Spec PyProof.Rows
def MtM (X : Cx) (id : String) (r : V → List V → Hp → VK → Prop) : Prop :=
  ∀ (pins : List (Addr × Obj)) (s : Shared) (σ : St) (H : Hp) (x : V) (xs : List V) (v : Value) (us : List Value) (Q : VK), Inv X pins σ H s → RelV x v → Vals xs us → r x xs H Q →
    wpAny (model X.prog X.w) X.A (call (.builtin id) (v :: us)) (EP X pins σ Q) X.xe s
theorem Vals.one {x : V} {us : List Value} (h : Vals [x] us) : ∃ u, us = [u] ∧ RelV x u := by
  cases h with
  | cons r t => cases t; exact ⟨_, rfl, r⟩
theorem Vals.two {x y : V} {us : List Value} (h : Vals [x, y] us) : ∃ u v, us = [u, v] ∧ RelV x u ∧ RelV y v := by
  cases h with
  | cons r t =>
    obtain ⟨v, rfl, q⟩ := Vals.one t
    exact ⟨_, v, rfl, r, q⟩
theorem Vals.zero {us : List Value} (h : Vals [] us) : us = [] := by cases h; rfl
section
variable {X : Cx} {pins : List (Addr × Obj)} {σ : St} {H : Hp} {s : Shared} {l b : Addr} {xs ys zs : List V}
theorem Inv.lset {its its' : List Value} {n : Nat} {f : Array Value → Array Value} {t' : Nat} (I : Inv X pins σ H s) (hH : H l = some (.lst xs))
    (e : s.heap.get? l = some { cls := .type "list", data := .seq its.toArray n }) (hf : f its.toArray = its'.toArray) (hv : Vals ys its') (hz : ys.length ≤ sizeLine) :
    Inv X pins σ (upd H l (.lst ys)) { s with heap := s.heap.update l (Obj.mapSeq f), toks := t' } := by
  have q := PySem.IsL.update e f
  rw [hf] at q
  refine I.write (x := l) (e := l) (by rw [hH]; exact trivial) (.inl rfl) (fun b' u hb hu => (Heap.get?_update_other s.heap (Obj.mapSeq f) (Ne.symm hb)).trans hu) ⟨_, q⟩ ?_
  exact ⟨hz, its', _, hv, q⟩
theorem Inv.lnew {its : List Value} {t' : Nat} (I : Inv X pins σ H s) (hv : Vals ys its) (hz : ys.length ≤ sizeLine) :
    Inv X pins σ (upd H s.heap.objs.size (.lst ys)) { s with heap := s.heap.push { cls := .type "list", data := .seq its.toArray }, toks := t' } :=
  I.laid (fun _ _ q => Heap.get?_push_of_some _ q) (Nat.le_refl _) ⟨hz, its, 0, hv, Heap.get?_push_size _ rfl⟩
theorem Inv.fresh (I : Inv X pins σ H s) : H s.heap.objs.size = none := I.hok.fresh (Nat.le_refl _)
theorem Inv.lstM (I : Inv X pins σ H s) (hH : H l = some (.lst xs)) : xs.length ≤ sizeLine ∧ ∃ (its : List Value) (n : Nat), Vals xs its ∧ xs.length = its.length ∧ s.heap.get? l = some { cls := .type "list", data := .seq its.toArray n } := by
  obtain ⟨z, its, n, r, e⟩ := I.hok l _ hH
  exact ⟨z, its, n, r, r.length, e⟩
end
section
variable {X : Cx}
def rAppend : V → List V → Hp → VK → Prop := fun x vs H Q => ∃ l xs y, x = .ref l ∧ vs = [y] ∧ H l = some (.lst xs) ∧ xs.length < sizeLine ∧ Q .non (upd H l (.lst (xs ++ [y])))
theorem mt_append : MtM X "list.append" rAppend := by
  intro pins s σ H x vs v us Q I rx rv h
  obtain ⟨l, xs, y, rfl, rfl, hH, hz, q⟩ := h
  cases rx
  obtain ⟨u, rfl, ru⟩ := rv.one
  obtain ⟨z, its, n, r, hl, e⟩ := I.lstM hH
  refine call_meets F.slot_list_append ⟨_, e, rfl⟩ F.entry_list_append (F.args_list_append_2 _ _) (PySem.list_append l its.toArray n u (by rw [List.size_toArray]; omega)) ⟨e, ?_⟩
  refine ⟨.non, _, I.lset (its' := its ++ [u]) hH e (by simp) (r.append (.cons ru .nil)) ?_, rfl, q⟩
  rw [List.length_append, List.length_singleton]
  omega
def rClear : V → List V → Hp → VK → Prop := fun x vs H Q => ∃ l xs, x = .ref l ∧ vs = [] ∧ H l = some (.lst xs) ∧ Q .non (upd H l (.lst []))
theorem mt_clear : MtM X "list.clear" rClear := by
  intro pins s σ H x vs v us Q I rx rv h
  obtain ⟨l, xs, rfl, rfl, hH, q⟩ := h
  cases rx
  have hus := rv.zero
  subst hus
  obtain ⟨z, its, n, r, hl, e⟩ := I.lstM hH
  refine call_meets F.slot_list_clear ⟨_, e, rfl⟩ F.entry_list_clear (F.args_list_clear_1 _) (AutoSeq1.list_clear_list_0 l its.toArray n (by rw [List.size_toArray]; omega)) ⟨e, ?_⟩
  exact ⟨.non, _, I.lset (its' := []) (ys := []) hH e rfl .nil (Nat.zero_le _), rfl, q⟩
def rCat : R2 := fun x y H Q => ∃ l b xs zs, x = .ref l ∧ y = .ref b ∧ H l = some (.lst xs) ∧ H b = some (.lst zs) ∧ xs.length + zs.length ≤ sizeLine ∧ ∀ p, H p = none → Q (.ref p) (upd H p (.lst (xs ++ zs)))
theorem op_cat : OpR X (binaryOp .Add) rCat := by
  intro pins s σ H x y v u Q I rx ry h
  obtain ⟨l, b, xs, zs, rfl, rfl, hH, hB, hz, q⟩ := h
  cases rx
  cases ry
  obtain ⟨z, its, n, r, hl, e⟩ := I.lstM hH
  obtain ⟨z2, its2, n2, r2, hl2, e2⟩ := I.lstM hB
  refine PySem.P.add_list e e2 ?_ (by rw [List.size_toArray, List.size_toArray]; omega)
  have ea : its.toArray ++ its2.toArray = (its ++ its2).toArray := by simp
  rw [ea]
  exact ⟨.ref _, _, I.lnew (t' := s.toks) (r.append r2) (by rw [List.length_append]; omega), rfl, q _ I.fresh⟩
end
section
variable {prog : Program} {w : World} {A : Around} {E : Value → Shared → Prop} {s : Shared}
end
section
variable {X : Cx}
end
end L2
namespace Att
open PySem PySem.W PySem.Calls PyProof.Rows
theorem ints_of_wellAll {P : Params} {h : Heap} : ∀ (ns : List Int) (vs : List Value), WellAll P h vs (ns.map WData.int) → IntsAre vs ns := by
  intro ns
  induction ns with
  | nil =>
    intro vs w
    rw [List.map_nil] at w
    cases w
    exact .nil
  | cons n ns ih =>
    intro vs w
    rw [List.map_cons] at w
    cases w with
    | cons a b =>
      cases a
      exact .cons _ _ (ih _ b)
theorem script_of {l : OpenLaw} {n : Nat} (hn : l.most = some n) {P : Params} {h : Heap} {args : List WData} {vals : List Value}
    (hpre : l.row.toRowW.claim.pre args = true) (hwl : WellAll P h vals args) :
    ∃ a vs ns, vals = [Value.ref a] ∧ args = [WData.list (ns.map WData.int)] ∧ h.get? a = some { cls := .type "list", data := .seq vs.toArray } ∧ IntsAre vs ns ∧ ns.length ≤ n := by
  have hsh : WShape.hasAll [] args [.list .int] = true := (pre_splitW hpre).1
  have hc : l.pre.holds [] { args := args } = true := (pre_splitW hpre).2
  obtain ⟨d, r, rfl, h1, h2⟩ := hasAllW_cons hsh
  obtain rfl := hasAllW_nil h2
  obtain ⟨xs, rfl, h3⟩ := hasW_list h1
  obtain ⟨ns, rfl⟩ := items_int h3
  have hlen : ns.length ≤ n := by
    unfold OpenLaw.pre at hc
    have h4 : (WTm.not (.lt (.lit (.int (n : Int))) (.len (.arg 0)))).holds [] { args := [.list (ns.map .int)] } = true := by
      have h4 := (holds_andW hc).1
      rw [hn] at h4
      exact h4
    have h5 := condW_of h4 (w_not (w_lt w_lit (w_len_list (w_arg rfl))))
    rw [List.length_map] at h5
    refine Nat.le_of_not_lt fun q => ?_
    have q' : (n : Int) < ((ns.length : Nat) : Int) := by omega
    first
      | (rw [decide_eq_true q'] at h5; exact absurd h5 (by decide))
      | (simp at h5; omega)
  cases hwl with
  | cons w1 w2 =>
    cases w2
    cases w1 with
    | list ho hall => exact ⟨_, _, ns, rfl, rfl, ho, ints_of_wellAll ns _ hall, hlen⟩
theorem post_true (l : OpenLaw) (args : List WData) : l.row.toRowW.claim.post args (.bool true) args = true :=
  postW_of (r := l.row.toRowW) (X := (true == true))
    (show WShape.has [] (.bool true) .bool = true by first | rfl | decide | simp [WShape.has, WShape.arms, WShape.armsAll])
    (show (WTm.eq .res (.lit (.bool true))).value [] { args := args, res := some (.bool true), after := args } = some (.bool (true == true)) from w_eq_bool (w_res rfl) w_lit) rfl
theorem attach_call {l : OpenLaw} {n : Nat} {q : Program} {loose : List Str} {XP : (Str → Option Value) → Heap → Prop} {YP : World → Heap → Prop} {d : DefRec}
    (hn : l.most = some n) (hdf : d.params.defaults = [])
    (call : ∀ (w : World) (s₀ s₁ : Shared) (mg mb : Str → Option Value) (fa : Addr) (o : Obj) (pm cd doc : Value) (a : Addr) (vs : List Value) (ns : List Int),
      Ground q loose [] XP w s₀ mg mb s₁.heap → YP w s₁.heap →
      s₁.heap.get? fa = some o → o.data = .func (docDef d.name d.params d.body d.scope pm cd doc) → s₁.heap.CodeRec cd d.name → mg d.name = some (.ref fa) →
      s₁.heap.get? a = some { cls := .type "list", data := .seq vs.toArray } → IntsAre vs ns → ns.length ≤ n → s₁.gens = #[] →
      codeAny (model l.prog w) callerA (.call (.ref fa) ⟨[.ref a], []⟩) (fun r s' => r = .ok (.ret (.bool true)) ∧ OldK s₁.heap s'.heap ∧ s'.os = s₁.os ∧ AllBare s'.gens) s₁) :
    WalkO q loose XP YP l.row.toRowW d [] (fun f vs => PySem.call f vs) := by
  intro w s₀ s₁ mg mb G Y fa o pm cd doc dV kV ho hd hcd hD hmg hg args vals as hpre hlay hrd hwl hlo
  obtain rfl : dV = .none := Dflts.none hD hdf
  obtain rfl : kV = .none := Dflts.noKw hD
  obtain ⟨a, vs, ns, rfl, rfl, hobj, hints, hlen⟩ := script_of hn hpre hwl
  refine enter_call (codeAny_mono (call w s₀ s₁ mg mb fa o pm cd doc a vs ns G Y ho (fd_plain hd) hcd hmg hobj hints hlen hg) fun r s' hq => ?_)
  obtain ⟨rfl, h2, h3, h4⟩ := hq
  exact ⟨.inl ⟨.bool true, .bool true, [], rfl, fun _ => rfl, .bool true, post_true l _, fun _ => ⟨List.Pairwise.nil, fun _ hm => (nomatch hm)⟩⟩, h2, h3, h4⟩
section
variable {prog : Program} {w : World} {A : Around} {E : Value → Shared → Prop} {s : Shared} {K : Frag}
end
end Att
namespace L2
open PySem PySem.Spec PyProof.Rows
theorem vals_ints : ∀ {vs : List Value} {ns : List Int}, IntsAre vs ns → Vals (ns.map V.int) vs
  | _, _, .nil => .nil
  | _, _, .cons n t h => .cons ⟨t, rfl⟩ (vals_ints h)
def Only (H : Hp) : Prop := ∀ b, H b = none ∨ (∃ o xs, H b = some (.frz o (.lst xs))) ∨ (b = tabP ∧ H b = some .tab)
theorem law_call {P : Program} {w : World} {K : PySem.W.Frag} {mg mb : Str → Option Value} {CX : CXT} {k : Nat} {fa a : Addr} {fd : FuncData} {x : Str} {sp : Sp} {s₁ : Shared} {vs : List Value} {ns : List Int}
    (KX : K.In s₁.heap) (hns : s₁.heap.Ns mainGlobals mg) (hb : s₁.heap.Ns builtinsNs mb) (hbb : ∀ x : Str, x ≠ "__name__" → mb x = bootBuiltins x) (hlim : s₁.heap.NoLimit) (hbat : s₁.heap.BuiltinsAt mg tabP) (hT : s₁.heap.get? tabP = some { cls := .none, data := .fields #[] }) (hTK : K.lookup tabP = none ∧ ∃ c, PySem.W.codeHdIn K c tabP = true) (hg : s₁.gens = #[])
    (ha : s₁.heap.get? a = some { cls := .type "list", data := .seq vs.toArray }) (hi : IntsAre vs ns) (hl : ns.length ≤ sizeLine) (hr : Room k callerA)
    (F : ∀ base : Heap, K.In base → base.Ns mainGlobals mg → FnOk P w K mg base CX k fa fd [x] sp) (hbind : ∀ (s : Shared) (u : Value), BindsTo s fd ⟨[u], []⟩ [(x, u)])
    (hsp : ∀ H : Hp, Only H → SqL K H a (ns.map V.int) → sp [.ref a] H (fun v _ => v = .bl true) fun _ _ _ => False)
    (hCX : ∀ H e s', CX [] H s₁ (fun _ _ _ => False) e s' → False) :
    codeAny (model P w) callerA (.call (.ref fa) ⟨[.ref a], []⟩) (fun r s' => r = .ok (.ret (.bool true)) ∧ OldK s₁.heap s'.heap ∧ s'.os = s₁.os ∧ AllBare s'.gens) s₁ := by
  have rv := vals_ints hi
  have lenV := hi.length
  have core : ∀ H : Hp, Only H → SqL K H a (ns.map V.int) → HOk P w K H s₁.heap → (∀ b, H b ≠ none → b = a ∨ b = tabP) → (H a ≠ none → K.lookup a = none) →
      codeAny (model P w) callerA (.call (.ref fa) ⟨[.ref a], []⟩) (fun r s' => r = .ok (.ret (.bool true)) ∧ OldK s₁.heap s'.heap ∧ s'.os = s₁.os ∧ AllBare s'.gens) s₁ := by
    intro H hO hS hok hA hK
    have base_of : ∀ {b : Addr} {o : Obj}, s₁.heap.get? b = some o → H b = none → (hidT s₁.heap H).get? b = some o := fun e n => hidT_get e n
    have noA : ∀ {b : Addr} {o : Obj} {es : Array DictEntry} {ep : Nat}, s₁.heap.get? b = some o → o.data = .dict es ep → H b = none := fun {b o es ep} e d => by
      cases q : H b with
      | none => rfl
      | some u =>
        rcases hA b (by rw [q]; simp) with e' | e'
        · subst e'
          rw [ha] at e; cases e
          have d' : Data.seq vs.toArray _ = Data.dict es ep := d
          cases d'
        · rw [e', hT] at e; cases e
          have d' : Data.fields _ = Data.dict es ep := d
          cases d'
    have nsK : ∀ {b : Addr} {m : Str → Option Value}, s₁.heap.Ns b m → (hidT s₁.heap H).Ns b m := fun {b m} ⟨o, es, ep, e, d, r⟩ => ⟨o, es, ep, base_of e (noA e d), d, r⟩
    have hKb : K.In (hidT s₁.heap H) := fun b o e => base_of (KX b o e) (by
      cases q : H b with
      | none => rfl
      | some u =>
        rcases hA b (by rw [q]; simp) with e' | e'
        · subst e'
          rw [hK (by rw [q]; simp)] at e; cases e
        · rw [e', hTK.1] at e; cases e)
    have hM : Mod K mg (hidT s₁.heap H) := ⟨hKb, nsK hns, ⟨mb, nsK hb, hbb⟩, let ⟨mc, h1, h2⟩ := hlim; ⟨mc, nsK h1, h2⟩, by
      obtain ⟨bm, o, q1, q2, q3, q4, q5, q6, q7, q8⟩ := hbat
      refine ⟨bm, o, q1, q2, q3, q4, base_of q5 ?_, q6, q7, q8⟩
      cases q : H bm with
      | none => rfl
      | some u =>
        rcases hA bm (by rw [q]; simp) with e' | e'
        · rw [e', ha] at q5; cases q5
          have d' : Data.seq vs.toArray _ = Data.plain := q8
          cases d'
        · exact absurd e' q4⟩
    have e0 : Env0 P w K mg (hidT s₁.heap H) callerA [] s₁ H := ⟨rfl, hM, fun b o e => of_hidT e, Nat.le_of_eq (hidT_size _ _), trivial, fun b hb => absurd (show b ∈ ([] : List Addr) from hb) (by simp), hok, .of_eq hg⟩
    refine codeAny_mono ((F _ hKb (nsK hns)).run callerA [] s₁ H ⟨[.ref a], []⟩ [.ref a] [.ref a] _ _ hr e0 (hbind s₁ (.ref a)) (.cons rfl .nil) (hsp H hO hS)) fun r s' h => ?_
    cases r with
    | error e => exact (hCX H e s' h).elim
    | ok fl =>
      cases fl with
      | next => exact False.elim h
      | brk => exact False.elim h
      | cont => exact False.elim h
      | ret u =>
        obtain ⟨v, H', os, bare, un, hok', r', q⟩ := h
        have q' : v = .bl true := q
        subst q'
        obtain rfl : u = Value.bool true := r'
        have hk : ∀ b o, s₁.heap.get? b = some o → b ≠ tabP → s'.heap.get? b = some o := fun b o e nb => by
          cases q : H b with
          | none => exact un.keep b o e q (by intro z; exact absurd (show b ∈ ([] : List Addr) from z) (by simp)) (by simp)
          | some u =>
            rcases hO b with z | ⟨ob, xs, z⟩ | ⟨z, _⟩
            · rw [q] at z; cases z
            · have z2 := un.frzs b ob _ z
              obtain ⟨e1, _⟩ := hok b _ z
              obtain ⟨e2, _⟩ := hok' b _ z2
              rw [e] at e1; cases e1
              exact e2
            · exact absurd z nb
        refine ⟨rfl, ⟨fun b o e => ?_, fun b o e => ?_⟩, os, bare⟩
        · by_cases nb : b = tabP
          · subst nb
            rw [hT] at e; cases e
            obtain ⟨ps, e1, _⟩ := hok' tabP _ hok'.t
            obtain ⟨c, hc⟩ := hTK.2
            exact .inr (.inl ⟨((PySem.W.codeHd_of_K KX hc).tab hT).isCodeTable, rfl, #[], ps, rfl, by rw [e1]; simp⟩)
          · exact .inl (hk b o e nb)
        · by_cases nb : b = tabP
          · subst nb
            obtain ⟨ps, e1, _⟩ := hok' tabP _ hok'.t
            exact ⟨_, e1⟩
          · exact ⟨o, hk b o e nb⟩
  have hat : a ≠ tabP := fun z => by rw [z, hT] at ha; cases ha
  have tok : ∀ H : Hp, ObjOk P w K H s₁.heap tabP .tab := fun H => ⟨#[], hT, trivial, .inl rfl⟩
  cases hk : K.lookup a with
  | some o =>
    have e := KX a o hk
    rw [ha] at e
    cases e
    refine core (fun b => if b = tabP then some .tab else none) (fun b => ?_) (.inr ⟨_, vs.toArray, _, hk, rfl, rfl, rfl, by rw [List.size_toArray, lenV]; exact hl, by simpa using rv⟩) ⟨fun b u z => ?_, if_pos rfl⟩ (fun b z => ?_) fun z => absurd (if_neg hat) z
    · by_cases hb : b = tabP
      · exact .inr (.inr ⟨hb, if_pos hb⟩)
      · exact .inl (if_neg hb)
    · by_cases hb : b = tabP
      · have z' := (if_pos hb).symm.trans z
        cases z'
        rw [hb]
        exact tok _
      · have z' := (if_neg hb).symm.trans z
        cases z'
    · by_cases hb : b = tabP
      · exact .inr hb
      · exact absurd (if_neg hb) z
  | none =>
    refine core (fun b => if b = a then some (.frz { cls := .type "list", data := .seq vs.toArray } (.lst (ns.map V.int))) else if b = tabP then some .tab else none) (fun b => ?_) (.inl (.inr ⟨{ cls := .type "list", data := .seq vs.toArray }, if_pos rfl⟩)) ⟨fun b u z => ?_, (if_neg (Ne.symm hat)).trans (if_pos rfl)⟩ (fun b z => ?_) fun _ => hk
    · by_cases hb : b = a
      · exact .inr (.inl ⟨_, _, if_pos hb⟩)
      · by_cases hb2 : b = tabP
        · exact .inr (.inr ⟨hb2, (if_neg hb).trans (if_pos hb2)⟩)
        · exact .inl ((if_neg hb).trans (if_neg hb2))
    · by_cases hb : b = a
      · have z' := (if_pos hb).symm.trans z
        cases z'
        subst hb
        exact ⟨ha, by rw [List.length_map]; exact hl, vs, _, rv, ha⟩
      · have z' := (if_neg hb).symm.trans z
        by_cases hb2 : b = tabP
        · have z2 := (if_pos hb2).symm.trans z'
          cases z2
          rw [hb2]
          exact tok _
        · have z2 := (if_neg hb2).symm.trans z'
          cases z2
    · by_cases hb : b = a
      · exact .inl hb
      · by_cases hb2 : b = tabP
        · exact .inr hb2
        · exact absurd ((if_neg hb).trans (if_neg hb2)) z
end L2
namespace L2
open PySem PySem.Spec PyProof.Rows
theorem walk_of {l : PySem.W.OpenLaw} {n k : Nat} {q : Program} {loose : List Str} {XP : (Str → Option Value) → Heap → Prop} {YP : World → Heap → Prop} {d : DefRec} {K : Params → PySem.W.Frag} {CX : World → CXT} {sp : World → Sp} {x : Str}
    (hn : l.most = some n) (hn2 : n ≤ sizeLine) (hdf : d.params.defaults = []) (hr : Room k callerA)
    (hY : ∀ (w : World) (h : Heap), YP w h → (K w.params).In h) (hYT : ∀ (w : World) (h : Heap), YP w h → h.get? tabP = some { cls := .none, data := .fields #[] } ∧ (K w.params).lookup tabP = none ∧ ∃ c, PySem.W.codeHdIn (K w.params) c tabP = true)
    (F : ∀ (w : World) (mg : Str → Option Value) (fa : Addr) (h : Heap), (K w.params).In h → h.Ns mainGlobals mg → mg d.name = some (.ref fa) →
      ∃ fd : FuncData, (∀ (s : Shared) (u : Value), BindsTo s fd ⟨[u], []⟩ [(x, u)]) ∧
        ∀ base : Heap, (K w.params).In base → base.Ns mainGlobals mg → FnOk l.prog w (K w.params) mg base (CX w) k fa fd [x] (sp w))
    (hsp : ∀ (w : World) (H : Hp) (a : Addr) (ns : List Int), ns.length ≤ n → Only H → SqL (K w.params) H a (ns.map V.int) → sp w [.ref a] H (fun v _ => v = .bl true) fun _ _ _ => False)
    (hCX : ∀ (w : World) (H : Hp) (s : Shared) (e : Value) (s' : Shared), CX w [] H s (fun _ _ _ => False) e s' → False) :
    PySem.W.WalkO q loose XP YP l.row.toRowW d [] (fun f vs => PySem.call f vs) := by
  refine Att.attach_call hn hdf fun w s₀ s₁ mg mb fa o pm cd doc a vs ns G Y ho hd hcd hmg hobj hints hlen hg => ?_
  have KX := hY w _ Y
  obtain ⟨fd, hb, hF⟩ := F w mg fa _ KX G.T.g hmg
  have hbat : s₁.heap.BuiltinsAt mg tabP := by
    obtain ⟨bm, ob, b1, b2, b3, b4, b5, b6⟩ := G.T.bmain
    refine ⟨bm, ob, b1, b2, fun q => ?_, fun q => ?_, b3, b4, b5, b6⟩
    · obtain ⟨o, es, ep, e, hd, _⟩ := G.T.g
      rw [q, e] at b3; cases b3; rw [hd] at b6; cases b6
    · have e := (hYT w _ Y).1
      rw [q, e] at b3; cases b3; cases b6
  exact law_call KX G.T.g G.T.b G.T.builtins G.T.nolimit hbat (hYT w _ Y).1 (hYT w _ Y).2 hg hobj hints (Nat.le_trans hlen hn2) hr hF hb (fun H hO hS => hsp w H a ns hlen hO hS) fun H e s' => hCX w H s₁ e s'
end L2
namespace L2
open PySem PySem.Spec PyProof.Rows
def inClass (s : Stmt) (j : Nat) : Stmt := match s with
  | .ClassDef _ _ _ body _ _ _ _ _ _ _ => body.getD j (.Pass ⟨0, 0, 0, 0⟩)
  | _ => .Pass ⟨0, 0, 0, 0⟩
def defArgs (s : Stmt) : Arguments := match s with
  | .FunctionDef _ a _ _ _ _ _ _ _ _ => a
  | _ => { posonlyargs := [], args := [], vararg := none, kwonlyargs := [], kw_defaults := [], kwarg := none, defaults := [] }
def defBody (s : Stmt) : List Stmt := match s with
  | .FunctionDef _ _ b _ _ _ _ _ _ _ => b
  | _ => []
def defScope (s : Stmt) : Scope := match s with
  | .FunctionDef _ _ _ _ _ _ sc _ _ _ => sc
  | _ => { kind := .function, names := [], isGenerator := false, isCoroutine := false }
abbrev CX0 : CXT := fun _ _ _ _ _ _ => False
abbrev E0 : XK := fun _ _ _ => False
theorem pass0 {X : Cx} : Passes CX0 X E0 := fun _ _ _ _ _ _ _ h => h.elim
structure Fun (K : PySem.W.Frag) (x qual : Str) (st : Stmt) (f : Addr) (fd : FuncData) : Prop where
  ex : ∃ (oc : Value) (od : Option Addr) (kV doc pm : Value) (an : Option Addr) (cdv ct : Value) (osl : Array (Option Value)),
    fd = PySem.W.fnOf x qual (defArgs st) (defBody st) (defScope st) .none kV doc pm an cdv ct ∧ K.lookup f = some ⟨oc, od, .func fd, osl⟩ ∧ PySem.W.codeIn K cdv qual = true
  kp : PySem.W.keepIn K (.ref f) = true
section
variable {P : Program} {w : World} {K : PySem.W.Frag} {mg : Str → Option Value} {base : Heap}
theorem Fun.ok {x qual : Str} {st : Stmt} {f : Addr} {fd : FuncData} {N ps : List Str} {k : Nat} {sp : Sp} (F : Fun K x qual st f fd) (S : FnScope N ps (defScope st)) (len : ∀ vs H Q E, sp vs H Q E → vs.length = ps.length)
    (hbody : ∀ (cdv : Value) (A : Around) (outer : List Env) (s : Shared) (H : Hp) (vs : List V) (Q : VK) (E : XK), Room k (A.deeper (envOfC qual (defScope st) s.heap.objs.size f cdv)) → sp vs H Q E →
      ∃ t, PSs (cxOf CX0 P w K mg base N qual (defScope st) f cdv A outer s H E).nox (defBody st) t ∧ t { nx := fun _ H' => Q .non H', rt := Q } (start N vs) H) : FnOk P w K mg base CX0 (k + 1) f fd ps sp := by
  obtain ⟨oc, od, kV, doc, pm, an, cdv, ct, osl, rfl, lk, hcd⟩ := F.ex
  refine fn_of lk hcd S len fun A outer s H vs Q E hr hsp => ?_
  obtain ⟨t, h, q⟩ := hbody cdv A outer s H vs Q E hr hsp
  exact ⟨t, h.nox, q⟩
theorem Fun.binds {x qual : Str} {st : Stmt} {f : Addr} {fd : FuncData} {ps : List Str} (F : Fun K x qual st f fd)
    (h : ∀ (kV doc pm : Value) (an : Option Addr) (cdv ct : Value) (us : List Value), us.length = ps.length → bindArgs (PySem.W.fnOf x qual (defArgs st) (defBody st) (defScope st) .none kV doc pm an cdv ct) ⟨us, []⟩ = pure (ps.zip us)) : Binds K fd ps [] := by
  obtain ⟨oc, od, kV, doc, pm, an, cdv, ct, osl, rfl, lk, hcd⟩ := F.ex
  exact .all (h kV doc pm an cdv ct)
theorem fun_mk {x qual : Str} {st : Stmt} {f : Addr} {oc : Value} {od an : Option Addr} {osl : Array (Option Value)} {kV doc pm cdv ct : Value} (l : K.lookup f = some ⟨oc, od, .func (PySem.W.fnOf x qual (defArgs st) (defBody st) (defScope st) .none kV doc pm an cdv ct), osl⟩)
    (c : PySem.W.codeIn K cdv qual = true) (k : PySem.W.keepIn K (.ref f) = true) : Fun K x qual st f (PySem.W.fnOf x qual (defArgs st) (defBody st) (defScope st) .none kV doc pm an cdv ct) := ⟨⟨oc, od, kV, doc, pm, an, cdv, ct, osl, rfl, l, c⟩, k⟩
end
theorem hu_of {A : Around} {k : Nat} (hr : Room k A) : A.units + 1 < cLine := Nat.lt_of_le_of_lt (Nat.add_le_add_left (by decide : 1 ≤ 64) _) hr.units
theorem small1000 {n : Nat} (h : n ≤ 1000) : n < sizeLine := Nat.lt_of_le_of_lt h (by decide)
section
variable {X : Cx}
theorem pv (i : Nat) {x : Str} {pos : Pos} (hN : X.N[i]? = some x := by rfl) (hv : Vis X.env.scope x := by first | exact Or.inl rfl | exact Or.inr (Or.inl rfl) | exact Or.inr (Or.inr rfl)) (hd : (x == ("__debug__" : Str)) = false := by decide)
    (hcd : (x == ("__classdict__" : Str)) = false := by decide) : PE X (.Name x pos) (tVar i) := pe_var hN hv hd hcd
end
theorem iteF {A B : Prop} (h : B) : if false = true then A else B := by
  rw [if_neg Bool.false_ne_true]
  exact h
theorem iteT {A B : Prop} (h : A) : if true = true then A else B := by
  rw [if_pos rfl]
  exact h
def Same (H H' : Hp) : Prop := ∀ b o, H b = some o → H' b = some o
theorem Same.refl (H : Hp) : Same H H := fun _ _ h => h
theorem Same.trans {H H1 H2 : Hp} (a : Same H H1) (b : Same H1 H2) : Same H H2 := fun c o h => b c o (a c o h)
theorem Same.free {H H' : Hp} (e : Same H H') {l : Addr} (h : H' l = Option.none) : H l = Option.none := by
  cases q : H l with
  | none => rfl
  | some o =>
    rw [e l o q] at h
    cases h
end L2
namespace L2
open PySem PySem.Spec PyProof.Rows
section
variable {X : Cx}
theorem call_lenD : CallR X (.builtin "len") (fun xs H Q => ∃ a kvs, xs = [V.ref a] ∧ H a = some (.dK kvs) ∧ Q (.int kvs.length) H) := by
  intro pins s σ H xs us Q I r h
  obtain ⟨a, kvs, rfl, ha, q⟩ := h
  obtain ⟨u, rfl, ru⟩ := vals1 r
  cases ru
  exact d_len I (.inl ha) fun t s' I' => ⟨.int kvs.length, H, I', ⟨t, rfl⟩, q⟩
end
section
variable {κ : Type} [DecidableEq κ]
end
end L2
namespace L2
open PySem PySem.Spec PyProof.Rows
theorem forIn_yield_fold {α β : Type} {l : List α} {f : α → β → Sem (ForInStep β)} (g : α → β → β) : ∀ (c : β), (∀ x ∈ l, ∀ c, f x c = pure (.yield (g x c))) →
    forIn l c f = pure (l.foldl (fun c x => g x c) c) := by
  induction l with
  | nil => intro c _; rfl
  | cons x l ih =>
    intro c h
    rw [List.forIn_cons, h x List.mem_cons_self, pure_bind]
    exact ih _ fun y hy => h y (List.mem_cons_of_mem _ hy)
def clStep (env : Env) (x : Str × NameKind) (c : List (Str × Addr)) : List (Str × Addr) := if x.2 = .free then (x.1, (env.cells.lookup x.1).getD 0) :: c else c
def clOf (env : Env) (names : List (Str × NameKind)) : List (Str × Addr) := names.foldl (fun c x => clStep env x c) []
theorem closureFor_cl {scope : Scope} {env : Env} (h : ∀ x ∈ scope.names, x.2 = .free → ∃ c, env.cells.lookup x.1 = some c) : closureFor scope env = pure (clOf env scope.names) := by
  simp only [closureFor]
  rw [forIn_yield_fold (clStep env) [] (fun x hx c => by
    obtain ⟨n, kind⟩ := x
    by_cases e : kind = .free
    · subst e
      obtain ⟨a, ha⟩ := h _ hx rfl
      have ha' : env.cells.lookup n = some a := ha
      simp [clStep, cellOf, ha']
    · have : (kind == NameKind.free) = false := by simpa using e
      simp [clStep, e, this])]
  rfl
theorem clFold_sub {env : Env} : ∀ (l : List (Str × NameKind)) (cs : List (Str × Addr)), (∀ x ∈ l, x.2 = .free → ∃ c, env.cells.lookup x.1 = some c) → (∀ y c, cs.lookup y = some c → env.cells.lookup y = some c) →
    ∀ y c, (l.foldl (fun c x => clStep env x c) cs).lookup y = some c → env.cells.lookup y = some c
  | [], cs, _, h2, y, c, e => h2 y c e
  | x :: r, cs, h1, h2, y, c, e => by
    refine clFold_sub r (clStep env x cs) (fun z hz => h1 z (List.mem_cons_of_mem _ hz)) (fun z d q => ?_) y c e
    unfold clStep at q
    by_cases k : x.2 = .free
    · rw [if_pos k] at q
      obtain ⟨a, ha⟩ := h1 x List.mem_cons_self k
      rw [List.lookup_cons] at q
      cases hb : z == x.1 with
      | true =>
        rw [hb] at q
        have ez : z = x.1 := by simpa using hb
        rw [ha] at q
        have q' : a = d := by simpa using q
        rw [ez, ha, q']
      | false =>
        rw [hb] at q
        exact h2 z d q
    · rw [if_neg k] at q
      exact h2 z d q
theorem cl_sub {env : Env} {names : List (Str × NameKind)} (h : ∀ x ∈ names, x.2 = .free → ∃ c, env.cells.lookup x.1 = some c) {y : Str} {c : Addr} (e : (clOf env names).lookup y = some c) : env.cells.lookup y = some c :=
  clFold_sub names [] h (fun y c q => by simp at q) y c e
theorem clFold_has {env : Env} {y : Str} : ∀ (l : List (Str × NameKind)) (cs : List (Str × Addr)), ((y, .free) ∈ l ∨ ∃ c, cs.lookup y = some c) → ∃ c, (l.foldl (fun c x => clStep env x c) cs).lookup y = some c
  | [], cs, h => by
    rcases h with h | h
    · simp at h
    · exact h
  | x :: r, cs, h => by
    refine clFold_has r (clStep env x cs) ?_
    rcases h with h | ⟨c, h⟩
    · rcases List.mem_cons.mp h with e | e
      · refine .inr ⟨(env.cells.lookup y).getD 0, ?_⟩
        rw [← e]
        simp [clStep]
      · exact .inl e
    · refine .inr ?_
      unfold clStep
      split
      · rw [List.lookup_cons]
        split
        · exact ⟨_, rfl⟩
        · exact ⟨c, h⟩
      · exact ⟨c, h⟩
theorem cl_has {env : Env} {names : List (Str × NameKind)} {y : Str} (h : (y, .free) ∈ names) : ∃ c, (clOf env names).lookup y = some c := clFold_has names [] (.inl h)
theorem mem_of_lookup {x : Str} {k : NameKind} : ∀ {l : List (Str × NameKind)}, l.lookup x = some k → (x, k) ∈ l
  | [], h => by simp at h
  | (n, j) :: r, h => by
    rw [List.lookup_cons] at h
    cases hb : x == n with
    | true =>
      rw [hb] at h
      have e : x = n := by simpa using hb
      have e2 : j = k := by simpa using h
      rw [e, e2]
      exact List.mem_cons_self
    | false =>
      rw [hb] at h
      exact List.mem_cons_of_mem _ (mem_of_lookup h)
theorem relabel_free {env : Env} : ∀ {names : List (Str × NameKind)} {x : Str}, names.lookup x = some .free →
    (names.map fun (n, k) => if (k == NameKind.free && env.scope.kind == .function && env.kindOf n == some .cell) then (n, NameKind.cell) else (n, k)).lookup x = some .cell ∨
    (names.map fun (n, k) => if (k == NameKind.free && env.scope.kind == .function && env.kindOf n == some .cell) then (n, NameKind.cell) else (n, k)).lookup x = some .free
  | [], _, h => by simp at h
  | (n, k) :: r, x, h => by
    have ih := @relabel_free env r x
    cases hx : x == n with
    | true =>
      simp only [List.lookup_cons, hx] at h
      cases h
      by_cases hc : (NameKind.free == NameKind.free && env.scope.kind == .function && env.kindOf n == some .cell) = true
      · refine .inl ?_
        simp only [List.map_cons, if_pos hc, List.lookup_cons, hx]
      · refine .inr ?_
        simp only [List.map_cons, if_neg hc, List.lookup_cons, hx]
    | false =>
      simp only [List.lookup_cons, hx] at h
      have ih := ih h
      by_cases hc : (k == NameKind.free && env.scope.kind == .function && env.kindOf n == some .cell) = true
      · simp only [List.map_cons, if_pos hc, List.lookup_cons, hx]
        exact ih
      · simp only [List.map_cons, if_neg hc, List.lookup_cons, hx]
        exact ih
theorem of_relabel {env : Env} : ∀ {names : List (Str × NameKind)} {x : Str} {j : NameKind}, (∀ y ∈ names, y.2 ≠ .cell) → (j = .cell ∨ j = .free) →
    (names.map fun (n, k) => if (k == NameKind.free && env.scope.kind == .function && env.kindOf n == some .cell) then (n, NameKind.cell) else (n, k)).lookup x = some j → (x, .free) ∈ names
  | [], _, _, _, _, h => by simp at h
  | (n, k) :: r, x, j, hn, hj, h => by
    have ih := @of_relabel env r x j (fun y hy => hn y (List.mem_cons_of_mem _ hy)) hj
    cases hx : x == n with
    | true =>
      have e : x = n := by simpa using hx
      subst e
      by_cases hc : (k == NameKind.free && env.scope.kind == .function && env.kindOf x == some .cell) = true
      · have hk : k = .free := by
          simp only [Bool.and_eq_true, beq_iff_eq] at hc
          exact hc.1.1
        subst hk
        exact List.mem_cons_self
      · simp only [List.map_cons, if_neg hc, List.lookup_cons, hx] at h
        have hk : k = j := by simpa using h
        rcases hj with z | z
        · exact absurd (hk.trans z) (hn (x, k) List.mem_cons_self)
        · rw [hk, z]
          exact List.mem_cons_self
    | false =>
      by_cases hc : (k == NameKind.free && env.scope.kind == .function && env.kindOf n == some .cell) = true
      · simp only [List.map_cons, if_pos hc, List.lookup_cons, hx] at h
        exact List.mem_cons_of_mem _ (ih h)
      · simp only [List.map_cons, if_neg hc, List.lookup_cons, hx] at h
        exact List.mem_cons_of_mem _ (ih h)
abbrev Cx.comp (X : Cx) (N : List Str) (scope : Scope) (C : Addr) (s : Shared) (H : Hp) (fp : List Addr) : Cx where
  prog := X.prog
  w := X.w
  K := X.K
  mg := X.mg
  base := X.base
  A := X.A
  N := N
  s₀ := s
  H₀ := H
  env := compEnvC scope (clOf X.env scope.names) C X.env
  outer := X.stack
  stack := X.stack
  ex := fp
  fn := fun _ => false
  calm := X.calm
  pn := []
  xe := fun _ _ => False
def capOk (scope : Scope) (ON N : List Str) (cap : List (Option Nat)) : Bool :=
  cap.length == N.length && (List.range N.length).all fun j => match cap[j]? with
    | some (some i) => (match N[j]?, ON[i]? with
      | some x, some y => x == y && (scope.names.lookup x == some NameKind.free)
      | _, _ => false)
    | _ => true
structure CSc (osc scope : Scope) (ON N : List Str) (cap : List (Option Nat)) : Prop where
  kind : scope.kind = .function
  noc : ∀ y ∈ scope.names, y.2 ≠ .cell
  loc : ∀ y ∈ scope.names, y.2 = .local → scope.names.lookup y.1 = some .local
  fr : ∀ y ∈ scope.names, y.2 = .free → osc.names.lookup y.1 = some .cell ∨ osc.names.lookup y.1 = some .free
  cap : capOk scope ON N cap = true
theorem CSc.at {osc scope : Scope} {ON N : List Str} {cap : List (Option Nat)} (S : CSc osc scope ON N cap) {j i : Nat} {x : Str} (h : cap[j]? = some (some i)) (hx : N[j]? = some x) : ON[i]? = some x ∧ scope.names.lookup x = some .free := by
  have h0 := S.cap
  unfold capOk at h0
  rw [Bool.and_eq_true] at h0
  have hj : j < N.length := (List.getElem?_eq_some_iff.mp hx).1
  have h1 := List.all_eq_true.mp h0.2 j (List.mem_range.mpr hj)
  rw [h] at h1
  dsimp only at h1
  rw [hx] at h1
  cases hy : ON[i]? with
  | none => rw [hy] at h1; simp at h1
  | some y =>
    rw [hy] at h1
    simp only [Bool.and_eq_true, beq_iff_eq] at h1
    exact ⟨by rw [h1.1], h1.2⟩
theorem CSc.len {osc scope : Scope} {ON N : List Str} {cap : List (Option Nat)} (S : CSc osc scope ON N cap) : cap.length = N.length := by
  have h0 := S.cap
  unfold capOk at h0
  rw [Bool.and_eq_true, beq_iff_eq] at h0
  exact h0.1
def capV (σ : St) : Option Nat → Option V
  | some i => (σ[i]?).getD none
  | none => none
def capSt (cap : List (Option Nat)) (σ : St) : St := cap.map (capV σ)
def PIfs (X : Cx) (ifs : List Expr) (t : TT) : Prop :=
  ∀ (pins : List (Addr × Obj)) (s : Shared) (σ : St) (H : Hp) (Q : Bool → Hp → Prop), Inv X pins σ H s → t σ H Q →
    wpAny (model X.prog X.w) X.A (forIn ifs true fun c r => if r = true then do let ok ← isTrue c X.env (eval c X.env); pure (ForInStep.yield ok) else pure (ForInStep.yield r)) (TP X pins σ Q) X.xe s
def tIf0 : TT := fun _ H Q => Q true H
theorem pifs_nil {X : Cx} : PIfs X [] tIf0 := fun _ _ _ H _ I h => wpAny_tests_nil ⟨H, I, h⟩
theorem pifs_one {X : Cx} {c : Expr} {t : TT} (h : PT X c t) : PIfs X [c] t := fun pins s σ H Q I q => wpAny_tests_one (h pins s σ H Q I q)
theorem codeAny_compLoop_testsG {prog : Program} {w : World} {A : Around} {R : Result → Shared → Prop} {s : Shared} {elt target iter : Expr} {ifs : List Expr} {scope : Scope} {pos : Pos} {it acc : Value} {env : Env} (I : Nat → Shared → Prop)
    (turn : ∀ n s, I n s → wpAny (model prog w) A (pyNext it) (fun r s₁ => match r with
      | none => R (.ok .next) s₁
      | some v => wpAny (model prog w) A (letOwnedTupleGo target it v) (fun _ s₁' => wpAny (model prog w) A (assign target env v) (fun _ s₂ =>
          wpAny (model prog w) A (forIn ifs true fun c r => if r = true then do let ok ← isTrue c env (eval c env); pure (ForInStep.yield ok) else pure (ForInStep.yield r)) (fun ok s₃ =>
            if ok = true then wpAny (model prog w) A (eval elt env) (fun x s₄ =>
              wpAny (model prog w) A (call (.builtin "list.append") [acc, x]) (fun _ s₅ => ∃ m, m < n ∧ I m s₅) (fun _ _ => False) s₄) (fun _ _ => False) s₃
            else ∃ m, m < n ∧ I m s₃) (fun _ _ => False) s₂) (fun _ _ => False) s₁') (fun _ _ => False) s₁) (fun _ _ => False) s)
    (n : Nat) (h : I n s) :
    codeAny (model prog w) A (.compLoop (.ListComp elt [⟨target, iter, ifs, 0⟩] scope pos) 0 it acc env) R s := by
  refine codeAny_loop rfl I (fun n s hI => ?_) n h
  show wpAny _ A ((compTurn (.ListComp elt [⟨target, iter, ifs, 0⟩] scope pos) 0 it acc env).onRaise (fun x => do noteFrame x env; theTreesLotGoes x)) _ _ s
  refine wpAny_noted ?_
  rw [compTurn_list]
  refine wpAny_bind (wpAny_standAt (wpAny_bind (wpAny_mono (turn n s hI) (fun r s₁ h₁ => ?_) fun _ _ h' => h'.elim)))
  cases r with
  | none => exact wpAny_pure h₁
  | some v =>
    refine wpAny_bind (wpAny_mono h₁ (fun _ s₁' h₁' => ?_) fun _ _ h' => h'.elim)
    refine wpAny_bind (wpAny_mono h₁' (fun _ s₂ h₂ => wpAny_bind (wpAny_mono h₂ (fun ok s₃ h₃ => ?_) fun _ _ h' => h'.elim)) fun _ _ h' => h'.elim)
    cases ok with
    | false => exact wpAny_pure ⟨rfl, h₃⟩
    | true =>
      exact wpAny_bind (wpAny_bind (wpAny_mono h₃ (fun x s₄ h₄ => wpAny_bind (wpAny_mono h₄ (fun _ s₅ h₅ => wpAny_pure (wpAny_pure ⟨rfl, h₅⟩)) fun _ _ h' => h'.elim)) fun _ _ h' => h'.elim))
def Kp (σ σ2 : St) : Prop := σ.length = σ2.length ∧ ∀ (i : Nat) (v : V), σ[i]? = some (some v) → σ2[i]? = some (some v)
structure TComp (wi : TI) (cap : List (Option Nat)) (g : TG) (tt : TT) (te : TE) (σ : St) (H : Hp) (Q : VK) : Prop where
  ex : wi σ H fun J H1 => ∀ D, H1 D = none → ∃ W : Nat → Nat → List V → Hp → Prop,
  (∃ m, W 0 m [] (upd H1 D (.lst []))) ∧ ∀ i m ys H, W i m ys H → H D = some (.lst ys) ∧ ((J.stop i H ∧ Q (.ref D) H) ∨
    (J.go i H ∧ ∃ N : List V → Hp → Prop, (∀ ys' H', N ys' H' → ∃ m', m' < m ∧ W (i + 1) m' ys' H') ∧ ∀ x H', J.yld i H x H' → g x (capSt cap σ) H' fun σ2 H2 => Kp (capSt cap σ) σ2 ∧ tt σ2 H2 fun b H3 =>
      if b = true then te σ2 H3 fun y H4 => H4 D = some (.lst ys) ∧ ys.length < sizeLine ∧ N (ys ++ [y]) (upd H4 D (.lst (ys ++ [y]))) else N ys H3))
def tComp (wi : TI) (cap : List (Option Nat)) (g : TG) (tt : TT) (te : TE) : TE := fun σ H Q => TComp wi cap g tt te σ H Q
section
variable {X : Cx} {tg iter elt : Expr} {ifs : List Expr} {scope osc : Scope} {ON N : List Str} {cap : List (Option Nat)} {wi : TI} {g : TG} {tt : TT} {te : TE} {pos : Pos}
theorem comp_ok {pins : List (Addr × Obj)} {σ : St} {H2 : Hp} {s2 : Shared} {fp : List Addr} {C : Addr} (I2 : Inv X pins σ H2 s2) (S : CSc osc scope ON N cap) (hsc : X.env.scope = osc) (f2 : ∀ b ∈ fp, FpOk X pins H2 b)
    (hfp : ∀ b ∈ fp, b < s2.heap.objs.size) (hC : s2.heap.objs.size ≤ C) : (X.comp N scope C s2 H2 fp).Ok := by
  have hfr : ∀ x ∈ scope.names, x.2 = .free → ∃ c, X.env.cells.lookup x.1 = some c := fun x hx e => I2.ok.has x.1 (by
    rcases S.fr x hx e with z | z
    · exact .inl (by rw [Env.kindOf, hsc]; exact z)
    · exact .inr (by rw [Env.kindOf, hsc]; exact z))
  refine ⟨I2.mod, S.kind, I2.ok.glob, I2.ok.blt, hC, fun x y c h1 h2 => I2.ok.inj x y c (cl_sub hfr h1) (cl_sub hfr h2), fun x h => ?_, fun x c h => by simp at h, I2.ok.hd, I2.ok.frames, .inl rfl, fun b hb => ⟨?_, fun x c e => ?_⟩, fun b o e => I2.bs b o e, ?_, fun b o e hb => ?_, fun b hb hz => ?_, I2.stack, I2.stkFree⟩
  · have hm : (x, NameKind.free) ∈ scope.names := by
      rcases h with h | h
      · exact of_relabel (env := X.env) S.noc (.inl rfl) h
      · exact of_relabel (env := X.env) S.noc (.inr rfl) h
    exact cl_has hm
  · exact Nat.ne_of_lt (Nat.lt_of_lt_of_le (hfp b hb) hC)
  · exact (f2 b hb).2.2.2.2.1 x c (cl_sub hfr e)
  · exact Nat.le_trans I2.ok.bsz I2.sz
  · rcases (f2 b hb).2.2.2.1 with z | z
    · exact I2.ok.noex b o e z
    · exact absurd (Nat.lt_of_lt_of_le (Heap.lt_size e) (Nat.le_trans I2.ok.bsz z)) (Nat.lt_irrefl _)
  · obtain ⟨_, f1, f3, _⟩ := f2 b hb
    rcases List.mem_cons.mp (I2.stkSub b hz) with z | z
    · exact f1 z
    · exact f3 z
theorem comp_core {pins : List (Addr × Obj)} {s : Shared} {σ : St} {H : Hp} {Q : VK} {RR : Value → Addr → Result → Shared → Prop} {cqual : Str} (hc : X.calm = true) (S : CSc osc scope ON N cap) (hsc : X.env.scope = osc) (hN : X.N = ON)
    (hi : PI X tg iter wi) (hg : ∀ C s H fp, PG (X.comp N scope C s H fp) tg g) (ht : ∀ C s H fp, PIfs (X.comp N scope C s H fp) ifs tt) (he : ∀ C s H fp, PE (X.comp N scope C s H fp) elt te)
    (I : Inv X pins σ H s) (h : tComp wi cap g tt te σ H Q)
    (fin : ∀ D C H' s', Inv X pins σ H' s' → FpOk X pins H' C → (∃ m, s'.heap.Ns C m) → Q (.ref D) H' → RR (.ref D) C (.ok .next) s') :
    wpAny (model X.prog X.w) X.A (eval iter X.env) (fun x s₁ => wpAny (model X.prog X.w) X.A (pyIter x) (fun itv s₂ => wpAny (model X.prog X.w) X.A (newList []) (fun acc s₃ =>
      wpAny (model X.prog X.w) X.A (newFunctionEnv scope X.env.globals (clOf X.env scope.names) [] X.env.qual none .none (some X.env)) (fun cenv s₄ =>
        codeAny (model X.prog X.w) X.A (.compStart (.ListComp elt [⟨tg, iter, ifs, 0⟩] scope pos) 0 itv acc { cenv with scope := relabel scope X.env }) (RR acc cenv.locals) s₄) X.xe s₃) X.xe s₂) X.xe s₁) X.xe s := by
  refine thn (hi pins s σ H _ I h.ex) fun v s1 h1 => thn h1 fun itv s2 h2 => ?_
  obtain ⟨it, fp, tn, J, H2, e, I2, T, st2, f2, q2⟩ := h2
  subst e
  refine wpAny_newObj_type (wpAny_newFunctionEnv S.noc (by intro y hy; simp at hy) (fun h₁ hns₁ hsb₁ => ?_) S.kind)
  dsimp only at hns₁ hsb₁ ⊢
  generalize hH2 : s2.heap.push { cls := .type "list", dict := none, data := .seq ([] : List Value).toArray } = P2 at hns₁ hsb₁ ⊢
  generalize hD : s2.heap.objs.size = D
  generalize hCe : P2.objs.size = C at hns₁ hsb₁ ⊢
  have hCD : C = D + 1 := by rw [← hCe, ← hH2, Heap.size_push, hD]
  have hCle : s2.heap.objs.size ≤ C := by rw [hCD, hD]; exact Nat.le_succ _
  have hfp : ∀ b ∈ fp, b < s2.heap.objs.size := fun b hb => by
    obtain ⟨o, e, _⟩ := T.obj 0 _ st2 b hb
    exact Heap.lt_size e
  have below : ∀ b, b < s2.heap.objs.size → b ≠ C := fun b hb => Nat.ne_of_lt (Nat.lt_of_lt_of_le hb hCle)
  have k1 : ∀ b o, s2.heap.get? b = some o → h₁.get? b = some o := fun b o e => hsb₁.extBut b o (below b (Heap.lt_size e)) (Heap.get?_push_of_some _ (hH2 ▸ Heap.get?_push_of_some _ e))
  have hDC : D ≠ C := by rw [hCD]; exact Nat.ne_of_lt (Nat.lt_succ_self _)
  have gD : h₁.get? D = some { cls := .type "list", dict := none, data := .seq ([] : List Value).toArray } := by
    refine hsb₁.extBut D _ hDC (Heap.get?_push_of_some _ ?_)
    rw [← hH2, ← hD]
    exact Heap.get?_push_size _ rfl
  have nD : H2 D = none := I2.hok.fresh (by rw [hD]; exact Nat.le_refl _)
  have nC : H2 C = none := I2.hok.fresh hCle
  have hfr : ∀ x ∈ scope.names, x.2 = .free → ∃ c, X.env.cells.lookup x.1 = some c := fun x hx e => I2.ok.has x.1 (by
    rcases S.fr x hx e with z | z
    · exact .inl (by rw [Env.kindOf, hsc]; exact z)
    · exact .inr (by rw [Env.kindOf, hsc]; exact z))
  obtain ⟨W, ⟨m0, w0⟩, turn⟩ := q2 D nD
  have IY : Inv (X.comp N scope C s2 H2 fp) [] (capSt cap σ) (upd H2 D (.lst [])) { s2 with heap := h₁, toks := s2.toks + ([] : List (Str × Value)).length } := by
    have hp : s2.heap.objs.size ≤ D := by rw [hD]; exact Nat.le_refl _
    refine ⟨comp_ok I2 S hsc f2 hfp hCle, rfl, I2.bare, Un.laid k1 hp nD, ⟨_, hns₁, fun j x v e1 e2 e3 => ?_⟩, fun x c e => ?_, ?_, fun x c e => ?_, fun p hp => by simp at hp, I2.hok.laid k1 hp ⟨Nat.zero_le _, [], _, .nil, gD⟩, ?_⟩
    · have e2' : (cap.map (capV σ))[j]? = some (some v) := e2
      rw [List.getElem?_map] at e2'
      cases q : cap[j]? with
      | none => rw [q] at e2'; cases e2'
      | some o =>
        rw [q] at e2'
        have e4 : capV σ o = some v := Option.some.inj e2'
        cases o with
        | none => cases e4
        | some i =>
          have hσ : σ[i]? = some (some v) := by
            have e5 : (σ[i]?).getD none = some v := e4
            cases z : σ[i]? with
            | none => rw [z] at e5; cases e5
            | some w => rw [z] at e5; exact congrArg some e5
          obtain ⟨hx1, hx2⟩ := S.at q e1
          have hk : X.env.kindOf x = some .cell ∨ X.env.kindOf x = some .free := by
            rcases S.fr _ (mem_of_lookup hx2) rfl with z | z
            · exact .inl (by rw [Env.kindOf, hsc]; exact z)
            · exact .inr (by rw [Env.kindOf, hsc]; exact z)
          obtain ⟨m, hn, hl⟩ := I2.loc
          obtain ⟨u, r, l⟩ := hl i x v (by rw [hN]; exact hx1) hσ (by
            rcases hk with z | z
            · exact .inr (.inl z)
            · exact .inr (.inr z))
          refine ⟨u, r, ?_⟩
          rcases l with ⟨z, _⟩ | ⟨_, c, hc', hcell⟩
          · rcases hk with y | y
            · rw [y] at z; cases z
            · rw [y] at z; cases z
          · obtain ⟨c', hc2⟩ := cl_has (env := X.env) (mem_of_lookup hx2)
            have e6 := cl_sub hfr hc2
            rw [hc'] at e6
            have e7 : c = c' := Option.some.inj e6
            subst e7
            obtain ⟨oc, ho, hd⟩ := hcell
            exact .inr ⟨relabel_free (env := X.env) hx2, c, hc2, ⟨oc, k1 c oc ho, hd⟩⟩
    · obtain ⟨v, oc, ho, hd⟩ := I2.cell x c (cl_sub hfr e)
      exact ⟨v, oc, k1 c oc ho, hd⟩
    · show upd H2 D (.lst []) C = none
      rw [upd_ne (Ne.symm hDC)]
      exact nC
    · have e' := cl_sub hfr e
      obtain ⟨v, oc, ho, hd⟩ := I2.cell x c e'
      show upd H2 D (.lst []) c = none
      rw [upd_ne (fun z => absurd (Heap.lt_size ho) (by rw [z, hD]; exact Nat.lt_irrefl _))]
      exact I2.freeC x c e'
    · show (cap.map (capV σ)).length = N.length
      rw [List.length_map]
      exact S.len
  have stat : ∀ {H' : Hp}, (∀ b ∈ fp, H' b = none) → ∀ b ∈ fp, FpOk (X.comp N scope C s2 H2 fp) [] H' b := fun hn b hb => by
    obtain ⟨_, f1, f3, f4, f5, f6⟩ := f2 b hb
    refine ⟨hn b hb, below b (hfp b hb), fun hz => ?_, .inl hb, fun x c e => f5 x c (cl_sub hfr e), fun p hp => by simp at hp⟩
    rcases List.mem_cons.mp (I2.stkSub b hz) with z | z
    · exact f1 z
    · exact f3 z
  have back : ∀ {σ' : St} {H' : Hp} {s' : Shared}, Inv (X.comp N scope C s2 H2 fp) [] σ' H' s' → Inv X pins σ H' s' := fun {σ' H' s'} I' =>
    I2.call' (ch := fp) I'.os I'.base I'.hok I'.bare fun b hb => let ⟨_, f1, _, f4, f5, f6⟩ := f2 b hb; ⟨f4, f1, f5, f6⟩
  have st1 : tn 0 h₁ := T.keep 0 _ _ st2 fun b _ o e => k1 b o e
  have fr1 : ∀ b ∈ fp, upd H2 D (.lst []) b = none := fun b hb => by
    rw [upd_ne (fun z => absurd (hfp b hb) (by rw [z, hD]; exact Nat.lt_irrefl _))]
    exact (f2 b hb).1
  have loop : codeAny (model X.prog X.w) X.A (.compLoop (.ListComp elt [⟨tg, iter, ifs, 0⟩] scope pos) 0 (.ref it) (.ref D) (compEnvC scope (clOf X.env scope.names) C X.env)) (RR (.ref D) C) { s2 with heap := h₁, toks := s2.toks + ([] : List (Str × Value)).length } := by
    refine codeAny_compLoop_testsG (fun n s' => ∃ i ys H', Inv (X.comp N scope C s2 H2 fp) [] (capSt cap σ) H' s' ∧ tn i s'.heap ∧ (∀ b ∈ fp, H' b = none) ∧ W i n ys H') ?_ m0 ⟨0, [], _, IY, st1, fr1, w0⟩
    rintro n s3 ⟨i, ys, H3, I3, st3, fr3, w3⟩
    obtain ⟨hDy, hturn⟩ := turn i n ys H3 w3
    rcases hturn with ⟨stop, qn⟩ | ⟨go, Nx, hNx, step⟩
    · refine thn (T.done (X.comp N scope C s2 H2 fp) rfl rfl rfl hc i [] s3 (capSt cap σ) H3 _ I3 (stat fr3) st3 stop) fun r s4 ⟨hr, I4⟩ => ?_
      subst hr
      obtain ⟨m, hm, _⟩ := I4.loc
      exact fin D C H3 s4 (back I4) (I2.fpOk hCle I4.free) ⟨m, hm⟩ qn
    · refine thn (T.item (X.comp N scope C s2 H2 fp) rfl rfl rfl hc i [] s3 (capSt cap σ) H3 _ I3 (stat fr3) st3 go) fun r s4 ⟨u, hr, h4⟩ => ?_
      subst hr
      refine thn h4 fun _ s5 ⟨x, H5, I5, r5, y5, st5, fr5⟩ => ?_
      have I5' := I5.pinned (stat fr5) (T.obj _ _ st5)
      refine thn (hg C s2 H2 fp _ s5 (capSt cap σ) H5 x u _ I5' r5 (step x H5 y5)) fun _ s6 ⟨σ6, H6, I6, kp6, q6⟩ => ?_
      refine thn (ht C s2 H2 fp _ s6 σ6 H6 _ I6 q6) fun b s7 ⟨H7, I7, q7⟩ => ?_
      have again : ∀ {ys' : List V} {H7 : Hp} {s7 : Shared}, Inv (X.comp N scope C s2 H2 fp) ([] ++ pinsAt fp s5.heap) σ6 H7 s7 → Nx ys' H7 → ∃ m, m < n ∧ ∃ i ys H', Inv (X.comp N scope C s2 H2 fp) [] (capSt cap σ) H' s7 ∧ tn i s7.heap ∧ (∀ b ∈ fp, H' b = none) ∧ W i m ys H' := fun {ys' H7 s7} I7 n7 => by
        obtain ⟨m', hm, w7⟩ := hNx ys' H7 n7
        refine ⟨m', hm, i + 1, ys', H7, I7.unpinned.weak kp6.1 kp6.2, T.keep _ _ _ st5 fun b hb o e => (I7.pin (b, o) (List.mem_append_right _ (List.mem_append_right _ (mem_pinsAt hb e)))).1, fun b hb => ?_, w7⟩
        obtain ⟨o, e, d⟩ := T.obj _ _ st5 b hb
        exact (I7.pin (b, o) (List.mem_append_right _ (List.mem_append_right _ (mem_pinsAt hb e)))).2.1
      cases b with
      | false =>
        rw [if_neg Bool.false_ne_true] at q7 ⊢
        exact again I7 q7
      | true =>
        rw [if_pos rfl] at q7 ⊢
        refine thn (he C s2 H2 fp _ s7 σ6 H7 _ I7 q7) fun xv s8 ⟨y, H8, I8, r8, hD8, hl8, n8⟩ => ?_
        refine thn (mt_append (X := X.comp N scope C s2 H2 fp) _ s8 σ6 H8 (.ref D) [y] (.ref D) [xv] (fun _ H9 => Nx (ys ++ [y]) H9) I8 rfl (.cons r8 .nil) ⟨D, ys, y, rfl, rfl, hD8, hl8, n8⟩) fun _ s9 ⟨_, H9, I9, _, n9⟩ => ?_
        exact again I9 n9
  subst hD hCe
  exact codeAny_compStart_list loop (T.self _ 0 _ _ _ st1 loop)
theorem hclos_of {pins : List (Addr × Obj)} {s : Shared} {σ : St} {H : Hp} (S : CSc osc scope ON N cap) (hsc : X.env.scope = osc) (I : Inv X pins σ H s) : closureFor scope X.env = pure (clOf X.env scope.names) :=
  closureFor_cl fun x hx e => I.ok.has x.1 (by
    rcases S.fr x hx e with z | z
    · exact .inl (by rw [Env.kindOf, hsc]; exact z)
    · exact .inr (by rw [Env.kindOf, hsc]; exact z))
theorem Inv.letgo {pins : List (Addr × Obj)} {s' : Shared} {σ : St} {H' : Hp} {C : Addr} {h' : Heap} (I : Inv X pins σ H' s') (f : FpOk X pins H' C) (hs : Heap.SameBut C s'.heap h') : Inv X pins σ H' { s' with heap := h' } :=
  I.turned (t' := s'.toks) (it := C) (fun b o hb e => (hs.2 b hb).trans e) f.1 f.2.1 f.2.2.2.1 f.2.2.2.2.1 f.2.2.2.2.2
theorem pe_comp (S : CSc osc scope ON N cap) (hi : PI X tg iter wi) (hg : ∀ C s H fp, PG (X.comp N scope C s H fp) tg g) (ht : ∀ C s H fp, PIfs (X.comp N scope C s H fp) ifs tt) (he : ∀ C s H fp, PE (X.comp N scope C s H fp) elt te)
    (hc : X.calm = true := by rfl) (hsc : X.env.scope = osc := by rfl) (hN : X.N = ON := by rfl) (hs : ∀ x, foldedSetIterable iter X.env x = pure x := by intro _; rfl) : PE X (.ListComp elt [⟨tg, iter, ifs, 0⟩] scope pos) (tComp wi cap g tt te) := by
  intro pins s σ H Q I h
  rw [eval_ListComp]
  refine wpAny_comprehension_free (use := none) rfl hs (hclos_of S hsc I) S.kind S.loc ?_
  refine comp_core (RR := fun acc C => compPost (model X.prog X.w) X.A X.xe none (EP X pins σ Q) acc C) (cqual := "") hc S hsc hN hi hg ht he I h fun D C H' s' I' f hm q => ?_
  obtain ⟨m, hm⟩ := hm
  exact ⟨m, hm, fun h' hs' => ⟨.ref D, H', I'.letgo f hs', rfl, q⟩⟩
theorem ps_setC {i : Nat} {y : Str} {py spos : Pos} (S : CSc osc scope ON N cap) (hNd : X.N.Nodup) (hi' : X.N[i]? = some y) (hy : Loc X.env.scope y) (hi : PI X tg iter wi) (hg : ∀ C s H fp, PG (X.comp N scope C s H fp) tg g) (ht : ∀ C s H fp, PIfs (X.comp N scope C s H fp) ifs tt) (he : ∀ C s H fp, PE (X.comp N scope C s H fp) elt te)
    (hsw : swapsWith (.ListComp elt [⟨tg, iter, ifs, 0⟩] scope pos) (some (.Name y py)) spos.line X.env = pure true := by rfl)
    (hc : X.calm = true := by rfl) (hsc : X.env.scope = osc := by rfl) (hN : X.N = ON := by rfl) (hs : ∀ x, foldedSetIterable iter X.env x = pure x := by intro _; rfl)
    (hf : X.fn y = true ∨ X.env.scope.names.lookup y = some .local := by first | exact .inl rfl | exact .inr rfl | assumption) :
    PS X (.Assign [.Name y py] (.ListComp elt [⟨tg, iter, ifs, 0⟩] scope pos) spos) (tAsg (tComp wi cap g tt te) (gName i)) := by
  intro pins s σ H D0 I h
  rw [exec_Assign_Name_used _ _ _ _ hsw]
  refine wpAny_bind (wpAny_standAt (wpAny_bind ?_))
  show wpAny _ _ (do let _ ← comprehension (.ListComp elt [⟨tg, iter, ifs, 0⟩] scope pos) scope X.env _ (newList []) false (eval iter X.env) (some (assign (.Name y py) X.env))) _ _ s
  refine wpAny_bind (wpAny_mono (wpAny_comprehension_free (use := some (assign (.Name y py) X.env)) (Q := fun _ s' => SP X pins D0 .next s') rfl hs (hclos_of S hsc I) S.kind S.loc
    (comp_core (RR := fun acc C => compPost (model X.prog X.w) X.A X.xe (some (assign (.Name y py) X.env)) (fun _ s' => SP X pins D0 .next s') acc C) (cqual := "") hc S hsc hN hi hg ht he I h fun D C H' s' I' f hm q => ?_))
    (fun _ s' hq => wpAny_pure (wpAny_pure hq)) fun _ _ e => e)
  obtain ⟨m, hm⟩ := hm
  show wpAny _ _ (assign (.Name y py) X.env (.ref D)) _ _ s'
  refine wpAny_assign_Name (store_ok2 I' hNd hi' hy (v := .ref D) rfl (fun s'' I'' hch => ?_) hf)
  obtain ⟨a, hsb, ha⟩ := hch
  have nCa : C ≠ a := by
    rintro rfl
    rcases ha with z | z
    · exact f.2.1 z
    · exact f.2.2.2.2.1 y C z rfl
  refine ⟨m, hm.sameBut hsb nCa, fun h' hs' => ⟨_, H', I''.letgo f hs', q⟩⟩
end
section
variable {tt : TT} {te : TE} {Q : VK} {σ0 rest : St} {H : Hp} {D : Addr}
end
end L2
namespace L2
open PySem PySem.Spec PyProof.Rows
section
variable {X : Cx} {pins : List (Addr × Obj)} {σ : St} {H H' : Hp} {s : Shared} {h' : Heap}
theorem Inv.turnedL {t' : Nat} {ch : List Addr} {a : Addr} {o : HO} (I : Inv X pins σ H s) (k : ∀ b u, b ∉ ch → s.heap.get? b = some u → h'.get? b = some u) (ht : ∀ b u, s.heap.get? b = some u → ∃ u', h'.get? b = some u') (hf : ∀ b ∈ ch, FpOk X pins H b)
    (hp : s.heap.objs.size ≤ a) (new : ObjOk X.prog X.w X.K (upd H a o) h' a o) : Inv X pins σ (upd H a o) { s with heap := h', toks := t' } := by
  have hn : H a = none := I.hok.fresh hp
  have nch : ∀ b u, H b = some u → b ∉ ch := fun b u e hb => by
    rw [(hf b hb).1] at e; cases e
  have na : ∀ b u, s.heap.get? b = some u → b ≠ a := fun b u e => Nat.ne_of_lt (Nat.lt_of_lt_of_le (Heap.lt_size e) hp)
  have hhok : HOk X.prog X.w X.K (upd H a o) h' := by
    refine ⟨fun b u e => ?_, by rw [upd_ne (ne_of_none I.hok.t hn)]; exact I.hok.t⟩
    by_cases hb : b = a
    · subst hb; rw [upd_same] at e; cases e; exact new
    · rw [upd_ne hb] at e
      refine (I.hok b u e).stay (fun c v hc q => k c v ?_ q) (fun c q => by rw [upd_ne (ne_of_none q hn)]; exact q) fun c xs q => by rw [upd_ne (ne_of_none q hn)]; exact q
      rcases hc with rfl | hc
      · exact nch c u e
      · exact nch c _ hc
  refine I.step (g' := s.gens) (d' := s.drawn) (ch := ch) (fun b hb => let ⟨_, f1, _, f4, f5, f6⟩ := hf b hb; ⟨f4, f1, f5, f6⟩) (fun b o _ _ hc e _ => k b o hc e) (fun b o _ _ hc e _ => ⟨o.slots, k b o hc e⟩)
    (fun b o _ e n => by rw [upd_ne (na b o e)]; exact n) (fun b o _ e => ht b o e) (fun b xs q => by rw [upd_ne (ne_of_none q hn)]; exact q) (fun b u xs q => by rw [upd_ne (ne_of_none q hn)]; exact q)
    (fun b ps q => ⟨#[], by rw [upd_ne (ne_of_none q hn), q]; simp⟩) (fun m hm => ?_) hhok I.bare
  obtain ⟨oL, es, ep, ho, r⟩ := hm
  have nL : X.env.locals ∉ ch := fun hb => (hf _ hb).2.1 rfl
  exact ⟨oL, es, ep, k _ oL nL ho, r⟩
end
def Ite (K : PySem.W.Frag) (a : Addr) : It :=
  ⟨fun i H => ∃ xs x, SqL K H a xs ∧ xs[i]? = some x, fun i H v H' => ∃ t x, H t = none ∧ v = .ref t ∧ H' = upd H t (.tup [.int (i : Nat), x]) ∧ ∀ xs, SqL K H a xs → xs[i]? = some x, fun i H => ∃ xs, SqL K H a xs ∧ xs.length ≤ i⟩
def EnumAt (e it a : Addr) (i : Nat) (h : Heap) : Prop := (∃ old, IsEnum h e it (i : Nat) old) ∧ h.IsListIter it a i
theorem turn_enum {P : Program} {w : World} {K : PySem.W.Frag} {es : List Expr} {x1 : Nat} {tpos : Pos} (a e it : Addr) (hne : e ≠ it) : Turn P w K (.Tuple es x1 tpos) (Ite K a) [it, e] e (EnumAt e it a) where
  mem := by simp
  obj := fun i h st b hb => by
    obtain ⟨⟨old, he⟩, o, e1, c, d⟩ := st
    rcases List.mem_cons.mp hb with z | z
    · subst z
      exact ⟨o, e1, fun v y => by rw [d] at y; cases y⟩
    · have z' : b = e := by simpa using z
      subst z'
      exact ⟨_, he, fun v y => by
        have y' : Data.fields _ = Data.cell v := y
        cases y'⟩
  keep := fun i h h' st k => by
    obtain ⟨⟨old, he⟩, st⟩ := st
    exact ⟨⟨old, k e (by simp) _ he⟩, st.at fun o q => k it (by simp) o q⟩
  item := by
    intro X hP hw hK hc i pins s σ H E I hf st hg
    subst hP hw hK
    obtain ⟨xs, x, hq, hx⟩ := hg
    obtain ⟨⟨old, he⟩, hit⟩ := st
    obtain ⟨its, rv, p, hz⟩ := I.list hq
    obtain ⟨u, hu, ru⟩ := rv.get hx
    refine wpAny_pyNext_enum_item he hit p.isList (x := u) (by simpa using hu) hne fun h' heo hit' htup hsz hk => ⟨_, rfl, ?_⟩
    refine wpAny_letOwnedTupleGo_enum (s := { s with heap := h', toks := s.toks + 1 }) heo fun h2 he2 hs2 => ?_
    have hel : e < s.heap.objs.size := Heap.lt_size he
    have g2 : h2.get? s.heap.objs.size = some { cls := .type "tuple", data := .seq #[.int i s.toks, u] } := (hs2.2 _ (Nat.ne_of_gt hel)).trans htup
    have k2 : ∀ b o, b ∉ [it, e] → s.heap.get? b = some o → h2.get? b = some o := fun b o hb q => by
      have h1 : b ≠ it := fun z => hb (by simp [z])
      have h3 : b ≠ e := fun z => hb (by simp [z])
      exact (hs2.2 b h3).trans (hk b o h3 h1 q)
    have ht2 : ∀ b o, s.heap.get? b = some o → ∃ o', h2.get? b = some o' := fun b o q => by
      by_cases h1 : b = it
      · subst h1
        obtain ⟨o', e', _⟩ := hit'
        exact ⟨o', (hs2.2 b (Ne.symm hne)).trans e'⟩
      · by_cases h3 : b = e
        · subst h3; exact ⟨_, he2⟩
        · exact ⟨o, k2 b o (by simp [h1, h3]) q⟩
    have I2 : Inv X pins σ (upd H s.heap.objs.size (.tup [.int (i : Nat), x])) { s with heap := h2, toks := s.toks + 1 } :=
      I.turnedL (ch := [it, e]) k2 ht2 hf (Nat.le_refl _) ⟨by show 2 ≤ sizeLine; decide, [.int i s.toks, u], .cons ⟨_, rfl⟩ (.cons ru .nil), ⟨_, g2, rfl, _, rfl⟩⟩
    refine ⟨.ref s.heap.objs.size, _, I2, rfl, ⟨s.heap.objs.size, x, I.fresh, rfl, rfl, fun ys hy => by rw [I.list_inj hy hq]; exact hx⟩, ⟨⟨u, he2⟩, ?_⟩, fun b hb => ?_⟩
    · exact hit'.extBut hs2.extBut (Ne.symm hne)
    · have hb0 := (hf b hb).1
      rw [upd_ne ?_]
      · exact hb0
      · rcases List.mem_cons.mp hb with z | z
        · subst z
          obtain ⟨o, e1, _⟩ := hit
          exact Nat.ne_of_lt (Heap.lt_size e1)
        · have z' : b = e := by simpa using z
          subst z'
          exact Nat.ne_of_lt hel
  done := by
    intro X hP hw hK hc i pins s σ H E I hf st hg
    subst hP hw hK
    obtain ⟨xs, hq, hx⟩ := hg
    obtain ⟨⟨old, he⟩, hit⟩ := st
    obtain ⟨its, rv, p, hz⟩ := I.list hq
    obtain ⟨f0, f1, f2, f3, f4, f5⟩ := hf it (by simp)
    have hl := rv.length
    exact wpAny_pyNext_enum_end (I.ok.hd hc) he hit p.isList (by simp; omega) fun h' eb => ⟨rfl, I.turned (t' := s.toks) (fun b o hb q => eb b o hb q) f0 f1 f3 f4 f5⟩
  self := fun A i s Q E st h => by
    obtain ⟨⟨old, he⟩, hit⟩ := st
    have hT : s.TypeIs (.ref e) "enumerate" := ⟨_, he, rfl⟩
    refine wpAny_pyIter_slot hT F.slot_enumerate_iter (wpAny_call_entry F.slot_enumerate_iter hT F.entry_enumerate_iter ?_ (F.args_enumerate_iter_1 _))
    show wpAny _ _ (ret (.ref e)) _ _ s
    exact wpAny_pure ⟨_, rfl, "enumerate", _, hT, F.slot_enumerate_next.lookup, h⟩
section
variable {X : Cx}
def iEnum (K : PySem.W.Frag) (ta : TA) : TI := fun σ H R => ta σ H fun vs H1 => ∃ a, vs = [.ref a] ∧ (∃ xs, SqL K H1 a xs) ∧ R (Ite K a) H1
theorem pi_enum {l : Expr} {ta : TA} {es : List Expr} {x1 : Nat} {tpos p pos : Pos} (hg : Gl X "enumerate") (hm : X.mg "enumerate" = none) (ha : PA X [l] ta) (hs : starEach [l] X.env = [(false, eval l X.env)] := by rfl) :
    PI X (.Tuple es x1 tpos) (.Call (.Name "enumerate" p) [l] [] pos) (iEnum X.K ta) := by
  intro pins s σ H R I h
  refine Call_ (ld_blt I hg hm PyProof.Rows.boot_enumerate (PyProof.Rows.callWith_type1 (thn (ha pos pins s σ H _ I h) fun us s1 ⟨vs, H1, I1, r1, q1⟩ => ?_) hs rfl))
  obtain ⟨a, e, ⟨xs, hq⟩, q⟩ := q1
  subst e
  obtain ⟨u, rfl, ru⟩ := vals1 r1
  cases ru
  obtain ⟨its, rv, p, hz⟩ := I1.list hq
  refine call_enumerate_list p.isList fun h' he hit hsz hk => ?_
  have I2 : Inv X pins σ H1 { s1 with heap := h' } := I1.kept (t' := s1.toks) hk
  have hT : (⟨h', s1.gens, s1.drawn, s1.toks, s1.os⟩ : Shared).TypeIs (.ref (s1.heap.objs.size + 1)) "enumerate" := ⟨_, he, rfl⟩
  refine (turn_enum (P := X.prog) (w := X.w) (K := X.K) (es := es) (x1 := x1) (tpos := tpos) a (s1.heap.objs.size + 1) s1.heap.objs.size (Nat.succ_ne_self _)).self X.A 0 { s1 with heap := h' } _ _ ⟨⟨.none, he⟩, hit⟩ ?_
  refine ⟨s1.heap.objs.size + 1, [s1.heap.objs.size, s1.heap.objs.size + 1], _, _, H1, rfl, I2, turn_enum a _ _ (Nat.succ_ne_self _), ⟨⟨.none, he⟩, hit⟩, fun b hb => ?_, q⟩
  have hb' : s1.heap.objs.size ≤ b := by
    rcases List.mem_cons.mp hb with z | z
    · rw [z]; exact Nat.le_refl _
    · rw [List.mem_singleton.mp z]; exact Nat.le_succ _
  exact I1.fpOk hb' (I1.hok.fresh hb')
end
def Its (x : Str) : It := ⟨fun i _ => i < x.cps.size, fun i H v H' => H' = H ∧ ∃ c, x.cps[i]? = some c ∧ v = .str ⟨#[c]⟩, fun i _ => i = x.cps.size⟩
theorem turn_str {P : Program} {w : World} {K : PySem.W.Frag} {tg : Expr} (it : Addr) (x : Str) (t : Tok) (ty : String) (hty : ["enumerate", "zip", "dict_itemiterator", "dict_reverseitemiterator", "odict_iterator", "itertools.zip_longest", "itertools.pairwise"].contains ty = false)
    (W : ∀ A : Around, A.handled = none → Walks P w A it [it] [it] x.cps.size (SignAt x) (fun i h => h.IsStrIter it ty x t i))
    (slf : ∀ (A : Around) (i : Nat) (s : Shared) (Q : Value → Shared → Prop) (E : Value → Shared → Prop), s.heap.IsStrIter it ty x t i → Q (.ref it) s → wpAny (model P w) A (pyIter (.ref it)) Q E s) :
    Turn P w K tg (Its x) [it] it (fun i h => h.IsStrIter it ty x t i) where
  mem := by simp
  obj := fun i h st b hb => by
    have e : b = it := by simpa using hb
    subst e
    obtain ⟨o, e, c, d⟩ := st
    exact ⟨o, e, fun v z => by rw [d] at z; cases z⟩
  keep := fun i h h' st k => by
    obtain ⟨o, e, r⟩ := st
    exact ⟨o, k it (by simp) o e, r⟩
  item := by
    intro X hP hw hK hc i pins s σ H E I hf st hg
    subst hP hw hK
    obtain ⟨f0, f1, f2, f3, f4, f5⟩ := hf it (by simp)
    refine (W X.A (I.ok.hd hc)).item i s _ _ hg st fun v h' tk hv st' kk => ?_
    obtain ⟨c, u, hx, rfl⟩ := hv
    have I1 : Inv X pins σ H { s with heap := h', toks := tk } := I.turned (fun b o hb e => kk b o (by simpa using hb) e) f0 f1 f3 f4 f5
    obtain ⟨o, e, cc, d⟩ := id st'
    exact ⟨_, rfl, go_of (s := { s with heap := h', toks := tk }) e cc d hty ⟨.str ⟨#[c]⟩, H, I1, ⟨u, rfl⟩, ⟨rfl, c, hx, rfl⟩, st', fun b hb => (hf b hb).1⟩⟩
  done := by
    intro X hP hw hK hc i pins s σ H E I hf st hg
    subst hP hw hK
    obtain ⟨f0, f1, f2, f3, f4, f5⟩ := hf it (by simp)
    have hg' : i = x.cps.size := hg
    subst hg'
    exact (W X.A (I.ok.hd hc)).done s _ _ st fun h' tk kk => ⟨rfl, I.turned (fun b o hb e => kk b o (by simpa using hb) e) f0 f1 f3 f4 f5⟩
  self := slf
section
variable {X : Cx} {tg : Expr}
def iStr (tl : TE) : TI := fun σ H R => tl σ H fun x H1 => ∃ z, x = .str z ∧ R (Its z) H1
theorem pi_str {l : Expr} {tl : TE} (hl : PE X l tl) : PI X tg l (iStr tl) := by
  intro pins s σ H R I h
  refine thn (hl pins s σ H _ I h) fun v s1 ⟨x, H1, I1, r1, q1⟩ => ?_
  obtain ⟨z, e, q⟩ := q1
  subst e
  obtain ⟨t, rfl⟩ := r1
  have fp : ∀ b ∈ [s1.heap.objs.size], FpOk X pins H1 b := fun b hb => by
    have e : b = s1.heap.objs.size := by simpa using hb
    subst e
    exact I1.fpOk (Nat.le_refl _) (I1.hok.fresh (Nat.le_refl _))
  cases ha : z.cps.all (· < 128)
  · exact wpAny_pyIter_wide ha ⟨s1.heap.objs.size, [s1.heap.objs.size], _, _, H1, rfl, I1.kept (t' := s1.toks) fun b o e => Heap.get?_push_of_some _ e, turn_str _ z t "str_iterator" (by decide) (fun A hA => Walks.strWide hA _ z t) (fun A i s Q E st h => wpAny_pyIter_striter_wide st h), ⟨_, Heap.get?_push_size _ rfl, rfl, rfl⟩, fp, q⟩
  · exact wpAny_pyIter_ascii ha ⟨s1.heap.objs.size, [s1.heap.objs.size], _, _, H1, rfl, I1.kept (t' := s1.toks) fun b o e => Heap.get?_push_of_some _ e, turn_str _ z t "str_ascii_iterator" (by decide) (fun A hA => Walks.strAscii hA _ z t) (fun A i s Q E st h => wpAny_pyIter_striter_ascii st h), ⟨_, Heap.get?_push_size _ rfl, rfl, rfl⟩, fp, q⟩
end
section
variable {tt : TT} {te : TE} {Q : VK} {σ0 rest : St} {H : Hp} {D : Addr}
end
section
variable {X : Cx}
theorem vals_strs : ∀ {l : List (Str × Tok)} {zs : List Str}, l.map (·.1) = zs → Vals (zs.map V.str) (strValues l)
  | [], _, e => by subst e; exact .nil
  | (x, t) :: r, _, e => by subst e; exact .cons ⟨t, rfl⟩ (vals_strs rfl)
theorem strs_of_vals : ∀ {zs : List Str} {us : List Value}, Vals (zs.map V.str) us → ∃ l : List (Str × Tok), us = strValues l ∧ l.map (·.1) = zs
  | [], _, r => by cases r; exact ⟨[], rfl, rfl⟩
  | z :: zs, _, r => by
    cases r with
    | cons r1 r2 =>
      obtain ⟨t, rfl⟩ := r1
      obtain ⟨l, rfl, e⟩ := strs_of_vals r2
      exact ⟨(z, t) :: l, rfl, by rw [List.map_cons, e]⟩
def rSplit : V → List V → Hp → VK → Prop := fun x vs H Q => ∃ z y, x = .str z ∧ vs = [.str y] ∧ (y.length == 0) = false ∧ z.length ≤ 1000000 ∧ ∀ l, H l = none → Q (.ref l) (upd H l (.lst ((Txt.split z y).map V.str)))
theorem parts_len (x y : Str) : (Builtin.Str.partsBetween x (Builtin.Str.occurrences x y 0 x.length (x.length + 1)) y.length).length ≤ x.length + 2 := by
  have h := StrLaws.occ_length_le_len x y 0 x.length (x.length + 1)
  unfold Builtin.Str.partsBetween
  simp only [List.length_map, List.length_zip, List.length_cons, List.length_append, List.length_nil]
  omega
theorem split_len {x y : Str} : (Txt.split x y).length ≤ x.length + 2 := by
  unfold Txt.split
  split
  · simp
  · split
    · simp
    · exact parts_len x y
theorem mt_split : MtR X "str.split" rSplit := by
  intro pins s σ H x vs v us Q I rx rv h
  obtain ⟨z, y, rfl, rfl, hy, hz, q⟩ := h
  obtain ⟨t, rfl⟩ := rx
  obtain ⟨u, rfl, u', rfl⟩ := rv.one
  have sl := @split_len z y
  have hz2 : z.length ≤ sizeLine := Nat.le_trans hz (by decide)
  have hz3 : z.length + 2 ≤ sizeLine := Nat.le_trans (Nat.add_le_add_right hz 2) (by decide)
  have e0 : ∀ (l : List (Str × Tok)) (t' : Nat), l.map (·.1) = Txt.split z y → EP X pins σ Q (.ref s.heap.objs.size) { s with heap := s.heap.push { cls := .type "list", data := .seq (strValues l).toArray }, toks := t' } := fun l t' e =>
    ⟨.ref s.heap.objs.size, _, I.lnew (vals_strs e) (by
      rw [List.length_map]
      exact Nat.le_trans sl hz3), rfl, q _ I.fresh⟩
  cases h1 : (decide (z.length < y.length) || decide (Builtin.Str.strKind z < Builtin.Str.strKind y))
  · cases hf : (Builtin.Str.occurrences z y 0 z.length (z.length + 1)).isEmpty
    · refine call_meets F.slot_str_split (typeIs_str _ _ _) F.entry_str_split (F.args_str_split_2 _ _) (meets_str_split_sep z y t u' h1 hy hf hz2 (Nat.le_trans (parts_len z y) hz3)) ?_
      show wants _ _ _ { s with toks := _, heap := s.heap.push { cls := .type "list", data := .seq (strsFrom s.toks (Builtin.Str.partsBetween z (Builtin.Str.occurrences z y 0 z.length (z.length + 1)) y.length)).toArray } }
      rw [strsFrom_eq]
      exact e0 (numbered s.toks _) _ ((numbered_texts _ _).trans ((if_neg (ne_true_of_eq_false h1)).trans (if_neg (ne_true_of_eq_false hf))).symm)
    · exact call_meets F.slot_str_split (typeIs_str _ _ _) F.entry_str_split (F.args_str_split_2 _ _) (meets_str_split_not_found z y t u' h1 hy hf)
        (e0 [(z, t)] s.toks ((if_neg (ne_true_of_eq_false h1)).trans (if_pos hf)).symm)
  · exact call_meets F.slot_str_split (typeIs_str _ _ _) F.entry_str_split (F.args_str_split_2 _ _) (meets_str_split_cannot_occur z y t u' h1) (e0 [(z, t)] s.toks (if_pos h1).symm)
def rJoin (K : PySem.W.Frag) : V → List V → Hp → VK → Prop := fun x vs H Q => ∃ z l zs, x = .str z ∧ vs = [.ref l] ∧ SqL K H l (zs.map V.str) ∧ JoinOk z zs = true ∧ Q (.str (Str.join z zs)) H
theorem mt_join : MtR X "str.join" (rJoin X.K) := by
  intro pins s σ H x vs v us Q I rx rv h
  obtain ⟨z, l, zs, rfl, rfl, hl, ok, q⟩ := h
  obtain ⟨t, rfl⟩ := rx
  obtain ⟨u, rfl, ru⟩ := rv.one
  cases ru
  obtain ⟨its, r, p, _⟩ := I.list hl
  obtain ⟨l', e, e2⟩ := strs_of_vals r
  subst e
  refine SC.join p.isList e2 ok fun t' k => ⟨.str (Str.join z zs), H, I.tok _, ⟨t', ?_⟩, q⟩
  unfold Txt.join
  rw [StrLaws.glued_eq_join]
theorem bools_get {bs : List Bool} {us : List Value} (r : Vals (bs.map V.bl) us) {i : Nat} {v : Value} (e : us[i]? = some v) : ∃ b, bs[i]? = some b ∧ v = .bool b := by
  have hl := r.length
  rw [List.length_map] at hl
  have hi : i < us.length := (List.getElem?_eq_some_iff.mp e).1
  have hb : bs[i]? = some bs[i] := List.getElem?_eq_getElem (by omega)
  obtain ⟨u, h1, h2⟩ := r.get (i := i) (x := .bl bs[i]) (by rw [List.getElem?_map, hb] <;> rfl)
  rw [e] at h1
  cases h1
  exact ⟨_, hb, h2⟩
theorem range_all {bs : List Bool} {n : Nat} (hn : n = bs.length) : ((List.range n).all fun i => (bs[i]?).getD true) = bs.all id := by
  subst hn
  rw [Bool.eq_iff_iff]
  simp only [List.all_eq_true, List.mem_range, id]
  constructor
  · intro h x hx
    obtain ⟨i, hi, e⟩ := List.mem_iff_getElem.mp hx
    have := h i hi
    rw [List.getElem?_eq_getElem hi] at this
    rw [← e]
    exact this
  · intro h i hi
    rw [List.getElem?_eq_getElem hi]
    exact h _ (List.getElem_mem hi)
theorem kept_iter {h h' : Heap} {o : Obj} (hk : ∀ b x, b ∉ [h.objs.size] → (h.push o).get? b = some x → h'.get? b = some x) : ∀ b x, h.get? b = some x → h'.get? b = some x :=
  fun b x e => hk b x (fun hm => by rw [List.mem_singleton.mp hm] at e; exact Nat.lt_irrefl _ (Heap.lt_size e)) (Heap.get?_push_of_some _ e)
theorem call_all (hc : X.calm = true := by rfl) : CallR X (.builtin "all") (fun xs H Q => ∃ (p : Addr) (bs : List Bool), xs = [.ref p] ∧ SqL X.K H p (bs.map V.bl) ∧ Q (.bl (bs.all id)) H) := by
  intro pins s σ H xs us Q I r h
  obtain ⟨l, bs, rfl, hq, q⟩ := h
  obtain ⟨u, rfl, rx⟩ := vals1 r
  cases rx
  obtain ⟨its, r', pl, hz⟩ := I.list hq
  have hl := pl.isList
  have hlen := r'.length
  rw [List.length_map] at hlen
  have hlt : l < s.heap.objs.size := by obtain ⟨_, e, _⟩ := hl; exact Heap.lt_size e
  have hh := I.ok.hd hc
  refine call_all_walk (wpAny_pyIter_list hl ?_)
  refine ⟨s.heap.objs.size, [s.heap.objs.size, l], [s.heap.objs.size], its.toArray.size, _, _, fun i => (bs[i]?).getD true, rfl, Walks.list (A := X.A.in1) hh _ l (Nat.ne_of_lt hlt) its.toArray,
    ⟨⟨_, Heap.get?_push_size _ rfl, rfl, rfl⟩, hl.push _⟩, fun i v s' Q' E' hP hQ => ?_, fun h' tk hk => ?_⟩
  · obtain ⟨b, e, rfl⟩ := bools_get r' (i := i) (v := v) (by simpa using hP)
    simp only [e, Option.getD_some] at hQ
    exact wpAny_truthy_bool hQ
  · refine ⟨.bl (bs.all id), H, I.kept (kept_iter hk), ?_, q⟩
    rw [range_all (by simp [hlen])]
    rfl
theorem call_list_dict (hc : X.calm = true := by rfl) : CallR X (.type "list") (fun xs H Q => ∃ p kvs, xs = [.ref p] ∧ H p = some (.dK kvs) ∧ ∀ l, H l = none → Q (.ref l) (upd H l (.lst (kvs.map fun kv => kV kv.1)))) := by
  intro pins s σ H xs us Q I r h
  obtain ⟨p, kvs, rfl, hp, q⟩ := h
  obtain ⟨u, rfl, rx⟩ := vals1 r
  cases rx
  obtain ⟨hz, lo, vs, rel, hD⟩ := dk_of I.hok hp
  obtain ⟨o, es, ep, ho, hx, hd, hk, hpr, hn⟩ := hD
  have hlen := rel.length
  refine PySem.W.kdl_call (PySem.W.kdl_dict (knd := mixKind X.prog X.w) (kvs := vs) (ep := ep) lo) (I.ok.hd hc) ⟨o, es, ho, hx, hd, hk, hpr, hn⟩ (by omega) fun h' tk acc' c' kk hS hacc => ?_
  have hv : Vals (kvs.map fun kv => kV kv.1) acc'.toList := by
    have gen : ∀ (l : List (Key × V)) (l2 : List (Key × Value)) (us : List Value), KV l l2 → us.length = l2.length → (∀ (j : Nat) (v : Value), us[j]? = some v → ∃ k x, l2[j]? = some (k, x) ∧ (mixKind X.prog X.w).is k v = true) → Vals (l.map fun kv => kV kv.1) us := by
      intro l
      induction l with
      | nil =>
        intro l2 us hr hl hu
        cases hr
        have : us = [] := List.length_eq_zero_iff.mp hl
        subst this
        exact .nil
      | cons a r ih =>
        intro l2 us hr hl hu
        cases hr with
        | @cons _ b _ r2 h1 h2 =>
          cases us with
          | nil => simp at hl
          | cons v us =>
            obtain ⟨k, x, e, hk⟩ := hu 0 v rfl
            have e' : b = (k, x) := by simpa using e
            have ek : a.1 = k := by rw [h1.1, e']
            refine .cons ?_ (ih r2 us h2 (by simpa using hl) fun j w e => by simpa using hu (j + 1) w (by simpa using e))
            show RelV (kV a.1) v
            rw [ek]
            rcases keyIs_shape hk with ⟨i, t, rfl, rfl⟩ | ⟨x, t, rfl, rfl⟩
            · exact ⟨t, rfl⟩
            · exact ⟨t, rfl⟩
    refine gen kvs vs acc'.toList rel (by rw [Array.length_toList]; exact hacc.1) fun j v e => hacc.2 j v (by rw [← Array.getElem?_toList]; exact e)
  refine ⟨.ref s.heap.objs.size, _, I.laid kk (Nat.le_refl _) (show ObjOk X.prog X.w X.K _ h' _ (.lst _) from ⟨?_, acc'.toList, c', hv, ?_⟩), rfl, q _ I.fresh⟩
  · rw [List.length_map]; omega
  · simpa using hS
mutual
inductive Dt (K : PySem.W.Frag) (H : Hp) : V → PyData → Prop
  | non : Dt K H .non .none
  | bl (b : Bool) : Dt K H (.bl b) (.bool b)
  | int (i : Int) : Dt K H (.int i) (.int i)
  | str (x : Str) : Dt K H (.str x) (.str x)
  | lst {a : Addr} {xs : List V} {ds : List PyData} : SqL K H a xs → Dts K H xs ds → Dt K H (.ref a) (.list ds)
  | tup {a : Addr} {xs : List V} {ds : List PyData} : SqT K H a xs → Dts K H xs ds → Dt K H (.ref a) (.tuple ds)
inductive Dts (K : PySem.W.Frag) (H : Hp) : List V → List PyData → Prop
  | nil : Dts K H [] []
  | cons {x : V} {xs : List V} {d : PyData} {ds : List PyData} : Dt K H x d → Dts K H xs ds → Dts K H (x :: xs) (d :: ds)
end
mutual
theorem Dt.reads {pins : List (Addr × Obj)} {σ : St} {H : Hp} {s : Shared} (I : Inv X pins σ H s) : ∀ {x : V} {d : PyData} {u : Value}, Dt X.K H x d → RelV x u → ∃ as, Reads s.heap u d as
  | _, _, _, .non, r => by cases r; exact ⟨[], .none⟩
  | _, _, _, .bl b, r => by cases r; exact ⟨[], .bool b⟩
  | _, _, _, .int i, r => by obtain ⟨t, rfl⟩ := r; exact ⟨[], .int i t⟩
  | _, _, _, .str x, r => by obtain ⟨t, rfl⟩ := r; exact ⟨[], .str x t⟩
  | _, _, _, .lst hq hs, r => by
    cases r
    obtain ⟨its, rv, pl, _⟩ := I.list hq
    obtain ⟨o, e, c, n, d⟩ := pl.isList
    obtain ⟨as, ra⟩ := Dts.reads I hs rv
    exact ⟨_, .list e c d (by simpa using ra)⟩
  | _, _, _, .tup hq hs, r => by
    cases r
    obtain ⟨its, rv, pl, _⟩ := I.tuple hq
    obtain ⟨o, e, c, n, d⟩ := pl
    obtain ⟨as, ra⟩ := Dts.reads I hs rv
    exact ⟨_, .tuple e c d (by simpa using ra)⟩
theorem Dts.reads {pins : List (Addr × Obj)} {σ : St} {H : Hp} {s : Shared} (I : Inv X pins σ H s) : ∀ {xs : List V} {ds : List PyData} {us : List Value}, Dts X.K H xs ds → Vals xs us → ∃ as, ReadsAll s.heap us ds as
  | _, _, _, .nil, r => by cases r; exact ⟨[], .nil⟩
  | _, _, _, .cons h hs, r => by
    cases r with
    | cons r1 r2 =>
      obtain ⟨as, ra⟩ := Dt.reads I h r1
      obtain ⟨bs, rb⟩ := Dts.reads I hs r2
      exact ⟨_, .cons ra rb⟩
end
theorem op_eqD (hu : X.A.units + 64 < cLine) : OpR X (compareOp .Eq) (fun x y H Q => ∃ d e, Dt X.K H x d ∧ Dt X.K H y e ∧ SeqAt.shaped d = true ∧ SeqAt.shaped e = true ∧ Q (.bl (PyData.eqv d e)) H) := by
  intro pins s σ H x y v u Q I rx ry h
  obtain ⟨d, e, h1, h2, s1, s2, q⟩ := h
  obtain ⟨as, ra⟩ := h1.reads I rx
  obtain ⟨bs, rb⟩ := h2.reads I ry
  exact eq_dataH ra rb s1 s2 hu ⟨.bl _, H, I, rfl, q⟩
theorem op_neD (hu : X.A.units + 64 < cLine) : OpR X (compareOp .NotEq) (fun x y H Q => ∃ d e, Dt X.K H x d ∧ Dt X.K H y e ∧ SeqAt.shaped d = true ∧ SeqAt.shaped e = true ∧ Q (.bl (!PyData.eqv d e)) H) := by
  intro pins s σ H x y v u Q I rx ry h
  obtain ⟨d, e, h1, h2, s1, s2, q⟩ := h
  obtain ⟨as, ra⟩ := h1.reads I rx
  obtain ⟨bs, rb⟩ := h2.reads I ry
  exact ne_dataH ra rb s1 s2 hu ⟨.bl _, H, I, rfl, q⟩
end
end L2
namespace L2
open PySem PySem.Spec PyProof.Rows
structure Cal (P : Program) (w : World) (K : PySem.W.Frag) (mg : Str → Option Value) (base : Heap) (k : Nat) (x : Str) (ps : List Str) (sp : Sp) : Prop where
  ex : ∃ f fd, FnOk P w K mg base CX0 k f fd ps sp ∧ Binds K fd ps [] ∧ PySem.W.keepIn K (.ref f) = true ∧ mg x = some (.ref f)
theorem cal_mk {P : Program} {w : World} {K : PySem.W.Frag} {mg : Str → Option Value} {base : Heap} {k : Nat} {x : Str} {ps : List Str} {sp : Sp} {st : Stmt} {f : Addr} {fd : FuncData} (F : Fun K x x st f fd)
    (hm : mg x = some (.ref f)) (hb : Binds K fd ps []) (G : FnOk P w K mg base CX0 k f fd ps sp) : Cal P w K mg base k x ps sp := ⟨f, fd, G, hb, F.kp, hm⟩
theorem pe_cal {X : Cx} {k j : Nat} {x : Str} {ps : List Str} {sp : Sp} {p pos : Pos} {e : Expr} {es : List Expr} {t : TA} (c : Cal X.prog X.w X.K X.mg X.base k x ps sp) (hr : Room j X.A) (ha : PA X (e :: es) t) (hle : k ≤ j := by decide) (hg : Gl X x := by rfl)
    (hdb : (x == ("__debug__" : Str)) = false := by decide) (he : starEach (e :: es) X.env = (false, eval e X.env) :: starEach es X.env := by rfl) (hpl : (backTo pos (starEach es X.env)).any (·.1) = false := by rfl) :
    PE X (.Call (.Name x p) (e :: es) [] pos) (tCall sp [] E0 t) := by
  obtain ⟨f, fd, G, hb, kp, hm⟩ := c.ex
  exact pe_call G (hr.mono hle) hg hm kp hb .nil pass0 ha hdb he hpl
theorem same_new {H : Hp} {p : Addr} (h : H p = none) (o : HO) : Same H (upd H p o) := fun b u q => by rw [upd_ne (ne_of_none q h)]; exact q
theorem Same.new {H H' : Hp} {p : Addr} (s : Same H H') (h : H' p = none) (o : HO) : Same H (upd H' p o) := s.trans (same_new h o)
theorem small {n : Nat} (h : n ≤ 1000) : n ≤ sizeLine := Nat.le_of_lt (small1000 h)
theorem le_line {n : Nat} (h : n ≤ 1000000) : n < sizeLine := Nat.lt_of_le_of_lt h (by decide)
section
variable {tt : TT} {te : TE} {Q : VK} {σ0 rest : St} {H : Hp} {D : Addr}
end
section
variable {K : PySem.W.Frag} {wi : TI} {cap : List (Option Nat)} {tt : TT} {te : TE} {σ rest : St} {H : Hp} {Q : VK} {xs : List V}
end
section
variable (K : PySem.W.Frag) {X : Cx}
end
end L2
namespace L2
open PySem PySem.Spec PyProof.Rows
def cutS (x : Str) (lo hi : Option Int) : Str := ⟨((x.cps.toList.drop (HT.sIx x.length 0 lo)).take (HT.sIx x.length x.length hi - HT.sIx x.length 0 lo)).toArray⟩
theorem idx_cut (lo hi : Option Int) (n : Nat) : Builtin.Str.strSliceIndices lo hi 1 n = (List.range (HT.sIx n n hi - HT.sIx n 0 lo)).map (HT.sIx n 0 lo + ·) := by
  rw [← sliceRange_one]
  unfold Builtin.Str.strSliceIndices
  have cl : ∀ (o : Option Int) (d : Nat), d ≤ n → (match o with | none => (d : Int) | some i => let i := if i < 0 then i + (n : Int) else i; if (1 : Int) > 0 then max 0 (min i (n : Int)) else max (-1) (min i ((n : Int) - 1))) = ((HT.sIx n d o : Nat) : Int) := fun o d hd => by
    cases o with
    | none => rfl
    | some i =>
      simp only [HT.sIx, show (1 : Int) > 0 by decide, if_true]
      by_cases h : i < 0
      · simp only [h, if_true] <;> omega
      · simp only [h, if_false] <;> omega
  have c1 := cl lo 0 (Nat.zero_le _)
  have c2 := cl hi n (Nat.le_refl _)
  simp only [show (1 : Int) > 0 by decide, if_true] at c1 c2 ⊢
  exact congr (congrArg sliceRange c1) c2 ▸ rfl
theorem made_cut (x : Str) (t : Tok) (l u : Option (Int × Tok)) {Q : Value → Shared → Prop} {s : Shared} (hl : x.length ≤ sizeLine)
    (h : ∀ t' s', (s' = s ∨ s' = { s with toks := s.toks + 1 }) → Q (.str (cutS x (l.map (·.1)) (u.map (·.1))) t') s') : (sliceMade x t l u none).post Q s := by
  unfold sliceMade slicePicked
  have e : Builtin.Str.strSliceIndices (l.map (·.1)) (u.map (·.1)) ((((none : Option (Int × Tok)).map (·.1)).getD 1)) x.length = _ := idx_cut (l.map (·.1)) (u.map (·.1)) x.length
  rw [e]
  have hp := pick_run x.cps (HT.sIx x.length 0 (l.map (·.1))) (HT.sIx x.length x.length (u.map (·.1)) - HT.sIx x.length 0 (l.map (·.1)))
  have hs : HT.sIx x.length x.length (u.map (·.1)) ≤ x.length := HT.sIx_le _ _ (Nat.le_refl _) _
  have hc : x.length = x.cps.toList.length := by simp [Str.length]
  by_cases hw : ((((none : Option (Int × Tok)).map (·.1)).getD 1 == 1 && ((List.range (HT.sIx x.length x.length (u.map (·.1)) - HT.sIx x.length 0 (l.map (·.1)))).map (HT.sIx x.length 0 (l.map (·.1)) + ·)).length == x.length) = true)
  · rw [if_pos hw]
    show Q (.str x t) s
    have hn : HT.sIx x.length x.length (u.map (·.1)) - HT.sIx x.length 0 (l.map (·.1)) = x.length := by
      have := (Bool.and_eq_true _ _ ▸ hw).2
      simpa using this
    have e2 : cutS x (l.map (·.1)) (u.map (·.1)) = x := by
      unfold cutS
      rw [hn]
      by_cases h0 : x.length = 0
      · have : x.cps.toList = [] := List.eq_nil_of_length_eq_zero (by omega)
        cases x with | mk c => simp at this; subst this; simp
      · have h1 : HT.sIx x.length 0 (l.map (·.1)) = 0 := by omega
        rw [h1, List.drop_zero, hc, List.take_length]
    have := h t s (.inl rfl)
    rw [e2] at this
    exact this
  · rw [if_neg hw, hp]
    refine ⟨?_, h _ _ (.inr rfl)⟩
    show ((x.cps.toList.drop _).take _).toArray.size ≤ sizeLine
    rw [List.size_toArray, List.length_take, List.length_drop, ← hc]
    omega
section
variable {X : Cx}
def rSlS : V → Option Int → Option Int → Hp → VK → Prop := fun x lo hi H Q => ∃ z, x = .str z ∧ z.length ≤ sizeLine ∧ Q (.str (cutS z lo hi)) H
theorem sl_str : SlR X rSlS := by
  intro pins s σ H x v vl vu lo hi sl Q I rx hs pl pu h
  obtain ⟨z, rfl, hz, q⟩ := h
  obtain ⟨t, rfl⟩ := rx
  refine ⟨"str", _, slot_str_getitem.lookup, typeIs_str s z t, ?_⟩
  have part : ∀ {v : Value} {o : Option Int}, IsPart v o → ∃ p : Option (Int × Tok), v = partValue p ∧ p.map (·.1) = o := fun p => by
    cases p with
    | none => exact ⟨none, rfl, rfl⟩
    | int i t => exact ⟨some (i, t), rfl, rfl⟩
  obtain ⟨l, rfl, rfl⟩ := part pl
  obtain ⟨u, rfl, rfl⟩ := part pu
  refine wpAny_getItem_str_slice (l := l) (u := u) (st := none) hs rfl (made_cut z t l u hz fun t' s' hs' => ?_)
  rcases hs' with rfl | rfl
  · exact ⟨.str (cutS z (l.map (·.1)) (u.map (·.1))), H, I, ⟨t', rfl⟩, q⟩
  · exact ⟨.str (cutS z (l.map (·.1)) (u.map (·.1))), H, I.tok _, ⟨t', rfl⟩, q⟩
def rSlA (K : PySem.W.Frag) : V → Option Int → Option Int → Hp → VK → Prop := fun x lo hi H Q => rSlL K x lo hi H Q ∨ rSlS x lo hi H Q
theorem sl_any : SlR X (rSlA X.K) := sl_list.or sl_str
end
end L2
namespace MR
open PySem L2
inductive PV where
  | non | bl (b : Bool) | int (i : Int) | str (x : Str)
  | lst (xs : List PV) | frz (xs : List PV) | tup (xs : List PV) | ktp (xs : List PV)
  | dK (kvs : List (Key × PV)) | dT (kvs : List (List Key × PV))
  | obj (c : Nat) (fs : List (Str × PV))
structure MC where
  K : PySem.W.Frag
  cl : Nat → Addr
mutual
inductive Rep (C : MC) (A : Addr → Prop) (H : Hp) : V → PV → Prop
  | non : Rep C A H .non .non
  | bl (b : Bool) : Rep C A H (.bl b) (.bl b)
  | int (i : Int) : Rep C A H (.int i) (.int i)
  | str (x : Str) : Rep C A H (.str x) (.str x)
  | lst {a : Addr} {vs : List V} {xs : List PV} : H a = some (.lst vs) → A a → Reps C A H vs xs → Rep C A H (.ref a) (.lst xs)
  | lstF {a : Addr} {o : Obj} {vs : List V} {xs : List PV} : H a = some (.frz o (.lst vs)) → Reps C A H vs xs → Rep C A H (.ref a) (.frz xs)
  | lstK {a : Addr} {vs : List V} {xs : List PV} : SqL C.K (fun _ => none) a vs → Reps C A H vs xs → Rep C A H (.ref a) (.frz xs)
  | tup {a : Addr} {vs : List V} {xs : List PV} : H a = some (.tup vs) → Reps C A H vs xs → Rep C A H (.ref a) (.tup xs)
  | tupC {a : Addr} {vs : List V} {xs : List PV} : KTup C.K a vs → Reps C A H vs xs → Rep C A H (.ref a) (.tup xs)
  | tupK {a : Addr} {vs : List V} {xs : List PV} : SqT C.K (fun _ => none) a vs → Reps C A H vs xs → Rep C A H (.ref a) (.ktp xs)
  | dK {a : Addr} {kv : List (Key × V)} {kvs : List (Key × PV)} : H a = some (.dK kv) → A a → RepK C A H kv kvs → Rep C A H (.ref a) (.dK kvs)
  | dT {a : Addr} {kv : List (List Key × V)} {kvs : List (List Key × PV)} : H a = some (.dT kv) → A a → RepT C A H kv kvs → Rep C A H (.ref a) (.dT kvs)
  | obj {a dx : Addr} {c : Nat} {f : List (Str × V)} {fs : List (Str × PV)} : H a = some (.ins (C.cl c) dx f) → A a → RepF C A H f fs → Rep C A H (.ref a) (.obj c fs)
inductive Reps (C : MC) (A : Addr → Prop) (H : Hp) : List V → List PV → Prop
  | nil : Reps C A H [] []
  | cons {v : V} {p : PV} {vs : List V} {ps : List PV} : Rep C A H v p → Reps C A H vs ps → Reps C A H (v :: vs) (p :: ps)
inductive RepK (C : MC) (A : Addr → Prop) (H : Hp) : List (Key × V) → List (Key × PV) → Prop
  | nil : RepK C A H [] []
  | cons {k : Key} {v : V} {p : PV} {vs : List (Key × V)} {ps : List (Key × PV)} : Rep C A H v p → RepK C A H vs ps → RepK C A H ((k, v) :: vs) ((k, p) :: ps)
inductive RepT (C : MC) (A : Addr → Prop) (H : Hp) : List (List Key × V) → List (List Key × PV) → Prop
  | nil : RepT C A H [] []
  | cons {k : List Key} {v : V} {p : PV} {vs : List (List Key × V)} {ps : List (List Key × PV)} : Rep C A H v p → RepT C A H vs ps → RepT C A H ((k, v) :: vs) ((k, p) :: ps)
inductive RepF (C : MC) (A : Addr → Prop) (H : Hp) : List (Str × V) → List (Str × PV) → Prop
  | nil : RepF C A H [] []
  | cons {k : Str} {v : V} {p : PV} {vs : List (Str × V)} {ps : List (Str × PV)} : Rep C A H v p → RepF C A H vs ps → RepF C A H ((k, v) :: vs) ((k, p) :: ps)
end
def isMut : HO → Bool
  | .lst _ => true
  | .dK _ => true
  | .dT _ => true
  | .ins _ _ _ => true
  | _ => false
def Ex (A : Addr → Prop) (H : Hp) (A' : Addr → Prop) (H' : Hp) : Prop := ∀ a o, H a = some o → (A a → H' a = some o ∧ A' a) ∧ (isMut o = false → H' a = some o)
theorem Ex.refl (A : Addr → Prop) (H : Hp) : Ex A H A H := fun a o h => ⟨fun q => ⟨h, q⟩, fun _ => h⟩
theorem Ex.trans {A B C : Addr → Prop} {H I J : Hp} (e : Ex A H B I) (f : Ex B I C J) : Ex A H C J := fun a o h => ⟨fun q => by
  obtain ⟨h1, q1⟩ := (e a o h).1 q
  exact (f a o h1).1 q1, fun m => (f a o ((e a o h).2 m)).2 m⟩
theorem Ex.of_same {A : Addr → Prop} {H H' : Hp} (s : Same H H') : Ex A H A H' := fun a o h => ⟨fun q => ⟨s a o h, q⟩, fun _ => s a o h⟩
mutual
theorem Rep.ex {C : MC} {A A' : Addr → Prop} {H H' : Hp} (e : Ex A H A' H') : ∀ {v : V} {p : PV}, Rep C A H v p → Rep C A' H' v p
  | _, _, .non => .non
  | _, _, .bl b => .bl b
  | _, _, .int i => .int i
  | _, _, .str x => .str x
  | _, _, .lst h q r => .lst ((e _ _ h).1 q).1 ((e _ _ h).1 q).2 (Reps.ex e r)
  | _, _, .lstF h r => .lstF ((e _ _ h).2 rfl) (Reps.ex e r)
  | _, _, .lstK h r => .lstK h (Reps.ex e r)
  | _, _, .tup h r => .tup ((e _ _ h).2 rfl) (Reps.ex e r)
  | _, _, .tupC h r => .tupC h (Reps.ex e r)
  | _, _, .tupK h r => .tupK h (Reps.ex e r)
  | _, _, .dK h q r => .dK ((e _ _ h).1 q).1 ((e _ _ h).1 q).2 (RepK.ex e r)
  | _, _, .dT h q r => .dT ((e _ _ h).1 q).1 ((e _ _ h).1 q).2 (RepT.ex e r)
  | _, _, .obj h q r => .obj ((e _ _ h).1 q).1 ((e _ _ h).1 q).2 (RepF.ex e r)
theorem Reps.ex {C : MC} {A A' : Addr → Prop} {H H' : Hp} (e : Ex A H A' H') : ∀ {v : List V} {p : List PV}, Reps C A H v p → Reps C A' H' v p
  | _, _, .nil => .nil
  | _, _, .cons h t => .cons (Rep.ex e h) (Reps.ex e t)
theorem RepK.ex {C : MC} {A A' : Addr → Prop} {H H' : Hp} (e : Ex A H A' H') : ∀ {v : List (Key × V)} {p : List (Key × PV)}, RepK C A H v p → RepK C A' H' v p
  | _, _, .nil => .nil
  | _, _, .cons h t => .cons (Rep.ex e h) (RepK.ex e t)
theorem RepT.ex {C : MC} {A A' : Addr → Prop} {H H' : Hp} (e : Ex A H A' H') : ∀ {v : List (List Key × V)} {p : List (List Key × PV)}, RepT C A H v p → RepT C A' H' v p
  | _, _, .nil => .nil
  | _, _, .cons h t => .cons (Rep.ex e h) (RepT.ex e t)
theorem RepF.ex {C : MC} {A A' : Addr → Prop} {H H' : Hp} (e : Ex A H A' H') : ∀ {v : List (Str × V)} {p : List (Str × PV)}, RepF C A H v p → RepF C A' H' v p
  | _, _, .nil => .nil
  | _, _, .cons h t => .cons (Rep.ex e h) (RepF.ex e t)
end
theorem ex_weak {A A' : Addr → Prop} {H : Hp} (h : ∀ a o, H a = some o → A a → A' a) : Ex A H A' H := fun a o e => ⟨fun q => ⟨e, h a o e q⟩, fun _ => e⟩
theorem Reps.length {C : MC} {A : Addr → Prop} {H : Hp} : ∀ {vs : List V} {ps : List PV}, Reps C A H vs ps → vs.length = ps.length
  | _, _, .nil => rfl
  | _, _, .cons _ t => by simp [Reps.length t]
theorem Reps.append {C : MC} {A : Addr → Prop} {H : Hp} : ∀ {vs us : List V} {ps qs : List PV}, Reps C A H vs ps → Reps C A H us qs → Reps C A H (vs ++ us) (ps ++ qs)
  | _, _, _, _, .nil, h => h
  | _, _, _, _, .cons h t, r => .cons h (Reps.append t r)
theorem Reps.get {C : MC} {A : Addr → Prop} {H : Hp} : ∀ {vs : List V} {ps : List PV} {i : Nat} {p : PV}, Reps C A H vs ps → ps[i]? = some p → ∃ v, vs[i]? = some v ∧ Rep C A H v p
  | _, _, _, _, .nil, e => by simp at e
  | _, _, 0, _, .cons h t, e => by simp at e; subst e; exact ⟨_, rfl, h⟩
  | _, _, i + 1, p, .cons h t, e => by
    obtain ⟨v, e1, r⟩ := Reps.get (i := i) (p := p) t (by simpa using e)
    exact ⟨v, by simpa using e1, r⟩
theorem Reps.drop {C : MC} {A : Addr → Prop} {H : Hp} : ∀ {vs : List V} {ps : List PV} (n : Nat), Reps C A H vs ps → Reps C A H (vs.drop n) (ps.drop n)
  | _, _, 0, h => by simpa using h
  | _, _, n + 1, .nil => by simpa using Reps.nil
  | _, _, n + 1, .cons _ t => by simpa using Reps.drop n t
theorem Reps.take {C : MC} {A : Addr → Prop} {H : Hp} : ∀ {vs : List V} {ps : List PV} (n : Nat), Reps C A H vs ps → Reps C A H (vs.take n) (ps.take n)
  | _, _, 0, h => by simpa using Reps.nil
  | _, _, n + 1, .nil => by simpa using Reps.nil
  | _, _, n + 1, .cons h t => by simpa using Reps.cons h (Reps.take n t)
theorem Reps.set {C : MC} {A : Addr → Prop} {H : Hp} {v : V} {p : PV} (r : Rep C A H v p) : ∀ {vs : List V} {ps : List PV} (n : Nat), Reps C A H vs ps → Reps C A H (vs.set n v) (ps.set n p)
  | _, _, _, .nil => .nil
  | _, _, 0, .cons _ t => .cons r t
  | _, _, n + 1, .cons h t => .cons h (Reps.set r n t)
theorem reps_of {C : MC} {A : Addr → Prop} {H : Hp} {α : Type} (f : α → V) (g : α → PV) (h : ∀ x, Rep C A H (f x) (g x)) : ∀ l : List α, Reps C A H (l.map f) (l.map g)
  | [] => .nil
  | x :: l => .cons (h x) (reps_of f g h l)
theorem RepK.val {C : MC} {A : Addr → Prop} {H : Hp} {k : Key} : ∀ {kv : List (Key × V)} {kvs : List (Key × PV)}, RepK C A H kv kvs → (∃ v p, valV kv k = some v ∧ (kvs.find? fun x => decide (x.1 = k)).map (·.2) = some p ∧ Rep C A H v p) ∨ (valV kv k = none ∧ (kvs.find? fun x => decide (x.1 = k)).map (·.2) = none)
  | _, _, .nil => .inr ⟨rfl, rfl⟩
  | _, _, .cons (k := k') (v := v) (p := p) h t => by
    by_cases e : k' = k
    · subst e
      exact .inl ⟨v, p, valV_pos rfl, by simp, h⟩
    · rw [valV_neg e, List.find?_cons_of_neg (by simpa using e)]
      exact RepK.val t
theorem RepT.val {C : MC} {A : Addr → Prop} {H : Hp} {k : List Key} : ∀ {kv : List (List Key × V)} {kvs : List (List Key × PV)}, RepT C A H kv kvs → (∃ v p, valV kv k = some v ∧ (kvs.find? fun x => decide (x.1 = k)).map (·.2) = some p ∧ Rep C A H v p) ∨ (valV kv k = none ∧ (kvs.find? fun x => decide (x.1 = k)).map (·.2) = none)
  | _, _, .nil => .inr ⟨rfl, rfl⟩
  | _, _, .cons (k := k') (v := v) (p := p) h t => by
    by_cases e : k' = k
    · subst e
      exact .inl ⟨v, p, valV_pos rfl, by simp, h⟩
    · rw [valV_neg e, List.find?_cons_of_neg (by simpa using e)]
      exact RepT.val t
theorem RepF.look {C : MC} {A : Addr → Prop} {H : Hp} {k : Str} {p : PV} : ∀ {f : List (Str × V)} {fs : List (Str × PV)}, RepF C A H f fs → fs.lookup k = some p → ∃ v, f.lookup k = some v ∧ Rep C A H v p
  | _, _, .nil, e => by cases e
  | _, _, .cons (k := k') (v := v) (p := p') h t, e => by
    rw [List.lookup_cons] at e ⊢
    cases q : k == k' with
    | true => rw [q] at e; cases e; exact ⟨v, rfl, h⟩
    | false => rw [q] at e; exact RepF.look t e
theorem RepF.look0 {C : MC} {A : Addr → Prop} {H : Hp} {k : Str} : ∀ {f : List (Str × V)} {fs : List (Str × PV)}, RepF C A H f fs → fs.lookup k = none → f.lookup k = none
  | _, _, .nil, e => rfl
  | _, _, .cons (k := k') (v := v) (p := p') h t, e => by
    rw [List.lookup_cons] at e ⊢
    cases q : k == k' with
    | true => rw [q] at e; cases e
    | false => rw [q] at e; exact RepF.look0 t e
def Top (C : MC) (A : Addr → Prop) (H : Hp) (a : Addr) : PV → Prop
  | .lst xs => ∃ vs, H a = some (.lst vs) ∧ Reps C A H vs xs
  | .dK kvs => ∃ kv, H a = some (.dK kv) ∧ RepK C A H kv kvs
  | .dT kvs => ∃ kv, H a = some (.dT kv) ∧ RepT C A H kv kvs
  | .obj c fs => ∃ dx f, H a = some (.ins (C.cl c) dx f) ∧ RepF C A H f fs
  | _ => False
theorem Top.ex {C : MC} {A A' : Addr → Prop} {H H' : Hp} {a : Addr} {p : PV} (e : Ex A H A' H') (h : ∀ o, H a = some o → H' a = some o) (t : Top C A H a p) : Top C A' H' a p := by
  cases p with
  | lst xs => obtain ⟨vs, q, r⟩ := t; exact ⟨vs, h _ q, r.ex e⟩
  | dK kvs => obtain ⟨vs, q, r⟩ := t; exact ⟨vs, h _ q, r.ex e⟩
  | dT kvs => obtain ⟨vs, q, r⟩ := t; exact ⟨vs, h _ q, r.ex e⟩
  | obj c fs => obtain ⟨dx, f, q, r⟩ := t; exact ⟨dx, f, h _ q, r.ex e⟩
  | _ => exact t
theorem Top.live {C : MC} {A : Addr → Prop} {H : Hp} {a : Addr} {p : PV} (t : Top C A H a p) : ∃ o, H a = some o ∧ isMut o = true := by
  cases p with
  | lst xs => obtain ⟨vs, q, r⟩ := t; exact ⟨_, q, rfl⟩
  | dK kvs => obtain ⟨vs, q, r⟩ := t; exact ⟨_, q, rfl⟩
  | dT kvs => obtain ⟨vs, q, r⟩ := t; exact ⟨_, q, rfl⟩
  | obj c fs => obtain ⟨dx, f, q, r⟩ := t; exact ⟨_, q, rfl⟩
  | _ => exact t.elim
theorem Top.rep {C : MC} {A : Addr → Prop} {H : Hp} {a : Addr} {p : PV} (t : Top C A H a p) (h : A a) : Rep C A H (.ref a) p := by
  cases p with
  | lst xs => obtain ⟨vs, q, r⟩ := t; exact .lst q h r
  | dK kvs => obtain ⟨vs, q, r⟩ := t; exact .dK q h r
  | dT kvs => obtain ⟨vs, q, r⟩ := t; exact .dT q h r
  | obj c fs => obtain ⟨dx, f, q, r⟩ := t; exact .obj q h r
  | _ => exact t.elim
def RepB (C : MC) (A : Addr → Prop) (H : Hp) (v : V) (p : PV) : Prop := Rep C A H v p ∨ ∃ a, v = .ref a ∧ Top C A H a p
theorem RepB.ex {C : MC} {A A' : Addr → Prop} {H H' : Hp} {v : V} {p : PV} (e : Ex A H A' H') (s : Same H H') (h : RepB C A H v p) : RepB C A' H' v p := by
  rcases h with h | ⟨a, q, t⟩
  · exact .inl (h.ex e)
  · exact .inr ⟨a, q, t.ex e fun o z => s _ _ z⟩
section
variable {C : MC} {A : Addr → Prop} {H : Hp} {v : V}
theorem sqK {K : PySem.W.Frag} {a : Addr} {vs : List V} (h : SqL K (fun _ => none) a vs) : SqL K H a vs := by
  rcases h with (h | ⟨o, h⟩) | h
  · cases h
  · cases h
  · exact .inr h
theorem sqTK {K : PySem.W.Frag} {a : Addr} {vs : List V} (h : SqT K (fun _ => none) a vs) : SqT K H a vs := by
  rcases h with (h | ⟨o, h⟩) | h
  · cases h
  · cases h
  · exact .inr h
theorem RepB.lst {xs : List PV} (h : RepB C A H v (.lst xs)) : ∃ a vs, v = .ref a ∧ H a = some (.lst vs) ∧ Reps C A H vs xs := by
  rcases h with h | ⟨a, rfl, vs, q, r⟩
  · cases h with
    | lst q _ r => exact ⟨_, _, rfl, q, r⟩
  · exact ⟨a, vs, rfl, q, r⟩
theorem RepB.frz {xs : List PV} (h : RepB C A H v (.frz xs)) : ∃ a vs, v = .ref a ∧ SqL C.K H a vs ∧ Reps C A H vs xs := by
  rcases h with h | ⟨a, rfl, t⟩
  · cases h with
    | lstF q r => exact ⟨_, _, rfl, .inl (.inr ⟨_, q⟩), r⟩
    | lstK q r => exact ⟨_, _, rfl, sqK q, r⟩
  · exact t.elim
def TupR (K : PySem.W.Frag) (H : Hp) (a : Addr) (vs : List V) : Prop := H a = some (.tup vs) ∨ KTup K a vs
theorem TupR.sq {K : PySem.W.Frag} {H : Hp} {a : Addr} {vs : List V} (h : TupR K H a vs) : SqT K H a vs := h.elim (fun q => SqT.of q) Or.inr
theorem TupR.rep {C : MC} {A : Addr → Prop} {H : Hp} {a : Addr} {vs : List V} {xs : List PV} (h : TupR C.K H a vs) (r : Reps C A H vs xs) : Rep C A H (.ref a) (.tup xs) := h.elim (fun q => .tup q r) fun q => .tupC q r
theorem TupR.ex {K : PySem.W.Frag} {A A' : Addr → Prop} {H H' : Hp} {a : Addr} {vs : List V} (h : TupR K H a vs) (e : Ex A H A' H') : TupR K H' a vs := h.imp (fun q => (e _ _ q).2 rfl) id
theorem TupR.key {K : PySem.W.Frag} {H : Hp} {a : Addr} {vs : List V} {ks : List Key} (h : TupR K H a vs) (k : KeyT ks vs) : CKey K H a ks := h.imp (fun q => ⟨vs, q, k⟩) fun q => ⟨vs, q, k⟩
theorem RepB.tup {xs : List PV} (h : RepB C A H v (.tup xs)) : ∃ a vs, v = .ref a ∧ TupR C.K H a vs ∧ Reps C A H vs xs := by
  rcases h with h | ⟨a, rfl, t⟩
  · cases h with
    | tup q r => exact ⟨_, _, rfl, .inl q, r⟩
    | tupC q r => exact ⟨_, _, rfl, .inr q, r⟩
  · exact t.elim
theorem RepB.ktp {xs : List PV} (h : RepB C A H v (.ktp xs)) : ∃ a vs, v = .ref a ∧ SqT C.K H a vs ∧ Reps C A H vs xs := by
  rcases h with h | ⟨a, rfl, t⟩
  · cases h with
    | tupK q r => exact ⟨_, _, rfl, sqTK q, r⟩
  · exact t.elim
theorem RepB.dK {kvs : List (Key × PV)} (h : RepB C A H v (.dK kvs)) : ∃ a kv, v = .ref a ∧ H a = some (.dK kv) ∧ RepK C A H kv kvs := by
  rcases h with h | ⟨a, rfl, vs, q, r⟩
  · cases h with
    | dK q _ r => exact ⟨_, _, rfl, q, r⟩
  · exact ⟨a, vs, rfl, q, r⟩
theorem RepB.dT {kvs : List (List Key × PV)} (h : RepB C A H v (.dT kvs)) : ∃ a kv, v = .ref a ∧ H a = some (.dT kv) ∧ RepT C A H kv kvs := by
  rcases h with h | ⟨a, rfl, vs, q, r⟩
  · cases h with
    | dT q _ r => exact ⟨_, _, rfl, q, r⟩
  · exact ⟨a, vs, rfl, q, r⟩
theorem RepB.obj {c : Nat} {fs : List (Str × PV)} (h : RepB C A H v (.obj c fs)) : ∃ a dx f, v = .ref a ∧ H a = some (.ins (C.cl c) dx f) ∧ RepF C A H f fs := by
  rcases h with h | ⟨a, rfl, dx, vs, q, r⟩
  · cases h with
    | obj q _ r => exact ⟨_, _, _, rfl, q, r⟩
  · exact ⟨a, dx, vs, rfl, q, r⟩
theorem RepB.int {i : Int} (h : RepB C A H v (.int i)) : v = .int i := by
  rcases h with h | ⟨a, rfl, t⟩
  · cases h; rfl
  · exact t.elim
theorem RepB.str {x : Str} (h : RepB C A H v (.str x)) : v = .str x := by
  rcases h with h | ⟨a, rfl, t⟩
  · cases h; rfl
  · exact t.elim
theorem RepB.bl {x : Bool} (h : RepB C A H v (.bl x)) : v = .bl x := by
  rcases h with h | ⟨a, rfl, t⟩
  · cases h; rfl
  · exact t.elim
theorem RepB.non (h : RepB C A H v .non) : v = .non := by
  rcases h with h | ⟨a, rfl, t⟩
  · cases h; rfl
  · exact t.elim
end
structure BX where
  C : MC
  A : Addr → Prop
  H0 : Hp
  fx : Nat → Option V
def fx0 (x : V) : Nat → Option V
  | 0 => some x
  | _ + 1 => none
abbrev Env := List (Option PV)
def Bs (b : BX) (Ow : Addr → Prop) (a : Addr) : Prop := ¬ Ow a ∧ (b.A a ∨ b.H0 a = none)
structure ER (b : BX) (Ow : Addr → Prop) (G : List Nat) (σ : St) (env : Env) (H : Hp) : Prop where
  len : σ.length = env.length
  same : Same b.H0 H
  live : ∀ a, Ow a → ∃ o, H a = some o
  new : ∀ a, Ow a → b.H0 a = none
  val : ∀ i p, env[i]? = some (some p) → i ∉ G → ∃ v, σ[i]? = some (some v) ∧ Rep b.C (Bs b Ow) H v p
  own : ∀ i p, env[i]? = some (some p) → i ∈ G → ∃ a, σ[i]? = some (some (.ref a)) ∧ Ow a ∧ Top b.C (Bs b Ow) H a p
  sep : ∀ i j a p q, env[i]? = some (some p) → i ∈ G → σ[i]? = some (some (.ref a)) → env[j]? = some (some q) → j ∈ G → σ[j]? = some (some (.ref a)) → i = j
  fix : ∀ i v, b.fx i = some v → σ[i]? = some (some v)
inductive Md where | val | own | bor
def Res (b : BX) (Ow : Addr → Prop) (H H' : Hp) (m : Md) (v : V) (p : PV) : Prop := match m with
  | .val => Rep b.C (Bs b Ow) H' v p
  | .own => ∃ a, v = .ref a ∧ H a = none ∧ Top b.C (fun c => Bs b Ow c ∧ c ≠ a) H' a p
  | .bor => RepB b.C (Bs b Ow) H' v p
def tM (b : BX) (G : List Nat) (m : Md) (f : Env → Option PV) : TE := fun σ H Q => ∃ Ow env p, ER b Ow G σ env H ∧ f env = some p ∧ ∀ v H', Same H H' → Res b Ow H H' m v p → Q v H'
def tMT (b : BX) (G : List Nat) (f : Env → Option Bool) : TT := fun σ H Q => ∃ Ow env k, ER b Ow G σ env H ∧ f env = some k ∧ ∀ H', Same H H' → Q k H'
section
variable {b : BX} {Ow : Addr → Prop} {G : List Nat} {σ : St} {env : Env} {H H' : Hp}
theorem ER.up (E : ER b Ow G σ env H) (s : Same H H') : ER b Ow G σ env H' :=
  ⟨E.len, E.same.trans s, fun a h => let ⟨o, e⟩ := E.live a h; ⟨o, s _ _ e⟩, E.new, fun i p h n => let ⟨v, e, r⟩ := E.val i p h n; ⟨v, e, r.ex (.of_same s)⟩,
    fun i p h n => let ⟨a, e, w, t⟩ := E.own i p h n; ⟨a, e, w, t.ex (.of_same s) fun o z => s _ _ z⟩, E.sep, E.fix⟩
theorem ER.fresh (E : ER b Ow G σ env H) {a : Addr} (h : H a = none) : Bs b Ow a :=
  ⟨fun w => (by obtain ⟨o, e⟩ := E.live a w; rw [h] at e; cases e), .inr (E.same.free h)⟩
theorem Res.val {m : Md} {v : V} {p : PV} (E : ER b Ow G σ env H) (hm : m ≠ .bor) (r : Res b Ow H H' m v p) : Res b Ow H H' .val v p := by
  cases m with
  | val => exact r
  | bor => exact absurd rfl hm
  | own =>
    obtain ⟨a, rfl, h, t⟩ := r
    have hw : Ex (fun c => Bs b Ow c ∧ c ≠ a) H' (Bs b Ow) H' := ex_weak fun _ _ _ z => z.1
    exact (t.ex hw fun o z => z).rep (E.fresh h)
theorem Res.bor {m : Md} {v : V} {p : PV} (r : Res b Ow H H' m v p) : Res b Ow H H' .bor v p := by
  cases m with
  | val => exact .inl r
  | bor => exact r
  | own =>
    obtain ⟨a, rfl, h, t⟩ := r
    have hw : Ex (fun c => Bs b Ow c ∧ c ≠ a) H' (Bs b Ow) H' := ex_weak fun _ _ _ z => z.1
    exact .inr ⟨a, rfl, t.ex hw fun o z => z⟩
theorem Res.up {m : Md} {v : V} {p : PV} {H'' : Hp} (r : Res b Ow H H' m v p) (s : Same H' H'') : Res b Ow H H'' m v p := by
  cases m with
  | val => exact Rep.ex (.of_same s) r
  | bor => exact RepB.ex (.of_same s) s r
  | own =>
    obtain ⟨a, e, h, t⟩ := r
    exact ⟨a, e, h, t.ex (.of_same s) fun o z => s _ _ z⟩
theorem Res.down {m : Md} {v : V} {p : PV} {H'' : Hp} (s : Same H H') (r : Res b Ow H' H'' m v p) : Res b Ow H H'' m v p := by
  cases m with
  | val => exact r
  | bor => exact r
  | own =>
    obtain ⟨a, e, h, t⟩ := r
    exact ⟨a, e, s.free h, t⟩
end
theorem PE.imp {X : Cx} {e : Expr} {t u : TE} (h : PE X e t) (i : ∀ σ H Q, u σ H Q → t σ H Q) : PE X e u := fun pins s σ H Q I q => h pins s σ H Q I (i σ H Q q)
theorem PT.imp {X : Cx} {e : Expr} {t u : TT} (h : PT X e t) (i : ∀ σ H Q, u σ H Q → t σ H Q) : PT X e u := fun pins s σ H Q I q => h pins s σ H Q I (i σ H Q q)
theorem PS.imp {X : Cx} {e : Stmt} {t u : TS} (h : PS X e t) (i : ∀ D σ H, u D σ H → t D σ H) : PS X e u := fun pins s σ H D I q => h pins s σ H D I (i D σ H q)
theorem PE.or {X : Cx} {e : Expr} {t u : TE} (h : PE X e t) (h' : PE X e u) : PE X e (fun σ H Q => t σ H Q ∨ u σ H Q) := fun pins s σ H Q I q => q.elim (h pins s σ H Q I) (h' pins s σ H Q I)
theorem OpR.or {X : Cx} {op : Value → Value → Sem Value} {r r' : R2} (h : OpR X op r) (h' : OpR X op r') : OpR X op (fun x y H Q => r x y H Q ∨ r' x y H Q) := fun pins s σ H x y v u Q I rx ry q => q.elim (h pins s σ H x y v u Q I rx ry) (h' pins s σ H x y v u Q I rx ry)
abbrev SE (X : Cx) (b : BX) (G : List Nat) (m : Md) (e : Expr) (f : Env → Option PV) : Prop := PE X e (tM b G m f)
abbrev ST (X : Cx) (b : BX) (G : List Nat) (e : Expr) (f : Env → Option Bool) : Prop := PT X e (tMT b G f)
theorem SE.bor {X : Cx} {b : BX} {G : List Nat} {m : Md} {e : Expr} {f : Env → Option PV} (h : SE X b G m e f) : SE X b G .bor e f :=
  PE.imp h fun σ H Q ⟨Ow, env, p, E, hf, k⟩ => ⟨Ow, env, p, E, hf, fun v H' s r => k v H' s r.bor⟩
theorem SE.val {X : Cx} {b : BX} {G : List Nat} {e : Expr} {f : Env → Option PV} (h : SE X b G .own e f) : SE X b G .val e f :=
  PE.imp h fun σ H Q ⟨Ow, env, p, E, hf, k⟩ => ⟨Ow, env, p, E, hf, fun v H' s r => k v H' s (r.val E (by intro z; cases z))⟩
end MR
namespace MR
open PySem L2
def bC (p : PV) (env : Env) : Option PV := some p
@[simp] theorem bC_ap (p : PV) (env : Env) : bC p env = (some p) := id rfl
def bV (i : Nat) (env : Env) : Option PV := match env[i]? with | some o => o | none => none
@[simp] theorem bV_ap (i : Nat) (env : Env) : bV i env = (match env[i]? with | some o => o | none => none) := id rfl
def b1 (g : PV → Option PV) (f : Env → Option PV) (env : Env) : Option PV := (f env).bind g
@[simp] theorem b1_ap (g : PV → Option PV) (f : Env → Option PV) (env : Env) : b1 g f env = ((f env).bind g) := id rfl
def b2 (g : PV → PV → Option PV) (f h : Env → Option PV) (env : Env) : Option PV := (f env).bind fun x => (h env).bind fun y => g x y
@[simp] theorem b2_ap (g : PV → PV → Option PV) (f h : Env → Option PV) (env : Env) : b2 g f h env = ((f env).bind fun x => (h env).bind fun y => g x y) := id rfl
def b3 (g : PV → PV → PV → Option PV) (f h k : Env → Option PV) (env : Env) : Option PV := (f env).bind fun x => (h env).bind fun y => (k env).bind fun z => g x y z
def bAnd (f g : Env → Option PV) (env : Env) : Option PV := (f env).bind fun x => match x with | .bl true => g env | .bl false => some (.bl false) | _ => none
@[simp] theorem bAnd_ap (f g : Env → Option PV) (env : Env) : bAnd f g env = ((f env).bind fun x => match x with | .bl true => g env | .bl false => some (.bl false) | _ => none) := id rfl
def bOr (f g : Env → Option PV) (env : Env) : Option PV := (f env).bind fun x => match x with | .bl true => some (.bl true) | .bl false => g env | _ => none
@[simp] theorem bOr_ap (f g : Env → Option PV) (env : Env) : bOr f g env = ((f env).bind fun x => match x with | .bl true => some (.bl true) | .bl false => g env | _ => none) := id rfl
def tV (f : Env → Option PV) (env : Env) : Option Bool := (f env).bind fun x => match x with | .bl c => some c | _ => none
@[simp] theorem tV_ap (f : Env → Option PV) (env : Env) : tV f env = ((f env).bind fun x => match x with | .bl c => some c | _ => none) := id rfl
def tA (f g : Env → Option Bool) (env : Env) : Option Bool := (f env).bind fun x => if x = true then g env else some false
def tO (f g : Env → Option Bool) (env : Env) : Option Bool := (f env).bind fun x => if x = true then some true else g env
@[simp] theorem tO_ap (f g : Env → Option Bool) (env : Env) : tO f g env = ((f env).bind fun x => if x = true then some true else g env) := id rfl
def tN (f : Env → Option Bool) (env : Env) : Option Bool := (f env).bind fun x => some (!x)
@[simp] theorem tN_ap (f : Env → Option Bool) (env : Env) : tN f env = ((f env).bind fun x => some (!x)) := id rfl
def bNil (env : Env) : Option (List PV) := some []
@[simp] theorem bNil_ap (env : Env) : bNil env = (some []) := id rfl
def bCons (f : Env → Option PV) (g : Env → Option (List PV)) (env : Env) : Option (List PV) := (f env).bind fun x => (g env).bind fun xs => some (x :: xs)
@[simp] theorem bCons_ap (f : Env → Option PV) (g : Env → Option (List PV)) (env : Env) : bCons f g env = ((f env).bind fun x => (g env).bind fun xs => some (x :: xs)) := id rfl
def bLst (g : Env → Option (List PV)) (env : Env) : Option PV := (g env).bind fun xs => if xs.length ≤ 1000000 then some (.lst xs) else none
@[simp] theorem bLst_ap (g : Env → Option (List PV)) (env : Env) : bLst g env = ((g env).bind fun xs => if xs.length ≤ 1000000 then some (.lst xs) else none) := id rfl
def bTup (g : Env → Option (List PV)) (env : Env) : Option PV := (g env).bind fun xs => if xs.length ≤ 1000000 then some (.tup xs) else none
@[simp] theorem bTup_ap (g : Env → Option (List PV)) (env : Env) : bTup g env = ((g env).bind fun xs => if xs.length ≤ 1000000 then some (.tup xs) else none) := id rfl
def bCall (m : List PV → Option PV) (g : Env → Option (List PV)) (env : Env) : Option PV := (g env).bind m
@[simp] theorem bCall_ap (m : List PV → Option PV) (g : Env → Option (List PV)) (env : Env) : bCall m g env = ((g env).bind m) := id rfl
section
variable {b : BX} {G : List Nat} {m : Md} {σ : St} {H : Hp} {Q : VK}
def Op2 (b : BX) (m : Md) (r : R2) (g : PV → PV → Option PV) : Prop := ∀ (Ow : Addr → Prop) (H : Hp) (v1 v2 : V) (p1 p2 p : PV) (Q : VK), (∀ a, H a = none → Bs b Ow a) → RepB b.C (Bs b Ow) H v1 p1 → RepB b.C (Bs b Ow) H v2 p2 → g p1 p2 = some p →
  (∀ v H', Same H H' → Res b Ow H H' m v p → Q v H') → r v1 v2 H Q
theorem tM_op {r : R2} {g : PV → PV → Option PV} {f1 f2 : Env → Option PV} (hr : Op2 b m r g) (h : tM b G m (b2 g f1 f2) σ H Q) : tOp r (tM b G .bor f1) (tM b G .bor f2) σ H Q := by
  obtain ⟨Ow, env, p, E, hf, k⟩ := h
  unfold b2 at hf
  cases h1 : f1 env with
  | none => rw [h1] at hf; cases hf
  | some p1 =>
    rw [h1] at hf
    cases h2 : f2 env with
    | none => rw [h2] at hf; cases hf
    | some p2 =>
      rw [h2] at hf
      exact ⟨Ow, env, p1, E, h1, fun v1 H1 s1 r1 => ⟨Ow, env, p2, E.up s1, h2, fun v2 H2 s2 r2 => hr Ow H2 v1 v2 p1 p2 p Q (fun a => (E.up (s1.trans s2)).fresh) (r1.up s2) r2 hf fun v H' s r => k v H' (s1.trans (s2.trans s)) (r.down (s1.trans s2))⟩⟩
def Op1 (b : BX) (m : Md) (r : V → Hp → VK → Prop) (g : PV → Option PV) : Prop := ∀ (Ow : Addr → Prop) (H : Hp) (v1 : V) (p1 p : PV) (Q : VK), (∀ a, H a = none → Bs b Ow a) → RepB b.C (Bs b Ow) H v1 p1 → g p1 = some p →
  (∀ v H', Same H H' → Res b Ow H H' m v p → Q v H') → r v1 H Q
theorem tM_un {r : V → Hp → VK → Prop} {g : PV → Option PV} {f1 : Env → Option PV} (hr : Op1 b m r g) (h : tM b G m (b1 g f1) σ H Q) : tM b G .bor f1 σ H fun x H1 => r x H1 Q := by
  obtain ⟨Ow, env, p, E, hf, k⟩ := h
  unfold b1 at hf
  cases h1 : f1 env with
  | none => rw [h1] at hf; cases hf
  | some p1 =>
    rw [h1] at hf
    exact ⟨Ow, env, p1, E, h1, fun v1 H1 s1 r1 => hr Ow H1 v1 p1 p Q (fun a => (E.up s1).fresh) r1 hf fun v H' s r => k v H' (s1.trans s) (r.down s1)⟩
end
@[simp] def addV : PV → PV → Option PV
  | .int i, .int j => some (.int (i + j))
  | .str x, .str y => if x.length + y.length ≤ 1000000 then some (.str (x ++ y)) else none
  | .lst xs, .lst ys => if xs.length + ys.length ≤ 1000000 then some (.lst (xs ++ ys)) else none
  | _, _ => none
@[simp] def catV : PV → PV → Option PV
  | .lst xs, .lst ys => if xs.length + ys.length ≤ 1000000 then some (.lst (xs ++ ys)) else none
  | _, _ => none
def catT : PV → PV → Option PV
  | .tup xs, .tup ys => if xs ≠ [] ∧ xs.length + ys.length ≤ 1000000 then some (.tup (xs ++ ys)) else none
  | _, _ => none
noncomputable def smI (i : Int) : Bool := @decide (-18446744073709551616 < i ∧ i < 18446744073709551616) (Classical.propDecidable _)
@[simp] noncomputable def mulV : PV → PV → Option PV
  | .int i, .int j => if (smI i || smI j) = true then some (.int (i * j)) else none
  | _, _ => none
@[simp] def divV : PV → PV → Option PV
  | .int i, .int j => if 0 < j ∧ j < 1073741824 then some (.int (i / j)) else none
  | _, _ => none
@[simp] def modV : PV → PV → Option PV
  | .int i, .int j => if 0 < j then some (.int (i % j)) else none
  | _, _ => none
@[simp] def cmpV (g : Int → Int → Bool) : PV → PV → Option PV
  | .int i, .int j => some (.bl (g i j))
  | _, _ => none
theorem line_le {n : Nat} (h : n ≤ 1000000) : n ≤ sizeLine := Nat.le_of_lt (le_line h)
section
variable {b : BX}
theorem o2_cmp {g : Int → Int → Bool} : Op2 b .val (rI0 fun i j => .bl (g i j)) (cmpV g) := by
  intro Ow H v1 v2 p1 p2 p Q hn r1 r2 e k
  unfold cmpV at e
  split at e
  · cases e
    rw [r1.int, r2.int]
    exact ⟨_, _, rfl, rfl, k _ H (Same.refl _) (.bl _)⟩
  · cases e
theorem o2_mul : Op2 b .val (rI CMul fun i j => .int (i * j)) mulV := by
  intro Ow H v1 v2 p1 p2 p Q hn r1 r2 e k
  unfold mulV at e
  split at e
  · split at e
    · rename_i h
      cases e
      rw [r1.int, r2.int]
      refine ⟨_, _, rfl, rfl, ?_, k _ H (Same.refl _) (.int _)⟩
      simp only [smI, Bool.or_eq_true, decide_eq_true_eq] at h
      exact h
    · cases e
  · cases e
theorem smI_of {i : Int} (h : -18446744073709551616 < i) (h' : i < 18446744073709551616) : smI i = true := @decide_eq_true _ (Classical.propDecidable _) ⟨h, h'⟩
theorem o2_div : Op2 b .val (rI CDiv fun i j => .int (i / j)) divV := by
  intro Ow H v1 v2 p1 p2 p Q hn r1 r2 e k
  unfold divV at e
  split at e
  · split at e
    · rename_i h
      cases e
      rw [r1.int, r2.int]
      exact ⟨_, _, rfl, rfl, h, k _ H (Same.refl _) (.int _)⟩
    · cases e
  · cases e
theorem o2_mod : Op2 b .val (rI (fun _ j => 0 < j) fun i j => .int (i % j)) modV := by
  intro Ow H v1 v2 p1 p2 p Q hn r1 r2 e k
  unfold modV at e
  split at e
  · split at e
    · rename_i h
      cases e
      rw [r1.int, r2.int]
      exact ⟨_, _, rfl, rfl, h, k _ H (Same.refl _) (.int _)⟩
    · cases e
  · cases e
end
theorem res_new {b : BX} {Ow : Addr → Prop} {H : Hp} {a : Addr} {vs : List V} {xs : List PV} (h : H a = none) (r : Reps b.C (Bs b Ow) H vs xs) : Res b Ow H (upd H a (.lst vs)) .own (.ref a) (.lst xs) := by
  refine ⟨a, rfl, h, vs, upd_same, r.ex fun c o e => ?_⟩
  have hc : c ≠ a := ne_of_none e h
  exact ⟨fun q => ⟨by rw [upd_ne hc]; exact e, q, hc⟩, fun _ => by rw [upd_ne hc]; exact e⟩
theorem res_tup {b : BX} {Ow : Addr → Prop} {H H0 : Hp} {a : Addr} {vs : List V} {xs : List PV} (h : H a = none) (r : Reps b.C (Bs b Ow) H vs xs) : Res b Ow H0 (upd H a (.tup vs)) .val (.ref a) (.tup xs) :=
  Rep.tup upd_same (r.ex (.of_same (same_new h _)))
section
variable {b : BX}
theorem o2_add : Op2 b .val (fun x y H Q => (rI0 (fun i j => .int (i + j)) x y H Q ∨ ∃ i j, x = .str i ∧ y = .str j ∧ i.length + j.length ≤ sizeLine ∧ Q (.str (i ++ j)) H) ∨ rCat x y H Q) addV := by
  intro Ow H v1 v2 p1 p2 p Q hn r1 r2 e k
  unfold addV at e
  split at e
  · cases e
    rw [r1.int, r2.int]
    exact .inl (.inl ⟨_, _, rfl, rfl, k _ H (Same.refl _) (.int _)⟩)
  · split at e
    · rename_i h
      cases e
      rw [r1.str, r2.str]
      exact .inl (.inr ⟨_, _, rfl, rfl, line_le h, k _ H (Same.refl _) (.str _)⟩)
    · cases e
  · split at e
    · rename_i h
      cases e
      obtain ⟨a, vs, rfl, ha, ra⟩ := r1.lst
      obtain ⟨c, us, rfl, hc, rc⟩ := r2.lst
      exact .inr ⟨a, c, vs, us, rfl, rfl, ha, hc, line_le (by rw [ra.length, rc.length]; exact h), fun q hq => k _ _ (same_new hq _) (.lst upd_same (hn q hq) ((ra.append rc).ex (.of_same (same_new hq _))))⟩
    · cases e
  · cases e
theorem o2_cat : Op2 b .own rCat catV := by
  intro Ow H v1 v2 p1 p2 p Q hn r1 r2 e k
  unfold catV at e
  split at e
  · split at e
    · rename_i h
      cases e
      obtain ⟨a, vs, rfl, ha, ra⟩ := r1.lst
      obtain ⟨c, us, rfl, hc, rc⟩ := r2.lst
      refine ⟨a, c, vs, us, rfl, rfl, ha, hc, line_le (by rw [ra.length, rc.length]; exact h), fun q hq => k _ _ (same_new hq _) (res_new hq (ra.append rc))⟩
    · cases e
  · cases e
theorem o2_catT : Op2 b .val (rCatT b.C.K) catT := by
  intro Ow H v1 v2 p1 p2 p Q hn r1 r2 e k
  unfold catT at e
  split at e
  · split at e
    · rename_i h
      cases e
      obtain ⟨a, vs, rfl, ha, ra⟩ := r1.tup
      obtain ⟨c, us, rfl, hc, rc⟩ := r2.tup
      refine ⟨a, c, vs, us, rfl, rfl, ha.sq, hc.sq, ?_, line_le (by rw [ra.length, rc.length]; exact h.2), fun hu => ?_, fun _ q hq => k _ _ (same_new hq _) (res_tup hq (ra.append rc))⟩
      rotate_left
      · subst hu
        cases rc
        rw [List.append_nil] at k
        exact k _ H (Same.refl _) (ha.rep ra)
      intro z
      have := ra.length
      rw [z] at this
      exact h.1 (List.length_eq_zero_iff.mp this.symm)
    · cases e
  · cases e
end
section
variable {X : Cx} {b : BX} {G : List Nat} {m : Md} {e e1 e2 : Expr} {f f1 f2 : Env → Option PV} {pos : Pos}
theorem se_int {i j pos} : SE X b G .val (.Constant (.int i) j pos) (bC (.int i)) := PE.imp pe_int fun σ H Q ⟨Ow, env, p, E, hf, k⟩ => by cases hf; exact k _ H (Same.refl _) (.int i)
theorem se_bl {i j pos} : SE X b G .val (.Constant (.bool i) j pos) (bC (.bl i)) := PE.imp pe_bl fun σ H Q ⟨Ow, env, p, E, hf, k⟩ => by cases hf; exact k _ H (Same.refl _) (.bl i)
theorem se_str {i j pos} : SE X b G .val (.Constant (.str i) j pos) (bC (.str i)) := PE.imp pe_str fun σ H Q ⟨Ow, env, p, E, hf, k⟩ => by cases hf; exact k _ H (Same.refl _) (.str i)
theorem bV_some {i : Nat} {env : Env} {p : PV} (h : bV i env = some p) : env[i]? = some (some p) := by
  unfold bV at h
  split at h
  · rename_i o e; rw [e, h]
  · cases h
theorem se_v (i : Nat) {x : Str} {pos : Pos} (hN : X.N[i]? = some x := by rfl) (hv : Vis X.env.scope x := by first | exact Or.inl rfl | exact Or.inr (Or.inl rfl) | exact Or.inr (Or.inr rfl)) (hG : i ∉ G := by decide) (hd : (x == ("__debug__" : Str)) = false := by decide)
    (hcd : (x == ("__classdict__" : Str)) = false := by decide) : SE X b G .val (.Name x pos) (bV i) := PE.imp (pe_var hN hv hd hcd) fun σ H Q ⟨Ow, env, p, E, hf, k⟩ => by
  obtain ⟨v, e, r⟩ := E.val i p (bV_some hf) hG
  exact ⟨v, e, k v H (Same.refl _) r⟩
theorem se_b (i : Nat) {x : Str} {pos : Pos} (hN : X.N[i]? = some x := by rfl) (hv : Vis X.env.scope x := by first | exact Or.inl rfl | exact Or.inr (Or.inl rfl) | exact Or.inr (Or.inr rfl)) (hd : (x == ("__debug__" : Str)) = false := by decide)
    (hcd : (x == ("__classdict__" : Str)) = false := by decide) : SE X b G .bor (.Name x pos) (bV i) := PE.imp (pe_var hN hv hd hcd) fun σ H Q ⟨Ow, env, p, E, hf, k⟩ => by
  by_cases hG : i ∈ G
  · obtain ⟨a, e, _, t⟩ := E.own i p (bV_some hf) hG
    exact ⟨_, e, k _ H (Same.refl _) (.inr ⟨a, rfl, t⟩)⟩
  · obtain ⟨v, e, r⟩ := E.val i p (bV_some hf) hG
    exact ⟨v, e, k v H (Same.refl _) (.inl r)⟩
theorem se_gS {x z : Str} {t : Tok} {pos : Pos} (hm : X.mg x = some (.str z t)) (hg : Gl X x := by rfl) (hd : (x == ("__debug__" : Str)) = false := by decide) : SE X b G .val (.Name x pos) (bC (.str z)) :=
  PE.imp (pe_glob hg hm (v := .str z) ⟨_, rfl⟩ hd) fun σ H Q ⟨Ow, env, p, E, hf, k⟩ => by cases hf; exact k _ H (Same.refl _) (.str z)
theorem se_gI {x : Str} {i : Int} {t : Tok} {pos : Pos} (hm : X.mg x = some (.int i t)) (hg : Gl X x := by rfl) (hd : (x == ("__debug__" : Str)) = false := by decide) : SE X b G .val (.Name x pos) (bC (.int i)) :=
  PE.imp (pe_glob hg hm (v := .int i) ⟨_, rfl⟩ hd) fun σ H Q ⟨Ow, env, p, E, hf, k⟩ => by cases hf; exact k _ H (Same.refl _) (.int i)
theorem se_gR {x : Str} {a : Addr} {q : PV} {pos : Pos} (hm : X.mg x = some (.ref a)) (hr : ∀ A H, Rep b.C A H (.ref a) q) (hg : Gl X x := by rfl) (hd : (x == ("__debug__" : Str)) = false := by decide) : SE X b G .val (.Name x pos) (bC q) :=
  PE.imp (pe_glob hg hm (v := .ref a) rfl hd) fun σ H Q ⟨Ow, env, p, E, hf, k⟩ => by cases hf; exact k _ H (Same.refl _) (hr _ _)
theorem se_op {op : Operator} {r : R2} {g : PV → PV → Option PV} (ho : OpR X (binaryOp op) r) (hr : Op2 b m r g) {m1 m2 : Md} (h1 : SE X b G m1 e1 f1) (h2 : SE X b G m2 e2 f2) : SE X b G m (.BinOp e1 op e2 pos) (b2 g f1 f2) :=
  PE.imp (pe_op ho h1.bor h2.bor) fun σ H Q h => tM_op hr h
theorem se_add {m1 m2 : Md} (h1 : SE X b G m1 e1 f1) (h2 : SE X b G m2 e2 f2) : SE X b G .val (.BinOp e1 .Add e2 pos) (b2 addV f1 f2) := se_op (OpR.or (OpR.or op_add op_add_str) op_cat) o2_add h1 h2
theorem se_cat {m1 m2 : Md} (h1 : SE X b G m1 e1 f1) (h2 : SE X b G m2 e2 f2) : SE X b G .own (.BinOp e1 .Add e2 pos) (b2 catV f1 f2) := se_op op_cat o2_cat h1 h2
theorem se_catT {m1 m2 : Md} (h1 : SE X b G m1 e1 f1) (h2 : SE X b G m2 e2 f2) (hK : X.K = b.C.K := by rfl) : SE X b G .val (.BinOp e1 .Add e2 pos) (b2 catT f1 f2) := se_op (r := rCatT b.C.K) (by rw [← hK]; exact op_catT) o2_catT h1 h2
theorem se_mul {m1 m2 : Md} (h1 : SE X b G m1 e1 f1) (h2 : SE X b G m2 e2 f2) : SE X b G .val (.BinOp e1 .Mult e2 pos) (b2 mulV f1 f2) := se_op op_mul o2_mul h1 h2
theorem se_div {m1 m2 : Md} (h1 : SE X b G m1 e1 f1) (h2 : SE X b G m2 e2 f2) : SE X b G .val (.BinOp e1 .FloorDiv e2 pos) (b2 divV f1 f2) := se_op op_fdiv o2_div h1 h2
theorem se_mod {m1 m2 : Md} (h1 : SE X b G m1 e1 f1) (h2 : SE X b G m2 e2 f2) : SE X b G .val (.BinOp e1 .Mod e2 pos) (b2 modV f1 f2) := se_op op_mod o2_mod h1 h2
end
end MR
namespace MR
open PySem L2
@[simp] def eqS : PV → PV → Option Bool
  | .non, .non => some true
  | .non, .int _ => some false | .int _, .non => some false | .non, .bl _ => some false | .bl _, .non => some false | .non, .str _ => some false | .str _, .non => some false
  | .int i, .int j => some (decide (i = j))
  | .bl i, .bl j => some (decide (i = j))
  | .str i, .str j => some (decide (i = j))
  | .int _, .str _ => some false | .str _, .int _ => some false | .bl _, .str _ => some false | .str _, .bl _ => some false
  | _, _ => none
mutual
def toD : PV → Option PyData
  | .non => some .none
  | .bl b => some (.bool b)
  | .int i => some (.int i)
  | .str x => some (.str x)
  | .lst xs => (toDs xs).map .list
  | .frz xs => (toDs xs).map .list
  | .tup xs => (toDs xs).map .tuple
  | .ktp xs => (toDs xs).map .tuple
  | _ => none
def toDs : List PV → Option (List PyData)
  | [] => some []
  | x :: xs => match toD x, toDs xs with
    | some d, some ds => some (d :: ds)
    | _, _ => none
end
def eqD (x y : PV) : Option Bool := match toD x, toD y with
  | some d, some e => if SeqAt.shaped d = true ∧ SeqAt.shaped e = true then some (PyData.eqv d e) else none
  | _, _ => none
def eqP (x y : PV) : Option Bool := match eqS x y with
  | some k => some k
  | none => eqD x y
def eqQ (x y : PV) : Option PV := (eqP x y).map .bl
@[simp] theorem eqQ_ap (x y : PV) : eqQ x y = ((eqP x y).map .bl) := id rfl
def neQ (x y : PV) : Option PV := (eqP x y).map fun k => .bl (!k)
@[simp] theorem neQ_ap (x y : PV) : neQ x y = ((eqP x y).map fun k => .bl (!k)) := id rfl
mutual
theorem Rep.dt {C : MC} {A : Addr → Prop} {H : Hp} : ∀ {v : V} {p : PV} {d : PyData}, Rep C A H v p → toD p = some d → Dt C.K H v d
  | _, _, _, .non, e => by simp only [toD] at e; cases e; exact .non
  | _, _, _, .bl b, e => by simp only [toD] at e; cases e; exact .bl b
  | _, _, _, .int b, e => by simp only [toD] at e; cases e; exact .int b
  | _, _, _, .str b, e => by simp only [toD] at e; cases e; exact .str b
  | _, _, _, .lst (xs := xs) h _ r, e => by
    simp only [toD] at e
    cases q : toDs xs with
    | none => rw [q] at e; cases e
    | some ds => rw [q] at e; cases e; exact .lst (SqL.of h) (Reps.dt r q)
  | _, _, _, .lstF (xs := xs) h r, e => by
    simp only [toD] at e
    cases q : toDs xs with
    | none => rw [q] at e; cases e
    | some ds => rw [q] at e; cases e; exact .lst (.inl (.inr ⟨_, h⟩)) (Reps.dt r q)
  | _, _, _, .lstK (xs := xs) h r, e => by
    simp only [toD] at e
    cases q : toDs xs with
    | none => rw [q] at e; cases e
    | some ds => rw [q] at e; cases e; exact .lst (sqK h) (Reps.dt r q)
  | _, _, _, .tup (xs := xs) h r, e => by
    simp only [toD] at e
    cases q : toDs xs with
    | none => rw [q] at e; cases e
    | some ds => rw [q] at e; cases e; exact .tup (SqT.of h) (Reps.dt r q)
  | _, _, _, .tupC (xs := xs) h r, e => by
    simp only [toD] at e
    cases q : toDs xs with
    | none => rw [q] at e; cases e
    | some ds => rw [q] at e; cases e; exact .tup (.inr h) (Reps.dt r q)
  | _, _, _, .tupK (xs := xs) h r, e => by
    simp only [toD] at e
    cases q : toDs xs with
    | none => rw [q] at e; cases e
    | some ds => rw [q] at e; cases e; exact .tup (sqTK h) (Reps.dt r q)
  | _, _, _, .dK h _ r, e => by simp only [toD] at e; cases e
  | _, _, _, .dT h _ r, e => by simp only [toD] at e; cases e
  | _, _, _, .obj h _ r, e => by simp only [toD] at e; cases e
theorem Reps.dt {C : MC} {A : Addr → Prop} {H : Hp} : ∀ {v : List V} {p : List PV} {d : List PyData}, Reps C A H v p → toDs p = some d → Dts C.K H v d
  | _, _, _, .nil, e => by simp only [toDs] at e; cases e; exact .nil
  | _, _, _, .cons (p := p) (ps := ps) h t, e => by
    simp only [toDs] at e
    cases q : toD p with
    | none => rw [q] at e; cases e
    | some d =>
      cases q2 : toDs ps with
      | none => rw [q, q2] at e; cases e
      | some ds => rw [q, q2] at e; cases e; exact .cons (Rep.dt h q) (Reps.dt t q2)
end
theorem RepB.dt {C : MC} {A : Addr → Prop} {H : Hp} {v : V} {p : PV} {d : PyData} (h : RepB C A H v p) (e : toD p = some d) : Dt C.K H v d := by
  rcases h with h | ⟨a, rfl, t⟩
  · exact h.dt e
  · cases p with
    | lst xs =>
      obtain ⟨vs, q, r⟩ := t
      exact (Rep.lst (A := fun _ => True) q True.intro (r.ex (ex_weak fun _ _ _ _ => True.intro))).dt e
    | dK kvs => simp only [toD] at e; cases e
    | dT kvs => simp only [toD] at e; cases e
    | obj c fs => simp only [toD] at e; cases e
    | _ => exact t.elim
theorem eqS_scal {C : MC} {A : Addr → Prop} {H : Hp} {v u : V} {p q : PV} {k : Bool} (h : RepB C A H v p) (h' : RepB C A H u q) (e : eqS p q = some k) : scal v u = true ∧ decide (v = u) = k := by
  unfold eqS at e
  split at e <;> first | cases e | skip
  · rw [h.non, h'.non]; exact ⟨rfl, rfl⟩
  · rw [h.non, h'.int]; exact ⟨rfl, rfl⟩
  · rw [h.int, h'.non]; exact ⟨rfl, rfl⟩
  · rw [h.non, h'.bl]; exact ⟨rfl, rfl⟩
  · rw [h.bl, h'.non]; exact ⟨rfl, rfl⟩
  · rw [h.non, h'.str]; exact ⟨rfl, rfl⟩
  · rw [h.str, h'.non]; exact ⟨rfl, rfl⟩
  · rw [h.int, h'.int]; exact ⟨rfl, by simp⟩
  · rw [h.bl, h'.bl]; exact ⟨rfl, by simp⟩
  · rw [h.str, h'.str]; exact ⟨rfl, by simp⟩
  · rw [h.int, h'.str]; exact ⟨rfl, rfl⟩
  · rw [h.str, h'.int]; exact ⟨rfl, rfl⟩
  · rw [h.bl, h'.str]; exact ⟨rfl, rfl⟩
  · rw [h.str, h'.bl]; exact ⟨rfl, rfl⟩
def rEqA (K : PySem.W.Frag) : R2 := fun x y H Q => rEq x y H Q ∨ ∃ d e, Dt K H x d ∧ Dt K H y e ∧ SeqAt.shaped d = true ∧ SeqAt.shaped e = true ∧ Q (.bl (PyData.eqv d e)) H
def rNeA (K : PySem.W.Frag) : R2 := fun x y H Q => rNe x y H Q ∨ ∃ d e, Dt K H x d ∧ Dt K H y e ∧ SeqAt.shaped d = true ∧ SeqAt.shaped e = true ∧ Q (.bl (!PyData.eqv d e)) H
section
variable {b : BX}
theorem o2_eq : Op2 b .val (rEqA b.C.K) eqQ := by
  intro Ow H v1 v2 p1 p2 p Q hn r1 r2 e k
  unfold eqQ eqP at e
  cases q : eqS p1 p2 with
  | some c =>
    rw [q] at e
    cases e
    obtain ⟨h1, h2⟩ := eqS_scal r1 r2 q
    exact .inl ⟨h1, by rw [h2]; exact k _ H (Same.refl _) (.bl c)⟩
  | none =>
    rw [q] at e
    simp only [eqD] at e
    cases q1 : toD p1 with
    | none => rw [q1] at e; cases e
    | some d =>
      cases q2 : toD p2 with
      | none => rw [q1, q2] at e; cases e
      | some d' =>
        rw [q1, q2] at e
        simp only at e
        split at e
        · rename_i hs
          cases e
          exact .inr ⟨d, d', r1.dt q1, r2.dt q2, hs.1, hs.2, k _ H (Same.refl _) (.bl _)⟩
        · cases e
theorem o2_ne : Op2 b .val (rNeA b.C.K) neQ := by
  intro Ow H v1 v2 p1 p2 p Q hn r1 r2 e k
  unfold neQ eqP at e
  cases q : eqS p1 p2 with
  | some c =>
    rw [q] at e
    cases e
    obtain ⟨h1, h2⟩ := eqS_scal r1 r2 q
    exact .inl ⟨h1, by rw [h2]; exact k _ H (Same.refl _) (.bl _)⟩
  | none =>
    rw [q] at e
    simp only [eqD] at e
    cases q1 : toD p1 with
    | none => rw [q1] at e; cases e
    | some d =>
      cases q2 : toD p2 with
      | none => rw [q1, q2] at e; cases e
      | some d' =>
        rw [q1, q2] at e
        simp only at e
        split at e
        · rename_i hs
          cases e
          exact .inr ⟨d, d', r1.dt q1, r2.dt q2, hs.1, hs.2, k _ H (Same.refl _) (.bl _)⟩
        · cases e
end
@[simp] def keyOf : PV → Option Key
  | .int i => some (.inl i)
  | .str x => some (.inr x)
  | _ => none
@[simp] def keysOf : List PV → Option (List Key)
  | [] => some []
  | x :: xs => match keyOf x, keysOf xs with
    | some k, some ks => some (k :: ks)
    | _, _ => none
@[simp] def keysB : List PV → Option (List Key)
  | [.str x, .bl b] => some [.inr x, .inl (if b = true then 1 else 0)]
  | xs => keysOf xs
@[simp] def flatP : PV → Bool
  | .non => true
  | .bl _ => true
  | .int _ => true
  | .str _ => true
  | _ => false
def eqF : PV → PV → Bool
  | .non, .non => true
  | .bl a, .bl b => a == b
  | .bl a, .int b => (if a then 1 else 0) == b
  | .int a, .bl b => a == (if b then 1 else 0)
  | .int a, .int b => a == b
  | .str a, .str b => a == b
  | _, _ => false
def dLook {κ : Type} [DecidableEq κ] (kvs : List (κ × PV)) (k : κ) : Option PV := (kvs.find? fun x => decide (x.1 = k)).map (·.2)
def inD (x : PV) (ys : List PV) : Option Bool := match toD x, toDs ys with
  | some d, some ds => if PyData.canLayAll0 ds = true ∧ d.canLay0 = true ∧ d.depth ≤ 32 then some (ds.any fun y => PyData.eqv y d) else none
  | _, _ => none
theorem inD_some {x : PV} {ys : List PV} {k : Bool} (h : inD x ys = some k) : ∃ d ds, toD x = some d ∧ toDs ys = some ds ∧ PyData.canLayAll0 ds = true ∧ d.canLay0 = true ∧ d.depth ≤ 32 ∧ (ds.any fun y => PyData.eqv y d) = k := by
  unfold inD at h
  split at h
  · rename_i d ds h1 h2
    split at h
    · rename_i hc
      exact ⟨d, ds, h1, h2, hc.1, hc.2.1, hc.2.2, Option.some.inj h⟩
    · cases h
  · cases h
def inP : PV → PV → Option Bool
  | x, .lst ys => if flatP x = true ∧ ys.all flatP = true then some (ys.any fun y => eqF y x) else inD x ys
  | x, .frz ys => if flatP x = true ∧ ys.all flatP = true then some (ys.any fun y => eqF y x) else inD x ys
  | x, .ktp ys => if flatP x = true ∧ ys.all flatP = true then some (ys.any fun y => eqF y x) else inD x ys
  | x, .tup ys => if flatP x = true ∧ ys.all flatP = true then some (ys.any fun y => eqF y x) else inD x ys
  | .str x, .str y => some (!(Builtin.Str.occurrences y x 0 y.length 1).isEmpty)
  | x, .dK kvs => (keyOf x).map fun k => (dLook kvs k).isSome
  | .tup xs, .dT kvs => (keysB xs).map fun k => (dLook kvs k).isSome
  | _, _ => none
theorem Reps.keys {C : MC} {A : Addr → Prop} {H : Hp} : ∀ {vs : List V} {ps : List PV} {ks : List Key}, Reps C A H vs ps → keysOf ps = some ks → vs = ks.map kV
  | _, _, _, .nil, e => by cases e; rfl
  | _, _, _, .cons (p := p) (ps := ps) h t, e => by
    unfold keysOf at e
    cases q : keyOf p with
    | none => rw [q] at e; cases e
    | some k =>
      cases q2 : keysOf ps with
      | none => rw [q, q2] at e; cases e
      | some ks =>
        rw [q, q2] at e
        cases e
        have ih := Reps.keys t q2
        rw [List.map_cons, ih]
        congr 1
        unfold keyOf at q
        split at q <;> cases q <;> cases h <;> rfl
theorem Reps.keysB {C : MC} {A : Addr → Prop} {H : Hp} {vs : List V} {ps : List PV} {ks : List Key} (r : Reps C A H vs ps) (e : keysB ps = some ks) : KeyT ks vs := by
  unfold MR.keysB at e
  split at e
  · cases e
    cases r with
    | cons h1 t => cases t with
      | cons h2 t => cases t; cases h1; cases h2; exact .inr ⟨_, _, rfl, rfl⟩
  · exact .inl (r.keys e)
theorem RepB.key {C : MC} {A : Addr → Prop} {H : Hp} {v : V} {p : PV} {k : Key} (h : RepB C A H v p) (e : keyOf p = some k) : v = kV k := by
  unfold keyOf at e
  split at e
  · cases e; exact h.int
  · cases e; exact h.str
  · cases e
theorem RepB.flat {C : MC} {A : Addr → Prop} {H : Hp} {v : V} {p : PV} (h : RepB C A H v p) (e : flatP p = true) : flatV v = true := by
  unfold flatP at e
  split at e
  · rw [h.non]; rfl
  · rw [h.bl]; rfl
  · rw [h.int]; rfl
  · rw [h.str]; rfl
  · cases e
def fV : PV → V
  | .bl b => .bl b
  | .int i => .int i
  | .str x => .str x
  | _ => .non
theorem RepB.fV {C : MC} {A : Addr → Prop} {H : Hp} {v : V} {p : PV} (h : RepB C A H v p) (e : flatP p = true) : v = fV p := by
  cases p with
  | non => exact h.non
  | bl b => exact h.bl
  | int i => exact h.int
  | str x => exact h.str
  | _ => cases e
theorem eqF_V (p q : PV) (hp : flatP p = true) (hq : flatP q = true) : L2.eqV (fV p) (fV q) = eqF p q := by
  cases p <;> cases q <;> first | rfl | (cases hp; done) | (cases hq; done)
theorem Reps.flat {C : MC} {A : Addr → Prop} {H : Hp} {v : V} {p : PV} (h : RepB C A H v p) (e : flatP p = true) : ∀ {vs : List V} {ps : List PV}, Reps C A H vs ps → ps.all flatP = true → vs.all flatV = true ∧ inV v vs = ps.any fun y => eqF y p
  | _, _, .nil, _ => ⟨rfl, rfl⟩
  | _, _, .cons (v := v') (p := p') (vs := vs) (ps := ps) q t, e' => by
    rw [List.all_cons, Bool.and_eq_true] at e'
    obtain ⟨h1, h2⟩ := Reps.flat h e t e'.2
    have hf : flatV v' = true := RepB.flat (.inl q) e'.1
    refine ⟨by rw [List.all_cons, hf, h1]; rfl, ?_⟩
    unfold inV at h2 ⊢
    rw [List.any_cons, List.any_cons, h2]
    have q1 := h.fV e
    have q2 := RepB.fV (.inl q) e'.1
    rw [q1, q2, eqF_V _ _ e'.1 e]
section
variable {X : Cx}
theorem op_din (hu : X.A.units + 1 < cLine) : OpR X (compareOp .In) (fun x y H Q => ∃ a o, y = .ref a ∧ DGet X.K H a x o ∧ Q (.bl o.isSome) H) := by
  intro pins s σ H x y v u Q I rx ry h
  obtain ⟨a, o, rfl, g, q⟩ := h
  obtain rfl : u = Value.ref a := ry
  exact d_in hu I g rx fun s3 I3 => ⟨.bl o.isSome, H, I3, rfl, q⟩
def rInD (K : PySem.W.Frag) (neg : Bool) : R2 := fun x y H Q => ∃ d ds, (Dt K H y (.list ds) ∨ Dt K H y (.tuple ds)) ∧ Dt K H x d ∧ PyData.canLayAll0 ds = true ∧ d.canLay0 = true ∧ d.depth ≤ 32 ∧ Q (.bl (if neg then !(ds.any fun y => PyData.eqv y d) else ds.any fun y => PyData.eqv y d)) H
theorem op_inD (hu : X.A.units + 64 < cLine) : OpR X (compareOp .In) (rInD X.K false) := by
  intro pins s σ H x y v u Q I rx ry h
  obtain ⟨d, ds, h1, h2, c1, c2, c3, q⟩ := h
  have hm : min (PyData.depthAll ds) d.depth ≤ d.depth := Nat.min_le_right _ _
  obtain ⟨as, ra⟩ := h2.reads I rx
  rcases h1 with h1 | h1
  · obtain ⟨bs, rb⟩ := h1.reads I ry
    exact PySem.SeqAt.in_list_reads rb ra c1 c2 (by omega) ⟨.bl _, H, I, rfl, q⟩
  · obtain ⟨bs, rb⟩ := h1.reads I ry
    exact PySem.SeqAt.in_tuple_reads rb ra c1 c2 (by omega) ⟨.bl _, H, I, rfl, q⟩
theorem op_notInD (hu : X.A.units + 64 < cLine) : OpR X (compareOp .NotIn) (rInD X.K true) := by
  intro pins s σ H x y v u Q I rx ry h
  obtain ⟨d, ds, h1, h2, c1, c2, c3, q⟩ := h
  have hm : min (PyData.depthAll ds) d.depth ≤ d.depth := Nat.min_le_right _ _
  obtain ⟨as, ra⟩ := h2.reads I rx
  rcases h1 with h1 | h1
  · obtain ⟨bs, rb⟩ := h1.reads I ry
    exact PySem.SeqAt.notIn_list_reads rb ra c1 c2 (by omega) ⟨.bl _, H, I, rfl, q⟩
  · obtain ⟨bs, rb⟩ := h1.reads I ry
    exact PySem.SeqAt.notIn_tuple_reads rb ra c1 c2 (by omega) ⟨.bl _, H, I, rfl, q⟩
theorem op_dnotin (hu : X.A.units + 1 < cLine) : OpR X (compareOp .NotIn) (fun x y H Q => ∃ a o, y = .ref a ∧ DGet X.K H a x o ∧ Q (.bl (!o.isSome)) H) := by
  intro pins s σ H x y v u Q I rx ry h
  obtain ⟨a, o, rfl, g, q⟩ := h
  obtain rfl : u = Value.ref a := ry
  exact d_notIn hu I g rx fun s3 I3 => ⟨.bl (!o.isSome), H, I3, rfl, q⟩
end
def rInA (K : PySem.W.Frag) : R2 := fun x y H Q => (rIn K false x y H Q ∨ ∃ i j, x = .str i ∧ y = .str j ∧ Q (.bl (!(Builtin.Str.occurrences j i 0 j.length 1).isEmpty)) H) ∨ (∃ a o, y = .ref a ∧ DGet K H a x o ∧ Q (.bl o.isSome) H) ∨ rInD K false x y H Q
def rNotInA (K : PySem.W.Frag) : R2 := fun x y H Q => (rIn K true x y H Q ∨ ∃ i j, x = .str i ∧ y = .str j ∧ Q (.bl (!(!(Builtin.Str.occurrences j i 0 j.length 1).isEmpty))) H) ∨ (∃ a o, y = .ref a ∧ DGet K H a x o ∧ Q (.bl (!o.isSome)) H) ∨ rInD K true x y H Q
def inQ (x y : PV) : Option PV := (inP x y).map .bl
@[simp] theorem inQ_ap (x y : PV) : inQ x y = ((inP x y).map .bl) := id rfl
def notInQ (x y : PV) : Option PV := (inP x y).map fun k => .bl (!k)
@[simp] theorem notInQ_ap (x y : PV) : notInQ x y = ((inP x y).map fun k => .bl (!k)) := id rfl
theorem in_gen {C : MC} {A : Addr → Prop} {H : Hp} {v1 v2 : V} {p1 p2 : PV} {k : Bool} (r1 : RepB C A H v1 p1) (r2 : RepB C A H v2 p2) (e : inP p1 p2 = some k) :
    (∃ p xs, v2 = .ref p ∧ (SqL C.K H p xs ∨ SqT C.K H p xs) ∧ flatV v1 = true ∧ xs.all flatV = true ∧ inV v1 xs = k) ∨ (∃ i j, v1 = .str i ∧ v2 = .str j ∧ (!(Builtin.Str.occurrences j i 0 j.length 1).isEmpty) = k) ∨ (∃ a o, v2 = .ref a ∧ DGet C.K H a v1 o ∧ o.isSome = k) ∨ ∃ d ds, (Dt C.K H v2 (.list ds) ∨ Dt C.K H v2 (.tuple ds)) ∧ Dt C.K H v1 d ∧ PyData.canLayAll0 ds = true ∧ d.canLay0 = true ∧ d.depth ≤ 32 ∧ (ds.any fun y => PyData.eqv y d) = k := by
  unfold inP at e
  split at e
  · split at e
    · rename_i h
      cases e
      obtain ⟨a, vs, rfl, ha, ra⟩ := r2.lst
      obtain ⟨h1, h2⟩ := Reps.flat r1 h.1 ra h.2
      exact .inl ⟨a, vs, rfl, .inl (SqL.of ha), r1.flat h.1, h1, h2⟩
    · obtain ⟨d, ds, t1, t2, c1, c2, c3, c4⟩ := inD_some e
      exact .inr (.inr (.inr ⟨d, ds, .inl (r2.dt (by simp [toD, t2])), r1.dt t1, c1, c2, c3, c4⟩))
  · split at e
    · rename_i h
      cases e
      obtain ⟨a, vs, rfl, ha, ra⟩ := r2.frz
      obtain ⟨h1, h2⟩ := Reps.flat r1 h.1 ra h.2
      exact .inl ⟨a, vs, rfl, .inl ha, r1.flat h.1, h1, h2⟩
    · obtain ⟨d, ds, t1, t2, c1, c2, c3, c4⟩ := inD_some e
      exact .inr (.inr (.inr ⟨d, ds, .inl (r2.dt (by simp [toD, t2])), r1.dt t1, c1, c2, c3, c4⟩))
  · split at e
    · rename_i h
      cases e
      obtain ⟨a, vs, rfl, ha, ra⟩ := r2.ktp
      obtain ⟨h1, h2⟩ := Reps.flat r1 h.1 ra h.2
      exact .inl ⟨a, vs, rfl, .inr ha, r1.flat h.1, h1, h2⟩
    · obtain ⟨d, ds, t1, t2, c1, c2, c3, c4⟩ := inD_some e
      exact .inr (.inr (.inr ⟨d, ds, .inr (r2.dt (by simp [toD, t2])), r1.dt t1, c1, c2, c3, c4⟩))
  · split at e
    · rename_i h
      cases e
      obtain ⟨a, vs, rfl, ha, ra⟩ := r2.tup
      obtain ⟨h1, h2⟩ := Reps.flat r1 h.1 ra h.2
      exact .inl ⟨a, vs, rfl, .inr ha.sq, r1.flat h.1, h1, h2⟩
    · obtain ⟨d, ds, t1, t2, c1, c2, c3, c4⟩ := inD_some e
      exact .inr (.inr (.inr ⟨d, ds, .inr (r2.dt (by simp [toD, t2])), r1.dt t1, c1, c2, c3, c4⟩))
  · cases e
    exact .inr (.inl ⟨_, _, r1.str, r2.str, rfl⟩)
  · obtain ⟨a, kv, rfl, ha, ra⟩ := r2.dK
    cases q : keyOf p1 with
    | none => rw [q] at e; cases e
    | some ky =>
      rw [q] at e
      cases e
      rw [r1.key q]
      refine .inr (.inr (.inl ⟨a, _, rfl, DGet.k ha, ?_⟩))
      unfold dLook
      dsimp only
      rcases RepK.val (k := ky) ra with ⟨v, p, h1, h2, _⟩ | ⟨h1, h2⟩
      · rw [h1, h2]; rfl
      · rw [h1, h2]; rfl
  · rename_i xs kvs
    obtain ⟨a, kv, rfl, ha, ra⟩ := r2.dT
    obtain ⟨c, vs, rfl, hc, rc⟩ := r1.tup
    cases q : keysB xs with
    | none => rw [q] at e; cases e
    | some ky =>
      rw [q] at e
      cases e
      refine .inr (.inr (.inl ⟨a, _, rfl, DGet.t ha (hc.key (rc.keysB q)), ?_⟩))
      unfold dLook
      dsimp only
      rcases RepT.val (k := ky) ra with ⟨v, p, h1, h2, _⟩ | ⟨h1, h2⟩
      · rw [h1, h2]; rfl
      · rw [h1, h2]; rfl
  · cases e
section
variable {b : BX}
theorem o2_in : Op2 b .val (rInA b.C.K) inQ := by
  intro Ow H v1 v2 p1 p2 p Q hn r1 r2 e k
  unfold inQ at e
  cases q : inP p1 p2 with
  | none => rw [q] at e; cases e
  | some c =>
    rw [q] at e
    cases e
    have fin := k (.bl c) H (Same.refl _) (.bl c)
    rcases in_gen r1 r2 q with ⟨a, xs, rfl, h1, h2, h3, h4⟩ | ⟨i, j, rfl, rfl, h1⟩ | ⟨a, o, rfl, h1, h2⟩ | ⟨d, ds, h1, h2, c1, c2, c3, h4⟩
    · subst h4; exact .inl (.inl ⟨a, xs, rfl, h1, h2, h3, fin⟩)
    · subst h1; exact .inl (.inr ⟨i, j, rfl, rfl, fin⟩)
    · subst h2; exact .inr (.inl ⟨a, o, rfl, h1, fin⟩)
    · subst h4; exact .inr (.inr ⟨d, ds, h1, h2, c1, c2, c3, fin⟩)
theorem o2_notin : Op2 b .val (rNotInA b.C.K) notInQ := by
  intro Ow H v1 v2 p1 p2 p Q hn r1 r2 e k
  unfold notInQ at e
  cases q : inP p1 p2 with
  | none => rw [q] at e; cases e
  | some c =>
    rw [q] at e
    cases e
    have fin := k (.bl (!c)) H (Same.refl _) (.bl _)
    rcases in_gen r1 r2 q with ⟨a, xs, rfl, h1, h2, h3, h4⟩ | ⟨i, j, rfl, rfl, h1⟩ | ⟨a, o, rfl, h1, h2⟩ | ⟨d, ds, h1, h2, c1, c2, c3, h4⟩
    · subst h4; exact .inl (.inl ⟨a, xs, rfl, h1, h2, h3, fin⟩)
    · subst h1; exact .inl (.inr ⟨i, j, rfl, rfl, fin⟩)
    · subst h2; exact .inr (.inl ⟨a, o, rfl, h1, fin⟩)
    · subst h4; exact .inr (.inr ⟨d, ds, h1, h2, c1, c2, c3, fin⟩)
end
section
variable {b : BX}
end
section
variable {X : Cx} {b : BX} {G : List Nat} {m : Md} {e e1 e2 e3 : Expr} {f f1 f2 f3 : Env → Option PV} {pos : Pos} {m1 m2 m3 : Md}
structure SC (X : Cx) (b : BX) (G : List Nat) (op : CmpOp) (e1 e2 : Expr) (f : Env → Option PV) : Prop where
  pe : ∀ pos, SE X b G .val (.Compare e1 [op] [e2] pos) f
  pt : ∀ pos, ST X b G (.Compare e1 [op] [e2] pos) (tV f)
theorem sc_of {op : CmpOp} {r : R2} {g : PV → PV → Option PV} (ho : OpR X (compareOp op) r) (hr : Op2 b .val r g) (h1 : SE X b G m1 e1 f1) (h2 : SE X b G m2 e2 f2) (hm : behindInMarks op e2 = false) : SC X b G op e1 e2 (b2 g f1 f2) := by
  refine ⟨fun pos => PE.imp (pe_cmpR ho h1.bor h2.bor hm) fun σ H Q h => tM_op hr h, fun pos => PT.imp (pt_cmpR ho h1.bor h2.bor hm) fun σ H Q h => ?_⟩
  obtain ⟨Ow, env, c, E, hf, k⟩ := h
  unfold tV at hf
  cases q : b2 g f1 f2 env with
  | none => rw [q] at hf; cases hf
  | some p =>
    rw [q] at hf
    refine tM_op (Q := fun x H' => ∃ k, x = .bl k ∧ _) hr ⟨Ow, env, p, E, q, fun v H' s r => ?_⟩
    cases p with
    | bl d =>
      cases hf
      cases r
      exact ⟨_, rfl, k H' s⟩
    | _ => cases hf
theorem sc_eq {j : Nat} (hr : Room j X.A) (h1 : SE X b G m1 e1 f1) (h2 : SE X b G m2 e2 f2) (hK : X.K = b.C.K := by rfl) : SC X b G .Eq e1 e2 (b2 eqQ f1 f2) := sc_of (r := rEqA b.C.K) (by rw [← hK]; exact OpR.or op_eq (op_eqD hr.units)) o2_eq h1 h2 (nomark _)
theorem sc_ne {j : Nat} (hr : Room j X.A) (h1 : SE X b G m1 e1 f1) (h2 : SE X b G m2 e2 f2) (hK : X.K = b.C.K := by rfl) : SC X b G .NotEq e1 e2 (b2 neQ f1 f2) := sc_of (r := rNeA b.C.K) (by rw [← hK]; exact OpR.or op_ne (op_neD hr.units)) o2_ne h1 h2 (nomark _)
theorem sc_lt (h1 : SE X b G m1 e1 f1) (h2 : SE X b G m2 e2 f2) : SC X b G .Lt e1 e2 (b2 (cmpV fun i j => decide (i < j)) f1 f2) := sc_of op_lt o2_cmp h1 h2 (nomark _)
theorem sc_gt (h1 : SE X b G m1 e1 f1) (h2 : SE X b G m2 e2 f2) : SC X b G .Gt e1 e2 (b2 (cmpV fun i j => decide (j < i)) f1 f2) := sc_of op_gt o2_cmp h1 h2 (nomark _)
theorem sc_in {j : Nat} (hr : Room j X.A) (h1 : SE X b G m1 e1 f1) (h2 : SE X b G m2 e2 f2) (hm : behindInMarks .In e2 = false := by rfl) (hK : X.K = b.C.K := by rfl) : SC X b G .In e1 e2 (b2 inQ f1 f2) :=
  sc_of (r := rInA b.C.K) (by rw [← hK]; exact OpR.or (OpR.or op_in_seq op_in_str) (OpR.or (op_din (hu_of hr)) (op_inD hr.units))) o2_in h1 h2 hm
theorem sc_notin {j : Nat} (hr : Room j X.A) (h1 : SE X b G m1 e1 f1) (h2 : SE X b G m2 e2 f2) (hm : behindInMarks .NotIn e2 = false := by rfl) (hK : X.K = b.C.K := by rfl) : SC X b G .NotIn e1 e2 (b2 notInQ f1 f2) :=
  sc_of (r := rNotInA b.C.K) (by rw [← hK]; exact OpR.or (OpR.or op_notIn_seq op_notIn_str) (OpR.or (op_dnotin (hu_of hr)) (op_notInD hr.units))) o2_notin h1 h2 hm
theorem se_cmp {op : CmpOp} (h : SC X b G op e1 e2 f) : SE X b G .val (.Compare e1 [op] [e2] pos) f := h.pe pos
theorem st_cmp {op : CmpOp} (h : SC X b G op e1 e2 f) : ST X b G (.Compare e1 [op] [e2] pos) (tV f) := h.pt pos
def bChain (g g' : Int → Int → Bool) (f1 f2 f3 : Env → Option PV) (env : Env) : Option PV := (f1 env).bind fun x => (f2 env).bind fun y => match x, y with
  | .int i, .int j => if g i j = true then (f3 env).bind fun z => cmpV g' y z else some (.bl false)
  | _, _ => none
@[simp] theorem bChain_ap (g g' : Int → Int → Bool) (f1 f2 f3 : Env → Option PV) (env : Env) : bChain g g' f1 f2 f3 env = ((f1 env).bind fun x => (f2 env).bind fun y => match x, y with
  | .int i, .int j => if g i j = true then (f3 env).bind fun z => cmpV g' y z else some (.bl false)
  | _, _ => none) := id rfl
theorem bChain_some {g g' : Int → Int → Bool} {f1 f2 f3 : Env → Option PV} {env : Env} {p : PV} (h : bChain g g' f1 f2 f3 env = some p) :
    ∃ i j, f1 env = some (.int i) ∧ f2 env = some (.int j) ∧ ((g i j = false ∧ p = .bl false) ∨ (g i j = true ∧ ∃ l, f3 env = some (.int l) ∧ p = .bl (g' j l))) := by
  unfold bChain at h
  cases q1 : f1 env with
  | none => rw [q1] at h; cases h
  | some p1 =>
    cases q2 : f2 env with
    | none => rw [q1, q2] at h; cases h
    | some p2 =>
      rw [q1, q2] at h
      simp only [Option.bind_some] at h
      split at h
      · rename_i i j
        refine ⟨i, j, rfl, rfl, ?_⟩
        cases hg : g i j with
        | false =>
          rw [hg] at h
          cases h
          exact .inl ⟨rfl, rfl⟩
        | true =>
          rw [hg] at h
          simp only [if_true] at h
          obtain ⟨p3, q3, h⟩ := Option.bind_eq_some_iff.mp h
          cases p3 with
          | int l =>
            cases h
            exact .inr ⟨rfl, l, q3, rfl⟩
          | _ => cases h
      · cases h
theorem se_chain {op op' : CmpOp} {g g' : Int → Int → Bool} (ho : OpR X (compareOp op) (rI0 fun i j => .bl (g i j))) (ho' : OpR X (compareOp op') (rI0 fun i j => .bl (g' i j))) (h1 : SE X b G m1 e1 f1) (h2 : SE X b G m2 e2 f2) (h3 : SE X b G m3 e3 f3)
    (hm : lastMarks [op, op'] [e2, e3] = false := by with_unfolding_all rfl) : SE X b G .val (.Compare e1 [op, op'] [e2, e3] pos) (bChain g g' f1 f2 f3) :=
  PE.imp (pe_chain ho ho' h1.bor h2.bor h3.bor hm) fun σ H Q ⟨Ow, env, p, E, hf, k⟩ => by
    obtain ⟨i, j, q1, q2, hc⟩ := bChain_some hf
    refine ⟨Ow, env, _, E, q1, fun v1 H1 s1 r1 => ⟨Ow, env, _, E.up s1, q2, fun v2 H2 s2 r2 => ?_⟩⟩
    have r1' : RepB b.C (Bs b Ow) H2 v1 (.int i) := Res.up (m := .bor) r1 s2
    have r2' : RepB b.C (Bs b Ow) H2 v2 (.int j) := r2
    rw [r1'.int, r2'.int]
    refine ⟨i, j, rfl, rfl, g i j, rfl, ?_⟩
    rcases hc with ⟨hc, rfl⟩ | ⟨hc, l, q3, rfl⟩
    · rw [hc]
      simp only [Bool.false_eq_true, if_false]
      exact k _ H2 (s1.trans s2) (.bl false)
    · rw [hc]
      simp only [if_true]
      refine ⟨Ow, env, _, E.up (s1.trans s2), q3, fun v3 H3 s3 r3 => ?_⟩
      have r3' : RepB b.C (Bs b Ow) H3 v3 (.int l) := r3
      rw [r3'.int]
      exact ⟨_, _, rfl, rfl, k _ H3 (s1.trans (s2.trans s3)) (.bl _)⟩
theorem se_one {op} (h : SE X b G m e f) : SE X b G m (.BoolOp op [e] pos) f := pe_one h
theorem se_and {rest : List Expr} (h1 : SE X b G .val e1 f1) (h2 : SE X b G .val (.BoolOp .And (e2 :: rest) pos) f2) : SE X b G .val (.BoolOp .And (e1 :: e2 :: rest) pos) (bAnd f1 f2) :=
  PE.imp (pe_and h1 h2) fun σ H Q ⟨Ow, env, p, E, hf, k⟩ => by
    unfold bAnd at hf
    cases q1 : f1 env with
    | none => rw [q1] at hf; cases hf
    | some p1 =>
      rw [q1] at hf
      refine ⟨Ow, env, p1, E, q1, fun v1 H1 s1 r1 => ?_⟩
      cases p1 with
      | bl c =>
        cases r1
        refine ⟨c, rfl, ?_⟩
        cases c with
        | true => exact ⟨Ow, env, p, E.up s1, hf, fun v H' s r => k v H' (s1.trans s) r⟩
        | false => cases hf; exact k _ H1 s1 (.bl false)
      | _ => cases hf
theorem se_or {rest : List Expr} (h1 : SE X b G .val e1 f1) (h2 : SE X b G .val (.BoolOp .Or (e2 :: rest) pos) f2) : SE X b G .val (.BoolOp .Or (e1 :: e2 :: rest) pos) (bOr f1 f2) :=
  PE.imp (pe_or h1 h2) fun σ H Q ⟨Ow, env, p, E, hf, k⟩ => by
    unfold bOr at hf
    cases q1 : f1 env with
    | none => rw [q1] at hf; cases hf
    | some p1 =>
      rw [q1] at hf
      refine ⟨Ow, env, p1, E, q1, fun v1 H1 s1 r1 => ?_⟩
      cases p1 with
      | bl c =>
        cases r1
        refine ⟨c, rfl, ?_⟩
        cases c with
        | false => exact ⟨Ow, env, p, E.up s1, hf, fun v H' s r => k v H' (s1.trans s) r⟩
        | true => cases hf; exact k _ H1 s1 (.bl true)
      | _ => cases hf
@[simp] def negV : PV → Option PV
  | .int i => some (.int (-i))
  | _ => none
theorem se_neg (h1 : SE X b G m e1 f1) : SE X b G .val (.UnaryOp .USub e1 pos) (b1 negV f1) :=
  PE.imp (pe_un un_neg h1.bor) fun σ H Q h => tM_un (r := rU fun i => .int (-i)) (fun Ow H v1 p1 p Q hn r1 e k => by
    cases p1 <;> simp only [negV] at e <;> cases e
    exact ⟨_, r1.int, k _ H (Same.refl _) (.int _)⟩) h
theorem st_val (h : SE X b G .val e f) (he : ∀ whole, isTrue e X.env whole = (do let v ← whole; standAt e.pos; holding [v] (truthy v)) := by intro _; rfl) : ST X b G e (tV f) :=
  PT.imp (pt_val h he) fun σ H Q ⟨Ow, env, c, E, hf, k⟩ => by
    unfold tV at hf
    cases q1 : f env with
    | none => rw [q1] at hf; cases hf
    | some p1 =>
      rw [q1] at hf
      refine ⟨Ow, env, p1, E, q1, fun v1 H1 s1 r1 => ?_⟩
      cases p1 with
      | bl d => cases r1; cases hf; exact ⟨_, rfl, k H1 s1⟩
      | _ => cases hf
theorem st_not {g : Env → Option Bool} (h : ST X b G e g) : ST X b G (.UnaryOp .Not e pos) (tN g) :=
  PT.imp (pt_not h) fun σ H Q ⟨Ow, env, c, E, hf, k⟩ => by
    unfold tN at hf
    cases q1 : g env with
    | none => rw [q1] at hf; cases hf
    | some p1 => rw [q1] at hf; cases hf; exact ⟨Ow, env, p1, E, q1, fun H' s => k H' s⟩
abbrev SW (X : Cx) (b : BX) (G : List Nat) (e : Expr) (g : Env → Option Bool) : Prop := PW X e (tMT b G g)
theorem PW.imp {t u : TT} (h : PW X e t) (i : ∀ σ H Q, u σ H Q → t σ H Q) : PW X e u := fun wh pins s σ H Q I q => h wh pins s σ H Q I (i σ H Q q)
variable {g1 g2 : Env → Option Bool}
theorem sw_or1 (h : ST X b G e g1) : SW X b G (.BoolOp .Or [e] pos) g1 := pw_or1 h
theorem sw_or {rest : List Expr} (h1 : ST X b G e1 g1) (h2 : SW X b G (.BoolOp .Or (e2 :: rest) pos) g2) : SW X b G (.BoolOp .Or (e1 :: e2 :: rest) pos) (tO g1 g2) :=
  PW.imp (pw_or h1 h2) fun σ H Q ⟨Ow, env, c, E, hf, k⟩ => by
    unfold tO at hf
    cases q1 : g1 env with
    | none => rw [q1] at hf; cases hf
    | some p1 =>
      rw [q1] at hf
      refine ⟨Ow, env, p1, E, q1, fun H1 s1 => ?_⟩
      cases p1 with
      | false => exact ⟨Ow, env, c, E.up s1, hf, fun H' s => k H' (s1.trans s)⟩
      | true => cases hf; exact k H1 s1
theorem SW.st (h : SW X b G e g1) : ST X b G e g1 := h _
end
end MR
namespace MR
open PySem L2
def ArA (b : BX) (Ow : Addr → Prop) (L : Bool) (H : Hp) (a : Addr) : Prop := Bs b Ow a ∨ (L = true ∧ ∃ vs, H a = some (.lst vs))
def tMA (b : BX) (G : List Nat) (L : Bool) (g : Env → Option (List PV)) : TA := fun σ H Q => ∃ Ow env ps, ER b Ow G σ env H ∧ g env = some ps ∧ ∀ vs H', Same H H' → Reps b.C (ArA b Ow L H') H' vs ps → Q vs H'
abbrev SA (X : Cx) (b : BX) (G : List Nat) (L : Bool) (es : List Expr) (g : Env → Option (List PV)) : Prop := PA X es (tMA b G L g)
theorem PA.imp {X : Cx} {es : List Expr} {t u : TA} (h : PA X es t) (i : ∀ σ H Q, u σ H Q → t σ H Q) : PA X es u := fun pos pins s σ H Q I q => h pos pins s σ H Q I (i σ H Q q)
section
variable {X : Cx} {b : BX} {G : List Nat} {m m1 m2 : Md} {L : Bool} {e e1 e2 : Expr} {es : List Expr} {f f1 f2 : Env → Option PV} {g : Env → Option (List PV)} {pos p : Pos}
theorem sa_nil : SA X b G L [] bNil := PA.imp pa_nil fun σ H Q ⟨Ow, env, ps, E, hg, k⟩ => by cases hg; exact k [] H (Same.refl _) .nil
theorem sa_cons (h1 : SE X b G .val e f) (h2 : SA X b G L es g) (hs : starEach (e :: es) X.env = (false, eval e X.env) :: starEach es X.env := by rfl) : SA X b G L (e :: es) (bCons f g) :=
  PA.imp (pa_cons h1 h2 hs) fun σ H Q ⟨Ow, env, ps, E, hg, k⟩ => by
    unfold bCons at hg
    cases q1 : f env with
    | none => rw [q1] at hg; cases hg
    | some p1 =>
      rw [q1] at hg
      cases q2 : g env with
      | none => rw [q2] at hg; cases hg
      | some ps' =>
        rw [q2] at hg
        cases hg
        exact ⟨Ow, env, p1, E, q1, fun v H1 s1 r1 => ⟨Ow, env, ps', E.up s1, q2, fun vs H2 s2 r2 => k (v :: vs) H2 (s1.trans s2) (.cons (Rep.ex (fun a o h => ⟨fun q => ⟨s2 _ _ h, .inl q⟩, fun _ => s2 _ _ h⟩) r1) r2)⟩⟩
def bL (f : Env → Option PV) (env : Env) : Option PV := (f env).bind fun p => match p with | .lst xs => some (.lst xs) | _ => none
@[simp] theorem bL_ap (f : Env → Option PV) (env : Env) : bL f env = ((f env).bind fun p => match p with | .lst xs => some (.lst xs) | _ => none) := id rfl
theorem sa_consL (h1 : SE X b G m e f) (h2 : SA X b G true es g) (hs : starEach (e :: es) X.env = (false, eval e X.env) :: starEach es X.env := by rfl) : SA X b G true (e :: es) (bCons (bL f) g) :=
  PA.imp (pa_cons h1.bor h2 hs) fun σ H Q ⟨Ow, env, ps, E, hg, k⟩ => by
    unfold bCons bL at hg
    cases q1 : f env with
    | none => rw [q1] at hg; cases hg
    | some p1 =>
      rw [q1] at hg
      cases p1 with
      | lst xs =>
        simp only [Option.bind_some] at hg
        cases q2 : g env with
        | none => rw [q2] at hg; cases hg
        | some ps' =>
          rw [q2] at hg
          cases hg
          refine ⟨Ow, env, _, E, q1, fun v H1 s1 r1 => ⟨Ow, env, ps', E.up s1, q2, fun vs H2 s2 r2 => k (v :: vs) H2 (s1.trans s2) (.cons ?_ r2)⟩⟩
          have r1' : RepB b.C (Bs b Ow) H1 v (.lst xs) := r1
          obtain ⟨a, us, rfl, ha, ra⟩ := r1'.lst
          exact .lst (s2 _ _ ha) (.inr ⟨rfl, us, s2 _ _ ha⟩) (ra.ex fun a o h => ⟨fun q => ⟨s2 _ _ h, .inl q⟩, fun _ => s2 _ _ h⟩)
      | _ => cases hg
theorem arA_f {b : BX} {Ow : Addr → Prop} {H : Hp} {vs : List V} {ps : List PV} (h : Reps b.C (ArA b Ow false H) H vs ps) : Reps b.C (Bs b Ow) H vs ps := h.ex (ex_weak fun a o _ q => q.elim id fun z => by cases z.1)
theorem se_lst (h : SA X b G false es g) : SE X b G .own (.List es pos) (bLst g) := PE.imp (pe_lst h) fun σ H Q ⟨Ow, env, p, E, hf, k⟩ => by
  unfold bLst at hf
  cases q1 : g env with
  | none => rw [q1] at hf; cases hf
  | some ps =>
    rw [q1] at hf
    simp only [Option.bind_some] at hf
    split at hf
    · rename_i hl
      cases hf
      refine ⟨Ow, env, ps, E, q1, fun vs H1 s1 r => ⟨line_le (by rw [r.length]; exact hl), fun q hq => k _ _ (s1.trans (same_new hq _)) (Res.down s1 (res_new hq (arA_f r)))⟩⟩
    · cases hf
theorem se_tup {x1} (h : SA X b G false es g) : SE X b G .val (.Tuple es x1 pos) (bTup g) := PE.imp (pe_tup h) fun σ H Q ⟨Ow, env, p, E, hf, k⟩ => by
  unfold bTup at hf
  cases q1 : g env with
  | none => rw [q1] at hf; cases hf
  | some ps =>
    rw [q1] at hf
    simp only [Option.bind_some] at hf
    split at hf
    · rename_i hl
      cases hf
      refine ⟨Ow, env, ps, E, q1, fun vs H1 s1 r => ⟨line_le (by rw [r.length]; exact hl), fun q hq => k _ _ (s1.trans (same_new hq _)) (res_tup hq (arA_f r))⟩⟩
    · cases hf
theorem se_dK : SE X b G .own (.Dict [] [] pos) (bC (.dK [])) := PE.imp pe_dnewK fun σ H Q ⟨Ow, env, p, E, hf, k⟩ q hq => by
  cases hf
  exact k _ _ (same_new hq _) ⟨q, rfl, hq, [], upd_same, .nil⟩
theorem se_dT : SE X b G .own (.Dict [] [] pos) (bC (.dT [])) := PE.imp pe_dnewT fun σ H Q ⟨Ow, env, p, E, hf, k⟩ q hq => by
  cases hf
  exact k _ _ (same_new hq _) ⟨q, rfl, hq, [], upd_same, .nil⟩
@[simp] def ixP : PV → PV → Option PV
  | .lst xs, .int i => atI xs i
  | .frz xs, .int i => atI xs i
  | .tup xs, .int i => atI xs i
  | .ktp xs, .int i => atI xs i
  | .str x, .int i => if x.length ≤ 1000000 then (atI x.cps.toList i).map fun c => .str ⟨#[c]⟩ else none
  | .dK kvs, y => (keyOf y).bind fun k => dLook kvs k
  | .dT kvs, .tup ys => (keysB ys).bind fun k => dLook kvs k
  | _, _ => none
theorem Reps.atI {C : MC} {A : Addr → Prop} {H : Hp} {vs : List V} {ps : List PV} {i : Int} {p : PV} (h : Reps C A H vs ps) (e : atI ps i = some p) : ∃ v, L2.atI vs i = some v ∧ Rep C A H v p := by
  unfold L2.atI at e ⊢
  rw [h.length]
  cases q : ixN ps.length i with
  | none => rw [q] at e; cases e
  | some j => rw [q] at e; exact h.get e
theorem se_ix {j : Nat} (hr : Room j X.A) (h1 : SE X b G m1 e1 f1) (h2 : SE X b G m2 e2 f2) (hs : PlainIx e2 := by intro _ _; rfl) (hs' : NoSl e2 := by intro _ _; rfl) (hK : X.K = b.C.K := by rfl) : SE X b G .val (.Subscript e1 e2 pos) (b2 ixP f1 f2) := by
  refine PE.imp (PE.or (pe_ix (r := rIx b.C.K) (by rw [← hK]; exact ix_seq) h1.bor h2.bor hs) (pe_dget (hu_of hr) h1.bor h2.bor hs')) fun σ H Q h => ?_
  obtain ⟨Ow, env, p, E, hf, k⟩ := h
  unfold b2 at hf
  cases q1 : f1 env with
  | none => rw [q1] at hf; cases hf
  | some p1 =>
    rw [q1] at hf
    cases q2 : f2 env with
    | none => rw [q2] at hf; cases hf
    | some p2 =>
      rw [q2] at hf
      simp only [Option.bind_some] at hf
      have step : ∀ (R : V → V → Hp → VK → Prop), (∀ H2 v1 v2, RepB b.C (Bs b Ow) H2 v1 p1 → RepB b.C (Bs b Ow) H2 v2 p2 → Same H H2 → R v1 v2 H2 Q) → tM b G .bor f1 σ H fun x H1 => tM b G .bor f2 σ H1 fun y H2 => R x y H2 Q := fun R hR =>
        ⟨Ow, env, p1, E, q1, fun v1 H1 s1 r1 => ⟨Ow, env, p2, E.up s1, q2, fun v2 H2 s2 r2 => hR H2 v1 v2 (Res.up (m := .bor) r1 s2) r2 (s1.trans s2)⟩⟩
      unfold ixP at hf
      split at hf
      · refine .inl (step _ fun H2 v1 v2 r1 r2 s => ?_)
        obtain ⟨a, vs, rfl, ha, ra⟩ := r1.lst
        obtain ⟨v, hv, rv⟩ := ra.atI hf
        rw [r2.int]
        exact .inl ⟨a, vs, _, v, rfl, rfl, SqL.of ha, hv, k v H2 s rv⟩
      · refine .inl (step _ fun H2 v1 v2 r1 r2 s => ?_)
        obtain ⟨a, vs, rfl, ha, ra⟩ := r1.frz
        obtain ⟨v, hv, rv⟩ := ra.atI hf
        rw [r2.int]
        exact .inl ⟨a, vs, _, v, rfl, rfl, ha, hv, k v H2 s rv⟩
      · refine .inl (step _ fun H2 v1 v2 r1 r2 s => ?_)
        obtain ⟨a, vs, rfl, ha, ra⟩ := r1.tup
        obtain ⟨v, hv, rv⟩ := ra.atI hf
        rw [r2.int]
        exact .inr (.inl ⟨a, vs, _, v, rfl, rfl, ha.sq, hv, k v H2 s rv⟩)
      · refine .inl (step _ fun H2 v1 v2 r1 r2 s => ?_)
        obtain ⟨a, vs, rfl, ha, ra⟩ := r1.ktp
        obtain ⟨v, hv, rv⟩ := ra.atI hf
        rw [r2.int]
        exact .inr (.inl ⟨a, vs, _, v, rfl, rfl, ha, hv, k v H2 s rv⟩)
      · split at hf
        · rename_i x i hx
          cases q3 : atI x.cps.toList i with
          | none => rw [q3] at hf; cases hf
          | some c =>
            rw [q3] at hf
            cases hf
            refine .inl (step _ fun H2 v1 v2 r1 r2 s => ?_)
            rw [r1.str, r2.int]
            exact .inr (.inr ⟨x, i, c, rfl, rfl, line_le hx, q3, k _ H2 s (.str _)⟩)
        · cases hf
      · rename_i kvs
        cases q3 : keyOf p2 with
        | none => rw [q3] at hf; cases hf
        | some ky =>
          rw [q3] at hf
          simp only [Option.bind_some] at hf
          refine .inr (step (fun x y H2 Q => ∃ a v, x = .ref a ∧ DGet X.K H2 a y (some v) ∧ Q v H2) fun H2 v1 v2 r1 r2 s => ?_)
          obtain ⟨a, kv, rfl, ha, ra⟩ := r1.dK
          rw [r2.key q3]
          unfold dLook at hf
          rcases RepK.val (k := ky) ra with ⟨v, p', h1, h2, rv⟩ | ⟨h1, h2⟩
          · rw [h2] at hf
            cases hf
            exact ⟨a, v, rfl, by rw [← h1]; exact DGet.k ha, k v H2 s rv⟩
          · rw [h2] at hf; cases hf
      · rename_i kvs ys
        cases q3 : keysB ys with
        | none => rw [q3] at hf; cases hf
        | some ky =>
          rw [q3] at hf
          simp only [Option.bind_some] at hf
          refine .inr (step (fun x y H2 Q => ∃ a v, x = .ref a ∧ DGet X.K H2 a y (some v) ∧ Q v H2) fun H2 v1 v2 r1 r2 s => ?_)
          obtain ⟨a, kv, rfl, ha, ra⟩ := r1.dT
          obtain ⟨c, vs, rfl, hc, rc⟩ := r2.tup
          unfold dLook at hf
          rcases RepT.val (k := ky) ra with ⟨v, p', h1, h2, rv⟩ | ⟨h1, h2⟩
          · rw [h2] at hf
            cases hf
            exact ⟨a, v, rfl, by rw [← h1, hK]; exact DGet.t ha (hc.key (rc.keysB q3)), k v H2 s rv⟩
          · rw [h2] at hf; cases hf
      · cases hf
def cutP (xs : List PV) (lo hi : Option Int) : List PV := (xs.drop (HT.sIx xs.length 0 lo)).take (HT.sIx xs.length xs.length hi - HT.sIx xs.length 0 lo)
theorem Reps.cut {C : MC} {A : Addr → Prop} {H : Hp} {vs : List V} {ps : List PV} (h : Reps C A H vs ps) (lo hi : Option Int) : Reps C A H (cutV vs lo hi) (cutP ps lo hi) := by
  unfold cutV cutP
  rw [h.length]
  exact (h.drop _).take _
def oN (env : Env) : Option (Option Int) := some none
@[simp] theorem oN_ap (env : Env) : oN env = (some none) := id rfl
def oS (f : Env → Option PV) (env : Env) : Option (Option Int) := (f env).bind fun p => match p with | .int i => some (some i) | _ => none
@[simp] theorem oS_ap (f : Env → Option PV) (env : Env) : oS f env = ((f env).bind fun p => match p with | .int i => some (some i) | _ => none) := id rfl
def tMO (b : BX) (G : List Nat) (f : Env → Option (Option Int)) : TO := fun σ H Q => ∃ Ow env o, ER b Ow G σ env H ∧ f env = some o ∧ ∀ H', Same H H' → Q o H'
theorem PO.imp {x : Option Expr} {t u : TO} (h : PO X x t) (i : ∀ σ H Q, u σ H Q → t σ H Q) : PO X x u := by
  intro pins s σ H Q I q
  exact h pins s σ H Q I (i σ H Q q)
abbrev SO (X : Cx) (b : BX) (G : List Nat) (e : Option Expr) (f : Env → Option (Option Int)) : Prop := PO X e (tMO b G f)
theorem so_none : SO X b G none oN := PO.imp po_none fun σ H Q ⟨Ow, env, o, E, hf, k⟩ => by cases hf; exact k H (Same.refl _)
theorem so_some (h : SE X b G m e f) : SO X b G (some e) (oS f) := PO.imp (po_some h.bor) fun σ H Q ⟨Ow, env, o, E, hf, k⟩ => by
  unfold oS at hf
  cases q1 : f env with
  | none => rw [q1] at hf; cases hf
  | some p1 =>
    rw [q1] at hf
    refine ⟨Ow, env, p1, E, q1, fun v H1 s1 r1 => ?_⟩
    have r1' : RepB b.C (Bs b Ow) H1 v p1 := r1
    cases p1 <;> simp only [Option.bind_some] at hf <;> cases hf
    exact ⟨_, r1'.int, k H1 s1⟩
def bSl (f : Env → Option PV) (lo hi : Env → Option (Option Int)) (env : Env) : Option PV := (f env).bind fun x => (lo env).bind fun l => (hi env).bind fun h => match x with
  | .lst xs => some (.lst (cutP xs l h))
  | .frz xs => some (.lst (cutP xs l h))
  | .str x => if x.length ≤ 1000000 then some (.str (cutS x l h)) else none
  | _ => none
@[simp] theorem bSl_ap (f : Env → Option PV) (lo hi : Env → Option (Option Int)) (env : Env) : bSl f lo hi env = ((f env).bind fun x => (lo env).bind fun l => (hi env).bind fun h => match x with
  | .lst xs => some (.lst (cutP xs l h))
  | .frz xs => some (.lst (cutP xs l h))
  | .str x => if x.length ≤ 1000000 then some (.str (cutS x l h)) else none
  | _ => none) := id rfl
theorem se_sl {lo hi : Option Expr} {p2 : Pos} {fl fh : Env → Option (Option Int)} (h1 : SE X b G m e f) (hl : SO X b G lo fl) (hh : SO X b G hi fh) (hK : X.K = b.C.K := by rfl) : SE X b G .val (.Subscript e (.Slice lo hi none p2) pos) (bSl f fl fh) := by
  refine PE.imp (pe_slice (r := rSlA b.C.K) (by rw [← hK]; exact sl_any) h1.bor hl hh) fun σ H Q ⟨Ow, env, p, E, hf, k⟩ => ?_
  unfold bSl at hf
  cases q1 : f env with
  | none => rw [q1] at hf; cases hf
  | some p1 =>
    rw [q1] at hf
    cases q2 : fl env with
    | none => rw [q2] at hf; cases hf
    | some l =>
      rw [q2] at hf
      cases q3 : fh env with
      | none => rw [q3] at hf; cases hf
      | some h =>
        rw [q3] at hf
        refine ⟨Ow, env, p1, E, q1, fun v H1 s1 r1 => ⟨Ow, env, l, E.up s1, q2, fun H2 s2 => ⟨Ow, env, h, E.up (s1.trans s2), q3, fun H3 s3 => ?_⟩⟩⟩
        have r1' : RepB b.C (Bs b Ow) H3 v p1 := Res.up (m := .bor) r1 (s2.trans s3)
        cases p1 <;> simp only [Option.bind_some] at hf
        case lst xs =>
          cases hf
          obtain ⟨a, vs, rfl, ha, ra⟩ := r1'.lst
          exact .inl ⟨a, vs, rfl, SqL.of ha, fun q hq => k _ _ (s1.trans (s2.trans (s3.trans (same_new hq _)))) (Res.val (m := .own) E (fun z => nomatch z) (Res.down (s1.trans (s2.trans s3)) (res_new hq (ra.cut l h))))⟩
        case frz xs =>
          cases hf
          obtain ⟨a, vs, rfl, ha, ra⟩ := r1'.frz
          exact .inl ⟨a, vs, rfl, ha, fun q hq => k _ _ (s1.trans (s2.trans (s3.trans (same_new hq _)))) (Res.val (m := .own) E (fun z => nomatch z) (Res.down (s1.trans (s2.trans s3)) (res_new hq (ra.cut l h))))⟩
        case str x =>
          split at hf
          · rename_i hx
            cases hf
            exact .inr ⟨x, r1'.str, line_le hx, k _ _ (s1.trans (s2.trans s3)) (.str _)⟩
          · cases hf
        all_goals cases hf
def bSlO (f : Env → Option PV) (lo hi : Env → Option (Option Int)) (env : Env) : Option PV := (f env).bind fun x => (lo env).bind fun l => (hi env).bind fun h => match x with
  | .lst xs => some (.lst (cutP xs l h))
  | .frz xs => some (.lst (cutP xs l h))
  | _ => none
@[simp] theorem bSlO_ap (f : Env → Option PV) (lo hi : Env → Option (Option Int)) (env : Env) : bSlO f lo hi env = ((f env).bind fun x => (lo env).bind fun l => (hi env).bind fun h => match x with
  | .lst xs => some (.lst (cutP xs l h))
  | .frz xs => some (.lst (cutP xs l h))
  | _ => none) := id rfl
theorem se_slO {lo hi : Option Expr} {p2 : Pos} {fl fh : Env → Option (Option Int)} (h1 : SE X b G m e f) (hl : SO X b G lo fl) (hh : SO X b G hi fh) (hK : X.K = b.C.K := by rfl) : SE X b G .own (.Subscript e (.Slice lo hi none p2) pos) (bSlO f fl fh) := by
  refine PE.imp (pe_slice (r := rSlL b.C.K) (by rw [← hK]; exact sl_list) h1.bor hl hh) fun σ H Q ⟨Ow, env, p, E, hf, k⟩ => ?_
  unfold bSlO at hf
  cases q1 : f env with
  | none => rw [q1] at hf; cases hf
  | some p1 =>
    rw [q1] at hf
    cases q2 : fl env with
    | none => rw [q2] at hf; cases hf
    | some l =>
      rw [q2] at hf
      cases q3 : fh env with
      | none => rw [q3] at hf; cases hf
      | some h =>
        rw [q3] at hf
        refine ⟨Ow, env, p1, E, q1, fun v H1 s1 r1 => ⟨Ow, env, l, E.up s1, q2, fun H2 s2 => ⟨Ow, env, h, E.up (s1.trans s2), q3, fun H3 s3 => ?_⟩⟩⟩
        have r1' : RepB b.C (Bs b Ow) H3 v p1 := Res.up (m := .bor) r1 (s2.trans s3)
        cases p1 <;> simp only [Option.bind_some] at hf <;> cases hf
        · obtain ⟨a, vs, rfl, ha, ra⟩ := r1'.lst
          exact ⟨a, vs, rfl, SqL.of ha, fun q hq => k _ _ (s1.trans (s2.trans (s3.trans (same_new hq _)))) (Res.down (s1.trans (s2.trans s3)) (res_new hq (ra.cut l h)))⟩
        · obtain ⟨a, vs, rfl, ha, ra⟩ := r1'.frz
          exact ⟨a, vs, rfl, ha, fun q hq => k _ _ (s1.trans (s2.trans (s3.trans (same_new hq _)))) (Res.down (s1.trans (s2.trans s3)) (res_new hq (ra.cut l h)))⟩
theorem se_blt {id : String} {x : Str} {r : List V → Hp → VK → Prop} {g : PV → Option PV} (hc : CallR X (.builtin id) r) (hr : Op1 b m (fun v H Q => r [v] H Q) g) (hm : X.mg x = none) (hv : bootBuiltins x = some (.builtin id)) (h : SE X b G m1 e f)
    (hg : Gl X x := by rfl) (hn : x ≠ "__name__" := by decide) (hdb : (x == ("__debug__" : Str)) = false := by decide) (he : starEach [e] X.env = (false, eval e X.env) :: starEach [] X.env := by rfl) :
    SE X b G m (.Call (.Name x p) [e] [] pos) (b1 g f) :=
  PE.imp (pe_callB hc hg hm hv (pa_cons h.bor pa_nil he) hn hdb he rfl) fun σ H Q h => tM_un hr h
theorem se_blty {id : String} {x : Str} {r : List V → Hp → VK → Prop} {g : PV → Option PV} (hc : CallR X (.type id) r) (hr : Op1 b m (fun v H Q => r [v] H Q) g) (hm : X.mg x = none) (hv : bootBuiltins x = some (.type id)) (h : SE X b G m1 e f)
    (hg : Gl X x := by rfl) (hn : x ≠ "__name__" := by decide) (hdb : (x == ("__debug__" : Str)) = false := by decide) (he : starEach [e] X.env = (false, eval e X.env) :: starEach [] X.env := by rfl) :
    SE X b G m (.Call (.Name x p) [e] [] pos) (b1 g f) :=
  PE.imp (pe_callTy hc hg hm hv (pa_cons h.bor pa_nil he) hn hdb he rfl) fun σ H Q h => tM_un hr h
@[simp] def lenV : PV → Option PV
  | .lst xs => some (.int xs.length)
  | .frz xs => some (.int xs.length)
  | .tup xs => some (.int xs.length)
  | .ktp xs => some (.int xs.length)
  | .str x => if x.length ≤ 1000000 then some (.int x.length) else none
  | .dK kvs => some (.int kvs.length)
  | _ => none
theorem RepK.length {C : MC} {A : Addr → Prop} {H : Hp} : ∀ {vs : List (Key × V)} {ps : List (Key × PV)}, RepK C A H vs ps → vs.length = ps.length
  | _, _, .nil => rfl
  | _, _, .cons _ t => by simp [RepK.length t]
theorem se_len (hm : X.mg "len" = none) (h : SE X b G m1 e f) (hK : X.K = b.C.K := by rfl) (hg : Gl X "len" := by rfl) (he : starEach [e] X.env = (false, eval e X.env) :: starEach [] X.env := by rfl) : SE X b G .val (.Call (.Name "len" p) [e] [] pos) (b1 lenV f) := by
  refine se_blt (CallR.or (CallR.or call_len_seq call_len_str) call_lenD) (fun Ow H v1 p1 p Q hn r1 e k => ?_) hm PySem.boot_len h hg (by decide) (by decide) he
  rw [hK]
  cases p1 <;> simp only [lenV] at e
  case lst xs => cases e; obtain ⟨a, vs, rfl, ha, ra⟩ := r1.lst; exact .inl (.inl ⟨a, vs, rfl, .inl (SqL.of ha), by rw [ra.length]; exact k _ H (Same.refl _) (.int _)⟩)
  case frz xs => cases e; obtain ⟨a, vs, rfl, ha, ra⟩ := r1.frz; exact .inl (.inl ⟨a, vs, rfl, .inl ha, by rw [ra.length]; exact k _ H (Same.refl _) (.int _)⟩)
  case tup xs => cases e; obtain ⟨a, vs, rfl, ha, ra⟩ := r1.tup; exact .inl (.inl ⟨a, vs, rfl, .inr ha.sq, by rw [ra.length]; exact k _ H (Same.refl _) (.int _)⟩)
  case ktp xs => cases e; obtain ⟨a, vs, rfl, ha, ra⟩ := r1.ktp; exact .inl (.inl ⟨a, vs, rfl, .inr ha, by rw [ra.length]; exact k _ H (Same.refl _) (.int _)⟩)
  case str x =>
    split at e
    · rename_i hx
      cases e
      rw [r1.str]
      exact .inl (.inr ⟨x, rfl, line_le hx, k _ H (Same.refl _) (.int _)⟩)
    · cases e
  case dK kvs => cases e; obtain ⟨a, vs, rfl, ha, ra⟩ := r1.dK; exact .inr ⟨a, vs, rfl, ha, by rw [ra.length]; exact k _ H (Same.refl _) (.int _)⟩
  all_goals cases e
def unKey : Key → PV
  | .inl i => .int i
  | .inr x => .str x
@[simp] def listV : PV → Option PV
  | .lst xs => some (.lst xs)
  | .frz xs => some (.lst xs)
  | .tup xs => some (.lst xs)
  | .ktp xs => some (.lst xs)
  | .dK kvs => some (.lst (kvs.map fun kv => unKey kv.1))
  | _ => none
theorem rep_key {C : MC} {A : Addr → Prop} {H : Hp} (k : Key) : Rep C A H (kV k) (unKey k) := by cases k with | inl i => exact .int i | inr x => exact .str x
theorem RepK.keys {C : MC} {A : Addr → Prop} {H : Hp} : ∀ {vs : List (Key × V)} {ps : List (Key × PV)}, RepK C A H vs ps → Reps C A H (vs.map fun kv => kV kv.1) (ps.map fun kv => unKey kv.1)
  | _, _, .nil => .nil
  | _, _, .cons (k := k) _ t => .cons (rep_key k) (RepK.keys t)
theorem se_list (hm : X.mg "list" = none) (h : SE X b G m1 e f) (hcm : X.calm = true := by rfl) (hK : X.K = b.C.K := by rfl) (hg : Gl X "list" := by rfl) (he : starEach [e] X.env = (false, eval e X.env) :: starEach [] X.env := by rfl) : SE X b G .own (.Call (.Name "list" p) [e] [] pos) (b1 listV f) := by
  refine se_blty (CallR.or call_list_of (call_list_dict hcm)) (fun Ow H v1 p1 p Q hn r1 e k => ?_) hm PyProof.Rows.boot_list h hg (by decide) (by decide) he
  rw [hK]
  cases p1 <;> simp only [listV] at e <;> cases e
  case lst xs => obtain ⟨a, vs, rfl, ha, ra⟩ := r1.lst; exact .inl ⟨a, vs, rfl, .inl (SqL.of ha), fun l hl => k _ _ (same_new hl _) (res_new hl ra)⟩
  case frz xs => obtain ⟨a, vs, rfl, ha, ra⟩ := r1.frz; exact .inl ⟨a, vs, rfl, .inl ha, fun l hl => k _ _ (same_new hl _) (res_new hl ra)⟩
  case tup xs => obtain ⟨a, vs, rfl, ha, ra⟩ := r1.tup; exact .inl ⟨a, vs, rfl, .inr ha.sq, fun l hl => k _ _ (same_new hl _) (res_new hl ra)⟩
  case ktp xs => obtain ⟨a, vs, rfl, ha, ra⟩ := r1.ktp; exact .inl ⟨a, vs, rfl, .inr ha, fun l hl => k _ _ (same_new hl _) (res_new hl ra)⟩
  case dK kvs => obtain ⟨a, vs, rfl, ha, ra⟩ := r1.dK; exact .inr ⟨a, vs, rfl, ha, fun l hl => k _ _ (same_new hl _) (res_new hl ra.keys)⟩
@[simp] def bools : List PV → Option (List Bool)
  | [] => some []
  | .bl c :: r => (bools r).map (c :: ·)
  | _ :: _ => none
theorem Reps.bools {C : MC} {A : Addr → Prop} {H : Hp} : ∀ {vs : List V} {ps : List PV} {bs : List Bool}, Reps C A H vs ps → bools ps = some bs → vs = bs.map V.bl
  | _, _, _, .nil, e => by cases e; rfl
  | _, _, _, .cons (p := p) (ps := ps) h t, e => by
    cases p <;> simp only [MR.bools] at e <;> first | cases e | skip
    rename_i c
    cases q : MR.bools ps with
    | none => rw [q] at e; cases e
    | some bs => rw [q] at e; cases e; cases h; rw [Reps.bools t q]; rfl
@[simp] def allV : PV → Option PV
  | .lst xs => (bools xs).map fun bs => .bl (bs.all id)
  | _ => none
theorem se_all (hm : X.mg "all" = none) (h : SE X b G m1 e f) (hcm : X.calm = true := by rfl) (hg : Gl X "all" := by rfl) (he : starEach [e] X.env = (false, eval e X.env) :: starEach [] X.env := by rfl) : SE X b G .val (.Call (.Name "all" p) [e] [] pos) (b1 allV f) := by
  refine se_blt (call_all hcm) (fun Ow H v1 p1 p Q hn r1 e k => ?_) hm PyProof.Rows.boot_all h hg (by decide) (by decide) he
  cases p1 <;> simp only [allV] at e <;> first | cases e | skip
  rename_i xs
  cases q : bools xs with
  | none => rw [q] at e; cases e
  | some bs =>
    rw [q] at e
    cases e
    obtain ⟨a, vs, rfl, ha, ra⟩ := r1.lst
    have hv := ra.bools q
    subst hv
    exact ⟨a, bs, rfl, SqL.of ha, k _ H (Same.refl _) (.bl _)⟩
@[simp] def strsP : List PV → Option (List Str)
  | [] => some []
  | .str c :: r => (strsP r).map (c :: ·)
  | _ :: _ => none
theorem Reps.strsP {C : MC} {A : Addr → Prop} {H : Hp} : ∀ {vs : List V} {ps : List PV} {bs : List Str}, Reps C A H vs ps → strsP ps = some bs → vs = bs.map V.str
  | _, _, _, .nil, e => by cases e; rfl
  | _, _, _, .cons (p := p) (ps := ps) h t, e => by
    cases p <;> simp only [MR.strsP] at e <;> first | cases e | skip
    rename_i c
    cases q : MR.strsP ps with
    | none => rw [q] at e; cases e
    | some bs => rw [q] at e; cases e; cases h; rw [Reps.strsP t q]; rfl
@[simp] def joinV : PV → PV → Option PV
  | .str z, .lst xs => (strsP xs).bind fun zs => if JoinOk z zs = true then some (.str (Str.join z zs)) else none
  | _, _ => none
@[simp] def splitV : PV → PV → Option PV
  | .str z, .str y => if (y.length == 0) = false ∧ z.length ≤ 1000000 then some (.lst ((Txt.split z y).map .str)) else none
  | _, _ => none
theorem se_sm {id : String} {name : Str} {apos cpos : Pos} {o : Expr} {fo : Env → Option PV} {r : V → List V → Hp → VK → Prop} {g : PV → PV → Option PV} (slot : Slot "str" name id) (hty : typeOf (.builtin id) = pure (.type "method_descriptor")) (pa : PlainAttrs "str") (hm : MtR X id r)
    (hr : Op2 b m (fun x y H Q => (∃ z, x = .str z) → r x [y] H Q) g) (hgs : ∀ x y p, g x y = some p → ∃ z, x = .str z) (ho : SE X b G m1 o fo) (h : SE X b G m2 e f)
    (hbase : attributeBase o name X.env (eval o X.env) = eval o X.env := by rfl)
    (hfew : ((backTo cpos (starEach [e] X.env)).all (fun x => !x.1) && (backToKw cpos (keywordEach [] X.env)).all (fun x => x.1.isSome)
      && decide ([e].length + ([] : List Keyword).length + (if ([] : List Keyword).isEmpty then 0 else 1) < 30)) = true := by rfl)
    (hline : (apos.endLine == cpos.line) = true := by rfl) (hs : starEach [e] X.env = (false, eval e X.env) :: starEach [] X.env := by rfl) :
    SE X b G m (.Call (.Attribute o name apos) [e] [] cpos) (b2 g fo f) := by
  refine PE.imp (pe_bm pa slot hty hm ho.bor (pa_cons h.bor pa_nil hs) hbase hfew hline hs rfl) fun σ H Q h => ?_
  obtain ⟨Ow, env, p, E, hf, k⟩ := h
  unfold b2 at hf
  cases q1 : fo env with
  | none => rw [q1] at hf; cases hf
  | some p1 =>
    rw [q1] at hf
    cases q2 : f env with
    | none => rw [q2] at hf; cases hf
    | some p2 =>
      rw [q2] at hf
      simp only [Option.bind_some] at hf
      obtain ⟨z, rfl⟩ := hgs _ _ _ hf
      refine ⟨Ow, env, _, E, q1, fun v1 H1 s1 r1 => ?_⟩
      have r1' : RepB b.C (Bs b Ow) H1 v1 (.str z) := r1
      have ev := r1'.str
      subst ev
      refine ⟨rfl, Ow, env, p2, E.up s1, q2, fun v2 H2 s2 r2 => ?_⟩
      exact hr Ow H2 _ v2 _ p2 p Q (fun a => (E.up (s1.trans s2)).fresh) (RepB.ex (.of_same s2) s2 r1') r2 hf (fun v H' s r => k v H' (s1.trans (s2.trans s)) (r.down (s1.trans s2))) ⟨z, rfl⟩
theorem o2_join : Op2 b .val (fun x y H Q => (∃ z, x = .str z) → rJoin b.C.K x [y] H Q) joinV := by
  intro Ow H v1 v2 p1 p2 p Q hn r1 r2 e k _
  unfold joinV at e
  split at e
  · rename_i z xs
    cases q : strsP xs with
    | none => rw [q] at e; cases e
    | some zs =>
      rw [q] at e
      simp only [Option.bind_some] at e
      split at e
      · rename_i hj
        cases e
        obtain ⟨a, vs, rfl, ha, ra⟩ := r2.lst
        have hv := ra.strsP q
        subst hv
        exact ⟨z, a, zs, r1.str, rfl, SqL.of ha, hj, k _ H (Same.refl _) (.str _)⟩
      · cases e
  · cases e
theorem o2_split : Op2 b .own (fun x y H Q => (∃ z, x = .str z) → rSplit x [y] H Q) splitV := by
  intro Ow H v1 v2 p1 p2 p Q hn r1 r2 e k _
  unfold splitV at e
  split at e
  · rename_i z y
    split at e
    · rename_i hj
      cases e
      refine ⟨z, y, r1.str, by rw [r2.str], hj.1, hj.2, fun l hl => k _ _ (same_new hl _) (res_new hl (reps_of _ _ (fun x => .str x) _))⟩
    · cases e
  · cases e
theorem se_join {apos cpos : Pos} {o : Expr} {fo : Env → Option PV} (ho : SE X b G m1 o fo) (h : SE X b G m2 e f) (hK : X.K = b.C.K := by rfl) (hbase : attributeBase o "join" X.env (eval o X.env) = eval o X.env := by rfl)
    (hfew : ((backTo cpos (starEach [e] X.env)).all (fun x => !x.1) && (backToKw cpos (keywordEach [] X.env)).all (fun x => x.1.isSome)
      && decide ([e].length + ([] : List Keyword).length + (if ([] : List Keyword).isEmpty then 0 else 1) < 30)) = true := by rfl)
    (hline : (apos.endLine == cpos.line) = true := by rfl) (hs : starEach [e] X.env = (false, eval e X.env) :: starEach [] X.env := by rfl) :
    SE X b G .val (.Call (.Attribute o "join" apos) [e] [] cpos) (b2 joinV fo f) :=
  se_sm PySem.F.slot_str_join PySem.F.type_str_join PySem.F.plainAttrs_str (r := rJoin b.C.K) (by rw [← hK]; exact mt_join) o2_join (fun x y p e => by
    unfold joinV at e
    split at e
    · exact ⟨_, rfl⟩
    · cases e) ho h hbase hfew hline hs
theorem se_split {apos cpos : Pos} {o : Expr} {fo : Env → Option PV} (ho : SE X b G m1 o fo) (h : SE X b G m2 e f) (hbase : attributeBase o "split" X.env (eval o X.env) = eval o X.env := by rfl)
    (hfew : ((backTo cpos (starEach [e] X.env)).all (fun x => !x.1) && (backToKw cpos (keywordEach [] X.env)).all (fun x => x.1.isSome)
      && decide ([e].length + ([] : List Keyword).length + (if ([] : List Keyword).isEmpty then 0 else 1) < 30)) = true := by rfl)
    (hline : (apos.endLine == cpos.line) = true := by rfl) (hs : starEach [e] X.env = (false, eval e X.env) :: starEach [] X.env := by rfl) :
    SE X b G .own (.Call (.Attribute o "split" apos) [e] [] cpos) (b2 splitV fo f) :=
  se_sm PySem.F.slot_str_split PySem.F.type_str_split PySem.F.plainAttrs_str mt_split o2_split (fun x y p e => by
    unfold splitV at e
    split at e
    · exact ⟨_, rfl⟩
    · cases e) ho h hbase hfew hline hs
def Ret (C : MC) (A : Addr → Prop) (H : Hp) (ro : Bool) (H' : Hp) (v : V) (p : PV) : Prop := match ro with
  | true => ∃ a, v = .ref a ∧ H a = none ∧ Top C (fun c => (A c ∨ H c = none) ∧ c ≠ a) H' a p
  | false => Rep C (fun c => A c ∨ H c = none) H' v p
def spM (C : MC) (m : List PV → Option PV) (ro : Bool) : Sp := fun vs H Q _ => ∃ A ps p, Reps C A H vs ps ∧ m ps = some p ∧ ∀ v H', Same H H' → Ret C A H ro H' v p → Q v H'
def mdOf : Bool → Md
  | true => .own
  | false => .val
theorem Ret.res {Ow : Addr → Prop} {σ : St} {env : Env} {H H1 H' : Hp} {ro : Bool} {v : V} {q : PV} (E : ER b Ow G σ env H) (s : Same H H1) (r : Ret b.C (Bs b Ow) H1 ro H' v q) : Res b Ow H H' (mdOf ro) v q := by
  cases ro with
  | true =>
    obtain ⟨a, rfl, h, t⟩ := r
    exact ⟨a, rfl, s.free h, t.ex (ex_weak fun c o _ z => ⟨z.1.elim id fun w => (E.up s).fresh w, z.2⟩) fun o z => z⟩
  | false => exact Rep.ex (ex_weak fun c o _ z => z.elim id fun w => (E.up s).fresh w) r
theorem se_call {k j : Nat} {x : Str} {ps : List Str} {mi : List PV → Option PV} {ro : Bool} (c : Cal X.prog X.w X.K X.mg X.base k x ps (spM b.C mi ro)) (hr : Room j X.A) (ha : SA X b G false (e :: es) g) (hle : k ≤ j := by decide) (hg : Gl X x := by rfl)
    (hdb : (x == ("__debug__" : Str)) = false := by decide) (he : starEach (e :: es) X.env = (false, eval e X.env) :: starEach es X.env := by rfl) (hpl : (backTo pos (starEach es X.env)).any (·.1) = false := by rfl) :
    SE X b G (mdOf ro) (.Call (.Name x p) (e :: es) [] pos) (bCall mi g) := by
  refine PE.imp (pe_cal c hr ha hle hg hdb he hpl) fun σ H Q ⟨Ow, env, q, E, hf, kk⟩ => ?_
  unfold bCall at hf
  cases q1 : g env with
  | none => rw [q1] at hf; cases hf
  | some qs =>
    rw [q1] at hf
    refine ⟨Ow, env, qs, E, q1, fun vs H1 s1 r => ?_⟩
    dsimp only
    rw [List.append_nil]
    exact ⟨Bs b Ow, qs, q, arA_f r, hf, fun v H' s' rr => kk v H' (s1.trans s') (Ret.res E s1 rr)⟩
mutual
def noL : PV → Bool
  | .lst _ => false
  | .tup xs => noLs xs
  | .ktp xs => noLs xs
  | .frz xs => noLs xs
  | .dK kvs => noLk kvs
  | .dT kvs => noLt kvs
  | .obj _ fs => noLf fs
  | _ => true
def noLs : List PV → Bool
  | [] => true
  | x :: xs => noL x && noLs xs
def noLk : List (Key × PV) → Bool
  | [] => true
  | x :: xs => noL x.2 && noLk xs
def noLt : List (List Key × PV) → Bool
  | [] => true
  | x :: xs => noL x.2 && noLt xs
def noLf : List (Str × PV) → Bool
  | [] => true
  | x :: xs => noL x.2 && noLf xs
end
def NL (A A' : Addr → Prop) (H : Hp) : Prop := ∀ a o, H a = some o → A a → A' a ∨ ∃ vs, o = .lst vs
mutual
theorem Rep.nl {C : MC} {A A' : Addr → Prop} {H : Hp} (e : NL A A' H) : ∀ {v : V} {p : PV}, Rep C A H v p → noL p = true → Rep C A' H v p
  | _, _, .non, _ => .non
  | _, _, .bl b, _ => .bl b
  | _, _, .int i, _ => .int i
  | _, _, .str x, _ => .str x
  | _, _, .lst h q r, n => by simp only [noL] at n; cases n
  | _, _, .lstF h r, n => .lstF h (Reps.nl e r (by simpa only [noL] using n))
  | _, _, .lstK h r, n => .lstK h (Reps.nl e r (by simpa only [noL] using n))
  | _, _, .tup h r, n => .tup h (Reps.nl e r (by simpa only [noL] using n))
  | _, _, .tupC h r, n => .tupC h (Reps.nl e r (by simpa only [noL] using n))
  | _, _, .tupK h r, n => .tupK h (Reps.nl e r (by simpa only [noL] using n))
  | _, _, .dK h q r, n => .dK h ((e _ _ h q).elim id fun ⟨_, z⟩ => nomatch z) (RepK.nl e r (by simpa only [noL] using n))
  | _, _, .dT h q r, n => .dT h ((e _ _ h q).elim id fun ⟨_, z⟩ => nomatch z) (RepT.nl e r (by simpa only [noL] using n))
  | _, _, .obj h q r, n => .obj h ((e _ _ h q).elim id fun ⟨_, z⟩ => nomatch z) (RepF.nl e r (by simpa only [noL] using n))
theorem Reps.nl {C : MC} {A A' : Addr → Prop} {H : Hp} (e : NL A A' H) : ∀ {v : List V} {p : List PV}, Reps C A H v p → noLs p = true → Reps C A' H v p
  | _, _, .nil, _ => .nil
  | _, _, .cons h t, n => by
    simp only [noLs, Bool.and_eq_true] at n
    exact .cons (Rep.nl e h n.1) (Reps.nl e t n.2)
theorem RepK.nl {C : MC} {A A' : Addr → Prop} {H : Hp} (e : NL A A' H) : ∀ {v : List (Key × V)} {p : List (Key × PV)}, RepK C A H v p → noLk p = true → RepK C A' H v p
  | _, _, .nil, _ => .nil
  | _, _, .cons h t, n => by
    simp only [noLk, Bool.and_eq_true] at n
    exact .cons (Rep.nl e h n.1) (RepK.nl e t n.2)
theorem RepT.nl {C : MC} {A A' : Addr → Prop} {H : Hp} (e : NL A A' H) : ∀ {v : List (List Key × V)} {p : List (List Key × PV)}, RepT C A H v p → noLt p = true → RepT C A' H v p
  | _, _, .nil, _ => .nil
  | _, _, .cons h t, n => by
    simp only [noLt, Bool.and_eq_true] at n
    exact .cons (Rep.nl e h n.1) (RepT.nl e t n.2)
theorem RepF.nl {C : MC} {A A' : Addr → Prop} {H : Hp} (e : NL A A' H) : ∀ {v : List (Str × V)} {p : List (Str × PV)}, RepF C A H v p → noLf p = true → RepF C A' H v p
  | _, _, .nil, _ => .nil
  | _, _, .cons h t, n => by
    simp only [noLf, Bool.and_eq_true] at n
    exact .cons (Rep.nl e h n.1) (RepF.nl e t n.2)
end
def bFld (c : Nat) (x : Str) (f : Env → Option PV) (env : Env) : Option PV := (f env).bind fun p => match p with
  | .obj c' fs => if c' = c then fs.lookup x else none
  | _ => none
@[simp] theorem bFld_ap (c : Nat) (x : Str) (f : Env → Option PV) (env : Env) : bFld c x f env = ((f env).bind fun p => match p with
  | .obj c' fs => if c' = c then fs.lookup x else none
  | _ => none) := id rfl
theorem se_fld {c : Nat} {x : Str} (hc : Cls b.C.K (b.C.cl c)) (hn : NoAttr b.C.K (b.C.cl c) x) (h : SE X b G m e f) (hb : attributeBase e x X.env (eval e X.env) = eval e X.env := by rfl) (hK : X.K = b.C.K := by rfl) : SE X b G .val (.Attribute e x pos) (bFld c x f) :=
  PE.imp (pe_fld h.bor hb) fun σ H Q ⟨Ow, env, p, E, hf, k⟩ => by
    unfold bFld at hf
    cases q1 : f env with
    | none => rw [q1] at hf; cases hf
    | some p1 =>
      rw [q1] at hf
      refine ⟨Ow, env, p1, E, q1, fun v H1 s1 r1 => ?_⟩
      have r1' : RepB b.C (Bs b Ow) H1 v p1 := r1
      cases p1 <;> simp only [Option.bind_some] at hf <;> first | cases hf | skip
      rename_i c' fs
      split at hf
      · rename_i hcc
        subst hcc
        obtain ⟨a, dx, fv, rfl, ha, ra⟩ := r1'.obj
        obtain ⟨v', hv, rv⟩ := ra.look hf
        rw [hK]
        exact ⟨a, _, dx, fv, v', rfl, ha, hc, hn, hv, k v' H1 s1 rv⟩
      · cases hf
structure CalM (P : Program) (w : World) (K : PySem.W.Frag) (mg : Str → Option Value) (base : Heap) (C : Addr) (k : Nat) (x : Str) (ps : List Str) (sp : Sp) : Prop where
  ex : ∃ f fd, FnOk P w K mg base CX0 k f fd ps sp ∧ Binds K fd ps [] ∧ Meth K C x f
def bMeth (c : Nat) (x : Str) (mi : List PV → Option PV) (f : Env → Option PV) (g : Env → Option (List PV)) (env : Env) : Option PV := (f env).bind fun p => match p with
  | .obj c' fs => if c' = c ∧ fs.lookup x = none then (g env).bind fun ps => mi (p :: ps) else none
  | _ => none
@[simp] theorem bMeth_ap (c : Nat) (x : Str) (mi : List PV → Option PV) (f : Env → Option PV) (g : Env → Option (List PV)) (env : Env) : bMeth c x mi f g env = ((f env).bind fun p => match p with
  | .obj c' fs => if c' = c ∧ fs.lookup x = none then (g env).bind fun ps => mi (p :: ps) else none
  | _ => none) := id rfl
theorem se_meth {c k j : Nat} {o : Expr} {fo : Env → Option PV} {x : Str} {ps : List Str} {mi : List PV → Option PV} {ro : Bool} {apos : Pos} (cM : CalM X.prog X.w X.K X.mg X.base (b.C.cl c) k x ps (spM b.C mi ro)) (hc : Cls X.K (b.C.cl c)) (hr : Room j X.A) (ho : SE X b G .val o fo) (ha : SA X b G false (e :: es) g) (hle : k ≤ j := by decide)
    (hst : starEach (e :: es) X.env = (false, eval e X.env) :: starEach es X.env := by rfl) (hpl : (backTo pos (starEach es X.env)).any (·.1) = false := by rfl) {pl : Sem Bool}
    (ht : eval (.Call (.Attribute o x apos) (e :: es) [] pos) X.env = (do
      let ov ← eval o X.env
      standAt apos.atName
      let (f, first) ← holding [ov] (getMethod ov x pl)
      callWith pos f first (backTo pos (starEach (e :: es) X.env)) (backToKw pos (keywordEach [] X.env))) := by rfl) :
    SE X b G (mdOf ro) (.Call (.Attribute o x apos) (e :: es) [] pos) (bMeth c x mi fo g) := by
  obtain ⟨f, fd, F, hb, hM⟩ := cM.ex
  refine PE.imp (pe_meth (pl := pl) ho hc hM F (hr.mono hle) hb .nil pass0 ha hst hpl ht) fun σ H Q ⟨Ow, env, q, E, hf, kk⟩ => ?_
  unfold bMeth at hf
  cases q1 : fo env with
  | none => rw [q1] at hf; cases hf
  | some p1 =>
    rw [q1] at hf
    refine ⟨Ow, env, p1, E, q1, fun v H1 s1 r1 => ?_⟩
    have r1v : Rep b.C (Bs b Ow) H1 v p1 := r1
    cases p1 <;> simp only [Option.bind_some] at hf <;> first | cases hf | skip
    rename_i c' fs
    split at hf
    · rename_i hcc
      obtain ⟨rfl, hno⟩ := hcc
      cases q2 : g env with
      | none => rw [q2] at hf; cases hf
      | some qs =>
        rw [q2] at hf
        obtain ⟨a, dx, fv, rfl, hha, ra⟩ := RepB.obj (.inl r1v)
        refine ⟨a, dx, fv, rfl, hha, ra.look0 hno, Ow, env, qs, E.up s1, q2, fun vs H2 s2 r2 => ?_⟩
        dsimp only
        rw [List.append_nil]
        exact ⟨Bs b Ow, _ :: qs, q, .cons (r1v.ex (.of_same s2)) (arA_f r2), hf, fun v' H' s' rr => kk v' H' (s1.trans (s2.trans s')) (Ret.res E (s1.trans s2) rr)⟩
    · cases hf
theorem se_meth0 {c k j : Nat} {o : Expr} {fo : Env → Option PV} {x : Str} {ps : List Str} {mi : List PV → Option PV} {ro : Bool} {apos : Pos} (cM : CalM X.prog X.w X.K X.mg X.base (b.C.cl c) k x ps (spM b.C mi ro)) (hc : Cls X.K (b.C.cl c)) (hr : Room j X.A) (ho : SE X b G .val o fo) (hle : k ≤ j := by decide) {pl : Sem Bool}
    (ht : eval (.Call (.Attribute o x apos) [] [] pos) X.env = (do
      let ov ← eval o X.env
      standAt apos.atName
      let (f, first) ← holding [ov] (getMethod ov x pl)
      callWith pos f first (backTo pos (starEach [] X.env)) (backToKw pos (keywordEach [] X.env))) := by rfl) :
    SE X b G (mdOf ro) (.Call (.Attribute o x apos) [] [] pos) (bMeth c x mi fo bNil) := by
  obtain ⟨f, fd, F, hb, hM⟩ := cM.ex
  refine PE.imp (pe_meth0 (pl := pl) ho hc hM F (hr.mono hle) hb .nil pass0 ht) fun σ H Q ⟨Ow, env, q, E, hf, kk⟩ => ?_
  unfold bMeth at hf
  cases q1 : fo env with
  | none => rw [q1] at hf; cases hf
  | some p1 =>
    rw [q1] at hf
    refine ⟨Ow, env, p1, E, q1, fun v H1 s1 r1 => ?_⟩
    have r1v : Rep b.C (Bs b Ow) H1 v p1 := r1
    cases p1 <;> simp only [Option.bind_some] at hf <;> first | cases hf | skip
    rename_i c' fs
    split at hf
    · rename_i hcc
      obtain ⟨rfl, hno⟩ := hcc
      obtain ⟨a, dx, fv, rfl, hha, ra⟩ := RepB.obj (.inl r1v)
      refine ⟨a, dx, fv, rfl, hha, ra.look0 hno, ?_⟩
      show spM b.C mi ro ([.ref a] ++ []) H1 Q E0
      exact ⟨Bs b Ow, [_], q, .cons r1v .nil, hf, fun v' H' s' rr => kk v' H' (s1.trans s') (Ret.res E s1 rr)⟩
    · cases hf
theorem se_callV {k j : Nat} {x : Str} {ps : List Str} {mi : List PV → Option PV} (c : Cal X.prog X.w X.K X.mg X.base k x ps (spM b.C mi false)) (hr : Room j X.A) (ha : SA X b G false (e :: es) g) (hle : k ≤ j := by decide) (hg : Gl X x := by rfl)
    (hdb : (x == ("__debug__" : Str)) = false := by decide) (he : starEach (e :: es) X.env = (false, eval e X.env) :: starEach es X.env := by rfl) (hpl : (backTo pos (starEach es X.env)).any (·.1) = false := by rfl) :
    SE X b G .val (.Call (.Name x p) (e :: es) [] pos) (bCall mi g) := se_call c hr ha hle hg hdb he hpl
theorem se_callO {k j : Nat} {x : Str} {ps : List Str} {mi : List PV → Option PV} (c : Cal X.prog X.w X.K X.mg X.base k x ps (spM b.C mi true)) (hr : Room j X.A) (ha : SA X b G false (e :: es) g) (hle : k ≤ j := by decide) (hg : Gl X x := by rfl)
    (hdb : (x == ("__debug__" : Str)) = false := by decide) (he : starEach (e :: es) X.env = (false, eval e X.env) :: starEach es X.env := by rfl) (hpl : (backTo pos (starEach es X.env)).any (·.1) = false := by rfl) :
    SE X b G .own (.Call (.Name x p) (e :: es) [] pos) (bCall mi g) := se_call c hr ha hle hg hdb he hpl
theorem se_methV {c k j : Nat} {o : Expr} {fo : Env → Option PV} {x : Str} {ps : List Str} {mi : List PV → Option PV} {apos : Pos} (cM : CalM X.prog X.w X.K X.mg X.base (b.C.cl c) k x ps (spM b.C mi false)) (hc : Cls X.K (b.C.cl c)) (hr : Room j X.A) (ho : SE X b G .val o fo) (ha : SA X b G false (e :: es) g) (hle : k ≤ j := by decide)
    (hst : starEach (e :: es) X.env = (false, eval e X.env) :: starEach es X.env := by rfl) (hpl : (backTo pos (starEach es X.env)).any (·.1) = false := by rfl) {pl : Sem Bool}
    (ht : eval (.Call (.Attribute o x apos) (e :: es) [] pos) X.env = (do
      let ov ← eval o X.env
      standAt apos.atName
      let (f, first) ← holding [ov] (getMethod ov x pl)
      callWith pos f first (backTo pos (starEach (e :: es) X.env)) (backToKw pos (keywordEach [] X.env))) := by rfl) :
    SE X b G .val (.Call (.Attribute o x apos) (e :: es) [] pos) (bMeth c x mi fo g) := se_meth (pl := pl) cM hc hr ho ha hle hst hpl ht
theorem se_meth0V {c k j : Nat} {o : Expr} {fo : Env → Option PV} {x : Str} {ps : List Str} {mi : List PV → Option PV} {apos : Pos} (cM : CalM X.prog X.w X.K X.mg X.base (b.C.cl c) k x ps (spM b.C mi false)) (hc : Cls X.K (b.C.cl c)) (hr : Room j X.A) (ho : SE X b G .val o fo) (hle : k ≤ j := by decide) {pl : Sem Bool}
    (ht : eval (.Call (.Attribute o x apos) [] [] pos) X.env = (do
      let ov ← eval o X.env
      standAt apos.atName
      let (f, first) ← holding [ov] (getMethod ov x pl)
      callWith pos f first (backTo pos (starEach [] X.env)) (backToKw pos (keywordEach [] X.env))) := by rfl) :
    SE X b G .val (.Call (.Attribute o x apos) [] [] pos) (bMeth c x mi fo bNil) := se_meth0 (pl := pl) cM hc hr ho hle ht
end
end MR
namespace MR
open PySem L2
section
variable {b : BX} {Ow : Addr → Prop} {G : List Nat} {σ : St} {env : Env} {H H' : Hp}
theorem ER.set (E : ER b Ow G σ env H) {i : Nat} {v : V} {p : PV} (hi : i ∉ G) (r : Rep b.C (Bs b Ow) H v p) (hx : b.fx i = none) : ER b Ow G (σ.set i (some v)) (env.set i (some p)) H := by
  refine ⟨by rw [List.length_set, List.length_set]; exact E.len, E.same, E.live, E.new, fun j q e n => ?_, fun j q e n => ?_, fun j k a q q' e1 n1 s1 e2 n2 s2 => ?_, fun k w hw => ?_⟩
  · by_cases hj : i = j
    · subst hj
      rw [List.getElem?_set] at e
      split at e
      · split at e
        · rename_i hl
          have := Option.some.inj (Option.some.inj e)
          subst this
          exact ⟨v, by rw [List.getElem?_set_self (by rw [E.len]; exact hl)], r⟩
        · cases e
      · exact absurd rfl ‹_›
    · rw [List.getElem?_set_ne hj] at e ⊢
      exact E.val j q e n
  · have hj : i ≠ j := fun z => hi (z ▸ n)
    rw [List.getElem?_set_ne hj] at e ⊢
    exact E.own j q e n
  · have hj : i ≠ j := fun z => hi (z ▸ n1)
    have hk : i ≠ k := fun z => hi (z ▸ n2)
    rw [List.getElem?_set_ne hj] at e1 s1
    rw [List.getElem?_set_ne hk] at e2 s2
    exact E.sep j k a q q' e1 n1 s1 e2 n2 s2
  · by_cases hk : i = k
    · subst hk; rw [hx] at hw; cases hw
    · rw [List.getElem?_set_ne hk]; exact E.fix k w hw
theorem ER.setO (E : ER b Ow G σ env H) {i : Nat} {a : Addr} {p : PV} {H0 : Hp} {G' : List Nat} (hG : ∀ j, j ∈ G' ↔ (j ∈ G ∨ j = i)) (s0 : Same H0 H) (hn : H0 a = none) (hE0 : ER b Ow G σ env H0) (t : Top b.C (fun c => Bs b Ow c ∧ c ≠ a) H a p) (hx : b.fx i = none) :
    ER b (fun c => Ow c ∨ c = a) G' (σ.set i (some (.ref a))) (env.set i (some p)) H ∧ Ex (Bs b Ow) H0 (Bs b fun c => Ow c ∨ c = a) H := by
  have hx0 : Ex (Bs b Ow) H0 (Bs b fun c => Ow c ∨ c = a) H := fun c o h => ⟨fun q => ⟨s0 _ _ h, fun z => z.elim q.1 (ne_of_none h hn), q.2⟩, fun _ => s0 _ _ h⟩
  have ht : Top b.C (Bs b fun c => Ow c ∨ c = a) H a p := t.ex (ex_weak fun c o _ q => ⟨fun z => z.elim q.1.1 q.2, q.1.2⟩) fun o z => z
  refine ⟨⟨by rw [List.length_set, List.length_set]; exact E.len, E.same, fun c w => w.elim (E.live c) fun z => by subst z; obtain ⟨o, h, _⟩ := t.live; exact ⟨o, h⟩, fun c w => w.elim (E.new c) fun z => by subst z; exact hE0.same.free hn, fun j q e n => ?_, fun j q e n => ?_, fun j k c q q' e1 n1 s1 e2 n2 s2 => ?_, fun k w hw => ?_⟩, hx0⟩
  · have hj : i ≠ j := fun z => n ((hG j).mpr (.inr z.symm))
    rw [List.getElem?_set_ne hj] at e ⊢
    obtain ⟨v, h1, h2⟩ := hE0.val j q e fun z => n ((hG j).mpr (.inl z))
    exact ⟨v, h1, h2.ex hx0⟩
  · by_cases hj : i = j
    · subst hj
      rw [List.getElem?_set] at e
      split at e
      · split at e
        · rename_i hl
          have := Option.some.inj (Option.some.inj e)
          subst this
          exact ⟨a, by rw [List.getElem?_set_self (by rw [E.len]; exact hl)], .inr rfl, ht⟩
        · cases e
      · exact absurd rfl ‹_›
    · rw [List.getElem?_set_ne hj] at e ⊢
      have nG : j ∈ G := ((hG j).mp n).elim id fun z => absurd z.symm hj
      obtain ⟨c, h1, h2, h3⟩ := hE0.own j q e nG
      exact ⟨c, h1, .inl h2, h3.ex hx0 fun o z => s0 _ _ z⟩
  · have old : ∀ {j : Nat} {q : PV}, i ≠ j → j ∈ G' → env[j]? = some (some q) → σ[j]? = some (some (.ref c)) → c ≠ a := fun {j q} hj n e s => by
      have nG : j ∈ G := ((hG j).mp n).elim id fun z => absurd z.symm hj
      obtain ⟨c', h1, h2, h3⟩ := hE0.own j q e nG
      rw [s] at h1
      cases h1
      obtain ⟨o, h4, _⟩ := h3.live
      exact ne_of_none h4 hn
    by_cases hj : i = j
    · by_cases hk : i = k
      · exact hj.symm.trans hk
      · subst hj
        rw [List.getElem?_set_ne hk] at e2 s2
        have hl : i < σ.length := by
          by_cases hl : i < σ.length
          · exact hl
          · rw [List.getElem?_eq_none (by rw [List.length_set]; omega)] at s1; cases s1
        rw [List.getElem?_set_self hl] at s1
        cases s1
        exact absurd rfl (old hk n2 e2 s2)
    · by_cases hk : i = k
      · subst hk
        rw [List.getElem?_set_ne hj] at e1 s1
        have hl : i < σ.length := by
          by_cases hl : i < σ.length
          · exact hl
          · rw [List.getElem?_eq_none (by rw [List.length_set]; omega)] at s2; cases s2
        rw [List.getElem?_set_self hl] at s2
        cases s2
        exact absurd rfl (old hj n1 e1 s1)
      · rw [List.getElem?_set_ne hj] at e1 s1
        rw [List.getElem?_set_ne hk] at e2 s2
        have g1 : j ∈ G := ((hG j).mp n1).elim id fun z => absurd z.symm hj
        have g2 : k ∈ G := ((hG k).mp n2).elim id fun z => absurd z.symm hk
        exact E.sep j k c q q' e1 g1 s1 e2 g2 s2
  · by_cases hk : i = k
    · subst hk; rw [hx] at hw; cases hw
    · rw [List.getElem?_set_ne hk]; exact E.fix k w hw
theorem ER.write (E : ER b Ow G σ env H) {i : Nat} {a : Addr} {p p' : PV} {o' : HO} (hi : i ∈ G) (hσ : σ[i]? = some (some (.ref a))) (he : env[i]? = some (some p)) (hw : Ow a) (t : Top b.C (Bs b Ow) H a p) (t' : Top b.C (Bs b Ow) (upd H a o') a p') :
    ER b Ow G σ (env.set i (some p')) (upd H a o') ∧ Ex (Bs b Ow) H (Bs b Ow) (upd H a o') := by
  obtain ⟨o, ho, hm⟩ := t.live
  have hx : Ex (Bs b Ow) H (Bs b Ow) (upd H a o') := fun c u h => ⟨fun q => ⟨by rw [upd_ne (fun z : c = a => q.1 (z ▸ hw))]; exact h, q⟩, fun m => by
    have hc : c ≠ a := fun z => by subst z; rw [ho] at h; cases h; rw [hm] at m; cases m
    rw [upd_ne hc]; exact h⟩
  refine ⟨⟨by rw [List.length_set]; exact E.len, fun c u h => ?_, fun c w => ?_, E.new, fun j q e n => ?_, fun j q e n => ?_, fun j k c q q' e1 n1 s1 e2 n2 s2 => ?_, E.fix⟩, hx⟩
  · have hc : c ≠ a := ne_of_none h (E.new a hw)
    rw [upd_ne hc]; exact E.same c u h
  · by_cases hc : c = a
    · subst hc; exact ⟨o', upd_same⟩
    · obtain ⟨u, h⟩ := E.live c w
      exact ⟨u, by rw [upd_ne hc]; exact h⟩
  · have hj : i ≠ j := fun z => n (z ▸ hi)
    rw [List.getElem?_set_ne hj] at e
    obtain ⟨v, h1, h2⟩ := E.val j q e n
    exact ⟨v, h1, h2.ex hx⟩
  · by_cases hj : i = j
    · subst hj
      rw [List.getElem?_set] at e
      split at e
      · split at e
        · have := Option.some.inj (Option.some.inj e)
          subst this
          exact ⟨a, hσ, hw, t'⟩
        · cases e
      · exact absurd rfl ‹_›
    · rw [List.getElem?_set_ne hj] at e
      obtain ⟨c, h1, h2, h3⟩ := E.own j q e n
      have hc : c ≠ a := fun z => by subst z; exact hj (E.sep i j c p q he hi hσ e n h1)
      exact ⟨c, h1, h2, h3.ex hx fun u z => by rw [upd_ne hc]; exact z⟩
  · have back : ∀ {j : Nat} {q : PV}, (env.set i (some p'))[j]? = some (some q) → ∃ q, env[j]? = some (some q) := fun {j q} e => by
      by_cases hj : i = j
      · subst hj; exact ⟨p, he⟩
      · rw [List.getElem?_set_ne hj] at e; exact ⟨q, e⟩
    obtain ⟨r1, e1'⟩ := back e1
    obtain ⟨r2, e2'⟩ := back e2
    exact E.sep j k c r1 r2 e1' n1 s1 e2' n2 s2
theorem ER.weak {G' : List Nat} (E : ER b Ow G σ env H) (h : ∀ j, j ∈ G' → j ∈ G) : ∃ Ow', ER b Ow' G' σ env H ∧ Ex (Bs b Ow) H (Bs b Ow') H := by
  refine ⟨fun a => Ow a ∧ ∃ j q, j ∈ G' ∧ env[j]? = some (some q) ∧ σ[j]? = some (some (.ref a)), ?_⟩
  have hx : Ex (Bs b Ow) H (Bs b fun a => Ow a ∧ ∃ j q, j ∈ G' ∧ env[j]? = some (some q) ∧ σ[j]? = some (some (.ref a))) H := ex_weak fun c o _ q => ⟨fun z => q.1 z.1, q.2⟩
  refine ⟨⟨E.len, E.same, fun a w => E.live a w.1, fun a w => E.new a w.1, fun i p e n => ?_, fun i p e n => ?_, fun i j a p q e1 n1 s1 e2 n2 s2 => E.sep i j a p q e1 (h i n1) s1 e2 (h j n2) s2, E.fix⟩, hx⟩
  · by_cases hi : i ∈ G
    · obtain ⟨a, h1, h2, h3⟩ := E.own i p e hi
      refine ⟨_, h1, (h3.ex hx fun o z => z).rep ⟨fun z => ?_, .inr (E.new a h2)⟩⟩
      obtain ⟨_, j, q, hj, e', s'⟩ := z
      have := E.sep i j a p q e hi h1 e' (h j hj) s'
      subst this
      exact n hj
    · obtain ⟨v, h1, h2⟩ := E.val i p e hi
      exact ⟨v, h1, h2.ex hx⟩
  · obtain ⟨a, h1, h2, h3⟩ := E.own i p e (h i n)
    exact ⟨a, h1, ⟨h2, i, p, n, e, h1⟩, h3.ex hx fun o z => z⟩
theorem ER.forget (E : ER b Ow G σ env H) (i : Nat) : ER b Ow G σ (env.set i none) H := by
  have back : ∀ {j : Nat} {q : PV}, (env.set i none)[j]? = some (some q) → env[j]? = some (some q) := fun {j q} e => by
    by_cases hj : i = j
    · subst hj
      rw [List.getElem?_set] at e
      split at e
      · split at e <;> cases e
      · exact absurd rfl ‹_›
    · rw [List.getElem?_set_ne hj] at e; exact e
  exact ⟨by rw [List.length_set]; exact E.len, E.same, E.live, E.new, fun j q e n => E.val j q (back e) n, fun j q e n => E.own j q (back e) n, fun j k a q q' e1 n1 s1 e2 n2 s2 => E.sep j k a q q' (back e1) n1 s1 (back e2) n2 s2, E.fix⟩
@[simp] def clr : List Nat → Env → Env
  | [], env => env
  | i :: r, env => clr r (env.set i none)
theorem ER.clr : ∀ {ds : List Nat} {env : Env}, ER b Ow G σ env H → ER b Ow G σ (clr ds env) H
  | [], _, E => E
  | i :: r, env, E => ER.clr (ds := r) (E.forget i)
end
inductive Out where
  | nx (e : Env) | bk (e : Env) | ct (e : Env) | rt (p : PV)
def Post (b : BX) (Ow : Addr → Prop) (H : Hp) (G L : List Nat) (ro : Bool) (D : Ends) : Out → Prop
  | .nx e => ∀ Ow' σ' H', ER b Ow' G σ' e H' → Ex (Bs b Ow) H (Bs b Ow') H' → D.nx σ' H'
  | .bk e => ∀ Ow' σ' H', ER b Ow' L σ' e H' → Ex (Bs b Ow) H (Bs b Ow') H' → D.bk σ' H'
  | .ct e => ∀ Ow' σ' H', ER b Ow' L σ' e H' → Ex (Bs b Ow) H (Bs b Ow') H' → D.ct σ' H'
  | .rt p => ∀ v H', Same b.H0 H' → Ret b.C b.A b.H0 ro H' v p → D.rt v H'
def tS (b : BX) (G G' L : List Nat) (ro : Bool) (f : Env → Option Out) : TS := fun D σ H => ∃ Ow env out, ER b Ow G σ env H ∧ f env = some out ∧ Post b Ow H G' L ro D out
abbrev SS (X : Cx) (b : BX) (G G' L : List Nat) (ro : Bool) (st : Stmt) (f : Env → Option Out) : Prop := PS X st (tS b G G' L ro f)
abbrev SSs (X : Cx) (b : BX) (G G' L : List Nat) (ro : Bool) (st : List Stmt) (f : Env → Option Out) : Prop := PSs X st (tS b G G' L ro f)
theorem PSs.imp {X : Cx} {e : List Stmt} {t u : TS} (h : PSs X e t) (i : ∀ D σ H, u D σ H → t D σ H) : PSs X e u := fun pins s σ H D I q => h pins s σ H D I (i D σ H q)
theorem PS.or {X : Cx} {e : Stmt} {t u : TS} (h : PS X e t) (h' : PS X e u) : PS X e (fun D σ H => t D σ H ∨ u D σ H) := fun pins s σ H D I q => q.elim (h pins s σ H D I) (h' pins s σ H D I)
theorem Post.ex {b : BX} {Ow Ow1 : Addr → Prop} {H H1 : Hp} {G L : List Nat} {ro : Bool} {D : Ends} {o : Out} (e : Ex (Bs b Ow) H (Bs b Ow1) H1) (h : Post b Ow H G L ro D o) : Post b Ow1 H1 G L ro D o := by
  cases o with
  | nx e' => exact fun Ow' σ' H' E x => h Ow' σ' H' E (e.trans x)
  | bk e' => exact fun Ow' σ' H' E x => h Ow' σ' H' E (e.trans x)
  | ct e' => exact fun Ow' σ' H' E x => h Ow' σ' H' E (e.trans x)
  | rt p => exact h
def sNx (env : Env) : Option Out := some (.nx env)
@[simp] theorem sNx_ap (env : Env) : sNx env = (some (.nx env)) := id rfl
def sNo (env : Env) : Option Out := none
@[simp] theorem sNo_ap (env : Env) : sNo env = (none) := id rfl
def sSeq (f g : Env → Option Out) (env : Env) : Option Out := (f env).bind fun o => match o with | .nx e => g e | o => some o
@[simp] theorem sSeq_ap (f g : Env → Option Out) (env : Env) : sSeq f g env = ((f env).bind fun o => match o with | .nx e => g e | o => some o) := id rfl
def sSet (i : Nat) (f : Env → Option PV) (env : Env) : Option Out := (f env).bind fun p => some (.nx (env.set i (some p)))
@[simp] theorem sSet_ap (i : Nat) (f : Env → Option PV) (env : Env) : sSet i f env = ((f env).bind fun p => some (.nx (env.set i (some p)))) := id rfl
def sRet (f : Env → Option PV) (env : Env) : Option Out := (f env).bind fun p => some (.rt p)
@[simp] theorem sRet_ap (f : Env → Option PV) (env : Env) : sRet f env = ((f env).bind fun p => some (.rt p)) := id rfl
def sIf (c : Env → Option Bool) (f g : Env → Option Out) (env : Env) : Option Out := (c env).bind fun k => if k = true then f env else g env
@[simp] theorem sIf_ap (c : Env → Option Bool) (f g : Env → Option Out) (env : Env) : sIf c f g env = ((c env).bind fun k => if k = true then f env else g env) := id rfl
def sMut1 (g : PV → PV → Option PV) (i : Nat) (f : Env → Option PV) (env : Env) : Option Out := (bV i env).bind fun x => (f env).bind fun p => (g x p).bind fun y => some (.nx (env.set i (some y)))
@[simp] theorem sMut1_ap (g : PV → PV → Option PV) (i : Nat) (f : Env → Option PV) (env : Env) : sMut1 g i f env = ((bV i env).bind fun x => (f env).bind fun p => (g x p).bind fun y => some (.nx (env.set i (some y)))) := id rfl
def sMut0 (g : PV → Option PV) (i : Nat) (env : Env) : Option Out := (bV i env).bind fun x => (g x).bind fun y => some (.nx (env.set i (some y)))
@[simp] theorem sMut0_ap (g : PV → Option PV) (i : Nat) (env : Env) : sMut0 g i env = ((bV i env).bind fun x => (g x).bind fun y => some (.nx (env.set i (some y)))) := id rfl
def sMut2 (g : PV → PV → PV → Option PV) (i : Nat) (f h : Env → Option PV) (env : Env) : Option Out := (bV i env).bind fun x => (f env).bind fun p => (h env).bind fun q => (g x p q).bind fun y => some (.nx (env.set i (some y)))
@[simp] theorem sMut2_ap (g : PV → PV → PV → Option PV) (i : Nat) (f h : Env → Option PV) (env : Env) : sMut2 g i f h env = ((bV i env).bind fun x => (f env).bind fun p => (h env).bind fun q => (g x p q).bind fun y => some (.nx (env.set i (some y)))) := id rfl
@[simp] def appV : PV → PV → Option PV
  | .lst xs, p => if xs.length < 1000000 then some (.lst (xs ++ [p])) else none
  | _, _ => none
@[simp] def clearV : PV → Option PV
  | .lst _ => some (.lst [])
  | _ => none
def dPut {κ : Type} [DecidableEq κ] (kvs : List (κ × PV)) (k : κ) (v : PV) : List (κ × PV) :=
  if (kvs.any fun kv => decide (kv.1 = k)) = true then kvs.map (fun kv => if kv.1 = k then (kv.1, v) else kv) else kvs ++ [(k, v)]
@[simp] def putV : PV → PV → PV → Option PV
  | .dK kvs, k, v => (keyOf k).bind fun k => if kvs.length < 1000000 then some (.dK (dPut kvs k v)) else none
  | .dT kvs, .tup ks, v => (keysB ks).bind fun k => if kvs.length < 1000000 then some (.dT (dPut kvs k v)) else none
  | .lst xs, .int i, v => (ixN xs.length i).map fun j => .lst (xs.set j v)
  | _, _, _ => none
def pF (f : Str) (v : PV) : List (Str × PV) → List (Str × PV)
  | [] => [(f, v)]
  | (g, x) :: r => if g = f then (g, v) :: r else (g, x) :: pF f v r
@[simp] def fsV (c : Nat) (x : Str) : PV → PV → Option PV
  | .obj c' fs, v => if c' = c ∧ fs.length < 1000 then some (.obj c' (pF x v fs)) else none
  | _, _ => none
section
variable {X : Cx} {b : BX} {G G' G1 L : List Nat} {ro : Bool} {st : Stmt} {rest : List Stmt} {f g : Env → Option Out} {e e1 e2 : Expr} {h h1 h2 : Env → Option PV} {m m1 m2 : Md} {pos : Pos}
theorem ss_nil : SSs X b G G L ro [] sNx := PSs.imp pss_nil fun D σ H ⟨Ow, env, o, E, hf, k⟩ => by cases hf; exact k Ow σ H E (Ex.refl _ _)
theorem ss_cons (a : SS X b G G1 L ro st f) (c : SSs X b G1 G' L ro rest g) : SSs X b G G' L ro (st :: rest) (sSeq f g) := PSs.imp (pss_cons a c) fun D σ H ⟨Ow, env, o, E, hf, k⟩ => by
  unfold sSeq at hf
  cases q : f env with
  | none => rw [q] at hf; cases hf
  | some o1 =>
    rw [q] at hf
    refine ⟨Ow, env, o1, E, q, ?_⟩
    cases o1 with
    | nx e' => exact fun Ow' σ' H' E' x => ⟨Ow', e', o, E', hf, k.ex x⟩
    | bk e' => cases hf; exact k
    | ct e' => cases hf; exact k
    | rt p => cases hf; exact k
theorem ss_one (a : SS X b G G' L ro st f) : SSs X b G G' L ro [st] f := pss_one a
theorem ss_frz (c : SSs X b G1 G' L ro rest g) (hs : ∀ j, j ∈ G1 → j ∈ G := by decide) : SSs X b G G' L ro rest g := PSs.imp c fun D σ H ⟨Ow, env, o, E, hf, k⟩ => by
  obtain ⟨Ow', E', x⟩ := E.weak hs
  exact ⟨Ow', env, o, E', hf, k.ex x⟩
theorem s_no : SS X b G G' L ro st sNo := PS.imp ps_never fun D σ H ⟨Ow, env, o, E, hf, k⟩ => by cases hf
theorem bind_some' {α β : Type} {x : Option α} {k : α → Option β} {y : β} (h : x.bind k = some y) : ∃ a, x = some a ∧ k a = some y := by
  cases x with
  | none => cases h
  | some a => exact ⟨a, rfl, h⟩
theorem tset {i : Nat} {D : Ends} {σ : St} {H : Hp} (hi : i ∉ G) (hx : b.fx i = none) (q : tS b G G L ro (sSet i h) D σ H) : tM b G .val h σ H fun v H1 => D.nx (σ.set i (some v)) H1 := by
  obtain ⟨Ow, env, o, E, hf, k⟩ := q
  obtain ⟨p, hp, e⟩ := bind_some' hf
  cases e
  exact ⟨Ow, env, p, E, hp, fun v H' s r => k Ow _ H' ((E.up s).set hi r hx) (.of_same s)⟩
theorem tsetO {i : Nat} {D : Ends} {σ : St} {H : Hp} (hG : ∀ j, j ∈ G' ↔ (j ∈ G ∨ j = i)) (hx : b.fx i = none) (q : tS b G G' L ro (sSet i h) D σ H) : tM b G .own h σ H fun v H1 => D.nx (σ.set i (some v)) H1 := by
  obtain ⟨Ow, env, o, E, hf, k⟩ := q
  obtain ⟨p, hp, e⟩ := bind_some' hf
  cases e
  refine ⟨Ow, env, p, E, hp, fun v H' s ⟨a, ev, hn, t⟩ => ?_⟩
  subst ev
  obtain ⟨E', x⟩ := (E.up s).setO hG s hn E t hx
  exact k _ _ H' E' x
theorem s_set (i : Nat) {x : Str} {pos' : Pos} (nd : X.N.Nodup) (he : SE X b G .val e h) (hG : i ∉ G := by decide) (hx : b.fx i = none := by first | rfl | assumption) (hi : X.N[i]? = some x := by rfl) (hl : Loc X.env.scope x := by first | exact Or.inl rfl | exact Or.inr rfl)
    (hs : swapsWith e (some (.Name x pos')) pos.line X.env = pure false := by rfl) (hf : X.fn x = true ∨ X.env.scope.names.lookup x = some .local := by first | exact .inl rfl | exact .inr rfl | assumption) : SS X b G G L ro (.Assign [.Name x pos'] e pos) (sSet i h) :=
  PS.imp (ps_set nd hi hl he hs hf) fun D σ H q => tset hG hx q
theorem s_setO (i : Nat) {x : Str} {pos' : Pos} (nd : X.N.Nodup) (he : SE X b G .own e h) (hG : i ∈ G := by decide) (hx : b.fx i = none := by first | rfl | assumption) (hi : X.N[i]? = some x := by rfl) (hl : Loc X.env.scope x := by first | exact Or.inl rfl | exact Or.inr rfl)
    (hs : swapsWith e (some (.Name x pos')) pos.line X.env = pure false := by rfl) (hf : X.fn x = true ∨ X.env.scope.names.lookup x = some .local := by first | exact .inl rfl | exact .inr rfl | assumption) : SS X b G G L ro (.Assign [.Name x pos'] e pos) (sSet i h) :=
  PS.imp (ps_set nd hi hl he hs hf) fun D σ H q => tsetO (fun j => ⟨.inl, fun z => z.elim id fun y => y ▸ hG⟩) hx q
theorem s_ret (he : SE X b G .val e h) : SS X b G G' L false (.Return (some e) pos) (sRet h) := PS.imp (ps_ret he) fun D σ H ⟨Ow, env, o, E, hf, k⟩ => by
  obtain ⟨p, hp, z1⟩ := bind_some' hf
  clear hf
  cases z1
  exact ⟨Ow, env, p, E, hp, fun v H' s r => k v H' (E.same.trans s) (Rep.ex (ex_weak fun c o _ q => q.2) r)⟩
theorem s_retO (he : SE X b G .own e h) : SS X b G G' L true (.Return (some e) pos) (sRet h) := PS.imp (ps_ret he) fun D σ H ⟨Ow, env, o, E, hf, k⟩ => by
  obtain ⟨p, hp, z1⟩ := bind_some' hf
  clear hf
  cases z1
  exact ⟨Ow, env, p, E, hp, fun v H' s ⟨a, ev, hn, t⟩ => k v H' (E.same.trans s) ⟨a, ev, E.same.free hn, t.ex (ex_weak fun c o _ q => ⟨q.1.2, q.2⟩) fun o z => z⟩⟩
theorem s_retV (i : Nat) {x : Str} {p1 : Pos} (hi : i ∈ G := by decide) (hN : X.N[i]? = some x := by rfl) (hv : Vis X.env.scope x := by first | exact Or.inl rfl | exact Or.inr (Or.inl rfl) | exact Or.inr (Or.inr rfl)) (hd : (x == ("__debug__" : Str)) = false := by decide)
    (hcd : (x == ("__classdict__" : Str)) = false := by decide) : SS X b G G' L true (.Return (some (.Name x p1)) pos) (sRet (bV i)) := PS.imp (ps_ret (pe_var hN hv hd hcd)) fun D σ H ⟨Ow, env, o, E, hf, k⟩ => by
  obtain ⟨p, hp, z1⟩ := bind_some' hf
  clear hf
  cases z1
  obtain ⟨a, e, w, t⟩ := E.own i p (bV_some hp) hi
  exact ⟨_, e, k _ H E.same ⟨a, rfl, E.new a w, t.ex (ex_weak fun c o _ q => ⟨q.2, fun z => q.1 (z ▸ w)⟩) fun o z => z⟩⟩
theorem s_if {c : Expr} {k : Env → Option Bool} {sa sb : List Stmt} (hc : ST X b G c k) (ha : SSs X b G G' L ro sa f) (hb : SSs X b G G' L ro sb g) : SS X b G G' L ro (.If c sa sb pos) (sIf k f g) := PS.imp (ps_if hc ha hb) fun D σ H ⟨Ow, env, o, E, hf, kk⟩ => by
  obtain ⟨p, hp, z1⟩ := bind_some' hf
  clear hf
  refine ⟨Ow, env, p, E, hp, fun H' s => ?_⟩
  cases p with
  | true => exact iteT ⟨Ow, env, o, E.up s, z1, kk.ex (.of_same s)⟩
  | false => exact iteF ⟨Ow, env, o, E.up s, z1, kk.ex (.of_same s)⟩
theorem s_app (i : Nat) {x : Str} {p1 apos cpos : Pos} (he : SE X b G .val e h) (hi : i ∈ G := by decide) (hN : X.N[i]? = some x := by rfl) (hv : Vis X.env.scope x := by first | exact Or.inl rfl | exact Or.inr (Or.inl rfl) | exact Or.inr (Or.inr rfl)) (hd : (x == ("__debug__" : Str)) = false := by decide)
    (hcd : (x == ("__classdict__" : Str)) = false := by decide) (hbase : attributeBase (.Name x p1) "append" X.env (eval (.Name x p1) X.env) = eval (.Name x p1) X.env := by rfl)
    (hfew : ((backTo cpos (starEach [e] X.env)).all (fun x => !x.1) && (backToKw cpos (keywordEach [] X.env)).all (fun x => x.1.isSome)
      && decide ([e].length + ([] : List Keyword).length + (if ([] : List Keyword).isEmpty then 0 else 1) < 30)) = true := by rfl)
    (hline : (apos.endLine == cpos.line) = true := by rfl) (hs : starEach [e] X.env = (false, eval e X.env) :: starEach [] X.env := by rfl) :
    SS X b G G L ro (.Expr (.Call (.Attribute (.Name x p1) "append" apos) [e] [] cpos) pos) (sMut1 appV i h) :=
  PS.imp (ps_expr (pe_bm PySem.F.plainAttrs_list PySem.F.slot_list_append PySem.F.type_list_append mt_append (pe_var hN hv hd hcd) (pa_cons he pa_nil hs) hbase hfew hline hs rfl)) fun D σ H ⟨Ow, env, o, E, hf, k⟩ => by
    obtain ⟨px, hpx, z1⟩ := bind_some' hf
    clear hf
    obtain ⟨p, hp, z2⟩ := bind_some' z1
    clear z1
    obtain ⟨y, hy, z3⟩ := bind_some' z2
    clear z2
    cases z3
    obtain ⟨a, ea, w, t⟩ := E.own i px (bV_some hpx) hi
    cases px <;> simp only [appV] at hy <;> first | cases hy | skip
    rename_i xs
    split at hy
    · rename_i hl
      cases hy
      obtain ⟨vs, ha, ra⟩ := id t
      refine ⟨_, ea, .inl ⟨rfl, _, SqL.of ha⟩, Ow, env, p, E, hp, fun v H' s r => ?_⟩
      refine ⟨a, vs, v, rfl, rfl, s _ _ ha, le_line (by rw [ra.length]; omega), ?_⟩
      have ra' : Reps b.C (Bs b Ow) (upd H' a (.lst (vs ++ [v]))) (vs ++ [v]) (xs ++ [p]) := by
        refine (ra.ex (.of_same s)).append (.cons r .nil) |>.ex fun c o h => ⟨fun q => ⟨by rw [upd_ne (fun z : c = a => q.1 (z ▸ w))]; exact h, q⟩, fun m => ?_⟩
        have hc : c ≠ a := fun z => by subst z; rw [s _ _ ha] at h; cases h; cases m
        rw [upd_ne hc]; exact h
      obtain ⟨E', x⟩ := (E.up s).write hi ea (bV_some hpx) w (t.ex (.of_same s) fun o z => s _ _ z) (o' := .lst (vs ++ [v])) (p' := .lst (xs ++ [p])) ⟨_, upd_same, ra'⟩
      exact k Ow σ _ E' ((Ex.of_same s).trans x)
    · cases hy
theorem s_clear (i : Nat) {x : Str} {p1 apos cpos : Pos} (hi : i ∈ G := by decide) (hN : X.N[i]? = some x := by rfl) (hv : Vis X.env.scope x := by first | exact Or.inl rfl | exact Or.inr (Or.inl rfl) | exact Or.inr (Or.inr rfl)) (hd : (x == ("__debug__" : Str)) = false := by decide)
    (hcd : (x == ("__classdict__" : Str)) = false := by decide) (hbase : attributeBase (.Name x p1) "clear" X.env (eval (.Name x p1) X.env) = eval (.Name x p1) X.env := by rfl)
    (hline : (apos.endLine == cpos.line) = true := by rfl) :
    SS X b G G L ro (.Expr (.Call (.Attribute (.Name x p1) "clear" apos) [] [] cpos) pos) (sMut0 clearV i) :=
  PS.imp (ps_expr (pe_bm0 PySem.F.plainAttrs_list PySem.F.slot_list_clear PySem.F.type_list_clear mt_clear (pe_var hN hv hd hcd) hbase hline)) fun D σ H ⟨Ow, env, o, E, hf, k⟩ => by
    obtain ⟨px, hpx, z1⟩ := bind_some' hf
    clear hf
    obtain ⟨y, hy, z2⟩ := bind_some' z1
    clear z1
    cases z2
    obtain ⟨a, ea, w, t⟩ := E.own i px (bV_some hpx) hi
    cases px <;> simp only [clearV] at hy <;> cases hy
    obtain ⟨vs, ha, ra⟩ := id t
    refine ⟨_, ea, .inl ⟨rfl, _, SqL.of ha⟩, a, vs, rfl, rfl, ha, ?_⟩
    obtain ⟨E', x⟩ := E.write hi ea (bV_some hpx) w t (o' := .lst []) (p' := .lst []) ⟨_, upd_same, .nil⟩
    exact k Ow σ _ E' x
theorem RepK.put {C : MC} {A : Addr → Prop} {H : Hp} {k : Key} {v : V} {p : PV} (r : Rep C A H v p) {kv : List (Key × V)} {kvs : List (Key × PV)} (t : RepK C A H kv kvs) : RepK C A H (putK kv k v) (dPut kvs k p) := by
  have hany : ∀ {kv : List (Key × V)} {kvs : List (Key × PV)}, RepK C A H kv kvs → (kv.any fun x => decide (x.1 = k)) = (kvs.any fun x => decide (x.1 = k)) := by
    intro kv kvs t
    induction kv generalizing kvs with
    | nil => cases t; rfl
    | cons x l ih => cases t with | cons h t => rw [List.any_cons, List.any_cons, ih t]
  have hmap : ∀ {kv : List (Key × V)} {kvs : List (Key × PV)}, RepK C A H kv kvs → RepK C A H (kv.map fun x => if x.1 = k then (x.1, v) else x) (kvs.map fun x => if x.1 = k then (x.1, p) else x) := by
    intro kv kvs t
    induction kv generalizing kvs with
    | nil => cases t; exact .nil
    | cons x l ih =>
      cases t with
      | cons h t =>
        rw [List.map_cons, List.map_cons]
        rename_i k' v' p' ps'
        by_cases e : k' = k
        · simp only [e, if_true]; exact .cons r (ih t)
        · simp only [e, if_false]; exact .cons h (ih t)
  have happ : ∀ {kv : List (Key × V)} {kvs : List (Key × PV)}, RepK C A H kv kvs → RepK C A H (kv ++ [(k, v)]) (kvs ++ [(k, p)]) := by
    intro kv kvs t
    induction kv generalizing kvs with
    | nil => cases t; exact .cons r .nil
    | cons x l ih => cases t with | cons h t => exact .cons h (ih t)
  unfold putK dPut
  rw [hany t]
  split
  · exact hmap t
  · exact happ t
theorem RepT.put {C : MC} {A : Addr → Prop} {H : Hp} {k : List Key} {v : V} {p : PV} (r : Rep C A H v p) {kv : List (List Key × V)} {kvs : List (List Key × PV)} (t : RepT C A H kv kvs) : RepT C A H (putK kv k v) (dPut kvs k p) := by
  have hany : ∀ {kv : List (List Key × V)} {kvs : List (List Key × PV)}, RepT C A H kv kvs → (kv.any fun x => decide (x.1 = k)) = (kvs.any fun x => decide (x.1 = k)) := by
    intro kv kvs t
    induction kv generalizing kvs with
    | nil => cases t; rfl
    | cons x l ih => cases t with | cons h t => rw [List.any_cons, List.any_cons, ih t]
  have hmap : ∀ {kv : List (List Key × V)} {kvs : List (List Key × PV)}, RepT C A H kv kvs → RepT C A H (kv.map fun x => if x.1 = k then (x.1, v) else x) (kvs.map fun x => if x.1 = k then (x.1, p) else x) := by
    intro kv kvs t
    induction kv generalizing kvs with
    | nil => cases t; exact .nil
    | cons x l ih =>
      cases t with
      | cons h t =>
        rw [List.map_cons, List.map_cons]
        rename_i k' v' p' ps'
        by_cases e : k' = k
        · simp only [e, if_true]; exact .cons r (ih t)
        · simp only [e, if_false]; exact .cons h (ih t)
  have happ : ∀ {kv : List (List Key × V)} {kvs : List (List Key × PV)}, RepT C A H kv kvs → RepT C A H (kv ++ [(k, v)]) (kvs ++ [(k, p)]) := by
    intro kv kvs t
    induction kv generalizing kvs with
    | nil => cases t; exact .cons r .nil
    | cons x l ih => cases t with | cons h t => exact .cons h (ih t)
  unfold putK dPut
  rw [hany t]
  split
  · exact hmap t
  · exact happ t
theorem RepT.length {C : MC} {A : Addr → Prop} {H : Hp} : ∀ {vs : List (List Key × V)} {ps : List (List Key × PV)}, RepT C A H vs ps → vs.length = ps.length
  | _, _, .nil => rfl
  | _, _, .cons _ t => by simp [RepT.length t]
theorem RepF.length {C : MC} {A : Addr → Prop} {H : Hp} : ∀ {vs : List (Str × V)} {ps : List (Str × PV)}, RepF C A H vs ps → vs.length = ps.length
  | _, _, .nil => rfl
  | _, _, .cons _ t => by simp [RepF.length t]
theorem RepF.put {C : MC} {A : Addr → Prop} {H : Hp} {k : Str} {v : V} {p : PV} (r : Rep C A H v p) : ∀ {kv : List (Str × V)} {kvs : List (Str × PV)}, RepF C A H kv kvs → RepF C A H (putF k v kv) (pF k p kvs)
  | _, _, .nil => .cons r .nil
  | _, _, .cons (k := k') h t => by
    unfold putF pF
    split
    · exact .cons r t
    · exact .cons h (RepF.put r t)
theorem ex_write {Ow : Addr → Prop} {H : Hp} {a : Addr} {o o' : HO} (w : Ow a) (ha : H a = some o) (hm : isMut o = true) : Ex (Bs b Ow) H (Bs b Ow) (upd H a o') := fun c u h => ⟨fun q => ⟨by rw [upd_ne (fun z : c = a => q.1 (z ▸ w))]; exact h, q⟩, fun m => by
  have hc : c ≠ a := fun z => by subst z; rw [ha] at h; cases h; rw [hm] at m; cases m
  rw [upd_ne hc]; exact h⟩
theorem s_put (i : Nat) {x : Str} {p1 p2 : Pos} {j : Nat} (hr : Room j X.A) (hk : SE X b G .val e1 h1) (hv' : SE X b G .val e2 h2) (hi : i ∈ G := by decide) (hN : X.N[i]? = some x := by rfl) (hv : Vis X.env.scope x := by first | exact Or.inl rfl | exact Or.inr (Or.inl rfl) | exact Or.inr (Or.inr rfl)) (hd : (x == ("__debug__" : Str)) = false := by decide)
    (hcd : (x == ("__classdict__" : Str)) = false := by decide) (hs : swapsWith e2 (some (.Subscript (.Name x p1) e1 p2)) pos.line X.env = pure false := by rfl) (hs2 : swapsWithSole [.Subscript (.Name x p1) e1 p2] e2 pos.line X.env = pure false := by rfl) (hw : swappedStores [.Subscript (.Name x p1) e1 p2] e2 X.env = pure none := by rfl)
    (ha1 : (assignEach [.Subscript (.Name x p1) e1 p2] X.env).map (·.2) = [assign (.Subscript (.Name x p1) e1 p2) X.env] := by rfl)
    (ha : ∀ v, assign (.Subscript (.Name x p1) e1 p2) X.env v = (do
      let ov ← holding [v] (eval (.Name x p1) X.env)
      let iv ← holding [v, ov] (eval e1 X.env)
      standAt p2
      holding [v, ov, iv] (setItem ov iv v)
      release [v, ov, iv] []) := by intro _; rfl) (hK : X.K = b.C.K := by rfl) : SS X b G G L ro (.Assign [.Subscript (.Name x p1) e1 p2] e2 pos) (sMut2 putV i h1 h2) := by
  refine PS.imp (PS.or (ps_dput (hu_of hr) (pe_var hN hv hd hcd) hk hv' hs) (ps_asg hv' (pg_sub (pe_var hN hv hd hcd) hk set_list ha) hs2 hw ha1)) fun D σ H ⟨Ow, env, o, E, hf, k⟩ => ?_
  obtain ⟨px, hpx, z1⟩ := bind_some' hf
  clear hf
  obtain ⟨pk, hpk, z2⟩ := bind_some' z1
  clear z1
  obtain ⟨pv, hpv, z3⟩ := bind_some' z2
  clear z2
  obtain ⟨y, hy, z4⟩ := bind_some' z3
  clear z3
  cases z4
  obtain ⟨a, ea, w, t⟩ := E.own i px (bV_some hpx) hi
  have fin : ∀ {H2 : Hp} {o' : HO}, Same H H2 → Top b.C (Bs b Ow) (upd H2 a o') a y → D.nx σ (upd H2 a o') := fun {H2 o'} s t' => by
    obtain ⟨E', x⟩ := (E.up s).write hi ea (bV_some hpx) w (t.ex (.of_same s) fun o z => s _ _ z) t'
    exact k Ow σ _ E' ((Ex.of_same s).trans x)
  unfold putV at hy
  split at hy
  · obtain ⟨ky, hky, hy⟩ := bind_some' hy
    split at hy
    · rename_i hl
      cases hy
      obtain ⟨kv, ha, ra⟩ := id t
      refine .inl ⟨Ow, env, pv, E, hpv, fun v H1 s1 r1 => ⟨_, ea, Ow, env, pk, E.up s1, hpk, fun u H2 s2 r2 => ?_⟩⟩
      have s := s1.trans s2
      have eu := RepB.key (.inl r2) hky
      subst eu
      refine ⟨a, _, rfl, DPut.k (s _ _ ha) (le_line (by rw [ra.length]; omega)), fin s ⟨_, upd_same, ?_⟩⟩
      exact (RepK.put (k := ky) (Rep.ex (.of_same s2) r1) (ra.ex (.of_same s))).ex (ex_write w (s _ _ ha) rfl)
    · cases hy
  · obtain ⟨ky, hky, hy⟩ := bind_some' hy
    split at hy
    · rename_i hl
      cases hy
      obtain ⟨kv, ha, ra⟩ := id t
      refine .inl ⟨Ow, env, pv, E, hpv, fun v H1 s1 r1 => ⟨_, ea, Ow, env, _, E.up s1, hpk, fun u H2 s2 r2 => ?_⟩⟩
      have s := s1.trans s2
      obtain ⟨c, us, rfl, hc, rc⟩ := RepB.tup (.inl r2)
      refine ⟨a, _, rfl, DPut.t (s _ _ ha) (by rw [hK]; exact hc.key (rc.keysB hky)) (le_line (by rw [ra.length]; omega)), fin s ⟨_, upd_same, ?_⟩⟩
      exact (RepT.put (k := ky) (Rep.ex (.of_same s2) r1) (ra.ex (.of_same s))).ex (ex_write w (s _ _ ha) rfl)
    · cases hy
  · rename_i xs n
    cases q : ixN xs.length n with
    | none => rw [q] at hy; cases hy
    | some jj =>
      rw [q] at hy
      cases hy
      obtain ⟨vs, ha, ra⟩ := id t
      refine .inr ⟨Ow, env, pv, E, hpv, fun v H1 s1 r1 => ⟨_, ea, Ow, env, _, E.up s1, hpk, fun u H2 s2 r2 => ?_⟩⟩
      have s := s1.trans s2
      have eu := RepB.int (.inl r2)
      subst eu
      refine ⟨a, vs, n, jj, rfl, rfl, s _ _ ha, by rw [ra.length]; exact q, fin s ⟨_, upd_same, ?_⟩⟩
      exact (Reps.set (Rep.ex (.of_same s2) r1) jj (ra.ex (.of_same s))).ex (ex_write w (s _ _ ha) rfl)
  · cases hy
theorem s_fld (i : Nat) {x y : Str} {p1 p2 : Pos} {c : Nat} (hc : Cls X.K (b.C.cl c)) (hn : NoAttr X.K (b.C.cl c) y) (he : SE X b G .val e h) (hi : i ∈ G := by decide) (hN : X.N[i]? = some x := by rfl) (hv : Vis X.env.scope x := by first | exact Or.inl rfl | exact Or.inr (Or.inl rfl) | exact Or.inr (Or.inr rfl)) (hd : (x == ("__debug__" : Str)) = false := by decide)
    (hcd : (x == ("__classdict__" : Str)) = false := by decide) (hs : swapsWith e (some (.Attribute (.Name x p1) y p2)) pos.line X.env = pure false := by rfl) : SS X b G G L ro (.Assign [.Attribute (.Name x p1) y p2] e pos) (sMut1 (fsV c y) i h) :=
  PS.imp (ps_fld (pe_var hN hv hd hcd) he hs) fun D σ H ⟨Ow, env, o, E, hf, k⟩ => by
    obtain ⟨px, hpx, z1⟩ := bind_some' hf
    clear hf
    obtain ⟨p, hp, z2⟩ := bind_some' z1
    clear z1
    obtain ⟨y', hy, z3⟩ := bind_some' z2
    clear z2
    cases z3
    obtain ⟨a, ea, w, t⟩ := E.own i px (bV_some hpx) hi
    cases px <;> simp only [fsV] at hy <;> first | cases hy | skip
    rename_i c' fs
    split at hy
    · rename_i hcc
      obtain ⟨rfl, hl⟩ := hcc
      cases hy
      obtain ⟨dx, fv, ha, ra⟩ := id t
      refine ⟨Ow, env, p, E, hp, fun v H1 s r => ⟨_, ea, a, _, dx, fv, rfl, s _ _ ha, hc, hn, by rw [ra.length]; exact hl, ?_⟩⟩
      obtain ⟨E', x⟩ := (E.up s).write hi ea (bV_some hpx) w (t.ex (.of_same s) fun o z => s _ _ z) (o' := .ins (b.C.cl c') dx (putF y v fv)) (p' := .obj c' (pF y p fs)) ⟨dx, _, upd_same, (RepF.put r (ra.ex (.of_same s))).ex (ex_write w (s _ _ ha) rfl)⟩
      exact k Ow σ _ E' ((Ex.of_same s).trans x)
    · cases hy
def IW (b : BX) (Ow : Addr → Prop) (fr : Bool) (H1 : Hp) (J : It) (ps : List PV) : Prop := ∀ Ow' H, (fr = false → Same H1 H) → Ex (Bs b Ow) H1 (Bs b Ow') H → (∀ a, H a = none → Bs b Ow' a) →
  (∀ i p, ps[i]? = some p → J.go i H ∧ ∀ x H', J.yld i H x H' → Same H H' ∧ Rep b.C (Bs b Ow') H' x p) ∧ J.stop ps.length H
def tMI (b : BX) (G : List Nat) (fr : Bool) (g : Env → Option (List PV)) : TI := fun σ H R => ∃ Ow env ps, ER b Ow G σ env H ∧ g env = some ps ∧ ∀ J H1, Same H H1 → IW b Ow fr H1 J ps → R J H1
abbrev SI (X : Cx) (b : BX) (G : List Nat) (fr : Bool) (tg it : Expr) (g : Env → Option (List PV)) : Prop := PI X tg it (tMI b G fr g)
theorem PI.imp {tg it : Expr} {t u : TI} (h : PI X tg it t) (i : ∀ σ H R, u σ H R → t σ H R) : PI X tg it u := fun pins s σ H R I q => h pins s σ H R I (i σ H R q)
theorem PI.or {tg it : Expr} {t u : TI} (h : PI X tg it t) (h' : PI X tg it u) : PI X tg it (fun σ H R => t σ H R ∨ u σ H R) := fun pins s σ H R I q => q.elim (h pins s σ H R I) (h' pins s σ H R I)
def chV (x : Str) : List PV := x.cps.toList.map fun c => .str ⟨#[c]⟩
@[simp] def itV : PV → Option (List PV)
  | .lst xs => some xs
  | .frz xs => some xs
  | .tup xs => some xs
  | .ktp xs => some xs
  | .str x => some (chV x)
  | _ => none
def iV (f : Env → Option PV) (env : Env) : Option (List PV) := (f env).bind itV
@[simp] theorem iV_ap (f : Env → Option PV) (env : Env) : iV f env = ((f env).bind itV) := id rfl
theorem iw_list {Ow : Addr → Prop} {fr : Bool} {H1 : Hp} {a : Addr} {vs : List V} {xs : List PV} (hq : ∀ Ow' H, (fr = false → Same H1 H) → Ex (Bs b Ow) H1 (Bs b Ow') H → SqL b.C.K H a vs ∧ Reps b.C (Bs b Ow') H vs xs) : IW b Ow fr H1 (Itl b.C.K a) xs := by
  intro Ow' H h0 h1 hn
  obtain ⟨q, r⟩ := hq Ow' H h0 h1
  refine ⟨fun i p hp => ?_, ⟨vs, q, by rw [r.length]; exact Nat.le_refl _⟩⟩
  obtain ⟨v, hv, rv⟩ := r.get hp
  refine ⟨⟨vs, v, q, hv⟩, fun x H' y => ?_⟩
  obtain ⟨e, y⟩ := y
  subst e
  have e2 := y vs q
  rw [hv] at e2
  cases e2
  exact ⟨Same.refl _, rv⟩
theorem iw_tup {Ow : Addr → Prop} {fr : Bool} {H1 : Hp} {a : Addr} {vs : List V} {xs : List PV} (hq : ∀ Ow' H, (fr = false → Same H1 H) → Ex (Bs b Ow) H1 (Bs b Ow') H → SqT b.C.K H a vs ∧ Reps b.C (Bs b Ow') H vs xs) : IW b Ow fr H1 (Itt b.C.K a) xs := by
  intro Ow' H h0 h1 hn
  obtain ⟨q, r⟩ := hq Ow' H h0 h1
  refine ⟨fun i p hp => ?_, ⟨vs, q, by rw [r.length]; exact Nat.le_refl _⟩⟩
  obtain ⟨v, hv, rv⟩ := r.get hp
  refine ⟨⟨vs, v, q, hv⟩, fun x H' y => ?_⟩
  obtain ⟨e, y⟩ := y
  subst e
  have e2 := y vs q
  rw [hv] at e2
  cases e2
  exact ⟨Same.refl _, rv⟩
theorem iw_str {Ow : Addr → Prop} {fr : Bool} {H1 : Hp} {x : Str} : IW b Ow fr H1 (Its x) (chV x) := by
  intro Ow' H h0 h1 hn
  refine ⟨fun i p hp => ?_, by show (chV x).length = x.cps.size; unfold chV; rw [List.length_map, Array.length_toList]⟩
  unfold chV at hp
  rw [List.getElem?_map] at hp
  cases q : x.cps.toList[i]? with
  | none => rw [q] at hp; cases hp
  | some c =>
    rw [q] at hp
    cases hp
    have hc : x.cps[i]? = some c := by rw [← Array.getElem?_toList]; exact q
    refine ⟨(Array.getElem?_eq_some_iff.mp hc).1, fun v H' y => ?_⟩
    obtain ⟨e, c', h', ev⟩ := y
    subst e
    rw [hc] at h'
    cases h'
    subst ev
    exact ⟨Same.refl _, .str _⟩
theorem si_v {tg : Expr} {fr : Bool} (he : SE X b G m e h) (hm : fr = true → m ≠ .bor := by simp) (hK : X.K = b.C.K := by rfl) : SI X b G fr tg e (iV h) := by
  have hPI := PI.or (tg := tg) (PI.or (pi_list he) (pi_tup he)) (pi_str he)
  refine PI.imp hPI fun σ H R ⟨Ow, env, ps, E, hg, k⟩ => ?_
  rw [hK]
  obtain ⟨p, hp, hps⟩ := bind_some' hg
  have keep : ∀ {H1 Ow' H2} {v : V}, Same H H1 → Res b Ow H H1 m v p → (fr = false → Same H1 H2) → Ex (Bs b Ow) H1 (Bs b Ow') H2 → RepB b.C (Bs b Ow') H2 v p := fun {H1 Ow' H2 v} s r h0 h1 => by
    cases fr with
    | false => exact RepB.ex h1 (h0 rfl) r.bor
    | true => exact .inl (Rep.ex h1 (r.val E (hm rfl)))
  unfold itV at hps
  split at hps
  · cases hps
    refine .inl (.inl ⟨Ow, env, _, E, hp, fun v H1 s r => ?_⟩)
    have r1 : RepB b.C (Bs b Ow) H1 v (.lst _) := r.bor
    obtain ⟨a, vs, rfl, ha, ra⟩ := r1.lst
    refine ⟨a, rfl, ⟨vs, SqL.of ha⟩, k _ _ s (iw_list (vs := vs) fun Ow' H2 h0 h1 => ?_)⟩
    obtain ⟨a', vs', e', ha', ra'⟩ := (keep s r h0 h1).lst
    cases e'
    have : H2 a = some (.lst vs) := by
      cases fr with
      | false => exact h0 rfl _ _ ha
      | true =>
        have rv : Rep b.C (Bs b Ow) H1 (.ref a) (.lst _) := r.val E (hm rfl)
        cases rv with
        | lst q1 q2 q3 => rw [ha] at q1; cases q1; exact ((h1 _ _ ha).1 q2).1
    rw [ha'] at this
    cases this
    exact ⟨SqL.of ha', ra'⟩
  · cases hps
    refine .inl (.inl ⟨Ow, env, _, E, hp, fun v H1 s r => ?_⟩)
    have r1 : Rep b.C (Bs b Ow) H1 v (.frz _) := (by rcases r.bor with z | ⟨_, _, z⟩; exact z; exact z.elim)
    cases r1 with
    | lstF q1 q3 => exact ⟨_, rfl, ⟨_, .inl (.inr ⟨_, q1⟩)⟩, k _ _ s (iw_list fun Ow' H2 h0 h1 => ⟨.inl (.inr ⟨_, (h1 _ _ q1).2 rfl⟩), q3.ex h1⟩)⟩
    | lstK q1 q3 => exact ⟨_, rfl, ⟨_, sqK q1⟩, k _ _ s (iw_list fun Ow' H2 h0 h1 => ⟨sqK q1, q3.ex h1⟩)⟩
  · cases hps
    refine .inl (.inr ⟨Ow, env, _, E, hp, fun v H1 s r => ?_⟩)
    have r1 : RepB b.C (Bs b Ow) H1 v (.tup _) := r.bor
    obtain ⟨a, vs, rfl, ha, ra⟩ := r1.tup
    exact ⟨a, rfl, ⟨vs, ha.sq⟩, k _ _ s (iw_tup (vs := vs) fun Ow' H2 h0 h1 => ⟨(ha.ex h1).sq, ra.ex h1⟩)⟩
  · cases hps
    refine .inl (.inr ⟨Ow, env, _, E, hp, fun v H1 s r => ?_⟩)
    have r1 : RepB b.C (Bs b Ow) H1 v (.ktp _) := r.bor
    rcases r1 with r1 | ⟨_, _, t⟩
    · cases r1 with
      | tupK q1 q3 => exact ⟨_, rfl, ⟨_, sqTK q1⟩, k _ _ s (iw_tup fun Ow' H2 h0 h1 => ⟨sqTK q1, q3.ex h1⟩)⟩
    · exact t.elim
  · cases hps
    refine .inr ⟨Ow, env, _, E, hp, fun v H1 s r => ?_⟩
    have r1 : RepB b.C (Bs b Ow) H1 v (.str _) := r.bor
    exact ⟨_, r1.str, k _ _ s iw_str⟩
  · cases hps
noncomputable def rgI (i : Int) : Bool := @decide (-4611686018427387904 ≤ i ∧ i < 4611686018427387904) (Classical.propDecidable _)
theorem rgI_of {i : Int} (h : -4611686018427387904 ≤ i) (h' : i < 4611686018427387904) : rgI i = true := @decide_eq_true _ (Classical.propDecidable _) ⟨h, h'⟩
theorem rgI_to {i : Int} (h : rgI i = true) : -(2 ^ 62) ≤ i ∧ i < 2 ^ 62 := by
  simp only [rgI, decide_eq_true_eq] at h
  exact h
def rngV (lo hi : Int) : List PV := (List.range (hi - lo).toNat).map fun i => .int (lo + (i : Nat))
noncomputable def iR1 (f : Env → Option PV) (env : Env) : Option (List PV) := (f env).bind fun p => match p with
  | .int j => if rgI j = true then some (rngV 0 j) else none
  | _ => none
@[simp] theorem iR1_ap (f : Env → Option PV) (env : Env) : iR1 f env = ((f env).bind fun p => match p with
  | .int j => if rgI j = true then some (rngV 0 j) else none
  | _ => none) := id rfl
theorem iw_rng {Ow : Addr → Prop} {fr : Bool} {H1 : Hp} {lo hi : Int} : IW b Ow fr H1 (Itr lo (hi - lo).toNat) (rngV lo hi) := by
  intro Ow' H h0 h1 hn
  have hl : (rngV lo hi).length = (hi - lo).toNat := by unfold rngV; rw [List.length_map, List.length_range]
  refine ⟨fun i p hp => ?_, by show (hi - lo).toNat ≤ (rngV lo hi).length; rw [hl]; exact Nat.le_refl _⟩
  have hi' : i < (hi - lo).toNat := by rw [← hl]; exact (List.getElem?_eq_some_iff.mp hp).1
  refine ⟨hi', fun x H' y => ?_⟩
  obtain ⟨e, ex⟩ := y
  subst e ex
  unfold rngV at hp
  rw [List.getElem?_map, List.getElem?_range hi'] at hp
  cases hp
  exact ⟨Same.refl _, .int _⟩
theorem si_r1 {tg : Expr} {fr : Bool} {p pos : Pos} (hm : X.mg "range" = none) (he : SE X b G m e h) (hg : Gl X "range" := by rfl) (hs : starEach [e] X.env = [(false, eval e X.env)] := by rfl) (hs' : starEach [e] X.env = (false, eval e X.env) :: starEach [] X.env := by rfl) : SI X b G fr tg (.Call (.Name "range" p) [e] [] pos) (iR1 h) := by
  refine PI.imp (pi_range1 hg hm (pa_cons he.bor pa_nil hs') hs) fun σ H R ⟨Ow, env, ps, E, hf, k⟩ => ?_
  obtain ⟨p1, hp, hps⟩ := bind_some' hf
  refine ⟨Ow, env, p1, E, hp, fun v H1 s r => ?_⟩
  have r1 : RepB b.C (Bs b Ow) H1 v p1 := r
  cases p1 <;> simp only at hps <;> first | cases hps | skip
  rename_i j
  split at hps
  · rename_i hj
    cases hps
    have hw : IW b Ow fr H1 (Itr 0 (j - 0).toNat) (rngV 0 j) := iw_rng
    rw [Int.sub_zero] at hw
    exact ⟨j, by rw [r1.int], (rgI_to hj).1, (rgI_to hj).2, k _ _ s hw⟩
  · cases hps
def enumV (n : Nat) : List PV → List PV
  | [] => []
  | x :: xs => .tup [.int (n : Nat), x] :: enumV (n + 1) xs
theorem enumV_get {p : PV} : ∀ {xs : List PV} {n i : Nat}, (enumV n xs)[i]? = some p → ∃ x, xs[i]? = some x ∧ p = .tup [.int ((n + i : Nat) : Int), x]
  | [], n, i, e => by simp [enumV] at e
  | x :: xs, n, 0, e => by
    simp [enumV] at e
    exact ⟨x, rfl, by rw [← e]; rfl⟩
  | x :: xs, n, i + 1, e => by
    simp only [enumV, List.getElem?_cons_succ] at e
    obtain ⟨y, h1, h2⟩ := enumV_get e
    exact ⟨y, by simpa using h1, by rw [h2, Nat.add_right_comm, Nat.add_assoc]⟩
theorem enumV_length : ∀ {xs : List PV} {n : Nat}, (enumV n xs).length = xs.length
  | [], _ => rfl
  | x :: xs, n => by simp [enumV, enumV_length (xs := xs)]
def iE (f : Env → Option PV) (env : Env) : Option (List PV) := (f env).bind fun p => match p with
  | .lst xs => some (enumV 0 xs)
  | _ => none
@[simp] theorem iE_ap (f : Env → Option PV) (env : Env) : iE f env = ((f env).bind fun p => match p with
  | .lst xs => some (enumV 0 xs)
  | _ => none) := id rfl
theorem si_enum {fr : Bool} {es : List Expr} {x1 : Nat} {tpos p pos : Pos} (hm : X.mg "enumerate" = none) (he : SE X b G m e h) (hmd : fr = true → m ≠ .bor) (hK : X.K = b.C.K := by rfl) (hg : Gl X "enumerate" := by rfl) (hs : starEach [e] X.env = [(false, eval e X.env)] := by rfl) (hs' : starEach [e] X.env = (false, eval e X.env) :: starEach [] X.env := by rfl) :
    SI X b G fr (.Tuple es x1 tpos) (.Call (.Name "enumerate" p) [e] [] pos) (iE h) := by
  refine PI.imp (pi_enum hg hm (pa_cons he pa_nil hs') hs) fun σ H R ⟨Ow, env, ps, E, hf, k⟩ => ?_
  rw [hK]
  obtain ⟨p1, hp, hps⟩ := bind_some' hf
  refine ⟨Ow, env, p1, E, hp, fun v H1 s r => ?_⟩
  have r1 : RepB b.C (Bs b Ow) H1 v p1 := r.bor
  cases p1 <;> simp only at hps <;> cases hps
  rename_i xs
  obtain ⟨a, vs, rfl, ha, ra⟩ := r1.lst
  refine ⟨a, rfl, ⟨vs, SqL.of ha⟩, k _ _ s fun Ow' H2 h0 h1 hn => ?_⟩
  have hq : H2 a = some (.lst vs) ∧ Reps b.C (Bs b Ow') H2 vs xs := by
    refine ⟨?_, ra.ex h1⟩
    cases fr with
    | false => exact h0 rfl _ _ ha
    | true =>
      have rv : Rep b.C (Bs b Ow) H1 (.ref a) (.lst _) := r.val E (hmd rfl)
      cases rv with
      | lst q1 q2 q3 => rw [ha] at q1; cases q1; exact ((h1 _ _ ha).1 q2).1
  refine ⟨fun i p hp' => ?_, ⟨vs, SqL.of hq.1, by rw [enumV_length, hq.2.length]; exact Nat.le_refl _⟩⟩
  obtain ⟨x, hx, rfl⟩ := enumV_get hp'
  obtain ⟨v, hv, rv⟩ := hq.2.get hx
  refine ⟨⟨vs, v, SqL.of hq.1, hv⟩, fun y H' yl => ?_⟩
  obtain ⟨t, x', ht, e1, e2, yl⟩ := yl
  subst e1 e2
  have e3 := yl vs (SqL.of hq.1)
  rw [hv] at e3
  cases e3
  refine ⟨same_new ht _, .tup upd_same (.cons ?_ (.cons (rv.ex (.of_same (same_new ht _))) .nil))⟩
  rw [Nat.zero_add]
  exact .int _
end
end MR
namespace MR
open PySem L2
def gN (i : Nat) (p : PV) (env : Env) : Option Env := some (env.set i (some p))
@[simp] theorem gN_ap (i : Nat) (p : PV) (env : Env) : gN i p env = (some (env.set i (some p))) := id rfl
@[simp] def gNs : List Nat → List PV → Env → Option Env
  | [], [], env => some env
  | i :: is, p :: ps, env => gNs is ps (env.set i (some p))
  | _, _, _ => none
def gT (is : List Nat) (p : PV) (env : Env) : Option Env := match p with
  | .tup xs => gNs is xs env
  | _ => none
@[simp] theorem gT_ap (is : List Nat) (p : PV) (env : Env) : gT is p env = (match p with
  | .tup xs => gNs is xs env
  | _ => none) := id rfl
def tMG (b : BX) (G : List Nat) (g : PV → Env → Option Env) : TG := fun v σ H Q => ∃ Ow env p env', ER b Ow G σ env H ∧ Rep b.C (Bs b Ow) H v p ∧ g p env = some env' ∧ ∀ σ', ER b Ow G σ' env' H → Q σ' H
def tMGs (b : BX) (G : List Nat) (is : List Nat) : TGs := fun vs σ H Q => ∃ Ow env ps env', ER b Ow G σ env H ∧ Reps b.C (Bs b Ow) H vs ps ∧ gNs is ps env = some env' ∧ ∀ σ', ER b Ow G σ' env' H → Q σ' H
abbrev SG (X : Cx) (b : BX) (G : List Nat) (tg : Expr) (g : PV → Env → Option Env) : Prop := PG X tg (tMG b G g)
abbrev SGs (X : Cx) (b : BX) (G : List Nat) (tgs : List Expr) (is : List Nat) : Prop := PGs X tgs (tMGs b G is)
theorem PG.imp {X : Cx} {tg : Expr} {t u : TG} (h : PG X tg t) (i : ∀ v σ H Q, u v σ H Q → t v σ H Q) : PG X tg u := fun pins s σ H v w Q I r q => h pins s σ H v w Q I r (i v σ H Q q)
theorem PGs.imp {X : Cx} {tg : List Expr} {t u : TGs} (h : PGs X tg t) (i : ∀ v σ H Q, u v σ H Q → t v σ H Q) : PGs X tg u := fun pins s σ H v w Q I r q => h pins s σ H v w Q I r (i v σ H Q q)
section
variable {X : Cx} {b : BX} {G G' L : List Nat} {ro : Bool} {pos : Pos}
theorem sg_n (i : Nat) {x : Str} (nd : X.N.Nodup) (hG : i ∉ G := by decide) (hx : b.fx i = none := by first | rfl | assumption) (hi : X.N[i]? = some x := by rfl) (hl : Loc X.env.scope x := by first | exact Or.inl rfl | exact Or.inr rfl)
    (hf : X.fn x = true ∨ X.env.scope.names.lookup x = some .local := by first | exact .inl rfl | exact .inr rfl | assumption) : SG X b G (.Name x pos) (gN i) :=
  PG.imp (pg_name nd hi hl hf) fun v σ H Q ⟨Ow, env, p, env', E, r, e, k⟩ => by cases e; exact k _ (E.set hG r hx)
theorem sgs_nil : SGs X b G [] [] := PGs.imp pgs_nil fun vs σ H Q ⟨Ow, env, ps, env', E, r, e, k⟩ => by
  cases ps with
  | nil => cases r; cases e; exact ⟨rfl, k σ E⟩
  | cons p ps => cases e
theorem sgs_cons (i : Nat) {x : Str} {es : List Expr} {is : List Nat} {p1 : Pos} (nd : X.N.Nodup) (h2 : SGs X b G es is) (hG : i ∉ G := by decide) (hx : b.fx i = none := by first | rfl | assumption) (hi : X.N[i]? = some x := by rfl) (hl : Loc X.env.scope x := by first | exact Or.inl rfl | exact Or.inr rfl)
    (hf : X.fn x = true ∨ X.env.scope.names.lookup x = some .local := by first | exact .inl rfl | exact .inr rfl | assumption) (hs : (assignEach (.Name x p1 :: es) X.env).map (·.2) = assign (.Name x p1) X.env :: (assignEach es X.env).map (·.2) := by rfl) : SGs X b G (.Name x p1 :: es) (i :: is) :=
  PGs.imp (pgs_cons (pg_name nd hi hl hf) h2 hs) fun vs σ H Q ⟨Ow, env, ps, env', E, r, e, k⟩ => by
    cases ps with
    | nil => cases e
    | cons p ps =>
      cases r with
      | cons r1 r2 => exact ⟨_, _, rfl, Ow, env.set i (some p), ps, env', E.set hG r1 hx, r2, e, k⟩
theorem gNs_len : ∀ {is : List Nat} {ps : List PV} {env env' : Env}, gNs is ps env = some env' → ps.length = is.length
  | [], [], _, _, _ => rfl
  | i :: is, p :: ps, env, env', e => by simp [gNs_len (is := is) (ps := ps) e]
  | [], _ :: _, _, _, e => by cases e
  | _ :: _, [], _, _, e => by cases e
theorem sg_t {es : List Expr} {k : Nat} {is : List Nat} (h : SGs X b G es is) (hc : X.calm = true := by rfl) (hn : (assignEach es X.env).length = is.length := by rfl) (hst : (assignEach es X.env).findIdx? (·.1) = none := by rfl) (hK : X.K = b.C.K := by rfl) : SG X b G (.Tuple es k pos) (gT is) :=
  PG.imp (pg_tup hc h hn hst) fun v σ H Q ⟨Ow, env, p, env', E, r, e, k⟩ => by
    cases p <;> simp only [gT] at e <;> first | cases e | skip
    rename_i xs
    obtain ⟨a, vs, rfl, ha, ra⟩ := RepB.tup (.inl r)
    rw [hK]
    exact ⟨a, vs, rfl, ha.sq, by rw [ra.length]; exact gNs_len e, Ow, env, xs, env', E, ra, e, k⟩
def loopS (g : PV → Env → Option Env) (ds : List Nat) (body : Env → Option Out) : List PV → Env → Option Out
  | [], env => some (.nx env)
  | x :: xs, env => (g x env).bind fun e1 => (body e1).bind fun o => match o with
    | .nx e => loopS g ds body xs (clr ds e)
    | .ct e => loopS g ds body xs (clr ds e)
    | .bk e => some (.nx (clr ds e))
    | .rt p => some (.rt p)
def sFor (g : PV → Env → Option Env) (src : Env → Option (List PV)) (ds : List Nat) (body : Env → Option Out) (env : Env) : Option Out := (src env).bind fun xs => loopS g ds body xs (clr ds env)
@[simp] theorem sFor_ap (g : PV → Env → Option Env) (src : Env → Option (List PV)) (ds : List Nat) (body : Env → Option Out) (env : Env) : sFor g src ds body env = ((src env).bind fun xs => loopS g ds body xs (clr ds env)) := id rfl
theorem s_for {tg it : Expr} {body : List Stmt} {g : PV → Env → Option Env} {src : Env → Option (List PV)} {f : Env → Option Out} (ds : List Nat) (hi : SI X b G true tg it src) (hg : SG X b G tg g) (hb : SSs X b G G G ro body f) (hp : PassesOwn (model X.prog X.w) X.A X.env X.xe) (hc : X.calm = true := by rfl)
    (hs : ∀ x, foldedSetIterable it X.env x = pure x := by intro _; rfl) : SS X b G G L ro (.For tg it body [] pos) (sFor g src ds f) := by
  refine PS.imp (ps_for hp hc hi hg hb hs) fun D σ H ⟨Ow, env, out, E, hf, k⟩ => ?_
  obtain ⟨ps, hps, hl⟩ := bind_some' hf
  refine ⟨Ow, env, ps, E, hps, fun J H1 s1 iw => ?_⟩
  refine ⟨fun i m σ2 H2 => m = ps.length - i ∧ i ≤ ps.length ∧ ∃ Ow2 env2, ER b Ow2 G σ2 env2 H2 ∧ Ex (Bs b Ow) H1 (Bs b Ow2) H2 ∧ loopS g ds f (ps.drop i) env2 = some out, ⟨ps.length, by simp, Nat.zero_le _, Ow, clr ds env, (E.up s1).clr, Ex.refl _ _, by simpa using hl⟩, ?_⟩
  rintro i m σ2 H2 ⟨rfl, hi, Ow2, env2, E2, x2, l2⟩
  obtain ⟨w1, w2⟩ := iw Ow2 H2 (fun z => by cases z) x2 fun a => E2.fresh
  have xk : Ex (Bs b Ow) H (Bs b Ow2) H2 := (Ex.of_same s1).trans x2
  by_cases hlt : i < ps.length
  · rw [List.drop_eq_getElem_cons hlt] at l2
    obtain ⟨e1, he1, l2⟩ := bind_some' l2
    obtain ⟨o, ho, l2⟩ := bind_some' l2
    obtain ⟨g1, g2⟩ := w1 i ps[i] (List.getElem?_eq_getElem hlt)
    refine .inr ⟨g1, fun σ' H' => i + 1 ≤ ps.length ∧ ∃ Ow2 env2, ER b Ow2 G σ' env2 H' ∧ Ex (Bs b Ow) H1 (Bs b Ow2) H' ∧ loopS g ds f (ps.drop (i + 1)) env2 = some out, fun σ' H' q => ⟨ps.length - (i + 1), by omega, rfl, q⟩, fun x H' y => ?_⟩
    obtain ⟨s3, r3⟩ := g2 x H' y
    refine ⟨Ow2, env2, _, e1, E2.up s3, r3, he1, fun σ3 E3 => ⟨Ow2, e1, o, E3, ho, ?_⟩⟩
    cases o with
    | nx e' => exact fun Ow' σ' H'' E' x' => ⟨hlt, Ow', _, E'.clr, x2.trans ((Ex.of_same s3).trans x'), l2⟩
    | ct e' => exact fun Ow' σ' H'' E' x' => ⟨hlt, Ow', _, E'.clr, x2.trans ((Ex.of_same s3).trans x'), l2⟩
    | bk e' => cases l2; exact fun Ow' σ' H'' E' x' => k Ow' σ' H'' E'.clr (xk.trans ((Ex.of_same s3).trans x'))
    | rt p => cases l2; exact k
  · have e : i = ps.length := by omega
    subst e
    rw [List.drop_length] at l2
    cases l2
    exact .inl ⟨w2, k Ow2 σ2 H2 E2 xk⟩
end
def capE (cap : List (Option Nat)) (env : Env) : Env := cap.map fun o => match o with | some i => (env[i]?).getD none | none => none
@[simp] theorem capE_ap (cap : List (Option Nat)) (env : Env) : capE cap env = (cap.map fun o => match o with | some i => (env[i]?).getD none | none => none) := id rfl
def capG (cap : List (Option Nat)) (G : List Nat) : List Nat := (List.range cap.length).filter fun j => match cap[j]? with | some (some i) => decide (i ∈ G) | _ => false
def BX.in (b : BX) : BX := { b with fx := fun _ => none }
def compL (env : Env) (g : PV → Env → Option Env) (t : Env → Option Bool) (f : Env → Option PV) : List PV → Option (List PV)
  | [] => some []
  | x :: xs => (g x env).bind fun e => (t e).bind fun k => if k = true then (f e).bind fun y => (compL env g t f xs).bind fun ys => some (y :: ys) else compL env g t f xs
def bComp (cap : List (Option Nat)) (src : Env → Option (List PV)) (g : PV → Env → Option Env) (t : Env → Option Bool) (f : Env → Option PV) (env : Env) : Option PV := (src env).bind fun xs => if xs.length ≤ 1000000 then (compL (capE cap env) g t f xs).bind fun ys => some (.lst ys) else none
@[simp] theorem bComp_ap (cap : List (Option Nat)) (src : Env → Option (List PV)) (g : PV → Env → Option Env) (t : Env → Option Bool) (f : Env → Option PV) (env : Env) : bComp cap src g t f env = ((src env).bind fun xs => if xs.length ≤ 1000000 then (compL (capE cap env) g t f xs).bind fun ys => some (.lst ys) else none) := id rfl
def tTrue (env : Env) : Option Bool := some true
@[simp] theorem tTrue_ap (env : Env) : tTrue env = (some true) := id rfl
theorem capG_mem {cap : List (Option Nat)} {G : List Nat} {j : Nat} : j ∈ capG cap G ↔ ∃ i, cap[j]? = some (some i) ∧ i ∈ G := by
  unfold capG
  rw [List.mem_filter, List.mem_range]
  constructor
  · rintro ⟨h1, h2⟩
    split at h2
    · rename_i i e; exact ⟨i, e, by simpa using h2⟩
    · cases h2
  · rintro ⟨i, e, h⟩
    refine ⟨(List.getElem?_eq_some_iff.mp e).1, ?_⟩
    rw [e]; simpa using h
theorem capE_get {cap : List (Option Nat)} {env : Env} {j : Nat} {p : PV} (h : (capE cap env)[j]? = some (some p)) : ∃ i, cap[j]? = some (some i) ∧ env[i]? = some (some p) := by
  unfold capE at h
  rw [List.getElem?_map] at h
  cases q : cap[j]? with
  | none => rw [q] at h; cases h
  | some o =>
    rw [q] at h
    cases o with
    | none => cases h
    | some i =>
      refine ⟨i, rfl, ?_⟩
      have h' : (env[i]?).getD none = some p := by simpa using h
      cases q2 : env[i]? with
      | none => rw [q2] at h'; cases h'
      | some o => rw [q2] at h'; simp at h'; rw [h']
theorem capSt_get {cap : List (Option Nat)} {σ : St} {j i : Nat} {v : V} (h : cap[j]? = some (some i)) (e : σ[i]? = some (some v)) : (capSt cap σ)[j]? = some (some v) := by
  unfold capSt
  rw [List.getElem?_map, h]
  simp [capV, e]
def capInj (cap : List (Option Nat)) : Bool := (List.range cap.length).all fun j => (List.range cap.length).all fun k => match cap[j]?, cap[k]? with
  | some (some i), some (some i') => decide (i = i' → j = k)
  | _, _ => true
theorem capInj_of {cap : List (Option Nat)} (h : capInj cap = true) {j k i : Nat} (h1 : cap[j]? = some (some i)) (h2 : cap[k]? = some (some i)) : j = k := by
  have a := List.all_eq_true.mp h j (List.mem_range.mpr (List.getElem?_eq_some_iff.mp h1).1)
  have c := List.all_eq_true.mp a k (List.mem_range.mpr (List.getElem?_eq_some_iff.mp h2).1)
  rw [h1, h2] at c
  simpa using c
theorem ER.cap {b : BX} {Ow : Addr → Prop} {G : List Nat} {σ : St} {env : Env} {H : Hp} {cap : List (Option Nat)} (E : ER b Ow G σ env H) (hc : capInj cap = true) : ER b.in Ow (capG cap G) (capSt cap σ) (capE cap env) H := by
  refine ⟨by unfold capSt capE; rw [List.length_map, List.length_map], E.same, E.live, E.new, fun j p e n => ?_, fun j p e n => ?_, fun j k a p q e1 n1 s1 e2 n2 s2 => ?_, fun k v z => by cases z⟩
  · obtain ⟨i, h1, h2⟩ := capE_get e
    obtain ⟨v, h3, h4⟩ := E.val i p h2 fun z => n (capG_mem.mpr ⟨i, h1, z⟩)
    exact ⟨v, capSt_get h1 h3, h4⟩
  · obtain ⟨i, h1, h2⟩ := capE_get e
    obtain ⟨i', h1', hG⟩ := capG_mem.mp n
    rw [h1] at h1'; cases h1'
    obtain ⟨a, h3, h4, h5⟩ := E.own i p h2 hG
    exact ⟨a, capSt_get h1 h3, h4, h5⟩
  · obtain ⟨i, h1, h2⟩ := capE_get e1
    obtain ⟨i', h1', hG⟩ := capG_mem.mp n1
    rw [h1] at h1'; cases h1'
    obtain ⟨k', h3, h4⟩ := capE_get e2
    obtain ⟨k'', h3', hG2⟩ := capG_mem.mp n2
    rw [h3] at h3'; cases h3'
    obtain ⟨c, g1, _, _⟩ := E.own i p h2 hG
    obtain ⟨c2, g2, _, _⟩ := E.own k' q h4 hG2
    have t1 := capSt_get (cap := cap) h1 g1
    have t2 := capSt_get (cap := cap) h3 g2
    rw [s1] at t1; cases t1
    rw [s2] at t2; cases t2
    have := E.sep i k' _ p q h2 hG g1 h4 hG2 g2
    subst this
    exact capInj_of hc h1 h3
theorem ER.more {b : BX} {Ow : Addr → Prop} {G : List Nat} {σ : St} {env : Env} {H H' : Hp} {D : Addr} (E : ER b Ow G σ env H) (hD : H D = none) (s : Same H H') (hl : ∃ o, H' D = some o) : ER b (fun c => Ow c ∨ c = D) G σ env H' ∧ Ex (Bs b Ow) H (Bs b fun c => Ow c ∨ c = D) H' := by
  have hx : Ex (Bs b Ow) H (Bs b fun c => Ow c ∨ c = D) H' := fun c o h => ⟨fun q => ⟨s _ _ h, fun z => z.elim q.1 (ne_of_none h hD), q.2⟩, fun _ => s _ _ h⟩
  exact ⟨⟨E.len, E.same.trans s, fun c w => w.elim (fun z => let ⟨o, h⟩ := E.live c z; ⟨o, s _ _ h⟩) fun z => by subst z; exact hl, fun c w => w.elim (E.new c) fun z => by subst z; exact E.same.free hD, fun i p e n => let ⟨v, h1, h2⟩ := E.val i p e n; ⟨v, h1, h2.ex hx⟩,
    fun i p e n => let ⟨a, h1, h2, h3⟩ := E.own i p e n; ⟨a, h1, .inl h2, h3.ex hx fun o z => s _ _ z⟩, E.sep, E.fix⟩, hx⟩
structure TgOk (K : PySem.W.Frag) (cap : List (Option Nat)) (g : TG) (gm : PV → Env → Option Env) : Prop where
  go : ∀ (b : BX) (Ow : Addr → Prop) (G : List Nat) (σ : St) (env e : Env) (H : Hp) (v : V) (p : PV) (Q : St → Hp → Prop), b.C.K = K → (∀ i, b.fx i = none) → ER b Ow (capG cap G) (capSt cap σ) (capE cap env) H → Rep b.C (Bs b Ow) H v p → gm p (capE cap env) = some e →
    (∀ σ', Kp (capSt cap σ) σ' → ER b Ow (capG cap G) σ' e H → Q σ' H) → g v (capSt cap σ) H Q
theorem kp_set {σ σ' : St} {i : Nat} {v : V} (h : Kp σ σ') (hn : ∀ w, σ[i]? ≠ some (some w)) : Kp σ (σ'.set i (some v)) := by
  refine ⟨by rw [List.length_set]; exact h.1, fun j w e => ?_⟩
  by_cases hj : i = j
  · subst hj; exact absurd e (hn w)
  · rw [List.getElem?_set_ne hj]; exact h.2 j w e
theorem kp_refl (σ : St) : Kp σ σ := ⟨rfl, fun _ _ e => e⟩
theorem capSt_none {cap : List (Option Nat)} {σ : St} {i : Nat} (h : cap[i]? = some none) (w : V) : (capSt cap σ)[i]? ≠ some (some w) := by
  unfold capSt
  rw [List.getElem?_map, h]
  intro z; cases z
theorem capG_none {cap : List (Option Nat)} {G : List Nat} {i : Nat} (h : cap[i]? = some none) : i ∉ capG cap G := fun z => by
  obtain ⟨k, e, _⟩ := capG_mem.mp z
  rw [h] at e; cases e
theorem tg_n {K : PySem.W.Frag} {cap : List (Option Nat)} (i : Nat) (h : cap[i]? = some none := by rfl) : TgOk K cap (gName i) (gN i) :=
  ⟨fun b Ow G σ env e H v p Q hK hx E r he k => by
    cases he
    exact k _ (kp_set (kp_refl _) (capSt_none h)) (E.set (capG_none h) r (hx _))⟩
section
variable {X : Cx} {b : BX} {G L : List Nat} {ro : Bool} {pos : Pos} {tg iter elt : Expr} {ifs : List Expr} {scope osc : Scope} {ON N : List Str} {cap : List (Option Nat)} {src : Env → Option (List PV)} {g : TG} {gm : PV → Env → Option Env} {t : Env → Option Bool} {f : Env → Option PV}
theorem tcomp {σ : St} {H : Hp} {Q : VK} (tgo : TgOk b.C.K cap g gm) (hc : capInj cap = true) (h : tM b G .own (bComp cap src gm t f) σ H Q) :
    tComp (tMI b G false src) cap g (tMT b.in (capG cap G) t) (tM b.in (capG cap G) .val f) σ H Q := by
  obtain ⟨Ow, env, p, E, hf, k⟩ := h
  obtain ⟨xs, hxs, hf⟩ := bind_some' hf
  split at hf
  · rename_i hlen
    obtain ⟨ys, hys, hf⟩ := bind_some' hf
    cases hf
    refine ⟨Ow, env, xs, E, hxs, fun J H1 s1 iw D hD => ?_⟩
    have E1 := E.up s1
    have nD : H D = none := s1.free hD
    refine ⟨fun i m vs H2 => m = xs.length - i ∧ i ≤ xs.length ∧ Same H1 H2 ∧ H2 D = some (.lst vs) ∧ vs.length ≤ i ∧ ∃ done rest, Reps b.C (Bs b fun c => Ow c ∨ c = D) H2 vs done ∧ compL (capE cap env) gm t f (xs.drop i) = some rest ∧ done ++ rest = ys,
      ⟨xs.length, by simp, Nat.zero_le _, same_new hD _, upd_same, Nat.le_refl _, [], ys, .nil, by simpa using hys, rfl⟩, ?_⟩
    rintro i m vs H2 ⟨rfl, hi, s2, d2, hv, done, rest, rd, cl, hdone⟩
    refine ⟨d2, ?_⟩
    obtain ⟨E2, x2⟩ := E1.more hD s2 ⟨_, d2⟩
    obtain ⟨w1, w2⟩ := iw _ H2 (fun _ => s2) x2 fun a => E2.fresh
    by_cases hlt : i < xs.length
    · rw [List.drop_eq_getElem_cons hlt] at cl
      obtain ⟨e1, he1, cl⟩ := bind_some' cl
      obtain ⟨kk, hk, cl⟩ := bind_some' cl
      obtain ⟨g1, g2⟩ := w1 i xs[i] (List.getElem?_eq_getElem hlt)
      refine .inr ⟨g1, fun vs' H' => i + 1 ≤ xs.length ∧ Same H1 H' ∧ H' D = some (.lst vs') ∧ vs'.length ≤ i + 1 ∧ ∃ done rest, Reps b.C (Bs b fun c => Ow c ∨ c = D) H' vs' done ∧ compL (capE cap env) gm t f (xs.drop (i + 1)) = some rest ∧ done ++ rest = ys, fun vs' H' q => ⟨xs.length - (i + 1), by omega, rfl, q⟩, fun x H' y => ?_⟩
      obtain ⟨s3, r3⟩ := g2 x H' y
      have E3 := (E2.up s3).cap hc
      refine tgo.go b.in _ G σ env e1 H' x _ _ rfl (fun _ => rfl) E3 r3 he1 fun σ3 kp E4 => ⟨kp, _, e1, kk, E4, hk, fun H4 s4 => ?_⟩
      have d4 : H4 D = some (.lst vs) := s4 _ _ (s3 _ _ d2)
      have s24 : Same H2 H4 := s3.trans s4
      cases kk with
      | false =>
        refine iteF ⟨hlt, s2.trans s24, d4, Nat.le_succ_of_le hv, done, rest, rd.ex (.of_same s24), ?_, hdone⟩
        simpa using cl
      | true =>
        simp only [if_true] at cl
        obtain ⟨y1, hy1, cl⟩ := bind_some' cl
        obtain ⟨ys1, hys1, cl⟩ := bind_some' cl
        cases cl
        refine iteT ⟨_, e1, y1, E4.up s4, hy1, fun v5 H5 s5 r5 => ⟨s5 _ _ d4, le_line (by omega), hlt, ?_, upd_same, by rw [List.length_append]; show vs.length + 1 ≤ i + 1; omega, done ++ [y1], ys1, ?_, hys1, by rw [List.append_assoc]; exact hdone⟩⟩
        · exact fun c o h => by rw [upd_ne (ne_of_none h hD)]; exact s5 _ _ (s24 _ _ (s2 _ _ h))
        · have r5' : Rep b.C (Bs b fun c => Ow c ∨ c = D) H5 v5 y1 := r5
          refine ((rd.ex (.of_same (s24.trans s5))).append (.cons r5' .nil)).ex ?_
          exact ex_write (b := b) (Ow := fun c => Ow c ∨ c = D) (.inr rfl) (s5 _ _ d4) rfl
    · have e : i = xs.length := by omega
      subst e
      rw [List.drop_length] at cl
      cases cl
      rw [List.append_nil] at hdone
      subst hdone
      refine .inl ⟨w2, k _ H2 (s1.trans s2) ⟨D, rfl, nD, vs, d2, rd.ex (ex_weak fun c o _ q => ⟨⟨fun z => q.1 (.inl z), q.2⟩, fun z => q.1 (.inr z)⟩)⟩⟩
  · cases hf
theorem sifs_nil {X : Cx} : PIfs X [] (tMT b G tTrue) := fun pins s σ H Q I ⟨Ow, env, k, E, hf, kk⟩ => by cases hf; exact pifs_nil pins s σ H Q I (kk H (Same.refl _))
theorem se_comp (S : CSc osc scope ON N cap) (tgo : TgOk b.C.K cap g gm) (hi : SI X b G false tg iter src) (hg : ∀ C s H fp, PG (X.comp N scope C s H fp) tg g) (ht : ∀ C s H fp, PIfs (X.comp N scope C s H fp) ifs (tMT b.in (capG cap G) t)) (he : ∀ C s H fp, SE (X.comp N scope C s H fp) b.in (capG cap G) .val elt f)
    (hci : capInj cap = true := by rfl) (hc : X.calm = true := by rfl) (hsc : X.env.scope = osc := by rfl) (hN : X.N = ON := by rfl) (hs : ∀ x, foldedSetIterable iter X.env x = pure x := by intro _; rfl) : SE X b G .own (.ListComp elt [⟨tg, iter, ifs, 0⟩] scope pos) (bComp cap src gm t f) :=
  PE.imp (pe_comp S hi hg ht he hc hsc hN hs) fun σ H Q h => tcomp tgo hci h
theorem s_setC (i : Nat) {y : Str} {py spos : Pos} (nd : X.N.Nodup) (S : CSc osc scope ON N cap) (tgo : TgOk b.C.K cap g gm) (hi : SI X b G false tg iter src) (hg : ∀ C s H fp, PG (X.comp N scope C s H fp) tg g) (ht : ∀ C s H fp, PIfs (X.comp N scope C s H fp) ifs (tMT b.in (capG cap G) t)) (he : ∀ C s H fp, SE (X.comp N scope C s H fp) b.in (capG cap G) .val elt f)
    (hG : i ∉ G := by decide) (hx : b.fx i = none := by first | rfl | assumption) (hi' : X.N[i]? = some y := by rfl) (hy : Loc X.env.scope y := by first | exact Or.inl rfl | exact Or.inr rfl) (hci : capInj cap = true := by rfl)
    (hsw : swapsWith (.ListComp elt [⟨tg, iter, ifs, 0⟩] scope pos) (some (.Name y py)) spos.line X.env = pure true := by rfl)
    (hc : X.calm = true := by rfl) (hsc : X.env.scope = osc := by rfl) (hN : X.N = ON := by rfl) (hs : ∀ x, foldedSetIterable iter X.env x = pure x := by intro _; rfl)
    (hf : X.fn y = true ∨ X.env.scope.names.lookup y = some .local := by first | exact .inl rfl | exact .inr rfl | assumption) :
    SS X b G G L ro (.Assign [.Name y py] (.ListComp elt [⟨tg, iter, ifs, 0⟩] scope pos) spos) (sSet i (bComp cap src gm t f)) :=
  PS.imp (ps_setC S nd hi' hy hi hg ht he hsw hc hsc hN hs hf) fun D σ H q => tcomp tgo hci (by
    obtain ⟨Ow, env, p, E, hf, k⟩ := tset hG hx q
    exact ⟨Ow, env, p, E, hf, fun v H' s r => k v H' s (r.val E (by intro z; cases z))⟩)
theorem s_setCO (i : Nat) {y : Str} {py spos : Pos} (nd : X.N.Nodup) (S : CSc osc scope ON N cap) (tgo : TgOk b.C.K cap g gm) (hi : SI X b G false tg iter src) (hg : ∀ C s H fp, PG (X.comp N scope C s H fp) tg g) (ht : ∀ C s H fp, PIfs (X.comp N scope C s H fp) ifs (tMT b.in (capG cap G) t)) (he : ∀ C s H fp, SE (X.comp N scope C s H fp) b.in (capG cap G) .val elt f)
    (hG : i ∈ G := by decide) (hx : b.fx i = none := by first | rfl | assumption) (hi' : X.N[i]? = some y := by rfl) (hy : Loc X.env.scope y := by first | exact Or.inl rfl | exact Or.inr rfl) (hci : capInj cap = true := by rfl)
    (hsw : swapsWith (.ListComp elt [⟨tg, iter, ifs, 0⟩] scope pos) (some (.Name y py)) spos.line X.env = pure true := by rfl)
    (hc : X.calm = true := by rfl) (hsc : X.env.scope = osc := by rfl) (hN : X.N = ON := by rfl) (hs : ∀ x, foldedSetIterable iter X.env x = pure x := by intro _; rfl)
    (hf : X.fn y = true ∨ X.env.scope.names.lookup y = some .local := by first | exact .inl rfl | exact .inr rfl | assumption) :
    SS X b G G L ro (.Assign [.Name y py] (.ListComp elt [⟨tg, iter, ifs, 0⟩] scope pos) spos) (sSet i (bComp cap src gm t f)) :=
  PS.imp (ps_setC S nd hi' hy hi hg ht he hsw hc hsc hN hs hf) fun D σ H q => tcomp tgo hci (tsetO (fun j => ⟨.inl, fun z => z.elim id fun y => y ▸ hG⟩) hx q)
end
def mDef (n k : Nat) (ro : Bool) (f : Env → Option Out) (ps : List PV) : Option PV := if ps.length = k then (f (ps.map some ++ List.replicate (n - k) none)).bind fun o => match o with
  | .nx _ => if ro = true then none else some .non
  | .rt p => some p
  | _ => none
  else none
@[simp] theorem mDef_ap (n k : Nat) (ro : Bool) (f : Env → Option Out) (ps : List PV) : mDef n k ro f ps = (if ps.length = k then (f (ps.map some ++ List.replicate (n - k) none)).bind fun o => match o with
  | .nx _ => if ro = true then none else some .non
  | .rt p => some p
  | _ => none
  else none) := id rfl
theorem er_start {C : MC} {A : Addr → Prop} {H : Hp} {N : List Str} {vs : List V} {ps : List PV} {G : List Nat} (r : Reps C A H vs ps) (hG : ∀ i, i ∈ G → ps.length ≤ i) (hn : ps.length ≤ N.length) : ER ⟨C, A, H, fun _ => none⟩ (fun _ => False) G (L2.start N vs) (ps.map some ++ List.replicate (N.length - ps.length) none) H := by
  have hl := r.length
  have old : ∀ i p, (ps.map some ++ List.replicate (N.length - ps.length) none)[i]? = some (some p) → ps[i]? = some p := fun i p e => by
    by_cases hi : i < ps.length
    · rw [List.getElem?_append_left (by rw [List.length_map]; exact hi), List.getElem?_map] at e
      cases q : ps[i]? with
      | none => rw [q] at e; cases e
      | some p' => rw [q] at e; cases e; rfl
    · rw [List.getElem?_append_right (by rw [List.length_map]; omega), List.getElem?_replicate] at e
      split at e <;> cases e
  refine ⟨?_, Same.refl _, fun a w => w.elim, fun a w => w.elim, fun i p e n => ?_, fun i p e n => ?_, fun i j a p q e1 n1 s1 e2 n2 s2 => ?_, fun k v z => by cases z⟩
  · unfold L2.start
    simp only [List.length_append, List.length_map, List.length_replicate]
    omega
  · obtain ⟨v, hv, rv⟩ := r.get (old i p e)
    refine ⟨v, ?_, rv.ex (ex_weak fun a o _ q => ⟨fun z => z, .inl q⟩)⟩
    unfold L2.start
    have hi : i < vs.length := (List.getElem?_eq_some_iff.mp hv).1
    rw [List.getElem?_append_left (by rw [List.length_map]; exact hi), List.getElem?_map, hv]
    rfl
  · have h1 := (List.getElem?_eq_some_iff.mp (old i p e)).1
    have h2 := hG i n
    omega
  · have h1 := (List.getElem?_eq_some_iff.mp (old i p e1)).1
    have h2 := hG i n1
    omega
theorem body_ok {X : Cx} {C : MC} {N : List Str} {n k : Nat} {G G' L : List Nat} {ro : Bool} {body : List Stmt} {f : Env → Option Out} (hN : N.length = n) (hk : k ≤ n) (hG : (G.all fun i => decide (k ≤ i)) = true) (hb : ∀ A H, SSs X ⟨C, A, H, fun _ => none⟩ G G' L ro body f)
    {vs : List V} {H : Hp} {Q : VK} {E : XK} (h : spM C (mDef n k ro f) ro vs H Q E) : ∃ t, PSs X body t ∧ t { nx := fun _ H' => Q .non H', rt := Q } (L2.start N vs) H := by
  obtain ⟨A, ps, p, r, hm, kk⟩ := h
  refine ⟨_, hb A H, ?_⟩
  unfold mDef at hm
  split at hm
  · rename_i hl
    obtain ⟨o, ho, hm⟩ := bind_some' hm
    refine ⟨_, _, o, er_start (N := N) (G := G) r (fun i hi => by rw [hl]; simpa using List.all_eq_true.mp hG i hi) (by omega), by rw [hN, hl]; exact ho, ?_⟩
    cases o with
    | nx e =>
      cases ro with
      | true => cases hm
      | false => cases hm; exact fun Ow' σ' H' E' _ => kk .non H' E'.same .non
    | rt q => cases hm; exact fun v H' s rr => kk v H' s rr
    | bk e => cases hm
    | ct e => cases hm
  · cases hm
theorem spM_len {C : MC} {n k : Nat} {f : Env → Option Out} {ro ro' : Bool} {vs : List V} {H : Hp} {Q : VK} {E : XK} (h : spM C (mDef n k ro' f) ro vs H Q E) : vs.length = k := by
  obtain ⟨A, ps, p, r, hm, kk⟩ := h
  unfold mDef at hm
  split at hm
  · rename_i hl; rw [r.length]; exact hl
  · cases hm
def mInit (n k c : Nat) (f : Env → Option Out) (ps : List PV) : Option (List (Str × PV)) := if ps.length + 1 = k then (f (some (.obj c []) :: (ps.map some ++ List.replicate (n - k) none))).bind fun o => match o with
  | .nx (some (.obj c' fs) :: _) => if c' = c then some fs else none
  | _ => none
  else none
@[simp] theorem mInit_ap (n k c : Nat) (f : Env → Option Out) (ps : List PV) : mInit n k c f ps = (if ps.length + 1 = k then (f (some (.obj c []) :: (ps.map some ++ List.replicate (n - k) none))).bind fun o => match o with
  | .nx (some (.obj c' fs) :: _) => if c' = c then some fs else none
  | _ => none
  else none) := id rfl
def spI (C : MC) (c : Nat) (m : List PV → Option (List (Str × PV))) : Sp := fun vs H Q _ => ∃ A ps fs x dx us, vs = .ref x :: us ∧ H x = some (.ins (C.cl c) dx []) ∧ ¬ A x ∧ Reps C A H us ps ∧ m ps = some fs ∧
  ∀ H', (∀ a o, a ≠ x → H a = some o → H' a = some o) → Top C (fun z => (A z ∨ H z = none) ∧ z ≠ x) H' x (.obj c fs) → Q .non H'
theorem init_ok {X : Cx} {C : MC} {N : List Str} {n k c : Nat} {G G' L : List Nat} {body : List Stmt} {f : Env → Option Out} (hN : N.length = n) (hk : k ≤ n) (hG0 : 0 ∈ G) (hG1 : 0 ∈ G') (hG : (G.all fun i => decide (i = 0 ∨ k ≤ i)) = true) (hb : ∀ A H x, SSs X ⟨C, A, H, fx0 x⟩ G G' L false body f)
    {vs : List V} {H : Hp} {Q : VK} {E : XK} (h : spI C c (mInit n k c f) vs H Q E) : ∃ t, PSs X body t ∧ t { nx := fun _ H' => Q .non H', rt := Q } (L2.start N vs) H := by
  obtain ⟨A, ps, fs, x, dx, us, rfl, hx, nA, r, hm, kk⟩ := h
  refine ⟨_, hb A (fun a => if a = x then none else H a) (.ref x), ?_⟩
  unfold mInit at hm
  split at hm
  · rename_i hl
    obtain ⟨o, ho, hm2⟩ := bind_some' hm
    clear hm
    have hus := r.length
    have old : ∀ i p, (ps.map some ++ List.replicate (n - k) none)[i]? = some (some p) → ps[i]? = some p := fun i p e => by
      by_cases hi : i < ps.length
      · rw [List.getElem?_append_left (by rw [List.length_map]; exact hi), List.getElem?_map] at e
        cases q : ps[i]? with
        | none => rw [q] at e; cases e
        | some p' => rw [q] at e; cases e; rfl
      · rw [List.getElem?_append_right (by rw [List.length_map]; omega), List.getElem?_replicate] at e
        split at e <;> cases e
    have low : ∀ i, i + 1 ∈ G → ∀ p, (ps.map some ++ List.replicate (n - k) none)[i]? = some (some p) → False := fun i hi p e => by
      have h1 := (List.getElem?_eq_some_iff.mp (old i p e)).1
      have h2 : i + 1 = 0 ∨ k ≤ i + 1 := by simpa using List.all_eq_true.mp hG (i + 1) hi
      omega
    have E0 : ER ⟨C, A, fun a => if a = x then none else H a, fx0 (.ref x)⟩ (fun a => a = x) G (L2.start N (.ref x :: us)) (some (.obj c []) :: (ps.map some ++ List.replicate (n - k) none)) H := by
      refine ⟨?_, fun a o e => ?_, fun a w => ?_, fun a w => ?_, fun i p e n => ?_, fun i p e n => ?_, fun i j a p q e1 n1 s1 e2 n2 s2 => ?_, fun k v z => ?_⟩
      · unfold L2.start
        simp only [List.length_append, List.length_map, List.length_replicate, List.length_cons]
        omega
      · have e' : (if a = x then none else H a) = some o := e
        split at e'
        · cases e'
        · exact e'
      · subst w; exact ⟨_, hx⟩
      · subst w; show (if a = a then none else H a) = none; rw [if_pos rfl]
      · cases i with
        | zero => exact absurd hG0 n
        | succ i =>
          rw [List.getElem?_cons_succ] at e
          obtain ⟨v, hv, rv⟩ := r.get (old i p e)
          refine ⟨v, ?_, rv.ex (ex_weak fun a o _ q => ⟨fun z => nA (z ▸ q), .inl q⟩)⟩
          have hi : i < us.length := (List.getElem?_eq_some_iff.mp hv).1
          show ((V.ref x :: us).map some ++ _)[i + 1]? = _
          rw [List.map_cons, List.cons_append, List.getElem?_cons_succ, List.getElem?_append_left (by rw [List.length_map]; exact hi), List.getElem?_map, hv]
          rfl
      · cases i with
        | zero => cases e; exact ⟨x, rfl, rfl, dx, [], hx, .nil⟩
        | succ i => exact (low i n p e).elim
      · cases i with
        | zero =>
          cases j with
          | zero => rfl
          | succ j => exact (low j n2 q e2).elim
        | succ i => exact (low i n1 p e1).elim
      · cases k with
        | zero => cases z; rfl
        | succ k => cases z
    refine ⟨_, _, o, E0, ho, ?_⟩
    cases o with
    | nx e =>
      cases e with
      | nil => cases hm2
      | cons s0 rest =>
        cases s0 with
        | none => cases hm2
        | some p0 =>
          cases p0 <;> simp only at hm2 <;> first | cases hm2 | skip
          rename_i c' fs'
          split at hm2
          · rename_i hcc
            subst hcc
            cases hm2
            intro Ow' σ' H' E' _
            obtain ⟨a, h1, h2, h3⟩ := E'.own 0 _ rfl hG1
            have h4 := E'.fix 0 (.ref x) rfl
            rw [h1] at h4
            cases h4
            refine kk H' (fun a o na e => E'.same a o (by show (if a = x then none else H a) = some o; rw [if_neg na]; exact e)) (h3.ex (ex_weak fun z o _ q => ?_) fun o z => z)
            have nz : z ≠ x := fun y => q.1 (y ▸ h2)
            refine ⟨q.2.imp id fun y => ?_, nz⟩
            have y' : (if z = x then none else H z) = none := y
            rwa [if_neg nz] at y'
          · cases hm2
    | rt q => cases hm2
    | bk e => cases hm2
    | ct e => cases hm2
  · cases hm
theorem spI_len {C : MC} {n k c c' : Nat} {f : Env → Option Out} {vs : List V} {H : Hp} {Q : VK} {E : XK} (h : spI C c' (mInit n k c f) vs H Q E) : vs.length = k := by
  obtain ⟨A, ps, fs, x, dx, us, rfl, hx, nA, r, hm, kk⟩ := h
  unfold mInit at hm
  split at hm
  · rename_i hl; rw [List.length_cons, r.length]; exact hl
  · cases hm
structure CalI (P : Program) (w : World) (K : PySem.W.Frag) (mg : Str → Option Value) (base : Heap) (C : Addr) (k : Nat) (x : Str) (ps : List Str) (sp : Sp) : Prop where
  ex : ∃ f fd, FnOk P w K mg base CX0 k f fd ps sp ∧ Binds K fd ps [] ∧ Mk K C f ∧ mg x = some (.ref C)
def bMakeB (c : Nat) (m : List PV → Option (List (Str × PV))) (g : Env → Option (List PV)) (env : Env) : Option PV := (g env).bind fun ps => (m ps).bind fun fs => if noLf fs = true then some (.obj c fs) else none
@[simp] theorem bMakeB_ap (c : Nat) (m : List PV → Option (List (Str × PV))) (g : Env → Option (List PV)) (env : Env) : bMakeB c m g env = ((g env).bind fun ps => (m ps).bind fun fs => if noLf fs = true then some (.obj c fs) else none) := id rfl
section
variable {X : Cx} {b : BX} {G : List Nat} {pos p : Pos} {e : Expr} {es : List Expr} {g : Env → Option (List PV)}
theorem make_gen {c : Nat} {mi : List PV → Option (List (Str × PV))} {L : Bool} {σ : St} {H : Hp} {Q : VK} {Ow : Addr → Prop} {env : Env} {qs : List PV} {fs : List (Str × PV)} (E : ER b Ow G σ env H) (q1 : g env = some qs) (q2 : mi qs = some fs) (hl : L = true → noLf fs = true)
    (kk : ∀ v H', Same H H' → Res b Ow H H' .own v (.obj c fs) → Q v H') : tMake (b.C.cl c) (spI b.C c mi) [] E0 (tMA b G L g) σ H Q := by
  refine ⟨Ow, env, qs, E, q1, fun vs H1 s1 r x dx hx hdx hne => ?_⟩
  rw [List.append_nil]
  have s2 : Same H1 (upd (upd H1 dx (.own x)) x (.ins (b.C.cl c) dx [])) := fun a o h => by rw [upd_ne (ne_of_none h hx), upd_ne (ne_of_none h hdx)]; exact h
  have nw : (upd (upd H1 dx (.own x)) x (.ins (b.C.cl c) dx [])) x = some (.ins (b.C.cl c) dx []) := upd_same
  refine ⟨fun a => ArA b Ow L H1 a ∧ a ≠ x, qs, fs, x, dx, vs, rfl, nw, fun z => z.2 rfl, r.ex fun a o h => ⟨fun q => ⟨s2 _ _ h, q, ne_of_none h hx⟩, fun _ => s2 _ _ h⟩, q2, fun H' hH t => ⟨rfl, kk _ H' ?_ ⟨x, rfl, s1.free hx, ?_⟩⟩⟩
  · exact fun a o h => hH a o (ne_of_none (s1 _ _ h) hx) (s2 _ _ (s1 _ _ h))
  · obtain ⟨dx', f, h1, h2⟩ := t
    refine ⟨dx', f, h1, ?_⟩
    have keep : ∀ a o, H1 a = some o → H' a = some o := fun a o h => hH a o (ne_of_none h hx) (s2 _ _ h)
    have old : ∀ a, (upd (upd H1 dx (.own x)) x (.ins (b.C.cl c) dx [])) a = none → H1 a = none := fun a h => s2.free h
    cases L with
    | false => exact h2.ex (ex_weak fun z o _ q => ⟨q.1.elim (fun y => y.1.elim id fun y' => by cases y'.1) fun y => (E.up s1).fresh (old z y), q.2⟩)
    | true =>
      refine h2.nl (fun a o ha z => ?_) (hl rfl)
      rcases z with ⟨(⟨z | ⟨_, us, z⟩, _⟩ | z), nz⟩
      · exact .inl ⟨z, nz⟩
      · have := keep _ _ z
        rw [this] at ha
        exact .inr ⟨us, (Option.some.inj ha).symm⟩
      · exact .inl ⟨(E.up s1).fresh (old a z), nz⟩
theorem se_makeB {c k j : Nat} {x : Str} {ps : List Str} {mi : List PV → Option (List (Str × PV))} (cI : CalI X.prog X.w X.K X.mg X.base (b.C.cl c) k x ps (spI b.C c mi)) (hr : Room j X.A) (ha : SA X b G true (e :: es) g) (hle : k + 1 ≤ j := by decide) (hg : Gl X x := by rfl)
    (hdb : (x == ("__debug__" : Str)) = false := by decide) (he : starEach (e :: es) X.env = (false, eval e X.env) :: starEach es X.env := by rfl) (hpl : (backTo pos (starEach es X.env)).any (·.1) = false := by rfl) :
    SE X b G .own (.Call (.Name x p) (e :: es) [] pos) (bMakeB c mi g) := by
  obtain ⟨f, fd, F, hb, hM, hm⟩ := cI.ex
  refine PE.imp (pe_make hM F (hr.mono hle) hg hm hb .nil pass0 ha hdb he hpl) fun σ H Q ⟨Ow, env, q, E, hf, kk⟩ => ?_
  obtain ⟨qs, q1, hf⟩ := bind_some' hf
  obtain ⟨fs, q2, hf⟩ := bind_some' hf
  split at hf
  · rename_i hl
    cases hf
    exact make_gen E q1 q2 (fun _ => hl) kk
  · cases hf
end
end MR
namespace L2
open PySem PySem.Spec PyProof.Rows
section
variable {X : Cx} {pins : List (Addr × Obj)} {σ : St} {H H' : Hp} {s : Shared} {h' : Heap}
end
section
variable {X : Cx}
end
end L2
namespace MR
open PySem L2
def BX.fixed (b : BX) (j : Nat) (v : V) : BX := { b with fx := fun i => if i = j then some v else b.fx i }
def loopO (j : Nat) (g : PV → Env → Option Env) (ds : List Nat) (body : Env → Option Out) : Nat → Nat → Env → Option Out
  | 0, _, _ => none
  | n + 1, k, env => match bV j env with
    | some (.lst ys) => match ys[k]? with
      | none => some (.nx env)
      | some y => (g y env).bind fun e1 => (body e1).bind fun o => match o with
        | .nx e => loopO j g ds body n (k + 1) (clr ds e)
        | .ct e => loopO j g ds body n (k + 1) (clr ds e)
        | .bk e => some (.nx (clr ds e))
        | .rt p => some (.rt p)
    | _ => none
def sForO (j n : Nat) (g : PV → Env → Option Env) (ds : List Nat) (body : Env → Option Out) (env : Env) : Option Out := loopO j g ds body n 0 (clr ds env)
@[simp] theorem sForO_ap (j n : Nat) (g : PV → Env → Option Env) (ds : List Nat) (body : Env → Option Out) (env : Env) : sForO j n g ds body env = loopO j g ds body n 0 (clr ds env) := id rfl
theorem ps_ex {X : Cx} {α : Type} {st : Stmt} {t : α → TS} (h : ∀ a, PS X st (t a)) : PS X st (fun D σ H => ∃ a, t a D σ H) := fun pins s σ H D I ⟨a, q⟩ => h a pins s σ H D I q
section
variable {X : Cx} {b : BX} {G G' L : List Nat} {ro : Bool} {pos : Pos}
theorem ER.fixd {Ow : Addr → Prop} {σ : St} {env : Env} {H : Hp} {j : Nat} {v : V} (E : ER b Ow G σ env H) (h : σ[j]? = some (some v)) : ER (b.fixed j v) Ow G σ env H :=
  ⟨E.len, E.same, E.live, E.new, E.val, E.own, E.sep, fun i w e => by
    have e' : (if i = j then some v else b.fx i) = some w := e
    by_cases hi : i = j
    · rw [if_pos hi] at e'; cases e'; rw [hi]; exact h
    · rw [if_neg hi] at e'; exact E.fix i w e'⟩
theorem ER.free {Ow Ow' : Addr → Prop} {σ σ' : St} {env env' : Env} {H H' : Hp} {j : Nat} {v : V} (E0 : ER b Ow G σ env H) (h : σ[j]? = some (some v)) (E : ER (b.fixed j v) Ow' G' σ' env' H') : ER b Ow' G' σ' env' H' :=
  ⟨E.len, E.same, E.live, E.new, E.val, E.own, E.sep, fun i w e => by
    by_cases hi : i = j
    · subst hi
      have h1 := E0.fix i w e
      rw [h] at h1
      cases h1
      exact E.fix i v (if_pos rfl)
    · exact E.fix i w ((if_neg hi).trans e)⟩
theorem s_forO (j n : Nat) {x : Str} {xp : Pos} {tg : Expr} {body : List Stmt} {g : PV → Env → Option Env} {f : Env → Option Out} (ds : List Nat) (hg : ∀ a, SG X (b.fixed j (.ref a)) G tg g) (hb : ∀ a, SSs X (b.fixed j (.ref a)) G G G ro body f) (hp : PassesOwn (model X.prog X.w) X.A X.env X.xe)
    (hN : X.N[j]? = some x := by rfl) (hv : Vis X.env.scope x := by first | exact Or.inl rfl | exact Or.inr (Or.inl rfl) | exact Or.inr (Or.inr rfl)) (hj : j ∈ G := by decide) (hd : (x == ("__debug__" : Str)) = false := by decide) (hcd : (x == ("__classdict__" : Str)) = false := by decide)
    (hK : X.K = b.C.K := by rfl) (hc : X.calm = true := by rfl) (hs : ∀ y, foldedSetIterable (.Name x xp) X.env y = pure y := by intro _; rfl) : SS X b G G L ro (.For tg (.Name x xp) body [] pos) (sForO j n g ds f) := by
  refine PS.imp (ps_ex fun a => ps_for hp hc (pi_list (pe_var hN hv hd hcd)) (hg a) (hb a) hs) fun D σ H ⟨Ow, env, out, E, hf, k⟩ => ?_
  have top : ∀ {m i : Nat} {e2 : Env}, loopO j g ds f m i e2 = some out → ∃ m' ys, m = m' + 1 ∧ bV j e2 = some (.lst ys) := fun {m i e2} h => by
    cases m with
    | zero => cases h
    | succ m =>
      unfold loopO at h
      split at h
      · rename_i ys q; exact ⟨m, ys, rfl, q⟩
      · cases h
  obtain ⟨m0, ys0, _, hy0⟩ := top hf
  have E0 : ER b Ow G σ (clr ds env) H := E.clr
  obtain ⟨a, ha, wa, ta⟩ := E0.own j _ (bV_some hy0) hj
  obtain ⟨vs0, h0, r0⟩ := ta
  refine ⟨a, .ref a, ha, a, rfl, ⟨vs0, SqL.of h0⟩, ?_⟩
  refine ⟨fun i m σ2 H2 => ∃ Ow2 env2, ER (b.fixed j (.ref a)) Ow2 G σ2 env2 H2 ∧ Ex (Bs b Ow) H (Bs b Ow2) H2 ∧ loopO j g ds f m i env2 = some out, ⟨n, Ow, clr ds env, E0.fixd ha, Ex.refl _ _, hf⟩, ?_⟩
  rintro i m σ2 H2 ⟨Ow2, env2, E2, x2, l2⟩
  obtain ⟨m', ys, rfl, hy⟩ := top l2
  obtain ⟨a2, ha2, wa2, ta2⟩ := E2.own j _ (bV_some hy) hj
  have hfx : σ2[j]? = some (some (.ref a)) := E2.fix j (.ref a) (if_pos rfl)
  have ea : a2 = a := by rw [ha2] at hfx; cases hfx; rfl
  subst ea
  obtain ⟨vs, hv2, rv⟩ := ta2
  unfold loopO at l2
  rw [hy] at l2
  dsimp only at l2
  cases q : ys[i]? with
  | none =>
    rw [q] at l2
    cases l2
    have hle : ys.length ≤ i := by
      rcases Nat.lt_or_ge i ys.length with h | h
      · rw [List.getElem?_eq_getElem h] at q; cases q
      · exact h
    refine .inl ⟨⟨vs, SqL.of hv2, by rw [rv.length]; exact hle⟩, k Ow2 σ2 H2 (E0.free ha E2) x2⟩
  | some y =>
    rw [q] at l2
    obtain ⟨e1, he1, l2⟩ := bind_some' l2
    obtain ⟨o, ho, l2⟩ := bind_some' l2
    obtain ⟨v, hvi, rvi⟩ := rv.get q
    refine .inr ⟨⟨vs, v, SqL.of hv2, hvi⟩, fun σ' H' => ∃ Ow2 env2, ER (b.fixed j (.ref a2)) Ow2 G σ' env2 H' ∧ Ex (Bs b Ow) H (Bs b Ow2) H' ∧ loopO j g ds f m' (i + 1) env2 = some out, fun σ' H' q' => ⟨m', Nat.lt_succ_self _, q'⟩, fun z H' yl => ?_⟩
    obtain ⟨e', yl⟩ := yl
    subst e'
    have ez := yl vs (SqL.of hv2)
    rw [hvi] at ez
    cases ez
    refine ⟨Ow2, env2, _, e1, E2, rvi, he1, fun σ3 E3 => ⟨Ow2, e1, o, E3, ho, ?_⟩⟩
    cases o with
    | nx e' => exact fun Ow' σ' H'' E' x' => ⟨Ow', _, E'.clr, x2.trans x', l2⟩
    | ct e' => exact fun Ow' σ' H'' E' x' => ⟨Ow', _, E'.clr, x2.trans x', l2⟩
    | bk e' => cases l2; exact fun Ow' σ' H'' E' x' => k Ow' σ' H'' (E0.free ha E'.clr) (x2.trans x')
    | rt p => cases l2; exact k
end
end MR
namespace L2
open PySem PySem.Spec PyProof.Rows
section
variable {X : Cx}
end
end L2
namespace MR
open PySem L2
section
variable {X : Cx} {b : BX} {G G' L : List Nat} {ro : Bool} {pos p : Pos} {m m1 m2 : Md} {e e1 e2 : Expr} {f f1 f2 : Env → Option PV}
end
end MR
namespace MR
open PySem L2
section
variable {X : Cx} {b : BX} {G G' L : List Nat} {ro : Bool} {pos p : Pos} {m m1 m2 : Md} {e e1 e2 : Expr} {f f1 f2 h : Env → Option PV}
end
end MR
namespace L2
open PySem PySem.Spec PyProof.Rows
section
variable {X : Cx}
end
end L2
namespace L2
open PySem PySem.Spec PyProof.Rows
section
variable {prog : Program} {w : World} {A : Around} {E : Value → Shared → Prop} {s : Shared}
end
section
variable {X : Cx} {tg : Expr}
end
end L2
namespace L2
open PySem PySem.Spec PyProof.Rows
section
variable {X : Cx} {tg : Expr}
end
end L2
namespace MR
open PySem L2
section
variable {X : Cx} {b : BX} {G G' L : List Nat} {ro : Bool} {pos p p2 pos2 : Pos} {m m1 m2 : Md} {e e1 e2 : Expr} {f f1 f2 h : Env → Option PV}
end
end MR
namespace MR
theorem lenS {α : Type} {n : Nat} {us : List α} (hl : us.length = n + 1) : ∃ a r, us = a :: r ∧ r.length = n := by
  cases us with
  | nil => cases hl
  | cons a r => exact ⟨a, r, rfl, Nat.succ.inj hl⟩
@[elab_as_elim] theorem len0 {α : Type} {P : List α → Prop} (us : List α) (hl : us.length = 0) (h : P []) : P us := by
  cases us with
  | nil => exact h
  | cons a r => cases hl
@[elab_as_elim] theorem len1 {α : Type} {P : List α → Prop} (us : List α) (hl : us.length = 1) (h : ∀ a, P [a]) : P us := by
  obtain ⟨a, r, rfl, hr⟩ := lenS hl
  exact len0 (P := fun r => P (a :: r)) r hr (h a)
@[elab_as_elim] theorem len2 {α : Type} {P : List α → Prop} (us : List α) (hl : us.length = 2) (h : ∀ a b, P [a, b]) : P us := by
  obtain ⟨a, r, rfl, hr⟩ := lenS hl
  exact len1 (P := fun r => P (a :: r)) r hr (h a)
@[elab_as_elim] theorem len3 {α : Type} {P : List α → Prop} (us : List α) (hl : us.length = 3) (h : ∀ a b c, P [a, b, c]) : P us := by
  obtain ⟨a, r, rfl, hr⟩ := lenS hl
  exact len2 (P := fun r => P (a :: r)) r hr (h a)
end MR
namespace L2
open PySem PySem.Spec PyProof.Rows
section
variable {prog : Program} {w : World} {A : Around} {E : Value → Shared → Prop} {s : Shared}
variable {z TI TO i1 i2 : Addr} {fp1 fp2 : List Addr} {n1 n2 : Nat} {P1 P2 : Nat → Value → Prop} {St1 St2 : Nat → Heap → Prop}
end
inductive SK where | L | T
end L2
namespace L2
open PySem PySem.Spec PyProof.Rows
section
variable {prog : Program} {w : World} {A : Around} {E : Value → Shared → Prop} {s : Shared}
end
section
variable {X : Cx} {pins : List (Addr × Obj)} {σ : St} {H : Hp} {s : Shared}
end
section
variable {X : Cx}
end
end L2
namespace MR
open PySem L2
section
variable {X : Cx} {b : BX} {G G' L : List Nat} {ro : Bool} {pos p : Pos} {m m1 m2 : Md} {e e1 e2 : Expr}
end
end MR
namespace L2
open PySem PySem.Spec PyProof.Rows
section
variable {prog : Program} {w : World} {A : Around} {R : Result → Shared → Prop} {J : Addr} {fp wr : List Addr} {G : Array GenState → Array GenState → Prop} {n : Nat} {P : Nat → Value → Prop} {St : Nat → Shared → Prop}
end
section
variable {prog : Program} {w : World} {A : Around} {E : Value → Shared → Prop} {s : Shared}
end
end L2
namespace L2
open PySem PySem.Spec PyProof.Rows
section
variable {X : Cx}
end
end L2
namespace MR
open PySem L2
section
variable {X : Cx} {b : BX} {G G' L : List Nat} {pos p p2 pos2 : Pos} {m m1 m2 : Md} {e : Expr} {f : Env → Option PV}
end
end MR
namespace L2
open PySem PyProof
section
variable {X : Cx}
end
end L2
namespace MR
open PySem L2
section
variable {X : Cx} {b : BX} {G G' L : List Nat} {pos p p2 pos2 : Pos} {m m1 m2 : Md} {e : Expr} {f : Env → Option PV}
end
end MR
namespace L2
open PySem PySem.Spec PyProof PyProof.Rows
section
variable {X : Cx}
end
end L2
namespace MR
open PySem L2
section
variable {X : Cx} {b : BX} {G G' L : List Nat} {pos p p2 pos2 : Pos} {m m1 m2 : Md} {e : Expr} {f : Env → Option PV}
end
end MR
namespace MR
open PySem L2
section
variable {X : Cx} {b : BX} {G G' L : List Nat} {ro : Bool} {pos p p2 pos2 : Pos} {m m1 m2 : Md} {e : Expr} {f : Env → Option PV}
end
end MR
namespace L2
open PySem PySem.Spec PyProof.Rows
section
variable {prog : Program} {w : World} {A : Around} {E : Value → Shared → Prop} {s : Shared}
end
section
variable {X : Cx} {tg : Expr}
end
end L2
namespace MR
open PySem L2
section
variable {X : Cx} {b : BX} {G G' L : List Nat} {ro : Bool} {pos p p2 pos2 : Pos} {m m1 m2 : Md} {e : Expr} {h : Env → Option PV}
end
end MR
namespace L2
open PySem PySem.Spec PyProof.Rows
section
variable {prog : Program} {w : World} {A : Around} {E : Value → Shared → Prop} {s : Shared}
end
section
variable {X : Cx}
end
end L2
namespace MR
open PySem L2
section
variable {X : Cx} {b : BX} {G G' L : List Nat} {ro : Bool} {pos p : Pos} {m m1 m2 : Md} {e e1 e2 : Expr}
end
end MR
namespace MR
open PySem L2
section
variable {X : Cx} {b : BX} {G : List Nat} {pos : Pos} {m1 m2 m3 : Md} {e1 e2 e3 : Expr} {f1 f2 f3 : Env → Option PV}
end
end MR
namespace HT
open PySem PyProof.Rows
section
open PySem.SeqAt
open PySem.AutoSeq1 (wpAny_loadPart')
open PySem.MeetsSeq PySem.MeetsSeq2 PySem.MeetsSeq3
end
end HT
namespace L2
open PySem PyProof.Rows
section
variable {X : Cx}
end
end L2
namespace MR
open PySem L2
section
variable {X : Cx} {b : BX} {G G' L : List Nat} {pos p p2 pos2 : Pos} {m m1 m2 : Md} {e1 e2 : Expr} {f1 f2 : Env → Option PV}
end
end MR
namespace L2
open PySem PySem.Spec PyProof.Rows
section
variable {X : Cx}
end
end L2
namespace MR
open PySem L2
section
variable {X : Cx} {b : BX} {G G' L : List Nat} {ro : Bool} {pos p : Pos} {m m1 m2 : Md} {e e1 e2 : Expr}
end
end MR
namespace MR
open PySem L2
inductive Inn (C : MC) (A : Addr → Prop) (H : Hp) : List Addr → List (List PV) → Prop
  | nil : Inn C A H [] []
  | cons {c : Addr} {cs : List Addr} {us : List V} {ys : List PV} {yss : List (List PV)} : H c = some (.lst us) → Reps C A H us ys → Inn C A H cs yss → Inn C A H (c :: cs) (ys :: yss)
section
variable {b : BX} {Ow : Addr → Prop} {G : List Nat} {i : Nat} {σ : St} {env : Env} {H H' : Hp} {a : Addr} {cs : List Addr} {yss : List (List PV)}
end
end MR
namespace MR
open PySem L2
section
variable {X : Cx} {b : BX} {G G' L : List Nat} {ro : Bool} {i : Nat} {st : Stmt} {rest : List Stmt} {f g : Env → Option Out} {e e1 e2 : Expr} {h h1 h2 : Env → Option PV} {m m1 m2 : Md} {pos : Pos}
end
end MR
namespace MR
open PySem L2
section
variable {X : Cx} {b : BX} {G G' L : List Nat} {ro : Bool} {i : Nat} {st : Stmt} {rest : List Stmt} {f g : Env → Option Out} {e e1 e2 : Expr} {h h1 h2 : Env → Option PV} {m m1 m2 : Md} {pos : Pos}
end
end MR
namespace MR
open PySem L2
section
variable {X : Cx} {b : BX} {G G' L : List Nat} {ro : Bool} {i : Nat} {st : Stmt} {rest : List Stmt} {f g : Env → Option Out} {e e1 e2 : Expr} {h h1 h2 : Env → Option PV} {m m1 m2 : Md} {pos : Pos}
end
end MR
namespace MR
open PySem L2
section
variable {X : Cx} {b : BX} {G G' L : List Nat} {ro : Bool} {i n : Nat} {st : Stmt} {es : List Expr} {rest : List Stmt} {f g : Env → Option Out} {e e1 e2 : Expr} {h h1 h2 : Env → Option PV} {m m1 m2 : Md} {pos : Pos}
end
end MR
namespace L2
open PySem PySem.Spec PyProof.Rows
section
variable {prog : Program} {w : World} {A : Around} {E : Value → Shared → Prop} {s : Shared}
end
section
variable {X : Cx} {pos : Pos}
end
end L2
namespace MR
open PySem L2
section
variable {X : Cx} {b : BX} {G G' L : List Nat} {pos : Pos}
end
end MR
namespace MR
open PySem L2
section
variable {X : Cx} {b : BX} {G G' L : List Nat} {ro : Bool} {i : Nat} {st : Stmt} {rest : List Stmt} {f g : Env → Option Out} {e e1 e2 : Expr} {h h1 h2 : Env → Option PV} {m m1 m2 : Md} {pos : Pos}
variable {Ow Ow' : Addr → Prop} {σ σ' : St} {env env' : Env} {H H' : Hp} {j : Nat} {a : Addr}
end
end MR
namespace MR
open PySem L2
section
variable {X : Cx} {b : BX} {G G' L : List Nat} {ro : Bool} {i : Nat} {st : Stmt} {rest : List Stmt} {f g : Env → Option Out} {e e1 e2 : Expr} {h h1 h2 : Env → Option PV} {m m1 m2 : Md} {pos : Pos}
end
end MR
namespace L2
open PySem PySem.Spec PyProof.Rows
section
variable {X : Cx}
end
end L2
namespace MR
open PySem L2
section
variable {X : Cx} {b : BX} {G : List Nat} {pos p p2 pos2 : Pos} {m1 m2 : Md} {e1 e2 : Expr} {f1 f2 : Env → Option PV}
end
end MR
namespace MR
open PySem L2
def numT : List (Str × Int) := [("0", 0), ("1", 1), ("2", 2), ("3", 3), ("4", 4), ("5", 5), ("6", 6), ("7", 7), ("8", 8), ("9", 9), ("10", 10), ("11", 11), ("12", 12), ("13", 13)]
def numOf (x : Str) : Option Int := (numT.find? fun z => decide (z.1 = x)).map fun z => z.2
section
variable {X : Cx} {b : BX} {G : List Nat} {p pos : Pos} {m1 : Md} {e : Expr} {f : Env → Option PV}
end
end MR
namespace L2
open PySem PySem.Spec PyProof PyProof.Rows
section
variable {X : Cx}
end
end L2
namespace MR
open PySem L2
section
variable {X : Cx} {b : BX} {G : List Nat} {pos p : Pos} {m1 : Md} {e : Expr} {f : Env → Option PV}
end
end MR
namespace L2
open PySem PySem.Spec PyProof.Rows
abbrev lamB (p1 p2 p3 p4 p5 p6 p7 : Pos) : Expr := .BinOp (.BinOp (.BinOp (.Name "_law_k" p1) .Add (.Constant (.int 1) 0 p2) p3) .Mult (.Name "_law_step" p4) p5) .Mod (.Constant (.int 257) 0 p6) p7
abbrev lamA (ap : Pos) : Arguments := { posonlyargs := [], args := [{ arg := "_law_k", annotation := none, pos := ap }], vararg := none, kwonlyargs := [], kw_defaults := [], kwarg := none, defaults := [] }
abbrev lamS : Scope := { kind := .function, names := [("_law_k", .local), ("_law_step", .free)], isGenerator := false, isCoroutine := false, more := [] }
def lamK (d : Int) (i : Int) : Int := (i + 1) * d % 257
section
variable {prog : Program} {w : World} {A : Around} {E : Value → Shared → Prop} {s : Shared}
theorem lam_eval {env : PySem.Env} {p1 p2 p3 p4 p5 p6 p7 : Pos} {m : Str → Option Value} {c : Addr} {i n : Int} {t u : Tok} {Q : Value → Shared → Prop} (hk : env.scope.kind = .function)
    (h1 : env.kindOf "_law_k" = some .local) (hn : s.heap.Ns env.locals m) (hm : m "_law_k" = some (.int i t)) (h2 : env.kindOf "_law_step" = some .free) (hc : env.cells.lookup ("_law_step" : Str) = some c) (hcell : s.heap.IsCell c (some (.int n u)))
    (hi : -(2 ^ 63) < i ∧ i < 2 ^ 63) (hq : ∀ t tk, Q (.int (lamK n i) t) { s with toks := tk }) :
    wpAny (model prog w) A (eval (lamB p1 p2 p3 p4 p5 p6 p7) env) Q E s := by
  refine wpAny_BinOp ?_
  refine wpAny_BinOp ?_
  refine wpAny_BinOp ?_
  refine wpAny_Name (wpAny_loadName_local hk h1 hn hm ?_) (by decide)
  refine wpAny_Constant_int ?_
  refine add_int ?_
  refine wpAny_Name (wpAny_loadName_free hk h2 hc hcell ?_ (by decide)) (by decide)
  refine mul_int ?_ (.of_left (intBits_le_64 (by omega) (by omega)))
  refine wpAny_Constant_int ?_
  refine mod_int' (by omega) ?_
  rw [Int.fmod_eq_emod_of_nonneg _ (by omega)]
  exact hq _ _
theorem lam_call {name : Str} {p1 p2 p3 p4 p5 p6 p7 ap : Pos} {f c c' : Addr} {pm ctv : Value} {i n : Int} {t u : Tok} {Q : Value → Shared → Prop}
    (hf : s.heap.get? f = some (PySem.W.kla_obj name tabQ (lamA ap) (lamB p1 p2 p3 p4 p5 p6 p7) lamS [("_law_step", c)] pm c' ctv))
    (hcd : s.heap.CodeRec (.ref c') tabQ) (hcell : s.heap.IsCell c (some (.int n u))) (hlim : s.heap.NoLimit) (hroom : A.depth < recursionLimit)
    (hi : -(2 ^ 63) < i ∧ i < 2 ^ 63) (hq : ∀ h' t tk, (∀ b o, s.heap.get? b = some o → h'.get? b = some o) → Q (.int (lamK n i) t) { s with heap := h', toks := tk }) :
    wpAny (model prog w) A (call (.ref f) [.int i t]) Q E s := by
  refine wpAny_call ?_
  refine PySem.W.kla_callFunE (body := lamB p1 p2 p3 p4 p5 p6 p7) hroom hf rfl rfl rfl rfl hcd ?_
  have hb : bindArgs (PySem.W.kla_fn name tabQ (lamA ap) (lamB p1 p2 p3 p4 p5 p6 p7) lamS [("_law_step", c)] pm (.ref c') ctv) ⟨[.int i t], []⟩ = (pure [(("_law_k" : Str), Value.int i t)] : Sem (List (Str × Value))) := rfl
  rw [hb]
  refine wpAny_pure (wpAny_newFunctionEnv (fun x hx => ?_) (fun x hx => ?_) (fun h₁ hns hsb => ⟨?_, ?_⟩) rfl)
  · have hx' : x ∈ [(("_law_k" : Str), NameKind.local), ("_law_step", .free)] := hx
    simp only [List.mem_cons, List.not_mem_nil, or_false] at hx'
    rcases hx' with rfl | rfl <;> simp
  · rw [List.mem_singleton.mp hx]; rfl
  · exact hlim.fresh _ hsb
  · have hk₁ : ∀ b o, s.heap.get? b = some o → h₁.get? b = some o := fun b o e => hsb.extBut b o (Nat.ne_of_lt (Heap.lt_size e)) (Heap.get?_push_of_some _ e)
    obtain ⟨o, ho, hd⟩ := hcell
    exact PySem.W.kla_codeExpr (lam_eval (c := c) (u := u) (m := fun x => ([(("_law_k" : Str), Value.int i t)] : List (Str × Value)).reverse.lookup x) rfl rfl hns rfl rfl rfl ⟨o, hk₁ _ _ ho, hd⟩ hi fun t tk => hq h₁ t tk hk₁)
end
theorem collect_rng {prog : Program} {w : World} {A : Around} {E : Value → Shared → Prop} {s : Shared} {r : Addr} {a b c : Int} {t u v : Tok} {n : Nat} {Q : List Value → Shared → Prop} (hh : A.handled = none) (hr : IsRange s.heap r a b c t u v) (hsmall : Builtin.Range.small a b c = true)
    (hn : Builtin.Range.rangeSize a b c = n) (hlen : n ≤ 2 ^ 24)
    (hQ : ∀ h' tk xs, (∀ b o, s.heap.get? b = some o → h'.get? b = some o) → s.heap.objs.size ≤ h'.objs.size → ItemsOf (fun i v => ∃ t, v = .int (a + i * c) t) xs n → Q xs.toList { s with heap := h', toks := tk }) :
    wpAny (model prog w) A (collect (.ref r)) Q E s := by
  unfold collect
  refine wpAny_bind (wpAny_runValue (codeAny_builtin entry_proto_collect' ?_))
  show wpAny _ _ (do again (.builtin "list.__iadd__" ⟨[← newList [], .ref r], []⟩)) _ _ s
  refine wpAny_bind (wpAny_newList (wpAny_pure ⟨Code.quiet_builtin _ (by decide +kernel), codeAny_builtin entry_list_iadd' ?_⟩))
  show wpAny _ A.in1 (Builtin.List.listExtendWith (.ref s.heap.objs.size) (.ref r) (.ref s.heap.objs.size)) _ _ { s with heap := s.heap.push (seqObj "list" #[] 0) }
  refine wpAny_mono (wpAny_extend_range (A := A) (s := { s with heap := s.heap.push (seqObj "list" #[] 0) }) (R := fun res s' => ∃ h' tk xs c', res = .ok (.ret (.ref s.heap.objs.size)) ∧ s' = { s with heap := h', toks := tk } ∧ (∀ b o, s.heap.get? b = some o → h'.get? b = some o) ∧
    h'.get? s.heap.objs.size = some { cls := .type "list", dict := none, data := .seq xs c', slots := #[] } ∧ ItemsOf (fun i v => ∃ t, v = .int (a + i * c) t) xs n) hh (Heap.get?_push_of_some _ hr) hsmall hn hlen s.heap.objs.size (.ref s.heap.objs.size) 0 (Heap.get?_push_size _ rfl)
    fun h' tk acc' c' hk hS hacc => ⟨h', tk, acc', c', rfl, rfl, fun b o e => hk b o (Nat.ne_of_lt (Heap.lt_size e)) (Heap.get?_push_of_some _ e), hS, hacc⟩) (fun fin s' h => ?_) (fun e s' h => ?_)
  · have fin' : ∀ (res : Result) (s' : Shared), (∃ h' tk xs c', res = .ok (.ret (.ref s.heap.objs.size)) ∧ s' = { s with heap := h', toks := tk } ∧ (∀ b o, s.heap.get? b = some o → h'.get? b = some o) ∧
        h'.get? s.heap.objs.size = some { cls := .type "list", dict := none, data := .seq xs c', slots := #[] } ∧ ItemsOf (fun i v => ∃ t, v = .int (a + i * c) t) xs n) →
        (match res with
          | .ok (.ret v) => wpAny (model prog w) A (match v with
            | .ref a => do
              match (← load a).data with
              | .seq xs _ => pure xs.toList
              | _ => unsupported "internal:collect"
            | _ => unsupported "internal:collect") Q E s'
          | .ok _ => False
          | .error e => E e s') := by
      rintro _ _ ⟨h', tk, xs, c', rfl, rfl, hk, hS, hacc⟩
      refine wpAny_bind (wpAny_load hS ?_)
      exact wpAny_pure (hQ h' tk xs hk (Nat.le_of_lt (Heap.lt_size hS)) hacc)
    cases fin with
    | done f => exact fin' _ _ h
    | again c' => exact ⟨h.1, codeAny_mono h.2 fun r s' z => fin' r s' z⟩
  · obtain ⟨_, _, _, _, z, _⟩ := h
    cases z
end L2
namespace L2
open PySem PySem.Spec PyProof.Rows
section
variable {X : Cx} {pins : List (Addr × Obj)} {σ : St} {H : Hp} {s : Shared}
theorem cr_push {h : Heap} {c : Addr} {q : Str} {o : Obj} (x : h.CodeRec (.ref c) q) : (h.push o).CodeRec (.ref c) q := x.push o
theorem lam_made {M : Model} {A : Around} {E : Value → Shared → Prop} {c tc : Addr} {ap p1 p2 p3 p4 p5 p6 p7 : Pos} {Q : Value → Shared → Prop} (I : Inv X pins σ H s) (hcl : closureFor lamS X.env = (pure [(("_law_step" : Str), c)] : Sem (List (Str × Addr)))) (hcode : X.env.code = .ref tc) (hCd : PySem.W.codeHdIn X.K tc tabP = true)
    (hqual : X.env.qual ++ "<lambda>" = tabQ)
    (hQ : ∀ f c' pm ctv H2 s', Inv X pins σ H2 s' → Same H H2 → s'.heap.get? f = some (PySem.W.kla_obj "<lambda>" tabQ (lamA ap) (lamB p1 p2 p3 p4 p5 p6 p7) lamS [("_law_step", c)] pm c' ctv) → s'.heap.CodeRec (.ref c') tabQ →
      (∀ b o, b ≠ tabP → s.heap.get? b = some o → s'.heap.get? b = some o) → Q (.ref f) s') :
    wpAny M A (eval (.Lambda (lamA ap) (lamB p1 p2 p3 p4 p5 p6 p7) lamS tabPos) X.env) Q E s := by
  refine PySem.W.kla_eval rfl ?_
  rw [hqual]
  obtain ⟨ps, hP, ht, hor⟩ := (show ObjOk X.prog X.w X.K H s.heap tabP .tab from I.hok tabP _ I.hok.t)
  have hg : s.heap.Ns mainGlobals X.mg := I.mod.glob.keeps I.bk
  have C := PySem.W.codeHd_of_K I.kIn hCd
  obtain ⟨bm, ob, b1, b2, b3, b4, b5, b6⟩ := I.mod.bat
  have hb : s.heap.BuiltinsAt X.mg tabP := ⟨bm, ob, b1, b2, b3, b4, I.bk _ _ b5, b6⟩
  have hgP : mainGlobals ≠ tabP := by decide
  rcases hor with hnf | ⟨c', hf, ho, hr⟩
  · refine PySem.W.kla_makeFunction hcl I.ok.glob hg hcode C hP ht hnf hgP hb fun c' ctv h' tk hx hge hlt hrec htb => ?_
    have fresh : H c' = none := I.hok.fresh hge
    have ntab : ∀ b u, H b = some u → u ≠ .tab → b ≠ tabP := fun b u e n z => by rw [z, I.hok.t] at e; cases e; exact n rfl
    have nn : ∀ b, H b = none → b ≠ tabP := fun b e z => by rw [z, I.hok.t] at e; cases e
    have nc : ∀ b o, s.heap.get? b = some o → b ≠ c' := fun b o e => Nat.ne_of_lt (Nat.lt_of_lt_of_le (Heap.lt_size e) hge)
    have k1 : ∀ b o, b ≠ tabP → s.heap.get? b = some o → (h'.push (PySem.W.kla_obj "<lambda>" tabQ (lamA ap) (lamB p1 p2 p3 p4 p5 p6 p7) lamS [("_law_step", c)] ((X.mg "__name__").getD .none) c' ctv)).get? b = some o :=
      fun b o n e => Heap.get?_push_of_some _ (hx b o n e)
    have htb' := Heap.get?_push_of_some (PySem.W.kla_obj "<lambda>" tabQ (lamA ap) (lamB p1 p2 p3 p4 p5 p6 p7) lamS [("_law_step", c)] ((X.mg "__name__").getD .none) c' ctv) htb
    have hrec' := cr_push (o := PySem.W.kla_obj "<lambda>" tabQ (lamA ap) (lamB p1 p2 p3 p4 p5 p6 p7) lamS [("_law_step", c)] ((X.mg "__name__").getD .none) c' ctv) hrec
    refine hQ h'.objs.size c' _ ctv (upd H c' (.own tabP)) _ (I.step (g' := s.gens) (d' := s.drawn) (ch := []) (fun _ z => nomatch z) (fun b o _ _ _ e n => k1 b o (nn b n) e) (fun b o _ _ _ e n => ⟨o.slots, k1 b o (nn b n) e⟩)
      (fun b o _ e n => by rw [upd_ne (nc b o e)]; exact n) (fun b o _ e => ?_) (fun b xs e => by rw [upd_ne (ne_of_none e fresh)]; exact e) (fun b o u e => by rw [upd_ne (ne_of_none e fresh)]; exact e)
      (fun b ps e => ⟨#[], by rw [upd_ne (ne_of_none e fresh), e]; simp⟩) (fun m hm => ?_) ⟨fun b u e => ?_, by rw [upd_ne (ne_of_none I.hok.t fresh)]; exact I.hok.t⟩ I.bare)
      (fun b o e => by rw [upd_ne (ne_of_none e fresh)]; exact e) (Heap.get?_push_size _ rfl) hrec' k1
    · by_cases hb : b = tabP
      · rw [hb]; exact ⟨_, htb'⟩
      · exact ⟨o, k1 b o hb e⟩
    · obtain ⟨o, es, ep, ho, r⟩ := hm
      exact ⟨o, es, ep, k1 _ _ (nn _ I.free) ho, r⟩
    · by_cases hb : b = c'
      · rw [hb, upd_same] at e
        cases e
        obtain ⟨c2, oc, vs, t, q, e3, _⟩ := hrec'
        cases q
        rw [hb]
        exact ⟨oc, e3⟩
      · rw [upd_ne hb] at e
        by_cases hb2 : b = tabP
        · subst hb2
          rw [I.hok.t] at e
          cases e
          refine ⟨_, htb', ?_, .inr ⟨c', ?_, upd_same, hrec'⟩⟩
          · have := TriplesOk_snoc tabPos.line tabPos.col (.ref c') ps.toList ht
            simpa using this
          · have := codeAmong_snoc (pos := tabPos) (c := .ref c') ps.toList ht hnf
            simpa using this
        · refine (I.hok b u e).stay (fun a v ha q => k1 a v ?_ q) (fun a q => by rw [upd_ne (ne_of_none q fresh)]; exact q) fun a xs q => by rw [upd_ne (ne_of_none q fresh)]; exact q
          rcases ha with rfl | ha
          · exact hb2
          · exact ntab a _ ha (by simp)
  · refine PySem.W.kla_makeFunctionHit hcl I.ok.glob hg hcode C hP ht hf hb fun ctv h' tk hk hsz => ?_
    have k1 : ∀ b o, s.heap.get? b = some o → (h'.push { cls := .type "function", data := .func (PySem.W.kla_fn "<lambda>" tabQ (lamA ap) (lamB p1 p2 p3 p4 p5 p6 p7) lamS [("_law_step", c)] ((X.mg "__name__").getD .none) (.ref c') ctv) }).get? b = some o :=
      fun b o e => Heap.get?_push_of_some _ (hk b o e)
    exact hQ h'.objs.size c' _ ctv H _ (I.kept k1) (fun _ _ e => e) (Heap.get?_push_size _ rfl) (hr.keeps k1) fun b o _ e => k1 b o e
end
theorem sorted_rng {prog : Program} {w : World} {A : Around} {E : Value → Shared → Prop} {s : Shared} {g : Heap} {L r f c c' : Addr} {m : Str → Option Value} {t u v t2 : Tok} {n : Nat} {d : Int} {pm ctv : Value} {ap p1 p2 p3 p4 p5 p6 p7 : Pos} {Q : Value → Shared → Prop} (hh : A.handled = none)
    (F : Fr g L s.heap m) (hlim : g.NoLimit) (hr : IsRange s.heap r 0 (n : Int) 1 t u v) (h64 : n < 64)
    (hf : s.heap.get? f = some (PySem.W.kla_obj "<lambda>" tabQ (lamA ap) (lamB p1 p2 p3 p4 p5 p6 p7) lamS [("_law_step", c)] pm c' ctv))
    (hcd : s.heap.CodeRec (.ref c') tabQ) (hcell : s.heap.IsCell c (some (.int d t2))) (hroom : A.depth < recursionLimit) (hcL : c' ≠ L)
    (hQ : ∀ D h' tk out e, s.heap.objs.size ≤ D → h'.Ns L m → (∀ b o, b ≠ L → s.heap.get? b = some o → h'.get? b = some o) → h'.get? D = some (seqObj "list" out e) →
      (∃ vs : List Value, vs.length = n ∧ (∀ (i : Nat) (v : Value), vs[i]? = some v → ∃ t, v = Value.int (i : Nat) t) ∧ KskOut false ((List.range n).map fun i : Nat => lamK d i) vs out.toList) → Q (.ref D) { s with heap := h', toks := tk }) :
    wpAny (model prog w) A (call (.builtin "sorted") [.ref r] [(Str.ofString "key", .ref f)]) Q E s := by
  refine call_function_entry_kw kind_sorted plain_sorted entry_sorted (ksk_s1 _ _) ?_
  unfold Builtin.«sorted»
  refine wpAny_bind (m := checkCount "sorted" 1 1 _) (wpAny_pure ?_)
  refine wpAny_bind (collect_rng (n := n) hh hr (small_one (by omega) (by omega) (by omega) (by omega)) (by rw [rangeSize_one]; split <;> omega) (by omega) fun h1 tk1 xs k1 sz1 it => ?_)
  obtain ⟨i1, i2⟩ := it
  have hxl : xs.toList.length = n := by simpa using i1
  refine wpAny_bind (wpAny_newList ?_ (by rw [hxl, sizeLine_eq]; omega))
  have k2 : ∀ b o, s.heap.get? b = some o → (h1.push (seqObj "list" xs.toList.toArray 0)).get? b = some o := fun b o e => Heap.get?_push_of_some _ (k1 b o e)
  have hD : (h1.push (seqObj "list" xs.toList.toArray 0)).get? h1.objs.size = some (seqObj "list" xs.toList.toArray 0) := Heap.get?_push_size _ rfl
  have hLs : L < s.heap.objs.size := F.ns.lt
  have hDL : h1.objs.size ≠ L := Nat.ne_of_gt (Nat.lt_of_lt_of_le hLs sz1)
  have hDg : g.get? h1.objs.size = none := Heap.get?_none_of_le (Nat.le_trans F.above (Nat.le_of_lt (Nat.lt_of_lt_of_le hLs sz1)))
  have F2 : Fr g L (h1.push (seqObj "list" xs.toList.toArray 0)) m := F.kept k2
  have N2 : News g L (h1.push (seqObj "list" xs.toList.toArray 0)) (rest g (h1.push (seqObj "list" xs.toList.toArray 0)) L h1.objs.size) := fun p hp => news_all p (List.mem_filter.mp hp).1
  have hfL : f ≠ L := fun z => by
    obtain ⟨o, es, ep, e, hd, _⟩ := F.ns
    rw [← z, hf] at e; cases e; cases hd
  have hceL : c ≠ L := fun z => by
    obtain ⟨o, es, ep, e, hd, _⟩ := F.ns
    obtain ⟨o', e', hd'⟩ := hcell
    rw [← z, e'] at e; cases e; rw [hd] at hd'; cases hd'
  have lt1 : ∀ b o, s.heap.get? b = some o → b ≠ h1.objs.size := fun b o e => Nat.ne_of_lt (Nat.lt_of_lt_of_le (Heap.lt_size e) sz1)
  refine wpAny_bind (wpAny_holding (wpAny_call_entry_kw slot_list_sort ⟨_, hD, rfl⟩ entry_list_sort ?body (ksk_l1 _ _)))
  case body =>
    show wpAny (model prog w) A.in1.in1 (Builtin.«list.sort» ⟨[.ref h1.objs.size], [(Str.ofString "key", .ref f)]⟩) _ _ _
    rw [ksk_t1]
    refine ksk_sort (s := { s with heap := h1.push (seqObj "list" xs.toList.toArray 0), toks := tk1 }) (h₀ := g) (L := L) (m := m) (news := rest g (h1.push (seqObj "list" xs.toList.toArray 0)) L h1.objs.size) (kz := (List.range n).map fun i : Nat => lamK d i)
      F2 N2 hD hDL hDg rest_ne (by simp [hxl]) (by rw [hxl]; exact h64) (fun i v k hv hk h tk own F' N' => ?_) fun h' tk out e F' N' k' => ⟨_, rfl, ?_⟩
    · have kp : ∀ b o, b ≠ L → b ≠ h1.objs.size → s.heap.get? b = some o → h.get? b = some o := fun b o n1 n2 e => kept_of_news (fun b o e => k2 b o (F.keep b o e)) F' (fun p hp => N' p (List.mem_append_left _ hp)) b o n1 n2 (k2 b o e)
      obtain ⟨t', rfl⟩ := i2 i v (by simpa using hv)
      have hil : i < n := by
        have := (List.getElem?_eq_some_iff.mp hv).1
        omega
      have hk' : k = lamK d (i : Nat) := by
        have e : ((List.range n).map fun i : Nat => lamK d i)[i]? = some (lamK d (i : Nat)) := by simp [hil]
        rw [e] at hk
        exact (Option.some.inj hk).symm
      have e0 : (0 + (i : Int) * 1) = (i : Int) := by omega
      rw [e0, hk']
      obtain ⟨oc, eoc, hdc⟩ := hcell
      obtain ⟨c2, o2, vs2, tt2, q2, e2, r2⟩ := hcd
      cases q2
      refine lam_call (c := c) (c' := c') (u := t2) (kp _ _ hfL (lt1 _ _ hf) hf) ⟨c', o2, vs2, tt2, rfl, kp _ _ hcL (lt1 _ _ e2) e2, r2⟩ ⟨oc, kp _ _ hceL (lt1 _ _ eoc) eoc, hdc⟩ (hlim.keeps F'.keep) ?_ ⟨by omega, by omega⟩ fun h3 t3 tk3 k3 => ?_
      · exact hroom
      · exact KskEnd.intro (F'.kept k3) (N'.grown k3) fun p hp => hp
    · refine wpAny_pure ⟨_, rfl, hQ h1.objs.size h' tk out e sz1 F'.ns (fun b o n1 eb => ?_) (N' _ (List.mem_cons_self ..)).1 ⟨xs.toList, hxl, fun i v hv => ?_, k'⟩⟩
      · exact kept_of_news (fun b o e => k2 b o (F.keep b o e)) F' (fun p hp => N' p (List.mem_cons_of_mem _ hp)) b o n1 (lt1 _ _ eb) (k2 b o eb)
      · obtain ⟨t, e⟩ := i2 i v (by simpa using hv)
        exact ⟨t, by rw [e]; congr 1; omega⟩
end L2
namespace L2
open PySem PySem.Spec PyProof.Rows
def rgZ (n : Nat) : List Int := (List.range n).map fun i : Nat => (i : Int)
def srtL (n : Nat) (d : Int) : List Int := (rgZ n).mergeSort fun a b => decide (lamK d a ≤ lamK d b)
def dstB (n : Nat) (d : Int) : Bool := decide ((rgZ n).map (lamK d)).Nodup
theorem srt_perm (n : Nat) (d : Int) : (srtL n d).Perm (rgZ n) := List.mergeSort_perm _ _
theorem srt_pw (n : Nat) (d : Int) : (srtL n d).Pairwise fun a b => lamK d a ≤ lamK d b :=
  (List.pairwise_mergeSort (le := fun a b => decide (lamK d a ≤ lamK d b)) (fun a b c h1 h2 => by simp at *; omega) (fun a b => by simp; omega) (rgZ n)).imp fun h => by simpa using h
theorem inj_of {α β : Type} {f : α → β} : ∀ {l : List α}, (l.map f).Nodup → ∀ a ∈ l, ∀ b ∈ l, f a = f b → a = b
  | x :: l, h, a, ha, b, hb, e => by
    rw [List.map_cons, List.nodup_cons] at h
    rcases List.mem_cons.mp ha with h1 | h1
    · rcases List.mem_cons.mp hb with h2 | h2
      · rw [h1, h2]
      · exact absurd (List.mem_map.mpr ⟨b, h2, by rw [← e, h1]⟩) h.1
    · rcases List.mem_cons.mp hb with h2 | h2
      · exact absurd (List.mem_map.mpr ⟨a, h1, by rw [e, h2]⟩) h.1
      · exact inj_of h.2 a h1 b h2 e
theorem vals_snd {φ : Int × Value → Int} : ∀ {ps : List (Int × Value)}, (∀ p ∈ ps, ∃ t, p.2 = .int (φ p) t) → Vals ((ps.map φ).map V.int) (ps.map Prod.snd)
  | [], _ => .nil
  | p :: ps, h => .cons (by obtain ⟨t, e⟩ := h p List.mem_cons_self; exact ⟨t, e⟩) (vals_snd fun q hq => h q (List.mem_cons_of_mem _ hq))
theorem ksk_uniq {n : Nat} {d : Int} {vs out : List Value} (hl : vs.length = n) (hv : ∀ (i : Nat) (v : Value), vs[i]? = some v → ∃ t, v = Value.int (i : Nat) t) (hd : dstB n d = true) (k : KskOut false ((List.range n).map fun i : Nat => lamK d i) vs out) : Vals ((srtL n d).map V.int) out := by
  obtain ⟨ps, hp, rfl, hs⟩ := k
  have hmem : ∀ p ∈ ps, ∃ i : Nat, i < n ∧ p.1 = lamK d i ∧ ∃ t, p.2 = .int (i : Nat) t := fun p h => by
    obtain ⟨i, hi, e⟩ := List.mem_iff_getElem.mp (hp.mem_iff.mp h)
    have hi' : i < n := by
      rw [List.length_zip] at hi
      simp at hi; omega
    obtain ⟨t, et⟩ := hv i (vs[i]'(by omega)) (by simp [hl, hi'])
    refine ⟨i, hi', ?_, t, ?_⟩
    · rw [← e]; simp
    · rw [← e, ← et]; simp
  have hφ : ∀ p ∈ ps, ∃ t, p.2 = .int (numOf p.2) t := fun p h => by
    obtain ⟨i, _, _, t, e⟩ := hmem p h
    exact ⟨t, by rw [e]; rfl⟩
  have hφ1 : ∀ p ∈ ps, p.1 = lamK d (numOf p.2) := fun p h => by
    obtain ⟨i, _, e1, t, e⟩ := hmem p h
    rw [e1, e]; rfl
  have e0 : (((List.range n).map fun i : Nat => lamK d i).zip vs).map (fun p => numOf p.2) = rgZ n := by
    apply List.ext_getElem
    · unfold rgZ; simp [hl]
    · intro i h1 h2
      have hi : i < n := by unfold rgZ at h2; simpa using h2
      obtain ⟨t, et⟩ := hv i (vs[i]'(by omega)) (by simp [hl, hi])
      rw [List.getElem_map, List.getElem_zip]
      show numOf vs[i] = _
      rw [et]
      show (i : Int) = _
      symm
      rw [List.getElem_eq_iff]
      unfold rgZ
      simp [hi]
  have perm : (ps.map fun p => numOf p.2).Perm (rgZ n) := by rw [← e0]; exact hp.map _
  have pw : (ps.map fun p => numOf p.2).Pairwise fun a b => lamK d a ≤ lamK d b := by
    rw [List.pairwise_map]
    exact hs.imp_of_mem fun {a b} ha hb h => by
      have h' : a.1 ≤ b.1 := h
      rw [hφ1 a ha, hφ1 b hb] at h'
      exact h'
  have eq : (ps.map fun p => numOf p.2) = srtL n d := by
    have inj := inj_of (of_decide_eq_true hd)
    refine List.Perm.eq_of_pairwise (le := fun a b => lamK d a ≤ lamK d b) (fun a b ha hb h1 h2 => ?_) pw (srt_pw n d) (perm.trans (srt_perm n d).symm)
    exact inj a (perm.mem_iff.mp ha) b ((srt_perm n d).mem_iff.mp hb) (Int.le_antisymm h1 h2)
  rw [← eq]
  exact vals_snd (φ := fun p => numOf p.2) hφ
section
variable {X : Cx}
def tSortK (ta : TA) (i : Nat) : TE := fun σ H Q => ta σ H fun vs H1 => ∃ (n : Nat) (d : Int), vs = [.int (n : Nat)] ∧ n < 64 ∧ σ[i]? = some (some (.int d)) ∧ dstB n d = true ∧ ∀ H2 l, Same H1 H2 → H2 l = none → Q (.ref l) (upd H2 l (.lst ((srtL n d).map V.int)))
theorem pe_sortK {a : Expr} {ta : TA} {i k : Nat} {tc : Addr} {p p2 pos pos2 kp ap p1 q2 p3 p4 p5 p6 p7 : Pos} (hr : Room k X.A) (hCd : PySem.W.codeHdIn X.K tc tabP = true) (hcode : X.env.code = .ref tc) (hg : Gl X "sorted") (hm : X.mg "sorted" = none) (hg2 : Gl X "range") (hm2 : X.mg "range" = none) (hc : X.calm = true)
    (hN : X.N[i]? = some "_law_step") (hk : X.env.kindOf "_law_step" = some .cell) (hcl : ∀ c, X.env.cells.lookup ("_law_step" : Str) = some c → closureFor lamS X.env = (pure [(("_law_step" : Str), c)] : Sem (List (Str × Addr)))) (hqual : X.env.qual ++ "<lambda>" = tabQ) (ha : PA X [a] ta) (hs : starEach [a] X.env = [(false, eval a X.env)] := by rfl)
    (hs2 : starEach [.Call (.Name "range" p2) [a] [] pos2] X.env = (false, eval (.Call (.Name "range" p2) [a] [] pos2) X.env) :: starEach [] X.env := by rfl) (hs3 : starEach ([] : List Expr) X.env = [] := by rfl) :
    PE X (.Call (.Name "sorted" p) [.Call (.Name "range" p2) [a] [] pos2] [⟨some "key", .Lambda (lamA ap) (lamB p1 q2 p3 p4 p5 p6 p7) lamS tabPos, kp⟩] pos) (tSortK ta i) := by
  intro pins s σ H Q I h
  refine wpAny_Call_Name_kw (ld_blt I hg hm PyProof.Rows.boot_sorted ?_ (by decide) (by decide))
  refine callWith_kw (e := .Call (.Name "range" p2) [a] [] pos2) (rest := []) ?_ (by rw [hs2]; rfl) (by rw [hs2, hs3]; rfl) rfl rfl
  rw [hs2]
  show wpAny _ _ (spliced ((false, eval (.Call (.Name "range" p2) [a] [] pos2) X.env) :: backTo pos (starEach [] X.env))) _ _ s
  refine Calls.spliced_cons ?_
  refine Call_ (ld_blt I hg2 hm2 PyProof.Rows.boot_range (PyProof.Rows.callWith_type1 (thn (ha pos2 pins s σ H _ I h) fun us s1 ⟨vs, H1, I1, r1, q1⟩ => ?_) hs rfl))
  obtain ⟨n, d, e, hn, hσ, hd, q⟩ := q1
  subst e
  cases r1 with
  | cons r rr =>
    cases rr
    obtain ⟨t, rfl⟩ := r
    refine call_range_1 ?_
    rw [hs3]
    refine Calls.spliced_nil ?_
    refine kws_cons ?_
    obtain ⟨m, hns, hl⟩ := id I1.loc
    obtain ⟨u, ru, lk⟩ := hl i "_law_step" (.int d) hN hσ (.inr (.inl hk))
    obtain ⟨t2, rfl⟩ := ru
    obtain ⟨c, hcl1, hcell⟩ : ∃ c, X.env.cells.lookup ("_law_step" : Str) = some c ∧ s1.heap.IsCell c (some (.int d t2)) := by
      rcases lk with ⟨z, _⟩ | ⟨_, c, z1, z2⟩
      · rw [hk] at z; cases z
      · exact ⟨c, z1, z2⟩
    have I2 : Inv X pins σ H1 { s1 with heap := s1.heap.push { cls := .type "range", data := .fields #[.int 0 s1.toks, .int (n : Nat) t, .int 1 (s1.toks + 1)] }, toks := s1.toks + 2 } := I1.kept fun b o e => Heap.get?_push_of_some _ e
    refine lam_made I2 (hcl c hcl1) hcode hCd hqual fun f c' pm ctv H3 s3 I3 sm hf hcd kp => ?_
    refine kws_nil ?_
    have nt : ∀ b, H1 b = none → b ≠ tabP := fun b e z => by rw [z, I1.hok.t] at e; cases e
    have hcn : c ≠ tabP := nt c (I1.freeC _ _ hcl1)
    have hrn : s1.heap.objs.size ≠ tabP := nt _ (I1.hok.fresh (Nat.le_refl _))
    obtain ⟨m3, F3⟩ := I3.fr
    have hcell3 : s3.heap.IsCell c (some (.int d t2)) := by
      obtain ⟨o, e1, e2⟩ := hcell
      exact ⟨o, kp c o hcn (Heap.get?_push_of_some _ e1), e2⟩
    have hr3 : IsRange s3.heap s1.heap.objs.size 0 (n : Nat) 1 s1.toks t (s1.toks + 1) := kp _ _ hrn (Heap.get?_push_size _ rfl)
    have hcL : c' ≠ X.env.locals := fun z => by
      obtain ⟨o, es, ep, e, hd, _⟩ := F3.ns
      obtain ⟨c2, o2, vs2, tt2, q2, e2, hd2, _⟩ := hcd
      cases q2
      rw [← z, e2] at e; cases e; rw [hd] at hd2; cases hd2
    refine sorted_rng (g := X.base) (L := X.env.locals) (m := m3) (n := n) (d := d) (c := c) (c' := c') (t2 := t2) (I3.ok.hd hc) F3 I3.ok.mod.nolimit hr3 hn hf hcd hcell3 hr.depth hcL fun D h' tk out e hD hns' kp' hlist ⟨vs, hvl, hv, ko⟩ => ?_
    have hval : Vals ((srtL n d).map V.int) out.toList := ksk_uniq hvl hv hd ko
    have fr : H3 D = none := I3.hok.fresh hD
    have nD : ∀ b o, s3.heap.get? b = some o → b ≠ D := fun b o e => Nat.ne_of_lt (Nat.lt_of_lt_of_le (Heap.lt_size e) hD)
    have hLt : ∀ b u, H3 b = some u → b ≠ X.env.locals := fun b u e z => by rw [z, I3.free] at e; cases e
    refine ⟨.ref D, upd H3 D (.lst ((srtL n d).map V.int)), I3.step (g' := s3.gens) (d' := s3.drawn) (ch := []) (fun _ z => nomatch z) (fun b o nL _ _ e _ => kp' b o nL e) (fun b o nL _ _ e _ => ⟨o.slots, kp' b o nL e⟩)
      (fun b o _ e z => by rw [upd_ne (nD b o e)]; exact z) (fun b o _ e => ?_) (fun b xs z => by rw [upd_ne (ne_of_none z fr)]; exact z) (fun b o u z => by rw [upd_ne (ne_of_none z fr)]; exact z)
      (fun b ps z => ⟨#[], by rw [upd_ne (ne_of_none z fr), z]; simp⟩) (fun m' hm' => ?_) ⟨fun b u z => ?_, by rw [upd_ne (ne_of_none I3.hok.t fr)]; exact I3.hok.t⟩ I3.bare, rfl, q H3 D sm fr⟩
    · by_cases hb : b = X.env.locals
      · obtain ⟨o', es, ep, e', _⟩ := hns'
        rw [hb]
        exact ⟨o', e'⟩
      · exact ⟨o, kp' b o hb e⟩
    · have e1 : m' = m3 := hm'.eq_nsMap.trans F3.ns.eq_nsMap.symm
      rw [e1]
      exact hns'
    · by_cases hb : b = D
      · rw [hb, upd_same] at z
        cases z
        rw [hb]
        refine ⟨?_, out.toList, e, hval, by rw [Array.toArray_toList]; exact hlist⟩
        rw [List.length_map, (srt_perm n d).length_eq]
        unfold rgZ
        rw [List.length_map, List.length_range]
        exact Nat.le_of_lt (le_line (by omega))
      · rw [upd_ne hb] at z
        refine (I3.hok b u z).stay (fun a v ha w => kp' a v ?_ w) (fun a w => by rw [upd_ne (ne_of_none w fr)]; exact w) fun a xs w => by rw [upd_ne (ne_of_none w fr)]; exact w
        rcases ha with rfl | ha
        · exact hLt _ _ z
        · exact hLt _ _ ha
end
end L2
namespace My
open PySem L2 MR
@[simp] theorem eqP_int (i j : Int) : eqP (.int i) (.int j) = some (decide (i = j)) := rfl
@[simp] theorem eqP_str (i j : Str) : eqP (.str i) (.str j) = some (decide (i = j)) := rfl
@[simp] theorem eqP_bl (i j : Bool) : eqP (.bl i) (.bl j) = some (decide (i = j)) := rfl
theorem atI_pos {α : Type} {xs : List α} {i : Int} (h0 : 0 ≤ i) (h1 : i < xs.length) : atI xs i = xs[i.toNat]? := by
  unfold atI ixN
  rw [if_pos h0, if_pos h1]
  rfl
theorem atI_at {α : Type} {xs : List α} {k : Nat} {x : α} (h : xs[k]? = some x) : atI xs (k : Int) = some x := atI_nat h
section
variable {α : Type} {env : MR.Env} {g : PV → MR.Env → Option MR.Env} {t : MR.Env → Option Bool} {f : MR.Env → Option PV}
theorem compL_map (c h : α → PV) : ∀ (ys : List α), (∀ y ∈ ys, ∃ e, g (c y) env = some e ∧ f e = some (h y)) → compL env g tTrue f (ys.map c) = some (ys.map h)
  | [], _ => rfl
  | y :: ys, hh => by
    obtain ⟨e, h1, h2⟩ := hh y List.mem_cons_self
    have ih := compL_map c h ys fun z hz => hh z (List.mem_cons_of_mem _ hz)
    simp [compL, h1, h2, ih]
theorem compL_filter (c h : α → PV) (p : α → Bool) : ∀ (ys : List α), (∀ y ∈ ys, ∃ e, g (c y) env = some e ∧ t e = some (p y) ∧ (p y = true → f e = some (h y))) → compL env g t f (ys.map c) = some ((ys.filter p).map h)
  | [], _ => rfl
  | y :: ys, hh => by
    obtain ⟨e, h1, h2, h3⟩ := hh y List.mem_cons_self
    have ih := compL_filter c h p ys fun z hz => hh z (List.mem_cons_of_mem _ hz)
    cases hp : p y with
    | true => simp [compL, h1, h2, h3 hp, ih, hp]
    | false => simp [compL, h1, h2, ih, hp]
theorem loopS_fold {S : Type} {ds : List Nat} {body : MR.Env → Option Out} (c : α → PV) (E : S → MR.Env) (step : S → α → S) : ∀ (ys : List α) (s : S), (∀ y ∈ ys, ∀ s, ∃ e1 e2, g (c y) (E s) = some e1 ∧ body e1 = some (.nx e2) ∧ clr ds e2 = E (step s y)) →
    loopS g ds body (ys.map c) (E s) = some (.nx (E (ys.foldl step s)))
  | [], s, _ => rfl
  | y :: ys, s, hh => by
    obtain ⟨e1, e2, h1, h2, h3⟩ := hh y List.mem_cons_self s
    have ih := loopS_fold c E step ys (step s y) fun z hz => hh z (List.mem_cons_of_mem _ hz)
    simp [loopS, h1, h2, h3, ih]
theorem loopS_look {ds : List Nat} {body : MR.Env → Option Out} (c : α → PV) : ∀ (ys : List α), (∀ y ∈ ys, ∃ e1 e2, g (c y) env = some e1 ∧ body e1 = some (.nx e2) ∧ clr ds e2 = env) → loopS g ds body (ys.map c) env = some (.nx env)
  | [], _ => rfl
  | y :: ys, hh => by
    obtain ⟨e1, e2, h1, h2, h3⟩ := hh y List.mem_cons_self
    have ih := loopS_look c ys fun z hz => hh z (List.mem_cons_of_mem _ hz)
    simp [loopS, h1, h2, h3, ih]
end
theorem enumV_map {α : Type} (c : α → PV) : ∀ (ys : List α) (n : Nat), enumV n (ys.map c) = (ys.zipIdx n).map fun y => .tup [.int (y.2 : Nat), c y.1]
  | [], _ => rfl
  | y :: ys, n => by simp [enumV, enumV_map c ys]
def sdP (ks : List Str) : List (Key × PV) := ks.map fun x => ((Sum.inr x : Key), PV.bl true)
theorem sdP_length (ks : List Str) : (sdP ks).length = ks.length := by simp [sdP]
theorem sdP_look (x : Str) : ∀ ks : List Str, dLook (sdP ks) (Sum.inr x : Key) = if x ∈ ks then some (.bl true) else none
  | [] => rfl
  | k :: r => by
    have ih := sdP_look x r
    unfold dLook at ih ⊢
    show ((((Sum.inr k : Key), PV.bl true) :: sdP r).find? _).map _ = _
    by_cases h : k = x
    · subst h; simp
    · have h' : ¬ x = k := fun e => h e.symm
      have hk : ¬ (Sum.inr k : Key) = Sum.inr x := fun e => h (Sum.inr.inj e)
      rw [List.find?_cons_of_neg (by simpa using hk), ih]
      simp [h']
theorem inP_sd (x : Str) (ks : List Str) : inP (.str x) (.dK (sdP ks)) = some (decide (x ∈ ks)) := by
  simp only [inP, keyOf, Option.map_some, sdP_look]
  by_cases h : x ∈ ks <;> simp [h]
def addK (ks : List Str) (x : Str) : List Str := if x ∈ ks then ks else ks ++ [x]
theorem sdP_put (ks : List Str) (x : Str) : dPut (sdP ks) (Sum.inr x : Key) (.bl true) = sdP (addK ks x) := by
  have hany : ((sdP ks).any fun kv => decide (kv.1 = (Sum.inr x : Key))) = decide (x ∈ ks) := by
    unfold sdP
    rw [List.any_map]
    induction ks with
    | nil => simp
    | cons k r ih =>
      rw [List.any_cons, ih]
      by_cases h : k = x
      · subst h; simp
      · have h' : ¬ x = k := fun e => h e.symm
        simp [h, h']
  unfold dPut addK
  rw [hany]
  by_cases h : x ∈ ks
  · rw [if_pos (by simpa using h), if_pos h]
    unfold sdP
    rw [List.map_map]
    refine List.map_congr_left fun y _ => ?_
    by_cases e : y = x
    · subst e; simp
    · have : ¬ (Sum.inr y : Key) = Sum.inr x := fun z => e (Sum.inr.inj z)
      simp [this]
  · rw [if_neg (by simpa using h), if_neg h]
    unfold sdP
    simp
def addKs (ks ws : List Str) : List Str := ws.foldl addK ks
def tellStep (kind : Str) (ks : List Str) : List Str → List Str
  | c :: r => if c = kind then addKs ks r else ks
  | [] => ks
def tell (kind : Str) (rs : List (List Str)) : List Str := rs.foldl (tellStep kind) []
theorem addK_len (ks : List Str) (x : Str) : (addK ks x).length ≤ ks.length + 1 := by
  unfold addK; split <;> simp
theorem addKs_len : ∀ (ws ks : List Str), (addKs ks ws).length ≤ ks.length + ws.length
  | [], ks => Nat.le_refl _
  | x :: r, ks => by
    have h1 := addKs_len r (addK ks x)
    have h2 := addK_len ks x
    show (addKs (addK ks x) r).length ≤ ks.length + (r.length + 1)
    omega
theorem mem_addK {ks : List Str} {x y : Str} : y ∈ addK ks x ↔ y ∈ ks ∨ y = x := by
  unfold addK
  by_cases h : x ∈ ks
  · rw [if_pos h]
    constructor
    · exact .inl
    · rintro (z | z)
      · exact z
      · rw [z]; exact h
  · rw [if_neg h]; simp
theorem mem_addKs {y : Str} : ∀ {ws ks : List Str}, y ∈ addKs ks ws ↔ y ∈ ks ∨ y ∈ ws
  | [], ks => by simp [addKs]
  | x :: r, ks => by
    show y ∈ addKs (addK ks x) r ↔ _
    rw [mem_addKs, mem_addK, List.mem_cons, or_assoc]
theorem mem_tellF {kind y : Str} : ∀ {rs : List (List Str)} {ks : List Str}, y ∈ rs.foldl (tellStep kind) ks ↔ y ∈ ks ∨ ∃ r, (kind :: r) ∈ rs ∧ y ∈ r
  | [], ks => by simp
  | ws :: rs, ks => by
    rw [List.foldl_cons, mem_tellF]
    cases ws with
    | nil => simp [tellStep]
    | cons c r =>
      show (y ∈ (if c = kind then addKs ks r else ks) ∨ _) ↔ _
      by_cases h : c = kind
      · subst h
        rw [if_pos rfl, mem_addKs]
        constructor
        · rintro ((z | z) | ⟨r', h1, h2⟩)
          · exact .inl z
          · exact .inr ⟨r, List.mem_cons_self, z⟩
          · exact .inr ⟨r', List.mem_cons_of_mem _ h1, h2⟩
        · rintro (z | ⟨r', h1, h2⟩)
          · exact .inl (.inl z)
          · rcases List.mem_cons.mp h1 with e | e
            · obtain ⟨_, rfl⟩ := List.cons.inj e
              exact .inl (.inr h2)
            · exact .inr ⟨r', e, h2⟩
      · rw [if_neg h]
        constructor
        · rintro (z | ⟨r', h1, h2⟩)
          · exact .inl z
          · exact .inr ⟨r', List.mem_cons_of_mem _ h1, h2⟩
        · rintro (z | ⟨r', h1, h2⟩)
          · exact .inl z
          · rcases List.mem_cons.mp h1 with e | e
            · exact absurd (List.cons.inj e).1.symm h
            · exact .inr ⟨r', e, h2⟩
theorem mem_tell {kind y : Str} {rs : List (List Str)} : y ∈ tell kind rs ↔ ∃ r, (kind :: r) ∈ rs ∧ y ∈ r := by
  unfold tell
  rw [mem_tellF]
  simp
def total (rs : List (List Str)) : Nat := (rs.map List.length).sum
theorem tellF_len {kind : Str} : ∀ (rs : List (List Str)) (ks : List Str), (rs.foldl (tellStep kind) ks).length ≤ ks.length + total rs
  | [], ks => Nat.le_add_right _ _
  | ws :: rs, ks => by
    have h1 := tellF_len (kind := kind) rs (tellStep kind ks ws)
    have h2 : (tellStep kind ks ws).length ≤ ks.length + ws.length := by
      cases ws with
      | nil => exact Nat.le_add_right _ _
      | cons c r =>
        show (if c = kind then addKs ks r else ks).length ≤ _
        split
        · have h4 := addKs_len r ks
          simp
          omega
        · exact Nat.le_add_right _ _
    rw [List.foldl_cons]
    unfold total at *
    simp
    omega
end My
namespace L2
open PySem PySem.Spec PyProof.Rows
variable {X : Cx}
def rInsert : V → List V → Hp → VK → Prop := fun x vs H Q => ∃ l xs k y, x = .ref l ∧ vs = [.int (k : Nat), y] ∧ H l = some (.lst xs) ∧ k ≤ xs.length ∧ xs.length < 1000001 ∧ Q .non (upd H l (.lst (xs.take k ++ y :: xs.drop k)))
theorem mt_insert : MtM X "list.insert" rInsert := by
  intro pins s σ H x vs v us Q I rx rv h
  obtain ⟨l, xs, k, y, rfl, rfl, hH, hk, hz, q⟩ := h
  cases rx
  obtain ⟨uk, u, rfl, ruk, ru⟩ := rv.two
  obtain ⟨t, rfl⟩ := ruk
  obtain ⟨z, its, n, r, hl, e⟩ := I.lstM hH
  have hsl : (1000002 : Nat) ≤ sizeLine := by decide
  have hfi : Builtin.List.listFitsIndex (k : Int) = true := fitsIndex_both (by omega) (by omega)
  have hc0 : ¬(!Builtin.List.listFitsIndex (k : Int)) = true := by rw [hfi]; decide
  have hs0 : its.toArray.size ≤ sizeLine := by rw [List.size_toArray, ← hl]; exact z
  clear hsl
  have h4 : s.TypeIs (.ref l) "list" := ⟨_, e, rfl⟩
  refine wpAny_call (codeAny_call_builtin F.slot_list_insert.plain F.entry_list_insert (F.slot_list_insert.check _ _ _ _ _ _ _ _ h4 (F.args_list_insert_3 _ _ _) ?_))
  refine @PySem.AutoListH.list_insert_list_int_val_1 l its.toArray n (k : Int) t u hc0 hs0 X.prog X.w X.A (wants (EP X pins σ Q) X.xe) s ?_
  refine ⟨e, ?_⟩
  refine ⟨.non, _, I.lset (its' := its.take k ++ u :: its.drop k) hH e ?_ ((Vals.take k r).append (.cons ru (Vals.drop k r))) ?_, rfl, q⟩
  · have h0 : ¬ ((k : Int) < 0) := by omega
    have h1 : min (k : Int).toNat its.toArray.size = k := by rw [List.size_toArray]; omega
    show (have k' := if (k : Int) < 0 then ((k : Int) + ((its.toArray.size : Nat) : Int)).toNat else min (k : Int).toNat its.toArray.size; (its.toArray.extract 0 k').push u ++ its.toArray.extract k') = _
    simp only [if_neg h0, h1]
    simp [List.extract_eq_take_drop]
    exact List.take_of_length_le (by simp)
  · have hsl : (1000002 : Nat) ≤ sizeLine := by decide
    simp
    omega
end L2
namespace MR
open PySem L2 PyProof.Rows PySem.Spec
@[simp] def insV : PV → PV → PV → Option PV
  | .lst xs, .int k, p => if 0 ≤ k ∧ k ≤ (xs.length : Int) ∧ xs.length < 1000000 then some (.lst (xs.take k.toNat ++ p :: xs.drop k.toNat)) else none
  | _, _, _ => none
section
variable {X : Cx} {b : BX} {G L : List Nat} {ro : Bool} {pos : Pos} {e1 e2 : Expr} {h1 h2 : Env → Option PV}
theorem s_ins (i : Nat) {x : Str} {p1 apos cpos : Pos} (he1 : SE X b G .val e1 h1) (he2 : SE X b G .val e2 h2) (hi : i ∈ G := by decide) (hN : X.N[i]? = some x := by rfl) (hv : Vis X.env.scope x := by first | exact Or.inl rfl | exact Or.inr (Or.inl rfl) | exact Or.inr (Or.inr rfl)) (hd : (x == ("__debug__" : Str)) = false := by decide)
    (hcd : (x == ("__classdict__" : Str)) = false := by decide) (hbase : attributeBase (.Name x p1) "insert" X.env (eval (.Name x p1) X.env) = eval (.Name x p1) X.env := by rfl)
    (hfew : ((backTo cpos (starEach [e1, e2] X.env)).all (fun x => !x.1) && (backToKw cpos (keywordEach [] X.env)).all (fun x => x.1.isSome)
      && decide ([e1, e2].length + ([] : List Keyword).length + (if ([] : List Keyword).isEmpty then 0 else 1) < 30)) = true := by rfl)
    (hline : (apos.endLine == cpos.line) = true := by rfl) (hs : starEach [e1, e2] X.env = (false, eval e1 X.env) :: starEach [e2] X.env := by rfl) (hs2 : starEach [e2] X.env = (false, eval e2 X.env) :: starEach [] X.env := by rfl) (hpl : (backTo cpos (starEach [e2] X.env)).any (fun x => x.1) = false := by rfl) :
    SS X b G G L ro (.Expr (.Call (.Attribute (.Name x p1) "insert" apos) [e1, e2] [] cpos) pos) (sMut2 insV i h1 h2) :=
  PS.imp (ps_expr (pe_bm PySem.F.plainAttrs_list PySem.F.slot_list_insert PySem.F.type_list_insert mt_insert (pe_var hN hv hd hcd) (pa_cons he1 (pa_cons he2 pa_nil hs2) hs) hbase hfew hline hs hpl)) fun D σ H ⟨Ow, env, o, E, hf, k⟩ => by
    obtain ⟨px, hpx, z1⟩ := bind_some' hf
    clear hf
    obtain ⟨p, hp, z2⟩ := bind_some' z1
    clear z1
    obtain ⟨p', hp', z3⟩ := bind_some' z2
    clear z2
    obtain ⟨y, hy, z4⟩ := bind_some' z3
    clear z3
    cases z4
    obtain ⟨a, ea, w, t⟩ := E.own i px (bV_some hpx) hi
    cases px <;> try (simp only [insV] at hy; cases hy)
    rename_i xs
    cases p <;> try (simp only [insV] at hy; cases hy)
    rename_i kk
    simp only [insV] at hy
    split at hy
    · rename_i hl
      obtain ⟨hl0, hl1, hl2⟩ := hl
      cases hy
      obtain ⟨n, rfl⟩ : ∃ n : Nat, kk = n := ⟨kk.toNat, by omega⟩
      rw [show ((n : Int)).toNat = n by omega] at *
      obtain ⟨vs, ha, ra⟩ := id t
      refine ⟨_, ea, .inl ⟨rfl, _, SqL.of ha⟩, Ow, env, _, E, hp, fun v H1 s1 r1 => ⟨Ow, env, p', E.up s1, hp', fun v' H' s2 r => ?_⟩⟩
      have s := s1.trans s2
      cases r1
      refine ⟨a, vs, n, v', rfl, rfl, s _ _ ha, by rw [ra.length]; omega, by rw [ra.length]; omega, ?_⟩
      have ra' : Reps b.C (Bs b Ow) (upd H' a (.lst (vs.take n ++ v' :: vs.drop n))) (vs.take n ++ v' :: vs.drop n) (xs.take n ++ p' :: xs.drop n) := by
        have r0 := ra.ex (.of_same s)
        exact ((r0.take n).append (.cons r (r0.drop n))).ex (ex_write w (s _ _ ha) rfl)
      obtain ⟨E', x⟩ := (E.up s).write hi ea (bV_some hpx) w (t.ex (.of_same s) fun o z => s _ _ z) (o' := .lst (vs.take n ++ v' :: vs.drop n)) (p' := .lst (xs.take n ++ p' :: xs.drop n)) ⟨_, upd_same, ra'⟩
      exact k Ow σ _ E' ((Ex.of_same s).trans x)
    · cases hy
end
end MR
namespace L2
open PySem PySem.Spec PyProof.Rows
section
open HT
variable {prog : Program} {w : World} {A : Around} {E : Value → Shared → Prop} {s : Shared}
theorem getItem_tuple_whole {t sl : Addr} {items : Array Value} {vl vu : Value} {lo hi : Option Int} {Q : Value → Shared → Prop} (ht : IsTup s.heap t items) (hs : s.heap.IsSliceOf sl vl vu .none) (pl : IsPart vl lo) (pu : IsPart vu hi)
    (hw1 : sIx items.size 0 lo = 0) (hw2 : sIx items.size items.size hi = items.size) (h : Q (.ref t) s) : wpAny (model prog w) A (getItem (.ref t) (.ref sl)) Q E s := by
  obtain ⟨os, hos, hcs, hds⟩ := id hs
  have hTs : s.TypeIs (.ref sl) "slice" := ⟨os, hos, hcs⟩
  unfold getItem
  try with_reducible refine wpAny_holding ?_
  first | refine wpAny_bind (wpAny_pure ?_) | skip
  refine wpAny_bind (wpAny_sequenceKey ht.typeIs (by decide) ?_)
  refine wpAny_bind (wpAny_callSpecial?_slot (name := Str.ofString "__getitem__") ht.typeIs PyProof.Rows.slot_tuple_getitem
    (wpAny_call_entry PyProof.Rows.slot_tuple_getitem ht.typeIs entry_tuple_getitem ?_ (args_tuple_getitem _ _)))
  show wpAny _ _ (Builtin.Tuple.tupleItemsOf (.ref t) >>= _) _ _ s
  refine wpAny_bind (tupleItemsOf_ ht ?_)
  refine wpAny_bind (wpAny_typeOf hTs ?_)
  rw [if_pos (by decide)]
  refine wpAny_bind (sliceApplied_gen hs pl pu ?_)
  have hy : (((sIx items.size 0 lo : Nat) : Int) == 0 && (1 : Int) == 1 && (sIx items.size items.size hi - sIx items.size 0 lo) == items.size) = true := by rw [hw1, hw2]; simp
  show wpAny _ _ (if (((sIx items.size 0 lo : Nat) : Int) == 0 && (1 : Int) == 1 && (sIx items.size items.size hi - sIx items.size 0 lo) == items.size) = true then _ else _) _ _ s
  rw [if_pos hy]
  refine wpAny_bind ?_
  unfold Builtin.Tuple.tupleIsExact
  refine wpAny_bind (wpAny_typeOf ht.typeIs (wpAny_pure ?_))
  rw [if_pos (by decide)]
  refine wpAny_bind (wpAny_rule ?_)
  exact wpAny_pure ⟨_, rfl, wpAny_pure h⟩
end
variable {X : Cx}
def rSlW (K : PySem.W.Frag) : V → Option Int → Option Int → Hp → VK → Prop := fun x lo hi H Q => ∃ a xs, x = .ref a ∧ SqT K H a xs ∧ HT.sIx xs.length 0 lo = 0 ∧ HT.sIx xs.length xs.length hi = xs.length ∧ Q x H
theorem sl_tupW : SlR X (rSlW X.K) := by
  intro pins s σ H x v vl vu lo hi sl Q I rx hs pl pu h
  obtain ⟨a, xs, rfl, hx, hw1, hw2, q⟩ := h
  cases rx
  obtain ⟨its, r, ht, hz⟩ := I.tuple hx
  have hlen : its.toArray.size = xs.length := by rw [List.size_toArray]; exact r.length.symm
  refine ⟨"tuple", _, PyProof.Rows.slot_tuple_getitem.lookup, ht.typeIs, ?_⟩
  exact getItem_tuple_whole ht hs pl pu (by rw [hlen]; exact hw1) (by rw [hlen]; exact hw2) ⟨.ref a, H, I, rfl, q⟩
end L2
namespace MR
open PySem PySem.Spec PyProof.Rows L2
def slT2 (x : PV) (l h : Option Int) : Option PV := match x, l, h with
  | .tup xs, none, some i => if 0 ≤ i then some (.tup (cutP xs none (some i))) else none
  | _, _, _ => none
def bSlT2 (f : Env → Option PV) (lo hi : Env → Option (Option Int)) (env : Env) : Option PV := (f env).bind fun x => (lo env).bind fun l => (hi env).bind fun h => slT2 x l h
@[simp] theorem bSlT2_ap (f : Env → Option PV) (lo hi : Env → Option (Option Int)) (env : Env) : bSlT2 f lo hi env = ((f env).bind fun x => (lo env).bind fun l => (hi env).bind fun h => slT2 x l h) := id rfl
section
variable {X : Cx} {b : BX} {G : List Nat} {m : Md} {e : Expr} {f : Env → Option PV} {pos : Pos}
theorem se_slT2 {lo hi : Option Expr} {p2 : Pos} {fl fh : Env → Option (Option Int)} (h1 : SE X b G m e f) (hl : SO X b G lo fl) (hh : SO X b G hi fh) (hK : X.K = b.C.K := by rfl) : SE X b G .val (.Subscript e (.Slice lo hi none p2) pos) (bSlT2 f fl fh) := by
  refine PE.imp (pe_slice (r := fun x lo hi H Q => rSlT b.C.K x lo hi H Q ∨ rSlW b.C.K x lo hi H Q) (by rw [← hK]; exact SlR.or sl_tup sl_tupW) h1.bor hl hh) fun σ H Q ⟨Ow, env, p, E, hf, k⟩ => ?_
  unfold bSlT2 at hf
  cases q1 : f env with
  | none => rw [q1] at hf; cases hf
  | some p1 =>
    rw [q1] at hf
    cases q2 : fl env with
    | none => rw [q2] at hf; cases hf
    | some l =>
      rw [q2] at hf
      cases q3 : fh env with
      | none => rw [q3] at hf; cases hf
      | some h =>
        rw [q3] at hf
        refine ⟨Ow, env, p1, E, q1, fun v H1 s1 r1 => ⟨Ow, env, l, E.up s1, q2, fun H2 s2 => ⟨Ow, env, h, E.up (s1.trans s2), q3, fun H3 s3 => ?_⟩⟩⟩
        have r1' : RepB b.C (Bs b Ow) H3 v p1 := Res.up (m := .bor) r1 (s2.trans s3)
        simp only [Option.bind_some] at hf
        unfold slT2 at hf
        split at hf
        · rename_i xs i
          split at hf
          · rename_i hi
            cases hf
            obtain ⟨a, vs, rfl, ha, ra⟩ := r1'.tup
            have hln := ra.length
            have hix : HT.sIx vs.length vs.length (some i) = min i.toNat vs.length := by
              show (if i < 0 then (i + (vs.length : Int)).toNat else min i.toNat vs.length) = _
              rw [if_neg (by omega)]
            by_cases hlt : i.toNat < vs.length
            · refine .inl ⟨a, vs, rfl, ha.sq, ?_, fun q hq => k _ _ (s1.trans (s2.trans (s3.trans (same_new hq _)))) (Res.down (s1.trans (s2.trans s3)) (res_tup hq (ra.cut none (some i))))⟩
              rintro ⟨_, z⟩
              omega
            · refine .inr ⟨a, vs, rfl, ha.sq, rfl, by rw [hix]; omega, ?_⟩
              have e : cutP xs none (some i) = xs := by
                unfold cutP
                have hix2 : HT.sIx xs.length xs.length (some i) = min i.toNat xs.length := by
                  show (if i < 0 then (i + (xs.length : Int)).toNat else min i.toNat xs.length) = _
                  rw [if_neg (by omega)]
                rw [hix2, HT.sIx_none, List.drop_zero, Nat.sub_zero, Nat.min_eq_right (by omega), List.take_length]
              rw [e] at k
              exact k _ _ (s1.trans (s2.trans s3)) (Res.down (s1.trans (s2.trans s3)) (ha.rep ra))
          · cases hf
        · cases hf
end
end MR
namespace L2
open PySem PySem.Spec PyProof.Rows
def codeAt (K : PySem.W.Frag) (f tc : Addr) : Bool := match K.lookup f with
  | some ⟨_, _, .func fd, _⟩ => (match fd.code with | .ref c => c == tc | _ => false)
  | _ => false
section
variable {P : Program} {w : World} {K : PySem.W.Frag} {mg : Str → Option Value} {base : Heap}
theorem Fun.okC {x qual : Str} {st : Stmt} {f tc : Addr} {fd : FuncData} {N ps : List Str} {k : Nat} {sp : Sp} (F : Fun K x qual st f fd) (hc : codeAt K f tc = true) (S : FnScope N ps (defScope st)) (len : ∀ vs H Q E, sp vs H Q E → vs.length = ps.length)
    (hbody : ∀ (A : Around) (outer : List PySem.Env) (s : Shared) (H : Hp) (vs : List V) (Q : VK) (E : XK), Room k (A.deeper (envOfC qual (defScope st) s.heap.objs.size f (.ref tc))) → sp vs H Q E →
      ∃ t, PSs (cxOf CX0 P w K mg base N qual (defScope st) f (.ref tc) A outer s H E).nox (defBody st) t ∧ t { nx := fun _ H' => Q .non H', rt := Q } (start N vs) H) : FnOk P w K mg base CX0 (k + 1) f fd ps sp := by
  obtain ⟨oc, od, kV, doc, pm, an, cdv, ct, osl, rfl, lk, hcd⟩ := F.ex
  have e : cdv = .ref tc := by
    unfold codeAt at hc
    rw [lk] at hc
    cases cdv with
    | ref c =>
      have z : (c == tc) = true := hc
      rw [beq_iff_eq.mp z]
    | _ =>
      have z : false = true := hc
      cases z
  subst e
  refine fn_of lk hcd S len fun A outer s H vs Q E hr hsp => ?_
  obtain ⟨t, h, q⟩ := hbody A outer s H vs Q E hr hsp
  exact ⟨t, h.nox, q⟩
end
end L2
namespace MR
open PySem L2
@[simp] def sortV : PV → PV → Option PV
  | .int n, .int d => if 0 ≤ n ∧ n < 64 ∧ dstB n.toNat d = true then some (.lst ((srtL n.toNat d).map PV.int)) else none
  | _, _ => none
theorem sortV_some {x y q : PV} (e : sortV x y = some q) : ∃ (n : Nat) (d : Int), x = .int (n : Nat) ∧ y = .int d ∧ n < 64 ∧ dstB n d = true ∧ q = .lst ((srtL n d).map PV.int) := by
  unfold sortV at e
  split at e
  · rename_i n d
    split at e
    · rename_i h
      cases e
      have en : n = ((n.toNat : Nat) : Int) := by omega
      exact ⟨n.toNat, d, by rw [← en], rfl, by omega, h.2.2, rfl⟩
    · cases e
  · cases e
section
variable {X : Cx} {b : BX} {G : List Nat} {m1 : Md} {e : Expr} {f : Env → Option PV}
theorem se_sortK (i : Nat) {k : Nat} {tc : Addr} {p p2 pos pos2 kp ap p1 q2 p3 p4 p5 p6 p7 : Pos} (hr : Room k X.A) (hCd : PySem.W.codeHdIn X.K tc tabP = true) (hm : X.mg "sorted" = none) (hm2 : X.mg "range" = none) (h : SE X b G m1 e f) (hcode : X.env.code = .ref tc := by rfl) (hg : Gl X "sorted" := by rfl) (hg2 : Gl X "range" := by rfl) (hc : X.calm = true := by rfl)
    (hN : X.N[i]? = some "_law_step" := by rfl) (hi : i ∉ G := by decide) (hk : X.env.kindOf "_law_step" = some .cell := by rfl) (hcl : ∀ c, X.env.cells.lookup ("_law_step" : Str) = some c → closureFor lamS X.env = (pure [(("_law_step" : Str), c)] : Sem (List (Str × Addr))) := by intro c h; cases h; rfl) (hqual : X.env.qual ++ "<lambda>" = tabQ := by rfl)
    (hs : starEach [e] X.env = [(false, eval e X.env)] := by rfl) (hs' : starEach [e] X.env = (false, eval e X.env) :: starEach [] X.env := by rfl)
    (hs2 : starEach [.Call (.Name "range" p2) [e] [] pos2] X.env = (false, eval (.Call (.Name "range" p2) [e] [] pos2) X.env) :: starEach [] X.env := by rfl) (hs3 : starEach ([] : List Expr) X.env = [] := by rfl) :
    SE X b G .own (.Call (.Name "sorted" p) [.Call (.Name "range" p2) [e] [] pos2] [⟨some "key", .Lambda (lamA ap) (lamB p1 q2 p3 p4 p5 p6 p7) lamS tabPos, kp⟩] pos) (b2 sortV f (bV i)) := by
  refine PE.imp (pe_sortK (i := i) hr hCd hcode hg hm hg2 hm2 hc hN hk hcl hqual (pa_cons h.bor pa_nil hs') hs hs2 hs3) fun σ H Q ⟨Ow, env, q, E, hf, k⟩ => ?_
  obtain ⟨x, hx, hf⟩ := bind_some' hf
  obtain ⟨y, hy, hf⟩ := bind_some' hf
  obtain ⟨n, d, rfl, rfl, hn, hd, rfl⟩ := sortV_some hf
  obtain ⟨v, hv, rv⟩ := E.val i _ (bV_some hy) hi
  cases rv
  refine ⟨Ow, env, _, E, hx, fun v H1 s r => ?_⟩
  have r1 : RepB b.C (Bs b Ow) H1 v (.int (n : Nat)) := r
  refine ⟨n, d, by rw [r1.int], hn, hv, hd, fun H2 l sm hl => k _ _ ((s.trans sm).new hl _) (Res.down (s.trans sm) (res_new hl ?_))⟩
  exact reps_of _ _ (fun i => .int _) _
end
end MR
namespace L2
open PySem PySem.Spec PyProof.Rows
def pick2 {α : Type} (xs : List α) : List α := (List.range ((xs.length + 1) / 2)).filterMap fun k => xs[2 * k]?
theorem pick2_at (its : List Value) : slicePick its.toArray none none (some 2) = (pick2 its).toArray := by
  have hb : sliceBounds none none (some 2) its.toArray.size = (0, (its.length : Int), 2) := by simp [sliceBounds]
  unfold slicePick
  rw [hb]
  congr 1
  unfold sliceRange pick2
  simp only
  rw [if_pos (by decide)]
  have hc : (if (0 : Int) < (its.length : Int) then ((its.length : Int) - 0 + 2 - 1) / 2 else 0).toNat = (its.length + 1) / 2 := by
    split <;> omega
  rw [hc, List.filterMap_map]
  congr 1
  funext k
  have e : (0 + 2 * (k : Int)).toNat = 2 * k := by omega
  simp
  congr 1
theorem fm_vals {xs : List V} {its : List Value} (r : Vals xs its) : ∀ l : List Nat, Vals (l.filterMap fun k => xs[2 * k]?) (l.filterMap fun k => its[2 * k]?)
  | [] => .nil
  | k :: l => by
    have ih := fm_vals r l
    rw [List.filterMap_cons, List.filterMap_cons]
    cases h : xs[2 * k]? with
    | none =>
      have : its[2 * k]? = none := by rw [List.getElem?_eq_none_iff] at *; rw [← r.length]; exact h
      rw [this]
      exact ih
    | some x =>
      obtain ⟨u, e, ru⟩ := r.get h
      rw [e]
      exact .cons ru ih
theorem pick2_len {α : Type} (xs : List α) : (pick2 xs).length ≤ xs.length := by
  unfold pick2
  refine Nat.le_trans (List.length_filterMap_le _ _) ?_
  rw [List.length_range]
  omega
def tEv (K : PySem.W.Frag) (te : TE) : TE := fun σ H Q => te σ H fun x H1 => ∃ a xs, x = .ref a ∧ SqL K H1 a xs ∧ ∀ l, H1 l = none → Q (.ref l) (upd H1 l (.lst (pick2 xs)))
section
variable {X : Cx}
theorem pe_ev {e k : Expr} {te : TE} {p2 pos : Pos} (he : PE X e te) (hk : PE X k (tC (.int 2))) : PE X (.Subscript e (.Slice none none (some k) p2) pos) (tEv X.K te) := by
  intro pins s σ H Q I h
  refine Subscript_ (thn (he pins s σ H _ I h) fun v s1 ⟨x, H1, I1, r1, q1⟩ => ?_)
  obtain ⟨a, xs, rfl, hq, q⟩ := q1
  cases r1
  refine wpAny_Slice ?_
  rw [evalPart_none]; refine wpAny_pure (wpAny_pure ?_)
  rw [evalPart_some]
  refine thn (hk pins s1 σ H1 (fun x H2 => x = .int 2 ∧ H2 = H1) I1 ⟨rfl, rfl⟩) fun u s2 ⟨y, H2, I2, r2, e1, e2⟩ => ?_
  subst e1 e2
  obtain ⟨t, rfl⟩ := r2
  have I4 : Inv X pins σ H2 { s2 with heap := s2.heap.push { cls := .type "slice", data := .fields #[.none, .none, .int 2 t] } } := I2.kept (t' := s2.toks) fun b ob q => Heap.get?_push_of_some _ q
  obtain ⟨its, r, ht, hz⟩ := I4.list hq
  have hlen := r.length
  show wpAny (model X.prog X.w) X.A (subscriptTail e (.Slice none none (some k) p2) (.ref a) (.ref s2.heap.objs.size)) (EP X pins σ Q) X.xe { s2 with heap := s2.heap.push { cls := .type "slice", data := .fields #[.none, .none, .int 2 t] } }
  refine tail_any (ops := [.ref a, .ref s2.heap.objs.size]) ht.isList.typeIs slot_list_getitem.lookup ?_ (by with_unfolding_all rfl)
  refine wpAny_getItem_list_slice ht.isList (Heap.IsSliceOf.new ..) .none .none (.int 2 t) (by simp) ?_ (by rw [List.size_toArray] <;> omega)
  rw [pick2_at]
  have rr : Vals (pick2 xs) (pick2 its) := by unfold pick2; rw [hlen]; exact fm_vals r _
  exact ⟨.ref _, _, I4.laid (t' := s2.toks) (o := .lst (pick2 xs)) (fun b ob q => Heap.get?_push_of_some _ q) (Nat.le_refl _) ⟨Nat.le_trans (pick2_len xs) hz, _, 0, rr, Heap.get?_push_size _ rfl⟩, rfl, q _ (I4.hok.fresh (Nat.le_refl _))⟩
end
end L2
namespace MR
open PySem L2
@[simp] def evrV : PV → Option PV
  | .lst xs => some (.lst (pick2 xs))
  | _ => none
theorem fm_reps {C : MC} {A : Addr → Prop} {H : Hp} {vs : List V} {ps : List PV} (r : Reps C A H vs ps) : ∀ l : List Nat, Reps C A H (l.filterMap fun k => vs[2 * k]?) (l.filterMap fun k => ps[2 * k]?)
  | [] => .nil
  | k :: l => by
    have ih := fm_reps r l
    rw [List.filterMap_cons, List.filterMap_cons]
    cases h : ps[2 * k]? with
    | none =>
      have : vs[2 * k]? = none := by rw [List.getElem?_eq_none_iff] at *; rw [r.length]; exact h
      rw [this]
      exact ih
    | some x =>
      obtain ⟨u, e, ru⟩ := r.get h
      rw [e]
      exact .cons ru ih
section
variable {X : Cx} {b : BX} {G : List Nat} {m1 : Md} {e : Expr} {f : Env → Option PV}
theorem se_ev {j : Nat} {q1 p2 pos : Pos} (h : SE X b G m1 e f) (hK : X.K = b.C.K := by rfl) : SE X b G .own (.Subscript e (.Slice none none (some (.Constant (.int 2) j q1)) p2) pos) (b1 evrV f) := by
  refine PE.imp (pe_ev h.bor pe_int) fun σ H Q ⟨Ow, env, q, E, hf, k⟩ => ?_
  rw [hK]
  obtain ⟨x, hx, hf⟩ := bind_some' hf
  obtain ⟨xs, rfl, rfl⟩ : ∃ xs, x = .lst xs ∧ q = .lst (pick2 xs) := by
    cases x <;> simp only [evrV] at hf <;> cases hf
    exact ⟨_, rfl, rfl⟩
  refine ⟨Ow, env, _, E, hx, fun v H1 s r => ?_⟩
  have r1 : RepB b.C (Bs b Ow) H1 v (.lst xs) := r
  obtain ⟨a, vs, rfl, ha, ra⟩ := r1.lst
  have rr : Reps b.C (Bs b Ow) H1 (pick2 vs) (pick2 xs) := by unfold pick2; rw [ra.length]; exact fm_reps ra _
  exact ⟨a, vs, rfl, SqL.of ha, fun l hl => k _ _ (s.new hl _) (Res.down s (res_new hl rr))⟩
end
end MR
namespace My
open PySem L2 MR
noncomputable section
def c_RUNS : PV := .ktp [.str "never", .str "may", .str "must"]
def fb__law_cell_at := (sSeq (sIf (tV (b2 (cmpV fun i j => decide (i < j)) (bV 1) (b1 lenV (bV 0)))) (sRet (b2 ixP (bV 0) (bV 1))) sNx) (sRet (bC (.int 0))))
def mi__law_cell_at := mDef 2 2 false fb__law_cell_at
def fb__law_letter := (sSeq (sSet 2 (b2 ixP (bLst (bCons (bC (.int 1)) (bCons (bC (.int 3)) (bCons (bC (.int 5)) (bCons (bC (.int 7)) (bCons (bC (.int 9)) (bCons (bC (.int 11)) (bCons (bC (.int 15)) (bCons (bC (.int 17)) bNil))))))))) (b2 modV (b2 divV (bV 0) (bC (.int 26))) (bC (.int 8))))) (sRet (b2 ixP (bC (.str "abcdefghijklmnopqrstuvwxyz")) (b2 modV (b2 addV (bV 0) (b2 mulV (bV 1) (bV 2))) (bC (.int 26))))))
def mi__law_letter := mDef 3 2 false fb__law_letter
def fb__law_mix := (sRet (b2 modV (b2 addV (b2 mulV (b2 modV (bV 0) (bC (.int 1000003))) (b2 addV (bC (.int 48271)) (b2 mulV (b2 mulV (bC (.int 15838)) (bV 1)) (bV 1)))) (b2 mulV (bC (.int 69621)) (bV 1))) (bC (.int 2147483647))))
def mi__law_mix := mDef 2 2 false fb__law_mix
def lb__law_cluster_1 := (sSet 3 (b2 addV (bV 3) (bCall mi__law_letter (bCons (bV 0) (bCons (b2 addV (bV 1) (b2 modV (b2 divV (bV 2) (b2 ixP (bLst (bCons (bC (.int 4)) (bCons (bC (.int 8)) (bCons (bC (.int 28)) (bCons (bC (.int 128)) bNil))))) (bV 4))) (b2 ixP (bLst (bCons (bC (.int 2)) (bCons (bC (.int 5)) bNil))) (b2 modV (b2 divV (bV 2) (bC (.int 3))) (bC (.int 2)))))) bNil)))))
def fb__law_cluster := (sSeq (sSet 3 (bC (.str ""))) (sSeq (sFor (gN 4) (iR1 (b2 addV (bC (.int 2)) (b2 modV (bV 2) (bC (.int 3))))) [4] lb__law_cluster_1) (sRet (bV 3))))
def mi__law_cluster := mDef 5 3 false fb__law_cluster
def ce__law_record_1 := (bCall mi__law_cell_at (bCons (bV 1) (bCons (b2 addV (bV 2) (bV 0)) bNil)))
def ce__law_record_2 := (bCall mi__law_letter (bCons (bV 1) (bCons (bV 0) bNil)))
def lb__law_record_3 := (sSeq (sSet 8 (bCall mi__law_mix (bCons (b2 ixP (bV 2) (bC (.int 2))) (bCons (bV 7) bNil)))) (sMut1 appV 6 (b2 addV (b2 ixP (bV 5) (b2 modV (bV 8) (bV 4))) (b2 ixP (bV 5) (b2 modV (b2 divV (bV 8) (bC (.int 8))) (bV 4))))))
def ce__law_record_4 := (b2 modV (bCall mi__law_mix (bCons (b2 ixP (bV 1) (bC (.int 3))) (bCons (bV 0) bNil))) (bC (.int 4)))
def ce__law_record_5 := (b2 ixP (bV 1) (bV 0))
def cc__law_record_6 := (tV (b2 inQ (b2 ixP (bV 2) (bV 0)) (bTup (bCons (bC (.int 1)) (bCons (bC (.int 3)) bNil)))))
def ce__law_record_7 := (b2 ixP (bV 1) (bV 0))
def cc__law_record_8 := (tV (b2 (cmpV fun i j => decide (j < i)) (b2 ixP (bV 2) (bV 0)) (bC (.int 1))))
def ce__law_record_9 := (bCall mi__law_cluster (bCons (bV 1) (bCons (bV 2) (bCons (bCall mi__law_mix (bCons (b2 ixP (bV 3) (bC (.int 4))) (bCons (bV 0) bNil))) bNil))))
def ce__law_record_10 := (bCall mi__law_cluster (bCons (bV 1) (bCons (bV 2) (bCons (bCall mi__law_mix (bCons (b2 ixP (bV 3) (bC (.int 5))) (bCons (bV 0) bNil))) bNil))))
def fb__law_record := (sSeq (sSet 2 (bComp [none, some 0, some 1] (iR1 (bC (.int 6))) (gN 0) tTrue ce__law_record_1)) (sSeq (sSet 3 (b2 ixP (bV 2) (bC (.int 0)))) (sSeq (sSet 4 (b2 addV (bC (.int 1)) (b2 modV (b2 ixP (bV 2) (bC (.int 1))) (bC (.int 7))))) (sSeq (sSet 5 (bComp [none, some 3] (iR1 (bV 4)) (gN 0) tTrue ce__law_record_2)) (sSeq (sSet 6 (bLst bNil)) (sSeq (sFor (gN 7) (iR1 (b2 modV (b2 divV (b2 ixP (bV 2) (bC (.int 1))) (bC (.int 7))) (bC (.int 4)))) [7, 8] lb__law_record_3) (sSeq (sSet 9 (bComp [none, some 2] (iR1 (b2 addV (bV 4) (b1 lenV (bV 6)))) (gN 0) tTrue ce__law_record_4)) (sSeq (sSet 10 (b2 addV (bV 5) (bV 6))) (sSeq (sSet 11 (bComp [none, some 10, some 9] (iR1 (b1 lenV (bV 10))) (gN 0) cc__law_record_6 ce__law_record_5)) (sSeq (sSet 12 (bComp [none, some 10, some 9] (iR1 (b1 lenV (bV 10))) (gN 0) cc__law_record_8 ce__law_record_7)) (sSeq (sSet 13 (bComp [none, some 3, some 4, some 2] (iR1 (b2 modV (b2 divV (b2 ixP (bV 2) (bC (.int 4))) (bC (.int 7))) (bC (.int 5)))) (gN 0) tTrue ce__law_record_9)) (sSeq (sSet 14 (bComp [none, some 3, some 4, some 2] (iR1 (b2 modV (b2 divV (b2 ixP (bV 2) (bC (.int 5))) (bC (.int 7))) (bC (.int 4)))) (gN 0) tTrue ce__law_record_10)) (sSeq (sSet 15 (b2 ixP (bLst (bCons (bC (.str "")) (bCons (bC (.str "never")) (bCons (bC (.str "may")) (bCons (bC (.str "must")) bNil))))) (b2 modV (b2 divV (b2 ixP (bV 2) (bC (.int 1))) (bC (.int 28))) (bC (.int 4))))) (sRet (bTup (bCons (bV 5) (bCons (bV 6) (bCons (bV 11) (bCons (bV 12) (bCons (bV 13) (bCons (bV 14) (bCons (bV 15) (bCons (bV 3) bNil)))))))))))))))))))))))
def mi__law_record := mDef 16 2 false fb__law_record
def ce__law_rows_1 := (b2 addV (b2 addV (bV 1) (bC (.str " "))) (bV 0))
def lb__law_rows_2 := (sSeq (sSet 5 (b2 ixP (bV 0) (bV 3))) (sIf (tV (b2 eqQ (b2 modV (b2 divV (bV 1) (b2 ixP (bLst (bCons (bC (.int 1)) (bCons (bC (.int 2)) (bCons (bC (.int 4)) (bCons (bC (.int 8)) (bCons (bC (.int 16)) (bCons (bC (.int 32)) bNil))))))) (bV 3))) (bC (.int 2))) (bC (.int 1)))) (sSet 2 (b2 catV (bV 2) (bComp [none, some 4] (iV (bV 5)) (gN 0) tTrue ce__law_rows_1))) (sIf (tV (b2 neQ (bV 5) (bLst bNil))) (sMut1 appV 2 (b2 addV (b2 addV (bV 4) (bC (.str " "))) (b2 joinV (bC (.str " ")) (bV 5)))) sNx)))
def fb__law_rows := (sSeq (sSet 2 (bLst bNil)) (sSeq (sFor (gT [3, 4]) (iE (bLst (bCons (bC (.str "carry")) (bCons (bC (.str "one")) (bCons (bC (.str "long")) (bCons (bC (.str "either")) (bCons (bC (.str "begin")) (bCons (bC (.str "split")) bNil)))))))) [3, 4, 5] lb__law_rows_2) (sSeq (sIf (tV (b2 neQ (b2 ixP (bV 0) (bC (.int 6))) (bC (.str "")))) (sMut1 appV 2 (b2 addV (bC (.str "run ")) (b2 ixP (bV 0) (bC (.int 6))))) sNx) (sSeq (sSet 6 (b2 modV (b2 divV (bV 1) (bC (.int 64))) (b2 addV (b1 lenV (bV 2)) (bC (.int 1))))) (sRet (b2 catV (bSl (bV 2) (oS (bV 6)) oN) (bSl (bV 2) oN (oS (bV 6)))))))))
def mi__law_rows := mDef 7 2 true fb__law_rows
def lb__law_with_runs_1 := (sMut2 insV 2 (b2 modV (b2 divV (bV 3) (bC (.int 3))) (b2 addV (b1 lenV (bV 2)) (bC (.int 1)))) (b2 addV (bC (.str "run ")) (b2 ixP (bLst (bCons (bC (.str "never")) (bCons (bC (.str "may")) (bCons (bC (.str "must")) bNil)))) (b2 modV (bV 3) (bC (.int 3))))))
def fb__law_with_runs := (sSeq (sSet 2 (b1 listV (bV 0))) (sSeq (sFor (gN 3) (iV (bV 1)) [3] lb__law_with_runs_1) (sRet (bV 2))))
def mi__law_with_runs := mDef 4 2 true fb__law_with_runs
def ce__law_dealt_1 := (b2 ixP (bV 1) (bV 0))
def fb__law_dealt := (sSeq (sSet 3 (b2 sortV (b1 lenV (bV 0)) (bV 1))) (sSeq (sSet 4 (bComp [none, some 0] (iV (bV 3)) (gN 0) tTrue ce__law_dealt_1)) (sSeq (sIf (tV (bV 2)) (sSet 4 (bSlO (b2 addV (bV 4) (b1 evrV (bV 4))) oN (oS (bC (.int 60))))) sNx) (sRet (bV 4)))))
def mi__law_dealt := mDef 5 3 true fb__law_dealt
def lb_told_behind_1 := (sMut2 putV 2 (bV 4) (bC (.bl true)))
def lb_told_behind_2 := (sIf (tV (b2 eqQ (b2 ixP (bV 3) (bC (.int 0))) (bV 0))) (sFor (gN 4) (iV (bSl (bV 3) (oS (bC (.int 1))) oN)) [4] lb_told_behind_1) sNx)
def fb_told_behind := (sSeq (sSet 2 (bC (.dK []))) (sSeq (sFor (gN 3) (iV (bV 1)) [3, 4] lb_told_behind_2) (sRet (bV 2))))
def mi_told_behind := mDef 5 2 false fb_told_behind
def lb_last_run_1 := (sIf (tV (b2 eqQ (b2 ixP (bV 2) (bC (.int 0))) (bC (.str "run")))) (sSet 1 (b2 ixP (bV 2) (bC (.int 1)))) sNx)
def fb_last_run := (sSeq (sSet 1 (bC (.str "never"))) (sSeq (sFor (gN 2) (iV (bV 0)) [2] lb_last_run_1) (sRet (bV 1))))
def mi_last_run := mDef 3 1 false fb_last_run
def lb_told_alike_1 := (sIf (tV (b2 eqQ (b2 ixP (bV 2) (bC (.int 0))) (bC (.str "alike")))) (sMut2 putV 1 (bTup (bCons (b2 ixP (bV 2) (bC (.int 1))) (bCons (b2 ixP (bV 2) (bC (.int 2))) bNil))) (bC (.bl true))) sNx)
def fb_told_alike := (sSeq (sSet 1 (bC (.dT []))) (sSeq (sFor (gN 2) (iV (bV 0)) [2] lb_told_alike_1) (sRet (bV 1))))
def mi_told_alike := mDef 3 1 false fb_told_alike
def fb_is_letter := (sRet (bAnd (b2 eqQ (b1 lenV (bV 0)) (bC (.int 1))) (b2 inQ (bV 0) (bC (.str "abcdefghijklmnopqrstuvwxyz")))))
def mi_is_letter := mDef 1 1 false fb_is_letter
def ce_is_carry_row_1 := (bCall mi_is_letter (bCons (bV 0) bNil))
def fb_is_carry_row := (sRet (bAnd (b2 eqQ (b2 ixP (bV 0) (bC (.int 0))) (bC (.str "carry"))) (bAnd (b2 (cmpV fun i j => decide (j < i)) (b1 lenV (bV 0)) (bC (.int 1))) (b1 allV (bComp [none] (iV (bSl (bV 0) (oS (bC (.int 1))) oN)) (gN 0) tTrue ce_is_carry_row_1)))))
def mi_is_carry_row := mDef 1 1 false fb_is_carry_row
def fb_is_pair_of := (sRet (bAnd (b2 eqQ (b1 lenV (bV 1)) (bC (.int 2))) (bAnd (b2 inQ (b2 ixP (bV 1) (bC (.int 0))) (bV 0)) (b2 inQ (b2 ixP (bV 1) (bC (.int 1))) (bV 0)))))
def mi_is_pair_of := mDef 2 2 false fb_is_pair_of
def ce_is_one_row_1 := (bCall mi_is_pair_of (bCons (bV 1) (bCons (bV 0) bNil)))
def fb_is_one_row := (sRet (bAnd (b2 eqQ (b2 ixP (bV 1) (bC (.int 0))) (bC (.str "one"))) (bAnd (b2 (cmpV fun i j => decide (j < i)) (b1 lenV (bV 1)) (bC (.int 1))) (b1 allV (bComp [none, some 0] (iV (bSl (bV 1) (oS (bC (.int 1))) oN)) (gN 0) tTrue ce_is_one_row_1)))))
def mi_is_one_row := mDef 2 2 false fb_is_one_row
def fb_is_stop := (sRet (bAnd (bCall mi_is_letter (bCons (bV 1) bNil)) (b2 notInQ (bV 1) (bV 0))))
def mi_is_stop := mDef 2 2 false fb_is_stop
def ce_are_alike_units_1 := (b2 inQ (bV 0) (bV 1))
def ce_are_alike_units_2 := (bCall mi_is_stop (bCons (bV 1) (bCons (bV 0) bNil)))
def fb_are_alike_units := (sSeq (sIf (tV (b2 neQ (b1 lenV (bV 2)) (bC (.int 2)))) (sRet (bC (.bl false))) sNx) (sRet (bOr (b1 allV (bComp [none, some 1] (iV (bV 2)) (gN 0) tTrue ce_are_alike_units_1)) (b1 allV (bComp [none, some 0] (iV (bV 2)) (gN 0) tTrue ce_are_alike_units_2)))))
def mi_are_alike_units := mDef 3 3 false fb_are_alike_units
def ce_is_cluster_1 := (bCall mi_is_stop (bCons (bV 1) (bCons (bV 0) bNil)))
def fb_is_cluster := (sRet (bAnd (bChain (fun i j => decide (i ≤ j)) (fun i j => decide (i ≤ j)) (bC (.int 2)) (b1 lenV (bV 1)) (bC (.int 4))) (b1 allV (bComp [none, some 0] (iV (bV 1)) (gN 0) tTrue ce_is_cluster_1))))
def mi_is_cluster := mDef 2 2 false fb_is_cluster
def ce_is_rule_1 := (b2 inQ (bV 0) (bV 1))
def ce_is_rule_2 := (bCall mi_is_cluster (bCons (bV 1) (bCons (bV 0) bNil)))
def fb_is_rule := (sSeq (sSet 3 (b2 ixP (bV 2) (bC (.int 0)))) (sSeq (sSet 4 (bSl (bV 2) (oS (bC (.int 1))) oN)) (sSeq (sSet 5 (b2 addV (b1 listV (bV 0)) (b1 listV (bV 1)))) (sSeq (sIf (tV (b2 eqQ (bV 3) (bC (.str "carry")))) (sRet (bCall mi_is_carry_row (bCons (bV 2) bNil))) sNx) (sSeq (sIf (tV (b2 eqQ (bV 3) (bC (.str "one")))) (sRet (bCall mi_is_one_row (bCons (bV 0) (bCons (bV 2) bNil)))) sNx) (sSeq (sIf (tO (tV (b2 eqQ (bV 3) (bC (.str "long")))) (tV (b2 eqQ (bV 3) (bC (.str "either"))))) (sRet (bAnd (b2 (cmpV fun i j => decide (j < i)) (b1 lenV (bV 4)) (bC (.int 0))) (b1 allV (bComp [none, some 5] (iV (bV 4)) (gN 0) tTrue ce_is_rule_1)))) sNx) (sSeq (sIf (tO (tV (b2 eqQ (bV 3) (bC (.str "begin")))) (tV (b2 eqQ (bV 3) (bC (.str "split"))))) (sRet (bAnd (b2 (cmpV fun i j => decide (j < i)) (b1 lenV (bV 4)) (bC (.int 0))) (b1 allV (bComp [none, some 0] (iV (bV 4)) (gN 0) tTrue ce_is_rule_2)))) sNx) (sSeq (sIf (tV (b2 eqQ (bV 3) (bC (.str "run")))) (sRet (bAnd (b2 eqQ (b1 lenV (bV 4)) (bC (.int 1))) (b2 inQ (b2 ixP (bV 4) (bC (.int 0))) (bC c_RUNS)))) sNx) (sRet (bAnd (b2 eqQ (bV 3) (bC (.str "alike"))) (bCall mi_are_alike_units (bCons (bV 0) (bCons (bV 5) (bCons (bV 4) bNil))))))))))))))
def mi_is_rule := mDef 6 3 false fb_is_rule
def ce_Tongue____init___1 := (b2 splitV (bV 0) (bC (.str " ")))
def ce_Tongue____init___2 := (bV 0)
def cc_Tongue____init___3 := (tV (bCall mi_is_carry_row (bCons (bV 0) bNil)))
def ce_Tongue____init___4 := (bV 0)
def cc_Tongue____init___5 := (tV (bCall mi_is_one_row (bCons (bFld 0 "carrying" (bV 1)) (bCons (bV 0) bNil))))
def lb_Tongue____init___6 := (sIf (tN (tV (bCall mi_is_rule (bCons (bFld 0 "carrying" (bV 0)) (bCons (bFld 0 "pairs" (bV 0)) (bCons (bV 4) bNil)))))) sNo sNx)
def fb_Tongue____init__ := (sSeq (sSet 2 (bComp [none] (iV (bV 1)) (gN 0) tTrue ce_Tongue____init___1)) (sSeq (sMut1 (fsV 0 "carrying") 0 (bCall mi_told_behind (bCons (bC (.str "carry")) (bCons (bComp [none] (iV (bV 2)) (gN 0) cc_Tongue____init___3 ce_Tongue____init___2) bNil)))) (sSeq (sMut1 (fsV 0 "pairs") 0 (bCall mi_told_behind (bCons (bC (.str "one")) (bCons (bComp [none, some 0] (iV (bV 2)) (gN 0) cc_Tongue____init___5 ce_Tongue____init___4) bNil)))) (sSeq (sFor (gT [3, 4]) (iE (bV 2)) [3, 4] lb_Tongue____init___6) (sSeq (sMut1 (fsV 0 "longs") 0 (bCall mi_told_behind (bCons (bC (.str "long")) (bCons (bV 2) bNil)))) (sSeq (sMut1 (fsV 0 "eithers") 0 (bCall mi_told_behind (bCons (bC (.str "either")) (bCons (bV 2) bNil)))) (sSeq (sMut1 (fsV 0 "beginnings") 0 (bCall mi_told_behind (bCons (bC (.str "begin")) (bCons (bV 2) bNil)))) (sSeq (sMut1 (fsV 0 "splittings") 0 (bCall mi_told_behind (bCons (bC (.str "split")) (bCons (bV 2) bNil)))) (sSeq (sMut1 (fsV 0 "running") 0 (bCall mi_last_run (bCons (bV 2) bNil))) (sMut1 (fsV 0 "likes") 0 (bCall mi_told_alike (bCons (bV 2) bNil))))))))))))
def mi_Tongue____init__ : List PV → Option (List (Str × PV)) := mInit 5 2 0 fb_Tongue____init__
def fb_Tongue__carries := (sRet (b2 inQ (bV 1) (bFld 0 "carrying" (bV 0))))
def mi_Tongue__carries := mDef 2 2 false fb_Tongue__carries
def fb_Tongue__weight := (sSeq (sIf (tV (b2 inQ (bV 1) (bFld 0 "longs" (bV 0)))) (sRet (bC (.str "-"))) sNx) (sSeq (sIf (tV (b2 inQ (bV 1) (bFld 0 "eithers" (bV 0)))) (sRet (bC (.str "x"))) sNx) (sRet (bC (.str "u")))))
def mi_Tongue__weight := mDef 2 2 false fb_Tongue__weight
def fb_Tongue__is_pair := (sRet (b2 inQ (bV 1) (bFld 0 "pairs" (bV 0))))
def mi_Tongue__is_pair := mDef 2 2 false fb_Tongue__is_pair
def fb_Tongue__alike := (sRet (bOr (b2 eqQ (bV 1) (bV 2)) (bOr (b2 inQ (bTup (bCons (bV 1) (bCons (bV 2) bNil))) (bFld 0 "likes" (bV 0))) (b2 inQ (bTup (bCons (bV 2) (bCons (bV 1) bNil))) (bFld 0 "likes" (bV 0))))))
def mi_Tongue__alike := mDef 3 3 false fb_Tongue__alike
def fb_Tongue__begins := (sRet (b2 inQ (bV 1) (bFld 0 "beginnings" (bV 0))))
def mi_Tongue__begins := mDef 2 2 false fb_Tongue__begins
def fb_Tongue__splits := (sRet (b2 inQ (bV 1) (bFld 0 "splittings" (bV 0))))
def mi_Tongue__splits := mDef 2 2 false fb_Tongue__splits
def ce__law_told_1 := (bCall mi__law_letter (bCons (b2 ixP (bV 1) (bC (.int 7))) (bCons (bV 0) bNil)))
def ce__law_told_2 := (bMeth 0 "carries" mi_Tongue__carries (bV 1) (bCons (bV 0) bNil))
def ce__law_told_3 := (bMeth 0 "is_pair" mi_Tongue__is_pair (bV 1) (bCons (b2 addV (bV 2) (bV 0)) bNil))
def lb__law_told_4 := (sSet 3 (b2 catV (bV 3) (bComp [none, some 0, some 4] (iV (bSl (bV 2) oN (oS (bC (.int 9))))) (gN 0) tTrue ce__law_told_3)))
def ce__law_told_5 := (bMeth 0 "weight" mi_Tongue__weight (bV 1) (bCons (bV 0) bNil))
def ce__law_told_6 := (bMeth 0 "alike" mi_Tongue__alike (bV 2) (bCons (bV 1) (bCons (bV 0) bNil)))
def lb__law_told_7 := (sSet 3 (b2 catV (bV 3) (bComp [none, some 4, some 0] (iV (bV 5)) (gN 0) tTrue ce__law_told_6)))
def ce__law_told_8 := (bMeth 0 "alike" mi_Tongue__alike (bV 2) (bCons (bV 1) (bCons (bV 0) bNil)))
def lb__law_told_9 := (sSet 3 (b2 catV (bV 3) (bComp [none, some 4, some 0] (iV (bSl (bV 2) (oS (bC (.int 8))) (oS (bC (.int 14))))) (gN 0) tTrue ce__law_told_8)))
def lb__law_told_10 := (sSet 3 (b2 catV (bV 3) (bLst (bCons (bMeth 0 "begins" mi_Tongue__begins (bV 0) (bCons (bV 6) bNil)) (bCons (bMeth 0 "splits" mi_Tongue__splits (bV 0) (bCons (bV 6) bNil)) (bCons (bMeth 0 "begins" mi_Tongue__begins (bV 0) (bCons (bSl (bV 6) (oS (b1 negV (bC (.int 2)))) oN) bNil)) bNil))))))
def fb__law_told := (sSeq (sSet 2 (bComp [none, some 1] (iR1 (bC (.int 26))) (gN 0) tTrue ce__law_told_1)) (sSeq (sSet 3 (bComp [none, some 0] (iV (bV 2)) (gN 0) tTrue ce__law_told_2)) (sSeq (sFor (gN 4) (iV (bSl (bV 2) oN (oS (bC (.int 9))))) [4] lb__law_told_4) (sSeq (sSet 5 (b2 addV (b2 ixP (bV 1) (bC (.int 0))) (b2 ixP (bV 1) (bC (.int 1))))) (sSeq (sSet 3 (b2 catV (bV 3) (bComp [none, some 0] (iV (bV 5)) (gN 0) tTrue ce__law_told_5))) (sSeq (sFor (gN 4) (iV (bV 5)) [4] lb__law_told_7) (sSeq (sFor (gN 4) (iV (bSl (bV 2) (oS (bC (.int 8))) (oS (bC (.int 14))))) [4] lb__law_told_9) (sSeq (sFor (gN 6) (iV (b2 catV (b2 ixP (bV 1) (bC (.int 4))) (b2 ixP (bV 1) (bC (.int 5))))) [6] lb__law_told_10) (sRet (bV 3))))))))))
def mi__law_told := mDef 7 2 false fb__law_told
def fb_Tongue__run := (sRet (bFld 0 "running" (bV 0)))
def mi_Tongue__run := mDef 1 1 false fb_Tongue__run
def ce_law_1 := (bCall mi__law_letter (bCons (b2 ixP (bV 1) (bC (.int 7))) (bCons (b2 addV (bC (.int 8)) (bV 0)) bNil)))
def lb_law_2 := (sSeq (sSet 6 (b2 ixP (bLst (bCons (bV 3) (bCons (bV 4) bNil))) (b2 modV (bV 5) (bC (.int 2))))) (sSeq (sSet 7 (b2 addV (b2 addV (b2 ixP (bV 6) (b2 modV (b2 divV (bV 5) (bC (.int 2))) (b1 lenV (bV 6)))) (bC (.str " "))) (b2 ixP (bV 6) (b2 modV (b2 divV (bV 5) (bC (.int 64))) (b1 lenV (bV 6)))))) (sMut1 appV 2 (b2 addV (bC (.str "alike ")) (bV 7)))))
def lb_law_3 := (sIf (tV (b2 eqQ (bSl (bV 14) oN (oS (bC (.int 4)))) (bC (.str "run ")))) (sSet 13 (bSl (bV 14) (oS (bC (.int 4))) oN)) sNx)
def fb_law := (sSeq (sSet 1 (bCall mi__law_record (bCons (bV 0) (bCons (bC (.int 1)) bNil)))) (sSeq (sSet 2 (bCall mi__law_rows (bCons (b2 catT (bSlT2 (bV 1) oN (oS (bC (.int 6)))) (bTup (bCons (bC (.str "")) (bCons (b2 ixP (bV 1) (bC (.int 7))) bNil)))) (bCons (bCall mi__law_cell_at (bCons (bV 0) (bCons (bC (.int 0)) bNil))) bNil)))) (sSeq (sSet 3 (b2 addV (b2 ixP (bV 1) (bC (.int 0))) (b2 ixP (bV 1) (bC (.int 1))))) (sSeq (sSet 4 (bComp [none, some 1] (iR1 (bC (.int 6))) (gN 0) tTrue ce_law_1)) (sSeq (sFor (gN 5) (iV (bSl (bV 0) (oS (bC (.int 12))) (oS (bC (.int 20))))) [5, 6, 7] lb_law_2) (sSeq (sSet 8 (bCall mi__law_with_runs (bCons (bV 2) (bCons (bSl (bV 0) (oS (bC (.int 9))) (oS (bC (.int 12)))) bNil)))) (sSeq (sSet 9 (b2 addV (bC (.int 1)) (b2 modV (bCall mi__law_cell_at (bCons (bV 0) (bCons (bC (.int 7)) bNil))) (bC (.int 256))))) (sSeq (sSet 10 (bCall mi__law_dealt (bCons (bV 2) (bCons (bV 9) (bCons (b2 eqQ (b2 modV (bCall mi__law_cell_at (bCons (bV 0) (bCons (bC (.int 8)) bNil))) (bC (.int 2))) (bC (.int 1))) bNil))))) (sSeq (sSet 11 (bMakeB 0 mi_Tongue____init__ (bCons (bL (bV 8)) bNil))) (sSeq (sSet 12 (bMakeB 0 mi_Tongue____init__ (bCons (bL (bV 10)) bNil))) (sSeq (sSet 13 (bC (.str "never"))) (sSeq (sForO 8 1000 (gN 14) [14] lb_law_3) (sSeq (sMut0 clearV 8) (sSeq (sMut0 clearV 10) (sSeq (sSet 15 (bCall mi__law_told (bCons (bV 11) (bCons (bV 1) bNil)))) (sSeq (sIf (tO (tV (b2 neQ (bCall mi__law_told (bCons (bV 12) (bCons (bV 1) bNil))) (bV 15))) (tV (b2 neQ (bCall mi__law_told (bCons (bV 11) (bCons (bV 1) bNil))) (bV 15)))) (sRet (bC (.bl false))) sNx) (sRet (bAnd (b2 eqQ (bMeth 0 "run" mi_Tongue__run (bV 11) bNil) (bV 13)) (b2 eqQ (bMeth 0 "run" mi_Tongue__run (bV 12) bNil) (bC (.str "never")))))))))))))))))))))
def mi_law := mDef 16 1 false fb_law
end
end My
namespace My
open PySem L2 MR
abbrev LET : Str := "abcdefghijklmnopqrstuvwxyz"
def isLetter (x : Str) : Bool := decide (x.length = 1) && !(Builtin.Str.occurrences LET x 0 LET.length 1).isEmpty
def carryRow : List Str → Bool
  | w :: r => decide (w = ("carry" : Str)) && decide (0 < r.length) && r.all isLetter
  | [] => false
def pairOf (C : Str → Bool) (x : Str) : Bool := match x.cps.toList with
  | [a, b] => C ⟨#[a]⟩ && C ⟨#[b]⟩
  | _ => false
def oneRow (C : Str → Bool) : List Str → Bool
  | w :: r => decide (w = ("one" : Str)) && decide (0 < r.length) && r.all (pairOf C)
  | [] => false
def stopOk (C : Str → Bool) (x : Str) : Bool := isLetter x && !C x
def clusterOk (C : Str → Bool) (x : Str) : Bool := decide (2 ≤ x.length) && decide (x.length ≤ 4) && x.cps.toList.all fun c => stopOk C ⟨#[c]⟩
def alikeUnits (C : Str → Bool) (cs ws : List Str) : Bool := decide (ws.length = 2) && (ws.all (fun w => decide (w ∈ cs)) || ws.all (stopOk C))
def isRule (C : Str → Bool) (cs : List Str) : List Str → Bool
  | w :: r =>
    if w = ("carry" : Str) then carryRow (w :: r)
    else if w = ("one" : Str) then oneRow C (w :: r)
    else if w = ("long" : Str) ∨ w = ("either" : Str) then decide (0 < r.length) && r.all fun x => decide (x ∈ cs)
    else if w = ("begin" : Str) ∨ w = ("split" : Str) then decide (0 < r.length) && r.all (clusterOk C)
    else if w = ("run" : Str) then decide (r.length = 1) && r.all fun x => decide (x = ("never" : Str) ∨ x = ("may" : Str) ∨ x = ("must" : Str))
    else decide (w = ("alike" : Str)) && alikeUnits C cs r
  | [] => false
def Few (ws : List Str) : Prop := ws.length ≤ 1000 ∧ ∀ x ∈ ws, x.length ≤ 1000
def inS (ks : List Str) (x : Str) : Bool := decide (x ∈ ks)
theorem mi_letter {x : Str} (h : x.length ≤ 1000) : mi_is_letter [.str x] = some (.bl (isLetter x)) := by
  have h' : x.length ≤ 1000000 := by omega
  simp [mi_is_letter, fb_is_letter, eqQ, eqP, h', isLetter, inP]
  by_cases e : (x.length : Int) = 1
  · have e' : x.length = 1 := by omega
    simp [e, e']
  · have e' : ¬ x.length = 1 := by omega
    simp [e, e']
theorem cutP_tail {α : Type} (f : α → PV) (w : α) (r : List α) : cutP ((w :: r).map f) (some 1) none = r.map f := by
  unfold cutP
  have h1 : HT.sIx ((w :: r).map f).length 0 (some ((1 : Nat) : Int)) = 1 := by
    rw [HT.sIx_nat]; simp
  have h1' : HT.sIx ((w :: r).map f).length 0 (some 1) = 1 := h1
  rw [h1', HT.sIx_none]
  simp only [List.map_cons, List.drop_succ_cons, List.drop_zero]
  exact List.take_of_length_le (by simp)
theorem bools_map {α : Type} (p : α → Bool) : ∀ l : List α, bools (l.map fun x => PV.bl (p x)) = some (l.map p)
  | [] => rfl
  | x :: l => by simp [bools_map p l]
theorem mi_carry {w : Str} {r : List Str} (hf : Few (w :: r)) : mi_is_carry_row [.lst ((w :: r).map .str)] = some (.bl (carryRow (w :: r))) := by
  have hl : r.length ≤ 1000 := by have := hf.1; simp at this; omega
  have hc : compL [none] (gN 0) tTrue ce_is_carry_row_1 (r.map .str) = some (r.map fun x => .bl (isLetter x)) :=
    compL_map _ _ r fun y hy => ⟨_, rfl, by simp [ce_is_carry_row_1, mi_letter (hf.2 y (List.mem_cons_of_mem _ hy))]⟩
  have h0 : atI ((w :: r).map PV.str) 0 = some (.str w) := atI_at (k := 0) rfl
  have ht := cutP_tail PV.str w r
  simp only [List.map_cons] at h0 ht
  simp [mi_is_carry_row, fb_is_carry_row, h0, ht, eqQ, eqP, carryRow]
  by_cases e : w = ("carry" : Str)
  · subst e
    simp
    by_cases e2 : (1 : Int) < (r.length : Int) + 1
    · have e3 : 0 < r.length := by omega
      have hl' : r.length ≤ 1000000 := by omega
      simp [e2, e3, hc, hl', bools_map]
    · have e3 : ¬ 0 < r.length := by omega
      simp [e2, e3]
  · simp [e]
end My
namespace My
open PySem L2 MR
theorem two_signs {x : Str} (h : x.length = 2) : ∃ a b, x.cps.toList = [a, b] := by
  have h' : x.cps.toList.length = 2 := by rw [Array.length_toList]; exact h
  match hx : x.cps.toList, h' with
  | [a, b], _ => exact ⟨a, b, rfl⟩
theorem mi_pair {ks : List Str} {x : Str} (h : x.length ≤ 1000) : mi_is_pair_of [.dK (sdP ks), .str x] = some (.bl (pairOf (inS ks) x)) := by
  have h' : x.length ≤ 1000000 := by omega
  simp [mi_is_pair_of, fb_is_pair_of, h']
  by_cases e : (x.length : Int) = 2
  · obtain ⟨a, c, hs⟩ := two_signs (x := x) (by omega)
    have a0 : atI x.cps.toList 0 = some a := by rw [hs]; exact atI_at (k := 0) rfl
    have a1 : atI x.cps.toList 1 = some c := by rw [hs]; exact atI_at (k := 1) rfl
    have ep : pairOf (inS ks) x = (inS ks ⟨#[a]⟩ && inS ks ⟨#[c]⟩) := by unfold pairOf; rw [hs]
    rw [ep]
    simp [e, a0, a1, inP_sd, inS]
    by_cases m : (⟨#[a]⟩ : Str) ∈ ks <;> simp [m]
  · have e1 : pairOf (inS ks) x = false := by
      unfold pairOf
      split
      · rename_i a c hs
        have : x.cps.toList.length = 2 := by rw [hs]; rfl
        rw [Array.length_toList] at this
        exact absurd (show ((x.length : Nat) : Int) = 2 by unfold Str.length; omega) e
      · rfl
    simp [e, e1]
theorem mi_one {ks : List Str} {w : Str} {r : List Str} (hf : Few (w :: r)) : mi_is_one_row [.dK (sdP ks), .lst ((w :: r).map .str)] = some (.bl (oneRow (inS ks) (w :: r))) := by
  have hl : r.length ≤ 1000 := by have := hf.1; simp at this; omega
  have hc : compL [none, some (.dK (sdP ks))] (gN 0) tTrue ce_is_one_row_1 (r.map .str) = some (r.map fun x => .bl (pairOf (inS ks) x)) :=
    compL_map _ _ r fun y hy => ⟨_, rfl, by simp [ce_is_one_row_1, mi_pair (hf.2 y (List.mem_cons_of_mem _ hy))]⟩
  have h0 : atI ((w :: r).map PV.str) 0 = some (.str w) := atI_at (k := 0) rfl
  have ht := cutP_tail PV.str w r
  simp only [List.map_cons] at h0 ht
  simp [mi_is_one_row, fb_is_one_row, h0, ht, oneRow]
  by_cases e : w = ("one" : Str)
  · subst e
    simp
    by_cases e2 : (1 : Int) < (r.length : Int) + 1
    · have e3 : 0 < r.length := by omega
      have hl' : r.length ≤ 1000000 := by omega
      simp [e2, e3, hc, hl', bools_map]
    · have e3 : ¬ 0 < r.length := by omega
      simp [e2, e3]
  · simp [e]
theorem mi_stop {ks : List Str} {x : Str} (h : x.length ≤ 1000) : mi_is_stop [.dK (sdP ks), .str x] = some (.bl (stopOk (inS ks) x)) := by
  simp [mi_is_stop, fb_is_stop, mi_letter h, stopOk, inP_sd, inS]
  cases isLetter x <;> simp
theorem chV_map (x : Str) : chV x = x.cps.toList.map fun c => PV.str ⟨#[c]⟩ := rfl
theorem mi_cluster {ks : List Str} {x : Str} (h : x.length ≤ 1000) : mi_is_cluster [.dK (sdP ks), .str x] = some (.bl (clusterOk (inS ks) x)) := by
  have h' : x.length ≤ 1000000 := by omega
  have hl : x.cps.toList.length = x.length := Array.length_toList
  have hc : compL [none, some (.dK (sdP ks))] (gN 0) tTrue ce_is_cluster_1 (chV x) = some (x.cps.toList.map fun c => .bl (stopOk (inS ks) ⟨#[c]⟩)) := by
    rw [chV_map]
    exact compL_map _ _ _ fun y hy => ⟨_, rfl, by simp [ce_is_cluster_1, mi_stop (ks := ks) (x := ⟨#[y]⟩) (by show 1 ≤ 1000; decide)]⟩
  have hcl : (chV x).length ≤ 1000000 := by unfold chV; rw [List.length_map, hl]; exact h'
  simp [mi_is_cluster, fb_is_cluster, h', clusterOk]
  by_cases e : (2 : Int) ≤ x.length
  · have e1 : 2 ≤ x.length := by omega
    simp [e, e1]
    by_cases e2 : (x.length : Int) ≤ 4
    · have e3 : x.length ≤ 4 := by omega
      simp [e2, e3, hc, hcl, bools_map]
    · have e3 : ¬ x.length ≤ 4 := by omega
      simp [e2, e3]
  · have e1 : ¬ 2 ≤ x.length := by omega
    simp [e, e1]
theorem any_strs (x : Str) : ∀ cs : List Str, ((cs.map PV.str).any fun y => eqF y (.str x)) = decide (x ∈ cs)
  | [] => by simp
  | c :: r => by
    have ih := any_strs x r
    rw [List.map_cons, List.any_cons, ih]
    by_cases h : c = x
    · subst h; simp [eqF]
    · have h' : ¬ x = c := fun e => h e.symm
      simp [eqF, h, h']
theorem flat_strs : ∀ cs : List Str, (cs.map PV.str).all flatP = true
  | [] => rfl
  | _ :: r => by simp [flat_strs r]
theorem inP_strs (x : Str) (cs : List Str) : inP (.str x) (.lst (cs.map .str)) = some (decide (x ∈ cs)) := by
  have h := any_strs x cs
  have hf := flat_strs cs
  unfold inP
  simp only [hf, h, flatP, and_self, if_true]
theorem mi_units {ks cs ws : List Str} (hf : Few ws) : mi_are_alike_units [.dK (sdP ks), .lst (cs.map .str), .lst (ws.map .str)] = some (.bl (alikeUnits (inS ks) cs ws)) := by
  have hl : ws.length ≤ 1000000 := by have := hf.1; omega
  have h1 : compL [none, some (.lst (cs.map .str))] (gN 0) tTrue ce_are_alike_units_1 (ws.map .str) = some (ws.map fun x => .bl (decide (x ∈ cs))) :=
    compL_map _ _ ws fun y hy => ⟨_, rfl, by simp [ce_are_alike_units_1, inP_strs]⟩
  have h2 : compL [none, some (.dK (sdP ks))] (gN 0) tTrue ce_are_alike_units_2 (ws.map .str) = some (ws.map fun x => .bl (stopOk (inS ks) x)) :=
    compL_map _ _ ws fun y hy => ⟨_, rfl, by simp [ce_are_alike_units_2, mi_stop (hf.2 y hy)]⟩
  simp [mi_are_alike_units, fb_are_alike_units, alikeUnits]
  by_cases e : (ws.length : Int) = 2
  · have e' : ws.length = 2 := by omega
    simp [e, e', h1, h2, hl, bools_map]
    cases (ws.all fun x => decide (x ∈ cs)) <;> simp
  · have e' : ¬ ws.length = 2 := by omega
    simp [e, e']
theorem keys_sdP (ks : List Str) : (sdP ks).map (fun kv => unKey kv.1) = ks.map PV.str := by
  unfold sdP; rw [List.map_map]; rfl
theorem sSeq_nx' {f g : MR.Env → Option Out} {env e : MR.Env} (h : f env = some (.nx e)) : sSeq f g env = g e := by simp [h]
theorem peel_f {c : MR.Env → Option Bool} {f g : MR.Env → Option Out} {env : MR.Env} (h : c env = some false) : sSeq (sIf c f sNx) g env = g env := by simp [h]
theorem peel_t {c : MR.Env → Option Bool} {f g : MR.Env → Option Out} {env : MR.Env} {p : PV} (h : c env = some true) (h' : f env = some (.rt p)) : sSeq (sIf c f sNx) g env = some (.rt p) := by simp [h, h']
theorem cond_eq {env : MR.Env} {w : Str} (h : bV 3 env = some (.str w)) (s : Str) : tV (b2 eqQ (bV 3) (bC (.str s))) env = some (decide (w = s)) := by
  simp only [tV_ap, b2_ap, h, Option.bind_some, bC_ap, eqQ_ap, eqP_str, Option.map_some]
theorem cond_or {env : MR.Env} {w : Str} (h : bV 3 env = some (.str w)) (s t : Str) : tO (tV (b2 eqQ (bV 3) (bC (.str s)))) (tV (b2 eqQ (bV 3) (bC (.str t)))) env = some (decide (w = s ∨ w = t)) := by
  rw [tO_ap, cond_eq h, cond_eq h]
  by_cases q : w = s <;> simp [q]
theorem ret_some {f : MR.Env → Option PV} {env : MR.Env} {p : PV} (h : f env = some p) : sRet f env = some (.rt p) := by simp [h]
theorem all_bl {env : MR.Env} {cap : List (Option Nat)} {ce : MR.Env → Option PV} {r : List Str} {q : Str → Bool} (h4 : bV 4 env = some (.lst (r.map .str))) (hl : r.length ≤ 1000000) (hc : compL (capE cap env) (gN 0) tTrue ce (r.map .str) = some (r.map fun x => .bl (q x))) :
    bAnd (b2 (cmpV fun i j => decide (j < i)) (b1 lenV (bV 4)) (bC (.int 0))) (b1 allV (bComp cap (iV (bV 4)) (gN 0) tTrue ce)) env = some (.bl (decide (0 < r.length) && r.all q)) := by
  have hbl := bools_map q r
  rw [bAnd_ap, b2_ap, b1_ap, h4, b1_ap, bComp_ap, iV_ap, h4]
  simp only [Option.bind_some, lenV, bC_ap, cmpV, itV, List.length_map, hl, if_true, hc, allV, hbl, Option.map_some]
  cases r with
  | nil => rfl
  | cons x r =>
    have h1 : (0 : Int) < ((x :: r).length : Int) := by simp
    simp only [h1, decide_true]
    simp
theorem mi_rule {ks ps : List Str} {w : Str} {r : List Str} (hf : Few (w :: r)) (hk : ks.length ≤ 100000) (hp : ps.length ≤ 100000) :
    mi_is_rule [.dK (sdP ks), .dK (sdP ps), .lst ((w :: r).map .str)] = some (.bl (isRule (inS ks) (ks ++ ps) (w :: r))) := by
  have hl : r.length ≤ 1000 := by have := hf.1; simp at this; omega
  have hl' : r.length ≤ 1000000 := by omega
  have rf : Few r := ⟨hl, fun x hx => hf.2 x (List.mem_cons_of_mem _ hx)⟩
  have h0 : atI ((w :: r).map PV.str) 0 = some (.str w) := atI_at (k := 0) rfl
  have ht := cutP_tail PV.str w r
  have hC := mi_carry hf
  have hO := mi_one (ks := ks) hf
  have hU := mi_units (ks := ks) (cs := ks ++ ps) rf
  have c1 : compL [none, some (.lst ((ks ++ ps).map .str))] (gN 0) tTrue ce_is_rule_1 (r.map .str) = some (r.map fun x => .bl (decide (x ∈ ks ++ ps))) :=
    compL_map _ _ r fun y hy => ⟨_, rfl, by simp only [ce_is_rule_1, b2, bV, inQ]; simp only [List.set, List.getElem?_cons_zero, List.getElem?_cons_succ, Option.bind_some, inP_strs, Option.map_some]⟩
  have c2 : compL [none, some (.dK (sdP ks))] (gN 0) tTrue ce_is_rule_2 (r.map .str) = some (r.map fun x => .bl (clusterOk (inS ks) x)) :=
    compL_map _ _ r fun y hy => ⟨_, rfl, by simp [ce_is_rule_2, mi_cluster (rf.2 y hy)]⟩
  have hz : ks.length + ps.length ≤ 1000000 := by omega
  generalize hrow : PV.lst ((w :: r).map .str) = row at hC hO
  generalize hcs : ks ++ ps = cs at c1 hU
  have s1 : sSet 3 (b2 ixP (bV 2) (bC (.int 0))) [some (.dK (sdP ks)), some (.dK (sdP ps)), some row, none, none, none] = some (.nx [some (.dK (sdP ks)), some (.dK (sdP ps)), some row, some (.str w), none, none]) := by
    subst hrow
    simp only [sSet_ap, b2_ap, bV, List.getElem?_cons_succ, List.getElem?_cons_zero, Option.bind_some, bC_ap, ixP, h0, List.set]
  have s2 : sSet 4 (bSl (bV 2) (oS (bC (.int 1))) oN) [some (.dK (sdP ks)), some (.dK (sdP ps)), some row, some (.str w), none, none] = some (.nx [some (.dK (sdP ks)), some (.dK (sdP ps)), some row, some (.str w), some (.lst (r.map .str)), none]) := by
    subst hrow
    simp [-List.map_cons, ht]
  have s3 : sSet 5 (b2 addV (b1 listV (bV 0)) (b1 listV (bV 1))) [some (.dK (sdP ks)), some (.dK (sdP ps)), some row, some (.str w), some (.lst (r.map .str)), none] = some (.nx [some (.dK (sdP ks)), some (.dK (sdP ps)), some row, some (.str w), some (.lst (r.map .str)), some (.lst (cs.map .str))]) := by
    subst hcs
    simp [keys_sdP, sdP_length, hz]
  have g3 : bV 3 [some (.dK (sdP ks)), some (.dK (sdP ps)), some row, some (.str w), some (.lst (r.map .str)), some (.lst (cs.map .str))] = some (.str w) := rfl
  have g4 : bV 4 [some (.dK (sdP ks)), some (.dK (sdP ps)), some row, some (.str w), some (.lst (r.map .str)), some (.lst (cs.map .str))] = some (.lst (r.map .str)) := rfl
  have fb : fb_is_rule [some (.dK (sdP ks)), some (.dK (sdP ps)), some row, none, none, none] = some (.rt (.bl (isRule (inS ks) cs (w :: r)))) := by
    have hC' : sRet (bCall mi_is_carry_row (bCons (bV 2) bNil)) [some (.dK (sdP ks)), some (.dK (sdP ps)), some row, some (.str w), some (.lst (r.map .str)), some (.lst (cs.map .str))] = _ := ret_some (by rw [bCall_ap]; exact hC)
    have hO' : sRet (bCall mi_is_one_row (bCons (bV 0) (bCons (bV 2) bNil))) [some (.dK (sdP ks)), some (.dK (sdP ps)), some row, some (.str w), some (.lst (r.map .str)), some (.lst (cs.map .str))] = _ := ret_some (by rw [bCall_ap]; exact hO)
    have a1 := all_bl (cap := [none, some 5]) (q := fun x => decide (x ∈ cs)) g4 hl' c1
    have a2 := all_bl (cap := [none, some 0]) (q := fun x => clusterOk (inS ks) x) g4 hl' c2
    generalize hE : [some (PV.dK (sdP ks)), some (.dK (sdP ps)), some row, some (.str w), some (.lst (r.map .str)), some (.lst (cs.map .str))] = E at s3 g3 g4 hC' hO' a1 a2
    unfold fb_is_rule
    rw [sSeq_nx' s1, sSeq_nx' s2, sSeq_nx' s3]
    by_cases n1 : w = ("carry" : Str)
    · rw [peel_t (by rw [cond_eq g3, decide_eq_true n1]) hC']
      simp only [isRule, if_pos n1]
    rw [peel_f (by rw [cond_eq g3, decide_eq_false n1])]
    by_cases n2 : w = ("one" : Str)
    · rw [peel_t (by rw [cond_eq g3, decide_eq_true n2]) hO']
      simp only [isRule, if_neg n1, if_pos n2]
    rw [peel_f (by rw [cond_eq g3, decide_eq_false n2])]
    by_cases n3 : w = ("long" : Str) ∨ w = ("either" : Str)
    · rw [peel_t (by rw [cond_or g3, decide_eq_true n3]) (ret_some a1)]
      simp only [isRule, if_neg n1, if_neg n2, if_pos n3]
    rw [peel_f (by rw [cond_or g3, decide_eq_false n3])]
    by_cases n4 : w = ("begin" : Str) ∨ w = ("split" : Str)
    · rw [peel_t (by rw [cond_or g3, decide_eq_true n4]) (ret_some a2)]
      simp only [isRule, if_neg n1, if_neg n2, if_neg n3, if_pos n4]
    rw [peel_f (by rw [cond_or g3, decide_eq_false n4])]
    by_cases n5 : w = ("run" : Str)
    · have a3 : bAnd (b2 eqQ (b1 lenV (bV 4)) (bC (.int 1))) (b2 inQ (b2 ixP (bV 4) (bC (.int 0))) (bC c_RUNS)) E = some (.bl (decide (r.length = 1) && r.all fun x => decide (x = ("never" : Str) ∨ x = ("may" : Str) ∨ x = ("must" : Str)))) := by
        rw [bAnd_ap, b2_ap, b1_ap, g4, b2_ap, b2_ap, g4]
        clear hE
        match r with
        | [] => rfl
        | [x] =>
          have h8 : inP (.str x) c_RUNS = some (decide (x = ("never" : Str) ∨ x = ("may" : Str) ∨ x = ("must" : Str))) := by
            have q := any_strs x ["never", "may", "must"]
            simp only [List.map_cons, List.map_nil] at q
            unfold c_RUNS inP
            simp only [flatP, List.all_cons, List.all_nil, Bool.and_self, and_self, if_true, q]
            simp
          have h9 : atI [PV.str x] 0 = some (.str x) := atI_at (k := 0) rfl
          simp [h9, h8]
        | x :: y :: r' =>
          have : ¬ ((r'.length : Int) + 1 + 1 = 1) := by omega
          simp [this]
      rw [peel_t (by rw [cond_eq g3, decide_eq_true n5]) (ret_some a3)]
      simp only [isRule, if_neg n1, if_neg n2, if_neg n3, if_neg n4, if_pos n5]
    rw [peel_f (by rw [cond_eq g3, decide_eq_false n5])]
    refine ret_some ?_
    have e : isRule (inS ks) cs (w :: r) = (decide (w = ("alike" : Str)) && alikeUnits (inS ks) cs r) := by
      simp only [isRule, if_neg n1, if_neg n2, if_neg n3, if_neg n4, if_neg n5]
    rw [e, bAnd_ap, b2_ap, g3]
    simp only [Option.bind_some, bC_ap, eqQ_ap, eqP_str, Option.map_some]
    by_cases n6 : w = ("alike" : Str)
    · subst hE
      simp [n6, hU]
    · simp [n6]
  subst hcs
  simp [mi_is_rule, fb]
end My
namespace My
open PySem L2 MR
def rowP (ws : List Str) : PV := .lst (ws.map .str)
def rowsP (rs : List (List Str)) : List PV := rs.map rowP
theorem told_in {kind : Str} {q : PV} {row : PV} : ∀ (ws ks : List Str), ks.length + ws.length < 1000000 →
    loopS (gN 4) [4] lb_told_behind_1 (ws.map .str) [some (.str kind), some q, some (.dK (sdP ks)), some row, none] = some (.nx [some (.str kind), some q, some (.dK (sdP (addKs ks ws))), some row, none])
  | [], ks, _ => rfl
  | w :: ws, ks, h => by
    have h1 : (sdP ks).length < 1000000 := by rw [sdP_length]; simp at h; omega
    have h2 := addK_len ks w
    have ih := told_in (kind := kind) (q := q) (row := row) ws (addK ks w) (by simp at h; omega)
    have e : addKs ks (w :: ws) = addKs (addK ks w) ws := rfl
    rw [e, ← ih]
    simp [loopS, lb_told_behind_1, h1, sdP_put]
theorem told_out {kind : Str} {q : PV} : ∀ (rs : List (List Str)) (ks : List Str), (∀ ws ∈ rs, ws ≠ []) → ks.length + total rs < 1000000 →
    loopS (gN 3) [3, 4] lb_told_behind_2 (rowsP rs) [some (.str kind), some q, some (.dK (sdP ks)), none, none] = some (.nx [some (.str kind), some q, some (.dK (sdP (rs.foldl (tellStep kind) ks))), none, none])
  | [], ks, _, _ => rfl
  | [] :: rs, ks, hne, _ => absurd rfl (hne [] List.mem_cons_self)
  | (c :: r) :: rs, ks, hne, h => by
    have ht : ks.length + (r.length + 1) + total rs < 1000000 := by unfold total at h ⊢; simp at h; omega
    have h0 : atI ((c :: r).map PV.str) 0 = some (.str c) := atI_at (k := 0) rfl
    have hc := cutP_tail PV.str c r
    simp only [List.map_cons] at h0 hc
    have key : lb_told_behind_2 [some (.str kind), some q, some (.dK (sdP ks)), some (rowP (c :: r)), none] = some (.nx [some (.str kind), some q, some (.dK (sdP (tellStep kind ks (c :: r)))), some (rowP (c :: r)), none]) := by
      by_cases e : c = kind
      · subst e
        have hi := told_in (kind := c) (q := q) (row := rowP (c :: r)) r ks (by omega)
        simp only [rowP, List.map_cons] at hi
        simp [lb_told_behind_2, rowP, h0, hc, tellStep, hi]
      · simp [lb_told_behind_2, rowP, h0, hc, tellStep, e]
    have hl : (tellStep kind ks (c :: r)).length ≤ ks.length + (r.length + 1) := by
      show (if c = kind then addKs ks r else ks).length ≤ _
      split
      · have := addKs_len r ks; omega
      · omega
    have ih := told_out (kind := kind) (q := q) rs (tellStep kind ks (c :: r)) (fun ws hws => hne ws (List.mem_cons_of_mem _ hws)) (by omega)
    rw [List.foldl_cons, ← ih]
    show loopS (gN 3) [3, 4] lb_told_behind_2 (rowP (c :: r) :: rowsP rs) _ = _
    simp [loopS, key]
theorem mi_told {kind : Str} {rs : List (List Str)} (hne : ∀ ws ∈ rs, ws ≠ []) (h : total rs < 1000000) : mi_told_behind [.str kind, .lst (rowsP rs)] = some (.dK (sdP (tell kind rs))) := by
  have hl := told_out (kind := kind) (q := .lst (rowsP rs)) rs [] hne (by simpa using h)
  have e : ([] : List (Key × PV)) = sdP [] := rfl
  simp [mi_told_behind, fb_told_behind, e, hl, tell]
def runStep (t : Str) : List Str → Str
  | c :: x :: _ => if c = ("run" : Str) then x else t
  | _ => t
def lastRun (rs : List (List Str)) : Str := rs.foldl runStep ("never" : Str)
theorem mi_run {rs : List (List Str)} (hne : ∀ ws ∈ rs, ws ≠ []) (hrun : ∀ r, (("run" : Str) :: r) ∈ rs → r ≠ []) : mi_last_run [.lst (rowsP rs)] = some (.str (lastRun rs)) := by
  have hl := loopS_fold (g := gN 2) (ds := [2]) (body := lb_last_run_1) rowP (fun s : Str => [some (.lst (rowsP rs)), some (.str s), none]) runStep rs ("never" : Str) (fun ws hws s => by
    cases ws with
    | nil => exact absurd rfl (hne _ hws)
    | cons c r =>
      have h0 : atI ((c :: r).map PV.str) 0 = some (.str c) := atI_at (k := 0) rfl
      simp only [List.map_cons] at h0
      by_cases e : c = ("run" : Str)
      · cases r with
        | nil => subst e; exact absurd rfl (hrun _ hws)
        | cons x r =>
          subst e
          have h1 : atI (((("run" : Str) :: x :: r)).map PV.str) 1 = some (.str x) := atI_at (k := 1) rfl
          simp only [List.map_cons] at h0 h1
          exact ⟨_, _, rfl, by simp [lb_last_run_1, rowP, h0, h1]; rfl, by simp [runStep]⟩
      · refine ⟨_, _, rfl, by simp [lb_last_run_1, rowP, h0, e]; rfl, ?_⟩
        cases r <;> simp [runStep, e])
  simp [mi_last_run, fb_last_run, lastRun]
  unfold rowsP at hl ⊢
  simp [hl]
def addP (ks : List (Str × Str)) (x : Str × Str) : List (Str × Str) := if x ∈ ks then ks else ks ++ [x]
def likeStep (ks : List (Str × Str)) : List Str → List (Str × Str)
  | c :: x :: y :: _ => if c = ("alike" : Str) then addP ks (x, y) else ks
  | _ => ks
def likes (rs : List (List Str)) : List (Str × Str) := rs.foldl likeStep []
def pk (x : Str × Str) : List Key := [Sum.inr x.1, Sum.inr x.2]
theorem pk_inj {x y : Str × Str} (h : pk x = pk y) : x = y := by
  obtain ⟨a, b⟩ := x
  obtain ⟨c, d⟩ := y
  simp [pk] at h
  rw [h.1, h.2]
def sdT (ks : List (Str × Str)) : List (List Key × PV) := ks.map fun x => (pk x, PV.bl true)
theorem sdT_length (ks : List (Str × Str)) : (sdT ks).length = ks.length := by simp [sdT]
theorem sdT_look (x : Str × Str) : ∀ ks : List (Str × Str), dLook (sdT ks) (pk x) = if x ∈ ks then some (.bl true) else none
  | [] => rfl
  | k :: r => by
    have ih := sdT_look x r
    unfold dLook at ih ⊢
    show (((pk k, PV.bl true) :: sdT r).find? _).map _ = _
    by_cases h : k = x
    · subst h; simp
    · have h' : ¬ x = k := fun e => h e.symm
      have hk : ¬ pk k = pk x := fun e => h (pk_inj e)
      rw [List.find?_cons_of_neg (by simpa using hk), ih]
      simp [h']
theorem sdT_put (ks : List (Str × Str)) (x : Str × Str) : dPut (sdT ks) (pk x) (.bl true) = sdT (addP ks x) := by
  have hany : ((sdT ks).any fun kv => decide (kv.1 = pk x)) = decide (x ∈ ks) := by
    unfold sdT
    rw [List.any_map]
    induction ks with
    | nil => simp
    | cons k r ih =>
      rw [List.any_cons, ih]
      by_cases h : k = x
      · subst h; simp
      · have h' : ¬ x = k := fun e => h e.symm
        have hk : ¬ pk k = pk x := fun e => h (pk_inj e)
        simp [hk, h']
  unfold dPut addP
  rw [hany]
  by_cases h : x ∈ ks
  · rw [if_pos (by simpa using h), if_pos h]
    unfold sdT
    rw [List.map_map]
    refine List.map_congr_left fun y _ => ?_
    by_cases e : y = x
    · subst e; simp
    · have : ¬ pk y = pk x := fun z => e (pk_inj z)
      simp [this]
  · rw [if_neg (by simpa using h), if_neg h]
    unfold sdT
    simp
theorem addP_len (ks : List (Str × Str)) (x : Str × Str) : (addP ks x).length ≤ ks.length + 1 := by
  unfold addP; split <;> simp
theorem likeStep_len (ks : List (Str × Str)) (ws : List Str) : (likeStep ks ws).length ≤ ks.length + 1 := by
  unfold likeStep
  split
  · split
    · exact addP_len _ _
    · exact Nat.le_add_right _ _
  · exact Nat.le_add_right _ _
theorem likeStep_no {ks : List (Str × Str)} {c : Str} {r : List Str} (e : ¬ c = ("alike" : Str)) : likeStep ks (c :: r) = ks := by
  cases r with
  | nil => rfl
  | cons x r =>
    cases r with
    | nil => rfl
    | cons y r => simp [likeStep, e]
theorem like_out {q : PV} : ∀ (rs : List (List Str)) (ks : List (Str × Str)), (∀ ws ∈ rs, ws ≠ []) → (∀ r, (("alike" : Str) :: r) ∈ rs → 2 ≤ r.length) → ks.length + rs.length < 1000000 →
    loopS (gN 2) [2] lb_told_alike_1 (rowsP rs) [some q, some (.dT (sdT ks)), none] = some (.nx [some q, some (.dT (sdT (rs.foldl likeStep ks))), none])
  | [], ks, _, _, _ => rfl
  | [] :: rs, ks, hne, _, _ => absurd rfl (hne [] List.mem_cons_self)
  | (c :: r) :: rs, ks, hne, hal, h => by
    have hk : (sdT ks).length < 1000000 := by rw [sdT_length]; omega
    have key : lb_told_alike_1 [some q, some (.dT (sdT ks)), some (rowP (c :: r))] = some (.nx [some q, some (.dT (sdT (likeStep ks (c :: r)))), some (rowP (c :: r))]) := by
      by_cases e : c = ("alike" : Str)
      · subst e
        have h2 := hal r List.mem_cons_self
        match r, h2 with
        | x :: y :: r, _ =>
          have h0 : atI (((("alike" : Str) :: x :: y :: r)).map PV.str) 0 = some (.str "alike") := atI_at (k := 0) rfl
          have h1 : atI (((("alike" : Str) :: x :: y :: r)).map PV.str) 1 = some (.str x) := atI_at (k := 1) rfl
          have h2 : atI (((("alike" : Str) :: x :: y :: r)).map PV.str) 2 = some (.str y) := atI_at (k := 2) rfl
          have hp := sdT_put ks (x, y)
          simp only [List.map_cons] at h0 h1 h2
          simp only [pk] at hp
          simp [lb_told_alike_1, rowP, h0, h1, h2, hk, likeStep, hp]
      · have h0 : atI ((c :: r).map PV.str) 0 = some (.str c) := atI_at (k := 0) rfl
        simp only [List.map_cons] at h0
        simp [lb_told_alike_1, rowP, h0, e, likeStep_no e]
    have hl := likeStep_len ks (c :: r)
    have ih := like_out (q := q) rs (likeStep ks (c :: r)) (fun ws hws => hne ws (List.mem_cons_of_mem _ hws)) (fun r hr => hal r (List.mem_cons_of_mem _ hr)) (by simp at h; omega)
    rw [List.foldl_cons, ← ih]
    show loopS (gN 2) [2] lb_told_alike_1 (rowP (c :: r) :: rowsP rs) _ = _
    simp [loopS, key]
theorem mi_likes {rs : List (List Str)} (hne : ∀ ws ∈ rs, ws ≠ []) (hal : ∀ r, (("alike" : Str) :: r) ∈ rs → 2 ≤ r.length) (h : rs.length < 1000000) : mi_told_alike [.lst (rowsP rs)] = some (.dT (sdT (likes rs))) := by
  have hl := like_out (q := .lst (rowsP rs)) rs [] hne hal (by simpa using h)
  have e : ([] : List (List Key × PV)) = sdT [] := rfl
  simp [mi_told_alike, fb_told_alike, e, hl, likes]
end My
namespace My
open PySem
def isAt (x : Str) (c i : Nat) : Bool := decide (x.cps.toList[i]? = some c)
theorem occ_run (x : Str) (c limit : Nat) : ∀ (n a : Nat) (st : Array Nat × Nat), st.2 ≤ a → st.1.size + n ≤ limit →
    (forIn (List.range' a n) st (StrLaws.occBody x ⟨#[c]⟩ x.length limit)).run.fst.toList = st.1.toList ++ (List.range' a n).filter (isAt x c)
  | 0, a, st, _, _ => by simp
  | n + 1, a, st, h1, h2 => by
    rw [List.range'_succ, List.forIn_cons]
    unfold StrLaws.occBody
    have hs := StrLaws.subAt_one x c a
    by_cases h : x.cps.toList[a]? = some c
    · obtain ⟨h3, h4⟩ := hs.mpr h
      rw [if_pos ⟨⟨⟨by omega, h1⟩, h3⟩, h4⟩]
      have ih := occ_run x c limit n (a + 1) (st.1.push a, a + (⟨#[c]⟩ : Str).length) (by show a + 1 ≤ a + 1; omega) (by simp; omega)
      show (forIn (List.range' (a + 1) n) (st.1.push a, a + (⟨#[c]⟩ : Str).length) (StrLaws.occBody x ⟨#[c]⟩ x.length limit)).run.fst.toList = _
      rw [ih, List.filter_cons]
      have hi : isAt x c a = true := by simp [isAt, h]
      rw [if_pos hi]
      simp
    · rw [if_neg (fun z => h (hs.mp ⟨z.1.2, z.2⟩))]
      have ih := occ_run x c limit n (a + 1) (st.1, st.2) (by show st.2 ≤ a + 1; omega) (by show st.1.size + n ≤ limit; omega)
      show (forIn (List.range' (a + 1) n) (st.1, st.2) (StrLaws.occBody x ⟨#[c]⟩ x.length limit)).run.fst.toList = _
      rw [ih, List.filter_cons]
      have hi : isAt x c a = false := decide_eq_false h
      rw [if_neg (by rw [hi]; exact Bool.false_ne_true)]
theorem occ_all (x : Str) (c : Nat) : Builtin.Str.occurrences x ⟨#[c]⟩ 0 x.length (x.length + 1) = (List.range' 0 (x.length + 1)).filter (isAt x c) := by
  rw [StrLaws.occ_eq, occ_run x c (x.length + 1) (x.length + 1 - 0) 0 (#[], 0) (Nat.le_refl _) (by simp)]
  simp
def spl (c : Nat) : List Nat → List (List Nat)
  | [] => [[]]
  | a :: l => if a = c then [] :: spl c l else match spl c l with
    | p :: ps => (a :: p) :: ps
    | [] => [[a]]
theorem spl_ne (c : Nat) : ∀ l : List Nat, ∃ p ps, spl c l = p :: ps
  | [] => ⟨_, _, rfl⟩
  | a :: l => by
    obtain ⟨p, ps, e⟩ := spl_ne c l
    unfold spl
    split
    · exact ⟨_, _, rfl⟩
    · rw [e]; exact ⟨_, _, rfl⟩
def glue (w : List Nat) : List (List Nat) → List (List Nat)
  | p :: ps => (w ++ p) :: ps
  | [] => [w]
theorem partsFrom_spl (x : Str) (c : Nat) : ∀ (n a b : Nat), b + n = x.length → a ≤ b → (StrLaws.partsFrom x 1 a ((List.range' b (n + 1)).filter (isAt x c))).map (fun p => p.cps.toList) = glue ((x.cps.toList.drop a).take (b - a)) (spl c (x.cps.toList.drop b))
  | 0, a, b, h, hab => by
    have hl : x.cps.toList.length = x.length := Array.length_toList
    have hi : isAt x c b = false := by
      unfold isAt
      rw [List.getElem?_eq_none (by omega)]
      simp
    rw [List.range'_succ, List.filter_cons, if_neg (by rw [hi]; exact Bool.false_ne_true)]
    simp only [List.range'_zero, List.filter_nil, StrLaws.partsFrom, List.map_cons, List.map_nil]
    rw [StrLaws.strSub_toList, List.drop_eq_nil_of_le (by omega : x.cps.toList.length ≤ b)]
    simp only [spl, glue, List.append_nil]
    rw [show x.length - a = b - a by omega]
  | n + 1, a, b, h, hab => by
    have hl : x.cps.toList.length = x.length := Array.length_toList
    have hb : b < x.cps.toList.length := by omega
    rw [List.range'_succ, List.filter_cons]
    have ed : x.cps.toList.drop b = x.cps.toList[b] :: x.cps.toList.drop (b + 1) := List.drop_eq_getElem_cons hb
    by_cases hc : x.cps.toList[b] = c
    · have hi : isAt x c b = true := by
        unfold isAt
        rw [List.getElem?_eq_getElem hb, hc]
        simp
      rw [if_pos hi]
      have ih := partsFrom_spl x c n (b + 1) (b + 1) (by omega) (Nat.le_refl _)
      simp only [StrLaws.partsFrom, List.map_cons]
      rw [ih, StrLaws.strSub_toList, ed]
      obtain ⟨p, ps, e⟩ := spl_ne c (x.cps.toList.drop (b + 1))
      simp only [spl, if_pos hc, e, glue, Nat.sub_self, List.take_zero, List.nil_append, List.append_nil]
    · have hi : isAt x c b = false := by
        unfold isAt
        rw [List.getElem?_eq_getElem hb]
        exact decide_eq_false fun z => hc (Option.some.inj z)
      rw [if_neg (by rw [hi]; exact Bool.false_ne_true)]
      have ih := partsFrom_spl x c n a (b + 1) (by omega) (by omega)
      rw [ih, ed]
      obtain ⟨p, ps, e⟩ := spl_ne c (x.cps.toList.drop (b + 1))
      simp only [spl, if_neg hc, e, glue]
      have e2 : (x.cps.toList.drop a).take (b + 1 - a) = (x.cps.toList.drop a).take (b - a) ++ [x.cps.toList[b]] := by
        rw [show b + 1 - a = (b - a) + 1 by omega, List.take_add_one, List.getElem?_drop, show a + (b - a) = b by omega, List.getElem?_eq_getElem hb]
        rfl
      rw [e2]
      simp
theorem spl_none {c : Nat} : ∀ {l : List Nat}, c ∉ l → spl c l = [l]
  | [], _ => rfl
  | a :: l, h => by
    have h1 : ¬ a = c := fun e => h (by simp [e])
    have h2 : c ∉ l := fun e => h (List.mem_cons_of_mem _ e)
    unfold spl
    rw [if_neg h1, spl_none h2]
theorem spl_app {c : Nat} {r : List Nat} : ∀ {l : List Nat}, c ∉ l → spl c (l ++ c :: r) = l :: spl c r
  | [], _ => by simp [spl]
  | a :: l, h => by
    have h1 : ¬ a = c := fun e => h (by simp [e])
    have h2 : c ∉ l := fun e => h (List.mem_cons_of_mem _ e)
    rw [List.cons_append]
    have e := spl_app (r := r) h2
    show (if a = c then [] :: spl c (l ++ c :: r) else match spl c (l ++ c :: r) with | p :: ps => (a :: p) :: ps | [] => [[a]]) = _
    rw [if_neg h1, e]
def mkS (l : List Nat) : Str := ⟨l.toArray⟩
theorem mkS_toList (x : Str) : mkS x.cps.toList = x := by
  unfold mkS
  simp
theorem blank_eq : (" " : Str) = ⟨#[32]⟩ := by decide +kernel
theorem kind_blank (x : Str) : (decide (x.length < (⟨#[32]⟩ : Str).length) || decide (Builtin.Str.strKind x < Builtin.Str.strKind ⟨#[32]⟩)) = true → x.length = 0 := by
  intro h
  rw [Bool.or_eq_true] at h
  rcases h with h | h
  · have h' := of_decide_eq_true h
    have : (⟨#[32]⟩ : Str).length = 1 := rfl
    omega
  · exfalso
    have h' := of_decide_eq_true h
    have e : Builtin.Str.strKind ⟨#[32]⟩ = Builtin.Str.strKind ⟨#[32]⟩ := rfl
    revert h'
    unfold Builtin.Str.strKind
    simp
    split
    · simp
    · split <;> simp
theorem split_spl (x : Str) : Txt.split x (" " : Str) = (spl 32 x.cps.toList).map mkS := by
  rw [blank_eq]
  have hl : x.cps.toList.length = x.length := Array.length_toList
  have key : (StrLaws.partsFrom x 1 0 (Builtin.Str.occurrences x ⟨#[32]⟩ 0 x.length (x.length + 1))).map (fun p => p.cps.toList) = spl 32 x.cps.toList := by
    rw [occ_all]
    have h := partsFrom_spl x 32 x.length 0 0 (by omega) (Nat.le_refl _)
    rw [h]
    obtain ⟨p, ps, e⟩ := spl_ne 32 x.cps.toList
    simp [glue, e]
  have key2 : StrLaws.partsFrom x 1 0 (Builtin.Str.occurrences x ⟨#[32]⟩ 0 x.length (x.length + 1)) = (spl 32 x.cps.toList).map mkS := by
    rw [← key, List.map_map]
    have : (mkS ∘ fun (p : Str) => p.cps.toList) = id := by
      funext p
      exact mkS_toList p
    rw [this, List.map_id]
  unfold Txt.split
  split
  · rename_i h
    have h0 := kind_blank x h
    have : x.cps.toList = [] := List.length_eq_zero_iff.mp (by omega)
    rw [this]
    simp only [spl, List.map_cons, List.map_nil]
    rw [← this, mkS_toList]
  · split
    · rename_i h2
      have e0 : Builtin.Str.occurrences x ⟨#[32]⟩ 0 x.length (x.length + 1) = [] := List.isEmpty_iff.mp h2
      rw [← key2, e0]
      simp only [StrLaws.partsFrom]
      rw [StrLaws.sub_whole]
    · rw [StrLaws.partsBetween_eq]
      exact key2
def NoBl (x : Str) : Prop := 32 ∉ x.cps.toList
theorem split_word {x : Str} (h : NoBl x) : Txt.split x (" " : Str) = [x] := by
  rw [split_spl, spl_none h]
  simp [mkS_toList]
theorem split_cons {w r : Str} (h : NoBl w) : Txt.split (w ++ (" " : Str) ++ r) (" " : Str) = w :: Txt.split r (" " : Str) := by
  rw [split_spl, split_spl, blank_eq]
  have e : (w ++ (⟨#[32]⟩ : Str) ++ r).cps.toList = w.cps.toList ++ 32 :: r.cps.toList := by
    rw [Str.cps_append, Str.cps_append]
    simp
  rw [e, spl_app h, List.map_cons, mkS_toList]
theorem split_join : ∀ {zs : List Str}, zs ≠ [] → (∀ z ∈ zs, NoBl z) → Txt.split (Str.join (" " : Str) zs) (" " : Str) = zs
  | [], h, _ => absurd rfl h
  | [z], _, h => split_word (h z (by simp))
  | z :: y :: r, _, h => by
    show Txt.split (z ++ (" " : Str) ++ Str.join (" " : Str) (y :: r)) (" " : Str) = _
    rw [split_cons (h z (by simp)), split_join (by simp) fun x hx => h x (List.mem_cons_of_mem _ hx)]
end My
namespace My
open PySem L2 MR
def cutRow (z : Str) : List Str := Txt.split z (" " : Str)
def carriersOf (cut : List (List Str)) : List Str := tell ("carry" : Str) (cut.filter carryRow)
def pairsOf (cut : List (List Str)) : List Str := tell ("one" : Str) (cut.filter (oneRow (inS (carriersOf cut))))
def tongueF (cut : List (List Str)) : List (Str × PV) := [("carrying", .dK (sdP (carriersOf cut))), ("pairs", .dK (sdP (pairsOf cut))), ("longs", .dK (sdP (tell ("long" : Str) cut))), ("eithers", .dK (sdP (tell ("either" : Str) cut))),
  ("beginnings", .dK (sdP (tell ("begin" : Str) cut))), ("splittings", .dK (sdP (tell ("split" : Str) cut))), ("running", .str (lastRun cut)), ("likes", .dT (sdT (likes cut)))]
theorem look1 (a : PV) : List.lookup ("carrying" : Str) (pF "carrying" a []) = some a := rfl
theorem look2 (a b : PV) : List.lookup ("carrying" : Str) (pF "pairs" b (pF "carrying" a [])) = some a := rfl
theorem look3 (a b : PV) : List.lookup ("pairs" : Str) (pF "pairs" b (pF "carrying" a [])) = some b := rfl
theorem run_ok {C : Str → Bool} {cs r : List Str} (h : isRule C cs (("run" : Str) :: r) = true) : r ≠ [] := by
  intro e
  subst e
  have : isRule C cs [("run" : Str)] = false := by
    dsimp only [isRule]
    rw [if_neg (by decide +kernel), if_neg (by decide +kernel), if_neg (by decide +kernel), if_neg (by decide +kernel), if_pos rfl]
    rfl
  rw [this] at h; cases h
theorem alike_ok {C : Str → Bool} {cs r : List Str} (h : isRule C cs (("alike" : Str) :: r) = true) : 2 ≤ r.length := by
  dsimp only [isRule] at h
  rw [if_neg (by decide +kernel), if_neg (by decide +kernel), if_neg (by decide +kernel), if_neg (by decide +kernel), if_neg (by decide +kernel)] at h
  simp [alikeUnits] at h
  omega
theorem total_filter (p : List Str → Bool) : ∀ rs : List (List Str), total (rs.filter p) ≤ total rs
  | [] => Nat.le_refl _
  | ws :: rs => by
    have ih := total_filter p rs
    unfold total at *
    rw [List.filter_cons]
    split <;> simp <;> omega
theorem tell_len (kind : Str) (rs : List (List Str)) : (tell kind rs).length ≤ total rs := by
  have := tellF_len (kind := kind) rs []
  simpa [tell] using this
structure RowsOk (cut : List (List Str)) : Prop where
  n : cut.length ≤ 1000
  few : ∀ ws ∈ cut, ws ≠ [] ∧ Few ws
  tot : total cut ≤ 100000
  good : ∀ ws ∈ cut, isRule (inS (carriersOf cut)) (carriersOf cut ++ pairsOf cut) ws = true
theorem mi_init {zs : List Str} (hz : ∀ z ∈ zs, z.length ≤ 1000) (R : RowsOk (zs.map cutRow)) : mi_Tongue____init__ [.lst (zs.map .str)] = some (tongueF (zs.map cutRow)) := by
  have c1 : compL [none] (gN 0) tTrue ce_Tongue____init___1 (zs.map .str) = some (rowsP (zs.map cutRow)) := by
    have h := compL_map (env := [none]) (g := gN 0) (f := ce_Tongue____init___1) PV.str (fun z => rowP (cutRow z)) zs fun y hy => ⟨_, rfl, by
      have h1 : y.length ≤ 1000000 := by have := hz y hy; omega
      have h2 : ¬ (Str.ofString " ").length = 0 := by decide +kernel
      simp [ce_Tongue____init___1, h1, h2, rowP, cutRow]⟩
    rw [h]
    unfold rowsP
    rw [List.map_map]
    rfl
  have hlz : zs.length ≤ 1000000 := by have := R.n; rw [List.length_map] at this; omega
  generalize hcut : zs.map cutRow = cut at *
  have hlc : (rowsP cut).length ≤ 1000000 := by unfold rowsP; rw [List.length_map]; have := R.n; omega
  have c2 : compL [none] (gN 0) cc_Tongue____init___3 ce_Tongue____init___2 (rowsP cut) = some (rowsP (cut.filter carryRow)) :=
    compL_filter rowP rowP carryRow cut fun ws hws => by
      obtain ⟨hne, hf⟩ := R.few ws hws
      cases ws with
      | nil => exact absurd rfl hne
      | cons w r =>
        have := mi_carry hf
        exact ⟨_, rfl, by simp [cc_Tongue____init___3, rowP] at this ⊢; simp [this], fun _ => by simp [ce_Tongue____init___2]⟩
  have ne : ∀ ws ∈ cut, ws ≠ [] := fun ws h => (R.few ws h).1
  have nef : ∀ p : List Str → Bool, ∀ ws ∈ cut.filter p, ws ≠ [] := fun p ws h => ne ws (List.mem_filter.mp h).1
  have tf : ∀ p : List Str → Bool, total (cut.filter p) < 1000000 := fun p => by have := total_filter p cut; have := R.tot; omega
  have t0 : total cut < 1000000 := by have := R.tot; omega
  have k1 : mi_told_behind [.str "carry", .lst (rowsP (cut.filter carryRow))] = some (.dK (sdP (carriersOf cut))) := mi_told (nef _) (tf _)
  have hC : (carriersOf cut).length ≤ 100000 := by have h1 := tell_len ("carry" : Str) (cut.filter carryRow); have h2 := total_filter carryRow cut; have := R.tot; unfold carriersOf; omega
  have hP : (pairsOf cut).length ≤ 100000 := by have h1 := tell_len ("one" : Str) (cut.filter (oneRow (inS (carriersOf cut)))); have h2 := total_filter (oneRow (inS (carriersOf cut))) cut; have := R.tot; unfold pairsOf; omega
  have c3 : compL [none, some (.obj 0 (pF "carrying" (.dK (sdP (carriersOf cut))) []))] (gN 0) cc_Tongue____init___5 ce_Tongue____init___4 (rowsP cut) = some (rowsP (cut.filter (oneRow (inS (carriersOf cut))))) :=
    compL_filter rowP rowP (oneRow (inS (carriersOf cut))) cut fun ws hws => by
      obtain ⟨hne, hf⟩ := R.few ws hws
      cases ws with
      | nil => exact absurd rfl hne
      | cons w r =>
        have := mi_one (ks := carriersOf cut) hf
        exact ⟨_, rfl, by simp [cc_Tongue____init___5, rowP, look1] at this ⊢; simp [this], fun _ => by simp [ce_Tongue____init___4]⟩
  have k2 : mi_told_behind [.str "one", .lst (rowsP (cut.filter (oneRow (inS (carriersOf cut)))))] = some (.dK (sdP (pairsOf cut))) := mi_told (nef _) (tf _)
  have l6 : ∀ q : PV, loopS (gT [3, 4]) [3, 4] lb_Tongue____init___6 (enumV 0 (rowsP cut)) [some (.obj 0 (pF "pairs" (.dK (sdP (pairsOf cut))) (pF "carrying" (.dK (sdP (carriersOf cut))) []))), some q, some (.lst (rowsP cut)), none, none] =
      some (.nx [some (.obj 0 (pF "pairs" (.dK (sdP (pairsOf cut))) (pF "carrying" (.dK (sdP (carriersOf cut))) []))), some q, some (.lst (rowsP cut)), none, none]) := fun q => by
    unfold rowsP
    rw [enumV_map]
    refine loopS_look _ _ fun y hy => ?_
    have hm : y.1 ∈ cut := by
      have := List.mem_zipIdx' hy
      rw [this.2]
      exact List.getElem_mem _
    obtain ⟨hne, hf⟩ := R.few _ hm
    have hg := R.good _ hm
    obtain ⟨ws, i⟩ := y
    cases ws with
    | nil => exact absurd rfl hne
    | cons w r =>
      have := mi_rule (ks := carriersOf cut) (ps := pairsOf cut) hf hC hP
      rw [hg] at this
      simp only [List.map_cons] at this
      exact ⟨_, _, rfl, by simp [lb_Tongue____init___6, rowP, look2, look3, this]; rfl, by simp⟩
  have k3 : mi_told_behind [.str "long", .lst (rowsP cut)] = some (.dK (sdP (tell ("long" : Str) cut))) := mi_told ne t0
  have k4 : mi_told_behind [.str "either", .lst (rowsP cut)] = some (.dK (sdP (tell ("either" : Str) cut))) := mi_told ne t0
  have k5 : mi_told_behind [.str "begin", .lst (rowsP cut)] = some (.dK (sdP (tell ("begin" : Str) cut))) := mi_told ne t0
  have k6 : mi_told_behind [.str "split", .lst (rowsP cut)] = some (.dK (sdP (tell ("split" : Str) cut))) := mi_told ne t0
  have k7 : mi_last_run [.lst (rowsP cut)] = some (.str (lastRun cut)) := mi_run ne fun r h => run_ok (R.good _ h)
  have k8 : mi_told_alike [.lst (rowsP cut)] = some (.dT (sdT (likes cut))) := mi_likes ne (fun r h => alike_ok (R.good _ h)) (by have := R.n; omega)
  have m1 : ∀ a : PV, (pF "carrying" a []).length < 1000 := fun a => by show 1 < 1000; decide
  have m2 : ∀ a b : PV, (pF "pairs" b (pF "carrying" a [])).length < 1000 := fun a b => by show 2 < 1000; decide
  have m3 : ∀ a b c : PV, (pF "longs" c (pF "pairs" b (pF "carrying" a []))).length < 1000 := fun a b c => by show 3 < 1000; decide
  have m4 : ∀ a b c d : PV, (pF "eithers" d (pF "longs" c (pF "pairs" b (pF "carrying" a [])))).length < 1000 := fun a b c d => by show 4 < 1000; decide
  have m5 : ∀ a b c d e : PV, (pF "beginnings" e (pF "eithers" d (pF "longs" c (pF "pairs" b (pF "carrying" a []))))).length < 1000 := fun a b c d e => by show 5 < 1000; decide
  have m6 : ∀ a b c d e f : PV, (pF "splittings" f (pF "beginnings" e (pF "eithers" d (pF "longs" c (pF "pairs" b (pF "carrying" a [])))))).length < 1000 := fun a b c d e f => by show 6 < 1000; decide
  have m7 : ∀ a b c d e f g : PV, (pF "running" g (pF "splittings" f (pF "beginnings" e (pF "eithers" d (pF "longs" c (pF "pairs" b (pF "carrying" a []))))))).length < 1000 := fun a b c d e f g => by show 7 < 1000; decide
  have fin : ∀ a b c d e f g h : PV, pF "likes" h (pF "running" g (pF "splittings" f (pF "beginnings" e (pF "eithers" d (pF "longs" c (pF "pairs" b (pF "carrying" a []))))))) = ([("carrying", a), ("pairs", b), ("longs", c), ("eithers", d), ("beginnings", e), ("splittings", f), ("running", g), ("likes", h)] : List (Str × PV)) := fun a b c d e f g h => rfl
  unfold tongueF
  simp [mi_Tongue____init__, fb_Tongue____init__, c1, hlz, c2, hlc, k1, m1, c3, k2, m2, l6, k3, m3, k4, m4, k5, m5, k6, m6, k7, m7, k8, fin]
theorem noLk_sd : ∀ ks : List Str, noLk (sdP ks) = true
  | [] => rfl
  | k :: r => by
    have ih := noLk_sd r
    unfold sdP at ih ⊢
    simp [noLk, noL, ih]
theorem noLt_sd : ∀ ks : List (Str × Str), noLt (sdT ks) = true
  | [] => rfl
  | k :: r => by
    have ih := noLt_sd r
    unfold sdT at ih ⊢
    simp [noLt, noL, ih]
theorem noL_tongue (cut : List (List Str)) : noLf (tongueF cut) = true := by
  simp [tongueF, noLf, noL, noLk_sd, noLt_sd]
theorem f_carrying (cut : List (List Str)) : List.lookup ("carrying" : Str) (tongueF cut) = some (.dK (sdP (carriersOf cut))) := rfl
theorem f_pairs (cut : List (List Str)) : List.lookup ("pairs" : Str) (tongueF cut) = some (.dK (sdP (pairsOf cut))) := rfl
theorem f_longs (cut : List (List Str)) : List.lookup ("longs" : Str) (tongueF cut) = some (.dK (sdP (tell ("long" : Str) cut))) := rfl
theorem f_eithers (cut : List (List Str)) : List.lookup ("eithers" : Str) (tongueF cut) = some (.dK (sdP (tell ("either" : Str) cut))) := rfl
theorem f_beginnings (cut : List (List Str)) : List.lookup ("beginnings" : Str) (tongueF cut) = some (.dK (sdP (tell ("begin" : Str) cut))) := rfl
theorem f_splittings (cut : List (List Str)) : List.lookup ("splittings" : Str) (tongueF cut) = some (.dK (sdP (tell ("split" : Str) cut))) := rfl
theorem f_running (cut : List (List Str)) : List.lookup ("running" : Str) (tongueF cut) = some (.str (lastRun cut)) := rfl
theorem f_likes (cut : List (List Str)) : List.lookup ("likes" : Str) (tongueF cut) = some (.dT (sdT (likes cut))) := rfl
end My
namespace My
open PySem L2 MR
def cell (ns : List Int) (k : Nat) : Int := ns.getD k 0
theorem mi_cell (ns : List Int) (k : Nat) : mi__law_cell_at [.frz (ns.map PV.int), .int k] = some (.int (cell ns k)) := by
  by_cases h : k < ns.length
  · have h1 : atI (ns.map PV.int) (k : Int) = some (.int ns[k]) := atI_at (by simp [h])
    simp [mi__law_cell_at, fb__law_cell_at, h, h1, cell]
  · simp [mi__law_cell_at, fb__law_cell_at, h, cell]
def stp (c : Int) : Int := [1, 3, 5, 7, 9, 11, 15, 17].getD (c / 26 % 8).toNat 0
def ltn (c k : Int) : Nat := 97 + ((c + k * stp c) % 26).toNat
def letter (c k : Int) : Str := ⟨#[ltn c k]⟩
theorem mod8 (a : Int) : 0 ≤ a % 8 ∧ a % 8 < 8 ∧ (a % 8).toNat < 8 := ⟨by omega, by omega, by omega⟩
theorem stp_key : ∀ n : Fin 8, ∃ s ∈ [1, 3, 5, 7, 9, 11, 15, 17], ([1, 3, 5, 7, 9, 11, 15, 17] : List Int).getD n.val 0 = ((s : Nat) : Int) := by decide +kernel
theorem stp_nat (c : Int) : ∃ s : Nat, s ∈ [1, 3, 5, 7, 9, 11, 15, 17] ∧ stp c = (s : Int) := stp_key ⟨_, (mod8 (c / 26)).2.2⟩
theorem stp_at (c : Int) : atI [PV.int 1, .int 3, .int 5, .int 7, .int 9, .int 11, .int 15, .int 17] (c / 26 % 8) = some (.int (stp c)) := by
  rw [atI_pos (mod8 _).1 (mod8 _).2.1]
  have h := (mod8 (c / 26)).2.2
  unfold stp
  generalize (c / 26 % 8).toNat = n at h
  have e : ([PV.int 1, .int 3, .int 5, .int 7, .int 9, .int 11, .int 15, .int 17] : List PV) = ([1, 3, 5, 7, 9, 11, 15, 17] : List Int).map .int := rfl
  rw [e, List.getElem?_map, List.getD_eq_getElem?_getD, List.getElem?_eq_getElem (l := ([1, 3, 5, 7, 9, 11, 15, 17] : List Int)) h]
  rfl
theorem stp_sm (c : Int) : smI (stp c) = true := by
  obtain ⟨s, hs, e⟩ := stp_nat c
  have h17 : ∀ s ∈ [1, 3, 5, 7, 9, 11, 15, 17], s ≤ 17 := by decide
  have := h17 s hs
  rw [e]
  exact smI_of (by omega) (by omega)
theorem let_at {i : Int} (h0 : 0 ≤ i) (h1 : i < 26) : atI (LET : Str).cps.toList i = some (97 + i.toNat) := by
  have hl : (LET : Str).cps.toList.length = 26 := by decide +kernel
  rw [atI_pos h0 (by rw [hl]; exact h1)]
  have h : i.toNat < 26 := by omega
  generalize i.toNat = n at h
  have key : ∀ n : Fin 26, (LET : Str).cps.toList[n.val]? = some (97 + n.val) := by decide +kernel
  exact key ⟨n, h⟩
theorem mi_lett (c k : Int) : mi__law_letter [.int c, .int k] = some (.str (letter c k)) := by
  have h1 := stp_at c
  have hs := stp_sm c
  have h2 : atI (Str.ofString "abcdefghijklmnopqrstuvwxyz").cps.toList ((c + k * stp c) % 26) = some (ltn c k) := let_at (by omega) (by omega)
  have h3 : (Str.ofString "abcdefghijklmnopqrstuvwxyz").length ≤ 1000000 := by decide +kernel
  simp [mi__law_letter, fb__law_letter, h1, hs, h2, h3, letter]
theorem letter_len (c k : Int) : (letter c k).length = 1 := rfl
theorem ltn_range (c k : Int) : 97 ≤ ltn c k ∧ ltn c k < 123 := by unfold ltn; omega
theorem odd_key : ∀ s ∈ [1, 3, 5, 7, 9, 11, 15, 17], ∀ j k : Fin 26, (j.val * s) % 26 = (k.val * s) % 26 → j = k := by decide +kernel
theorem add_cancel26 {c a b : Int} (h : (c + a) % 26 = (c + b) % 26) : a % 26 = b % 26 := by omega
theorem nat_mod26 {a b : Nat} (h : (a : Int) % 26 = (b : Int) % 26) : a % 26 = b % 26 := by omega
theorem add97 {a b : Int} (h : 97 + (a % 26).toNat = 97 + (b % 26).toNat) : a % 26 = b % 26 := by omega
theorem ltn_inj {c j k : Int} (h0 : 0 ≤ j) (h1 : j < 26) (h2 : 0 ≤ k) (h3 : k < 26) (h : ltn c j = ltn c k) : j = k := by
  unfold ltn at h
  have h' := add_cancel26 (add97 h)
  obtain ⟨s, hs, e⟩ := stp_nat c
  rw [e] at h'
  obtain ⟨a, rfl⟩ := Int.eq_ofNat_of_zero_le h0
  obtain ⟨b, rfl⟩ := Int.eq_ofNat_of_zero_le h2
  have h5 := odd_key s hs ⟨a, Int.ofNat_lt.mp h1⟩ ⟨b, Int.ofNat_lt.mp h3⟩ (nat_mod26 (by exact_mod_cast h'))
  exact congrArg Int.ofNat (Fin.mk.inj h5)
theorem letter_inj {c j k : Int} (h0 : 0 ≤ j) (h1 : j < 26) (h2 : 0 ≤ k) (h3 : k < 26) (h : letter c j = letter c k) : j = k := by
  refine ltn_inj (c := c) h0 h1 h2 h3 ?_
  unfold letter at h
  have := congrArg (fun s : Str => s.cps.toList) h
  simpa using this
theorem isLetter_code {n : Nat} (h : 97 ≤ n) (h' : n < 123) : isLetter ⟨#[n]⟩ = true := by
  have key : ∀ m : Fin 26, isLetter ⟨#[97 + m.val]⟩ = true := by decide +kernel
  have := key ⟨n - 97, by omega⟩
  rwa [show 97 + (n - 97) = n by omega] at this
theorem isLetter_letter (c k : Int) : isLetter (letter c k) = true := isLetter_code (ltn_range c k).1 (ltn_range c k).2
def mx (c : Int) (k : Nat) : Int := (c % 1000003 * (48271 + 15838 * k * k) + 69621 * k) % 2147483647
theorem mx_nn (c : Int) (k : Nat) : 0 ≤ mx c k := by unfold mx; omega
theorem mi_mix (c : Int) {k : Nat} (h : k ≤ 1000) : mi__law_mix [.int c, .int k] = some (.int (mx c k)) := by
  have h1 : smI 15838 = true := smI_of (by decide) (by decide)
  have h2 : smI (k : Int) = true := smI_of (by omega) (by omega)
  have h3 : smI (c % 1000003) = true := smI_of (by omega) (by omega)
  have h4 : smI 69621 = true := smI_of (by decide) (by decide)
  simp [mi__law_mix, fb__law_mix, h1, h2, h3, h4, mx]
def dg (n : Int) (k : Nat) : Int := n / ([4, 8, 28, 128].getD k 1) % ([2, 5].getD (n / 3 % 2).toNat 1)
theorem dg_range (n : Int) (k : Nat) : 0 ≤ dg n k ∧ dg n k < 5 := by
  unfold dg
  have h : (n / 3 % 2).toNat < 2 := by omega
  generalize (n / 3 % 2).toNat = m at h
  match m, h with
  | 0, _ => constructor <;> simp <;> omega
  | 1, _ => constructor <;> simp <;> omega
def clus (b : Int) (many : Int) (n : Int) : Str := (List.range (2 + n % 3).toNat).foldl (fun s k => s ++ letter b (many + dg n k)) ⟨#[]⟩
theorem clus_fold (b many n : Int) : ∀ (l : List Nat) (s : Str), (l.foldl (fun s k => s ++ letter b (many + dg n k)) s).cps.toList = s.cps.toList ++ l.map fun k => ltn b (many + dg n k)
  | [], s => by simp
  | k :: l, s => by
    rw [List.foldl_cons, clus_fold b many n l, List.map_cons]
    have : (s ++ letter b (many + dg n k)).cps.toList = s.cps.toList ++ [ltn b (many + dg n k)] := by
      rw [Str.cps_append]
      simp [letter]
    rw [this]; simp
theorem clus_codes (b many n : Int) : (clus b many n).cps.toList = (List.range (2 + n % 3).toNat).map fun k => ltn b (many + dg n k) := by
  unfold clus
  rw [clus_fold]
  simp
theorem clus_len (b many n : Int) : (clus b many n).length = (2 + n % 3).toNat := by
  have h := congrArg List.length (clus_codes b many n)
  rw [Array.length_toList, List.length_map, List.length_range] at h
  exact h
theorem mi_clus (b many n : Int) : mi__law_cluster [.int b, .int many, .int n] = some (.str (clus b many n)) := by
  have hr : rgI (2 + n % 3) = true := rgI_of (by omega) (by omega)
  have gen : ∀ (l : List Nat) (s : Str), (∀ k ∈ l, k < 4) → s.length + l.length ≤ 1000 → loopS (gN 4) [4] lb__law_cluster_1 (l.map fun k => PV.int (k : Nat)) [some (.int b), some (.int many), some (.int n), some (.str s), none] =
      some (.nx [some (.int b), some (.int many), some (.int n), some (.str (l.foldl (fun s k => s ++ letter b (many + dg n k)) s)), none]) := by
    intro l
    induction l with
    | nil => intro s _ _; rfl
    | cons k l ih =>
      intro s hk hl
      have hk4 : k < 4 := hk k List.mem_cons_self
      have e1 : atI [PV.int 4, .int 8, .int 28, .int 128] (k : Int) = some (.int ([4, 8, 28, 128].getD k 1)) := by
        match k, hk4 with
        | 0, _ => rfl
        | 1, _ => rfl
        | 2, _ => rfl
        | 3, _ => rfl
      have e2 : 0 < ([4, 8, 28, 128] : List Int).getD k 1 ∧ ([4, 8, 28, 128] : List Int).getD k 1 < 1073741824 := by
        match k, hk4 with
        | 0, _ => decide
        | 1, _ => decide
        | 2, _ => decide
        | 3, _ => decide
      have e3 : atI [PV.int 2, .int 5] (n / 3 % 2) = some (.int ([2, 5].getD (n / 3 % 2).toNat 1)) := by
        rw [atI_pos (by omega) (by show n / 3 % 2 < 2; omega)]
        have h : (n / 3 % 2).toNat < 2 := by omega
        generalize (n / 3 % 2).toNat = m at h
        match m, h with
        | 0, _ => rfl
        | 1, _ => rfl
      have e4 : 0 < ([2, 5] : List Int).getD (n / 3 % 2).toNat 1 := by
        have h : (n / 3 % 2).toNat < 2 := by omega
        generalize (n / 3 % 2).toNat = m at h
        match m, h with
        | 0, _ => decide
        | 1, _ => decide
      have e5 := mi_lett b (many + dg n k)
      have e6 : s.length + (letter b (many + dg n k)).length ≤ 1000000 := by rw [letter_len]; simp at hl; omega
      have ih' := ih (s ++ letter b (many + dg n k)) (fun j hj => hk j (List.mem_cons_of_mem _ hj)) (by
        have : (s ++ letter b (many + dg n k)).length = s.length + 1 := by
          unfold Str.length
          rw [Str.cps_append]
          simp [letter]
        rw [this]; simp at hl; omega)
      rw [List.foldl_cons, ← ih']
      have ed : dg n k = n / ([4, 8, 28, 128].getD k 1) % ([2, 5].getD (n / 3 % 2).toNat 1) := rfl
      generalize ([4, 8, 28, 128] : List Int).getD k 1 = u at e1 e2 ed
      generalize ([2, 5] : List Int).getD (n / 3 % 2).toNat 1 = v at e3 e4 ed
      rw [ed] at e5 e6 ⊢
      simp [loopS, lb__law_cluster_1, e1, e2, e3, e4, e5, e6]
  have hl : (List.range (2 + n % 3).toNat).length = (2 + n % 3).toNat := List.length_range
  have g := gen (List.range (2 + n % 3).toNat) ⟨#[]⟩ (fun k hk => by have := List.mem_range.mp hk; omega) (by rw [hl]; show 0 + _ ≤ 1000; omega)
  have er : rngV 0 (2 + n % 3) = (List.range (2 + n % 3).toNat).map fun k => PV.int (k : Nat) := by
    unfold rngV
    simp
  have ee : (Str.ofString "") = ⟨#[]⟩ := by decide +kernel
  simp [mi__law_cluster, fb__law_cluster, hr, er, ee, g, clus]
end My
namespace My
open PySem L2 MR
section
variable {α : Type} (a b c d e f g h : α) (l : List α)
@[simp] theorem at0 : atI (a :: l) 0 = some a := atI_at (k := 0) rfl
@[simp] theorem at1 : atI (a :: b :: l) 1 = some b := atI_at (k := 1) rfl
@[simp] theorem at2 : atI (a :: b :: c :: l) 2 = some c := atI_at (k := 2) rfl
@[simp] theorem at3 : atI (a :: b :: c :: d :: l) 3 = some d := atI_at (k := 3) rfl
@[simp] theorem at4 : atI (a :: b :: c :: d :: e :: l) 4 = some e := atI_at (k := 4) rfl
@[simp] theorem at5 : atI (a :: b :: c :: d :: e :: f :: l) 5 = some f := atI_at (k := 5) rfl
@[simp] theorem at6 : atI (a :: b :: c :: d :: e :: f :: g :: l) 6 = some g := atI_at (k := 6) rfl
@[simp] theorem at7 : atI (a :: b :: c :: d :: e :: f :: g :: h :: l) 7 = some h := atI_at (k := 7) rfl
end
@[simp] def nxt (ds : List Nat) : Option Out → Option MR.Env
  | some (.nx e) => some (clr ds e)
  | some (.ct e) => some (clr ds e)
  | _ => none
def turn (g : PV → MR.Env → Option MR.Env) (ds : List Nat) (body : MR.Env → Option Out) (x : PV) (env : MR.Env) : Option MR.Env := (g x env).bind fun e => nxt ds (body e)
theorem turn_ap (g : PV → MR.Env → Option MR.Env) (ds : List Nat) (body : MR.Env → Option Out) (x : PV) (env : MR.Env) : turn g ds body x env = (g x env).bind fun e => nxt ds (body e) := id rfl
theorem loopS_turn {g : PV → MR.Env → Option MR.Env} {ds : List Nat} {body : MR.Env → Option Out} {x : PV} {xs : List PV} {env env' : MR.Env} (h : turn g ds body x env = some env') : loopS g ds body (x :: xs) env = loopS g ds body xs env' := by
  unfold turn at h
  obtain ⟨e, h1, h2⟩ := bind_some' h
  unfold nxt at h2
  split at h2
  · rename_i q; cases h2; simp [loopS, h1, q]
  · rename_i q; cases h2; simp [loopS, h1, q]
  · cases h2
theorem loopS_pot {α S : Type} {g : PV → MR.Env → Option MR.Env} {ds : List Nat} {body : MR.Env → Option Out} (c : α → PV) (E : S → MR.Env) (step : S → α → S) (sz : S → Nat) (wt : α → Nat) (B : Nat) (I : S → Prop) : ∀ (ys : List α) (s : S), I s → sz s + (ys.map wt).sum ≤ B →
    (∀ y ∈ ys, ∀ s, I s → sz s + wt y ≤ B → sz (step s y) ≤ sz s + wt y ∧ I (step s y) ∧ turn g ds body (c y) (E s) = some (E (step s y))) →
    loopS g ds body (ys.map c) (E s) = some (.nx (E (ys.foldl step s)))
  | [], s, _, _, _ => rfl
  | y :: ys, s, i, hb, hh => by
    simp at hb
    obtain ⟨h0, hI, h1⟩ := hh y List.mem_cons_self s i (by omega)
    have ih := loopS_pot c E step sz wt B I ys (step s y) hI (by omega) fun z hz => hh z (List.mem_cons_of_mem _ hz)
    rw [List.map_cons, loopS_turn h1, ih, List.foldl_cons]
theorem sum_ones {α : Type} : ∀ ys : List α, (ys.map fun _ => 1).sum = ys.length
  | [] => rfl
  | _ :: ys => by simp [sum_ones ys]; omega
def pick (l : List Str) (i : Int) : Str := l.getD i.toNat ⟨#[]⟩
theorem pick_at {l : List Str} {i : Int} (h0 : 0 ≤ i) (h1 : i < l.length) : atI (l.map PV.str) i = some (.str (pick l i)) := by
  have h : i.toNat < l.length := by omega
  rw [atI_pos h0 (by rw [List.length_map]; exact h1), List.getElem?_map]
  unfold pick
  rw [List.getD_eq_getElem?_getD, List.getElem?_eq_getElem h]
  rfl
theorem pick_mem {l : List Str} {i : Int} (h0 : 0 ≤ i) (h1 : i < l.length) : pick l i ∈ l := by
  have h : i.toNat < l.length := by omega
  unfold pick
  rw [List.getD_eq_getElem?_getD, List.getElem?_eq_getElem h]
  exact List.getElem_mem h
theorem rngV_nat (n : Nat) : rngV 0 (n : Int) = (List.range n).map fun k => PV.int (k : Nat) := by
  unfold rngV
  simp
theorem rngV_len (n : Nat) : (rngV 0 (n : Int)).length = n := by rw [rngV_nat]; simp
structure Rc where
  carriers : List Str
  pairs : List Str
  longs : List Str
  eithers : List Str
  begins : List Str
  splits : List Str
  run : Str
  base : Int
  many : Nat
def recP (R : Rc) : PV := .tup [rowP R.carriers, rowP R.pairs, rowP R.longs, rowP R.eithers, rowP R.begins, rowP R.splits, .str R.run, .int R.base]
structure Rc.Good (R : Rc) : Prop where
  m1 : 1 ≤ R.many
  m7 : R.many ≤ 7
  car : R.carriers = (List.range R.many).map fun k => letter R.base (k : Nat)
  prs : ∀ w ∈ R.pairs, ∃ a ∈ R.carriers, ∃ b ∈ R.carriers, w = a ++ b
  lng : ∀ w ∈ R.longs, w ∈ R.carriers ++ R.pairs
  eth : ∀ w ∈ R.eithers, w ∈ R.carriers ++ R.pairs
  beg : ∀ w ∈ R.begins, ∃ n, w = clus R.base R.many n
  spl : ∀ w ∈ R.splits, ∃ n, w = clus R.base R.many n
  run : R.run = ("" : Str) ∨ R.run = ("never" : Str) ∨ R.run = ("may" : Str) ∨ R.run = ("must" : Str)
  l1 : R.pairs.length ≤ 3
  l2 : R.longs.length ≤ 10
  l3 : R.eithers.length ≤ 10
  l4 : R.begins.length ≤ 4
  l5 : R.splits.length ≤ 3
theorem rg_nat {k : Nat} (h : k ≤ 1000) : rgI (k : Int) = true := rgI_of (by omega) (by omega)
theorem one_mod (a : Int) : ∃ k : Nat, 1 + a % 7 = (k : Int) ∧ 1 ≤ k ∧ k ≤ 7 := ⟨(1 + a % 7).toNat, by omega, by omega, by omega⟩
theorem mod_four (a : Int) : ∃ k : Nat, a % 4 = (k : Int) ∧ k ≤ 3 := ⟨(a % 4).toNat, by omega, by omega⟩
theorem mod_five (a : Int) : ∃ k : Nat, a % 5 = (k : Int) ∧ k ≤ 4 := ⟨(a % 5).toNat, by omega, by omega⟩
theorem four_bd (a : Int) : 0 ≤ a % 4 ∧ a % 4 < 4 := ⟨by omega, by omega⟩
theorem small_le {a b : Nat} (h : a ≤ b) (hb : b ≤ 1000) : a ≤ 1000000 := by omega
theorem lt_big {a b : Nat} (h : a + 1 ≤ b) (hb : b ≤ 1000) : a < 1000000 := by omega
theorem many_pos {m : Nat} (h : 1 ≤ m) : (0 : Int) < (m : Int) := by omega
theorem cast_ge (k : Nat) : (0 : Int) ≤ (k : Int) := Int.natCast_nonneg k
theorem cast_lt {k m n : Nat} (h : k < m + n) : (k : Int) < ((m + n : Nat) : Int) := Int.ofNat_lt.mpr h
theorem add_le {a b : Nat} (h : a ≤ 7) (h' : b ≤ 3) : a + b ≤ 10 := by omega
theorem lt_five {k n : Nat} (h : k < n) (h' : n ≤ 10) : k ≤ 1000 := by omega
theorem record_ok (ns : List Int) (a : Nat) : ∃ R : Rc, R.Good ∧ mi__law_record [.frz (ns.map PV.int), .int a] = some (recP R) := by
  generalize hx : (fun k : Nat => cell ns (a + k)) = x
  have ex : ∀ k, cell ns (a + k) = x k := fun k => by rw [← hx]
  have c1 : compL [none, some (.frz (ns.map PV.int)), some (.int a)] (gN 0) tTrue ce__law_record_1 (rngV 0 6) = some [.int (x 0), .int (x 1), .int (x 2), .int (x 3), .int (x 4), .int (x 5)] := by
    have h := compL_map (env := [none, some (.frz (ns.map PV.int)), some (.int (a : Int))]) (g := gN 0) (f := ce__law_record_1) (fun k : Nat => PV.int (k : Nat)) (fun k => .int (x k)) (List.range 6) fun k hk => ⟨_, rfl, by
      have h2 := mi_cell ns (a + k)
      rw [Int.natCast_add, ex] at h2
      simp [ce__law_record_1, h2]⟩
    rw [show (6 : Int) = ((6 : Nat) : Int) from rfl, rngV_nat]
    exact h
  have r6 : rgI 6 = true := rgI_of (by decide) (by decide)
  have q6 : (rngV 0 6).length ≤ 1000000 := by decide
  obtain ⟨many, hmany, hm1, hm7⟩ := one_mod (x 1)
  have hmp := many_pos hm1
  have hmn : (many : Int) ≠ 0 := Int.ne_of_gt hmp
  have rm : rgI (many : Int) = true := rg_nat (Nat.le_trans hm7 (by decide))
  have qm : (rngV 0 (many : Int)).length ≤ 1000000 := by rw [rngV_len]; exact small_le hm7 (by decide)
  generalize hcar : (List.range many).map (fun k => letter (x 0) (k : Nat)) = car
  have lcar : car.length = many := by rw [← hcar]; simp
  have c2 : compL [none, some (.int (x 0))] (gN 0) tTrue ce__law_record_2 (rngV 0 (many : Int)) = some (car.map .str) := by
    have h := compL_map (env := [none, some (.int (x 0))]) (g := gN 0) (f := ce__law_record_2) (fun k : Nat => PV.int (k : Nat)) (fun k => .str (letter (x 0) (k : Nat))) (List.range many) fun k hk => ⟨_, rfl, by
      simp [ce__law_record_2, mi_lett]⟩
    rw [rngV_nat, h, ← hcar, List.map_map]
    rfl
  obtain ⟨np, hnp, hnp3⟩ := mod_four (x 1 / 7)
  have rp : rgI (np : Int) = true := rg_nat (Nat.le_trans hnp3 (by decide))
  have hmp10 := add_le hm7 hnp3
  have carl : ∀ i : Int, 0 ≤ i → i < many → (pick car i).length = 1 := fun i h0 h1 => by
    have := pick_mem (l := car) h0 (by rw [lcar]; exact h1)
    rw [← hcar] at this
    obtain ⟨k, _, e⟩ := List.mem_map.mp this
    rw [hcar] at e
    rw [← e]; rfl
  generalize hpr : (fun k : Nat => pick car (mx (x 2) k % many) ++ pick car (mx (x 2) k / 8 % many)) = pr
  have epr : ∀ k : Nat, pr k = pick car (mx (x 2) k % many) ++ pick car (mx (x 2) k / 8 % many) := fun k => by rw [← hpr]
  have l3 : loopS (gN 7) [7, 8] lb__law_record_3 (rngV 0 (np : Int)) [some (.frz (ns.map PV.int)), some (.int a), some (.lst [.int (x 0), .int (x 1), .int (x 2), .int (x 3), .int (x 4), .int (x 5)]), some (.int (x 0)), some (.int many), some (.lst (car.map .str)), some (.lst []), none, none, none, none, none, none, none, none, none] =
      some (.nx [some (.frz (ns.map PV.int)), some (.int a), some (.lst [.int (x 0), .int (x 1), .int (x 2), .int (x 3), .int (x 4), .int (x 5)]), some (.int (x 0)), some (.int many), some (.lst (car.map .str)), some (.lst (((List.range np).map pr).map .str)), none, none, none, none, none, none, none, none, none]) := by
    rw [rngV_nat]
    have h := loopS_pot (g := gN 7) (ds := [7, 8]) (body := lb__law_record_3) (fun k : Nat => PV.int (k : Nat)) (fun s : List Str => [some (.frz (ns.map PV.int)), some (.int a), some (.lst [.int (x 0), .int (x 1), .int (x 2), .int (x 3), .int (x 4), .int (x 5)]), some (.int (x 0)), some (.int many), some (.lst (car.map .str)), some (.lst (s.map .str)), none, none, none, none, none, none, none, none, none])
      (fun s k => s ++ [pr k]) List.length (fun _ => 1) 1000 (fun _ => True) (List.range np) [] trivial (by rw [sum_ones, List.length_range, List.length_nil, Nat.zero_add]; exact Nat.le_trans hnp3 (by decide)) (fun k hk s _ hb => by
        have hk2 := List.mem_range.mp hk
        refine ⟨by simp, trivial, ?_⟩
        have e1 := mi_mix (x 2) (k := k) (lt_five hk2 (Nat.le_trans hnp3 (by decide)))
        have e2 := mx_nn (x 2) k
        have e3 : (0 : Int) < many := hmp
        have e4 := pick_at (l := car) (i := mx (x 2) k % many) (Int.emod_nonneg _ hmn) (by rw [lcar]; exact Int.emod_lt_of_pos _ hmp)
        have e5 := pick_at (l := car) (i := mx (x 2) k / 8 % many) (Int.emod_nonneg _ hmn) (by rw [lcar]; exact Int.emod_lt_of_pos _ hmp)
        have e6 := carl (mx (x 2) k % many) (Int.emod_nonneg _ hmn) (Int.emod_lt_of_pos _ hmp)
        have e7 := carl (mx (x 2) k / 8 % many) (Int.emod_nonneg _ hmn) (Int.emod_lt_of_pos _ hmp)
        have e8 : s.length < 1000000 := lt_big hb (by decide)
        have e9 : 0 < many := hm1
        simp [turn_ap, lb__law_record_3, e1, e3, e4, e5, e6, e7, e8, e9, epr])
    have hf : ∀ (l : List Nat) (s : List Str), l.foldl (fun s k => s ++ [pr k]) s = s ++ l.map pr := by
      intro l
      induction l with
      | nil => intro s; simp
      | cons k l ih => intro s; rw [List.foldl_cons, ih]; simp
    rw [hf, List.nil_append] at h
    exact h
  generalize hprs : (List.range np).map pr = prs at l3
  have lprs : prs.length = np := by rw [← hprs]; simp
  have rt : rgI ((many : Int) + np) = true := by rw [← Int.natCast_add]; exact rg_nat (Nat.le_trans hmp10 (by decide))
  have ert : rngV 0 ((many : Int) + np) = (List.range (many + np)).map fun k => PV.int (k : Nat) := by
    rw [← Int.natCast_add, rngV_nat]
  have c4 : compL [none, some (.lst [.int (x 0), .int (x 1), .int (x 2), .int (x 3), .int (x 4), .int (x 5)])] (gN 0) tTrue ce__law_record_4 ((List.range (many + np)).map fun k => PV.int (k : Nat)) = some ((List.range (many + np)).map fun k => .int (mx (x 3) k % 4)) :=
    compL_map _ _ _ fun k hk => ⟨_, rfl, by
      have := List.mem_range.mp hk
      have e1 := mi_mix (x 3) (k := k) (lt_five this hmp10)
      simp [ce__law_record_4, e1]⟩
  have qt : ((List.range (many + np)).map fun k => PV.int (k : Nat)).length ≤ 1000000 := by rw [List.length_map, List.length_range]; exact small_le hmp10 (by decide)
  generalize hsm : car ++ prs = sm
  have lsm : sm.length = many + np := by rw [← hsm, List.length_append, lcar, lprs]
  have esm : car.map PV.str ++ prs.map PV.str = sm.map PV.str := by rw [← hsm, List.map_append]
  have ql : car.length + prs.length ≤ 1000000 := by rw [lcar, lprs]; exact small_le hmp10 (by decide)
  have esz : ((sm.map PV.str).length : Int) = (many : Int) + np := by rw [List.length_map, lsm, Int.natCast_add]
  have watI : ∀ k : Nat, k < many + np → atI ((List.range (many + np)).map fun k => PV.int (mx (x 3) k % 4)) (k : Int) = some (.int (mx (x 3) k % 4)) := fun k hk => atI_at (by simp [hk])
  have satI : ∀ k : Nat, k < many + np → atI (sm.map PV.str) (k : Int) = some (.str (pick sm k)) := fun k hk => pick_at (cast_ge k) (by rw [lsm]; exact cast_lt hk)
  have c5 : compL [none, some (.lst (sm.map .str)), some (.lst ((List.range (many + np)).map fun k => PV.int (mx (x 3) k % 4)))] (gN 0) cc__law_record_6 ce__law_record_5 ((List.range (many + np)).map fun k => PV.int (k : Nat)) =
      some (((List.range (many + np)).filter fun k => (1 == mx (x 3) k % 4 || 3 == mx (x 3) k % 4)).map fun (k : Nat) => PV.str (pick sm k)) :=
    compL_filter _ _ _ _ fun k hk => ⟨_, rfl, by
      have h1 := watI k (List.mem_range.mp hk)
      simp [cc__law_record_6, h1, inP, eqF], fun _ => by
      have h1 := satI k (List.mem_range.mp hk)
      simp [ce__law_record_5, h1]⟩
  have c7 : compL [none, some (.lst (sm.map .str)), some (.lst ((List.range (many + np)).map fun k => PV.int (mx (x 3) k % 4)))] (gN 0) cc__law_record_8 ce__law_record_7 ((List.range (many + np)).map fun k => PV.int (k : Nat)) =
      some (((List.range (many + np)).filter fun k => decide (1 < mx (x 3) k % 4)).map fun (k : Nat) => PV.str (pick sm k)) :=
    compL_filter _ _ _ _ fun k hk => ⟨_, rfl, by
      have h1 := watI k (List.mem_range.mp hk)
      simp [cc__law_record_8, h1], fun _ => by
      have h1 := satI k (List.mem_range.mp hk)
      simp [ce__law_record_7, h1]⟩
  obtain ⟨nb, hnb, hnb4⟩ := mod_five (x 4 / 7)
  have rb : rgI (nb : Int) = true := rg_nat (Nat.le_trans hnb4 (by decide))
  have qb : (rngV 0 (nb : Int)).length ≤ 1000000 := by rw [rngV_len]; exact small_le hnb4 (by decide)
  have c9 : compL [none, some (.int (x 0)), some (.int many), some (.lst [.int (x 0), .int (x 1), .int (x 2), .int (x 3), .int (x 4), .int (x 5)])] (gN 0) tTrue ce__law_record_9 (rngV 0 (nb : Int)) = some ((List.range nb).map fun k => .str (clus (x 0) many (mx (x 4) k))) := by
    rw [rngV_nat]
    exact compL_map _ _ _ fun k hk => ⟨_, rfl, by
      have := List.mem_range.mp hk
      have e1 := mi_mix (x 4) (k := k) (lt_five this (Nat.le_trans hnb4 (by decide)))
      simp [ce__law_record_9, e1, mi_clus]⟩
  obtain ⟨nc, hnc, hnc3⟩ := mod_four (x 5 / 7)
  have rc : rgI (nc : Int) = true := rg_nat (Nat.le_trans hnc3 (by decide))
  have qc : (rngV 0 (nc : Int)).length ≤ 1000000 := by rw [rngV_len]; exact small_le hnc3 (by decide)
  have c10 : compL [none, some (.int (x 0)), some (.int many), some (.lst [.int (x 0), .int (x 1), .int (x 2), .int (x 3), .int (x 4), .int (x 5)])] (gN 0) tTrue ce__law_record_10 (rngV 0 (nc : Int)) = some ((List.range nc).map fun k => .str (clus (x 0) many (mx (x 5) k))) := by
    rw [rngV_nat]
    exact compL_map _ _ _ fun k hk => ⟨_, rfl, by
      have := List.mem_range.mp hk
      have e1 := mi_mix (x 5) (k := k) (lt_five this (Nat.le_trans hnc3 (by decide)))
      simp [ce__law_record_10, e1, mi_clus]⟩
  have hrun : atI [PV.str ("" : Str), .str ("never" : Str), .str ("may" : Str), .str ("must" : Str)] (x 1 / 28 % 4) = some (.str (pick [("" : Str), ("never" : Str), ("may" : Str), ("must" : Str)] (x 1 / 28 % 4))) :=
    pick_at (l := [("" : Str), ("never" : Str), ("may" : Str), ("must" : Str)]) (four_bd _).1 (four_bd _).2
  have mrun := pick_mem (l := [("" : Str), ("never" : Str), ("may" : Str), ("must" : Str)]) (i := x 1 / 28 % 4) (four_bd _).1 (four_bd _).2
  generalize pick [("" : Str), ("never" : Str), ("may" : Str), ("must" : Str)] (x 1 / 28 % 4) = run at hrun mrun
  refine ⟨⟨car, prs, ((List.range (many + np)).filter fun k => (1 == mx (x 3) k % 4 || 3 == mx (x 3) k % 4)).map fun (k : Nat) => pick sm k, ((List.range (many + np)).filter fun k => decide (1 < mx (x 3) k % 4)).map fun (k : Nat) => pick sm k,
    (List.range nb).map fun k => clus (x 0) many (mx (x 4) k), (List.range nc).map fun k => clus (x 0) many (mx (x 5) k), run, x 0, many⟩, ⟨hm1, hm7, hcar.symm, ?_, ?_, ?_, ?_, ?_, ?_, ?_, ?_, ?_, ?_, ?_⟩, ?_⟩
  · intro w hw
    rw [← hprs] at hw
    obtain ⟨k, _, e⟩ := List.mem_map.mp hw
    rw [← hpr] at e
    exact ⟨_, pick_mem (Int.emod_nonneg _ hmn) (by rw [lcar]; exact Int.emod_lt_of_pos _ hmp), _, pick_mem (Int.emod_nonneg _ hmn) (by rw [lcar]; exact Int.emod_lt_of_pos _ hmp), e.symm⟩
  · intro w hw
    obtain ⟨k, hk, e⟩ := List.mem_map.mp hw
    have := List.mem_range.mp (List.mem_filter.mp hk).1
    rw [hsm, ← e]
    exact pick_mem (cast_ge k) (by rw [lsm]; exact cast_lt this)
  · intro w hw
    obtain ⟨k, hk, e⟩ := List.mem_map.mp hw
    have := List.mem_range.mp (List.mem_filter.mp hk).1
    rw [hsm, ← e]
    exact pick_mem (cast_ge k) (by rw [lsm]; exact cast_lt this)
  · intro w hw
    obtain ⟨k, hk, e⟩ := List.mem_map.mp hw
    exact ⟨_, e.symm⟩
  · intro w hw
    obtain ⟨k, hk, e⟩ := List.mem_map.mp hw
    exact ⟨_, e.symm⟩
  · simpa using mrun
  · show prs.length ≤ 3; rw [lprs]; exact hnp3
  · rw [List.length_map]
    have := List.length_filter_le (fun k => (1 == mx (x 3) k % 4 || 3 == mx (x 3) k % 4)) (List.range (many + np))
    rw [List.length_range] at this; exact Nat.le_trans this hmp10
  · rw [List.length_map]
    have := List.length_filter_le (fun k => decide (1 < mx (x 3) k % 4)) (List.range (many + np))
    rw [List.length_range] at this; exact Nat.le_trans this hmp10
  · simp; omega
  · simp; omega
  · have ln : (prs.map PV.str).length = np := by rw [List.length_map, lprs]
    have ls : (sm.map PV.str).length = many + np := by rw [List.length_map, lsm]
    have qz : many + np ≤ 1000000 := small_le hmp10 (by decide)
    simp [mi__law_record, fb__law_record, r6, c1, q6, qz, lcar, hmany, rm, c2, qm, hnp, rp, l3, lprs, rt, ert, c4, qt, ql, esm, lsm, c5, c7, hnb, rb, c9, qb, hnc, rc, c10, qc, hrun]
    simp [recP, rowP, List.map_map, Function.comp_def]
end My
namespace My
open PySem L2 MR
theorem slen_app (a b : Str) : (a ++ b).length = a.length + b.length := by
  unfold Str.length
  rw [Str.cps_append]
  simp
theorem codes_app (a b : Str) : (a ++ b).cps.toList = a.cps.toList ++ b.cps.toList := by
  rw [Str.cps_append]
  simp
structure Low (w : Str) : Prop where
  codes : ∀ c ∈ w.cps.toList, 97 ≤ c ∧ c < 123
  l1 : 1 ≤ w.length
  l4 : w.length ≤ 4
theorem Low.noBl {w : Str} (h : Low w) : NoBl w := fun z => by have := h.codes _ z; omega
theorem low_letter (b k : Int) : Low (letter b k) := ⟨fun c hc => by
  have : c = ltn b k := by simpa [letter] using hc
  rw [this]; exact ltn_range b k, by show 1 ≤ 1; decide, by show 1 ≤ 4; decide⟩
theorem low_clus (b m n : Int) : Low (clus b m n) := ⟨fun c hc => by
  rw [clus_codes] at hc
  obtain ⟨k, _, e⟩ := List.mem_map.mp hc
  rw [← e]; exact ltn_range b _, by rw [clus_len]; omega, by rw [clus_len]; omega⟩
structure Rc.Lo (R : Rc) : Prop where
  c : ∀ w ∈ R.carriers, Low w
  p : ∀ w ∈ R.pairs, Low w
  l : ∀ w ∈ R.longs, Low w
  e : ∀ w ∈ R.eithers, Low w
  b : ∀ w ∈ R.begins, Low w
  s : ∀ w ∈ R.splits, Low w
theorem Rc.Good.lo {R : Rc} (G : R.Good) : R.Lo := by
  have c : ∀ w ∈ R.carriers, Low w ∧ w.length = 1 := fun w hw => by
    rw [G.car] at hw
    obtain ⟨k, _, e⟩ := List.mem_map.mp hw
    rw [← e]; exact ⟨low_letter _ _, rfl⟩
  have p : ∀ w ∈ R.pairs, Low w := fun w hw => by
    obtain ⟨a, ha, b, hb, e⟩ := G.prs w hw
    obtain ⟨la, a1⟩ := c a ha
    obtain ⟨lb, b1⟩ := c b hb
    rw [e]
    exact ⟨fun x hx => by
      rw [codes_app] at hx
      exact (List.mem_append.mp hx).elim (la.codes x) (lb.codes x), by rw [slen_app]; omega, by rw [slen_app]; omega⟩
  have cp : ∀ w ∈ R.carriers ++ R.pairs, Low w := fun w hw => (List.mem_append.mp hw).elim (fun h => (c w h).1) (p w)
  exact ⟨fun w h => (c w h).1, p, fun w h => cp w (G.lng w h), fun w h => cp w (G.eth w h), fun w h => by obtain ⟨n, e⟩ := G.beg w h; rw [e]; exact low_clus _ _ _, fun w h => by obtain ⟨n, e⟩ := G.spl w h; rw [e]; exact low_clus _ _ _⟩
def txt (x : Str × List Str) : Str := x.1 ++ (" " : Str) ++ Str.join (" " : Str) x.2
def kindRows (b : Bool) (k : Str) (ws : List Str) : List (Str × List Str) := if b = true then ws.map fun w => (k, [w]) else if ws = [] then [] else [(k, ws)]
theorem blen : (Str.ofString " ").length = 1 := by decide +kernel
theorem joinOk {ws : List Str} (h : ∀ w ∈ ws, w.length ≤ 4) (hn : ws.length ≤ 20) : JoinOk (Str.ofString " ") ws = true := by
  have gen : ∀ (l : List Str) (n : Nat), (∀ w ∈ l, w.length ≤ 4) → l.foldl (fun x1 x2 => x1 + x2.length + (Str.ofString " ").length) n ≤ n + 5 * l.length := by
    intro l
    induction l with
    | nil => intro n _; simp
    | cons w l ih =>
      intro n hw
      have h1 := ih (n + w.length + (Str.ofString " ").length) fun x hx => hw x (List.mem_cons_of_mem _ hx)
      have h2 := hw w List.mem_cons_self
      rw [blen] at h1 ⊢
      simp only [List.foldl_cons, List.length_cons]
      rw [blen] at *
      omega
  have g := gen ws 0 h
  unfold JoinOk Builtin.Str.tooLong
  rw [List.foldl_toArray]
  simp
  have : (10000 : Nat) ≤ sizeLine := by decide
  omega
theorem join_len {ws : List Str} (h : ∀ w ∈ ws, w.length ≤ 4) (hn : ws.length ≤ 20) : (Str.join (Str.ofString " ") ws).length ≤ 100 := by
  have h1 := StrLaws.join_length_le (Str.ofString " ") ws
  have h2 : (ws.map (·.length)).sum ≤ 4 * ws.length := by
    clear h1 hn
    induction ws with
    | nil => simp
    | cons w l ih =>
      have := ih fun x hx => h x (List.mem_cons_of_mem _ hx)
      have := h w List.mem_cons_self
      simp; omega
  rw [blen] at h1
  omega
theorem strsP_map : ∀ ws : List Str, strsP (ws.map PV.str) = some ws
  | [] => rfl
  | w :: ws => by simp [strsP_map ws]
theorem toDs_strs : ∀ ws : List Str, toDs (ws.map PV.str) = some (ws.map PyData.str)
  | [] => rfl
  | w :: ws => by simp [toDs, toD, toDs_strs ws]
theorem lay_strs : ∀ {ws : List Str}, (∀ w ∈ ws, PyData.strOk w = true) → PyData.canLayAll0 (ws.map PyData.str) = true
  | [], _ => rfl
  | w :: ws, h => by
    simp [PyData.canLayAll0, PyData.canLay0, h w List.mem_cons_self, lay_strs fun x hx => h x (List.mem_cons_of_mem _ hx)]
theorem depth_strs : ∀ ws : List Str, PyData.depthAll (ws.map PyData.str) ≤ 1
  | [] => by simp [PyData.depthAll]
  | w :: ws => by
    have := depth_strs ws
    simp [PyData.depthAll, PyData.depth]
    omega
theorem eqv_strs : ∀ xs ys : List Str, PyData.eqvAll (xs.map PyData.str) (ys.map PyData.str) = decide (xs = ys)
  | [], [] => rfl
  | [], _ :: _ => by simp [PyData.eqvAll]
  | _ :: _, [] => by simp [PyData.eqvAll]
  | x :: xs, y :: ys => by
    simp only [List.map_cons, PyData.eqvAll, PyData.eqv, eqv_strs xs ys]
    by_cases h : x = y
    · subst h; simp
    · simp [h]
theorem shaped_strs {ws : List Str} (h : ∀ w ∈ ws, PyData.strOk w = true) : SeqAt.shaped (.list (ws.map PyData.str)) = true := by
  have h1 := lay_strs h
  have h2 := depth_strs ws
  simp [SeqAt.shaped, PyData.canLay0, h1, PyData.depth]
  omega
theorem eqP_strs {xs ys : List Str} (hx : ∀ w ∈ xs, PyData.strOk w = true) (hy : ∀ w ∈ ys, PyData.strOk w = true) : eqP (.lst (xs.map .str)) (.lst (ys.map .str)) = some (decide (xs = ys)) := by
  have h1 := shaped_strs hx
  have h2 := shaped_strs hy
  simp [eqP, eqS, eqD, toD, toDs_strs, h1, h2, PyData.eqv, eqv_strs]
theorem Low.ok {w : Str} (h : Low w) : PyData.strOk w = true := by
  unfold PyData.strOk
  rw [← Array.all_toList, List.all_eq_true]
  intro c hc
  have := h.codes c hc
  simp; omega
theorem rows_turn {R : Rc} {c : Int} {k : Nat} {kind : Str} {ws L : List Str} {p : Int} (hr : atI [rowP R.carriers, rowP R.pairs, rowP R.longs, rowP R.eithers, rowP R.begins, rowP R.splits, .str R.run, .int R.base] (k : Int) = some (.lst (ws.map .str)))
    (hp : atI [PV.int 1, .int 2, .int 4, .int 8, .int 16, .int 32] (k : Int) = some (.int p)) (h0 : 0 < p ∧ p < 1073741824) (hk : kind.length ≤ 10) (hw : ∀ w ∈ ws, Low w) (hn : ws.length ≤ 20) (hL : L.length ≤ 1000) :
    turn (gT [3, 4]) [3, 4, 5] lb__law_rows_2 (.tup [.int k, .str kind]) [some (recP R), some (.int c), some (.lst (L.map .str)), none, none, none, none] =
      some [some (recP R), some (.int c), some (.lst ((L ++ (kindRows (decide (c / p % 2 = 1)) kind ws).map txt).map .str)), none, none, none, none] := by
  have hc : compL [none, some (.str kind)] (gN 0) tTrue ce__law_rows_1 (ws.map .str) = some (ws.map fun w => .str (txt (kind, [w]))) :=
    compL_map _ _ ws fun w h => ⟨_, rfl, by
      have h1 : kind.length + (Str.ofString " ").length ≤ 1000000 := by rw [blen]; omega
      have h2 : (kind ++ Str.ofString " ").length + w.length ≤ 1000000 := by rw [slen_app, blen]; have := (hw w h).l4; omega
      simp [ce__law_rows_1, h1, h2, txt, Str.join]⟩
  have hl2 : ws.length ≤ 1000000 := by omega
  have hl3 : L.length + ws.length ≤ 1000000 := by omega
  have hl4 : L.length < 1000000 := by omega
  by_cases hb : c / p % 2 = 1
  · simp [turn_ap, lb__law_rows_2, recP, hr, hp, h0, hb, hc, hl2, hl3, kindRows, List.map_map, Function.comp_def]
  · have hj := joinOk (fun w h => (hw w h).l4) hn
    have hj2 := join_len (fun w h => (hw w h).l4) hn
    have h1 : kind.length + (Str.ofString " ").length ≤ 1000000 := by rw [blen]; omega
    have h2 : (kind ++ Str.ofString " ").length + (Str.join (Str.ofString " ") ws).length ≤ 1000000 := by rw [slen_app, blen]; omega
    have he := eqP_strs (xs := ws) (ys := []) (fun w h => (hw w h).ok) (fun w h => by cases h)
    simp only [List.map_nil] at he
    have he0 : eqP (.lst []) (.lst []) = some true := eqP_strs (xs := []) (ys := []) (fun w h => by cases h) (fun w h => by cases h)
    by_cases hz : ws = []
    · subst hz
      simp [turn_ap, lb__law_rows_2, recP, hr, hp, h0, hb, kindRows, neQ_ap, he0]
    · simp [turn_ap, lb__law_rows_2, recP, hr, hp, h0, hb, kindRows, hz, strsP_map, hj, h1, h2, hl4, txt, neQ_ap, he]
end My
namespace My
open PySem L2 MR
theorem sSeq_nx {f g : MR.Env → Option Out} {env e : MR.Env} (h : f env = some (.nx e)) : sSeq f g env = g e := by simp [h]
theorem cutP_drop {α : Type} (f : α → PV) (l : List α) (m : Nat) (h : m ≤ l.length) : cutP (l.map f) (some (m : Int)) none = (l.drop m).map f := by
  unfold cutP
  rw [HT.sIx_nat, HT.sIx_none]
  simp only [List.length_map]
  rw [Nat.min_eq_left h, ← List.map_drop, List.take_of_length_le (by simp)]
theorem cutP_take {α : Type} (f : α → PV) (l : List α) (m : Nat) (h : m ≤ l.length) : cutP (l.map f) none (some (m : Int)) = (l.take m).map f := by
  unfold cutP
  rw [HT.sIx_nat, HT.sIx_none]
  simp only [List.length_map]
  rw [Nat.min_eq_left h]
  simp
def runRows (run : Str) : List (Str × List Str) := if run = ("" : Str) then [] else [(("run" : Str), [run])]
def allRows (c : Int) (R : Rc) : List (Str × List Str) := kindRows (decide (c / 1 % 2 = 1)) ("carry" : Str) R.carriers ++ kindRows (decide (c / 2 % 2 = 1)) ("one" : Str) R.pairs ++ kindRows (decide (c / 4 % 2 = 1)) ("long" : Str) R.longs ++
  kindRows (decide (c / 8 % 2 = 1)) ("either" : Str) R.eithers ++ kindRows (decide (c / 16 % 2 = 1)) ("begin" : Str) R.begins ++ kindRows (decide (c / 32 % 2 = 1)) ("split" : Str) R.splits ++ runRows R.run
theorem kindRows_len (b : Bool) (k : Str) (ws : List Str) : (kindRows b k ws).length ≤ ws.length + 1 := by
  unfold kindRows
  split
  · simp
  · split <;> simp
theorem ln_le {A : List (Str × List Str)} {L : List Str} {a b : Nat} (h : L.length ≤ a) (h' : A.length ≤ b) : (L ++ A.map txt).length ≤ a + b := by
  rw [List.length_append, List.length_map]
  exact Nat.add_le_add h h'
theorem ap_le {α : Type} {A B : List α} {a b : Nat} (h : A.length ≤ a) (h' : B.length ≤ b) : (A ++ B).length ≤ a + b := by
  rw [List.length_append]
  exact Nat.add_le_add h h'
theorem runRows_len (r : Str) : (runRows r).length ≤ 1 := by unfold runRows; split <;> simp
theorem mod_ex1 (a : Int) (n : Nat) : ∃ m : Nat, a % ((n : Int) + 1) = (m : Int) ∧ m ≤ n := ⟨(a % ((n : Int) + 1)).toNat, by have := Int.emod_nonneg a (b := (n : Int) + 1) (by omega); omega, by have := Int.emod_lt_of_pos a (b := (n : Int) + 1) (by omega); have := Int.emod_nonneg a (b := (n : Int) + 1) (by omega); omega⟩
theorem succ_pos' (n : Nat) : (0 : Int) < (n : Int) + 1 := by omega
theorem big_lt {n : Nat} (h : n ≤ 1000) : n < 1000000 := by omega
theorem rows_ok {R : Rc} (G : R.Good) (c : Int) : ∃ rs : List (Str × List Str), (∀ x, x ∈ rs ↔ x ∈ allRows c R) ∧ rs.length ≤ 44 ∧ mi__law_rows [recP R, .int c] = some (.lst ((rs.map txt).map .str)) := by
  have Lo := G.lo
  have lc : R.carriers.length ≤ 7 := by rw [G.car]; simp; exact G.m7
  have k1 := kindRows_len (decide (c / 1 % 2 = 1)) ("carry" : Str) R.carriers
  have k2 := kindRows_len (decide (c / 2 % 2 = 1)) ("one" : Str) R.pairs
  have k3 := kindRows_len (decide (c / 4 % 2 = 1)) ("long" : Str) R.longs
  have k4 := kindRows_len (decide (c / 8 % 2 = 1)) ("either" : Str) R.eithers
  have k5 := kindRows_len (decide (c / 16 % 2 = 1)) ("begin" : Str) R.begins
  have k6 := kindRows_len (decide (c / 32 % 2 = 1)) ("split" : Str) R.splits
  have g1 := G.l1; have g2 := G.l2; have g3 := G.l3; have g4 := G.l4; have g5 := G.l5
  have dd1 := Nat.le_trans k1 (Nat.succ_le_succ lc)
  have dd2 := Nat.le_trans k2 (Nat.succ_le_succ g1)
  have dd3 := Nat.le_trans k3 (Nat.succ_le_succ g2)
  have dd4 := Nat.le_trans k4 (Nat.succ_le_succ g3)
  have dd5 := Nat.le_trans k5 (Nat.succ_le_succ g4)
  have dd6 := Nat.le_trans k6 (Nat.succ_le_succ g5)
  have t1 := rows_turn (R := R) (c := c) (k := 0) (kind := "carry") (ws := R.carriers) (L := []) (p := 1) rfl rfl (by decide) (by decide +kernel) Lo.c (Nat.le_trans lc (by decide)) (by simp)
  generalize hA1 : kindRows (decide (c / 1 % 2 = 1)) ("carry" : Str) R.carriers = A1 at t1 dd1
  have l1 := ln_le (L := []) (a := 0) (Nat.le_refl 0) dd1
  have t2 := rows_turn (R := R) (c := c) (k := 1) (kind := "one") (ws := R.pairs) (L := [] ++ A1.map txt) (p := 2) rfl rfl (by decide) (by decide +kernel) Lo.p (Nat.le_trans g1 (by decide)) (Nat.le_trans l1 (by decide))
  generalize hA2 : kindRows (decide (c / 2 % 2 = 1)) ("one" : Str) R.pairs = A2 at t2 dd2
  have l2 := ln_le l1 dd2
  have t3 := rows_turn (R := R) (c := c) (k := 2) (kind := "long") (ws := R.longs) (L := [] ++ A1.map txt ++ A2.map txt) (p := 4) rfl rfl (by decide) (by decide +kernel) Lo.l (Nat.le_trans g2 (by decide)) (Nat.le_trans l2 (by decide))
  generalize hA3 : kindRows (decide (c / 4 % 2 = 1)) ("long" : Str) R.longs = A3 at t3 dd3
  have l3 := ln_le l2 dd3
  have t4 := rows_turn (R := R) (c := c) (k := 3) (kind := "either") (ws := R.eithers) (L := [] ++ A1.map txt ++ A2.map txt ++ A3.map txt) (p := 8) rfl rfl (by decide) (by decide +kernel) Lo.e (Nat.le_trans g3 (by decide)) (Nat.le_trans l3 (by decide))
  generalize hA4 : kindRows (decide (c / 8 % 2 = 1)) ("either" : Str) R.eithers = A4 at t4 dd4
  have l4 := ln_le l3 dd4
  have t5 := rows_turn (R := R) (c := c) (k := 4) (kind := "begin") (ws := R.begins) (L := [] ++ A1.map txt ++ A2.map txt ++ A3.map txt ++ A4.map txt) (p := 16) rfl rfl (by decide) (by decide +kernel) Lo.b (Nat.le_trans g4 (by decide)) (Nat.le_trans l4 (by decide))
  generalize hA5 : kindRows (decide (c / 16 % 2 = 1)) ("begin" : Str) R.begins = A5 at t5 dd5
  have l5 := ln_le l4 dd5
  have t6 := rows_turn (R := R) (c := c) (k := 5) (kind := "split") (ws := R.splits) (L := [] ++ A1.map txt ++ A2.map txt ++ A3.map txt ++ A4.map txt ++ A5.map txt) (p := 32) rfl rfl (by decide) (by decide +kernel) Lo.s (Nat.le_trans g5 (by decide)) (Nat.le_trans l5 (by decide))
  generalize hA6 : kindRows (decide (c / 32 % 2 = 1)) ("split" : Str) R.splits = A6 at t6 dd6
  have eL : ∃ B : List (Str × List Str), B = A1 ++ A2 ++ A3 ++ A4 ++ A5 ++ A6 := ⟨_, rfl⟩
  obtain ⟨B, hB⟩ := eL
  have lB : B.length ≤ 43 := by rw [hB]; exact Nat.le_trans (ap_le (ap_le (ap_le (ap_le (ap_le dd1 dd2) dd3) dd4) dd5) dd6) (by decide)
  have loop : loopS (gT [3, 4]) [3, 4, 5] lb__law_rows_2 (enumV 0 [.str "carry", .str "one", .str "long", .str "either", .str "begin", .str "split"]) [some (recP R), some (.int c), some (.lst []), none, none, none, none] =
      some (.nx [some (recP R), some (.int c), some (.lst ((B.map txt).map .str)), none, none, none, none]) := by
    refine (loopS_turn t1).trans ?_
    refine (loopS_turn t2).trans ?_
    refine (loopS_turn t3).trans ?_
    refine (loopS_turn t4).trans ?_
    refine (loopS_turn t5).trans ?_
    refine (loopS_turn t6).trans ?_
    rw [hB]
    simp [enumV, loopS]
  obtain ⟨Z, hZ⟩ : ∃ Z, Z = B ++ runRows R.run := ⟨_, rfl⟩
  have lZ : Z.length ≤ 44 := by
    rw [hZ]; exact Nat.le_trans (ap_le lB (runRows_len _)) (by decide)
  have hrun : sIf (tV (b2 neQ (b2 ixP (bV 0) (bC (.int 6))) (bC (.str "")))) (sMut1 appV 2 (b2 addV (bC (.str "run ")) (b2 ixP (bV 0) (bC (.int 6))))) sNx [some (recP R), some (.int c), some (.lst ((B.map txt).map .str)), none, none, none, none] =
      some (.nx [some (recP R), some (.int c), some (.lst ((Z.map txt).map .str)), none, none, none, none]) := by
    rw [hZ]
    by_cases e : R.run = ("" : Str)
    · simp [recP, e, runRows]
    · have e1 : (Str.ofString "run ").length + R.run.length ≤ 1000000 := by
        have h1 : (Str.ofString "run ").length = 4 := by decide +kernel
        have h2 : R.run.length ≤ 10 := by
          rcases G.run with h | h | h | h <;> rw [h] <;> decide +kernel
        omega
      have e2 : (Str.ofString "run ") ++ R.run = txt (("run" : Str), [R.run]) := by
        unfold txt
        have : (Str.ofString "run ") = ("run" : Str) ++ (" " : Str) := by decide +kernel
        rw [this]; rfl
      have e3 : B.length < 1000000 := big_lt (Nat.le_trans lB (by decide))
      simp [recP, e, e1, e2, e3, runRows]
  have hZ0 : (0 : Int) < (Z.length : Int) + 1 := succ_pos' _
  obtain ⟨m, hm, hmZ⟩ := mod_ex1 (c / 64) Z.length
  refine ⟨Z.drop m ++ Z.take m, fun x => ?_, by simp; omega, ?_⟩
  · have : allRows c R = Z := by unfold allRows; rw [hA1, hA2, hA3, hA4, hA5, hA6, hZ, hB]
    rw [this, List.mem_append, or_comm, ← List.mem_append, List.take_append_drop]
  · have d1 := cutP_drop (fun x : Str => PV.str x) (Z.map txt) m (by simp; exact hmZ)
    have d2 := cutP_take (fun x : Str => PV.str x) (Z.map txt) m (by simp; exact hmZ)
    have d3 : ((Z.map txt).drop m).length + ((Z.map txt).take m).length ≤ 1000000 := by simp; omega
    have d4 : Z.length - m + min m Z.length ≤ 1000000 := by omega
    have s1 : sSet 2 (bLst bNil) [some (recP R), some (.int c), none, none, none, none, none] = some (.nx [some (recP R), some (.int c), some (.lst []), none, none, none, none]) := by simp
    have s2 : sFor (gT [3, 4]) (iE (bLst (bCons (bC (.str "carry")) (bCons (bC (.str "one")) (bCons (bC (.str "long")) (bCons (bC (.str "either")) (bCons (bC (.str "begin")) (bCons (bC (.str "split")) bNil)))))))) [3, 4, 5] lb__law_rows_2 [some (recP R), some (.int c), some (.lst []), none, none, none, none] =
        some (.nx [some (recP R), some (.int c), some (.lst ((B.map txt).map .str)), none, none, none, none]) := by
      simp [-gT_ap, loop]
    have s4 : sSet 6 (b2 modV (b2 divV (bV 1) (bC (.int 64))) (b2 addV (b1 lenV (bV 2)) (bC (.int 1)))) [some (recP R), some (.int c), some (.lst ((Z.map txt).map .str)), none, none, none, none] = some (.nx [some (recP R), some (.int c), some (.lst ((Z.map txt).map .str)), none, none, none, some (.int m)]) := by
      simp [hZ0, hm]
    have s5 : sRet (b2 catV (bSl (bV 2) (oS (bV 6)) oN) (bSl (bV 2) oN (oS (bV 6)))) [some (recP R), some (.int c), some (.lst ((Z.map txt).map .str)), none, none, none, some (.int m)] = some (.rt (.lst (((Z.drop m ++ Z.take m).map txt).map .str))) := by
      simp only [sRet_ap, b2_ap, bSl_ap, bV_ap, oS_ap, oN_ap, List.getElem?_cons_succ, List.getElem?_cons_zero, Option.bind_some, d1, d2, catV, List.length_map]
      rw [if_pos (by simp; omega)]
      simp
    have e : fb__law_rows [some (recP R), some (.int c), none, none, none, none, none] = some (.rt (.lst (((Z.drop m ++ Z.take m).map txt).map .str))) := by
      unfold fb__law_rows
      rw [sSeq_nx s1, sSeq_nx s2, sSeq_nx hrun, sSeq_nx s4, s5]
    simp [mi__law_rows, e]
end My
namespace My
open PySem L2 MR
theorem mem_kindRows {b : Bool} {k : Str} {ws : List Str} {x : Str × List Str} (h : x ∈ kindRows b k ws) : x.1 = k ∧ x.2 ≠ [] ∧ (∀ w ∈ x.2, w ∈ ws) ∧ x.2.length ≤ ws.length := by
  unfold kindRows at h
  split at h
  · obtain ⟨w, hw, e⟩ := List.mem_map.mp h
    subst e
    refine ⟨rfl, by simp, fun z hz => by simp at hz; rw [hz]; exact hw, ?_⟩
    have := List.length_pos_of_mem hw
    show 1 ≤ ws.length
    omega
  · split at h
    · cases h
    · rename_i hne
      have e : x = (k, ws) := by simpa using h
      subst e
      exact ⟨rfl, hne, fun _ z => z, Nat.le_refl _⟩
theorem cover {b : Bool} {k : Str} {ws : List Str} {w : Str} (h : w ∈ ws) : ∃ r, (k, r) ∈ kindRows b k ws ∧ w ∈ r := by
  unfold kindRows
  split
  · exact ⟨[w], List.mem_map.mpr ⟨w, h, rfl⟩, by simp⟩
  · rw [if_neg (by intro z; rw [z] at h; cases h)]
    exact ⟨ws, by simp, h⟩
def StopW (R : Rc) (a : Str) : Prop := ∃ i : Nat, i < 13 ∧ a = letter R.base ((R.many : Int) + (i : Nat))
def AlikeW (R : Rc) (a b : Str) : Prop := (a ∈ R.carriers ++ R.pairs ∧ b ∈ R.carriers ++ R.pairs) ∨ (StopW R a ∧ StopW R b)
inductive RowIs (R : Rc) : Str × List Str → Prop
  | carry {r} : r ≠ [] → (∀ w ∈ r, w ∈ R.carriers) → RowIs R (("carry" : Str), r)
  | one {r} : r ≠ [] → (∀ w ∈ r, w ∈ R.pairs) → RowIs R (("one" : Str), r)
  | long {r} : r ≠ [] → (∀ w ∈ r, w ∈ R.longs) → RowIs R (("long" : Str), r)
  | either {r} : r ≠ [] → (∀ w ∈ r, w ∈ R.eithers) → RowIs R (("either" : Str), r)
  | begin {r} : r ≠ [] → (∀ w ∈ r, w ∈ R.begins) → RowIs R (("begin" : Str), r)
  | split {r} : r ≠ [] → (∀ w ∈ r, w ∈ R.splits) → RowIs R (("split" : Str), r)
  | run {r} : r = ("never" : Str) ∨ r = ("may" : Str) ∨ r = ("must" : Str) → RowIs R (("run" : Str), [r])
  | alike {a b} : AlikeW R a b → RowIs R (("alike" : Str), [a, b])
structure Tells (R : Rc) (rs : List (Str × List Str)) : Prop where
  is : ∀ x ∈ rs, RowIs R x
  len : ∀ x ∈ rs, x.2.length ≤ 20
  n : rs.length ≤ 150
  carry : ∀ w ∈ R.carriers, ∃ r, (("carry" : Str), r) ∈ rs ∧ w ∈ r
  one : ∀ w ∈ R.pairs, ∃ r, (("one" : Str), r) ∈ rs ∧ w ∈ r
  long : ∀ w ∈ R.longs, ∃ r, (("long" : Str), r) ∈ rs ∧ w ∈ r
  either : ∀ w ∈ R.eithers, ∃ r, (("either" : Str), r) ∈ rs ∧ w ∈ r
  begin : ∀ w ∈ R.begins, ∃ r, (("begin" : Str), r) ∈ rs ∧ w ∈ r
  split : ∀ w ∈ R.splits, ∃ r, (("split" : Str), r) ∈ rs ∧ w ∈ r
  run : R.run ≠ ("" : Str) → (("run" : Str), [R.run]) ∈ rs
theorem tells_of {R : Rc} (G : R.Good) {c : Int} {rs : List (Str × List Str)} (h : ∀ x, x ∈ rs ↔ x ∈ allRows c R) (hn : rs.length ≤ 100) : Tells R rs := by
  have lc : R.carriers.length ≤ 7 := by rw [G.car]; simp; exact G.m7
  have g1 := G.l1; have g2 := G.l2; have g3 := G.l3; have g4 := G.l4; have g5 := G.l5
  have cs : ∀ x ∈ rs, RowIs R x ∧ x.2.length ≤ 20 := fun x hx => by
    have hx := (h x).mp hx
    unfold allRows at hx
    simp only [List.mem_append] at hx
    obtain ⟨k, r⟩ := x
    rcases hx with (((((hx | hx) | hx) | hx) | hx) | hx) | hx
    · obtain ⟨e, h1, h2, h3⟩ := mem_kindRows hx; cases e; exact ⟨.carry h1 h2, by omega⟩
    · obtain ⟨e, h1, h2, h3⟩ := mem_kindRows hx; cases e; exact ⟨.one h1 h2, by omega⟩
    · obtain ⟨e, h1, h2, h3⟩ := mem_kindRows hx; cases e; exact ⟨.long h1 h2, by omega⟩
    · obtain ⟨e, h1, h2, h3⟩ := mem_kindRows hx; cases e; exact ⟨.either h1 h2, by omega⟩
    · obtain ⟨e, h1, h2, h3⟩ := mem_kindRows hx; cases e; exact ⟨.begin h1 h2, by omega⟩
    · obtain ⟨e, h1, h2, h3⟩ := mem_kindRows hx; cases e; exact ⟨.split h1 h2, by omega⟩
    · unfold runRows at hx
      split at hx
      · cases hx
      · rename_i hr
        have e : (k, r) = (("run" : Str), [R.run]) := by simpa using hx
        cases e
        exact ⟨.run (G.run.resolve_left hr), by simp⟩
  refine ⟨fun x hx => (cs x hx).1, fun x hx => (cs x hx).2, by omega, fun w hw => ?_, fun w hw => ?_, fun w hw => ?_, fun w hw => ?_, fun w hw => ?_, fun w hw => ?_, fun hr => ?_⟩
  · obtain ⟨r, h1, h2⟩ := cover (b := decide (c / 1 % 2 = 1)) (k := ("carry" : Str)) hw
    exact ⟨r, (h _).mpr (by unfold allRows; simp only [List.mem_append]; exact .inl (.inl (.inl (.inl (.inl (.inl h1)))))), h2⟩
  · obtain ⟨r, h1, h2⟩ := cover (b := decide (c / 2 % 2 = 1)) (k := ("one" : Str)) hw
    exact ⟨r, (h _).mpr (by unfold allRows; simp only [List.mem_append]; exact .inl (.inl (.inl (.inl (.inl (.inr h1)))))), h2⟩
  · obtain ⟨r, h1, h2⟩ := cover (b := decide (c / 4 % 2 = 1)) (k := ("long" : Str)) hw
    exact ⟨r, (h _).mpr (by unfold allRows; simp only [List.mem_append]; exact .inl (.inl (.inl (.inl (.inr h1))))), h2⟩
  · obtain ⟨r, h1, h2⟩ := cover (b := decide (c / 8 % 2 = 1)) (k := ("either" : Str)) hw
    exact ⟨r, (h _).mpr (by unfold allRows; simp only [List.mem_append]; exact .inl (.inl (.inl (.inr h1)))), h2⟩
  · obtain ⟨r, h1, h2⟩ := cover (b := decide (c / 16 % 2 = 1)) (k := ("begin" : Str)) hw
    exact ⟨r, (h _).mpr (by unfold allRows; simp only [List.mem_append]; exact .inl (.inl (.inr h1))), h2⟩
  · obtain ⟨r, h1, h2⟩ := cover (b := decide (c / 32 % 2 = 1)) (k := ("split" : Str)) hw
    exact ⟨r, (h _).mpr (by unfold allRows; simp only [List.mem_append]; exact .inl (.inr h1)), h2⟩
  · exact (h _).mpr (by unfold allRows runRows; simp [hr])
theorem kd_carry : NoBl ("carry" : Str) ∧ ("carry" : Str).length ≤ 10 ∧ PyData.strOk ("carry" : Str) = true := by unfold NoBl; decide +kernel
theorem kd_one : NoBl ("one" : Str) ∧ ("one" : Str).length ≤ 10 ∧ PyData.strOk ("one" : Str) = true := by unfold NoBl; decide +kernel
theorem kd_long : NoBl ("long" : Str) ∧ ("long" : Str).length ≤ 10 ∧ PyData.strOk ("long" : Str) = true := by unfold NoBl; decide +kernel
theorem kd_either : NoBl ("either" : Str) ∧ ("either" : Str).length ≤ 10 ∧ PyData.strOk ("either" : Str) = true := by unfold NoBl; decide +kernel
theorem kd_begin : NoBl ("begin" : Str) ∧ ("begin" : Str).length ≤ 10 ∧ PyData.strOk ("begin" : Str) = true := by unfold NoBl; decide +kernel
theorem kd_split : NoBl ("split" : Str) ∧ ("split" : Str).length ≤ 10 ∧ PyData.strOk ("split" : Str) = true := by unfold NoBl; decide +kernel
theorem kd_run : NoBl ("run" : Str) ∧ ("run" : Str).length ≤ 10 ∧ PyData.strOk ("run" : Str) = true := by unfold NoBl; decide +kernel
theorem kd_never : NoBl ("never" : Str) ∧ ("never" : Str).length ≤ 10 ∧ PyData.strOk ("never" : Str) = true := by unfold NoBl; decide +kernel
theorem kd_may : NoBl ("may" : Str) ∧ ("may" : Str).length ≤ 10 ∧ PyData.strOk ("may" : Str) = true := by unfold NoBl; decide +kernel
theorem kd_must : NoBl ("must" : Str) ∧ ("must" : Str).length ≤ 10 ∧ PyData.strOk ("must" : Str) = true := by unfold NoBl; decide +kernel
theorem kd_alike : NoBl ("alike" : Str) ∧ ("alike" : Str).length ≤ 10 ∧ PyData.strOk ("alike" : Str) = true := by unfold NoBl; decide +kernel
def cutOf (rs : List (Str × List Str)) : List (List Str) := rs.map fun x => x.1 :: x.2
section
variable {R : Rc} {rs : List (Str × List Str)} (G : R.Good) (T : Tells R rs)
include G
theorem low_row {x : Str × List Str} (h : RowIs R x) : (∀ w ∈ x.2, NoBl w ∧ w.length ≤ 10 ∧ PyData.strOk w = true) ∧ NoBl x.1 ∧ x.1.length ≤ 10 ∧ x.2 ≠ [] ∧ PyData.strOk x.1 = true := by
  have Lo := G.lo
  have ok : ∀ {w : Str}, Low w → NoBl w ∧ w.length ≤ 10 ∧ PyData.strOk w = true := fun h => ⟨h.noBl, by have := h.l4; omega, h.ok⟩
  cases h with
  | carry h1 h2 => exact ⟨fun w hw => ok (Lo.c w (h2 w hw)), kd_carry.1, kd_carry.2.1, h1, kd_carry.2.2⟩
  | one h1 h2 => exact ⟨fun w hw => ok (Lo.p w (h2 w hw)), kd_one.1, kd_one.2.1, h1, kd_one.2.2⟩
  | long h1 h2 => exact ⟨fun w hw => ok (Lo.l w (h2 w hw)), kd_long.1, kd_long.2.1, h1, kd_long.2.2⟩
  | either h1 h2 => exact ⟨fun w hw => ok (Lo.e w (h2 w hw)), kd_either.1, kd_either.2.1, h1, kd_either.2.2⟩
  | begin h1 h2 => exact ⟨fun w hw => ok (Lo.b w (h2 w hw)), kd_begin.1, kd_begin.2.1, h1, kd_begin.2.2⟩
  | split h1 h2 => exact ⟨fun w hw => ok (Lo.s w (h2 w hw)), kd_split.1, kd_split.2.1, h1, kd_split.2.2⟩
  | @run r hr =>
    refine ⟨fun w hw => ?_, kd_run.1, kd_run.2.1, by simp, kd_run.2.2⟩
    have e : w = r := by simpa using hw
    rw [e]
    rcases hr with h | h | h
    · rw [h]; exact kd_never
    · rw [h]; exact kd_may
    · rw [h]; exact kd_must
  | @alike a b h =>
    have hw : ∀ w, (w ∈ R.carriers ++ R.pairs ∨ StopW R w) → Low w := fun w h => by
      rcases h with h | ⟨i, _, e⟩
      · rcases List.mem_append.mp h with h | h
        · exact Lo.c w h
        · exact Lo.p w h
      · rw [e]; exact low_letter _ _
    refine ⟨fun w hw' => ?_, kd_alike.1, kd_alike.2.1, by simp, kd_alike.2.2⟩
    have e : w = a ∨ w = b := by simpa using hw'
    rcases h with h | h
    · rcases e with e | e
      · rw [e]; exact ok (hw _ (.inl h.1))
      · rw [e]; exact ok (hw _ (.inl h.2))
    · rcases e with e | e
      · rw [e]; exact ok (hw _ (.inr h.1))
      · rw [e]; exact ok (hw _ (.inr h.2))
include T
theorem cut_eq : (rs.map txt).map cutRow = cutOf rs := by
  unfold cutOf
  rw [List.map_map]
  refine List.map_congr_left fun x hx => ?_
  obtain ⟨h1, h2, _, h3, _⟩ := low_row G (T.is x hx)
  show cutRow (x.1 ++ (" " : Str) ++ Str.join (" " : Str) x.2) = _
  unfold cutRow
  rw [split_cons h2, split_join h3 fun w hw => (h1 w hw).1]
theorem isLetter_car {w : Str} (h : w ∈ R.carriers) : isLetter w = true := by
  rw [G.car] at h
  obtain ⟨k, _, e⟩ := List.mem_map.mp h
  rw [← e]; exact isLetter_letter _ _
theorem mem_cut {k : Str} {r : List Str} : (k :: r) ∈ cutOf rs ↔ (k, r) ∈ rs := by
  unfold cutOf
  rw [List.mem_map]
  constructor
  · rintro ⟨⟨k', r'⟩, h, e⟩
    cases e; exact h
  · intro h; exact ⟨_, h, rfl⟩
theorem carryRow_ok {r : List Str} (h : (("carry" : Str), r) ∈ rs) : carryRow (("carry" : Str) :: r) = true ∧ ∀ w ∈ r, w ∈ R.carriers := by
  have hi := T.is _ h
  generalize hx : ((("carry" : Str), r) : Str × List Str) = x at hi
  cases hi with
  | carry h1 h2 =>
    cases hx
    refine ⟨?_, h2⟩
    simp [carryRow]
    exact ⟨List.length_pos_iff.mpr h1, fun w hw => isLetter_car G T (h2 w hw)⟩
  | _ => exact absurd (Prod.mk.inj hx).1 (by decide +kernel)
theorem car_iff (y : Str) : y ∈ carriersOf (cutOf rs) ↔ y ∈ R.carriers := by
  unfold carriersOf
  rw [mem_tell]
  constructor
  · rintro ⟨r, h1, h2⟩
    have h1 := (mem_cut G T).mp (List.mem_filter.mp h1).1
    exact (carryRow_ok G T h1).2 y h2
  · intro h
    obtain ⟨r, h1, h2⟩ := T.carry y h
    exact ⟨r, List.mem_filter.mpr ⟨(mem_cut G T).mpr h1, (carryRow_ok G T h1).1⟩, h2⟩
theorem pairOf_ok {w : Str} (h : w ∈ R.pairs) : pairOf (inS (carriersOf (cutOf rs))) w = true := by
  obtain ⟨a, ha, b, hb, e⟩ := G.prs w h
  have ca := ha; have cb := hb
  rw [G.car] at ha hb
  obtain ⟨i, _, ea⟩ := List.mem_map.mp ha
  obtain ⟨j, _, eb⟩ := List.mem_map.mp hb
  have ec : w.cps.toList = [ltn R.base i, ltn R.base j] := by
    rw [e, ← ea, ← eb, codes_app]; rfl
  unfold pairOf
  rw [ec]
  simp only [inS, Bool.and_eq_true, decide_eq_true_eq]
  rw [car_iff G T, car_iff G T]
  exact ⟨by rw [← ea] at ca; exact ca, by rw [← eb] at cb; exact cb⟩
theorem oneRow_ok {r : List Str} (h : (("one" : Str), r) ∈ rs) : oneRow (inS (carriersOf (cutOf rs))) (("one" : Str) :: r) = true ∧ ∀ w ∈ r, w ∈ R.pairs := by
  have hi := T.is _ h
  generalize hx : ((("one" : Str), r) : Str × List Str) = x at hi
  cases hi with
  | one h1 h2 =>
    cases hx
    refine ⟨?_, h2⟩
    simp [oneRow]
    exact ⟨List.length_pos_iff.mpr h1, fun w hw => pairOf_ok G T (h2 w hw)⟩
  | _ => exact absurd (Prod.mk.inj hx).1 (by decide +kernel)
theorem pair_iff (y : Str) : y ∈ pairsOf (cutOf rs) ↔ y ∈ R.pairs := by
  unfold pairsOf
  rw [mem_tell]
  constructor
  · rintro ⟨r, h1, h2⟩
    have h1 := (mem_cut G T).mp (List.mem_filter.mp h1).1
    exact (oneRow_ok G T h1).2 y h2
  · intro h
    obtain ⟨r, h1, h2⟩ := T.one y h
    exact ⟨r, List.mem_filter.mpr ⟨(mem_cut G T).mpr h1, (oneRow_ok G T h1).1⟩, h2⟩
theorem cp_ok {w : Str} (h : w ∈ R.carriers ++ R.pairs) : w ∈ carriersOf (cutOf rs) ++ pairsOf (cutOf rs) := by
  rw [List.mem_append] at h ⊢
  exact h.imp (car_iff G T w).mpr (pair_iff G T w).mpr
theorem clus_ok (n : Int) : clusterOk (inS (carriersOf (cutOf rs))) (clus R.base R.many n) = true := by
  have hl := clus_len R.base R.many n
  have m1 := G.m1; have m7 := G.m7
  simp only [clusterOk, Bool.and_eq_true, decide_eq_true_eq]
  refine ⟨⟨by omega, by omega⟩, ?_⟩
  rw [List.all_eq_true]
  intro c hc
  rw [clus_codes] at hc
  obtain ⟨k, _, e⟩ := List.mem_map.mp hc
  have hd := dg_range n k
  simp only [stopOk, Bool.and_eq_true, Bool.not_eq_true', inS, decide_eq_false_iff_not]
  rw [← e]
  refine ⟨isLetter_letter _ _, fun hm => ?_⟩
  rw [car_iff G T, G.car] at hm
  obtain ⟨j, hj, ej⟩ := List.mem_map.mp hm
  have hj := List.mem_range.mp hj
  have := letter_inj (c := R.base) (j := (j : Nat)) (k := (R.many : Int) + dg n k) (by omega) (by omega) (by omega) (by omega) ej
  omega
theorem stopW_ok {w : Str} (h : StopW R w) : stopOk (inS (carriersOf (cutOf rs))) w = true := by
  obtain ⟨i, hi, e⟩ := h
  have m1 := G.m1; have m7 := G.m7
  simp only [stopOk, Bool.and_eq_true, Bool.not_eq_true', inS, decide_eq_false_iff_not]
  rw [e]
  refine ⟨isLetter_letter _ _, fun hm => ?_⟩
  rw [car_iff G T, G.car] at hm
  obtain ⟨j, hj, ej⟩ := List.mem_map.mp hm
  have hj := List.mem_range.mp hj
  have := letter_inj (c := R.base) (j := (j : Nat)) (k := (R.many : Int) + (i : Nat)) (by omega) (by omega) (by omega) (by omega) ej
  omega
theorem rule_ok {x : Str × List Str} (hx : x ∈ rs) : isRule (inS (carriersOf (cutOf rs))) (carriersOf (cutOf rs) ++ pairsOf (cutOf rs)) (x.1 :: x.2) = true := by
  have hi := T.is x hx
  have lo := low_row G hi
  cases hi with
  | carry h1 h2 => simp [isRule]; exact (carryRow_ok G T hx).1
  | one h1 h2 =>
    dsimp only [isRule]
    rw [if_neg (by decide +kernel), if_pos rfl]
    exact (oneRow_ok G T hx).1
  | long h1 h2 =>
    dsimp only [isRule]
    rw [if_neg (by decide +kernel), if_neg (by decide +kernel), if_pos (.inl rfl)]
    simp only [Bool.and_eq_true, decide_eq_true_eq, List.all_eq_true]
    exact ⟨List.length_pos_iff.mpr h1, fun w hw => cp_ok G T (G.lng w (h2 w hw))⟩
  | either h1 h2 =>
    dsimp only [isRule]
    rw [if_neg (by decide +kernel), if_neg (by decide +kernel), if_pos (.inr rfl)]
    simp only [Bool.and_eq_true, decide_eq_true_eq, List.all_eq_true]
    exact ⟨List.length_pos_iff.mpr h1, fun w hw => cp_ok G T (G.eth w (h2 w hw))⟩
  | begin h1 h2 =>
    dsimp only [isRule]
    rw [if_neg (by decide +kernel), if_neg (by decide +kernel), if_neg (by decide +kernel), if_pos (.inl rfl)]
    simp only [Bool.and_eq_true, decide_eq_true_eq, List.all_eq_true]
    exact ⟨List.length_pos_iff.mpr h1, fun w hw => by obtain ⟨n, e⟩ := G.beg w (h2 w hw); rw [e]; exact clus_ok G T n⟩
  | split h1 h2 =>
    dsimp only [isRule]
    rw [if_neg (by decide +kernel), if_neg (by decide +kernel), if_neg (by decide +kernel), if_pos (.inr rfl)]
    simp only [Bool.and_eq_true, decide_eq_true_eq, List.all_eq_true]
    exact ⟨List.length_pos_iff.mpr h1, fun w hw => by obtain ⟨n, e⟩ := G.spl w (h2 w hw); rw [e]; exact clus_ok G T n⟩
  | run hr =>
    dsimp only [isRule]
    rw [if_neg (by decide +kernel), if_neg (by decide +kernel), if_neg (by decide +kernel), if_neg (by decide +kernel), if_pos rfl]
    simp; exact hr
  | @alike a b h =>
    dsimp only [isRule]
    rw [if_neg (by decide +kernel), if_neg (by decide +kernel), if_neg (by decide +kernel), if_neg (by decide +kernel), if_neg (by decide +kernel)]
    simp only [alikeUnits, Bool.and_eq_true, Bool.or_eq_true, decide_eq_true_eq, List.all_eq_true]
    refine ⟨trivial, rfl, ?_⟩
    rcases h with h | h
    · refine .inl fun w hw => ?_
      have e : w = a ∨ w = b := by simpa using hw
      rcases e with e | e
      · rw [e]; exact cp_ok G T h.1
      · rw [e]; exact cp_ok G T h.2
    · refine .inr fun w hw => ?_
      have e : w = a ∨ w = b := by simpa using hw
      rcases e with e | e
      · rw [e]; exact stopW_ok G T h.1
      · rw [e]; exact stopW_ok G T h.2
theorem rowsOk : RowsOk (cutOf rs) := by
  have hn := T.n
  have hlen : (cutOf rs).length ≤ 150 := by unfold cutOf; rw [List.length_map]; exact hn
  refine ⟨by omega, fun ws hws => ?_, ?_, fun ws hws => ?_⟩
  · obtain ⟨x, hx, e⟩ := List.mem_map.mp hws
    obtain ⟨h1, h2, h3, h4, _⟩ := low_row G (T.is x hx)
    have := T.len x hx
    rw [← e]
    exact ⟨by simp, by simp; omega, fun w hw => by
      rcases List.mem_cons.mp hw with z | z
      · rw [z]; omega
      · have := (h1 w z).2.1; omega⟩
  · have gen : ∀ l : List (List Str), (∀ ws ∈ l, ws.length ≤ 21) → total l ≤ 21 * l.length := by
      intro l
      induction l with
      | nil => intro _; simp [total]
      | cons ws l ih =>
        intro h
        have h1 := ih fun y hy => h y (List.mem_cons_of_mem _ hy)
        have h2 := h ws List.mem_cons_self
        unfold total at *
        simp; omega
    have := gen (cutOf rs) fun ws hws => by
      obtain ⟨x, hx, e⟩ := List.mem_map.mp hws
      have := T.len x hx
      rw [← e]; simp; omega
    omega
  · obtain ⟨x, hx, e⟩ := List.mem_map.mp hws
    rw [← e]; exact rule_ok G T hx
theorem txt_len {x : Str × List Str} (hx : x ∈ rs) : (txt x).length ≤ 1000 := by
  obtain ⟨h1, h2, h3, h4, _⟩ := low_row G (T.is x hx)
  have hl := T.len x hx
  unfold txt
  rw [slen_app, slen_app]
  have hj := StrLaws.join_length_le (" " : Str) x.2
  have hs : (x.2.map (·.length)).sum ≤ 10 * x.2.length := by
    have gen : ∀ l : List Str, (∀ w ∈ l, w.length ≤ 10) → (l.map (·.length)).sum ≤ 10 * l.length := by
      intro l
      induction l with
      | nil => intro _; simp
      | cons w l ih =>
        intro h
        have := ih fun y hy => h y (List.mem_cons_of_mem _ hy)
        have := h w List.mem_cons_self
        simp; omega
    exact gen x.2 fun w hw => (h1 w hw).2.1
  have hb : (" " : Str).length = 1 := blen
  rw [hb] at hj ⊢
  omega
theorem made : mi_Tongue____init__ [.lst ((rs.map txt).map .str)] = some (tongueF (cutOf rs)) := by
  have h := mi_init (zs := rs.map txt) (fun z hz => by obtain ⟨x, hx, e⟩ := List.mem_map.mp hz; rw [← e]; exact txt_len G T hx) (by rw [cut_eq G T]; exact rowsOk G T)
  rw [cut_eq G T] at h
  exact h
end
end My
namespace My
open PySem L2 MR
section
variable {R : Rc} {rs : List (Str × List Str)} (G : R.Good) (T : Tells R rs)
include G T
theorem long_iff (y : Str) : y ∈ tell ("long" : Str) (cutOf rs) ↔ y ∈ R.longs := by
  rw [mem_tell]
  constructor
  · rintro ⟨r, h1, h2⟩
    have hi := T.is _ ((mem_cut G T).mp h1)
    generalize hx : ((("long" : Str), r) : Str × List Str) = x at hi
    cases hi with
    | long a b => cases hx; exact b y h2
    | _ => exact absurd (Prod.mk.inj hx).1 (by decide +kernel)
  · intro h
    obtain ⟨r, h1, h2⟩ := T.long y h
    exact ⟨r, (mem_cut G T).mpr h1, h2⟩
theorem either_iff (y : Str) : y ∈ tell ("either" : Str) (cutOf rs) ↔ y ∈ R.eithers := by
  rw [mem_tell]
  constructor
  · rintro ⟨r, h1, h2⟩
    have hi := T.is _ ((mem_cut G T).mp h1)
    generalize hx : ((("either" : Str), r) : Str × List Str) = x at hi
    cases hi with
    | either a b => cases hx; exact b y h2
    | _ => exact absurd (Prod.mk.inj hx).1 (by decide +kernel)
  · intro h
    obtain ⟨r, h1, h2⟩ := T.either y h
    exact ⟨r, (mem_cut G T).mpr h1, h2⟩
theorem begin_iff (y : Str) : y ∈ tell ("begin" : Str) (cutOf rs) ↔ y ∈ R.begins := by
  rw [mem_tell]
  constructor
  · rintro ⟨r, h1, h2⟩
    have hi := T.is _ ((mem_cut G T).mp h1)
    generalize hx : ((("begin" : Str), r) : Str × List Str) = x at hi
    cases hi with
    | begin a b => cases hx; exact b y h2
    | _ => exact absurd (Prod.mk.inj hx).1 (by decide +kernel)
  · intro h
    obtain ⟨r, h1, h2⟩ := T.begin y h
    exact ⟨r, (mem_cut G T).mpr h1, h2⟩
theorem split_iff (y : Str) : y ∈ tell ("split" : Str) (cutOf rs) ↔ y ∈ R.splits := by
  rw [mem_tell]
  constructor
  · rintro ⟨r, h1, h2⟩
    have hi := T.is _ ((mem_cut G T).mp h1)
    generalize hx : ((("split" : Str), r) : Str × List Str) = x at hi
    cases hi with
    | split a b => cases hx; exact b y h2
    | _ => exact absurd (Prod.mk.inj hx).1 (by decide +kernel)
  · intro h
    obtain ⟨r, h1, h2⟩ := T.split y h
    exact ⟨r, (mem_cut G T).mpr h1, h2⟩
end
end My
namespace My
open PySem L2 MR
theorem inP_sdT (a b : Str) (ks : List (Str × Str)) : inP (.tup [.str a, .str b]) (.dT (sdT ks)) = some (decide ((a, b) ∈ ks)) := by
  have h : dLook (sdT ks) [Sum.inr a, Sum.inr b] = if (a, b) ∈ ks then some (.bl true) else none := sdT_look (a, b) ks
  by_cases hm : (a, b) ∈ ks
  · rw [if_pos hm] at h
    simp [inP, keysOf, keyOf, h, hm]
  · rw [if_neg hm] at h
    simp [inP, keysOf, keyOf, h, hm]
theorem mem_addP {ks : List (Str × Str)} {x y : Str × Str} : y ∈ addP ks x ↔ y ∈ ks ∨ y = x := by
  unfold addP
  split
  · rename_i h
    constructor
    · exact .inl
    · rintro (h' | h')
      · exact h'
      · rw [h']; exact h
  · simp
theorem mem_likes (rs : List (Str × List Str)) (h : ∀ r, (("alike" : Str), r) ∈ rs → r.length = 2) (a b : Str) : (a, b) ∈ likes (rs.map fun x => x.1 :: x.2) ↔ (("alike" : Str), [a, b]) ∈ rs := by
  have gen : ∀ (l : List (Str × List Str)) (ks : List (Str × Str)), (∀ r, (("alike" : Str), r) ∈ l → r.length = 2) → ((a, b) ∈ (l.map fun x => x.1 :: x.2).foldl likeStep ks ↔ (a, b) ∈ ks ∨ (("alike" : Str), [a, b]) ∈ l) := by
    intro l
    induction l with
    | nil => intro ks _; simp
    | cons x l ih =>
      intro ks h
      rw [List.map_cons, List.foldl_cons, ih _ fun r hr => h r (List.mem_cons_of_mem _ hr)]
      obtain ⟨k, r⟩ := x
      by_cases e : k = ("alike" : Str)
      · subst e
        have hl := h r List.mem_cons_self
        match r, hl with
        | [u, v], _ =>
          have : likeStep ks (("alike" : Str) :: [u, v]) = addP ks (u, v) := by simp [likeStep]
          rw [this, mem_addP]
          simp [or_assoc]
      · have : likeStep ks (k :: r) = ks := likeStep_no e
        have e' : ¬ ("alike" : Str) = k := fun z => e z.symm
        rw [this]
        simp [e']
  unfold likes
  rw [gen rs [] h]
  simp
section
variable {R : Rc} {rs : List (Str × List Str)} (G : R.Good) (T : Tells R rs)
include G T
theorem like_iff (a b : Str) : (a, b) ∈ likes (cutOf rs) ↔ (("alike" : Str), [a, b]) ∈ rs := by
  unfold cutOf
  refine mem_likes rs (fun r hr => ?_) a b
  have hi := T.is _ hr
  generalize hx : ((("alike" : Str), r) : Str × List Str) = x at hi
  cases hi with
  | alike _ => cases hx; rfl
  | _ => exact absurd (Prod.mk.inj hx).1 (by decide +kernel)
end
end My
namespace My
open PySem L2 MR
theorem mi_carries (cut : List (List Str)) (x : Str) : mi_Tongue__carries [.obj 0 (tongueF cut), .str x] = some (.bl (decide (x ∈ carriersOf cut))) := by
  simp [mi_Tongue__carries, fb_Tongue__carries, f_carrying, inP_sd]
theorem mi_ispair (cut : List (List Str)) (x : Str) : mi_Tongue__is_pair [.obj 0 (tongueF cut), .str x] = some (.bl (decide (x ∈ pairsOf cut))) := by
  simp [mi_Tongue__is_pair, fb_Tongue__is_pair, f_pairs, inP_sd]
theorem no_carries (cut : List (List Str)) : List.lookup ("carries" : Str) (tongueF cut) = none := rfl
theorem no_ispair (cut : List (List Str)) : List.lookup ("is_pair" : Str) (tongueF cut) = none := rfl
def wtR (R : Rc) (x : Str) : Str := if x ∈ R.longs then ("-" : Str) else if x ∈ R.eithers then ("x" : Str) else ("u" : Str)
theorem mi_weight {R : Rc} {cut : List (List Str)} (hl : ∀ y, y ∈ tell ("long" : Str) cut ↔ y ∈ R.longs) (he : ∀ y, y ∈ tell ("either" : Str) cut ↔ y ∈ R.eithers) (x : Str) : mi_Tongue__weight [.obj 0 (tongueF cut), .str x] = some (.str (wtR R x)) := by
  unfold wtR
  by_cases h1 : x ∈ R.longs
  · have h1' := (hl x).mpr h1
    simp [mi_Tongue__weight, fb_Tongue__weight, f_longs, inP_sd, h1, h1']
  · have h1' : ¬ x ∈ tell ("long" : Str) cut := fun z => h1 ((hl x).mp z)
    by_cases h2 : x ∈ R.eithers
    · have h2' := (he x).mpr h2
      simp [mi_Tongue__weight, fb_Tongue__weight, f_longs, f_eithers, inP_sd, h1, h1', h2, h2']
    · have h2' : ¬ x ∈ tell ("either" : Str) cut := fun z => h2 ((he x).mp z)
      simp [mi_Tongue__weight, fb_Tongue__weight, f_longs, f_eithers, inP_sd, h1, h1', h2, h2']
theorem mi_runq (cut : List (List Str)) : mi_Tongue__run [.obj 0 (tongueF cut)] = some (.str (lastRun cut)) := by
  simp [mi_Tongue__run, fb_Tongue__run, f_running]
theorem no_weight (cut : List (List Str)) : List.lookup ("weight" : Str) (tongueF cut) = none := rfl
theorem no_run (cut : List (List Str)) : List.lookup ("run" : Str) (tongueF cut) = none := rfl
theorem wt_ok (R : Rc) (x : Str) : PyData.strOk (wtR R x) = true := by
  unfold wtR
  split
  · decide +kernel
  · split <;> decide +kernel
theorem mi_begins {R : Rc} {cut : List (List Str)} (hb : ∀ y, y ∈ tell ("begin" : Str) cut ↔ y ∈ R.begins) (x : Str) : mi_Tongue__begins [.obj 0 (tongueF cut), .str x] = some (.bl (decide (x ∈ R.begins))) := by
  have : decide (x ∈ tell ("begin" : Str) cut) = decide (x ∈ R.begins) := decide_eq_decide.mpr (hb x)
  simp [mi_Tongue__begins, fb_Tongue__begins, f_beginnings, inP_sd, this]
theorem mi_splits {R : Rc} {cut : List (List Str)} (hb : ∀ y, y ∈ tell ("split" : Str) cut ↔ y ∈ R.splits) (x : Str) : mi_Tongue__splits [.obj 0 (tongueF cut), .str x] = some (.bl (decide (x ∈ R.splits))) := by
  have : decide (x ∈ tell ("split" : Str) cut) = decide (x ∈ R.splits) := decide_eq_decide.mpr (hb x)
  simp [mi_Tongue__splits, fb_Tongue__splits, f_splittings, inP_sd, this]
theorem no_begins (cut : List (List Str)) : List.lookup ("begins" : Str) (tongueF cut) = none := rfl
theorem no_splits (cut : List (List Str)) : List.lookup ("splits" : Str) (tongueF cut) = none := rfl
theorem mi_alikeq {ts : List (Str × Str)} {cut : List (List Str)} (hl : ∀ a b, (a, b) ∈ likes cut ↔ (a, b) ∈ ts) (a b : Str) : mi_Tongue__alike [.obj 0 (tongueF cut), .str a, .str b] = some (.bl (decide (a = b ∨ (a, b) ∈ ts ∨ (b, a) ∈ ts))) := by
  have d1 : decide ((a, b) ∈ likes cut) = decide ((a, b) ∈ ts) := decide_eq_decide.mpr (hl a b)
  have d2 : decide ((b, a) ∈ likes cut) = decide ((b, a) ∈ ts) := decide_eq_decide.mpr (hl b a)
  have i1 := inP_sdT a b (likes cut)
  have i2 := inP_sdT b a (likes cut)
  rw [d1] at i1
  rw [d2] at i2
  by_cases h1 : a = b
  · simp [mi_Tongue__alike, fb_Tongue__alike, h1]
  · by_cases h2 : (a, b) ∈ ts
    · simp [mi_Tongue__alike, fb_Tongue__alike, f_likes, h1, i1, h2]
    · by_cases h3 : (b, a) ∈ ts <;> simp [mi_Tongue__alike, fb_Tongue__alike, f_likes, h1, i1, h2, i2, h3]
theorem no_alikeF (cut : List (List Str)) : List.lookup ("alike" : Str) (tongueF cut) = none := rfl
theorem txt_alike (a b : Str) : (("alike " : Str) ++ a) ++ (" " : Str) ++ b = txt (("alike" : Str), [a, b]) := by
  have e1 : ("alike " : Str) = ("alike" : Str) ++ (" " : Str) := by decide +kernel
  have as : ∀ x y z : Str, (x ++ y) ++ z = x ++ (y ++ z) := fun x y z => by
    cases x; cases y; cases z
    show Str.mk _ = Str.mk _
    simp [Str.cps_append, Array.append_assoc]
  unfold txt
  rw [e1]
  show (("alike" : Str) ++ (" " : Str) ++ a) ++ (" " : Str) ++ b = ("alike" : Str) ++ (" " : Str) ++ (a ++ (" " : Str) ++ b)
  rw [as (("alike" : Str) ++ (" " : Str)) a, as (("alike" : Str) ++ (" " : Str))]
def fv : Bool ⊕ Str → PV
  | .inl b => .bl b
  | .inr s => .str s
def fdD : Bool ⊕ Str → PyData
  | .inl b => .bool b
  | .inr s => .str s
theorem toDs_fv : ∀ xs : List (Bool ⊕ Str), toDs (xs.map fv) = some (xs.map fdD)
  | [] => rfl
  | .inl b :: xs => by simp [toDs, fv, toD, toDs_fv xs, fdD]
  | .inr b :: xs => by simp [toDs, fv, toD, toDs_fv xs, fdD]
theorem eqv_fv : ∀ xs : List (Bool ⊕ Str), PyData.eqvAll (xs.map fdD) (xs.map fdD) = true
  | [] => rfl
  | .inl b :: xs => by simp [PyData.eqvAll, fdD, PyData.eqv, eqv_fv xs]
  | .inr b :: xs => by simp [PyData.eqvAll, fdD, PyData.eqv, eqv_fv xs]
theorem depth_fv : ∀ xs : List (Bool ⊕ Str), PyData.depthAll (xs.map fdD) ≤ 1
  | [] => by simp [PyData.depthAll]
  | .inl b :: xs => by
    have := depth_fv xs
    simp [PyData.depthAll, PyData.depth, fdD]
    omega
  | .inr b :: xs => by
    have := depth_fv xs
    simp [PyData.depthAll, PyData.depth, fdD]
    omega
theorem lay_fv : ∀ {xs : List (Bool ⊕ Str)}, (∀ s, Sum.inr s ∈ xs → PyData.strOk s = true) → PyData.canLayAll0 (xs.map fdD) = true
  | [], _ => rfl
  | .inl b :: xs, h => by simp [PyData.canLayAll0, PyData.canLay0, fdD, lay_fv fun s hs => h s (List.mem_cons_of_mem _ hs)]
  | .inr b :: xs, h => by
    have h1 := h b List.mem_cons_self
    simp [PyData.canLayAll0, PyData.canLay0, fdD, h1, lay_fv fun s hs => h s (List.mem_cons_of_mem _ hs)]
theorem eqP_fv {xs : List (Bool ⊕ Str)} (h : ∀ s, Sum.inr s ∈ xs → PyData.strOk s = true) : eqP (.lst (xs.map fv)) (.lst (xs.map fv)) = some true := by
  have h0 : SeqAt.shaped (.list (xs.map fdD)) = true := by
    have h1 := lay_fv h
    have h2 := depth_fv xs
    simp [SeqAt.shaped, PyData.canLay0, h1, PyData.depth]
    omega
  simp [eqP, eqS, eqD, toD, toDs_fv, h0, PyData.eqv, eqv_fv]
theorem loop_cat {α : Type} {g : PV → MR.Env → Option MR.Env} {ds : List Nat} {body : MR.Env → Option Out} (c : α → PV) (E : List (Bool ⊕ Str) → MR.Env) (add : α → List (Bool ⊕ Str)) (w B : Nat) : ∀ (ys : List α) (F : List (Bool ⊕ Str)), F.length + ys.length * w ≤ B →
    (∀ y ∈ ys, (add y).length ≤ w ∧ ∀ F : List (Bool ⊕ Str), F.length + w ≤ B → turn g ds body (c y) (E F) = some (E (F ++ add y))) → loopS g ds body (ys.map c) (E F) = some (.nx (E (F ++ ys.flatMap add)))
  | [], F, _, _ => by simp [loopS]
  | y :: ys, F, hF, h => by
    obtain ⟨h1, h2⟩ := h y List.mem_cons_self
    have e : (y :: ys).length * w = ys.length * w + w := by rw [List.length_cons, Nat.succ_mul]
    rw [List.map_cons, loopS_turn (h2 F (by rw [e] at hF; omega)), loop_cat c E add w B ys (F ++ add y) (by rw [List.length_append]; rw [e] at hF; omega) fun z hz => h z (List.mem_cons_of_mem _ hz)]
    simp
theorem cutP_mid {α : Type} (f : α → PV) (l : List α) (a b : Nat) (h : a + b ≤ l.length) : cutP (l.map f) (some (a : Int)) (some ((a + b : Nat) : Int)) = ((l.drop a).take b).map f := by
  unfold cutP
  rw [HT.sIx_nat, HT.sIx_nat, List.length_map, Nat.min_eq_left h, Nat.min_eq_left (show a ≤ l.length by omega), ← List.map_drop, ← List.map_take]
  congr 2
  omega
structure Agree (R : Rc) (lk : List (Str × Str)) (cut : List (List Str)) : Prop where
  c : ∀ y, y ∈ carriersOf cut ↔ y ∈ R.carriers
  p : ∀ y, y ∈ pairsOf cut ↔ y ∈ R.pairs
  l : ∀ y, y ∈ tell ("long" : Str) cut ↔ y ∈ R.longs
  e : ∀ y, y ∈ tell ("either" : Str) cut ↔ y ∈ R.eithers
  b : ∀ y, y ∈ tell ("begin" : Str) cut ↔ y ∈ R.begins
  s : ∀ y, y ∈ tell ("split" : Str) cut ↔ y ∈ R.splits
  k : ∀ a b, (a, b) ∈ likes cut ↔ (a, b) ∈ lk
def ltS (R : Rc) : List Str := (List.range 26).map fun k : Nat => letter R.base (k : Nat)
def alB (lk : List (Str × Str)) (a b : Str) : Bool := decide (a = b ∨ (a, b) ∈ lk ∨ (b, a) ∈ lk)
def tl1 (R : Rc) : List (Bool ⊕ Str) := (ltS R).map fun x => .inl (decide (x ∈ R.carriers))
def tl2 (R : Rc) (one : Str) : List (Bool ⊕ Str) := ((ltS R).take 9).map fun o => .inl (decide (one ++ o ∈ R.pairs))
def tl3 (R : Rc) : List (Bool ⊕ Str) := (R.carriers ++ R.pairs).map fun u => .inr (wtR R u)
def tl4 (lk : List (Str × Str)) (us : List Str) (one : Str) : List (Bool ⊕ Str) := us.map fun o => .inl (alB lk one o)
def tl5 (R : Rc) (x : Str) : List (Bool ⊕ Str) := [.inl (decide (x ∈ R.begins)), .inl (decide (x ∈ R.splits)), .inl (decide (cutS x (some (-2)) none ∈ R.begins))]
def TLD (R : Rc) (lk : List (Str × Str)) : List (Bool ⊕ Str) := tl1 R ++ ((ltS R).take 9).flatMap (tl2 R) ++ tl3 R ++ (R.carriers ++ R.pairs).flatMap (tl4 lk (R.carriers ++ R.pairs)) ++ (((ltS R).drop 8).take 6).flatMap (tl4 lk (((ltS R).drop 8).take 6)) ++ (R.begins ++ R.splits).flatMap (tl5 R)
theorem ltS_len (R : Rc) : (ltS R).length = 26 := by simp [ltS]
theorem ltS_one {R : Rc} {w : Str} (h : w ∈ ltS R) : w.length = 1 := by
  obtain ⟨k, _, e⟩ := List.mem_map.mp h
  rw [← e]; rfl
theorem told_ok (R : Rc) (lk : List (Str × Str)) : ∀ s, Sum.inr s ∈ TLD R lk → PyData.strOk s = true := fun s hs => by
  unfold TLD at hs
  simp only [List.mem_append, List.mem_flatMap] at hs
  rcases hs with ((((h | ⟨_, _, h⟩) | h) | ⟨_, _, h⟩) | ⟨_, _, h⟩) | ⟨_, _, h⟩
  · unfold tl1 at h; obtain ⟨_, _, e⟩ := List.mem_map.mp h; cases e
  · unfold tl2 at h; obtain ⟨_, _, e⟩ := List.mem_map.mp h; cases e
  · unfold tl3 at h; obtain ⟨_, _, e⟩ := List.mem_map.mp h; cases e; exact wt_ok _ _
  · unfold tl4 at h; obtain ⟨_, _, e⟩ := List.mem_map.mp h; cases e
  · unfold tl4 at h; obtain ⟨_, _, e⟩ := List.mem_map.mp h; cases e
  · unfold tl5 at h; simp at h
end My
namespace My
open PySem L2 MR
section
variable {R : Rc} {lk : List (Str × Str)} {cut : List (List Str)} (G : R.Good) (A : Agree R lk cut)
include G A
theorem mi_told_all : mi__law_told [.obj 0 (tongueF cut), recP R] = some (.lst ((TLD R lk).map fv)) := by
  have lc : R.carriers.length ≤ 7 := by rw [G.car]; simp; exact G.m7
  have g1 := G.l1; have g4 := G.l4; have g5 := G.l5
  have r26 : rgI 26 = true := rgI_of (by decide) (by decide)
  have q26 : (rngV 0 26).length ≤ 1000000 := by decide
  have c1 : compL [none, some (recP R)] (gN 0) tTrue ce__law_told_1 (rngV 0 26) = some ((ltS R).map .str) := by
    rw [show (26 : Int) = ((26 : Nat) : Int) from rfl, rngV_nat]
    have h := compL_map (env := [none, some (recP R)]) (g := gN 0) (f := ce__law_told_1) (fun k : Nat => PV.int (k : Nat)) (fun k => .str (letter R.base (k : Nat))) (List.range 26) fun k hk => ⟨_, rfl, by
      simp [ce__law_told_1, recP, mi_lett]⟩
    rw [h]
    unfold ltS
    rw [List.map_map]
    rfl
  generalize hO : PV.obj 0 (tongueF cut) = O
  have lL := ltS_len R
  have l9 : ((ltS R).take 9).length = 9 := by rw [List.length_take, lL]; rfl
  have l6 : (((ltS R).drop 8).take 6).length = 6 := by rw [List.length_take, List.length_drop, lL]; rfl
  have c2 : compL [none, some O] (gN 0) tTrue ce__law_told_2 ((ltS R).map .str) = some ((tl1 R).map fv) := by
    unfold tl1
    rw [List.map_map]
    refine compL_map _ _ _ fun x hx => ⟨_, rfl, ?_⟩
    have hm := mi_carries cut x
    have he : decide (x ∈ carriersOf cut) = decide (x ∈ R.carriers) := decide_eq_decide.mpr (A.c x)
    rw [he] at hm
    rw [← hO]
    simp [ce__law_told_2, no_carries, hm, fv]
  have s9 : cutP ((ltS R).map PV.str) none (some 9) = ((ltS R).take 9).map .str := cutP_take PV.str (ltS R) 9 (by rw [lL]; decide)
  have s6 : cutP ((ltS R).map PV.str) (some 8) (some 14) = (((ltS R).drop 8).take 6).map .str := cutP_mid PV.str (ltS R) 8 6 (by rw [lL]; decide)
  have hus : (R.carriers ++ R.pairs).length ≤ 10 := by rw [List.length_append]; omega
  have hm9 : ∀ w ∈ (ltS R).take 9, w.length = 1 := fun w hw => ltS_one (List.mem_of_mem_take hw)
  generalize hL9 : (ltS R).take 9 = L9 at *
  generalize hL6 : ((ltS R).drop 8).take 6 = L6 at *
  generalize hUS : R.carriers ++ R.pairs = US at *
  have c3 : ∀ one ∈ L9, compL [none, some O, some (.str one)] (gN 0) tTrue ce__law_told_3 (L9.map .str) = some ((tl2 R one).map fv) := fun one ho => by
    unfold tl2
    rw [hL9, List.map_map]
    refine compL_map _ _ _ fun x hx => ⟨_, rfl, ?_⟩
    have hm := mi_ispair cut (one ++ x)
    have he : decide ((one ++ x) ∈ pairsOf cut) = decide ((one ++ x) ∈ R.pairs) := decide_eq_decide.mpr (A.p _)
    rw [he] at hm
    have hl : one.length + x.length ≤ 1000000 := by rw [hm9 _ ho, hm9 _ hx]; decide
    rw [← hO]
    simp [ce__law_told_3, no_ispair, hl, hm, fv]
  have c5 : compL [none, some O] (gN 0) tTrue ce__law_told_5 (US.map .str) = some ((tl3 R).map fv) := by
    unfold tl3
    rw [hUS, List.map_map]
    refine compL_map _ _ _ fun x hx => ⟨_, rfl, ?_⟩
    have hm := mi_weight A.l A.e x
    rw [← hO]
    simp [ce__law_told_5, no_weight, hm, fv]
  have c6 : ∀ (us : List Str) one, compL [none, some (.str one), some O] (gN 0) tTrue ce__law_told_6 (us.map .str) = some ((tl4 lk us one).map fv) := fun us one => by
    unfold tl4
    rw [List.map_map]
    refine compL_map _ _ _ fun x hx => ⟨_, rfl, ?_⟩
    have hm := mi_alikeq A.k one x
    rw [← hO]
    simp [ce__law_told_6, no_alikeF, hm, fv, alB]
  have c8 : ∀ (us : List Str) one, compL [none, some (.str one), some O] (gN 0) tTrue ce__law_told_8 (us.map .str) = some ((tl4 lk us one).map fv) := fun us one => c6 us one
  have b9 : ∀ {n : Nat}, n ≤ 1000 → n ≤ 1000000 := fun h => by omega
  have e1 : loopS (gN 4) [4] lb__law_told_4 (L9.map .str) [some O, some (recP R), some (.lst ((ltS R).map .str)), some (.lst ((tl1 R).map fv)), none, none, none] = some (.nx [some O, some (recP R), some (.lst ((ltS R).map .str)), some (.lst ((tl1 R ++ L9.flatMap (tl2 R)).map fv)), none, none, none]) := by
    refine loop_cat PV.str (fun F => [some O, some (recP R), some (.lst ((ltS R).map .str)), some (.lst (F.map fv)), none, none, none]) (tl2 R) 9 500 L9 (tl1 R) (by rw [l9]; unfold tl1; rw [List.length_map, lL]; decide) fun one ho => ⟨by unfold tl2; rw [hL9, List.length_map, l9]; exact Nat.le_refl _, fun F hF => ?_⟩
    have h3 := c3 one ho
    have hb : F.length + (tl2 R one).length ≤ 1000000 := by unfold tl2; rw [hL9, List.length_map, l9]; omega
    simp [turn_ap, lb__law_told_4, s9, l9, h3, hb]
  have bl : ∀ {x : Str}, x ∈ R.begins ++ R.splits → x.length ≤ 1000000 := fun {x} hx => by
    have hc : ∃ n, x = clus R.base R.many n := (List.mem_append.mp hx).elim (G.beg x) (G.spl x)
    obtain ⟨n, e⟩ := hc
    rw [e, clus_len]
    omega
  have n1 : (tl1 R).length = 26 := by unfold tl1; rw [List.length_map, lL]
  have n2 : (L9.flatMap (tl2 R)).length ≤ 81 := by
    have : ∀ l : List Str, (l.flatMap (tl2 R)).length = 9 * l.length := fun l => by
      induction l with
      | nil => rfl
      | cons x l ih => rw [List.flatMap_cons, List.length_append, ih]; unfold tl2; rw [hL9, List.length_map, l9, List.length_cons]; omega
    rw [this, l9]; decide
  have n3 : (tl3 R).length ≤ 10 := by unfold tl3; rw [hUS, List.length_map]; exact hus
  have n4 : ∀ (us l : List Str), (l.flatMap (tl4 lk us)).length = us.length * l.length := fun us l => by
    induction l with
    | nil => rfl
    | cons x l ih => rw [List.flatMap_cons, List.length_append, ih]; unfold tl4; rw [List.length_map, List.length_cons, Nat.mul_succ]; omega
  obtain ⟨F1, hF1⟩ : ∃ F1, F1 = tl1 R ++ L9.flatMap (tl2 R) := ⟨_, rfl⟩
  have m1 : F1.length ≤ 107 := by rw [hF1, List.length_append, n1]; omega
  rw [← hF1] at e1
  obtain ⟨F2, hF2⟩ : ∃ F2, F2 = F1 ++ tl3 R := ⟨_, rfl⟩
  have m2 : F2.length ≤ 117 := by rw [hF2, List.length_append]; omega
  have e2 : loopS (gN 4) [4] lb__law_told_7 (US.map .str) [some O, some (recP R), some (.lst ((ltS R).map .str)), some (.lst (F2.map fv)), none, some (.lst (US.map .str)), none] = some (.nx [some O, some (recP R), some (.lst ((ltS R).map .str)), some (.lst ((F2 ++ US.flatMap (tl4 lk US)).map fv)), none, some (.lst (US.map .str)), none]) := by
    refine loop_cat PV.str (fun F => [some O, some (recP R), some (.lst ((ltS R).map .str)), some (.lst (F.map fv)), none, some (.lst (US.map .str)), none]) (tl4 lk US) 10 500 US F2 (by omega) fun one ho => ⟨by unfold tl4; rw [List.length_map]; exact hus, fun F hF => ?_⟩
    have h3 := c6 US one
    have hb : F.length + (tl4 lk US one).length ≤ 1000000 := by unfold tl4; rw [List.length_map]; omega
    have hu : US.length ≤ 1000000 := by omega
    simp [turn_ap, lb__law_told_7, h3, hb, hu]
  obtain ⟨F3, hF3⟩ : ∃ F3, F3 = F2 ++ US.flatMap (tl4 lk US) := ⟨_, rfl⟩
  have m3 : F3.length ≤ 217 := by
    rw [hF3, List.length_append, n4]
    have : US.length * US.length ≤ 10 * 10 := Nat.mul_le_mul hus hus
    omega
  rw [← hF3] at e2
  have e3 : loopS (gN 4) [4] lb__law_told_9 (L6.map .str) [some O, some (recP R), some (.lst ((ltS R).map .str)), some (.lst (F3.map fv)), none, some (.lst (US.map .str)), none] = some (.nx [some O, some (recP R), some (.lst ((ltS R).map .str)), some (.lst ((F3 ++ L6.flatMap (tl4 lk L6)).map fv)), none, some (.lst (US.map .str)), none]) := by
    refine loop_cat PV.str (fun F => [some O, some (recP R), some (.lst ((ltS R).map .str)), some (.lst (F.map fv)), none, some (.lst (US.map .str)), none]) (tl4 lk L6) 6 500 L6 F3 (by omega) fun one ho => ⟨by unfold tl4; rw [List.length_map]; omega, fun F hF => ?_⟩
    have h3 := c8 L6 one
    have hb : F.length + (tl4 lk L6 one).length ≤ 1000000 := by unfold tl4; rw [List.length_map]; omega
    simp [turn_ap, lb__law_told_9, s6, l6, h3, hb]
  obtain ⟨F4, hF4⟩ : ∃ F4, F4 = F3 ++ L6.flatMap (tl4 lk L6) := ⟨_, rfl⟩
  have m4 : F4.length ≤ 253 := by rw [hF4, List.length_append, n4, l6]; omega
  rw [← hF4] at e3
  have hbs : (R.begins ++ R.splits).length ≤ 7 := by rw [List.length_append]; omega
  have e4 : loopS (gN 6) [6] lb__law_told_10 ((R.begins ++ R.splits).map .str) [some O, some (recP R), some (.lst ((ltS R).map .str)), some (.lst (F4.map fv)), none, some (.lst (US.map .str)), none] = some (.nx [some O, some (recP R), some (.lst ((ltS R).map .str)), some (.lst ((F4 ++ (R.begins ++ R.splits).flatMap (tl5 R)).map fv)), none, some (.lst (US.map .str)), none]) := by
    refine loop_cat PV.str (fun F => [some O, some (recP R), some (.lst ((ltS R).map .str)), some (.lst (F.map fv)), none, some (.lst (US.map .str)), none]) (tl5 R) 3 500 (R.begins ++ R.splits) F4 (by omega) fun x hx => ⟨by simp [tl5], fun F hF => ?_⟩
    have h1 := mi_begins A.b x
    have h2 := mi_splits A.s x
    have h3 := mi_begins A.b (cutS x (some (-2)) none)
    have hxl := bl hx
    have hb : F.length + 3 ≤ 1000000 := by omega
    rw [hO] at h1 h2 h3
    have n5 : List.lookup ("begins" : Str) (tongueF cut) = none := no_begins cut
    have n6 : List.lookup ("splits" : Str) (tongueF cut) = none := no_splits cut
    subst hO
    simp [turn_ap, lb__law_told_10, n5, n6, h1, h2, h3, hxl, hb, tl5, fv]
  have hfin : F4 ++ (R.begins ++ R.splits).flatMap (tl5 R) = TLD R lk := by
    unfold TLD
    rw [hF4, hF3, hF2, hF1, hL9, hL6, hUS]
  rw [hfin] at e4
  have hc7 : R.carriers.length + R.pairs.length ≤ 1000000 := by omega
  have hbs2 : R.begins.length + R.splits.length ≤ 1000000 := by omega
  have hu : US.length ≤ 1000000 := by omega
  have hb1 : (tl1 R).length + 0 ≤ 1000000 := by omega
  have hb3 : F1.length + (tl3 R).length ≤ 1000000 := by omega
  have hUS2 : R.carriers.map PV.str ++ R.pairs.map PV.str = US.map .str := by rw [← hUS, List.map_append]
  have hBS2 : R.begins.map PV.str ++ R.splits.map PV.str = (R.begins ++ R.splits).map .str := by rw [List.map_append]
  have hF2m : F1.map fv ++ (tl3 R).map fv = F2.map fv := by rw [hF2, List.map_append]
  have hlL : (ltS R).length ≤ 1000000 := by omega
  have run : fb__law_told [some O, some (recP R), none, none, none, none, none] = some (.rt (.lst ((TLD R lk).map fv))) := by
    unfold fb__law_told
    refine (sSeq_nx (e := [some O, some (recP R), some (.lst ((ltS R).map .str)), none, none, none, none]) (by simp [r26, q26, c1])).trans ?_
    refine (sSeq_nx (e := [some O, some (recP R), some (.lst ((ltS R).map .str)), some (.lst ((tl1 R).map fv)), none, none, none]) (by simp [c2, hlL])).trans ?_
    refine (sSeq_nx (e := [some O, some (recP R), some (.lst ((ltS R).map .str)), some (.lst (F1.map fv)), none, none, none]) (by simp [s9, e1, l9])).trans ?_
    refine (sSeq_nx (e := [some O, some (recP R), some (.lst ((ltS R).map .str)), some (.lst (F1.map fv)), none, some (.lst (US.map .str)), none]) (by simp [recP, rowP, hc7, hUS2])).trans ?_
    refine (sSeq_nx (e := [some O, some (recP R), some (.lst ((ltS R).map .str)), some (.lst (F2.map fv)), none, some (.lst (US.map .str)), none]) (by simp [c5, hu, hb3, hF2m])).trans ?_
    refine (sSeq_nx (e := [some O, some (recP R), some (.lst ((ltS R).map .str)), some (.lst (F3.map fv)), none, some (.lst (US.map .str)), none]) (by simp [e2, hu])).trans ?_
    refine (sSeq_nx (e := [some O, some (recP R), some (.lst ((ltS R).map .str)), some (.lst (F4.map fv)), none, some (.lst (US.map .str)), none]) (by simp [s6, e3, l6])).trans ?_
    refine (sSeq_nx (e := [some O, some (recP R), some (.lst ((ltS R).map .str)), some (.lst ((TLD R lk).map fv)), none, some (.lst (US.map .str)), none]) ?_).trans ?_
    · simp only [recP, rowP, List.map_append] at e4
      simp [recP, rowP, hbs2, e4]
    · simp
  unfold mi__law_told
  simp [run]
end
end My
namespace My
open PySem L2 MR
theorem loopS_ex {α S : Type} {g : PV → MR.Env → Option MR.Env} {ds : List Nat} {body : MR.Env → Option Out} (c : α → PV) (E : S → MR.Env) (I : List α → S → Prop) (hh : ∀ y ys s, I (y :: ys) s → ∃ s', I ys s' ∧ turn g ds body (c y) (E s) = some (E s')) : ∀ (ys : List α) (s : S), I ys s →
    ∃ s', I [] s' ∧ loopS g ds body (ys.map c) (E s) = some (.nx (E s'))
  | [], s, i => ⟨s, i, rfl⟩
  | y :: ys, s, i => by
    obtain ⟨s1, i1, h1⟩ := hh y ys s i
    obtain ⟨s2, i2, h2⟩ := loopS_ex c E I hh ys s1 i1
    exact ⟨s2, i2, by rw [List.map_cons, loopS_turn h1, h2]⟩
section
variable {R : Rc} {rs : List (Str × List Str)} (G : R.Good) (T : Tells R rs)
include G T
theorem agree_of {lk : List (Str × Str)} (hk : ∀ a b, (("alike" : Str), [a, b]) ∈ rs ↔ (a, b) ∈ lk) : Agree R lk (cutOf rs) :=
  ⟨car_iff G T, pair_iff G T, long_iff G T, either_iff G T, begin_iff G T, split_iff G T, fun a b => (like_iff G T a b).trans (hk a b)⟩
omit G in
theorem tells_ext {rs' : List (Str × List Str)} (h1 : ∀ x ∈ rs', x ∈ rs ∨ (RowIs R x ∧ x.2.length ≤ 20)) (h2 : ∀ x ∈ rs, x ∈ rs') (hn : rs'.length ≤ 150) : Tells R rs' := by
  refine ⟨fun x hx => ?_, fun x hx => ?_, hn, fun w hw => ?_, fun w hw => ?_, fun w hw => ?_, fun w hw => ?_, fun w hw => ?_, fun w hw => ?_, fun hr => ?_⟩
  · exact (h1 x hx).elim (T.is x) (·.1)
  · exact (h1 x hx).elim (T.len x) (·.2)
  · obtain ⟨r, a, b⟩ := T.carry w hw; exact ⟨r, h2 _ a, b⟩
  · obtain ⟨r, a, b⟩ := T.one w hw; exact ⟨r, h2 _ a, b⟩
  · obtain ⟨r, a, b⟩ := T.long w hw; exact ⟨r, h2 _ a, b⟩
  · obtain ⟨r, a, b⟩ := T.either w hw; exact ⟨r, h2 _ a, b⟩
  · obtain ⟨r, a, b⟩ := T.begin w hw; exact ⟨r, h2 _ a, b⟩
  · obtain ⟨r, a, b⟩ := T.split w hw; exact ⟨r, h2 _ a, b⟩
  · exact h2 _ (T.run hr)
end
def RunX (x : Str × List Str) : Prop := ∃ r, (r = ("never" : Str) ∨ r = ("may" : Str) ∨ r = ("must" : Str)) ∧ x = (("run" : Str), [r])
abbrev runs3 : List Str := ["never", "may", "must"]
theorem txt_run (r : Str) : (Str.ofString "run ") ++ r = txt (("run" : Str), [r]) := by
  unfold txt
  have : (Str.ofString "run ") = ("run" : Str) ++ (" " : Str) := by decide +kernel
  rw [this]; rfl
theorem mi_runs {rs : List (Str × List Str)} (hl : rs.length ≤ 100) (cs : List Int) (hc : cs.length ≤ 8) : ∃ rs' : List (Str × List Str), mi__law_with_runs [.lst ((rs.map txt).map .str), .lst (cs.map .int)] = some (.lst ((rs'.map txt).map .str)) ∧
    (∀ x ∈ rs, x ∈ rs') ∧ (∀ x ∈ rs', x ∈ rs ∨ RunX x) ∧ rs'.length = rs.length + cs.length := by
  obtain ⟨L, ⟨h1, h2, h3⟩, h⟩ := loopS_ex (g := gN 3) (ds := [3]) (body := lb__law_with_runs_1) PV.int (fun L : List (Str × List Str) => [some (.lst ((rs.map txt).map .str)), some (.lst (cs.map .int)), some (.lst ((L.map txt).map .str)), none])
    (fun r L => (∀ x ∈ rs, x ∈ L) ∧ (∀ x ∈ L, x ∈ rs ∨ RunX x) ∧ L.length + r.length = rs.length + cs.length) (fun c r L ⟨h1, h2, h3⟩ => by
      obtain ⟨m, hm, hmL⟩ := mod_ex1 (c / 3) L.length
      have hp : atI (runs3.map PV.str) (c % 3) = some (.str (pick runs3 (c % 3))) := pick_at (by omega) (by show c % 3 < (3 : Int); omega)
      have hr : pick runs3 (c % 3) = ("never" : Str) ∨ pick runs3 (c % 3) = ("may" : Str) ∨ pick runs3 (c % 3) = ("must" : Str) := by
        have := pick_mem (l := runs3) (i := c % 3) (by omega) (by show c % 3 < (3 : Int); omega)
        simpa using this
      generalize pick runs3 (c % 3) = r0 at *
      have hrl : (Str.ofString "run ").length + r0.length ≤ 1000000 := by
        have a : (Str.ofString "run ").length = 4 := by decide +kernel
        have b : r0.length ≤ 10 := by rcases hr with e | e | e <;> rw [e] <;> decide +kernel
        omega
      refine ⟨L.take m ++ (("run" : Str), [r0]) :: L.drop m, ⟨fun x hx => ?_, fun x hx => ?_, ?_⟩, ?_⟩
      · have := h1 x hx
        rw [← List.take_append_drop m L] at this
        rcases List.mem_append.mp this with z | z
        · exact List.mem_append.mpr (.inl z)
        · exact List.mem_append.mpr (.inr (List.mem_cons_of_mem _ z))
      · rcases List.mem_append.mp hx with z | z
        · exact h2 x (List.mem_of_mem_take z)
        · rcases List.mem_cons.mp z with e | z
          · exact .inr ⟨r0, hr, e⟩
          · exact h2 x (List.mem_of_mem_drop z)
      · rw [List.length_append, List.length_cons, List.length_take, List.length_drop, Nat.min_eq_left hmL]
        rw [List.length_cons] at h3
        omega
      · have hpos : (0 : Int) < (L.length : Int) + 1 := succ_pos' _
        have hm0 : (0 : Int) ≤ (m : Int) := by omega
        have hml : L.length < 1000000 := by rw [List.length_cons] at h3; omega
        have hmi : (m : Int) ≤ (L.length : Int) := by omega
        have ht : ((m : Int)).toNat = m := by omega
        simp only [List.map_cons, List.map_nil] at hp
        simp [turn_ap, lb__law_with_runs_1, hpos, hm, hp, hrl, txt_run, hmi, hml, ht]) cs rs ⟨fun x h => h, fun x h => .inl h, rfl⟩
  refine ⟨L, ?_, h1, h2, by simpa using h3⟩
  have hcl : cs.length ≤ 1000000 := by omega
  generalize (rs.map txt).map PV.str = A at h ⊢
  generalize (L.map txt).map PV.str = B at h ⊢
  simp [mi__law_with_runs, fb__law_with_runs, h, hcl]
theorem dd_key : ∀ k : Fin 60, ∀ d : Fin 257, k.val ≠ 0 → d.val ≠ 0 → (k.val * d.val) % 257 ≠ 0 := by decide +kernel
theorem lam_inj {d : Int} (h1 : 1 ≤ d) (h2 : d ≤ 256) {i j : Nat} (hi : i < 60) (hj : j < 60) (h : lamK d i = lamK d j) : i = j := by
  have gen : ∀ {i j : Nat}, i < 60 → j < i → lamK d i = lamK d j → False := fun {i j} hi hj h => by
    unfold lamK at h
    have e := Int.emod_emod_of_dvd
    have h0 : (((i : Int) + 1) * d - ((j : Int) + 1) * d) % 257 = 0 := Int.emod_eq_emod_iff_emod_sub_eq_zero.mp h
    have e1 : ((i : Int) + 1) * d - ((j : Int) + 1) * d = ((i - j : Nat) : Int) * d := by
      rw [← Int.sub_mul]
      congr 1
      omega
    obtain ⟨D, rfl⟩ : ∃ D : Nat, d = (D : Int) := ⟨d.toNat, by omega⟩
    rw [e1] at h0
    have h3 : ((i - j) * D) % 257 = 0 := by
      have : (((i - j) * D : Nat) : Int) % 257 = 0 := by rw [Int.natCast_mul]; exact h0
      omega
    exact dd_key ⟨i - j, by omega⟩ ⟨D, by omega⟩ (by show i - j ≠ 0; omega) (by show D ≠ 0; omega) h3
  rcases Nat.lt_trichotomy i j with z | z | z
  · exact (gen hj z h.symm).elim
  · exact z
  · exact (gen hi z h).elim
theorem nodup_map {α β : Type} {f : α → β} : ∀ {l : List α}, l.Nodup → (∀ a ∈ l, ∀ b ∈ l, f a = f b → a = b) → (l.map f).Nodup
  | [], _, _ => List.nodup_nil
  | x :: l, h, hi => by
    obtain ⟨h1, h2⟩ := List.nodup_cons.mp h
    rw [List.map_cons, List.nodup_cons]
    refine ⟨fun hm => ?_, nodup_map h2 fun a ha b hb => hi a (List.mem_cons_of_mem _ ha) b (List.mem_cons_of_mem _ hb)⟩
    obtain ⟨y, hy, e⟩ := List.mem_map.mp hm
    exact h1 (hi y (List.mem_cons_of_mem _ hy) x List.mem_cons_self e ▸ hy)
theorem dst_ok {d : Int} (h1 : 1 ≤ d) (h2 : d ≤ 256) {n : Nat} (hn : n ≤ 60) : dstB n d = true := by
  unfold dstB
  rw [decide_eq_true_eq]
  unfold rgZ
  rw [List.map_map]
  refine nodup_map List.nodup_range fun a ha b hb e => ?_
  have ha := List.mem_range.mp ha
  have hb := List.mem_range.mp hb
  exact lam_inj h1 h2 (by omega) (by omega) e
theorem pick2_map {α β : Type} (f : α → β) (l : List α) : pick2 (l.map f) = (pick2 l).map f := by
  unfold pick2
  rw [List.length_map, List.map_filterMap]
  congr 1
  funext k
  simp
theorem cutP_upto {α : Type} (f : α → PV) (l : List α) (m : Nat) : cutP (l.map f) none (some (m : Int)) = (l.take m).map f := by
  by_cases h : m ≤ l.length
  · exact cutP_take f l m h
  · unfold cutP
    rw [HT.sIx_nat, HT.sIx_none, List.length_map, Nat.min_eq_right (by omega)]
    simp only [List.drop_zero, Nat.sub_zero]
    rw [List.take_of_length_le (by simp), List.take_of_length_le (by omega)]
def rowAt (rs : List (Str × List Str)) (i : Int) : Str × List Str := rs.getD i.toNat (⟨#[]⟩, [])
theorem mi_deal {rs : List (Str × List Str)} (hl : rs.length ≤ 60) {d : Int} (h1 : 1 ≤ d) (h2 : d ≤ 256) (tw : Bool) : ∃ rs' : List (Str × List Str), mi__law_dealt [.lst ((rs.map txt).map .str), .int d, .bl tw] = some (.lst ((rs'.map txt).map .str)) ∧
    (∀ x, x ∈ rs' ↔ x ∈ rs) ∧ rs'.length ≤ 60 := by
  have hd := dst_ok h1 h2 (n := rs.length) hl
  have hp := srt_perm rs.length d
  have hmem : ∀ i, i ∈ srtL rs.length d ↔ ∃ k : Nat, k < rs.length ∧ i = (k : Int) := fun i => by
    rw [hp.mem_iff]
    unfold rgZ
    simp only [List.mem_map, List.mem_range]
    exact ⟨fun ⟨k, a, b⟩ => ⟨k, a, b.symm⟩, fun ⟨k, a, b⟩ => ⟨k, a, b.symm⟩⟩
  have hsl : (srtL rs.length d).length = rs.length := by rw [hp.length_eq]; unfold rgZ; simp
  obtain ⟨r1, hr1⟩ : ∃ r1, r1 = (srtL rs.length d).map (rowAt rs) := ⟨_, rfl⟩
  have at_ : ∀ {k : Nat}, k < rs.length → rs[k]? = some (rowAt rs (k : Int)) := fun {k} hk => by
    unfold rowAt
    simp [hk]
  have m1 : ∀ x, x ∈ r1 ↔ x ∈ rs := fun x => by
    rw [hr1, List.mem_map]
    constructor
    · rintro ⟨i, hi, rfl⟩
      obtain ⟨k, hk, rfl⟩ := (hmem i).mp hi
      exact List.mem_of_getElem? (at_ hk)
    · intro hx
      obtain ⟨k, hk, e⟩ := List.mem_iff_getElem.mp hx
      refine ⟨(k : Int), (hmem _).mpr ⟨k, hk, rfl⟩, ?_⟩
      have := at_ hk
      rw [List.getElem?_eq_getElem hk] at this
      rw [← e]
      exact (Option.some.inj this).symm
  have l1 : r1.length = rs.length := by rw [hr1, List.length_map, hsl]
  have c1 : compL [none, some (.lst ((rs.map txt).map .str))] (gN 0) tTrue ce__law_dealt_1 ((srtL rs.length d).map .int) = some ((r1.map txt).map .str) := by
    have h := compL_map (env := [none, some (.lst ((rs.map txt).map .str))]) (g := gN 0) (f := ce__law_dealt_1) PV.int (fun i => PV.str (txt (rowAt rs i))) (srtL rs.length d) fun i hi => ⟨_, rfl, by
      obtain ⟨k, hk, rfl⟩ := (hmem i).mp hi
      have e : atI ((rs.map txt).map PV.str) (k : Int) = some (.str (txt (rowAt rs (k : Int)))) := atI_nat (by rw [List.getElem?_map, List.getElem?_map, at_ hk]; rfl)
      generalize (rs.map txt).map PV.str = A at *
      simp [ce__law_dealt_1, e]⟩
    rw [h, hr1, List.map_map, List.map_map]
    rfl
  have hn : ((rs.map txt).map PV.str).length = rs.length := by simp
  have hsl6 : (srtL rs.length d).length ≤ 1000000 := by omega
  have h64 : (rs.length : Int) < 64 := by omega
  have hp2 : pick2 ((r1.map txt).map PV.str) = ((pick2 r1).map txt).map .str := by rw [pick2_map, pick2_map]
  have hp2l := pick2_len r1
  have hb : ((r1.map txt).map PV.str).length + (pick2 ((r1.map txt).map PV.str)).length ≤ 1000000 := by
    rw [hp2]; simp; omega
  have hc : cutP ((r1.map txt).map PV.str ++ ((pick2 r1).map txt).map .str) none (some 60) = (((r1 ++ pick2 r1).take 60).map txt).map .str := by
    rw [← List.map_append, ← List.map_append, List.map_map]
    have := cutP_upto (PV.str ∘ txt) (r1 ++ pick2 r1) 60
    rw [List.map_map]
    exact this
  have hpm : ∀ x ∈ pick2 r1, x ∈ r1 := fun x hx => by
    unfold pick2 at hx
    obtain ⟨k, _, e⟩ := List.mem_filterMap.mp hx
    exact List.mem_of_getElem? e
  cases tw with
  | false =>
    refine ⟨r1, ?_, m1, by omega⟩
    generalize (r1.map txt).map PV.str = B at *
    generalize (rs.map txt).map PV.str = A at *
    simp [mi__law_dealt, fb__law_dealt, hn, h64, hd, c1, hsl6]
  | true =>
    refine ⟨(r1 ++ pick2 r1).take 60, ?_, fun x => ?_, by rw [List.length_take]; omega⟩
    · generalize hZ : (((r1 ++ pick2 r1).take 60).map txt).map PV.str = Z at *
      rw [hp2] at hb
      generalize ((pick2 r1).map txt).map PV.str = C at *
      generalize (r1.map txt).map PV.str = B at *
      generalize (rs.map txt).map PV.str = A at *
      simp [mi__law_dealt, fb__law_dealt, hn, h64, hd, c1, hsl6, hp2, hb, hc]
    · rw [List.take_append, List.take_of_length_le (by omega), List.mem_append, ← m1 x]
      constructor
      · rintro (z | z)
        · exact z
        · exact hpm x (List.mem_of_mem_take z)
      · exact .inl
end My
namespace My
open PySem L2 MR
theorem cutS_codes (x : Str) (lo hi : Option Int) : (cutS x lo hi).cps.toList = (x.cps.toList.drop (HT.sIx x.length 0 lo)).take (HT.sIx x.length x.length hi - HT.sIx x.length 0 lo) := by simp [cutS]
theorem no_alike {R : Rc} {c : Int} {rs : List (Str × List Str)} (h : ∀ x, x ∈ rs ↔ x ∈ allRows c R) (r : List Str) : ¬ (("alike" : Str), r) ∈ rs := by
  intro hx
  have hx := (h _).mp hx
  unfold allRows at hx
  simp only [List.mem_append] at hx
  rcases hx with (((((hx | hx) | hx) | hx) | hx) | hx) | hx
  · exact absurd (show ("alike" : Str) = ("carry" : Str) from (mem_kindRows hx).1) (by decide +kernel)
  · exact absurd (show ("alike" : Str) = ("one" : Str) from (mem_kindRows hx).1) (by decide +kernel)
  · exact absurd (show ("alike" : Str) = ("long" : Str) from (mem_kindRows hx).1) (by decide +kernel)
  · exact absurd (show ("alike" : Str) = ("either" : Str) from (mem_kindRows hx).1) (by decide +kernel)
  · exact absurd (show ("alike" : Str) = ("begin" : Str) from (mem_kindRows hx).1) (by decide +kernel)
  · exact absurd (show ("alike" : Str) = ("split" : Str) from (mem_kindRows hx).1) (by decide +kernel)
  · unfold runRows at hx
    split at hx
    · cases hx
    · have e : (("alike" : Str), r) = (("run" : Str), [R.run]) := by simpa using hx
      exact absurd (Prod.mk.inj e).1 (by decide +kernel)
theorem turn_some {g : PV → MR.Env → Option MR.Env} {ds : List Nat} {body : MR.Env → Option Out} {x : PV} {env e' : MR.Env} (h : turn g ds body x env = some e') : ∃ e1, g x env = some e1 ∧ ((∃ e, body e1 = some (.nx e) ∧ clr ds e = e') ∨ ∃ e, body e1 = some (.ct e) ∧ clr ds e = e') := by
  unfold turn at h
  cases q : g x env with
  | none => rw [q] at h; cases h
  | some e1 =>
    rw [q] at h
    refine ⟨e1, rfl, ?_⟩
    have h' : nxt ds (body e1) = some e' := h
    cases r : body e1 with
    | none => rw [r] at h'; cases h'
    | some o =>
      rw [r] at h'
      cases o with
      | nx e => exact .inl ⟨e, rfl, Option.some.inj h'⟩
      | ct e => exact .inr ⟨e, rfl, Option.some.inj h'⟩
      | bk e => cases h'
      | rt p => cases h'
theorem loopO_fold {α S : Type} {j : Nat} {g : PV → MR.Env → Option MR.Env} {ds : List Nat} {body : MR.Env → Option Out} (c : α → PV) (ys : List α) (E : S → MR.Env) (step : S → α → S) (hb : ∀ s, bV j (E s) = some (.lst (ys.map c))) (hh : ∀ y ∈ ys, ∀ s, turn g ds body (c y) (E s) = some (E (step s y))) : ∀ (n k : Nat) (s : S), ys.length < k + n → 0 < n →
    loopO j g ds body n k (E s) = some (.nx (E ((ys.drop k).foldl step s)))
  | 0, k, s, h, h2 => absurd h2 (Nat.lt_irrefl 0)
  | n + 1, k, s, h, _ => by
    unfold loopO
    rw [hb]
    simp only
    by_cases hk : k < ys.length
    · have e1 : (ys.map c)[k]? = some (c ys[k]) := by simp [hk]
      obtain ⟨e, g1, g2⟩ := turn_some (hh ys[k] (List.getElem_mem hk) s)
      have e2 : ys.drop k = ys[k] :: ys.drop (k + 1) := (List.drop_eq_getElem_cons hk)
      have ih := loopO_fold c ys E step hb hh n (k + 1) (step s ys[k]) (by omega) (by omega)
      rw [e1, e2, List.foldl_cons]
      rcases g2 with ⟨e', q1, q2⟩ | ⟨e', q1, q2⟩ <;> simp [g1, q1, q2, ih]
    · have e1 : (ys.map c)[k]? = none := by simp; omega
      rw [e1, List.drop_of_length_le (by omega)]
      rfl
theorem str_ext {a b : Str} (h : a.cps.toList = b.cps.toList) : a = b := by rw [← mkS_toList a, ← mkS_toList b, h]
theorem cut4 (z : Str) : (cutS z none (some 4)).cps.toList = z.cps.toList.take 4 := by
  have hl : z.cps.toList.length = z.length := Array.length_toList
  have e := cutS_codes z none (some ((4 : Nat) : Int))
  rw [HT.sIx_none, HT.sIx_nat] at e
  rw [show (4 : Int) = ((4 : Nat) : Int) from rfl, e, List.drop_zero, Nat.sub_zero, List.take_eq_take_iff, hl]
  omega
theorem cut4b (z : Str) : (cutS z (some 4) none).cps.toList = z.cps.toList.drop 4 := by
  have hl : z.cps.toList.length = z.length := Array.length_toList
  have e := cutS_codes z (some ((4 : Nat) : Int)) none
  rw [HT.sIx_none, HT.sIx_nat] at e
  rw [show (4 : Int) = ((4 : Nat) : Int) from rfl, e]
  by_cases h : 4 ≤ z.length
  · rw [Nat.min_eq_left h, List.take_of_length_le (by rw [List.length_drop]; omega)]
  · rw [List.drop_of_length_le (by rw [hl]; omega), List.drop_of_length_le (by rw [hl]; omega)]
    simp
def stepR (t : Str) (x : Str × List Str) : Str := if cutS (txt x) none (some 4) = ("run " : Str) then cutS (txt x) (some 4) none else t
theorem runs_codes : (Str.ofString "run ").cps.toList = [114, 117, 110, 32] := by decide +kernel
theorem step_run (t r : Str) : stepR t (("run" : Str), [r]) = r := by
  have e : (txt (("run" : Str), [r])).cps.toList = [114, 117, 110, 32] ++ r.cps.toList := by rw [← txt_run, codes_app, runs_codes]
  unfold stepR
  rw [if_pos (str_ext (by rw [cut4, e, runs_codes]; rfl))]
  exact str_ext (by rw [cut4b, e]; rfl)
theorem step_no {t k : Str} {r : List Str} {a : Nat} {l : List Nat} (h : k.cps.toList = a :: l) (ha : a ≠ 114) : stepR t (k, r) = t := by
  unfold stepR
  rw [if_neg fun z => ?_]
  have z : (cutS (txt (k, r)) none (some 4)).cps.toList = (Str.ofString "run ").cps.toList := by rw [z]
  rw [cut4, runs_codes] at z
  unfold txt at z
  rw [codes_app, codes_app, h] at z
  simp at z
  exact ha z.1
theorem step_eq {R : Rc} {x : Str × List Str} (h : RowIs R x) (t : Str) : stepR t x = runStep t (x.1 :: x.2) := by
  have no : ∀ {k : Str} {r : List Str}, ¬ k = ("run" : Str) → runStep t (k :: r) = t := fun {k r} h => by
    cases r with
    | nil => rfl
    | cons => simp [runStep, h]
  cases h with
  | run h => rw [step_run]; simp [runStep]
  | carry => rw [step_no (a := 99) (l := [97, 114, 114, 121]) (by decide +kernel) (by decide)]; exact (no (k := "carry") (by decide +kernel)).symm
  | one => rw [step_no (a := 111) (l := [110, 101]) (by decide +kernel) (by decide)]; exact (no (k := "one") (by decide +kernel)).symm
  | long => rw [step_no (a := 108) (l := [111, 110, 103]) (by decide +kernel) (by decide)]; exact (no (k := "long") (by decide +kernel)).symm
  | either => rw [step_no (a := 101) (l := [105, 116, 104, 101, 114]) (by decide +kernel) (by decide)]; exact (no (k := "either") (by decide +kernel)).symm
  | begin => rw [step_no (a := 98) (l := [101, 103, 105, 110]) (by decide +kernel) (by decide)]; exact (no (k := "begin") (by decide +kernel)).symm
  | split => rw [step_no (a := 115) (l := [112, 108, 105, 116]) (by decide +kernel) (by decide)]; exact (no (k := "split") (by decide +kernel)).symm
  | alike => rw [step_no (a := 97) (l := [108, 105, 107, 101]) (by decide +kernel) (by decide)]; exact (no (k := "alike") (by decide +kernel)).symm
theorem fold_run {R : Rc} : ∀ {l : List (Str × List Str)} {t : Str}, (∀ x ∈ l, RowIs R x) → l.foldl stepR t = (l.map fun x => x.1 :: x.2).foldl runStep t
  | [], _, _ => rfl
  | x :: l, t, h => by
    rw [List.foldl_cons, List.map_cons, List.foldl_cons, step_eq (h x List.mem_cons_self) t]
    exact fold_run fun y hy => h y (List.mem_cons_of_mem _ hy)
theorem last_no : ∀ {l : List (Str × List Str)} {t : Str}, (∀ x ∈ l, ¬ x.1 = ("run" : Str)) → (l.map fun x => x.1 :: x.2).foldl runStep t = t
  | [], _, _ => rfl
  | x :: l, t, h => by
    have h1 := h x List.mem_cons_self
    have e : runStep t (x.1 :: x.2) = t := by
      cases x.2 with
      | nil => rfl
      | cons => simp [runStep, h1]
    rw [List.map_cons, List.foldl_cons, e]
    exact last_no fun y hy => h y (List.mem_cons_of_mem _ hy)
theorem no_runs {R : Rc} {c : Int} {rs : List (Str × List Str)} (h : ∀ x, x ∈ rs ↔ x ∈ allRows c R) (hr : R.run = ("" : Str)) : ∀ x ∈ rs, ¬ x.1 = ("run" : Str) := by
  intro x hx e
  have hx := (h _).mp hx
  unfold allRows at hx
  simp only [List.mem_append] at hx
  rcases hx with (((((hx | hx) | hx) | hx) | hx) | hx) | hx
  · exact absurd (e.symm.trans (mem_kindRows hx).1) (by decide +kernel)
  · exact absurd (e.symm.trans (mem_kindRows hx).1) (by decide +kernel)
  · exact absurd (e.symm.trans (mem_kindRows hx).1) (by decide +kernel)
  · exact absurd (e.symm.trans (mem_kindRows hx).1) (by decide +kernel)
  · exact absurd (e.symm.trans (mem_kindRows hx).1) (by decide +kernel)
  · exact absurd (e.symm.trans (mem_kindRows hx).1) (by decide +kernel)
  · unfold runRows at hx
    rw [if_pos hr] at hx
    cases hx
end My
namespace My
open PySem L2 MR
theorem frz_cut (ns : List Int) (a b : Nat) : ∃ cs : List Int, cutP (ns.map PV.int) (some (a : Int)) (some (b : Int)) = cs.map PV.int ∧ cs.length ≤ b - a := by
  refine ⟨(ns.drop (HT.sIx ns.length 0 (some (a : Int)))).take (HT.sIx ns.length ns.length (some (b : Int)) - HT.sIx ns.length 0 (some (a : Int))), ?_, ?_⟩
  · unfold cutP; simp [List.map_drop, List.map_take]
  · rw [HT.sIx_nat, HT.sIx_nat]; simp; omega
theorem txt_al (a b : Str) : (Str.ofString "alike ") ++ (a ++ (Str.ofString " ") ++ b) = txt (("alike" : Str), [a, b]) := by
  rw [← txt_alike]
  refine str_ext ?_
  simp only [codes_app, List.append_assoc]
theorem law_true (ns : List Int) (h63 : ns.length ≤ 63) : mi_law [.frz (ns.map PV.int)] = some (.bl true) := by
  obtain ⟨R, G, hR⟩ := record_ok ns 1
  obtain ⟨R0, hR0⟩ : ∃ R0 : Rc, R0 = { R with run := ("" : Str) } := ⟨_, rfl⟩
  have G0 : R0.Good := by rw [hR0]; exact ⟨G.m1, G.m7, G.car, G.prs, G.lng, G.eth, G.beg, G.spl, .inl rfl, G.l1, G.l2, G.l3, G.l4, G.l5⟩
  have hr0 : R0.run = ("" : Str) := by rw [hR0]
  have hrec0 : recP R0 = .tup [rowP R.carriers, rowP R.pairs, rowP R.longs, rowP R.eithers, rowP R.begins, rowP R.splits, .str "", .int R.base] := by rw [hR0]; rfl
  obtain ⟨rs, hrs, hn, hrows⟩ := rows_ok G0 (cell ns 0)
  have T := tells_of G0 hrs (by omega)
  have hnr := no_runs hrs hr0
  have hna := no_alike hrs
  have hc0 := mi_cell ns 0
  have hc7 := mi_cell ns 7
  have hc8 := mi_cell ns 8
  have Lo := G.lo
  have m1 := G.m1; have m7 := G.m7
  have lc : R.carriers.length = R.many := by rw [G.car]; simp
  have lp := G.l1
  obtain ⟨us, hus⟩ : ∃ us, us = R.carriers ++ R.pairs := ⟨_, rfl⟩
  have lus : us.length = R.many + R.pairs.length := by rw [hus]; simp [lc]
  obtain ⟨st, hst⟩ : ∃ st : List Str, st = (List.range 6).map fun k : Nat => letter R.base (8 + (k : Nat)) := ⟨_, rfl⟩
  have lst : st.length = 6 := by rw [hst]; simp
  have hS : ∀ w ∈ st, StopW R0 w := fun w hw => by
    rw [hst] at hw
    obtain ⟨k, hk, e⟩ := List.mem_map.mp hw
    have := List.mem_range.mp hk
    refine ⟨8 + k - R.many, by omega, ?_⟩
    rw [hR0, ← e]
    show letter R.base _ = letter R.base ((R.many : Int) + ((8 + k - R.many : Nat) : Int))
    congr 1
    omega
  have okU : ∀ w ∈ us, Low w := fun w hw => by
    rw [hus] at hw
    rcases List.mem_append.mp hw with h | h
    · exact Lo.c w h
    · exact Lo.p w h
  have okS : ∀ w ∈ st, Low w := fun w hw => by
    obtain ⟨i, _, e⟩ := hS w hw
    rw [e]; exact low_letter _ _
  obtain ⟨cs, hcs, lcs⟩ := frz_cut ns 12 20
  obtain ⟨cr, hcr, lcr⟩ := frz_cut ns 9 12
  let lo : Int → List Str := fun c => if c % 2 = 0 then us else st
  let pr : Int → Str × Str := fun c => (pick (lo c) (c / 2 % (lo c).length), pick (lo c) (c / 64 % (lo c).length))
  have hlo : ∀ c, 0 < ((lo c).length : Int) ∧ (lo c = us ∨ lo c = st) := fun c => by
    show 0 < ((if c % 2 = 0 then us else st).length : Int) ∧ _
    by_cases h : c % 2 = 0
    · rw [if_pos h]; exact ⟨by omega, .inl (if_pos h)⟩
    · rw [if_neg h]; exact ⟨by omega, .inr (if_neg h)⟩
  have hpr : ∀ c, (pr c).1 ∈ lo c ∧ (pr c).2 ∈ lo c := fun c =>
    ⟨pick_mem (Int.emod_nonneg _ (by have := (hlo c).1; omega)) (Int.emod_lt_of_pos _ (hlo c).1), pick_mem (Int.emod_nonneg _ (by have := (hlo c).1; omega)) (Int.emod_lt_of_pos _ (hlo c).1)⟩
  have hAl : ∀ c, AlikeW R0 (pr c).1 (pr c).2 := fun c => by
    obtain ⟨h1, h2⟩ := hpr c
    rcases (hlo c).2 with h | h
    · rw [h, hus] at h1 h2; rw [hR0]; exact .inl ⟨h1, h2⟩
    · rw [h] at h1 h2; exact .inr ⟨hS _ h1, hS _ h2⟩
  have hLw : ∀ c, Low (pr c).1 ∧ Low (pr c).2 := fun c => by
    obtain ⟨h1, h2⟩ := hpr c
    rcases (hlo c).2 with h | h
    · rw [h] at h1 h2; exact ⟨okU _ h1, okU _ h2⟩
    · rw [h] at h1 h2; exact ⟨okS _ h1, okS _ h2⟩
  let ar : Int → Str × List Str := fun c => (("alike" : Str), [(pr c).1, (pr c).2])
  obtain ⟨Z, hZ⟩ : ∃ Z, Z = rs ++ cs.map ar := ⟨_, rfl⟩
  have lZ : Z.length ≤ 52 := by rw [hZ, List.length_append, List.length_map]; omega
  have mZ : ∀ x, x ∈ Z ↔ x ∈ rs ∨ ∃ c ∈ cs, x = ar c := fun x => by
    rw [hZ, List.mem_append, List.mem_map]
    exact ⟨fun h => h.imp id fun ⟨c, h1, h2⟩ => ⟨c, h1, h2.symm⟩, fun h => h.imp id fun ⟨c, h1, h2⟩ => ⟨c, h1, h2.symm⟩⟩
  have T1 : Tells R0 Z := tells_ext T (fun x hx => by
    rcases (mZ x).mp hx with h | ⟨c, _, rfl⟩
    · exact .inl h
    · exact .inr ⟨.alike (hAl c), show 2 ≤ 20 by decide⟩) (fun x hx => (mZ x).mpr (.inl hx)) (by omega)
  obtain ⟨r1, hr1, a1, a2, a3⟩ := mi_runs (rs := Z) (by omega) cr (by omega)
  have T2 : Tells R0 r1 := tells_ext T1 (fun x hx => by
    rcases a2 x hx with h | ⟨r, h, rfl⟩
    · exact .inl h
    · exact .inr ⟨.run h, by simp⟩) a1 (by omega)
  have hd1 : 1 ≤ 1 + cell ns 7 % 256 := by omega
  have hd2 : 1 + cell ns 7 % 256 ≤ 256 := by omega
  obtain ⟨r2, hr2, db1, db2⟩ := mi_deal (rs := Z) (by omega) hd1 hd2 (decide (cell ns 8 % 2 = 1))
  have T3 : Tells R0 r2 := tells_ext T1 (fun x hx => .inl ((db1 x).mp hx)) (fun x hx => (db1 x).mpr hx) (by omega)
  obtain ⟨lk, hlk⟩ : ∃ lk : List (Str × Str), lk = cs.map pr := ⟨_, rfl⟩
  have kZ : ∀ a b, (("alike" : Str), [a, b]) ∈ Z ↔ (a, b) ∈ lk := fun a b => by
    rw [mZ, hlk, List.mem_map]
    constructor
    · rintro (h | ⟨c, hc, e⟩)
      · exact absurd h (hna _)
      · have e2 : ([a, b] : List Str) = [(pr c).1, (pr c).2] := (Prod.mk.inj e).2
        simp only [List.cons.injEq, and_true] at e2
        exact ⟨c, hc, Prod.ext e2.1.symm e2.2.symm⟩
    · rintro ⟨c, hc, e⟩
      refine .inr ⟨c, hc, ?_⟩
      show (("alike" : Str), [a, b]) = (("alike" : Str), [(pr c).1, (pr c).2])
      rw [e]
  have k1 : ∀ a b, (("alike" : Str), [a, b]) ∈ r1 ↔ (a, b) ∈ lk := fun a b => by
    rw [← kZ]
    refine ⟨fun h => ?_, a1 _⟩
    rcases a2 _ h with h | ⟨r, _, e⟩
    · exact h
    · exact absurd (Prod.mk.inj e).1 (by decide +kernel)
  have k2 : ∀ a b, (("alike" : Str), [a, b]) ∈ r2 ↔ (a, b) ∈ lk := fun a b => by rw [db1, kZ]
  have A1' := agree_of G0 T2 k1
  have A2' := agree_of G0 T3 k2
  have A1 : Agree R lk (cutOf r1) := by rw [hR0] at A1'; exact ⟨A1'.c, A1'.p, A1'.l, A1'.e, A1'.b, A1'.s, A1'.k⟩
  have A2 : Agree R lk (cutOf r2) := by rw [hR0] at A2'; exact ⟨A2'.c, A2'.p, A2'.l, A2'.e, A2'.b, A2'.s, A2'.k⟩
  have t1 := mi_told_all G A1
  have t2 := mi_told_all G A2
  have heq := eqP_fv (told_ok R lk)
  have n1 := made G0 T2
  have n2 := made G0 T3
  have q1 := mi_runq (cutOf r1)
  have q2 := mi_runq (cutOf r2)
  have l2 : lastRun (cutOf r2) = ("never" : Str) := by
    refine last_no fun x hx => ?_
    rcases (mZ x).mp ((db1 x).mp hx) with h | ⟨c, _, rfl⟩
    · exact hnr x h
    · show ¬ ("alike" : Str) = ("run" : Str)
      decide +kernel
  rw [l2] at q2
  have l1 : lastRun (cutOf r1) = r1.foldl stepR ("never" : Str) := (fold_run T2.is).symm
  rw [l1] at q1
  obtain ⟨S, hS0⟩ : ∃ S, S = PV.frz (ns.map PV.int) := ⟨_, rfl⟩
  have hR' : mi__law_record [S, .int 1] = some (recP R) := by rw [hS0]; exact hR
  have hc0' : mi__law_cell_at [S, .int 0] = some (.int (cell ns 0)) := by rw [hS0]; exact hc0
  have hc7' : mi__law_cell_at [S, .int 7] = some (.int (cell ns 7)) := by rw [hS0]; exact hc7
  have hc8' : mi__law_cell_at [S, .int 8] = some (.int (cell ns 8)) := by rw [hS0]; exact hc8
  have c7 : R.carriers.length + R.pairs.length ≤ 1000000 := by omega
  have hus2 : R.carriers.map PV.str ++ R.pairs.map PV.str = us.map .str := by rw [hus, List.map_append]
  have s1 : sSet 1 (bCall mi__law_record (bCons (bV 0) (bCons (bC (.int 1)) bNil))) [some S, none, none, none, none, none, none, none, none, none, none, none, none, none, none, none] = some (.nx [some S, some (recP R), none, none, none, none, none, none, none, none, none, none, none, none, none, none]) := by
    simp [hR']
  have s2 : sSet 2 (bCall mi__law_rows (bCons (b2 catT (bSlT2 (bV 1) oN (oS (bC (.int 6)))) (bTup (bCons (bC (.str "")) (bCons (b2 ixP (bV 1) (bC (.int 7))) bNil)))) (bCons (bCall mi__law_cell_at (bCons (bV 0) (bCons (bC (.int 0)) bNil))) bNil))) [some S, some (recP R), none, none, none, none, none, none, none, none, none, none, none, none, none, none] = some (.nx [some S, some (recP R), some (.lst ((rs.map txt).map .str)), none, none, none, none, none, none, none, none, none, none, none, none, none]) := by
    have e1 : b2 catT (bSlT2 (bV 1) oN (oS (bC (.int 6)))) (bTup (bCons (bC (.str "")) (bCons (b2 ixP (bV 1) (bC (.int 7))) bNil))) [some S, some (recP R), none, none, none, none, none, none, none, none, none, none, none, none, none, none] = some (recP R0) := by
      rw [hrec0]
      have h6 : cutP [rowP R.carriers, rowP R.pairs, rowP R.longs, rowP R.eithers, rowP R.begins, rowP R.splits, .str R.run, .int R.base] none (some 6) = [rowP R.carriers, rowP R.pairs, rowP R.longs, rowP R.eithers, rowP R.begins, rowP R.splits] := rfl
      simp [recP, h6, catT, slT2]
    generalize (rs.map txt).map PV.str = A at *
    simp only [sSet_ap, bCall_ap, bCons_ap, e1]
    simp [hc0', hrows]
  have s3 : sSet 3 (b2 addV (b2 ixP (bV 1) (bC (.int 0))) (b2 ixP (bV 1) (bC (.int 1)))) [some S, some (recP R), some (.lst ((rs.map txt).map .str)), none, none, none, none, none, none, none, none, none, none, none, none, none] = some (.nx [some S, some (recP R), some (.lst ((rs.map txt).map .str)), some (.lst (us.map .str)), none, none, none, none, none, none, none, none, none, none, none, none]) := by
    simp [recP, rowP, c7, hus2]
  have s4 : sSet 4 (bComp [none, some 1] (iR1 (bC (.int 6))) (gN 0) tTrue ce_law_1) [some S, some (recP R), some (.lst ((rs.map txt).map .str)), some (.lst (us.map .str)), none, none, none, none, none, none, none, none, none, none, none, none] = some (.nx [some S, some (recP R), some (.lst ((rs.map txt).map .str)), some (.lst (us.map .str)), some (.lst (st.map .str)), none, none, none, none, none, none, none, none, none, none, none]) := by
    have r6 : rgI 6 = true := rgI_of (by decide) (by decide)
    have q6 : (rngV 0 6).length ≤ 1000000 := by decide
    have hcm : compL [none, some (recP R)] (gN 0) tTrue ce_law_1 (rngV 0 6) = some (st.map .str) := by
      rw [show (6 : Int) = ((6 : Nat) : Int) from rfl, rngV_nat]
      have h := compL_map (env := [none, some (recP R)]) (g := gN 0) (f := ce_law_1) (fun k : Nat => PV.int (k : Nat)) (fun k => .str (letter R.base (8 + (k : Nat)))) (List.range 6) fun k hk => ⟨_, rfl, by
        simp [ce_law_1, recP, mi_lett]⟩
      rw [h, hst, List.map_map]
      rfl
    simp [r6, q6, hcm]
  have lcs6 : cs.length ≤ 1000000 := by omega
  have turnC : ∀ (c : Int) (L : List (Str × List Str)), L.length ≤ 100 → turn (gN 5) [5, 6, 7] lb_law_2 (.int c) [some S, some (recP R), some (.lst ((L.map txt).map .str)), some (.lst (us.map .str)), some (.lst (st.map .str)), none, none, none, none, none, none, none, none, none, none, none] = some [some S, some (recP R), some (.lst (((L ++ [ar c]).map txt).map .str)), some (.lst (us.map .str)), some (.lst (st.map .str)), none, none, none, none, none, none, none, none, none, none, none] := fun c L hL => by
    obtain ⟨p1, p2⟩ := hpr c
    obtain ⟨w1, w2⟩ := hLw c
    have hl := hlo c
    have i1 : atI ((lo c).map PV.str) (c / 2 % ((lo c).length : Int)) = some (.str (pr c).1) := pick_at (Int.emod_nonneg _ (by omega)) (Int.emod_lt_of_pos _ hl.1)
    have i2 : atI ((lo c).map PV.str) (c / 64 % ((lo c).length : Int)) = some (.str (pr c).2) := pick_at (Int.emod_nonneg _ (by omega)) (Int.emod_lt_of_pos _ hl.1)
    have i0 : atI [PV.lst (us.map .str), .lst (st.map .str)] (c % 2) = some (.lst ((lo c).map .str)) := by
      show _ = some (PV.lst ((if c % 2 = 0 then us else st).map .str))
      by_cases h : c % 2 = 0
      · rw [if_pos h, h]; rfl
      · rw [if_neg h, show c % 2 = 1 by omega]; rfl
    have w1l := w1.l4
    have w2l := w2.l4
    have hb1 : (Str.ofString " ").length = 1 := blen
    have hb2 : (Str.ofString "alike ").length = 6 := by decide +kernel
    have z1 : (pr c).1.length + (Str.ofString " ").length ≤ 1000000 := by omega
    have z2 : ((pr c).1 ++ (Str.ofString " ")).length + (pr c).2.length ≤ 1000000 := by rw [slen_app]; omega
    have z3 : (Str.ofString "alike ").length + ((pr c).1 ++ (Str.ofString " ") ++ (pr c).2).length ≤ 1000000 := by rw [slen_app, slen_app]; omega
    have ha := txt_al (pr c).1 (pr c).2
    have hL6 : L.length < 1000000 := by omega
    have hpos : 0 < (lo c).length := by have := hl.1; omega
    have hres : (((L ++ [ar c]).map txt).map PV.str) = (L.map txt).map .str ++ [.str (txt (ar c))] := by simp
    rw [hres]
    have har : txt (ar c) = txt (("alike" : Str), [(pr c).1, (pr c).2]) := rfl
    rw [har, ← ha]
    have hLl : ((L.map txt).map PV.str).length < 1000000 := by simpa using hL6
    have hln : ((lo c).map PV.str).length = (lo c).length := List.length_map _
    clear ha har hres
    generalize (L.map txt).map PV.str = A at *
    generalize (pr c).1 = u1 at *
    generalize (pr c).2 = u2 at *
    generalize hLO : (lo c).map PV.str = LO at *
    generalize (lo c).length = ll at *
    simp [turn_ap, lb_law_2, i0, i1, i2, hln, hpos, z1, z2, z3, hLl]
  have s5 : sFor (gN 5) (iV (bSl (bV 0) (oS (bC (.int 12))) (oS (bC (.int 20))))) [5, 6, 7] lb_law_2 [some S, some (recP R), some (.lst ((rs.map txt).map .str)), some (.lst (us.map .str)), some (.lst (st.map .str)), none, none, none, none, none, none, none, none, none, none, none] = some (.nx [some S, some (recP R), some (.lst ((Z.map txt).map .str)), some (.lst (us.map .str)), some (.lst (st.map .str)), none, none, none, none, none, none, none, none, none, none, none]) := by
    have hl : loopS (gN 5) [5, 6, 7] lb_law_2 (cs.map .int) [some S, some (recP R), some (.lst ((rs.map txt).map .str)), some (.lst (us.map .str)), some (.lst (st.map .str)), none, none, none, none, none, none, none, none, none, none, none] = some (.nx [some S, some (recP R), some (.lst ((Z.map txt).map .str)), some (.lst (us.map .str)), some (.lst (st.map .str)), none, none, none, none, none, none, none, none, none, none, none]) := by
      have h := loopS_pot (g := gN 5) (ds := [5, 6, 7]) (body := lb_law_2) PV.int (fun L : List (Str × List Str) => [some S, some (recP R), some (.lst ((L.map txt).map .str)), some (.lst (us.map .str)), some (.lst (st.map .str)), none, none, none, none, none, none, none, none, none, none, none]) (fun L c => L ++ [ar c]) List.length (fun _ => 1) 60 (fun _ => True) cs rs trivial (by rw [sum_ones]; omega)
        fun c hc L _ hL => ⟨by simp, trivial, turnC c L (by omega)⟩
      have hf : ∀ (l : List Int) (L : List (Str × List Str)), l.foldl (fun L c => L ++ [ar c]) L = L ++ l.map ar := fun l => by
        induction l with
        | nil => intro L; simp
        | cons c l ih => intro L; rw [List.foldl_cons, ih]; simp
      rw [hf, ← hZ] at h
      exact h
    have hcs' : cutP (ns.map PV.int) (some 12) (some 20) = cs.map PV.int := hcs
    subst hS0
    generalize (rs.map txt).map PV.str = A at *
    generalize (Z.map txt).map PV.str = B at *
    simp [hcs', hl, lcs6]
  have s6 : sSet 8 (bCall mi__law_with_runs (bCons (bV 2) (bCons (bSl (bV 0) (oS (bC (.int 9))) (oS (bC (.int 12)))) bNil))) [some S, some (recP R), some (.lst ((Z.map txt).map .str)), some (.lst (us.map .str)), some (.lst (st.map .str)), none, none, none, none, none, none, none, none, none, none, none] = some (.nx [some S, some (recP R), some (.lst ((Z.map txt).map .str)), some (.lst (us.map .str)), some (.lst (st.map .str)), none, none, none, some (.lst ((r1.map txt).map .str)), none, none, none, none, none, none, none]) := by
    have hcr' : cutP (ns.map PV.int) (some 9) (some 12) = cr.map PV.int := hcr
    subst hS0
    generalize (Z.map txt).map PV.str = A at *
    generalize (r1.map txt).map PV.str = B at *
    simp [hcr', hr1]
  have s7 : sSet 9 (b2 addV (bC (.int 1)) (b2 modV (bCall mi__law_cell_at (bCons (bV 0) (bCons (bC (.int 7)) bNil))) (bC (.int 256)))) [some S, some (recP R), some (.lst ((Z.map txt).map .str)), some (.lst (us.map .str)), some (.lst (st.map .str)), none, none, none, some (.lst ((r1.map txt).map .str)), none, none, none, none, none, none, none] = some (.nx [some S, some (recP R), some (.lst ((Z.map txt).map .str)), some (.lst (us.map .str)), some (.lst (st.map .str)), none, none, none, some (.lst ((r1.map txt).map .str)), some (.int (1 + cell ns 7 % 256)), none, none, none, none, none, none]) := by
    simp [hc7']
  have s8 : sSet 10 (bCall mi__law_dealt (bCons (bV 2) (bCons (bV 9) (bCons (b2 eqQ (b2 modV (bCall mi__law_cell_at (bCons (bV 0) (bCons (bC (.int 8)) bNil))) (bC (.int 2))) (bC (.int 1))) bNil)))) [some S, some (recP R), some (.lst ((Z.map txt).map .str)), some (.lst (us.map .str)), some (.lst (st.map .str)), none, none, none, some (.lst ((r1.map txt).map .str)), some (.int (1 + cell ns 7 % 256)), none, none, none, none, none, none] = some (.nx [some S, some (recP R), some (.lst ((Z.map txt).map .str)), some (.lst (us.map .str)), some (.lst (st.map .str)), none, none, none, some (.lst ((r1.map txt).map .str)), some (.int (1 + cell ns 7 % 256)), some (.lst ((r2.map txt).map .str)), none, none, none, none, none]) := by
    generalize (Z.map txt).map PV.str = A at *
    generalize (r2.map txt).map PV.str = B at *
    simp [hc8', hr2]
  have s9 : sSet 11 (bMakeB 0 mi_Tongue____init__ (bCons (bL (bV 8)) bNil)) [some S, some (recP R), some (.lst ((Z.map txt).map .str)), some (.lst (us.map .str)), some (.lst (st.map .str)), none, none, none, some (.lst ((r1.map txt).map .str)), some (.int (1 + cell ns 7 % 256)), some (.lst ((r2.map txt).map .str)), none, none, none, none, none] = some (.nx [some S, some (recP R), some (.lst ((Z.map txt).map .str)), some (.lst (us.map .str)), some (.lst (st.map .str)), none, none, none, some (.lst ((r1.map txt).map .str)), some (.int (1 + cell ns 7 % 256)), some (.lst ((r2.map txt).map .str)), some (.obj 0 (tongueF (cutOf r1))), none, none, none, none]) := by
    generalize (r1.map txt).map PV.str = B at *
    simp [n1, noL_tongue]
  have s10 : sSet 12 (bMakeB 0 mi_Tongue____init__ (bCons (bL (bV 10)) bNil)) [some S, some (recP R), some (.lst ((Z.map txt).map .str)), some (.lst (us.map .str)), some (.lst (st.map .str)), none, none, none, some (.lst ((r1.map txt).map .str)), some (.int (1 + cell ns 7 % 256)), some (.lst ((r2.map txt).map .str)), some (.obj 0 (tongueF (cutOf r1))), none, none, none, none] = some (.nx [some S, some (recP R), some (.lst ((Z.map txt).map .str)), some (.lst (us.map .str)), some (.lst (st.map .str)), none, none, none, some (.lst ((r1.map txt).map .str)), some (.int (1 + cell ns 7 % 256)), some (.lst ((r2.map txt).map .str)), some (.obj 0 (tongueF (cutOf r1))), some (.obj 0 (tongueF (cutOf r2))), none, none, none]) := by
    generalize (r2.map txt).map PV.str = B at *
    simp [n2, noL_tongue]
  have zl : ∀ z ∈ r1.map txt, z.length ≤ 1000000 := fun z hz => by
    obtain ⟨x, hx, e⟩ := List.mem_map.mp hz
    have := txt_len G0 T2 hx
    rw [← e]; omega
  have s12 : sForO 8 1000 (gN 14) [14] lb_law_3 [some S, some (recP R), some (.lst ((Z.map txt).map .str)), some (.lst (us.map .str)), some (.lst (st.map .str)), none, none, none, some (.lst ((r1.map txt).map .str)), some (.int (1 + cell ns 7 % 256)), some (.lst ((r2.map txt).map .str)), some (.obj 0 (tongueF (cutOf r1))), some (.obj 0 (tongueF (cutOf r2))), some (.str "never"), none, none] = some (.nx [some S, some (recP R), some (.lst ((Z.map txt).map .str)), some (.lst (us.map .str)), some (.lst (st.map .str)), none, none, none, some (.lst ((r1.map txt).map .str)), some (.int (1 + cell ns 7 % 256)), some (.lst ((r2.map txt).map .str)), some (.obj 0 (tongueF (cutOf r1))), some (.obj 0 (tongueF (cutOf r2))), some (.str (r1.foldl stepR ("never" : Str))), none, none]) := by
    have h := loopO_fold (j := 8) (g := gN 14) (ds := [14]) (body := lb_law_3) PV.str (r1.map txt) (fun t : Str => [some S, some (recP R), some (.lst ((Z.map txt).map .str)), some (.lst (us.map .str)), some (.lst (st.map .str)), none, none, none, some (.lst ((r1.map txt).map .str)), some (.int (1 + cell ns 7 % 256)), some (.lst ((r2.map txt).map .str)), some (.obj 0 (tongueF (cutOf r1))), some (.obj 0 (tongueF (cutOf r2))), some (.str t), none, none]) (fun t z => if cutS z none (some 4) = ("run " : Str) then cutS z (some 4) none else t) (fun t => rfl) (fun z hz t => by
      have hzl := zl z hz
      generalize (r1.map txt).map PV.str = B at *
      by_cases h : cutS z none (some 4) = ("run " : Str)
      · have h' : cutS z none (some 4) = Str.ofString "run " := h
        simp [turn_ap, lb_law_3, hzl, h']
      · have h' : ¬ cutS z none (some 4) = Str.ofString "run " := h
        simp [turn_ap, lb_law_3, hzl, h']) 1000 0 ("never" : Str) (by rw [List.length_map]; omega) (by decide)
    rw [List.drop_zero, List.foldl_map] at h
    rw [sForO_ap]
    exact h
  obtain ⟨RR, hRR⟩ : ∃ RR, RR = r1.foldl stepR ("never" : Str) := ⟨_, rfl⟩
  have e0 : fb_law [some S, none, none, none, none, none, none, none, none, none, none, none, none, none, none, none] = some (.rt (.bl true)) := by
    unfold fb_law
    refine (sSeq_nx s1).trans ?_
    refine (sSeq_nx s2).trans ?_
    refine (sSeq_nx s3).trans ?_
    refine (sSeq_nx s4).trans ?_
    refine (sSeq_nx s5).trans ?_
    refine (sSeq_nx s6).trans ?_
    refine (sSeq_nx s7).trans ?_
    refine (sSeq_nx s8).trans ?_
    refine (sSeq_nx s9).trans ?_
    refine (sSeq_nx s10).trans ?_
    refine (sSeq_nx (e := [some S, some (recP R), some (.lst ((Z.map txt).map .str)), some (.lst (us.map .str)), some (.lst (st.map .str)), none, none, none, some (.lst ((r1.map txt).map .str)), some (.int (1 + cell ns 7 % 256)), some (.lst ((r2.map txt).map .str)), some (.obj 0 (tongueF (cutOf r1))), some (.obj 0 (tongueF (cutOf r2))), some (.str "never"), none, none]) (by simp)).trans ?_
    refine (sSeq_nx s12).trans ?_
    refine (sSeq_nx (e := [some S, some (recP R), some (.lst ((Z.map txt).map .str)), some (.lst (us.map .str)), some (.lst (st.map .str)), none, none, none, some (.lst []), some (.int (1 + cell ns 7 % 256)), some (.lst ((r2.map txt).map .str)), some (.obj 0 (tongueF (cutOf r1))), some (.obj 0 (tongueF (cutOf r2))), some (.str (r1.foldl stepR ("never" : Str))), none, none]) (by simp)).trans ?_
    refine (sSeq_nx (e := [some S, some (recP R), some (.lst ((Z.map txt).map .str)), some (.lst (us.map .str)), some (.lst (st.map .str)), none, none, none, some (.lst []), some (.int (1 + cell ns 7 % 256)), some (.lst []), some (.obj 0 (tongueF (cutOf r1))), some (.obj 0 (tongueF (cutOf r2))), some (.str (r1.foldl stepR ("never" : Str))), none, none]) (by simp)).trans ?_
    refine (sSeq_nx (e := [some S, some (recP R), some (.lst ((Z.map txt).map .str)), some (.lst (us.map .str)), some (.lst (st.map .str)), none, none, none, some (.lst []), some (.int (1 + cell ns 7 % 256)), some (.lst []), some (.obj 0 (tongueF (cutOf r1))), some (.obj 0 (tongueF (cutOf r2))), some (.str (r1.foldl stepR ("never" : Str))), none, some (.lst ((TLD R lk).map fv))]) (by simp [t1])).trans ?_
    refine (sSeq_nx (e := [some S, some (recP R), some (.lst ((Z.map txt).map .str)), some (.lst (us.map .str)), some (.lst (st.map .str)), none, none, none, some (.lst []), some (.int (1 + cell ns 7 % 256)), some (.lst []), some (.obj 0 (tongueF (cutOf r1))), some (.obj 0 (tongueF (cutOf r2))), some (.str (r1.foldl stepR ("never" : Str))), none, some (.lst ((TLD R lk).map fv))]) (by simp [t1, t2, heq])).trans ?_
    simp [no_run, q1, q2]
  subst hS0
  unfold mi_law
  simp [e0]
end My
namespace My
open PySem L2 MR
def top (i : Nat) : Stmt := PySem.Challenge.pw_lilt_k06_whole_order_of_rows.main.body.getD i (.Pass ⟨0, 0, 0, 0⟩)
abbrev s__law_cell_at : Stmt := top 21
abbrev s__law_letter : Stmt := top 22
abbrev s__law_mix : Stmt := top 23
abbrev s__law_cluster : Stmt := top 24
abbrev s__law_record : Stmt := top 25
abbrev s__law_rows : Stmt := top 26
abbrev s__law_with_runs : Stmt := top 29
abbrev s__law_dealt : Stmt := top 28
abbrev s_told_behind : Stmt := top 16
abbrev s_last_run : Stmt := top 17
abbrev s_told_alike : Stmt := top 18
abbrev s_is_letter : Stmt := top 8
abbrev s_is_carry_row : Stmt := top 9
abbrev s_is_pair_of : Stmt := top 10
abbrev s_is_one_row : Stmt := top 11
abbrev s_is_stop : Stmt := top 12
abbrev s_are_alike_units : Stmt := top 14
abbrev s_is_cluster : Stmt := top 13
abbrev s_is_rule : Stmt := top 15
abbrev s_Tongue____init__ : Stmt := inClass (top 19) 0
abbrev s_Tongue__carries : Stmt := inClass (top 19) 1
abbrev s_Tongue__weight : Stmt := inClass (top 19) 5
abbrev s_Tongue__is_pair : Stmt := inClass (top 19) 2
abbrev s_Tongue__alike : Stmt := inClass (top 19) 7
abbrev s_Tongue__begins : Stmt := inClass (top 19) 3
abbrev s_Tongue__splits : Stmt := inClass (top 19) 4
abbrev s__law_told : Stmt := top 27
abbrev s_Tongue__run : Stmt := inClass (top 19) 6
abbrev s_law : Stmt := top 30
theorem sc__law_cell_at : FnScope ["_law_script", "_law_k"] ["_law_script", "_law_k"] (defScope s__law_cell_at) := ⟨rfl, rfl, rfl, by decide +kernel, rfl, by decide +kernel, by decide +kernel⟩
theorem sc__law_letter : FnScope ["_law_cell", "_law_k", "_law_step"] ["_law_cell", "_law_k"] (defScope s__law_letter) := ⟨rfl, rfl, rfl, by decide +kernel, rfl, by decide +kernel, by decide +kernel⟩
theorem sc__law_mix : FnScope ["_law_cell", "_law_k"] ["_law_cell", "_law_k"] (defScope s__law_mix) := ⟨rfl, rfl, rfl, by decide +kernel, rfl, by decide +kernel, by decide +kernel⟩
theorem sc__law_cluster : FnScope ["_law_base", "_law_many", "_law_number", "_law_found", "_law_k"] ["_law_base", "_law_many", "_law_number"] (defScope s__law_cluster) := ⟨rfl, rfl, rfl, by decide +kernel, rfl, by decide +kernel, by decide +kernel⟩
theorem sc__law_record : FnScope ["_law_script", "_law_at", "_law_cells", "_law_base", "_law_many", "_law_carriers", "_law_pairs", "_law_k", "_law_number", "_law_weights", "_law_some", "_law_longs", "_law_eithers", "_law_begins", "_law_splits", "_law_run"] ["_law_script", "_law_at"] (defScope s__law_record) := ⟨rfl, rfl, rfl, by decide +kernel, rfl, by decide +kernel, by decide +kernel⟩
theorem sc__law_rows : FnScope ["_law_record_here", "_law_cell", "_law_rows_here", "_law_k", "_law_word", "_law_some", "_law_middle"] ["_law_record_here", "_law_cell"] (defScope s__law_rows) := ⟨rfl, rfl, rfl, by decide +kernel, rfl, by decide +kernel, by decide +kernel⟩
theorem sc__law_with_runs : FnScope ["_law_rows_here", "_law_cells", "_law_found", "_law_cell"] ["_law_rows_here", "_law_cells"] (defScope s__law_with_runs) := ⟨rfl, rfl, rfl, by decide +kernel, rfl, by decide +kernel, by decide +kernel⟩
theorem sc__law_dealt : FnScope ["_law_rows_here", "_law_step", "_law_twice", "_law_places", "_law_found"] ["_law_rows_here", "_law_step", "_law_twice"] (defScope s__law_dealt) := ⟨rfl, rfl, rfl, by decide +kernel, rfl, by decide +kernel, by decide +kernel⟩
theorem sc_told_behind : FnScope ["kind", "rows", "told", "row", "word"] ["kind", "rows"] (defScope s_told_behind) := ⟨rfl, rfl, rfl, by decide +kernel, rfl, by decide +kernel, by decide +kernel⟩
theorem sc_last_run : FnScope ["rows", "told", "row"] ["rows"] (defScope s_last_run) := ⟨rfl, rfl, rfl, by decide +kernel, rfl, by decide +kernel, by decide +kernel⟩
theorem sc_told_alike : FnScope ["rows", "told", "row"] ["rows"] (defScope s_told_alike) := ⟨rfl, rfl, rfl, by decide +kernel, rfl, by decide +kernel, by decide +kernel⟩
theorem sc_is_letter : FnScope ["text"] ["text"] (defScope s_is_letter) := ⟨rfl, rfl, rfl, by decide +kernel, rfl, by decide +kernel, by decide +kernel⟩
theorem sc_is_carry_row : FnScope ["row"] ["row"] (defScope s_is_carry_row) := ⟨rfl, rfl, rfl, by decide +kernel, rfl, by decide +kernel, by decide +kernel⟩
theorem sc_is_pair_of : FnScope ["carrying", "word"] ["carrying", "word"] (defScope s_is_pair_of) := ⟨rfl, rfl, rfl, by decide +kernel, rfl, by decide +kernel, by decide +kernel⟩
theorem sc_is_one_row : FnScope ["carrying", "row"] ["carrying", "row"] (defScope s_is_one_row) := ⟨rfl, rfl, rfl, by decide +kernel, rfl, by decide +kernel, by decide +kernel⟩
theorem sc_is_stop : FnScope ["carrying", "text"] ["carrying", "text"] (defScope s_is_stop) := ⟨rfl, rfl, rfl, by decide +kernel, rfl, by decide +kernel, by decide +kernel⟩
theorem sc_are_alike_units : FnScope ["carrying", "carriers", "words"] ["carrying", "carriers", "words"] (defScope s_are_alike_units) := ⟨rfl, rfl, rfl, by decide +kernel, rfl, by decide +kernel, by decide +kernel⟩
theorem sc_is_cluster : FnScope ["carrying", "word"] ["carrying", "word"] (defScope s_is_cluster) := ⟨rfl, rfl, rfl, by decide +kernel, rfl, by decide +kernel, by decide +kernel⟩
theorem sc_is_rule : FnScope ["carrying", "pairs", "row", "kind", "words", "carriers"] ["carrying", "pairs", "row"] (defScope s_is_rule) := ⟨rfl, rfl, rfl, by decide +kernel, rfl, by decide +kernel, by decide +kernel⟩
theorem sc_Tongue____init__ : FnScope ["self", "rows", "cut", "at", "row"] ["self", "rows"] (defScope s_Tongue____init__) := ⟨rfl, rfl, rfl, by decide +kernel, rfl, by decide +kernel, by decide +kernel⟩
theorem sc_Tongue__carries : FnScope ["self", "letter"] ["self", "letter"] (defScope s_Tongue__carries) := ⟨rfl, rfl, rfl, by decide +kernel, rfl, by decide +kernel, by decide +kernel⟩
theorem sc_Tongue__weight : FnScope ["self", "carrier"] ["self", "carrier"] (defScope s_Tongue__weight) := ⟨rfl, rfl, rfl, by decide +kernel, rfl, by decide +kernel, by decide +kernel⟩
theorem sc_Tongue__is_pair : FnScope ["self", "pair"] ["self", "pair"] (defScope s_Tongue__is_pair) := ⟨rfl, rfl, rfl, by decide +kernel, rfl, by decide +kernel, by decide +kernel⟩
theorem sc_Tongue__alike : FnScope ["self", "one", "other"] ["self", "one", "other"] (defScope s_Tongue__alike) := ⟨rfl, rfl, rfl, by decide +kernel, rfl, by decide +kernel, by decide +kernel⟩
theorem sc_Tongue__begins : FnScope ["self", "cluster"] ["self", "cluster"] (defScope s_Tongue__begins) := ⟨rfl, rfl, rfl, by decide +kernel, rfl, by decide +kernel, by decide +kernel⟩
theorem sc_Tongue__splits : FnScope ["self", "cluster"] ["self", "cluster"] (defScope s_Tongue__splits) := ⟨rfl, rfl, rfl, by decide +kernel, rfl, by decide +kernel, by decide +kernel⟩
theorem sc__law_told : FnScope ["_law_tongue", "_law_record_here", "_law_letters", "_law_found", "_law_one", "_law_units", "_law_cluster_here"] ["_law_tongue", "_law_record_here"] (defScope s__law_told) := ⟨rfl, rfl, rfl, by decide +kernel, rfl, by decide +kernel, by decide +kernel⟩
theorem sc_Tongue__run : FnScope ["self"] ["self"] (defScope s_Tongue__run) := ⟨rfl, rfl, rfl, by decide +kernel, rfl, by decide +kernel, by decide +kernel⟩
theorem sc_law : FnScope ["_law_script", "_law_record_here", "_law_rows_here", "_law_units", "_law_stops", "_law_cell", "_law_some", "_law_pair", "_law_first", "_law_step", "_law_second", "_law_one", "_law_other", "_law_run", "_law_row", "_law_told_here"] ["_law_script"] (defScope s_law) := ⟨rfl, rfl, rfl, by decide +kernel, rfl, by decide +kernel, by decide +kernel⟩
structure Adr where
  a0 : Nat := 0
  t_LEAST_STOPS : Tok
  t_LETTERS : Tok
  t_MOST_STOPS : Tok
  a_RUNS : Addr
section
variable {P : Program} {w : World} {K : PySem.W.Frag} {mg : Str → Option Value} {base : Heap} {cl : Nat → Addr} {A : Adr}
structure Tx__law_cell_at (P : Program) (w : World) (K : PySem.W.Frag) (mg : Str → Option Value) (base : Heap) (cl : Nat → Addr) (A : Adr) : Prop where
  z_len : mg "len" = none
theorem ok__law_cell_at {f : Addr} {fd : FuncData} (F : Fun K "_law_cell_at" "_law_cell_at" s__law_cell_at f fd) (T : Tx__law_cell_at P w K mg base cl A) : FnOk P w K mg base CX0 1 f fd ["_law_script", "_law_k"] (spM ⟨K, cl⟩ mi__law_cell_at false) := by
  refine F.ok sc__law_cell_at (fun vs H Q E h => spM_len h) (fun cdv A' outer s H vs Q E hr h => body_ok (G := []) (G' := []) (L := []) (N := ["_law_script", "_law_k"]) rfl (by decide) (by decide) (fun B H' => ?_) h)
  exact (ss_cons (s_if (st_cmp (sc_lt (se_v 1) (se_len T.z_len (se_v 0)))) (ss_one (s_ret (se_ix hr (se_v 0) (se_v 1)))) ss_nil) (ss_one (s_ret se_int)))
structure Tx__law_letter (P : Program) (w : World) (K : PySem.W.Frag) (mg : Str → Option Value) (base : Heap) (cl : Nat → Addr) (A : Adr) : Prop where
  ok : True
theorem ok__law_letter {f : Addr} {fd : FuncData} (F : Fun K "_law_letter" "_law_letter" s__law_letter f fd) (T : Tx__law_letter P w K mg base cl A) : FnOk P w K mg base CX0 1 f fd ["_law_cell", "_law_k"] (spM ⟨K, cl⟩ mi__law_letter false) := by
  refine F.ok sc__law_letter (fun vs H Q E h => spM_len h) (fun cdv A' outer s H vs Q E hr h => body_ok (G := []) (G' := []) (L := []) (N := ["_law_cell", "_law_k", "_law_step"]) rfl (by decide) (by decide) (fun B H' => ?_) h)
  exact (ss_cons (s_set 2 sc__law_letter.nd (se_ix hr (se_lst (sa_cons se_int (sa_cons se_int (sa_cons se_int (sa_cons se_int (sa_cons se_int (sa_cons se_int (sa_cons se_int (sa_cons se_int sa_nil))))))))) (se_mod (se_div (se_v 0) se_int) se_int))) (ss_one (s_ret (se_ix hr se_str (se_mod (se_add (se_v 0) (se_mul (se_v 1) (se_v 2))) se_int)))))
structure Tx__law_mix (P : Program) (w : World) (K : PySem.W.Frag) (mg : Str → Option Value) (base : Heap) (cl : Nat → Addr) (A : Adr) : Prop where
  ok : True
theorem ok__law_mix {f : Addr} {fd : FuncData} (F : Fun K "_law_mix" "_law_mix" s__law_mix f fd) (T : Tx__law_mix P w K mg base cl A) : FnOk P w K mg base CX0 1 f fd ["_law_cell", "_law_k"] (spM ⟨K, cl⟩ mi__law_mix false) := by
  refine F.ok sc__law_mix (fun vs H Q E h => spM_len h) (fun cdv A' outer s H vs Q E hr h => body_ok (G := []) (G' := []) (L := []) (N := ["_law_cell", "_law_k"]) rfl (by decide) (by decide) (fun B H' => ?_) h)
  exact (ss_one (s_ret (se_mod (se_add (se_mul (se_mod (se_v 0) se_int) (se_add se_int (se_mul (se_mul se_int (se_v 1)) (se_v 1)))) (se_mul se_int (se_v 1))) se_int)))
structure Tx__law_cluster (P : Program) (w : World) (K : PySem.W.Frag) (mg : Str → Option Value) (base : Heap) (cl : Nat → Addr) (A : Adr) : Prop where
  z_range : mg "range" = none
  c__law_letter : Cal P w K mg base 1 "_law_letter" ["_law_cell", "_law_k"] (spM ⟨K, cl⟩ mi__law_letter false)
theorem ok__law_cluster {f : Addr} {fd : FuncData} (F : Fun K "_law_cluster" "_law_cluster" s__law_cluster f fd) (T : Tx__law_cluster P w K mg base cl A) : FnOk P w K mg base CX0 2 f fd ["_law_base", "_law_many", "_law_number"] (spM ⟨K, cl⟩ mi__law_cluster false) := by
  refine F.ok sc__law_cluster (fun vs H Q E h => spM_len h) (fun cdv A' outer s H vs Q E hr h => body_ok (G := []) (G' := []) (L := []) (N := ["_law_base", "_law_many", "_law_number", "_law_found", "_law_k"]) rfl (by decide) (by decide) (fun B H' => ?_) h)
  exact (ss_cons (s_set 3 sc__law_cluster.nd se_str) (ss_cons (s_for [4] (si_r1 T.z_range (se_add se_int (se_mod (se_v 2) se_int))) (sg_n 4 sc__law_cluster.nd) (ss_one (s_set 3 sc__law_cluster.nd (se_add (se_v 3) (se_callV T.c__law_letter hr (sa_cons (se_v 0) (sa_cons (se_add (se_v 1) (se_mod (se_div (se_v 2) (se_ix hr (se_lst (sa_cons se_int (sa_cons se_int (sa_cons se_int (sa_cons se_int sa_nil))))) (se_v 4))) (se_ix hr (se_lst (sa_cons se_int (sa_cons se_int sa_nil))) (se_mod (se_div (se_v 2) se_int) se_int)))) sa_nil)))))) PassesOwn.never) (ss_one (s_ret (se_v 3)))))
structure Tx__law_record (P : Program) (w : World) (K : PySem.W.Frag) (mg : Str → Option Value) (base : Heap) (cl : Nat → Addr) (A : Adr) : Prop where
  z_len : mg "len" = none
  z_range : mg "range" = none
  c__law_cell_at : Cal P w K mg base 1 "_law_cell_at" ["_law_script", "_law_k"] (spM ⟨K, cl⟩ mi__law_cell_at false)
  c__law_cluster : Cal P w K mg base 2 "_law_cluster" ["_law_base", "_law_many", "_law_number"] (spM ⟨K, cl⟩ mi__law_cluster false)
  c__law_letter : Cal P w K mg base 1 "_law_letter" ["_law_cell", "_law_k"] (spM ⟨K, cl⟩ mi__law_letter false)
  c__law_mix : Cal P w K mg base 1 "_law_mix" ["_law_cell", "_law_k"] (spM ⟨K, cl⟩ mi__law_mix false)
theorem ok__law_record {f : Addr} {fd : FuncData} (F : Fun K "_law_record" "_law_record" s__law_record f fd) (T : Tx__law_record P w K mg base cl A) : FnOk P w K mg base CX0 3 f fd ["_law_script", "_law_at"] (spM ⟨K, cl⟩ mi__law_record false) := by
  refine F.ok sc__law_record (fun vs H Q E h => spM_len h) (fun cdv A' outer s H vs Q E hr h => body_ok (G := [6]) (G' := []) (L := []) (N := ["_law_script", "_law_at", "_law_cells", "_law_base", "_law_many", "_law_carriers", "_law_pairs", "_law_k", "_law_number", "_law_weights", "_law_some", "_law_longs", "_law_eithers", "_law_begins", "_law_splits", "_law_run"]) rfl (by decide) (by decide) (fun B H' => ?_) h)
  exact (ss_cons (s_set 2 sc__law_record.nd (SE.val (se_comp (osc := (defScope s__law_record)) (ON := ["_law_script", "_law_at", "_law_cells", "_law_base", "_law_many", "_law_carriers", "_law_pairs", "_law_k", "_law_number", "_law_weights", "_law_some", "_law_longs", "_law_eithers", "_law_begins", "_law_splits", "_law_run"]) (N := ["_law_k", "_law_script", "_law_at"]) (cap := [none, some 0, some 1]) ⟨rfl, by decide +kernel, by decide +kernel, by decide +kernel, by decide +kernel⟩ (tg_n 0) (si_r1 T.z_range se_int) (fun _ _ _ _ => pg_name (i := 0) (show (["_law_k", "_law_script", "_law_at"] : List Str).Nodup by decide +kernel) rfl (Or.inl rfl)) (fun _ _ _ _ => sifs_nil) (fun _ _ _ _ => (se_callV T.c__law_cell_at hr (sa_cons (se_v 1) (sa_cons (se_add (se_v 2) (se_v 0)) sa_nil))))))) (ss_cons (s_set 3 sc__law_record.nd (se_ix hr (se_v 2) se_int)) (ss_cons (s_set 4 sc__law_record.nd (se_add se_int (se_mod (se_ix hr (se_v 2) se_int) se_int))) (ss_cons (s_setC 5 sc__law_record.nd (osc := (defScope s__law_record)) (ON := ["_law_script", "_law_at", "_law_cells", "_law_base", "_law_many", "_law_carriers", "_law_pairs", "_law_k", "_law_number", "_law_weights", "_law_some", "_law_longs", "_law_eithers", "_law_begins", "_law_splits", "_law_run"]) (N := ["_law_k", "_law_base"]) (cap := [none, some 3]) ⟨rfl, by decide +kernel, by decide +kernel, by decide +kernel, by decide +kernel⟩ (tg_n 0) (si_r1 T.z_range (se_v 4)) (fun _ _ _ _ => pg_name (i := 0) (show (["_law_k", "_law_base"] : List Str).Nodup by decide +kernel) rfl (Or.inl rfl)) (fun _ _ _ _ => sifs_nil) (fun _ _ _ _ => (se_callV T.c__law_letter hr (sa_cons (se_v 1) (sa_cons (se_v 0) sa_nil))))) (ss_cons (s_setO 6 sc__law_record.nd (se_lst sa_nil)) (ss_cons (s_for [7, 8] (si_r1 T.z_range (se_mod (se_div (se_ix hr (se_v 2) se_int) se_int) se_int)) (sg_n 7 sc__law_record.nd) (ss_cons (s_set 8 sc__law_record.nd (se_callV T.c__law_mix hr (sa_cons (se_ix hr (se_v 2) se_int) (sa_cons (se_v 7) sa_nil)))) (ss_one (s_app 6 (se_add (se_ix hr (se_v 5) (se_mod (se_v 8) (se_v 4))) (se_ix hr (se_v 5) (se_mod (se_div (se_v 8) se_int) (se_v 4))))))) PassesOwn.never) (ss_cons (s_set 9 sc__law_record.nd (SE.val (se_comp (osc := (defScope s__law_record)) (ON := ["_law_script", "_law_at", "_law_cells", "_law_base", "_law_many", "_law_carriers", "_law_pairs", "_law_k", "_law_number", "_law_weights", "_law_some", "_law_longs", "_law_eithers", "_law_begins", "_law_splits", "_law_run"]) (N := ["_law_k", "_law_cells"]) (cap := [none, some 2]) ⟨rfl, by decide +kernel, by decide +kernel, by decide +kernel, by decide +kernel⟩ (tg_n 0) (si_r1 T.z_range (se_add (se_v 4) (se_len T.z_len (se_b 6)))) (fun _ _ _ _ => pg_name (i := 0) (show (["_law_k", "_law_cells"] : List Str).Nodup by decide +kernel) rfl (Or.inl rfl)) (fun _ _ _ _ => sifs_nil) (fun _ _ _ _ => (se_mod (se_callV T.c__law_mix hr (sa_cons (se_ix hr (se_v 1) se_int) (sa_cons (se_v 0) sa_nil))) se_int))))) (ss_cons (s_set 10 sc__law_record.nd (se_add (se_v 5) (se_b 6))) (ss_cons (s_setC 11 sc__law_record.nd (osc := (defScope s__law_record)) (ON := ["_law_script", "_law_at", "_law_cells", "_law_base", "_law_many", "_law_carriers", "_law_pairs", "_law_k", "_law_number", "_law_weights", "_law_some", "_law_longs", "_law_eithers", "_law_begins", "_law_splits", "_law_run"]) (N := ["_law_k", "_law_some", "_law_weights"]) (cap := [none, some 10, some 9]) ⟨rfl, by decide +kernel, by decide +kernel, by decide +kernel, by decide +kernel⟩ (tg_n 0) (si_r1 T.z_range (se_len T.z_len (se_v 10))) (fun _ _ _ _ => pg_name (i := 0) (show (["_law_k", "_law_some", "_law_weights"] : List Str).Nodup by decide +kernel) rfl (Or.inl rfl)) (fun _ _ _ _ => pifs_one (st_cmp (sc_in hr (se_ix hr (se_v 2) (se_v 0)) (se_tup (sa_cons se_int (sa_cons se_int sa_nil)))))) (fun _ _ _ _ => (se_ix hr (se_v 1) (se_v 0)))) (ss_cons (s_setC 12 sc__law_record.nd (osc := (defScope s__law_record)) (ON := ["_law_script", "_law_at", "_law_cells", "_law_base", "_law_many", "_law_carriers", "_law_pairs", "_law_k", "_law_number", "_law_weights", "_law_some", "_law_longs", "_law_eithers", "_law_begins", "_law_splits", "_law_run"]) (N := ["_law_k", "_law_some", "_law_weights"]) (cap := [none, some 10, some 9]) ⟨rfl, by decide +kernel, by decide +kernel, by decide +kernel, by decide +kernel⟩ (tg_n 0) (si_r1 T.z_range (se_len T.z_len (se_v 10))) (fun _ _ _ _ => pg_name (i := 0) (show (["_law_k", "_law_some", "_law_weights"] : List Str).Nodup by decide +kernel) rfl (Or.inl rfl)) (fun _ _ _ _ => pifs_one (st_cmp (sc_gt (se_ix hr (se_v 2) (se_v 0)) se_int))) (fun _ _ _ _ => (se_ix hr (se_v 1) (se_v 0)))) (ss_cons (s_setC 13 sc__law_record.nd (osc := (defScope s__law_record)) (ON := ["_law_script", "_law_at", "_law_cells", "_law_base", "_law_many", "_law_carriers", "_law_pairs", "_law_k", "_law_number", "_law_weights", "_law_some", "_law_longs", "_law_eithers", "_law_begins", "_law_splits", "_law_run"]) (N := ["_law_k", "_law_base", "_law_many", "_law_cells"]) (cap := [none, some 3, some 4, some 2]) ⟨rfl, by decide +kernel, by decide +kernel, by decide +kernel, by decide +kernel⟩ (tg_n 0) (si_r1 T.z_range (se_mod (se_div (se_ix hr (se_v 2) se_int) se_int) se_int)) (fun _ _ _ _ => pg_name (i := 0) (show (["_law_k", "_law_base", "_law_many", "_law_cells"] : List Str).Nodup by decide +kernel) rfl (Or.inl rfl)) (fun _ _ _ _ => sifs_nil) (fun _ _ _ _ => (se_callV T.c__law_cluster hr (sa_cons (se_v 1) (sa_cons (se_v 2) (sa_cons (se_callV T.c__law_mix hr (sa_cons (se_ix hr (se_v 3) se_int) (sa_cons (se_v 0) sa_nil))) sa_nil)))))) (ss_cons (s_setC 14 sc__law_record.nd (osc := (defScope s__law_record)) (ON := ["_law_script", "_law_at", "_law_cells", "_law_base", "_law_many", "_law_carriers", "_law_pairs", "_law_k", "_law_number", "_law_weights", "_law_some", "_law_longs", "_law_eithers", "_law_begins", "_law_splits", "_law_run"]) (N := ["_law_k", "_law_base", "_law_many", "_law_cells"]) (cap := [none, some 3, some 4, some 2]) ⟨rfl, by decide +kernel, by decide +kernel, by decide +kernel, by decide +kernel⟩ (tg_n 0) (si_r1 T.z_range (se_mod (se_div (se_ix hr (se_v 2) se_int) se_int) se_int)) (fun _ _ _ _ => pg_name (i := 0) (show (["_law_k", "_law_base", "_law_many", "_law_cells"] : List Str).Nodup by decide +kernel) rfl (Or.inl rfl)) (fun _ _ _ _ => sifs_nil) (fun _ _ _ _ => (se_callV T.c__law_cluster hr (sa_cons (se_v 1) (sa_cons (se_v 2) (sa_cons (se_callV T.c__law_mix hr (sa_cons (se_ix hr (se_v 3) se_int) (sa_cons (se_v 0) sa_nil))) sa_nil)))))) (ss_cons (s_set 15 sc__law_record.nd (se_ix hr (se_lst (sa_cons se_str (sa_cons se_str (sa_cons se_str (sa_cons se_str sa_nil))))) (se_mod (se_div (se_ix hr (se_v 2) se_int) se_int) se_int))) (ss_frz (G1 := []) (ss_one (s_ret (se_tup (sa_cons (se_v 5) (sa_cons (se_v 6) (sa_cons (se_v 11) (sa_cons (se_v 12) (sa_cons (se_v 13) (sa_cons (se_v 14) (sa_cons (se_v 15) (sa_cons (se_v 3) sa_nil)))))))))))))))))))))))))
structure Tx__law_rows (P : Program) (w : World) (K : PySem.W.Frag) (mg : Str → Option Value) (base : Heap) (cl : Nat → Addr) (A : Adr) : Prop where
  z_enumerate : mg "enumerate" = none
  z_len : mg "len" = none
theorem ok__law_rows {f : Addr} {fd : FuncData} (F : Fun K "_law_rows" "_law_rows" s__law_rows f fd) (T : Tx__law_rows P w K mg base cl A) : FnOk P w K mg base CX0 1 f fd ["_law_record_here", "_law_cell"] (spM ⟨K, cl⟩ mi__law_rows true) := by
  refine F.ok sc__law_rows (fun vs H Q E h => spM_len h) (fun cdv A' outer s H vs Q E hr h => body_ok (G := [2]) (G' := [2]) (L := []) (N := ["_law_record_here", "_law_cell", "_law_rows_here", "_law_k", "_law_word", "_law_some", "_law_middle"]) rfl (by decide) (by decide) (fun B H' => ?_) h)
  exact (ss_cons (s_setO 2 sc__law_rows.nd (se_lst sa_nil)) (ss_cons (s_for [3, 4, 5] (si_enum T.z_enumerate (se_lst (sa_cons se_str (sa_cons se_str (sa_cons se_str (sa_cons se_str (sa_cons se_str (sa_cons se_str sa_nil))))))) (fun _ => by intro z; cases z)) (sg_t (sgs_cons 3 sc__law_rows.nd (sgs_cons 4 sc__law_rows.nd sgs_nil))) (ss_cons (s_set 5 sc__law_rows.nd (se_ix hr (se_v 0) (se_v 3))) (ss_one (s_if (st_cmp (sc_eq hr (se_mod (se_div (se_v 1) (se_ix hr (se_lst (sa_cons se_int (sa_cons se_int (sa_cons se_int (sa_cons se_int (sa_cons se_int (sa_cons se_int sa_nil))))))) (se_v 3))) se_int) se_int)) (ss_one (s_setO 2 sc__law_rows.nd (se_cat (se_b 2) (se_comp (osc := (defScope s__law_rows)) (ON := ["_law_record_here", "_law_cell", "_law_rows_here", "_law_k", "_law_word", "_law_some", "_law_middle"]) (N := ["_law_one", "_law_word"]) (cap := [none, some 4]) ⟨rfl, by decide +kernel, by decide +kernel, by decide +kernel, by decide +kernel⟩ (tg_n 0) (si_v (se_v 5) (fun z => by cases z)) (fun _ _ _ _ => pg_name (i := 0) (show (["_law_one", "_law_word"] : List Str).Nodup by decide +kernel) rfl (Or.inl rfl)) (fun _ _ _ _ => sifs_nil) (fun _ _ _ _ => (se_add (se_add (se_v 1) se_str) (se_v 0))))))) (ss_one (s_if (st_cmp (sc_ne hr (se_v 5) (se_lst sa_nil))) (ss_one (s_app 2 (se_add (se_add (se_v 4) se_str) (se_join se_str (se_v 5))))) ss_nil))))) PassesOwn.never) (ss_cons (s_if (st_cmp (sc_ne hr (se_ix hr (se_v 0) se_int) se_str)) (ss_one (s_app 2 (se_add se_str (se_ix hr (se_v 0) se_int)))) ss_nil) (ss_cons (s_set 6 sc__law_rows.nd (se_mod (se_div (se_v 1) se_int) (se_add (se_len T.z_len (se_b 2)) se_int))) (ss_one (s_retO (se_cat (se_sl (se_b 2) (so_some (se_v 6)) so_none) (se_sl (se_b 2) so_none (so_some (se_v 6))))))))))
structure Tx__law_with_runs (P : Program) (w : World) (K : PySem.W.Frag) (mg : Str → Option Value) (base : Heap) (cl : Nat → Addr) (A : Adr) : Prop where
  z_len : mg "len" = none
  z_list : mg "list" = none
theorem ok__law_with_runs {f : Addr} {fd : FuncData} (F : Fun K "_law_with_runs" "_law_with_runs" s__law_with_runs f fd) (T : Tx__law_with_runs P w K mg base cl A) : FnOk P w K mg base CX0 1 f fd ["_law_rows_here", "_law_cells"] (spM ⟨K, cl⟩ mi__law_with_runs true) := by
  refine F.ok sc__law_with_runs (fun vs H Q E h => spM_len h) (fun cdv A' outer s H vs Q E hr h => body_ok (G := [2]) (G' := [2]) (L := []) (N := ["_law_rows_here", "_law_cells", "_law_found", "_law_cell"]) rfl (by decide) (by decide) (fun B H' => ?_) h)
  exact (ss_cons (s_setO 2 sc__law_with_runs.nd (se_list T.z_list (se_v 0))) (ss_cons (s_for [3] (si_v (se_v 1) (fun _ => by intro z; cases z)) (sg_n 3 sc__law_with_runs.nd) (ss_one (s_ins 2 (se_mod (se_div (se_v 3) se_int) (se_add (se_len T.z_len (se_b 2)) se_int)) (se_add se_str (se_ix hr (se_lst (sa_cons se_str (sa_cons se_str (sa_cons se_str sa_nil)))) (se_mod (se_v 3) se_int))))) PassesOwn.never) (ss_one (s_retV 2))))
structure Tx__law_dealt (P : Program) (w : World) (K : PySem.W.Frag) (mg : Str → Option Value) (base : Heap) (cl : Nat → Addr) (A : Adr) : Prop where
  z_len : mg "len" = none
  z_range : mg "range" = none
  z_sorted : mg "sorted" = none
  hcd : PySem.W.codeHdIn K 229 tabP = true
theorem ok__law_dealt {f : Addr} {fd : FuncData} (F : Fun K "_law_dealt" "_law_dealt" s__law_dealt f fd) (hcc : codeAt K f 229 = true) (T : Tx__law_dealt P w K mg base cl A) : FnOk P w K mg base CX0 1 f fd ["_law_rows_here", "_law_step", "_law_twice"] (spM ⟨K, cl⟩ mi__law_dealt true) := by
  refine F.okC hcc sc__law_dealt (fun vs H Q E h => spM_len h) (fun A' outer s H vs Q E hr h => body_ok (G := [4]) (G' := [4]) (L := []) (N := ["_law_rows_here", "_law_step", "_law_twice", "_law_places", "_law_found"]) rfl (by decide) (by decide) (fun B H' => ?_) h)
  exact (ss_cons (s_set 3 sc__law_dealt.nd (SE.val (se_sortK 1 hr T.hcd T.z_sorted T.z_range (se_len T.z_len (se_v 0))))) (ss_cons (s_setCO 4 sc__law_dealt.nd (osc := (defScope s__law_dealt)) (ON := ["_law_rows_here", "_law_step", "_law_twice", "_law_places", "_law_found"]) (N := ["_law_k", "_law_rows_here"]) (cap := [none, some 0]) ⟨rfl, by decide +kernel, by decide +kernel, by decide +kernel, by decide +kernel⟩ (tg_n 0) (si_v (se_v 3) (fun z => by cases z)) (fun _ _ _ _ => pg_name (i := 0) (show (["_law_k", "_law_rows_here"] : List Str).Nodup by decide +kernel) rfl (Or.inl rfl)) (fun _ _ _ _ => sifs_nil) (fun _ _ _ _ => (se_ix hr (se_v 1) (se_v 0)))) (ss_cons (s_if (st_val (se_v 2)) (ss_one (s_setO 4 sc__law_dealt.nd (se_slO (se_add (se_b 4) (se_ev (se_b 4))) so_none (so_some se_int)))) ss_nil) (ss_one (s_retV 4)))))
structure Tx_told_behind (P : Program) (w : World) (K : PySem.W.Frag) (mg : Str → Option Value) (base : Heap) (cl : Nat → Addr) (A : Adr) : Prop where
  ok : True
theorem ok_told_behind {f : Addr} {fd : FuncData} (F : Fun K "told_behind" "told_behind" s_told_behind f fd) (T : Tx_told_behind P w K mg base cl A) : FnOk P w K mg base CX0 1 f fd ["kind", "rows"] (spM ⟨K, cl⟩ mi_told_behind false) := by
  refine F.ok sc_told_behind (fun vs H Q E h => spM_len h) (fun cdv A' outer s H vs Q E hr h => body_ok (G := [2]) (G' := []) (L := []) (N := ["kind", "rows", "told", "row", "word"]) rfl (by decide) (by decide) (fun B H' => ?_) h)
  exact (ss_cons (s_setO 2 sc_told_behind.nd se_dK) (ss_cons (s_for [3, 4] (si_v (se_v 1) (fun _ => by intro z; cases z)) (sg_n 3 sc_told_behind.nd) (ss_one (s_if (st_cmp (sc_eq hr (se_ix hr (se_v 3) se_int) (se_v 0))) (ss_one (s_for [4] (si_v (se_sl (se_v 3) (so_some se_int) so_none) (fun _ => by intro z; cases z)) (sg_n 4 sc_told_behind.nd) (ss_one (s_put 2 hr (se_v 4) se_bl)) PassesOwn.never)) ss_nil)) PassesOwn.never) (ss_frz (G1 := []) (ss_one (s_ret (se_v 2))))))
structure Tx_last_run (P : Program) (w : World) (K : PySem.W.Frag) (mg : Str → Option Value) (base : Heap) (cl : Nat → Addr) (A : Adr) : Prop where
  ok : True
theorem ok_last_run {f : Addr} {fd : FuncData} (F : Fun K "last_run" "last_run" s_last_run f fd) (T : Tx_last_run P w K mg base cl A) : FnOk P w K mg base CX0 1 f fd ["rows"] (spM ⟨K, cl⟩ mi_last_run false) := by
  refine F.ok sc_last_run (fun vs H Q E h => spM_len h) (fun cdv A' outer s H vs Q E hr h => body_ok (G := []) (G' := []) (L := []) (N := ["rows", "told", "row"]) rfl (by decide) (by decide) (fun B H' => ?_) h)
  exact (ss_cons (s_set 1 sc_last_run.nd se_str) (ss_cons (s_for [2] (si_v (se_v 0) (fun _ => by intro z; cases z)) (sg_n 2 sc_last_run.nd) (ss_one (s_if (st_cmp (sc_eq hr (se_ix hr (se_v 2) se_int) se_str)) (ss_one (s_set 1 sc_last_run.nd (se_ix hr (se_v 2) se_int))) ss_nil)) PassesOwn.never) (ss_one (s_ret (se_v 1)))))
structure Tx_told_alike (P : Program) (w : World) (K : PySem.W.Frag) (mg : Str → Option Value) (base : Heap) (cl : Nat → Addr) (A : Adr) : Prop where
  ok : True
theorem ok_told_alike {f : Addr} {fd : FuncData} (F : Fun K "told_alike" "told_alike" s_told_alike f fd) (T : Tx_told_alike P w K mg base cl A) : FnOk P w K mg base CX0 1 f fd ["rows"] (spM ⟨K, cl⟩ mi_told_alike false) := by
  refine F.ok sc_told_alike (fun vs H Q E h => spM_len h) (fun cdv A' outer s H vs Q E hr h => body_ok (G := [1]) (G' := []) (L := []) (N := ["rows", "told", "row"]) rfl (by decide) (by decide) (fun B H' => ?_) h)
  exact (ss_cons (s_setO 1 sc_told_alike.nd se_dT) (ss_cons (s_for [2] (si_v (se_v 0) (fun _ => by intro z; cases z)) (sg_n 2 sc_told_alike.nd) (ss_one (s_if (st_cmp (sc_eq hr (se_ix hr (se_v 2) se_int) se_str)) (ss_one (s_put 1 hr (se_tup (sa_cons (se_ix hr (se_v 2) se_int) (sa_cons (se_ix hr (se_v 2) se_int) sa_nil))) se_bl)) ss_nil)) PassesOwn.never) (ss_frz (G1 := []) (ss_one (s_ret (se_v 1))))))
structure Tx_is_letter (P : Program) (w : World) (K : PySem.W.Frag) (mg : Str → Option Value) (base : Heap) (cl : Nat → Addr) (A : Adr) : Prop where
  z_len : mg "len" = none
  g_LETTERS : mg "LETTERS" = some (.str "abcdefghijklmnopqrstuvwxyz" A.t_LETTERS)
theorem ok_is_letter {f : Addr} {fd : FuncData} (F : Fun K "is_letter" "is_letter" s_is_letter f fd) (T : Tx_is_letter P w K mg base cl A) : FnOk P w K mg base CX0 1 f fd ["text"] (spM ⟨K, cl⟩ mi_is_letter false) := by
  refine F.ok sc_is_letter (fun vs H Q E h => spM_len h) (fun cdv A' outer s H vs Q E hr h => body_ok (G := []) (G' := []) (L := []) (N := ["text"]) rfl (by decide) (by decide) (fun B H' => ?_) h)
  exact (ss_one (s_ret (se_and (se_cmp (sc_eq hr (se_len T.z_len (se_v 0)) se_int)) (se_one (se_cmp (sc_in hr (se_v 0) (se_gS T.g_LETTERS)))))))
structure Tx_is_carry_row (P : Program) (w : World) (K : PySem.W.Frag) (mg : Str → Option Value) (base : Heap) (cl : Nat → Addr) (A : Adr) : Prop where
  z_all : mg "all" = none
  z_len : mg "len" = none
  c_is_letter : Cal P w K mg base 1 "is_letter" ["text"] (spM ⟨K, cl⟩ mi_is_letter false)
theorem ok_is_carry_row {f : Addr} {fd : FuncData} (F : Fun K "is_carry_row" "is_carry_row" s_is_carry_row f fd) (T : Tx_is_carry_row P w K mg base cl A) : FnOk P w K mg base CX0 2 f fd ["row"] (spM ⟨K, cl⟩ mi_is_carry_row false) := by
  refine F.ok sc_is_carry_row (fun vs H Q E h => spM_len h) (fun cdv A' outer s H vs Q E hr h => body_ok (G := []) (G' := []) (L := []) (N := ["row"]) rfl (by decide) (by decide) (fun B H' => ?_) h)
  exact (ss_one (s_ret (se_and (se_cmp (sc_eq hr (se_ix hr (se_v 0) se_int) se_str)) (se_and (se_cmp (sc_gt (se_len T.z_len (se_v 0)) se_int)) (se_one (se_all T.z_all (se_comp (osc := (defScope s_is_carry_row)) (ON := ["row"]) (N := ["word"]) (cap := [none]) ⟨rfl, by decide +kernel, by decide +kernel, by decide +kernel, by decide +kernel⟩ (tg_n 0) (si_v (se_sl (se_v 0) (so_some se_int) so_none) (fun z => by cases z)) (fun _ _ _ _ => pg_name (i := 0) (show (["word"] : List Str).Nodup by decide +kernel) rfl (Or.inl rfl)) (fun _ _ _ _ => sifs_nil) (fun _ _ _ _ => (se_callV T.c_is_letter hr (sa_cons (se_v 0) sa_nil))))))))))
structure Tx_is_pair_of (P : Program) (w : World) (K : PySem.W.Frag) (mg : Str → Option Value) (base : Heap) (cl : Nat → Addr) (A : Adr) : Prop where
  z_len : mg "len" = none
theorem ok_is_pair_of {f : Addr} {fd : FuncData} (F : Fun K "is_pair_of" "is_pair_of" s_is_pair_of f fd) (T : Tx_is_pair_of P w K mg base cl A) : FnOk P w K mg base CX0 1 f fd ["carrying", "word"] (spM ⟨K, cl⟩ mi_is_pair_of false) := by
  refine F.ok sc_is_pair_of (fun vs H Q E h => spM_len h) (fun cdv A' outer s H vs Q E hr h => body_ok (G := []) (G' := []) (L := []) (N := ["carrying", "word"]) rfl (by decide) (by decide) (fun B H' => ?_) h)
  exact (ss_one (s_ret (se_and (se_cmp (sc_eq hr (se_len T.z_len (se_v 1)) se_int)) (se_and (se_cmp (sc_in hr (se_ix hr (se_v 1) se_int) (se_v 0))) (se_one (se_cmp (sc_in hr (se_ix hr (se_v 1) se_int) (se_v 0))))))))
structure Tx_is_one_row (P : Program) (w : World) (K : PySem.W.Frag) (mg : Str → Option Value) (base : Heap) (cl : Nat → Addr) (A : Adr) : Prop where
  z_all : mg "all" = none
  z_len : mg "len" = none
  c_is_pair_of : Cal P w K mg base 1 "is_pair_of" ["carrying", "word"] (spM ⟨K, cl⟩ mi_is_pair_of false)
theorem ok_is_one_row {f : Addr} {fd : FuncData} (F : Fun K "is_one_row" "is_one_row" s_is_one_row f fd) (T : Tx_is_one_row P w K mg base cl A) : FnOk P w K mg base CX0 2 f fd ["carrying", "row"] (spM ⟨K, cl⟩ mi_is_one_row false) := by
  refine F.ok sc_is_one_row (fun vs H Q E h => spM_len h) (fun cdv A' outer s H vs Q E hr h => body_ok (G := []) (G' := []) (L := []) (N := ["carrying", "row"]) rfl (by decide) (by decide) (fun B H' => ?_) h)
  exact (ss_one (s_ret (se_and (se_cmp (sc_eq hr (se_ix hr (se_v 1) se_int) se_str)) (se_and (se_cmp (sc_gt (se_len T.z_len (se_v 1)) se_int)) (se_one (se_all T.z_all (se_comp (osc := (defScope s_is_one_row)) (ON := ["carrying", "row"]) (N := ["word", "carrying"]) (cap := [none, some 0]) ⟨rfl, by decide +kernel, by decide +kernel, by decide +kernel, by decide +kernel⟩ (tg_n 0) (si_v (se_sl (se_v 1) (so_some se_int) so_none) (fun z => by cases z)) (fun _ _ _ _ => pg_name (i := 0) (show (["word", "carrying"] : List Str).Nodup by decide +kernel) rfl (Or.inl rfl)) (fun _ _ _ _ => sifs_nil) (fun _ _ _ _ => (se_callV T.c_is_pair_of hr (sa_cons (se_v 1) (sa_cons (se_v 0) sa_nil)))))))))))
structure Tx_is_stop (P : Program) (w : World) (K : PySem.W.Frag) (mg : Str → Option Value) (base : Heap) (cl : Nat → Addr) (A : Adr) : Prop where
  c_is_letter : Cal P w K mg base 1 "is_letter" ["text"] (spM ⟨K, cl⟩ mi_is_letter false)
theorem ok_is_stop {f : Addr} {fd : FuncData} (F : Fun K "is_stop" "is_stop" s_is_stop f fd) (T : Tx_is_stop P w K mg base cl A) : FnOk P w K mg base CX0 2 f fd ["carrying", "text"] (spM ⟨K, cl⟩ mi_is_stop false) := by
  refine F.ok sc_is_stop (fun vs H Q E h => spM_len h) (fun cdv A' outer s H vs Q E hr h => body_ok (G := []) (G' := []) (L := []) (N := ["carrying", "text"]) rfl (by decide) (by decide) (fun B H' => ?_) h)
  exact (ss_one (s_ret (se_and (se_callV T.c_is_letter hr (sa_cons (se_v 1) sa_nil)) (se_one (se_cmp (sc_notin hr (se_v 1) (se_v 0)))))))
structure Tx_are_alike_units (P : Program) (w : World) (K : PySem.W.Frag) (mg : Str → Option Value) (base : Heap) (cl : Nat → Addr) (A : Adr) : Prop where
  z_all : mg "all" = none
  z_len : mg "len" = none
  c_is_stop : Cal P w K mg base 2 "is_stop" ["carrying", "text"] (spM ⟨K, cl⟩ mi_is_stop false)
theorem ok_are_alike_units {f : Addr} {fd : FuncData} (F : Fun K "are_alike_units" "are_alike_units" s_are_alike_units f fd) (T : Tx_are_alike_units P w K mg base cl A) : FnOk P w K mg base CX0 3 f fd ["carrying", "carriers", "words"] (spM ⟨K, cl⟩ mi_are_alike_units false) := by
  refine F.ok sc_are_alike_units (fun vs H Q E h => spM_len h) (fun cdv A' outer s H vs Q E hr h => body_ok (G := []) (G' := []) (L := []) (N := ["carrying", "carriers", "words"]) rfl (by decide) (by decide) (fun B H' => ?_) h)
  exact (ss_cons (s_if (st_cmp (sc_ne hr (se_len T.z_len (se_v 2)) se_int)) (ss_one (s_ret se_bl)) ss_nil) (ss_one (s_ret (se_or (se_all T.z_all (se_comp (osc := (defScope s_are_alike_units)) (ON := ["carrying", "carriers", "words"]) (N := ["word", "carriers"]) (cap := [none, some 1]) ⟨rfl, by decide +kernel, by decide +kernel, by decide +kernel, by decide +kernel⟩ (tg_n 0) (si_v (se_v 2) (fun z => by cases z)) (fun _ _ _ _ => pg_name (i := 0) (show (["word", "carriers"] : List Str).Nodup by decide +kernel) rfl (Or.inl rfl)) (fun _ _ _ _ => sifs_nil) (fun _ _ _ _ => (se_cmp (sc_in hr (se_v 0) (se_v 1)))))) (se_one (se_all T.z_all (se_comp (osc := (defScope s_are_alike_units)) (ON := ["carrying", "carriers", "words"]) (N := ["word", "carrying"]) (cap := [none, some 0]) ⟨rfl, by decide +kernel, by decide +kernel, by decide +kernel, by decide +kernel⟩ (tg_n 0) (si_v (se_v 2) (fun z => by cases z)) (fun _ _ _ _ => pg_name (i := 0) (show (["word", "carrying"] : List Str).Nodup by decide +kernel) rfl (Or.inl rfl)) (fun _ _ _ _ => sifs_nil) (fun _ _ _ _ => (se_callV T.c_is_stop hr (sa_cons (se_v 1) (sa_cons (se_v 0) sa_nil)))))))))))
structure Tx_is_cluster (P : Program) (w : World) (K : PySem.W.Frag) (mg : Str → Option Value) (base : Heap) (cl : Nat → Addr) (A : Adr) : Prop where
  z_all : mg "all" = none
  z_len : mg "len" = none
  g_LEAST_STOPS : mg "LEAST_STOPS" = some (.int 2 A.t_LEAST_STOPS)
  g_MOST_STOPS : mg "MOST_STOPS" = some (.int 4 A.t_MOST_STOPS)
  c_is_stop : Cal P w K mg base 2 "is_stop" ["carrying", "text"] (spM ⟨K, cl⟩ mi_is_stop false)
theorem ok_is_cluster {f : Addr} {fd : FuncData} (F : Fun K "is_cluster" "is_cluster" s_is_cluster f fd) (T : Tx_is_cluster P w K mg base cl A) : FnOk P w K mg base CX0 3 f fd ["carrying", "word"] (spM ⟨K, cl⟩ mi_is_cluster false) := by
  refine F.ok sc_is_cluster (fun vs H Q E h => spM_len h) (fun cdv A' outer s H vs Q E hr h => body_ok (G := []) (G' := []) (L := []) (N := ["carrying", "word"]) rfl (by decide) (by decide) (fun B H' => ?_) h)
  exact (ss_one (s_ret (se_and (se_chain op_le op_le (se_gI T.g_LEAST_STOPS) (se_len T.z_len (se_v 1)) (se_gI T.g_MOST_STOPS)) (se_one (se_all T.z_all (se_comp (osc := (defScope s_is_cluster)) (ON := ["carrying", "word"]) (N := ["sign", "carrying"]) (cap := [none, some 0]) ⟨rfl, by decide +kernel, by decide +kernel, by decide +kernel, by decide +kernel⟩ (tg_n 0) (si_v (se_v 1) (fun z => by cases z)) (fun _ _ _ _ => pg_name (i := 0) (show (["sign", "carrying"] : List Str).Nodup by decide +kernel) rfl (Or.inl rfl)) (fun _ _ _ _ => sifs_nil) (fun _ _ _ _ => (se_callV T.c_is_stop hr (sa_cons (se_v 1) (sa_cons (se_v 0) sa_nil))))))))))
structure Tx_is_rule (P : Program) (w : World) (K : PySem.W.Frag) (mg : Str → Option Value) (base : Heap) (cl : Nat → Addr) (A : Adr) : Prop where
  z_all : mg "all" = none
  z_len : mg "len" = none
  z_list : mg "list" = none
  g_RUNS : mg "RUNS" = some (.ref A.a_RUNS)
  r_RUNS : ∀ (B : Addr → Prop) (H : Hp), Rep ⟨K, cl⟩ B H (.ref A.a_RUNS) c_RUNS
  c_are_alike_units : Cal P w K mg base 3 "are_alike_units" ["carrying", "carriers", "words"] (spM ⟨K, cl⟩ mi_are_alike_units false)
  c_is_carry_row : Cal P w K mg base 2 "is_carry_row" ["row"] (spM ⟨K, cl⟩ mi_is_carry_row false)
  c_is_cluster : Cal P w K mg base 3 "is_cluster" ["carrying", "word"] (spM ⟨K, cl⟩ mi_is_cluster false)
  c_is_one_row : Cal P w K mg base 2 "is_one_row" ["carrying", "row"] (spM ⟨K, cl⟩ mi_is_one_row false)
theorem ok_is_rule {f : Addr} {fd : FuncData} (F : Fun K "is_rule" "is_rule" s_is_rule f fd) (T : Tx_is_rule P w K mg base cl A) : FnOk P w K mg base CX0 4 f fd ["carrying", "pairs", "row"] (spM ⟨K, cl⟩ mi_is_rule false) := by
  refine F.ok sc_is_rule (fun vs H Q E h => spM_len h) (fun cdv A' outer s H vs Q E hr h => body_ok (G := []) (G' := []) (L := []) (N := ["carrying", "pairs", "row", "kind", "words", "carriers"]) rfl (by decide) (by decide) (fun B H' => ?_) h)
  exact (ss_cons (s_set 3 sc_is_rule.nd (se_ix hr (se_v 2) se_int)) (ss_cons (s_set 4 sc_is_rule.nd (se_sl (se_v 2) (so_some se_int) so_none)) (ss_cons (s_set 5 sc_is_rule.nd (se_add (se_list T.z_list (se_v 0)) (se_list T.z_list (se_v 1)))) (ss_cons (s_if (st_cmp (sc_eq hr (se_v 3) se_str)) (ss_one (s_ret (se_callV T.c_is_carry_row hr (sa_cons (se_v 2) sa_nil)))) ss_nil) (ss_cons (s_if (st_cmp (sc_eq hr (se_v 3) se_str)) (ss_one (s_ret (se_callV T.c_is_one_row hr (sa_cons (se_v 0) (sa_cons (se_v 2) sa_nil))))) ss_nil) (ss_cons (s_if (SW.st (sw_or (st_cmp (sc_eq hr (se_v 3) se_str)) (sw_or1 (st_cmp (sc_eq hr (se_v 3) se_str))))) (ss_one (s_ret (se_and (se_cmp (sc_gt (se_len T.z_len (se_v 4)) se_int)) (se_one (se_all T.z_all (se_comp (osc := (defScope s_is_rule)) (ON := ["carrying", "pairs", "row", "kind", "words", "carriers"]) (N := ["word", "carriers"]) (cap := [none, some 5]) ⟨rfl, by decide +kernel, by decide +kernel, by decide +kernel, by decide +kernel⟩ (tg_n 0) (si_v (se_v 4) (fun z => by cases z)) (fun _ _ _ _ => pg_name (i := 0) (show (["word", "carriers"] : List Str).Nodup by decide +kernel) rfl (Or.inl rfl)) (fun _ _ _ _ => sifs_nil) (fun _ _ _ _ => (se_cmp (sc_in hr (se_v 0) (se_v 1)))))))))) ss_nil) (ss_cons (s_if (SW.st (sw_or (st_cmp (sc_eq hr (se_v 3) se_str)) (sw_or1 (st_cmp (sc_eq hr (se_v 3) se_str))))) (ss_one (s_ret (se_and (se_cmp (sc_gt (se_len T.z_len (se_v 4)) se_int)) (se_one (se_all T.z_all (se_comp (osc := (defScope s_is_rule)) (ON := ["carrying", "pairs", "row", "kind", "words", "carriers"]) (N := ["word", "carrying"]) (cap := [none, some 0]) ⟨rfl, by decide +kernel, by decide +kernel, by decide +kernel, by decide +kernel⟩ (tg_n 0) (si_v (se_v 4) (fun z => by cases z)) (fun _ _ _ _ => pg_name (i := 0) (show (["word", "carrying"] : List Str).Nodup by decide +kernel) rfl (Or.inl rfl)) (fun _ _ _ _ => sifs_nil) (fun _ _ _ _ => (se_callV T.c_is_cluster hr (sa_cons (se_v 1) (sa_cons (se_v 0) sa_nil)))))))))) ss_nil) (ss_cons (s_if (st_cmp (sc_eq hr (se_v 3) se_str)) (ss_one (s_ret (se_and (se_cmp (sc_eq hr (se_len T.z_len (se_v 4)) se_int)) (se_one (se_cmp (sc_in hr (se_ix hr (se_v 4) se_int) (se_gR T.g_RUNS (T.r_RUNS)))))))) ss_nil) (ss_one (s_ret (se_and (se_cmp (sc_eq hr (se_v 3) se_str)) (se_one (se_callV T.c_are_alike_units hr (sa_cons (se_v 0) (sa_cons (se_v 5) (sa_cons (se_v 4) sa_nil))))))))))))))))
structure Tx_Tongue____init__ (P : Program) (w : World) (K : PySem.W.Frag) (mg : Str → Option Value) (base : Heap) (cl : Nat → Addr) (A : Adr) : Prop where
  z_enumerate : mg "enumerate" = none
  cl_Tongue : Cls K (cl 0)
  n_Tongue_beginnings : NoAttr K (cl 0) "beginnings"
  n_Tongue_carrying : NoAttr K (cl 0) "carrying"
  n_Tongue_eithers : NoAttr K (cl 0) "eithers"
  n_Tongue_likes : NoAttr K (cl 0) "likes"
  n_Tongue_longs : NoAttr K (cl 0) "longs"
  n_Tongue_pairs : NoAttr K (cl 0) "pairs"
  n_Tongue_running : NoAttr K (cl 0) "running"
  n_Tongue_splittings : NoAttr K (cl 0) "splittings"
  c_is_carry_row : Cal P w K mg base 2 "is_carry_row" ["row"] (spM ⟨K, cl⟩ mi_is_carry_row false)
  c_is_one_row : Cal P w K mg base 2 "is_one_row" ["carrying", "row"] (spM ⟨K, cl⟩ mi_is_one_row false)
  c_is_rule : Cal P w K mg base 4 "is_rule" ["carrying", "pairs", "row"] (spM ⟨K, cl⟩ mi_is_rule false)
  c_last_run : Cal P w K mg base 1 "last_run" ["rows"] (spM ⟨K, cl⟩ mi_last_run false)
  c_told_alike : Cal P w K mg base 1 "told_alike" ["rows"] (spM ⟨K, cl⟩ mi_told_alike false)
  c_told_behind : Cal P w K mg base 1 "told_behind" ["kind", "rows"] (spM ⟨K, cl⟩ mi_told_behind false)
theorem ok_Tongue____init__ {f : Addr} {fd : FuncData} (F : Fun K "__init__" "Tongue.__init__" s_Tongue____init__ f fd) (T : Tx_Tongue____init__ P w K mg base cl A) : FnOk P w K mg base CX0 5 f fd ["self", "rows"] (spI ⟨K, cl⟩ 0 mi_Tongue____init__) := by
  refine F.ok sc_Tongue____init__ (fun vs H Q E h => spI_len h) (fun cdv A' outer s H vs Q E hr h => init_ok (G := [0]) (G' := [0]) (L := []) (N := ["self", "rows", "cut", "at", "row"]) rfl (by decide) (by decide) (by decide) (by decide) (fun B H' x => ?_) h)
  exact (ss_cons (s_setC 2 sc_Tongue____init__.nd (osc := (defScope s_Tongue____init__)) (ON := ["self", "rows", "cut", "at", "row"]) (N := ["row"]) (cap := [none]) ⟨rfl, by decide +kernel, by decide +kernel, by decide +kernel, by decide +kernel⟩ (tg_n 0) (si_v (se_v 1) (fun z => by cases z)) (fun _ _ _ _ => pg_name (i := 0) (show (["row"] : List Str).Nodup by decide +kernel) rfl (Or.inl rfl)) (fun _ _ _ _ => sifs_nil) (fun _ _ _ _ => (SE.val (se_split (se_v 0) se_str)))) (ss_cons (s_fld 0 (c := 0) T.cl_Tongue T.n_Tongue_carrying (se_callV T.c_told_behind hr (sa_cons se_str (sa_cons (SE.val (se_comp (osc := (defScope s_Tongue____init__)) (ON := ["self", "rows", "cut", "at", "row"]) (N := ["row"]) (cap := [none]) ⟨rfl, by decide +kernel, by decide +kernel, by decide +kernel, by decide +kernel⟩ (tg_n 0) (si_v (se_v 2) (fun z => by cases z)) (fun _ _ _ _ => pg_name (i := 0) (show (["row"] : List Str).Nodup by decide +kernel) rfl (Or.inl rfl)) (fun _ _ _ _ => pifs_one (st_val (se_callV T.c_is_carry_row hr (sa_cons (se_v 0) sa_nil)))) (fun _ _ _ _ => (se_v 0)))) sa_nil)))) (ss_cons (s_fld 0 (c := 0) T.cl_Tongue T.n_Tongue_pairs (se_callV T.c_told_behind hr (sa_cons se_str (sa_cons (SE.val (se_comp (osc := (defScope s_Tongue____init__)) (ON := ["self", "rows", "cut", "at", "row"]) (N := ["row", "self"]) (cap := [none, some 0]) ⟨rfl, by decide +kernel, by decide +kernel, by decide +kernel, by decide +kernel⟩ (tg_n 0) (si_v (se_v 2) (fun z => by cases z)) (fun _ _ _ _ => pg_name (i := 0) (show (["row", "self"] : List Str).Nodup by decide +kernel) rfl (Or.inl rfl)) (fun _ _ _ _ => pifs_one (st_val (se_callV T.c_is_one_row hr (sa_cons (se_fld (c := 0) T.cl_Tongue T.n_Tongue_carrying (se_b 1)) (sa_cons (se_v 0) sa_nil))))) (fun _ _ _ _ => (se_v 0)))) sa_nil)))) (ss_cons (s_for [3, 4] (si_enum T.z_enumerate (se_v 2) (fun _ => by intro z; cases z)) (sg_t (sgs_cons 3 sc_Tongue____init__.nd (sgs_cons 4 sc_Tongue____init__.nd sgs_nil))) (ss_one (s_if (st_not (st_val (se_callV T.c_is_rule hr (sa_cons (se_fld (c := 0) T.cl_Tongue T.n_Tongue_carrying (se_b 0)) (sa_cons (se_fld (c := 0) T.cl_Tongue T.n_Tongue_pairs (se_b 0)) (sa_cons (se_v 4) sa_nil)))))) (ss_one s_no) ss_nil)) PassesOwn.never) (ss_cons (s_fld 0 (c := 0) T.cl_Tongue T.n_Tongue_longs (se_callV T.c_told_behind hr (sa_cons se_str (sa_cons (se_v 2) sa_nil)))) (ss_cons (s_fld 0 (c := 0) T.cl_Tongue T.n_Tongue_eithers (se_callV T.c_told_behind hr (sa_cons se_str (sa_cons (se_v 2) sa_nil)))) (ss_cons (s_fld 0 (c := 0) T.cl_Tongue T.n_Tongue_beginnings (se_callV T.c_told_behind hr (sa_cons se_str (sa_cons (se_v 2) sa_nil)))) (ss_cons (s_fld 0 (c := 0) T.cl_Tongue T.n_Tongue_splittings (se_callV T.c_told_behind hr (sa_cons se_str (sa_cons (se_v 2) sa_nil)))) (ss_cons (s_fld 0 (c := 0) T.cl_Tongue T.n_Tongue_running (se_callV T.c_last_run hr (sa_cons (se_v 2) sa_nil))) (ss_one (s_fld 0 (c := 0) T.cl_Tongue T.n_Tongue_likes (se_callV T.c_told_alike hr (sa_cons (se_v 2) sa_nil)))))))))))))
structure Tx_Tongue__carries (P : Program) (w : World) (K : PySem.W.Frag) (mg : Str → Option Value) (base : Heap) (cl : Nat → Addr) (A : Adr) : Prop where
  cl_Tongue : Cls K (cl 0)
  n_Tongue_carrying : NoAttr K (cl 0) "carrying"
theorem ok_Tongue__carries {f : Addr} {fd : FuncData} (F : Fun K "carries" "Tongue.carries" s_Tongue__carries f fd) (T : Tx_Tongue__carries P w K mg base cl A) : FnOk P w K mg base CX0 1 f fd ["self", "letter"] (spM ⟨K, cl⟩ mi_Tongue__carries false) := by
  refine F.ok sc_Tongue__carries (fun vs H Q E h => spM_len h) (fun cdv A' outer s H vs Q E hr h => body_ok (G := []) (G' := []) (L := []) (N := ["self", "letter"]) rfl (by decide) (by decide) (fun B H' => ?_) h)
  exact (ss_one (s_ret (se_cmp (sc_in hr (se_v 1) (se_fld (c := 0) T.cl_Tongue T.n_Tongue_carrying (se_v 0))))))
structure Tx_Tongue__weight (P : Program) (w : World) (K : PySem.W.Frag) (mg : Str → Option Value) (base : Heap) (cl : Nat → Addr) (A : Adr) : Prop where
  cl_Tongue : Cls K (cl 0)
  n_Tongue_eithers : NoAttr K (cl 0) "eithers"
  n_Tongue_longs : NoAttr K (cl 0) "longs"
theorem ok_Tongue__weight {f : Addr} {fd : FuncData} (F : Fun K "weight" "Tongue.weight" s_Tongue__weight f fd) (T : Tx_Tongue__weight P w K mg base cl A) : FnOk P w K mg base CX0 1 f fd ["self", "carrier"] (spM ⟨K, cl⟩ mi_Tongue__weight false) := by
  refine F.ok sc_Tongue__weight (fun vs H Q E h => spM_len h) (fun cdv A' outer s H vs Q E hr h => body_ok (G := []) (G' := []) (L := []) (N := ["self", "carrier"]) rfl (by decide) (by decide) (fun B H' => ?_) h)
  exact (ss_cons (s_if (st_cmp (sc_in hr (se_v 1) (se_fld (c := 0) T.cl_Tongue T.n_Tongue_longs (se_v 0)))) (ss_one (s_ret se_str)) ss_nil) (ss_cons (s_if (st_cmp (sc_in hr (se_v 1) (se_fld (c := 0) T.cl_Tongue T.n_Tongue_eithers (se_v 0)))) (ss_one (s_ret se_str)) ss_nil) (ss_one (s_ret se_str))))
structure Tx_Tongue__is_pair (P : Program) (w : World) (K : PySem.W.Frag) (mg : Str → Option Value) (base : Heap) (cl : Nat → Addr) (A : Adr) : Prop where
  cl_Tongue : Cls K (cl 0)
  n_Tongue_pairs : NoAttr K (cl 0) "pairs"
theorem ok_Tongue__is_pair {f : Addr} {fd : FuncData} (F : Fun K "is_pair" "Tongue.is_pair" s_Tongue__is_pair f fd) (T : Tx_Tongue__is_pair P w K mg base cl A) : FnOk P w K mg base CX0 1 f fd ["self", "pair"] (spM ⟨K, cl⟩ mi_Tongue__is_pair false) := by
  refine F.ok sc_Tongue__is_pair (fun vs H Q E h => spM_len h) (fun cdv A' outer s H vs Q E hr h => body_ok (G := []) (G' := []) (L := []) (N := ["self", "pair"]) rfl (by decide) (by decide) (fun B H' => ?_) h)
  exact (ss_one (s_ret (se_cmp (sc_in hr (se_v 1) (se_fld (c := 0) T.cl_Tongue T.n_Tongue_pairs (se_v 0))))))
structure Tx_Tongue__alike (P : Program) (w : World) (K : PySem.W.Frag) (mg : Str → Option Value) (base : Heap) (cl : Nat → Addr) (A : Adr) : Prop where
  cl_Tongue : Cls K (cl 0)
  n_Tongue_likes : NoAttr K (cl 0) "likes"
theorem ok_Tongue__alike {f : Addr} {fd : FuncData} (F : Fun K "alike" "Tongue.alike" s_Tongue__alike f fd) (T : Tx_Tongue__alike P w K mg base cl A) : FnOk P w K mg base CX0 1 f fd ["self", "one", "other"] (spM ⟨K, cl⟩ mi_Tongue__alike false) := by
  refine F.ok sc_Tongue__alike (fun vs H Q E h => spM_len h) (fun cdv A' outer s H vs Q E hr h => body_ok (G := []) (G' := []) (L := []) (N := ["self", "one", "other"]) rfl (by decide) (by decide) (fun B H' => ?_) h)
  exact (ss_one (s_ret (se_or (se_cmp (sc_eq hr (se_v 1) (se_v 2))) (se_or (se_cmp (sc_in hr (se_tup (sa_cons (se_v 1) (sa_cons (se_v 2) sa_nil))) (se_fld (c := 0) T.cl_Tongue T.n_Tongue_likes (se_v 0)))) (se_one (se_cmp (sc_in hr (se_tup (sa_cons (se_v 2) (sa_cons (se_v 1) sa_nil))) (se_fld (c := 0) T.cl_Tongue T.n_Tongue_likes (se_v 0)))))))))
structure Tx_Tongue__begins (P : Program) (w : World) (K : PySem.W.Frag) (mg : Str → Option Value) (base : Heap) (cl : Nat → Addr) (A : Adr) : Prop where
  cl_Tongue : Cls K (cl 0)
  n_Tongue_beginnings : NoAttr K (cl 0) "beginnings"
theorem ok_Tongue__begins {f : Addr} {fd : FuncData} (F : Fun K "begins" "Tongue.begins" s_Tongue__begins f fd) (T : Tx_Tongue__begins P w K mg base cl A) : FnOk P w K mg base CX0 1 f fd ["self", "cluster"] (spM ⟨K, cl⟩ mi_Tongue__begins false) := by
  refine F.ok sc_Tongue__begins (fun vs H Q E h => spM_len h) (fun cdv A' outer s H vs Q E hr h => body_ok (G := []) (G' := []) (L := []) (N := ["self", "cluster"]) rfl (by decide) (by decide) (fun B H' => ?_) h)
  exact (ss_one (s_ret (se_cmp (sc_in hr (se_v 1) (se_fld (c := 0) T.cl_Tongue T.n_Tongue_beginnings (se_v 0))))))
structure Tx_Tongue__splits (P : Program) (w : World) (K : PySem.W.Frag) (mg : Str → Option Value) (base : Heap) (cl : Nat → Addr) (A : Adr) : Prop where
  cl_Tongue : Cls K (cl 0)
  n_Tongue_splittings : NoAttr K (cl 0) "splittings"
theorem ok_Tongue__splits {f : Addr} {fd : FuncData} (F : Fun K "splits" "Tongue.splits" s_Tongue__splits f fd) (T : Tx_Tongue__splits P w K mg base cl A) : FnOk P w K mg base CX0 1 f fd ["self", "cluster"] (spM ⟨K, cl⟩ mi_Tongue__splits false) := by
  refine F.ok sc_Tongue__splits (fun vs H Q E h => spM_len h) (fun cdv A' outer s H vs Q E hr h => body_ok (G := []) (G' := []) (L := []) (N := ["self", "cluster"]) rfl (by decide) (by decide) (fun B H' => ?_) h)
  exact (ss_one (s_ret (se_cmp (sc_in hr (se_v 1) (se_fld (c := 0) T.cl_Tongue T.n_Tongue_splittings (se_v 0))))))
structure Tx__law_told (P : Program) (w : World) (K : PySem.W.Frag) (mg : Str → Option Value) (base : Heap) (cl : Nat → Addr) (A : Adr) : Prop where
  z_range : mg "range" = none
  cl_Tongue : Cls K (cl 0)
  c__law_letter : Cal P w K mg base 1 "_law_letter" ["_law_cell", "_law_k"] (spM ⟨K, cl⟩ mi__law_letter false)
  m_Tongue__alike : CalM P w K mg base (cl 0) 1 "alike" ["self", "one", "other"] (spM ⟨K, cl⟩ mi_Tongue__alike false)
  m_Tongue__begins : CalM P w K mg base (cl 0) 1 "begins" ["self", "cluster"] (spM ⟨K, cl⟩ mi_Tongue__begins false)
  m_Tongue__carries : CalM P w K mg base (cl 0) 1 "carries" ["self", "letter"] (spM ⟨K, cl⟩ mi_Tongue__carries false)
  m_Tongue__is_pair : CalM P w K mg base (cl 0) 1 "is_pair" ["self", "pair"] (spM ⟨K, cl⟩ mi_Tongue__is_pair false)
  m_Tongue__splits : CalM P w K mg base (cl 0) 1 "splits" ["self", "cluster"] (spM ⟨K, cl⟩ mi_Tongue__splits false)
  m_Tongue__weight : CalM P w K mg base (cl 0) 1 "weight" ["self", "carrier"] (spM ⟨K, cl⟩ mi_Tongue__weight false)
theorem ok__law_told {f : Addr} {fd : FuncData} (F : Fun K "_law_told" "_law_told" s__law_told f fd) (T : Tx__law_told P w K mg base cl A) : FnOk P w K mg base CX0 2 f fd ["_law_tongue", "_law_record_here"] (spM ⟨K, cl⟩ mi__law_told false) := by
  refine F.ok sc__law_told (fun vs H Q E h => spM_len h) (fun cdv A' outer s H vs Q E hr h => body_ok (G := []) (G' := []) (L := []) (N := ["_law_tongue", "_law_record_here", "_law_letters", "_law_found", "_law_one", "_law_units", "_law_cluster_here"]) rfl (by decide) (by decide) (fun B H' => ?_) h)
  exact (ss_cons (s_setC 2 sc__law_told.nd (osc := (defScope s__law_told)) (ON := ["_law_tongue", "_law_record_here", "_law_letters", "_law_found", "_law_one", "_law_units", "_law_cluster_here"]) (N := ["_law_k", "_law_record_here"]) (cap := [none, some 1]) ⟨rfl, by decide +kernel, by decide +kernel, by decide +kernel, by decide +kernel⟩ (tg_n 0) (si_r1 T.z_range se_int) (fun _ _ _ _ => pg_name (i := 0) (show (["_law_k", "_law_record_here"] : List Str).Nodup by decide +kernel) rfl (Or.inl rfl)) (fun _ _ _ _ => sifs_nil) (fun _ _ _ _ => (se_callV T.c__law_letter hr (sa_cons (se_ix hr (se_v 1) se_int) (sa_cons (se_v 0) sa_nil))))) (ss_cons (s_setC 3 sc__law_told.nd (osc := (defScope s__law_told)) (ON := ["_law_tongue", "_law_record_here", "_law_letters", "_law_found", "_law_one", "_law_units", "_law_cluster_here"]) (N := ["_law_letter_here", "_law_tongue"]) (cap := [none, some 0]) ⟨rfl, by decide +kernel, by decide +kernel, by decide +kernel, by decide +kernel⟩ (tg_n 0) (si_v (se_v 2) (fun z => by cases z)) (fun _ _ _ _ => pg_name (i := 0) (show (["_law_letter_here", "_law_tongue"] : List Str).Nodup by decide +kernel) rfl (Or.inl rfl)) (fun _ _ _ _ => sifs_nil) (fun _ _ _ _ => (se_methV (c := 0) T.m_Tongue__carries T.cl_Tongue hr (se_v 1) (sa_cons (se_v 0) sa_nil)))) (ss_cons (s_for [4] (si_v (se_sl (se_v 2) so_none (so_some se_int)) (fun _ => by intro z; cases z)) (sg_n 4 sc__law_told.nd) (ss_one (s_set 3 sc__law_told.nd (SE.val (se_cat (se_v 3) (se_comp (osc := (defScope s__law_told)) (ON := ["_law_tongue", "_law_record_here", "_law_letters", "_law_found", "_law_one", "_law_units", "_law_cluster_here"]) (N := ["_law_other", "_law_tongue", "_law_one"]) (cap := [none, some 0, some 4]) ⟨rfl, by decide +kernel, by decide +kernel, by decide +kernel, by decide +kernel⟩ (tg_n 0) (si_v (se_sl (se_v 2) so_none (so_some se_int)) (fun z => by cases z)) (fun _ _ _ _ => pg_name (i := 0) (show (["_law_other", "_law_tongue", "_law_one"] : List Str).Nodup by decide +kernel) rfl (Or.inl rfl)) (fun _ _ _ _ => sifs_nil) (fun _ _ _ _ => (se_methV (c := 0) T.m_Tongue__is_pair T.cl_Tongue hr (se_v 1) (sa_cons (se_add (se_v 2) (se_v 0)) sa_nil)))))))) PassesOwn.never) (ss_cons (s_set 5 sc__law_told.nd (se_add (se_ix hr (se_v 1) se_int) (se_ix hr (se_v 1) se_int))) (ss_cons (s_set 3 sc__law_told.nd (SE.val (se_cat (se_v 3) (se_comp (osc := (defScope s__law_told)) (ON := ["_law_tongue", "_law_record_here", "_law_letters", "_law_found", "_law_one", "_law_units", "_law_cluster_here"]) (N := ["_law_unit", "_law_tongue"]) (cap := [none, some 0]) ⟨rfl, by decide +kernel, by decide +kernel, by decide +kernel, by decide +kernel⟩ (tg_n 0) (si_v (se_v 5) (fun z => by cases z)) (fun _ _ _ _ => pg_name (i := 0) (show (["_law_unit", "_law_tongue"] : List Str).Nodup by decide +kernel) rfl (Or.inl rfl)) (fun _ _ _ _ => sifs_nil) (fun _ _ _ _ => (se_methV (c := 0) T.m_Tongue__weight T.cl_Tongue hr (se_v 1) (sa_cons (se_v 0) sa_nil))))))) (ss_cons (s_for [4] (si_v (se_v 5) (fun _ => by intro z; cases z)) (sg_n 4 sc__law_told.nd) (ss_one (s_set 3 sc__law_told.nd (SE.val (se_cat (se_v 3) (se_comp (osc := (defScope s__law_told)) (ON := ["_law_tongue", "_law_record_here", "_law_letters", "_law_found", "_law_one", "_law_units", "_law_cluster_here"]) (N := ["_law_other", "_law_one", "_law_tongue"]) (cap := [none, some 4, some 0]) ⟨rfl, by decide +kernel, by decide +kernel, by decide +kernel, by decide +kernel⟩ (tg_n 0) (si_v (se_v 5) (fun z => by cases z)) (fun _ _ _ _ => pg_name (i := 0) (show (["_law_other", "_law_one", "_law_tongue"] : List Str).Nodup by decide +kernel) rfl (Or.inl rfl)) (fun _ _ _ _ => sifs_nil) (fun _ _ _ _ => (se_methV (c := 0) T.m_Tongue__alike T.cl_Tongue hr (se_v 2) (sa_cons (se_v 1) (sa_cons (se_v 0) sa_nil))))))))) PassesOwn.never) (ss_cons (s_for [4] (si_v (se_sl (se_v 2) (so_some se_int) (so_some se_int)) (fun _ => by intro z; cases z)) (sg_n 4 sc__law_told.nd) (ss_one (s_set 3 sc__law_told.nd (SE.val (se_cat (se_v 3) (se_comp (osc := (defScope s__law_told)) (ON := ["_law_tongue", "_law_record_here", "_law_letters", "_law_found", "_law_one", "_law_units", "_law_cluster_here"]) (N := ["_law_other", "_law_one", "_law_tongue"]) (cap := [none, some 4, some 0]) ⟨rfl, by decide +kernel, by decide +kernel, by decide +kernel, by decide +kernel⟩ (tg_n 0) (si_v (se_sl (se_v 2) (so_some se_int) (so_some se_int)) (fun z => by cases z)) (fun _ _ _ _ => pg_name (i := 0) (show (["_law_other", "_law_one", "_law_tongue"] : List Str).Nodup by decide +kernel) rfl (Or.inl rfl)) (fun _ _ _ _ => sifs_nil) (fun _ _ _ _ => (se_methV (c := 0) T.m_Tongue__alike T.cl_Tongue hr (se_v 2) (sa_cons (se_v 1) (sa_cons (se_v 0) sa_nil))))))))) PassesOwn.never) (ss_cons (s_for [6] (si_v (se_cat (se_ix hr (se_v 1) se_int) (se_ix hr (se_v 1) se_int)) (fun _ => by intro z; cases z)) (sg_n 6 sc__law_told.nd) (ss_one (s_set 3 sc__law_told.nd (SE.val (se_cat (se_v 3) (se_lst (sa_cons (se_methV (c := 0) T.m_Tongue__begins T.cl_Tongue hr (se_v 0) (sa_cons (se_v 6) sa_nil)) (sa_cons (se_methV (c := 0) T.m_Tongue__splits T.cl_Tongue hr (se_v 0) (sa_cons (se_v 6) sa_nil)) (sa_cons (se_methV (c := 0) T.m_Tongue__begins T.cl_Tongue hr (se_v 0) (sa_cons (se_sl (se_v 6) (so_some (se_neg se_int)) so_none) sa_nil)) sa_nil)))))))) PassesOwn.never) (ss_one (s_ret (se_v 3)))))))))))
structure Tx_Tongue__run (P : Program) (w : World) (K : PySem.W.Frag) (mg : Str → Option Value) (base : Heap) (cl : Nat → Addr) (A : Adr) : Prop where
  cl_Tongue : Cls K (cl 0)
  n_Tongue_running : NoAttr K (cl 0) "running"
theorem ok_Tongue__run {f : Addr} {fd : FuncData} (F : Fun K "run" "Tongue.run" s_Tongue__run f fd) (T : Tx_Tongue__run P w K mg base cl A) : FnOk P w K mg base CX0 1 f fd ["self"] (spM ⟨K, cl⟩ mi_Tongue__run false) := by
  refine F.ok sc_Tongue__run (fun vs H Q E h => spM_len h) (fun cdv A' outer s H vs Q E hr h => body_ok (G := []) (G' := []) (L := []) (N := ["self"]) rfl (by decide) (by decide) (fun B H' => ?_) h)
  exact (ss_one (s_ret (se_fld (c := 0) T.cl_Tongue T.n_Tongue_running (se_v 0))))
structure Tx_law (P : Program) (w : World) (K : PySem.W.Frag) (mg : Str → Option Value) (base : Heap) (cl : Nat → Addr) (A : Adr) : Prop where
  z_len : mg "len" = none
  z_range : mg "range" = none
  cl_Tongue : Cls K (cl 0)
  c__law_cell_at : Cal P w K mg base 1 "_law_cell_at" ["_law_script", "_law_k"] (spM ⟨K, cl⟩ mi__law_cell_at false)
  c__law_dealt : Cal P w K mg base 1 "_law_dealt" ["_law_rows_here", "_law_step", "_law_twice"] (spM ⟨K, cl⟩ mi__law_dealt true)
  c__law_letter : Cal P w K mg base 1 "_law_letter" ["_law_cell", "_law_k"] (spM ⟨K, cl⟩ mi__law_letter false)
  c__law_record : Cal P w K mg base 3 "_law_record" ["_law_script", "_law_at"] (spM ⟨K, cl⟩ mi__law_record false)
  c__law_rows : Cal P w K mg base 1 "_law_rows" ["_law_record_here", "_law_cell"] (spM ⟨K, cl⟩ mi__law_rows true)
  c__law_told : Cal P w K mg base 2 "_law_told" ["_law_tongue", "_law_record_here"] (spM ⟨K, cl⟩ mi__law_told false)
  c__law_with_runs : Cal P w K mg base 1 "_law_with_runs" ["_law_rows_here", "_law_cells"] (spM ⟨K, cl⟩ mi__law_with_runs true)
  i_Tongue : CalI P w K mg base (cl 0) 5 "Tongue" ["self", "rows"] (spI ⟨K, cl⟩ 0 mi_Tongue____init__)
  m_Tongue__run : CalM P w K mg base (cl 0) 1 "run" ["self"] (spM ⟨K, cl⟩ mi_Tongue__run false)
theorem ok_law {f : Addr} {fd : FuncData} (F : Fun K "law" "law" s_law f fd) (T : Tx_law P w K mg base cl A) : FnOk P w K mg base CX0 7 f fd ["_law_script"] (spM ⟨K, cl⟩ mi_law false) := by
  refine F.ok sc_law (fun vs H Q E h => spM_len h) (fun cdv A' outer s H vs Q E hr h => body_ok (G := [2, 8, 10]) (G' := [8, 10]) (L := []) (N := ["_law_script", "_law_record_here", "_law_rows_here", "_law_units", "_law_stops", "_law_cell", "_law_some", "_law_pair", "_law_first", "_law_step", "_law_second", "_law_one", "_law_other", "_law_run", "_law_row", "_law_told_here"]) rfl (by decide) (by decide) (fun B H' => ?_) h)
  exact (ss_cons (s_set 1 sc_law.nd (se_callV T.c__law_record hr (sa_cons (se_v 0) (sa_cons se_int sa_nil)))) (ss_cons (s_setO 2 sc_law.nd (se_callO T.c__law_rows hr (sa_cons (se_catT (se_slT2 (se_v 1) so_none (so_some se_int)) (se_tup (sa_cons se_str (sa_cons (se_ix hr (se_v 1) se_int) sa_nil)))) (sa_cons (se_callV T.c__law_cell_at hr (sa_cons (se_v 0) (sa_cons se_int sa_nil))) sa_nil)))) (ss_cons (s_set 3 sc_law.nd (se_add (se_ix hr (se_v 1) se_int) (se_ix hr (se_v 1) se_int))) (ss_cons (s_setC 4 sc_law.nd (osc := (defScope s_law)) (ON := ["_law_script", "_law_record_here", "_law_rows_here", "_law_units", "_law_stops", "_law_cell", "_law_some", "_law_pair", "_law_first", "_law_step", "_law_second", "_law_one", "_law_other", "_law_run", "_law_row", "_law_told_here"]) (N := ["_law_k", "_law_record_here"]) (cap := [none, some 1]) ⟨rfl, by decide +kernel, by decide +kernel, by decide +kernel, by decide +kernel⟩ (tg_n 0) (si_r1 T.z_range se_int) (fun _ _ _ _ => pg_name (i := 0) (show (["_law_k", "_law_record_here"] : List Str).Nodup by decide +kernel) rfl (Or.inl rfl)) (fun _ _ _ _ => sifs_nil) (fun _ _ _ _ => (se_callV T.c__law_letter hr (sa_cons (se_ix hr (se_v 1) se_int) (sa_cons (se_add se_int (se_v 0)) sa_nil))))) (ss_cons (s_for [5, 6, 7] (si_v (se_sl (se_v 0) (so_some se_int) (so_some se_int)) (fun _ => by intro z; cases z)) (sg_n 5 sc_law.nd) (ss_cons (s_set 6 sc_law.nd (se_ix hr (se_lst (sa_cons (se_v 3) (sa_cons (se_v 4) sa_nil))) (se_mod (se_v 5) se_int))) (ss_cons (s_set 7 sc_law.nd (se_add (se_add (se_ix hr (se_v 6) (se_mod (se_div (se_v 5) se_int) (se_len T.z_len (se_v 6)))) se_str) (se_ix hr (se_v 6) (se_mod (se_div (se_v 5) se_int) (se_len T.z_len (se_v 6)))))) (ss_one (s_app 2 (se_add se_str (se_v 7)))))) PassesOwn.never) (ss_frz (G1 := [8, 10]) (ss_cons (s_setO 8 sc_law.nd (se_callO T.c__law_with_runs hr (sa_cons (se_v 2) (sa_cons (se_sl (se_v 0) (so_some se_int) (so_some se_int)) sa_nil)))) (ss_cons (s_set 9 sc_law.nd (se_add se_int (se_mod (se_callV T.c__law_cell_at hr (sa_cons (se_v 0) (sa_cons se_int sa_nil))) se_int))) (ss_cons (s_setO 10 sc_law.nd (se_callO T.c__law_dealt hr (sa_cons (se_v 2) (sa_cons (se_v 9) (sa_cons (se_cmp (sc_eq hr (se_mod (se_callV T.c__law_cell_at hr (sa_cons (se_v 0) (sa_cons se_int sa_nil))) se_int) se_int)) sa_nil))))) (ss_cons (s_set 11 sc_law.nd (SE.val (se_makeB (c := 0) T.i_Tongue hr (sa_consL (se_b 8) sa_nil)))) (ss_cons (s_set 12 sc_law.nd (SE.val (se_makeB (c := 0) T.i_Tongue hr (sa_consL (se_b 10) sa_nil)))) (ss_cons (s_set 13 sc_law.nd se_str) (ss_cons (s_forO 8 1000 [14] (fun _ => (sg_n 14 sc_law.nd)) (fun _ => (ss_one (s_if (st_cmp (sc_eq hr (se_sl (se_v 14) so_none (so_some se_int)) se_str)) (ss_one (s_set 13 sc_law.nd (se_sl (se_v 14) (so_some se_int) so_none))) ss_nil))) PassesOwn.never) (ss_cons (s_clear 8) (ss_cons (s_clear 10) (ss_cons (s_set 15 sc_law.nd (se_callV T.c__law_told hr (sa_cons (se_v 11) (sa_cons (se_v 1) sa_nil)))) (ss_cons (s_if (SW.st (sw_or (st_cmp (sc_ne hr (se_callV T.c__law_told hr (sa_cons (se_v 12) (sa_cons (se_v 1) sa_nil))) (se_v 15))) (sw_or1 (st_cmp (sc_ne hr (se_callV T.c__law_told hr (sa_cons (se_v 11) (sa_cons (se_v 1) sa_nil))) (se_v 15)))))) (ss_one (s_ret se_bl)) ss_nil) (ss_one (s_ret (se_and (se_cmp (sc_eq hr (se_meth0V (c := 0) T.m_Tongue__run T.cl_Tongue hr (se_v 11)) (se_v 13))) (se_one (se_cmp (sc_eq hr (se_meth0V (c := 0) T.m_Tongue__run T.cl_Tongue hr (se_v 12)) se_str)))))))))))))))))))))))
end
end My
namespace My
open PySem L2 MR
def spLaw (K : PySem.W.Frag) : Sp := fun vs H Q _ => ∃ (a : Addr) (ns : List Int), vs = [V.ref a] ∧ Only H ∧ SqL K H a (ns.map V.int) ∧ ns.length ≤ 63 ∧ ∀ J, Q (.bl true) J
theorem law_sp {K : PySem.W.Frag} {cl : Nat → Addr} {vs : List V} {H : Hp} {Q : VK} {E : XK} (h : spLaw K vs H Q E) : spM ⟨K, cl⟩ mi_law false vs H Q E := by
  obtain ⟨a, ns, rfl, ho, hs, hl, k⟩ := h
  have ri : Reps ⟨K, cl⟩ (fun _ => True) H (ns.map V.int) (ns.map PV.int) := reps_of _ _ (fun i => .int i) ns
  refine ⟨fun _ => True, [.frz (ns.map PV.int)], .bl true, .cons ?_ .nil, law_true ns hl, fun v H' s r => ?_⟩
  · rcases hs with (hs | ⟨o, hs⟩) | hs
    · rcases ho a with z | ⟨o, xs, z⟩ | ⟨_, z⟩
      · rw [z] at hs; cases hs
      · rw [z] at hs; cases hs
      · rw [z] at hs; cases hs
    · exact .lstF hs ri
    · exact .lstK (.inr hs) ri
  · cases r
    exact k _
theorem all_mk {l : PySem.W.OpenLaw} {w : World} {K : PySem.W.Frag} {h : Heap} {mg : Str → Option Value} {fa : Addr} (X : K.In h) (G : h.Ns mainGlobals mg) (hfa : mg "law" = some (.ref fa))
    (aC_Tongue : PySem.W.nsIn K mainGlobals "Tongue" = some (some (.ref C_Tongue)))
    (a_0 : PySem.W.nsIn K mainGlobals "_law_cell_at" = some (some (.ref f_0)))
    (l_0 : K.lookup f_0 = some ⟨oc_0, od_0, .func (PySem.W.fnOf "_law_cell_at" "_law_cell_at" (defArgs s__law_cell_at) (defBody s__law_cell_at) (defScope s__law_cell_at) .none kV_0 dc_0 pm_0 an_0 cd_0 ct_0), sl_0⟩)
    (c_0 : PySem.W.codeIn K cd_0 "_law_cell_at" = true)
    (k_0 : PySem.W.keepIn K (.ref f_0) = true)
    (a_1 : PySem.W.nsIn K mainGlobals "_law_letter" = some (some (.ref f_1)))
    (l_1 : K.lookup f_1 = some ⟨oc_1, od_1, .func (PySem.W.fnOf "_law_letter" "_law_letter" (defArgs s__law_letter) (defBody s__law_letter) (defScope s__law_letter) .none kV_1 dc_1 pm_1 an_1 cd_1 ct_1), sl_1⟩)
    (c_1 : PySem.W.codeIn K cd_1 "_law_letter" = true)
    (k_1 : PySem.W.keepIn K (.ref f_1) = true)
    (a_2 : PySem.W.nsIn K mainGlobals "_law_mix" = some (some (.ref f_2)))
    (l_2 : K.lookup f_2 = some ⟨oc_2, od_2, .func (PySem.W.fnOf "_law_mix" "_law_mix" (defArgs s__law_mix) (defBody s__law_mix) (defScope s__law_mix) .none kV_2 dc_2 pm_2 an_2 cd_2 ct_2), sl_2⟩)
    (c_2 : PySem.W.codeIn K cd_2 "_law_mix" = true)
    (k_2 : PySem.W.keepIn K (.ref f_2) = true)
    (a_3 : PySem.W.nsIn K mainGlobals "_law_cluster" = some (some (.ref f_3)))
    (l_3 : K.lookup f_3 = some ⟨oc_3, od_3, .func (PySem.W.fnOf "_law_cluster" "_law_cluster" (defArgs s__law_cluster) (defBody s__law_cluster) (defScope s__law_cluster) .none kV_3 dc_3 pm_3 an_3 cd_3 ct_3), sl_3⟩)
    (c_3 : PySem.W.codeIn K cd_3 "_law_cluster" = true)
    (k_3 : PySem.W.keepIn K (.ref f_3) = true)
    (a_4 : PySem.W.nsIn K mainGlobals "_law_record" = some (some (.ref f_4)))
    (l_4 : K.lookup f_4 = some ⟨oc_4, od_4, .func (PySem.W.fnOf "_law_record" "_law_record" (defArgs s__law_record) (defBody s__law_record) (defScope s__law_record) .none kV_4 dc_4 pm_4 an_4 cd_4 ct_4), sl_4⟩)
    (c_4 : PySem.W.codeIn K cd_4 "_law_record" = true)
    (k_4 : PySem.W.keepIn K (.ref f_4) = true)
    (a_5 : PySem.W.nsIn K mainGlobals "_law_rows" = some (some (.ref f_5)))
    (l_5 : K.lookup f_5 = some ⟨oc_5, od_5, .func (PySem.W.fnOf "_law_rows" "_law_rows" (defArgs s__law_rows) (defBody s__law_rows) (defScope s__law_rows) .none kV_5 dc_5 pm_5 an_5 cd_5 ct_5), sl_5⟩)
    (c_5 : PySem.W.codeIn K cd_5 "_law_rows" = true)
    (k_5 : PySem.W.keepIn K (.ref f_5) = true)
    (a_6 : PySem.W.nsIn K mainGlobals "_law_with_runs" = some (some (.ref f_6)))
    (l_6 : K.lookup f_6 = some ⟨oc_6, od_6, .func (PySem.W.fnOf "_law_with_runs" "_law_with_runs" (defArgs s__law_with_runs) (defBody s__law_with_runs) (defScope s__law_with_runs) .none kV_6 dc_6 pm_6 an_6 cd_6 ct_6), sl_6⟩)
    (c_6 : PySem.W.codeIn K cd_6 "_law_with_runs" = true)
    (k_6 : PySem.W.keepIn K (.ref f_6) = true)
    (a_7 : PySem.W.nsIn K mainGlobals "_law_dealt" = some (some (.ref f_7)))
    (l_7 : K.lookup f_7 = some ⟨oc_7, od_7, .func (PySem.W.fnOf "_law_dealt" "_law_dealt" (defArgs s__law_dealt) (defBody s__law_dealt) (defScope s__law_dealt) .none kV_7 dc_7 pm_7 an_7 cd_7 ct_7), sl_7⟩)
    (c_7 : PySem.W.codeIn K cd_7 "_law_dealt" = true)
    (k_7 : PySem.W.keepIn K (.ref f_7) = true)
    (a_8 : PySem.W.nsIn K mainGlobals "told_behind" = some (some (.ref f_8)))
    (l_8 : K.lookup f_8 = some ⟨oc_8, od_8, .func (PySem.W.fnOf "told_behind" "told_behind" (defArgs s_told_behind) (defBody s_told_behind) (defScope s_told_behind) .none kV_8 dc_8 pm_8 an_8 cd_8 ct_8), sl_8⟩)
    (c_8 : PySem.W.codeIn K cd_8 "told_behind" = true)
    (k_8 : PySem.W.keepIn K (.ref f_8) = true)
    (a_9 : PySem.W.nsIn K mainGlobals "last_run" = some (some (.ref f_9)))
    (l_9 : K.lookup f_9 = some ⟨oc_9, od_9, .func (PySem.W.fnOf "last_run" "last_run" (defArgs s_last_run) (defBody s_last_run) (defScope s_last_run) .none kV_9 dc_9 pm_9 an_9 cd_9 ct_9), sl_9⟩)
    (c_9 : PySem.W.codeIn K cd_9 "last_run" = true)
    (k_9 : PySem.W.keepIn K (.ref f_9) = true)
    (a_10 : PySem.W.nsIn K mainGlobals "told_alike" = some (some (.ref f_10)))
    (l_10 : K.lookup f_10 = some ⟨oc_10, od_10, .func (PySem.W.fnOf "told_alike" "told_alike" (defArgs s_told_alike) (defBody s_told_alike) (defScope s_told_alike) .none kV_10 dc_10 pm_10 an_10 cd_10 ct_10), sl_10⟩)
    (c_10 : PySem.W.codeIn K cd_10 "told_alike" = true)
    (k_10 : PySem.W.keepIn K (.ref f_10) = true)
    (a_11 : PySem.W.nsIn K mainGlobals "is_letter" = some (some (.ref f_11)))
    (l_11 : K.lookup f_11 = some ⟨oc_11, od_11, .func (PySem.W.fnOf "is_letter" "is_letter" (defArgs s_is_letter) (defBody s_is_letter) (defScope s_is_letter) .none kV_11 dc_11 pm_11 an_11 cd_11 ct_11), sl_11⟩)
    (c_11 : PySem.W.codeIn K cd_11 "is_letter" = true)
    (k_11 : PySem.W.keepIn K (.ref f_11) = true)
    (a_12 : PySem.W.nsIn K mainGlobals "is_carry_row" = some (some (.ref f_12)))
    (l_12 : K.lookup f_12 = some ⟨oc_12, od_12, .func (PySem.W.fnOf "is_carry_row" "is_carry_row" (defArgs s_is_carry_row) (defBody s_is_carry_row) (defScope s_is_carry_row) .none kV_12 dc_12 pm_12 an_12 cd_12 ct_12), sl_12⟩)
    (c_12 : PySem.W.codeIn K cd_12 "is_carry_row" = true)
    (k_12 : PySem.W.keepIn K (.ref f_12) = true)
    (a_13 : PySem.W.nsIn K mainGlobals "is_pair_of" = some (some (.ref f_13)))
    (l_13 : K.lookup f_13 = some ⟨oc_13, od_13, .func (PySem.W.fnOf "is_pair_of" "is_pair_of" (defArgs s_is_pair_of) (defBody s_is_pair_of) (defScope s_is_pair_of) .none kV_13 dc_13 pm_13 an_13 cd_13 ct_13), sl_13⟩)
    (c_13 : PySem.W.codeIn K cd_13 "is_pair_of" = true)
    (k_13 : PySem.W.keepIn K (.ref f_13) = true)
    (a_14 : PySem.W.nsIn K mainGlobals "is_one_row" = some (some (.ref f_14)))
    (l_14 : K.lookup f_14 = some ⟨oc_14, od_14, .func (PySem.W.fnOf "is_one_row" "is_one_row" (defArgs s_is_one_row) (defBody s_is_one_row) (defScope s_is_one_row) .none kV_14 dc_14 pm_14 an_14 cd_14 ct_14), sl_14⟩)
    (c_14 : PySem.W.codeIn K cd_14 "is_one_row" = true)
    (k_14 : PySem.W.keepIn K (.ref f_14) = true)
    (a_15 : PySem.W.nsIn K mainGlobals "is_stop" = some (some (.ref f_15)))
    (l_15 : K.lookup f_15 = some ⟨oc_15, od_15, .func (PySem.W.fnOf "is_stop" "is_stop" (defArgs s_is_stop) (defBody s_is_stop) (defScope s_is_stop) .none kV_15 dc_15 pm_15 an_15 cd_15 ct_15), sl_15⟩)
    (c_15 : PySem.W.codeIn K cd_15 "is_stop" = true)
    (k_15 : PySem.W.keepIn K (.ref f_15) = true)
    (a_16 : PySem.W.nsIn K mainGlobals "are_alike_units" = some (some (.ref f_16)))
    (l_16 : K.lookup f_16 = some ⟨oc_16, od_16, .func (PySem.W.fnOf "are_alike_units" "are_alike_units" (defArgs s_are_alike_units) (defBody s_are_alike_units) (defScope s_are_alike_units) .none kV_16 dc_16 pm_16 an_16 cd_16 ct_16), sl_16⟩)
    (c_16 : PySem.W.codeIn K cd_16 "are_alike_units" = true)
    (k_16 : PySem.W.keepIn K (.ref f_16) = true)
    (a_17 : PySem.W.nsIn K mainGlobals "is_cluster" = some (some (.ref f_17)))
    (l_17 : K.lookup f_17 = some ⟨oc_17, od_17, .func (PySem.W.fnOf "is_cluster" "is_cluster" (defArgs s_is_cluster) (defBody s_is_cluster) (defScope s_is_cluster) .none kV_17 dc_17 pm_17 an_17 cd_17 ct_17), sl_17⟩)
    (c_17 : PySem.W.codeIn K cd_17 "is_cluster" = true)
    (k_17 : PySem.W.keepIn K (.ref f_17) = true)
    (a_18 : PySem.W.nsIn K mainGlobals "is_rule" = some (some (.ref f_18)))
    (l_18 : K.lookup f_18 = some ⟨oc_18, od_18, .func (PySem.W.fnOf "is_rule" "is_rule" (defArgs s_is_rule) (defBody s_is_rule) (defScope s_is_rule) .none kV_18 dc_18 pm_18 an_18 cd_18 ct_18), sl_18⟩)
    (c_18 : PySem.W.codeIn K cd_18 "is_rule" = true)
    (k_18 : PySem.W.keepIn K (.ref f_18) = true)
    (a_19 : PySem.W.findIn K (.ref C_Tongue) "__init__" = some (some (.ref f_19)))
    (i_19 : PySem.W.isFn K (.ref f_19) = true)
    (l_19 : K.lookup f_19 = some ⟨oc_19, od_19, .func (PySem.W.fnOf "__init__" "Tongue.__init__" (defArgs s_Tongue____init__) (defBody s_Tongue____init__) (defScope s_Tongue____init__) .none kV_19 dc_19 pm_19 an_19 cd_19 ct_19), sl_19⟩)
    (c_19 : PySem.W.codeIn K cd_19 "Tongue.__init__" = true)
    (k_19 : PySem.W.keepIn K (.ref f_19) = true)
    (a_20 : PySem.W.findIn K (.ref C_Tongue) "carries" = some (some (.ref f_20)))
    (i_20 : PySem.W.isFn K (.ref f_20) = true)
    (l_20 : K.lookup f_20 = some ⟨oc_20, od_20, .func (PySem.W.fnOf "carries" "Tongue.carries" (defArgs s_Tongue__carries) (defBody s_Tongue__carries) (defScope s_Tongue__carries) .none kV_20 dc_20 pm_20 an_20 cd_20 ct_20), sl_20⟩)
    (c_20 : PySem.W.codeIn K cd_20 "Tongue.carries" = true)
    (k_20 : PySem.W.keepIn K (.ref f_20) = true)
    (a_21 : PySem.W.findIn K (.ref C_Tongue) "weight" = some (some (.ref f_21)))
    (i_21 : PySem.W.isFn K (.ref f_21) = true)
    (l_21 : K.lookup f_21 = some ⟨oc_21, od_21, .func (PySem.W.fnOf "weight" "Tongue.weight" (defArgs s_Tongue__weight) (defBody s_Tongue__weight) (defScope s_Tongue__weight) .none kV_21 dc_21 pm_21 an_21 cd_21 ct_21), sl_21⟩)
    (c_21 : PySem.W.codeIn K cd_21 "Tongue.weight" = true)
    (k_21 : PySem.W.keepIn K (.ref f_21) = true)
    (a_22 : PySem.W.findIn K (.ref C_Tongue) "is_pair" = some (some (.ref f_22)))
    (i_22 : PySem.W.isFn K (.ref f_22) = true)
    (l_22 : K.lookup f_22 = some ⟨oc_22, od_22, .func (PySem.W.fnOf "is_pair" "Tongue.is_pair" (defArgs s_Tongue__is_pair) (defBody s_Tongue__is_pair) (defScope s_Tongue__is_pair) .none kV_22 dc_22 pm_22 an_22 cd_22 ct_22), sl_22⟩)
    (c_22 : PySem.W.codeIn K cd_22 "Tongue.is_pair" = true)
    (k_22 : PySem.W.keepIn K (.ref f_22) = true)
    (a_23 : PySem.W.findIn K (.ref C_Tongue) "alike" = some (some (.ref f_23)))
    (i_23 : PySem.W.isFn K (.ref f_23) = true)
    (l_23 : K.lookup f_23 = some ⟨oc_23, od_23, .func (PySem.W.fnOf "alike" "Tongue.alike" (defArgs s_Tongue__alike) (defBody s_Tongue__alike) (defScope s_Tongue__alike) .none kV_23 dc_23 pm_23 an_23 cd_23 ct_23), sl_23⟩)
    (c_23 : PySem.W.codeIn K cd_23 "Tongue.alike" = true)
    (k_23 : PySem.W.keepIn K (.ref f_23) = true)
    (a_24 : PySem.W.findIn K (.ref C_Tongue) "begins" = some (some (.ref f_24)))
    (i_24 : PySem.W.isFn K (.ref f_24) = true)
    (l_24 : K.lookup f_24 = some ⟨oc_24, od_24, .func (PySem.W.fnOf "begins" "Tongue.begins" (defArgs s_Tongue__begins) (defBody s_Tongue__begins) (defScope s_Tongue__begins) .none kV_24 dc_24 pm_24 an_24 cd_24 ct_24), sl_24⟩)
    (c_24 : PySem.W.codeIn K cd_24 "Tongue.begins" = true)
    (k_24 : PySem.W.keepIn K (.ref f_24) = true)
    (a_25 : PySem.W.findIn K (.ref C_Tongue) "splits" = some (some (.ref f_25)))
    (i_25 : PySem.W.isFn K (.ref f_25) = true)
    (l_25 : K.lookup f_25 = some ⟨oc_25, od_25, .func (PySem.W.fnOf "splits" "Tongue.splits" (defArgs s_Tongue__splits) (defBody s_Tongue__splits) (defScope s_Tongue__splits) .none kV_25 dc_25 pm_25 an_25 cd_25 ct_25), sl_25⟩)
    (c_25 : PySem.W.codeIn K cd_25 "Tongue.splits" = true)
    (k_25 : PySem.W.keepIn K (.ref f_25) = true)
    (a_26 : PySem.W.nsIn K mainGlobals "_law_told" = some (some (.ref f_26)))
    (l_26 : K.lookup f_26 = some ⟨oc_26, od_26, .func (PySem.W.fnOf "_law_told" "_law_told" (defArgs s__law_told) (defBody s__law_told) (defScope s__law_told) .none kV_26 dc_26 pm_26 an_26 cd_26 ct_26), sl_26⟩)
    (c_26 : PySem.W.codeIn K cd_26 "_law_told" = true)
    (k_26 : PySem.W.keepIn K (.ref f_26) = true)
    (a_27 : PySem.W.findIn K (.ref C_Tongue) "run" = some (some (.ref f_27)))
    (i_27 : PySem.W.isFn K (.ref f_27) = true)
    (l_27 : K.lookup f_27 = some ⟨oc_27, od_27, .func (PySem.W.fnOf "run" "Tongue.run" (defArgs s_Tongue__run) (defBody s_Tongue__run) (defScope s_Tongue__run) .none kV_27 dc_27 pm_27 an_27 cd_27 ct_27), sl_27⟩)
    (c_27 : PySem.W.codeIn K cd_27 "Tongue.run" = true)
    (k_27 : PySem.W.keepIn K (.ref f_27) = true)
    (a_28 : PySem.W.nsIn K mainGlobals "law" = some (some (.ref f_28)))
    (l_28 : K.lookup f_28 = some ⟨oc_28, od_28, .func (PySem.W.fnOf "law" "law" (defArgs s_law) (defBody s_law) (defScope s_law) .none kV_28 dc_28 pm_28 an_28 cd_28 ct_28), sl_28⟩)
    (c_28 : PySem.W.codeIn K cd_28 "law" = true)
    (k_28 : PySem.W.keepIn K (.ref f_28) = true)
    (pg_Tongue : PySem.W.plainGet K C_Tongue Str.empty = true)
    (hd_Tongue : PySem.W.hasDictIn K C_Tongue = true)
    (po_Tongue : PySem.W.plainOver K C_Tongue = true)
    (sa_Tongue : PySem.W.findIn K (.ref C_Tongue) "__setattr__" = some (some (.builtin "object.__setattr__")))
    (mk_Tongue : PySem.W.makesIn K C_Tongue = true)
    (kc_Tongue : PySem.W.keepIn K (.ref C_Tongue) = true)
    (nf_Tongue_beginnings : PySem.W.findIn K (.ref C_Tongue) "beginnings" = some none)
    (nf_Tongue_carrying : PySem.W.findIn K (.ref C_Tongue) "carrying" = some none)
    (nf_Tongue_eithers : PySem.W.findIn K (.ref C_Tongue) "eithers" = some none)
    (nf_Tongue_likes : PySem.W.findIn K (.ref C_Tongue) "likes" = some none)
    (nf_Tongue_longs : PySem.W.findIn K (.ref C_Tongue) "longs" = some none)
    (nf_Tongue_pairs : PySem.W.findIn K (.ref C_Tongue) "pairs" = some none)
    (nf_Tongue_running : PySem.W.findIn K (.ref C_Tongue) "running" = some none)
    (nf_Tongue_splittings : PySem.W.findIn K (.ref C_Tongue) "splittings" = some none)
    (z_all : PySem.W.nsIn K mainGlobals "all" = some none)
    (z_enumerate : PySem.W.nsIn K mainGlobals "enumerate" = some none)
    (z_len : PySem.W.nsIn K mainGlobals "len" = some none)
    (z_list : PySem.W.nsIn K mainGlobals "list" = some none)
    (z_range : PySem.W.nsIn K mainGlobals "range" = some none)
    (z_sorted : PySem.W.nsIn K mainGlobals "sorted" = some none)
    (g_LEAST_STOPS : PySem.W.nsIn K mainGlobals "LEAST_STOPS" = some (some (.int 2 t_LEAST_STOPS)))
    (g_LETTERS : PySem.W.nsIn K mainGlobals "LETTERS" = some (some (.str "abcdefghijklmnopqrstuvwxyz" t_LETTERS)))
    (g_MOST_STOPS : PySem.W.nsIn K mainGlobals "MOST_STOPS" = some (some (.int 4 t_MOST_STOPS)))
    (g_RUNS : PySem.W.nsIn K mainGlobals "RUNS" = some (some (.ref a_RUNS)))
    (lk_RUNS : K.lookup a_RUNS = some ⟨.type "tuple", o_RUNS, .seq #[.str "never" t_RUNS_0, .str "may" t_RUNS_1, .str "must" t_RUNS_2] n_RUNS, sl_RUNS⟩)
    (cc__law_dealt : codeAt K f_7 229 = true)
    (hcd : PySem.W.codeHdIn K 229 tabP = true) :
    ∃ fd : FuncData, (∀ (s : Shared) (v : Value), BindsTo s fd ⟨[v], []⟩ [("_law_script", v)]) ∧ ∀ base : Heap, K.In base → base.Ns mainGlobals mg → FnOk l.prog w K mg base CX0 7 fa fd ["_law_script"] (spLaw K) := by
  have e := hfa.symm.trans (PySem.W.mg_of X G a_28)
  cases e
  have F_0 := fun_mk (st := s__law_cell_at) l_0 c_0 k_0
  have b_0 := F_0.binds (ps := ["_law_script", "_law_k"]) fun _ _ _ _ _ _ us hl => MR.len2 us hl (fun _ _ => rfl)
  have F_1 := fun_mk (st := s__law_letter) l_1 c_1 k_1
  have b_1 := F_1.binds (ps := ["_law_cell", "_law_k"]) fun _ _ _ _ _ _ us hl => MR.len2 us hl (fun _ _ => rfl)
  have F_2 := fun_mk (st := s__law_mix) l_2 c_2 k_2
  have b_2 := F_2.binds (ps := ["_law_cell", "_law_k"]) fun _ _ _ _ _ _ us hl => MR.len2 us hl (fun _ _ => rfl)
  have F_3 := fun_mk (st := s__law_cluster) l_3 c_3 k_3
  have b_3 := F_3.binds (ps := ["_law_base", "_law_many", "_law_number"]) fun _ _ _ _ _ _ us hl => MR.len3 us hl (fun _ _ _ => rfl)
  have F_4 := fun_mk (st := s__law_record) l_4 c_4 k_4
  have b_4 := F_4.binds (ps := ["_law_script", "_law_at"]) fun _ _ _ _ _ _ us hl => MR.len2 us hl (fun _ _ => rfl)
  have F_5 := fun_mk (st := s__law_rows) l_5 c_5 k_5
  have b_5 := F_5.binds (ps := ["_law_record_here", "_law_cell"]) fun _ _ _ _ _ _ us hl => MR.len2 us hl (fun _ _ => rfl)
  have F_6 := fun_mk (st := s__law_with_runs) l_6 c_6 k_6
  have b_6 := F_6.binds (ps := ["_law_rows_here", "_law_cells"]) fun _ _ _ _ _ _ us hl => MR.len2 us hl (fun _ _ => rfl)
  have F_7 := fun_mk (st := s__law_dealt) l_7 c_7 k_7
  have b_7 := F_7.binds (ps := ["_law_rows_here", "_law_step", "_law_twice"]) fun _ _ _ _ _ _ us hl => MR.len3 us hl (fun _ _ _ => rfl)
  have F_8 := fun_mk (st := s_told_behind) l_8 c_8 k_8
  have b_8 := F_8.binds (ps := ["kind", "rows"]) fun _ _ _ _ _ _ us hl => MR.len2 us hl (fun _ _ => rfl)
  have F_9 := fun_mk (st := s_last_run) l_9 c_9 k_9
  have b_9 := F_9.binds (ps := ["rows"]) fun _ _ _ _ _ _ us hl => MR.len1 us hl (fun _ => rfl)
  have F_10 := fun_mk (st := s_told_alike) l_10 c_10 k_10
  have b_10 := F_10.binds (ps := ["rows"]) fun _ _ _ _ _ _ us hl => MR.len1 us hl (fun _ => rfl)
  have F_11 := fun_mk (st := s_is_letter) l_11 c_11 k_11
  have b_11 := F_11.binds (ps := ["text"]) fun _ _ _ _ _ _ us hl => MR.len1 us hl (fun _ => rfl)
  have F_12 := fun_mk (st := s_is_carry_row) l_12 c_12 k_12
  have b_12 := F_12.binds (ps := ["row"]) fun _ _ _ _ _ _ us hl => MR.len1 us hl (fun _ => rfl)
  have F_13 := fun_mk (st := s_is_pair_of) l_13 c_13 k_13
  have b_13 := F_13.binds (ps := ["carrying", "word"]) fun _ _ _ _ _ _ us hl => MR.len2 us hl (fun _ _ => rfl)
  have F_14 := fun_mk (st := s_is_one_row) l_14 c_14 k_14
  have b_14 := F_14.binds (ps := ["carrying", "row"]) fun _ _ _ _ _ _ us hl => MR.len2 us hl (fun _ _ => rfl)
  have F_15 := fun_mk (st := s_is_stop) l_15 c_15 k_15
  have b_15 := F_15.binds (ps := ["carrying", "text"]) fun _ _ _ _ _ _ us hl => MR.len2 us hl (fun _ _ => rfl)
  have F_16 := fun_mk (st := s_are_alike_units) l_16 c_16 k_16
  have b_16 := F_16.binds (ps := ["carrying", "carriers", "words"]) fun _ _ _ _ _ _ us hl => MR.len3 us hl (fun _ _ _ => rfl)
  have F_17 := fun_mk (st := s_is_cluster) l_17 c_17 k_17
  have b_17 := F_17.binds (ps := ["carrying", "word"]) fun _ _ _ _ _ _ us hl => MR.len2 us hl (fun _ _ => rfl)
  have F_18 := fun_mk (st := s_is_rule) l_18 c_18 k_18
  have b_18 := F_18.binds (ps := ["carrying", "pairs", "row"]) fun _ _ _ _ _ _ us hl => MR.len3 us hl (fun _ _ _ => rfl)
  have F_19 := fun_mk (st := s_Tongue____init__) l_19 c_19 k_19
  have b_19 := F_19.binds (ps := ["self", "rows"]) fun _ _ _ _ _ _ us hl => MR.len2 us hl (fun _ _ => rfl)
  have F_20 := fun_mk (st := s_Tongue__carries) l_20 c_20 k_20
  have b_20 := F_20.binds (ps := ["self", "letter"]) fun _ _ _ _ _ _ us hl => MR.len2 us hl (fun _ _ => rfl)
  have F_21 := fun_mk (st := s_Tongue__weight) l_21 c_21 k_21
  have b_21 := F_21.binds (ps := ["self", "carrier"]) fun _ _ _ _ _ _ us hl => MR.len2 us hl (fun _ _ => rfl)
  have F_22 := fun_mk (st := s_Tongue__is_pair) l_22 c_22 k_22
  have b_22 := F_22.binds (ps := ["self", "pair"]) fun _ _ _ _ _ _ us hl => MR.len2 us hl (fun _ _ => rfl)
  have F_23 := fun_mk (st := s_Tongue__alike) l_23 c_23 k_23
  have b_23 := F_23.binds (ps := ["self", "one", "other"]) fun _ _ _ _ _ _ us hl => MR.len3 us hl (fun _ _ _ => rfl)
  have F_24 := fun_mk (st := s_Tongue__begins) l_24 c_24 k_24
  have b_24 := F_24.binds (ps := ["self", "cluster"]) fun _ _ _ _ _ _ us hl => MR.len2 us hl (fun _ _ => rfl)
  have F_25 := fun_mk (st := s_Tongue__splits) l_25 c_25 k_25
  have b_25 := F_25.binds (ps := ["self", "cluster"]) fun _ _ _ _ _ _ us hl => MR.len2 us hl (fun _ _ => rfl)
  have F_26 := fun_mk (st := s__law_told) l_26 c_26 k_26
  have b_26 := F_26.binds (ps := ["_law_tongue", "_law_record_here"]) fun _ _ _ _ _ _ us hl => MR.len2 us hl (fun _ _ => rfl)
  have F_27 := fun_mk (st := s_Tongue__run) l_27 c_27 k_27
  have b_27 := F_27.binds (ps := ["self"]) fun _ _ _ _ _ _ us hl => MR.len1 us hl (fun _ => rfl)
  have F_28 := fun_mk (st := s_law) l_28 c_28 k_28
  have b_28 := F_28.binds (ps := ["_law_script"]) fun _ _ _ _ _ _ us hl => MR.len1 us hl (fun _ => rfl)
  refine ⟨PySem.W.fnOf "law" "law" (defArgs s_law) (defBody s_law) (defScope s_law) .none kV_28 dc_28 pm_28 an_28 cd_28 ct_28, fun s v => .of_eq rfl, fun base _ _ => ?_⟩
  let cl : Nat → Addr := fun n => match n with | 0 => C_Tongue | _ => 0
  let A : Adr := { t_LEAST_STOPS := t_LEAST_STOPS, t_LETTERS := t_LETTERS, t_MOST_STOPS := t_MOST_STOPS, a_RUNS := a_RUNS }
  have cl_Tongue : Cls K (cl 0) := ⟨pg_Tongue, hd_Tongue, po_Tongue, sa_Tongue⟩
  have r_RUNS : ∀ (B : Addr → Prop) (H : Hp), Rep ⟨K, cl⟩ B H (.ref a_RUNS) c_RUNS := fun B H => .tupK (vs := [V.str "never", V.str "may", V.str "must"]) (.inr ⟨_, _, _, lk_RUNS, rfl, rfl, (by show 3 ≤ sizeLine; decide), (.cons ⟨_, rfl⟩ (.cons ⟨_, rfl⟩ (.cons ⟨_, rfl⟩ .nil)))⟩) (.cons (.str _) (.cons (.str _) (.cons (.str _) .nil)))
  have G_0 := ok__law_cell_at (P := l.prog) (w := w) (mg := mg) (base := base) (cl := cl) (A := A) F_0 ⟨PySem.W.mg_none_of X G z_len⟩
  have k__law_cell_at := cal_mk F_0 (PySem.W.mg_of X G a_0) b_0 G_0
  have G_1 := ok__law_letter (P := l.prog) (w := w) (mg := mg) (base := base) (cl := cl) (A := A) F_1 ⟨trivial⟩
  have k__law_letter := cal_mk F_1 (PySem.W.mg_of X G a_1) b_1 G_1
  have G_2 := ok__law_mix (P := l.prog) (w := w) (mg := mg) (base := base) (cl := cl) (A := A) F_2 ⟨trivial⟩
  have k__law_mix := cal_mk F_2 (PySem.W.mg_of X G a_2) b_2 G_2
  have G_3 := ok__law_cluster (P := l.prog) (w := w) (mg := mg) (base := base) (cl := cl) (A := A) F_3 ⟨PySem.W.mg_none_of X G z_range, k__law_letter⟩
  have k__law_cluster := cal_mk F_3 (PySem.W.mg_of X G a_3) b_3 G_3
  have G_4 := ok__law_record (P := l.prog) (w := w) (mg := mg) (base := base) (cl := cl) (A := A) F_4 ⟨PySem.W.mg_none_of X G z_len, PySem.W.mg_none_of X G z_range, k__law_cell_at, k__law_cluster, k__law_letter, k__law_mix⟩
  have k__law_record := cal_mk F_4 (PySem.W.mg_of X G a_4) b_4 G_4
  have G_5 := ok__law_rows (P := l.prog) (w := w) (mg := mg) (base := base) (cl := cl) (A := A) F_5 ⟨PySem.W.mg_none_of X G z_enumerate, PySem.W.mg_none_of X G z_len⟩
  have k__law_rows := cal_mk F_5 (PySem.W.mg_of X G a_5) b_5 G_5
  have G_6 := ok__law_with_runs (P := l.prog) (w := w) (mg := mg) (base := base) (cl := cl) (A := A) F_6 ⟨PySem.W.mg_none_of X G z_len, PySem.W.mg_none_of X G z_list⟩
  have k__law_with_runs := cal_mk F_6 (PySem.W.mg_of X G a_6) b_6 G_6
  have G_7 := ok__law_dealt (P := l.prog) (w := w) (mg := mg) (base := base) (cl := cl) (A := A) F_7 cc__law_dealt ⟨PySem.W.mg_none_of X G z_len, PySem.W.mg_none_of X G z_range, PySem.W.mg_none_of X G z_sorted, hcd⟩
  have k__law_dealt := cal_mk F_7 (PySem.W.mg_of X G a_7) b_7 G_7
  have G_8 := ok_told_behind (P := l.prog) (w := w) (mg := mg) (base := base) (cl := cl) (A := A) F_8 ⟨trivial⟩
  have k_told_behind := cal_mk F_8 (PySem.W.mg_of X G a_8) b_8 G_8
  have G_9 := ok_last_run (P := l.prog) (w := w) (mg := mg) (base := base) (cl := cl) (A := A) F_9 ⟨trivial⟩
  have k_last_run := cal_mk F_9 (PySem.W.mg_of X G a_9) b_9 G_9
  have G_10 := ok_told_alike (P := l.prog) (w := w) (mg := mg) (base := base) (cl := cl) (A := A) F_10 ⟨trivial⟩
  have k_told_alike := cal_mk F_10 (PySem.W.mg_of X G a_10) b_10 G_10
  have G_11 := ok_is_letter (P := l.prog) (w := w) (mg := mg) (base := base) (cl := cl) (A := A) F_11 ⟨PySem.W.mg_none_of X G z_len, PySem.W.mg_of X G g_LETTERS⟩
  have k_is_letter := cal_mk F_11 (PySem.W.mg_of X G a_11) b_11 G_11
  have G_12 := ok_is_carry_row (P := l.prog) (w := w) (mg := mg) (base := base) (cl := cl) (A := A) F_12 ⟨PySem.W.mg_none_of X G z_all, PySem.W.mg_none_of X G z_len, k_is_letter⟩
  have k_is_carry_row := cal_mk F_12 (PySem.W.mg_of X G a_12) b_12 G_12
  have G_13 := ok_is_pair_of (P := l.prog) (w := w) (mg := mg) (base := base) (cl := cl) (A := A) F_13 ⟨PySem.W.mg_none_of X G z_len⟩
  have k_is_pair_of := cal_mk F_13 (PySem.W.mg_of X G a_13) b_13 G_13
  have G_14 := ok_is_one_row (P := l.prog) (w := w) (mg := mg) (base := base) (cl := cl) (A := A) F_14 ⟨PySem.W.mg_none_of X G z_all, PySem.W.mg_none_of X G z_len, k_is_pair_of⟩
  have k_is_one_row := cal_mk F_14 (PySem.W.mg_of X G a_14) b_14 G_14
  have G_15 := ok_is_stop (P := l.prog) (w := w) (mg := mg) (base := base) (cl := cl) (A := A) F_15 ⟨k_is_letter⟩
  have k_is_stop := cal_mk F_15 (PySem.W.mg_of X G a_15) b_15 G_15
  have G_16 := ok_are_alike_units (P := l.prog) (w := w) (mg := mg) (base := base) (cl := cl) (A := A) F_16 ⟨PySem.W.mg_none_of X G z_all, PySem.W.mg_none_of X G z_len, k_is_stop⟩
  have k_are_alike_units := cal_mk F_16 (PySem.W.mg_of X G a_16) b_16 G_16
  have G_17 := ok_is_cluster (P := l.prog) (w := w) (mg := mg) (base := base) (cl := cl) (A := A) F_17 ⟨PySem.W.mg_none_of X G z_all, PySem.W.mg_none_of X G z_len, PySem.W.mg_of X G g_LEAST_STOPS, PySem.W.mg_of X G g_MOST_STOPS, k_is_stop⟩
  have k_is_cluster := cal_mk F_17 (PySem.W.mg_of X G a_17) b_17 G_17
  have G_18 := ok_is_rule (P := l.prog) (w := w) (mg := mg) (base := base) (cl := cl) (A := A) F_18 ⟨PySem.W.mg_none_of X G z_all, PySem.W.mg_none_of X G z_len, PySem.W.mg_none_of X G z_list, PySem.W.mg_of X G g_RUNS, r_RUNS, k_are_alike_units, k_is_carry_row, k_is_cluster, k_is_one_row⟩
  have k_is_rule := cal_mk F_18 (PySem.W.mg_of X G a_18) b_18 G_18
  have G_19 := ok_Tongue____init__ (P := l.prog) (w := w) (mg := mg) (base := base) (cl := cl) (A := A) F_19 ⟨PySem.W.mg_none_of X G z_enumerate, cl_Tongue, nf_Tongue_beginnings, nf_Tongue_carrying, nf_Tongue_eithers, nf_Tongue_likes, nf_Tongue_longs, nf_Tongue_pairs, nf_Tongue_running, nf_Tongue_splittings, k_is_carry_row, k_is_one_row, k_is_rule, k_last_run, k_told_alike, k_told_behind⟩
  have k_Tongue____init__ : CalI l.prog w K mg base (cl 0) _ "Tongue" _ _ := ⟨_, _, G_19, b_19, ⟨mk_Tongue, a_19, i_19, kc_Tongue⟩, PySem.W.mg_of X G aC_Tongue⟩
  have G_20 := ok_Tongue__carries (P := l.prog) (w := w) (mg := mg) (base := base) (cl := cl) (A := A) F_20 ⟨cl_Tongue, nf_Tongue_carrying⟩
  have k_Tongue__carries : CalM l.prog w K mg base (cl 0) _ "carries" _ _ := ⟨_, _, G_20, b_20, ⟨a_20, i_20, k_20⟩⟩
  have G_21 := ok_Tongue__weight (P := l.prog) (w := w) (mg := mg) (base := base) (cl := cl) (A := A) F_21 ⟨cl_Tongue, nf_Tongue_eithers, nf_Tongue_longs⟩
  have k_Tongue__weight : CalM l.prog w K mg base (cl 0) _ "weight" _ _ := ⟨_, _, G_21, b_21, ⟨a_21, i_21, k_21⟩⟩
  have G_22 := ok_Tongue__is_pair (P := l.prog) (w := w) (mg := mg) (base := base) (cl := cl) (A := A) F_22 ⟨cl_Tongue, nf_Tongue_pairs⟩
  have k_Tongue__is_pair : CalM l.prog w K mg base (cl 0) _ "is_pair" _ _ := ⟨_, _, G_22, b_22, ⟨a_22, i_22, k_22⟩⟩
  have G_23 := ok_Tongue__alike (P := l.prog) (w := w) (mg := mg) (base := base) (cl := cl) (A := A) F_23 ⟨cl_Tongue, nf_Tongue_likes⟩
  have k_Tongue__alike : CalM l.prog w K mg base (cl 0) _ "alike" _ _ := ⟨_, _, G_23, b_23, ⟨a_23, i_23, k_23⟩⟩
  have G_24 := ok_Tongue__begins (P := l.prog) (w := w) (mg := mg) (base := base) (cl := cl) (A := A) F_24 ⟨cl_Tongue, nf_Tongue_beginnings⟩
  have k_Tongue__begins : CalM l.prog w K mg base (cl 0) _ "begins" _ _ := ⟨_, _, G_24, b_24, ⟨a_24, i_24, k_24⟩⟩
  have G_25 := ok_Tongue__splits (P := l.prog) (w := w) (mg := mg) (base := base) (cl := cl) (A := A) F_25 ⟨cl_Tongue, nf_Tongue_splittings⟩
  have k_Tongue__splits : CalM l.prog w K mg base (cl 0) _ "splits" _ _ := ⟨_, _, G_25, b_25, ⟨a_25, i_25, k_25⟩⟩
  have G_26 := ok__law_told (P := l.prog) (w := w) (mg := mg) (base := base) (cl := cl) (A := A) F_26 ⟨PySem.W.mg_none_of X G z_range, cl_Tongue, k__law_letter, k_Tongue__alike, k_Tongue__begins, k_Tongue__carries, k_Tongue__is_pair, k_Tongue__splits, k_Tongue__weight⟩
  have k__law_told := cal_mk F_26 (PySem.W.mg_of X G a_26) b_26 G_26
  have G_27 := ok_Tongue__run (P := l.prog) (w := w) (mg := mg) (base := base) (cl := cl) (A := A) F_27 ⟨cl_Tongue, nf_Tongue_running⟩
  have k_Tongue__run : CalM l.prog w K mg base (cl 0) _ "run" _ _ := ⟨_, _, G_27, b_27, ⟨a_27, i_27, k_27⟩⟩
  have G_28 := ok_law (P := l.prog) (w := w) (mg := mg) (base := base) (cl := cl) (A := A) F_28 ⟨PySem.W.mg_none_of X G z_len, PySem.W.mg_none_of X G z_range, cl_Tongue, k__law_cell_at, k__law_dealt, k__law_letter, k__law_record, k__law_rows, k__law_told, k__law_with_runs, k_Tongue____init__, k_Tongue__run⟩
  exact G_28.imp fun vs H Q E h => law_sp h
theorem walk {l : PySem.W.OpenLaw} {q : Program} {loose : List Str} {XP : (Str → Option Value) → Heap → Prop} {YP : World → Heap → Prop} {d : DefRec} {K : Params → PySem.W.Frag} (hn : l.most = some 63) (hdf : d.params.defaults = [])
    (hY : ∀ (w : World) (h : Heap), YP w h → (K w.params).In h) (hYT : ∀ (w : World) (h : Heap), YP w h → h.get? tabP = some { cls := .none, data := .fields #[] } ∧ (K w.params).lookup tabP = none ∧ ∃ c, PySem.W.codeHdIn (K w.params) c tabP = true)
    (F : ∀ (w : World) (mg : Str → Option Value) (fa : Addr) (h : Heap), (K w.params).In h → h.Ns mainGlobals mg → mg d.name = some (.ref fa) →
      ∃ fd : FuncData, (∀ (s : Shared) (u : Value), BindsTo s fd ⟨[u], []⟩ [("_law_script", u)]) ∧ ∀ base : Heap, (K w.params).In base → base.Ns mainGlobals mg → FnOk l.prog w (K w.params) mg base CX0 7 fa fd ["_law_script"] (spLaw (K w.params))) :
    PySem.W.WalkO q loose XP YP l.row.toRowW d [] (fun f vs => PySem.call f vs) :=
  L2.walk_of (n := 63) (k := 7) (x := "_law_script") (CX := fun _ => CX0) (sp := fun w => spLaw (K w.params)) hn (by decide) hdf ⟨rfl, by decide, by decide⟩ hY hYT F (fun _ _ a ns hl hO hS => ⟨a, ns, rfl, hO, hS, hl, fun _ => rfl⟩) fun _ _ _ _ _ z => z
end My
end
open PySem PySem.W PyProof.Rows
def PySem.W.Fast.tw2033174531822033530 : Unit := ()
def PySem.W.Fast.tw1060476020071424737 : Unit := ()
def PySem.W.Fast.tw14798562871072849398 : Unit := ()
def PySem.W.Fast.tw15301863955775923395 : Unit := ()
def PySem.W.Fast.tw11810870445685840877 : Unit := ()
def PySem.W.Fast.tw470446752920516476 : Unit := ()
def PySem.W.Fast.tw6344402932248470269 : Unit := ()
def PySem.W.Fast.tw17492637849558177418 : Unit := ()
def PySem.W.Fast.tw1664442789209694400 : Unit := ()
def PySem.W.Fast.tw4176887052268158522 : Unit := ()
def PySem.W.Fast.tw6866179726757753500 : Unit := ()
def PySem.W.Fast.tw3395521069087571751 : Unit := ()
def PySem.W.Fast.tw8434678705272389287 : Unit := ()
def PySem.W.Fast.tw12579772343865646299 : Unit := ()
def PySem.W.Fast.tw11510956778218185314 : Unit := ()
def PySem.W.Fast.tw15536609131916947515 : Unit := ()
def PySem.W.Fast.tw9724660707838773770 : Unit := ()
def PySem.W.Fast.tw3573100485114536043 : Unit := ()
def PySem.W.Fast.tw2763424969495003013 : Unit := ()
def PySem.W.Fast.tw830295705541644196 : Unit := ()
def PySem.W.Fast.tw4836587691862830839 : Unit := ()
def PySem.W.Fast.tw36249165183149191 : Unit := ()
def PySem.W.Fast.tw15130112488948896690 : Unit := ()
def PySem.W.Fast.tw18220424642288052132 : Unit := ()
def PySem.W.Fast.tw5792080778486946363 : Unit := ()
def PySem.W.Fast.tw12286487114763506550 : Unit := ()
def PySem.W.Fast.tw13002413074455590599 : Unit := ()
def PySem.W.Fast.tw8076195936499501750 : Unit := ()
def PySem.W.Fast.tw12486756254866380770 : Unit := ()
def PySem.W.Fast.tw16848615156046050146 : Unit := ()
def PySem.W.Fast.tw12638988944264796534 : Unit := ()
set_option maxRecDepth 100000 in
set_option maxHeartbeats 0 in
theorem PySem.Challenge.cw_lilt_k06_whole_order_of_rows_holds : PySem.Challenge.rw_lilt_k06_whole_order_of_rows.Holds := by
  w_on; o_law; k_head; (case hw => w_witness2)
  k_fill
  refine My.walk (l := PySem.Challenge.rw_lilt_k06_whole_order_of_rows) rfl rfl (fun w h Y => PySem.W.km_in_of Y) (fun w h Y => ⟨PySem.W.km_tabs_of Y 227 (by simp), by kernel_rfl, 229, by kernel_rfl⟩) ?F
  case F =>
    intro w mg fa h KX G hmg
    refine' My.all_mk KX G hmg ?aC_Tongue ?a_0 ?l_0 ?c_0 ?k_0 ?a_1 ?l_1 ?c_1 ?k_1 ?a_2 ?l_2 ?c_2 ?k_2 ?a_3 ?l_3 ?c_3 ?k_3 ?a_4 ?l_4 ?c_4 ?k_4 ?a_5 ?l_5 ?c_5 ?k_5 ?a_6 ?l_6 ?c_6 ?k_6 ?a_7 ?l_7 ?c_7 ?k_7 ?a_8 ?l_8 ?c_8 ?k_8 ?a_9 ?l_9 ?c_9 ?k_9 ?a_10 ?l_10 ?c_10 ?k_10 ?a_11 ?l_11 ?c_11 ?k_11 ?a_12 ?l_12 ?c_12 ?k_12 ?a_13 ?l_13 ?c_13 ?k_13 ?a_14 ?l_14 ?c_14 ?k_14 ?a_15 ?l_15 ?c_15 ?k_15 ?a_16 ?l_16 ?c_16 ?k_16 ?a_17 ?l_17 ?c_17 ?k_17 ?a_18 ?l_18 ?c_18 ?k_18 ?a_19 ?i_19 ?l_19 ?c_19 ?k_19 ?a_20 ?i_20 ?l_20 ?c_20 ?k_20 ?a_21 ?i_21 ?l_21 ?c_21 ?k_21 ?a_22 ?i_22 ?l_22 ?c_22 ?k_22 ?a_23 ?i_23 ?l_23 ?c_23 ?k_23 ?a_24 ?i_24 ?l_24 ?c_24 ?k_24 ?a_25 ?i_25 ?l_25 ?c_25 ?k_25 ?a_26 ?l_26 ?c_26 ?k_26 ?a_27 ?i_27 ?l_27 ?c_27 ?k_27 ?a_28 ?l_28 ?c_28 ?k_28 ?pg_Tongue ?hd_Tongue ?po_Tongue ?sa_Tongue ?mk_Tongue ?kc_Tongue ?nf_Tongue_beginnings ?nf_Tongue_carrying ?nf_Tongue_eithers ?nf_Tongue_likes ?nf_Tongue_longs ?nf_Tongue_pairs ?nf_Tongue_running ?nf_Tongue_splittings ?z_all ?z_enumerate ?z_len ?z_list ?z_range ?z_sorted ?g_LEAST_STOPS ?g_LETTERS ?g_MOST_STOPS ?g_RUNS ?lk_RUNS ?cc__law_dealt ?hcd
    (case aC_Tongue | a_0 | l_0 | c_0 | k_0 | a_1 | l_1 | c_1 | k_1 | a_2 | l_2 | c_2 | k_2 | a_3 | l_3 | c_3 | k_3 | a_4 | l_4 | c_4 | k_4 | a_5 | l_5 | c_5 | k_5 | a_6 | l_6 | c_6 | k_6 | a_7 | l_7 | c_7 | k_7 | a_8 | l_8 | c_8 | k_8 | a_9 | l_9 | c_9 | k_9 | a_10 | l_10 | c_10 | k_10 | a_11 | l_11 | c_11 | k_11 | a_12 | l_12 | c_12 | k_12 | a_13 | l_13 | c_13 | k_13 | a_14 | l_14 | c_14 | k_14 | a_15 | l_15 | c_15 | k_15 | a_16 | l_16 | c_16 | k_16 | a_17 | l_17 | c_17 | k_17 | a_18 | l_18 | c_18 | k_18 | a_19 | i_19 | l_19 | c_19 | k_19 | a_20 | i_20 | l_20 | c_20 | k_20 | a_21 | i_21 | l_21 | c_21 | k_21 | a_22 | i_22 | l_22 | c_22 | k_22 | a_23 | i_23 | l_23 | c_23 | k_23 | a_24 | i_24 | l_24 | c_24 | k_24 | a_25 | i_25 | l_25 | c_25 | k_25 | a_26 | l_26 | c_26 | k_26 | a_27 | i_27 | l_27 | c_27 | k_27 | a_28 | l_28 | c_28 | k_28 | pg_Tongue | hd_Tongue | po_Tongue | sa_Tongue | mk_Tongue | kc_Tongue | nf_Tongue_beginnings | nf_Tongue_carrying | nf_Tongue_eithers | nf_Tongue_likes | nf_Tongue_longs | nf_Tongue_pairs | nf_Tongue_running | nf_Tongue_splittings | z_all | z_enumerate | z_len | z_list | z_range | z_sorted | g_LEAST_STOPS | g_LETTERS | g_MOST_STOPS | g_RUNS | lk_RUNS => k_is)
    (case cc__law_dealt => kernel_rfl)
    (case hcd => kernel_rfl)
