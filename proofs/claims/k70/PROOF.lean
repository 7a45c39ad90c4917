import PyProof.Rows.All
import Wide.All
import OpenK.AllK
import Wide.FinOn
import Lean
import PyProof.EqAt
import PyProof.EqKinds
import PyProof.TupleCall
import KE.KRevIter
import PyProof.ListStr
import PyProof.Rows.Range3
import PyProof.Rows.SetFrom
import KE.KIntText
import PySem.Challenge.RW_lilt_k70_forms_read
set_option Elab.async false
set_option linter.all false
set_option maxRecDepth 100000
set_option maxHeartbeats 4000000

/-! THE HAND LAYER, for ints, bools, texts, own classes, LISTS and tuples (index, slices, in, append, pop ..), calls, loops. Paste it whole ahead of your own text; what your proof does not reach may be deleted. -/
namespace L2
open PySem PySem.Spec PyProof.Rows

/-- a key: an int or a str -/
abbrev Key := Sum Int Str
def keyIs : Key → Value → Bool
  | .inl k, v => Value.isInt k v
  | .inr x, v => Value.isStrOf x v
def keyH (w : World) : Key → Int
  | .inl k => hashInt k
  | .inr x => hashStr w x
theorem keyIs_shape : ∀ {k : Key} {v : Value}, keyIs k v = true → (∃ i t, k = Sum.inl i ∧ v = Value.int i t) ∨ (∃ x t, k = Sum.inr x ∧ v = Value.str x t)
  | .inl i, v, h => by
    obtain ⟨t, e⟩ := Value.isInt_shape (k := i) (v := v) h
    exact .inl ⟨i, t, rfl, e⟩
  | .inr x, v, h => by
    obtain ⟨t, e⟩ := Value.isStrOf_shape (x := x) (v := v) h
    exact .inr ⟨x, t, rfl, e⟩
theorem keyIs_int (i : Int) (t : Tok) : keyIs (.inl i) (.int i t) = true := by simp [keyIs, Value.isInt]
theorem keyIs_str (x : Str) (t : Tok) : keyIs (.inr x) (.str x t) = true := by simp [keyIs, Value.isStrOf]
theorem key_ll (a b : Int) : decide ((Sum.inl a : Key) = Sum.inl b) = (a == b) := by
  by_cases e : a = b
  · subst e; simp
  · have h : ¬ (Sum.inl a : Key) = Sum.inl b := fun q => e (Sum.inl.inj q)
    rw [decide_eq_false h]
    exact (beq_eq_false_iff_ne.mpr e).symm
theorem key_rr (a b : Str) : decide ((Sum.inr a : Key) = Sum.inr b) = decide (a = b) := by
  by_cases e : a = b
  · subst e; simp
  · have h : ¬ (Sum.inr a : Key) = Sum.inr b := fun q => e (Sum.inr.inj q)
    rw [decide_eq_false h, decide_eq_false e]
theorem key_lr (a : Int) (b : Str) : decide ((Sum.inl a : Key) = Sum.inr b) = false := decide_eq_false (fun q => nomatch q)
theorem key_rl (a : Str) (b : Int) : decide ((Sum.inr a : Key) = Sum.inl b) = false := decide_eq_false (fun q => nomatch q)

def mixKind (prog : Program) (w : World) : PySem.KeyKind prog w Key where
  is := keyIs
  hash := keyH w
  inj := fun v a b ha hb => by
    rcases keyIs_shape ha with ⟨i, t, rfl, rfl⟩ | ⟨x, t, rfl, rfl⟩
    · rcases keyIs_shape hb with ⟨j, u, rfl, e⟩ | ⟨y, u, rfl, e⟩
      · injection e with e1 _; rw [e1]
      · exact nomatch e
    · rcases keyIs_shape hb with ⟨j, u, rfl, e⟩ | ⟨y, u, rfl, e⟩
      · exact nomatch e
      · injection e with e1 _; rw [e1]
  byValue := fun k v h => by
    rcases keyIs_shape h with ⟨i, t, rfl, rfl⟩ | ⟨x, t, rfl, rfl⟩ <;> rfl
  pyHash := fun hv h => by
    rcases keyIs_shape hv with ⟨i, t, rfl, rfl⟩ | ⟨x, t, rfl, rfl⟩
    · exact wpAny_pyHash_int h
    · exact wpAny_pyHash_str h
  eqBool := fun hu hv h => by
    rcases keyIs_shape hu with ⟨i, t, rfl, rfl⟩ | ⟨x, t, rfl, rfl⟩
    · rcases keyIs_shape hv with ⟨j, u, rfl, rfl⟩ | ⟨y, u, rfl, rfl⟩
      · rw [key_ll] at h; exact wpAny_eqBool_int h
      · rw [key_lr] at h; exact SeqAt.EqAt.int_str i t y u _ _ _ _ h
    · rcases keyIs_shape hv with ⟨j, u, rfl, rfl⟩ | ⟨y, u, rfl, rfl⟩
      · rw [key_rl] at h; exact SeqAt.EqAt.str_int x t j u _ _ _ _ h
      · rw [key_rr] at h; exact wpAny_eqBool_str h
  «strs» := fun k x t v h => by
    rcases keyIs_shape h with ⟨i, u, rfl, e⟩ | ⟨y, u, rfl, e⟩
    · exact nomatch e
    · injection e with e1 _
      subst e1
      cases v <;> rfl

theorem mixKind_int (prog : Program) (w : World) (i : Int) (t : Tok) : (mixKind prog w).is (.inl i) (.int i t) = true := keyIs_int i t
theorem mixKind_str (prog : Program) (w : World) (x : Str) (t : Tok) : (mixKind prog w).is (.inr x) (.str x t) = true := keyIs_str x t
end L2

namespace L2
open PySem PySem.Spec PyProof.Rows

/-- a value, without the heap -/
inductive V where
  | non | bl (b : Bool) | int (i : Int) | str (x : Str) | byt (b : Array UInt8) | flt (b : UInt64) | ref (a : Addr) | ty (n : String)
  deriving DecidableEq

def RelV : V → Value → Prop
  | .non, u => u = Value.none
  | .bl b, u => u = Value.bool b
  | .int i, u => ∃ t, u = Value.int i t
  | .str x, u => ∃ t, u = Value.str x t
  | .byt b, u => ∃ t, u = Value.bytes b t
  | .flt b, u => ∃ t, u = Value.float b t
  | .ref a, u => u = Value.ref a
  | .ty n, u => u = Value.type n

abbrev Vals : List V → List Value → Prop := Paired RelV
theorem Vals.length {xs : List V} {us : List Value} (r : Vals xs us) : xs.length = us.length := Paired.length r
theorem Vals.get : ∀ {xs : List V} {us : List Value} {i : Nat} {x : V}, Vals xs us → xs[i]? = some x → ∃ u, us[i]? = some u ∧ RelV x u
  | _, _, _, _, .nil, e => by simp at e
  | _, _, 0, _, .cons r _, e => by simp at e; subst e; exact ⟨_, rfl, r⟩
  | _, _, i + 1, x, .cons _ t, e => by
    obtain ⟨u, h1, h2⟩ := Vals.get (i := i) (x := x) t (by simpa using e)
    exact ⟨u, by simpa using h1, h2⟩
theorem Vals.set {x : V} {u : Value} (r : RelV x u) : ∀ {xs : List V} {us : List Value} (i : Nat), Vals xs us → Vals (xs.set i x) (us.set i u)
  | _, _, _, .nil => .nil
  | _, _, 0, .cons _ t => .cons r t
  | _, _, i + 1, .cons q t => .cons q (Vals.set r i t)
theorem Vals.append : ∀ {xs ys : List V} {us ws : List Value}, Vals xs us → Vals ys ws → Vals (xs ++ ys) (us ++ ws)
  | _, _, _, _, .nil, s => s
  | _, _, _, _, .cons r t, s => .cons r (Vals.append t s)
theorem Vals.take : ∀ {xs : List V} {us : List Value} (n : Nat), Vals xs us → Vals (xs.take n) (us.take n)
  | _, _, 0, _ => .nil
  | _, _, _ + 1, .nil => .nil
  | _, _, n + 1, .cons r t => .cons r (Vals.take n t)
theorem Vals.drop : ∀ {xs : List V} {us : List Value} (n : Nat), Vals xs us → Vals (xs.drop n) (us.drop n)
  | _, _, 0, r => r
  | _, _, _ + 1, .nil => .nil
  | _, _, n + 1, .cons _ t => Vals.drop n t
def RelO : Option V → Option Value → Prop
  | some v, some u => RelV v u
  | none, none => True
  | _, _ => False
def KV {κ : Type} : List (κ × V) → List (κ × Value) → Prop := Paired fun (p : κ × V) (q : κ × Value) => p.1 = q.1 ∧ RelV p.2 q.2

/-- a key of a dict (00_mix): an int or a text -/
def kV : Key → V
  | .inl i => .int i
  | .inr x => .str x

/-- what stands at a tracked address -/
inductive HO where
  /-- a list -/
  | lst (xs : List V)
  /-- a tuple (never changes) -/
  | tup (xs : List V)
  /-- a dict whose keys are ints and texts; one whose keys are tuples of ints and texts (the empty one is both) -/
  | dK (kvs : List (Key × V)) | dT (kvs : List (List Key × V))
  /-- a set of ints: its members, its size -/
  | set (S : Int → Bool) (n : Nat)
  /-- an instance of the class at C, its dict at dx, its attributes -/
  | ins (C dx : Addr) (fs : List (Str × V))
  /-- the dict of the instance at x -/
  | own (x : Addr)
  /-- the dict of an exception -/
  | xd (fs : List (Str × V))
  /-- a bound method, f of x -/
  | met (f x : Addr)
  /-- a range object lo, lo + 1, .. below hi -/
  | rng (lo hi : Int)
  /-- a thing that is known to the object (the script; a dict while a loop walks it): read, never written while it is so -/
  | frz (o : Obj) (u : HO)
  /-- a code object's table -/
  | tbl (ps : Array Value)
  /-- any other thing, by what is true of its one object (a def of one's own: SetO a S n := HO.ext fun h => ..) -/
  | ext (φ : Heap → Prop)

abbrev Hp := Addr → Option HO
def upd (H : Hp) (a : Addr) (o : HO) : Hp := fun b => if b = a then some o else H b
theorem upd_same {H : Hp} {a : Addr} {o : HO} : upd H a o a = some o := by unfold upd; rw [if_pos rfl]
theorem upd_ne {H : Hp} {a b : Addr} {o : HO} (h : b ≠ a) : upd H a o b = H b := by unfold upd; rw [if_neg h]
theorem ne_of_none {H : Hp} {a b : Addr} {o : HO} (h : H a = some o) (h' : H b = none) : a ≠ b := by
  intro e; subst e; rw [h] at h'; cases h'

section
variable (P : Program) (w : World)
def ObjOk (H : Hp) (h : Heap) (a : Addr) : HO → Prop
  | .lst xs => xs.length ≤ sizeLine ∧ ∃ (its : List Value) (n : Nat), Vals xs its ∧ h.get? a = some { cls := .type "list", data := .seq its.toArray n }
  | .tup xs => xs.length ≤ sizeLine ∧ ∃ its : List Value, Vals xs its ∧ IsTup h a its.toArray
  | .dK kvs => kvs.length ≤ sizeLine ∧ (a == sysModules) = false ∧ ∃ vs, KV kvs vs ∧ h.DictOf (mixKind P w) a vs
  | .dT kvs => kvs.length ≤ sizeLine ∧ (a == sysModules) = false ∧ ∃ xs : List (List Key × Addr × Value),
      Paired (fun (p : List Key × V) (q : List Key × Addr × Value) => p.1 = q.1 ∧ H q.2.1 = some (.tup (p.1.map kV)) ∧ RelV p.2 q.2.2) kvs xs ∧
      ∃ o es ep, h.get? a = some o ∧ o.ExactDict ∧ o.data = .dict es ep ∧ es.toList = xs.map (entryOfKey (tupleKind (mixKind P w))) ∧ (xs.map (·.1)).Nodup
  | .set S n => h.SetOf (intKind P w) a S n
  | .ins C dx fs => H dx = some (.own a) ∧ fs.length ≤ 1000 ∧ dx ≠ a ∧ h.get? a = some (PySem.W.instObj C dx) ∧
      ∃ mA, h.Ns1 dx mA ∧ (∀ f, RelO (fs.lookup f) (mA f)) ∧ PySem.Within mA (fs.map (·.1))
  | .own _ => ∃ o, h.get? a = some o
  | .xd fs => ∃ mA, h.Ns1 a mA ∧ ∀ f, RelO (fs.lookup f) (mA f)
  | .rng lo hi => ∃ t u v, h.get? a = some { cls := .type "range", data := .fields #[.int lo t, .int hi u, .int 1 v] }
  | .frz o u => h.get? a = some o ∧ ObjOk H h a u
  | .tbl ps => h.get? a = some { cls := .none, data := .fields ps }
  | .met f x => h.get? a = some (PySem.W.methodObj (.ref f) (.ref x))
  | .ext φ => φ h ∧ (∃ o, h.get? a = some o) ∧ ∀ h1 h2 : Heap, φ h1 → (∀ o, h1.get? a = some o → h2.get? a = some o) → φ h2
/-- the abstract heap is held -/
def HOk (H : Hp) (h : Heap) : Prop := ∀ a o, H a = some o → ObjOk P w H h a o
end

section
variable {P : Program} {w : World} {H H' : Hp} {h h' : Heap} {a : Addr} {o : HO}
theorem ObjOk.lt (x : ObjOk P w H h a o) : a < h.objs.size := by
  cases o with
  | lst xs => obtain ⟨_, _, _, _, e⟩ := x; exact Heap.lt_size e
  | tup xs => obtain ⟨_, _, _, p⟩ := x; exact p.lt
  | dK kvs => obtain ⟨_, _, _, _, o, _, _, e, _⟩ := x; exact Heap.lt_size e
  | dT kvs => obtain ⟨_, _, _, _, o, _, _, e, _⟩ := x; exact Heap.lt_size e
  | set S n => obtain ⟨o, _, _, _, e, _⟩ := x; exact Heap.lt_size e
  | ins C dx fs => obtain ⟨_, _, _, e, _⟩ := x; exact Heap.lt_size e
  | own y => obtain ⟨_, e⟩ := x; exact Heap.lt_size e
  | xd fs => obtain ⟨_, ⟨_, _, _, e, _⟩, _⟩ := x; exact Heap.lt_size e
  | rng lo hi => obtain ⟨_, _, _, e⟩ := x; exact Heap.lt_size e
  | frz ob u => obtain ⟨e, _⟩ := x; exact Heap.lt_size e
  | tbl ps => exact Heap.lt_size (show h.get? a = some _ from x)
  | met f y => exact Heap.lt_size (show h.get? a = some _ from x)
  | ext φ => obtain ⟨_, ⟨_, e⟩, _⟩ := x; exact Heap.lt_size e
theorem Paired.mapP {α β : Type} {F G : α → β → Prop} : ∀ {l₁ : List α} {l₂ : List β}, Paired F l₁ l₂ → (∀ a b, F a b → G a b) → Paired G l₁ l₂
  | _, _, .nil, _ => .nil
  | _, _, .cons r t, f => .cons (f _ _ r) (Paired.mapP t f)
/-- what an object's description leans on: its own object, its own dict, the tuples -/
theorem ObjOk.stay (x : ObjOk P w H h a o) (k : ∀ b u, (b = a ∨ H b = some (.own a)) → h.get? b = some u → h'.get? b = some u)
    (ho : ∀ b, H b = some (.own a) → H' b = some (.own a)) (ht : ∀ b xs, H b = some (.tup xs) → H' b = some (.tup xs)) : ObjOk P w H' h' a o := by
  induction o with
  | lst xs => obtain ⟨z, its, n, r, e⟩ := x; exact ⟨z, its, n, r, k _ _ (.inl rfl) e⟩
  | tup xs => obtain ⟨z, its, r, ob, e, c⟩ := x; exact ⟨z, its, r, ob, k _ _ (.inl rfl) e, c⟩
  | dK kvs => obtain ⟨z, y, vs, r, ob, es, ep, e, c⟩ := x; exact ⟨z, y, vs, r, ob, es, ep, k _ _ (.inl rfl) e, c⟩
  | dT kvs =>
    obtain ⟨z, y, xs, r, ob, es, ep, e, c⟩ := x
    exact ⟨z, y, xs, Paired.mapP r fun p q z => ⟨z.1, ht _ _ z.2.1, z.2.2⟩, ob, es, ep, k _ _ (.inl rfl) e, c⟩
  | set S n => obtain ⟨ob, es, ep, t, e, c⟩ := x; exact ⟨ob, es, ep, t, k _ _ (.inl rfl) e, c⟩
  | ins C dx fs =>
    obtain ⟨d, z, ne, e, mA, ⟨od, es, ep, e2, c⟩, r⟩ := x
    exact ⟨ho _ d, z, ne, k _ _ (.inl rfl) e, mA, ⟨od, es, ep, k _ _ (.inr d) e2, c⟩, r⟩
  | own y => obtain ⟨ob, e⟩ := x; exact ⟨ob, k _ _ (.inl rfl) e⟩
  | xd fs => obtain ⟨mA, ⟨od, es, ep, e, c⟩, r⟩ := x; exact ⟨mA, ⟨od, es, ep, k _ _ (.inl rfl) e, c⟩, r⟩
  | rng lo hi => obtain ⟨t, u, v, e⟩ := x; exact ⟨t, u, v, k _ _ (.inl rfl) e⟩
  | frz ob u ih => obtain ⟨e, q⟩ := x; exact ⟨k _ _ (.inl rfl) e, ih q⟩
  | tbl ps =>
    have e : h.get? a = some { cls := .none, data := .fields ps } := x
    show h'.get? a = some { cls := .none, data := .fields ps }
    exact k a _ (.inl rfl) e
  | met f y =>
    have e : h.get? a = some (PySem.W.methodObj (.ref f) (.ref y)) := x
    show h'.get? a = some (PySem.W.methodObj (.ref f) (.ref y))
    exact k a _ (.inl rfl) e
  | ext φ => obtain ⟨p, ⟨o, e⟩, st⟩ := x; exact ⟨st _ _ p fun o q => k _ _ (.inl rfl) q, ⟨o, k _ _ (.inl rfl) e⟩, st⟩
theorem HOk.lt (x : HOk P w H h) (e : H a = some o) : a < h.objs.size := (x a o e).lt
theorem HOk.fresh (x : HOk P w H h) (e : h.objs.size ≤ a) : H a = none := by
  cases q : H a with
  | none => rfl
  | some u => exact absurd (Nat.lt_of_lt_of_le (x.lt q) e) (Nat.lt_irrefl _)
/-- every object of the heap is kept -/
theorem HOk.kept (x : HOk P w H h) (k : ∀ b u, h.get? b = some u → h'.get? b = some u) : HOk P w H h' := fun a o e =>
  (x a o e).stay (fun b u _ q => k b u q) (fun _ q => q) fun _ _ q => q
/-- a new object is laid and tracked -/
theorem HOk.laid (x : HOk P w H h) (k : ∀ b u, h.get? b = some u → h'.get? b = some u) (hp : h.objs.size ≤ a) (new : ObjOk P w (upd H a o) h' a o) : HOk P w (upd H a o) h' := fun b u e => by
  have hn := x.fresh hp
  by_cases hb : b = a
  · subst hb; rw [upd_same] at e; cases e; exact new
  · rw [upd_ne hb] at e
    exact (x b u e).stay (fun c v _ q => k c v q) (fun c q => by rw [upd_ne (ne_of_none q hn)]; exact q) fun c xs q => by rw [upd_ne (ne_of_none q hn)]; exact q
end

/-- what may be read as u: it is u, or a known u -/
def Rd (H : Hp) (a : Addr) (u : HO) : Prop := H a = some u ∨ ∃ o, H a = some (.frz o u)
theorem Rd.of {H : Hp} {a : Addr} {u : HO} (h : H a = some u) : Rd H a u := .inl h
theorem Rd.ok {P : Program} {w : World} {H : Hp} {h : Heap} {a : Addr} {u : HO} (r : Rd H a u) (x : HOk P w H h) : ObjOk P w H h a u := by
  rcases r with r | ⟨o, r⟩
  · exact x a u r
  · obtain ⟨_, q⟩ := x a _ r
    exact q
/-- what may be written -/
def Mut : Option HO → Prop
  | some (.lst _) => True
  | some (.dK _) => True
  | some (.dT _) => True
  | some (.set _ _) => True
  | some (.ins _ _ _) => True
  | some (.ext _) => True
  | _ => False
section
variable {P : Program} {w : World} {H : Hp} {h h' : Heap} {x e : Addr} {o' : HO}
/-- the object at e is changed: x itself, or the dict of the instance x -/
theorem HOk.write (ok : HOk P w H h) (mu : Mut (H x)) (he : e = x ∨ H e = some (.own x)) (k : ∀ b u, b ≠ e → h.get? b = some u → h'.get? b = some u) (heo : ∃ u, h'.get? e = some u)
    (new : ObjOk P w (upd H x o') h' x o') : HOk P w (upd H x o') h' := fun b u q => by
  have nown : ∀ c y, H c = some (.own y) → c ≠ x := fun c y r z => by subst z; rw [r] at mu; exact mu
  have ntup : ∀ c xs, H c = some (.tup xs) → c ≠ x := fun c xs r z => by subst z; rw [r] at mu; exact mu
  by_cases hb : b = x
  · subst hb; rw [upd_same] at q; cases q; exact new
  · rw [upd_ne hb] at q
    by_cases hbe : b = e
    · have q' : H b = some (.own x) := by
        rcases he with z | z
        · exact absurd (hbe.trans z) hb
        · rw [hbe]; exact z
      rw [q] at q'; cases q'
      obtain ⟨v, hv⟩ := heo
      exact ⟨v, by rw [hbe]; exact hv⟩
    · refine (ok b u q).stay (fun c v hc r => k c v ?_ r) (fun c r => by rw [upd_ne (nown c b r)]; exact r) fun c xs r => by rw [upd_ne (ntup c xs r)]; exact r
      rcases hc with rfl | hc
      · exact hbe
      · rintro rfl
        rcases he with z | z
        · exact nown c b hc z
        · rw [hc] at z; cases z; exact hb rfl
end

/-! ### kept unless tracked; of the frames at fs (the callers') the slots may change (an exception that passes writes there); of the records at ex (iterators) nothing is said -/
structure Un (fs ex : List Addr) (H H' : Hp) (h h' : Heap) : Prop where
  keep : ∀ b o, h.get? b = some o → H b = none → b ∉ fs → b ∉ ex → h'.get? b = some o
  slot : ∀ b o, h.get? b = some o → H b = none → b ∈ fs → b ∉ ex → ∃ sl, h'.get? b = some { o with slots := sl }
  free : ∀ b o, h.get? b = some o → H b = none → b ∉ ex → H' b = none
  there : ∀ b o, h.get? b = some o → b ∉ ex → ∃ o', h'.get? b = some o'
  tups : ∀ b xs, H b = some (.tup xs) → H' b = some (.tup xs)
  frzs : ∀ b o u, H b = some (.frz o u) → H' b = some (.frz o u)
  tbls : ∀ b ps, H b = some (.tbl ps) → ∃ more, H' b = some (.tbl (ps ++ more))
section
variable {fs fs' ex ex' : List Addr} {H H1 H2 : Hp} {h h1 h2 h' : Heap} {a x e : Addr} {o : HO}
theorem Un.any (u : Un fs ex H H1 h h1) {b : Addr} {ob : Obj} (q : h.get? b = some ob) (n : H b = none) (hx : b ∉ ex) : ∃ sl, h1.get? b = some { ob with slots := sl } := by
  by_cases hb : b ∈ fs
  · exact u.slot b ob q n hb hx
  · exact ⟨ob.slots, u.keep b ob q n hb hx⟩
theorem Un.trans (a : Un fs ex H H1 h h1) (b : Un fs ex H1 H2 h1 h2) : Un fs ex H H2 h h2 where
  keep := fun c ob q n hc hx => b.keep c ob (a.keep c ob q n hc hx) (a.free c ob q n hx) hc hx
  slot := fun c ob q n hc hx => by
    obtain ⟨sl, e1⟩ := a.slot c ob q n hc hx
    obtain ⟨sl', e2⟩ := b.slot c _ e1 (a.free c ob q n hx) hc hx
    exact ⟨sl', e2⟩
  free := fun c ob q n hx => by
    obtain ⟨o', e1⟩ := a.there c ob q hx
    exact b.free c o' e1 (a.free c ob q n hx) hx
  there := fun c ob q hx => by
    obtain ⟨o', e1⟩ := a.there c ob q hx
    exact b.there c o' e1 hx
  tups := fun c xs q => b.tups c xs (a.tups c xs q)
  frzs := fun c ob xs q => b.frzs c ob xs (a.frzs c ob xs q)
  tbls := fun c ps q => by
    obtain ⟨m1, e1⟩ := a.tbls c ps q
    obtain ⟨m2, e2⟩ := b.tbls c _ e1
    exact ⟨m1 ++ m2, by rw [e2, Array.append_assoc]⟩
theorem Un.kept (k : ∀ b u, h.get? b = some u → h'.get? b = some u) : Un fs ex H H h h' :=
  ⟨fun b ob q _ _ _ => k b ob q, fun b ob q _ _ _ => ⟨ob.slots, k b ob q⟩, fun _ _ _ n _ => n, fun b ob q _ => ⟨ob, k b ob q⟩, fun _ _ q => q, fun _ _ _ q => q, fun _ ps q => ⟨#[], by rw [q]; simp⟩⟩
theorem Un.refl : Un fs ex H H h h := Un.kept fun _ _ q => q
theorem Un.laid (k : ∀ b u, h.get? b = some u → h'.get? b = some u) (hp : h.objs.size ≤ a) (hn : H a = none) : Un fs ex H (upd H a o) h h' where
  keep := fun b u q _ _ _ => k b u q
  slot := fun b u q _ _ _ => ⟨u.slots, k b u q⟩
  free := fun b u q n _ => by rw [upd_ne (Nat.ne_of_lt (Nat.lt_of_lt_of_le (Heap.lt_size q) hp))]; exact n
  there := fun b u q _ => ⟨u, k b u q⟩
  tups := fun b xs q => by rw [upd_ne (ne_of_none q hn)]; exact q
  frzs := fun b u xs q => by rw [upd_ne (ne_of_none q hn)]; exact q
  tbls := fun b ps q => ⟨#[], by rw [upd_ne (ne_of_none q hn), q]; simp⟩
theorem Un.write (mu : Mut (H x)) (he : e = x ∨ H e = some (.own x)) (k : ∀ b u, b ≠ e → h.get? b = some u → h'.get? b = some u) (heo : ∃ u, h'.get? e = some u) : Un fs ex H (upd H x o) h h' := by
  have hx : ∀ b, H b = none → b ≠ x := fun b n z => by subst z; rw [n] at mu; exact mu
  have hb : ∀ b, H b = none → b ≠ e := fun b n z => by
    subst z
    rcases he with r | r
    · exact hx b n r
    · rw [n] at r; cases r
  have hm : ∀ b u, H b = some u → ¬ Mut (some u) → b ≠ x := fun b u q nm z => by subst z; rw [q] at mu; exact nm mu
  refine ⟨fun b u q n _ _ => k b u (hb b n) q, fun b u q n _ _ => ⟨u.slots, k b u (hb b n) q⟩, fun b u q n _ => by rw [upd_ne (hx b n)]; exact n, fun b u q _ => ?_,
    fun b xs q => by rw [upd_ne (hm b _ q fun z => z)]; exact q, fun b u xs q => by rw [upd_ne (hm b _ q fun z => z)]; exact q, fun b ps q => ⟨#[], by rw [upd_ne (hm b _ q fun z => z), q]; simp⟩⟩
  by_cases hbe : b = e
  · subst hbe; exact heo
  · exact ⟨u, k b u hbe q⟩
theorem Un.mono (u : Un fs ex H H1 h h1) (hs : ∀ b ∈ fs, b ∈ fs') (hx : ∀ b ∈ ex, b ∈ ex') : Un fs' ex' H H1 h h1 :=
  ⟨fun b ob q n hb he => u.keep b ob q n (fun z => hb (hs b z)) fun z => he (hx b z), fun _ _ q n _ he => u.any q n fun z => he (hx _ z), fun b ob q n he => u.free b ob q n fun z => he (hx b z), fun b ob q he => u.there b ob q fun z => he (hx b z), u.tups, u.frzs, u.tbls⟩
end

/-! ### the heap without what is tracked -/
def trk (h : Heap) (H : Hp) : List Addr := (List.range h.objs.size).filter fun a => (H a).isSome
def hidT (h : Heap) (H : Hp) : Heap := PySem.W.hideAll h (trk h H)
theorem hidT_size (h : Heap) (H : Hp) : (hidT h H).objs.size = h.objs.size := PySem.W.hideAll_size _ _
theorem hidT_get {h : Heap} {H : Hp} {b : Addr} {o : Obj} (e : h.get? b = some o) (n : H b = none) : (hidT h H).get? b = some o :=
  PySem.W.hideAll_get _ e fun hm => by
    have q : (H b).isSome = true := (List.mem_filter.mp hm).2
    rw [n] at q; simp at q
theorem of_hidT {h : Heap} {H : Hp} {b : Addr} {o : Obj} (e : (hidT h H).get? b = some o) : h.get? b = some o ∧ H b = none := by
  have e' : h.get? b = some o := PySem.W.of_hideAll (trk h H) e
  refine ⟨e', ?_⟩
  cases q : H b with
  | none => rfl
  | some x =>
    have hm : b ∈ trk h H := List.mem_filter.mpr ⟨List.mem_range.mpr (Heap.lt_size e'), by simp [q]⟩
    have z : (hidT h H).get? b = none := PySem.W.hideAll_none (trk h H) hm
    rw [z] at e; cases e

/-! ### OpenK's ledger, filled with every new object but one -/
def allNews (g h : Heap) (L : Addr) : List (Addr × Obj) := (List.range h.objs.size).filterMap fun a => if a = L ∨ (g.get? a).isSome = true then none else (h.get? a).map fun o => (a, o)
def rest (g h : Heap) (L d : Addr) : List (Addr × Obj) := (allNews g h L).filter fun p => decide (p.1 ≠ d)
end L2

namespace L2
open PySem PySem.Spec PyProof.Rows

/-- the module's facts, over the base: the heap at the law's entry without what is tracked there -/
structure Mod (K : PySem.W.Frag) (mg : Str → Option Value) (base : Heap) : Prop where
  kin : K.In base
  glob : base.Ns mainGlobals mg
  blt : ∃ mb, base.Ns builtinsNs mb ∧ ∀ x : Str, x ≠ "__name__" → mb x = bootBuiltins x
  nolimit : base.NoLimit

/-- the context: a def's body (or a comprehension's block) running. base: fixed through the whole law; s₀, H₀: the entry; outer: the frames whose slots others may change (a def's callers); stack: all frames that run;
   ex: iterators that were made ahead of the entry and are walked here (a comprehension's); fn: the names whose cells were made at the entry (a def: all; a comprehension's block: its own); calm: not within an except suite; pn: pins that every state bears; xe: what is wanted of an exception that leaves the code -/
structure Cx where
  prog : Program
  w : World
  K : PySem.W.Frag
  mg : Str → Option Value
  base : Heap
  A : Around
  N : List Str
  s₀ : Shared
  H₀ : Hp
  env : Env
  outer : List Env
  stack : List Env
  ex : List Addr
  fn : Str → Bool
  calm : Bool
  pn : List (Addr × Obj)
  xe : Value → Shared → Prop
/-- the callers' frames -/
def frs (l : List Env) : List Addr := l.filterMap (·.frame)
abbrev Cx.fs (X : Cx) : List Addr := frs X.outer

def Vis (sc : Scope) (x : Str) : Prop := sc.names.lookup x = some .local ∨ sc.names.lookup x = some .cell ∨ sc.names.lookup x = some .free
def Loc (sc : Scope) (x : Str) : Prop := sc.names.lookup x = some .local ∨ sc.names.lookup x = some .cell
def Look (env : Env) (h : Heap) (m : Str → Option Value) (x : Str) (u : Value) : Prop :=
  (env.kindOf x = some .local ∧ m x = some u) ∨ ((env.kindOf x = some .cell ∨ env.kindOf x = some .free) ∧ ∃ c, env.cells.lookup x = some c ∧ h.IsCell c (some u))

structure Cx.Ok (X : Cx) : Prop where
  mod : Mod X.K X.mg X.base
  kind : X.env.scope.kind = .function
  glob : X.env.globals = mainGlobals
  blt : X.env.builtins = builtinsNs
  above : X.s₀.heap.objs.size ≤ X.env.locals
  inj : ∀ x y c, X.env.cells.lookup x = some c → X.env.cells.lookup y = some c → x = y
  has : ∀ x, (X.env.kindOf x = some .cell ∨ X.env.kindOf x = some .free) → ∃ c, X.env.cells.lookup x = some c
  cab : ∀ x c, X.fn x = true → X.env.cells.lookup x = some c → X.s₀.heap.objs.size ≤ c
  hd : X.calm = true → X.A.handled = none
  frames : X.A.frames = some X.stack
  stk : X.stack = X.outer ∨ (X.stack = X.env :: X.outer ∧ X.env.frame = some X.env.locals)
  exf : ∀ b ∈ X.ex, b ≠ X.env.locals ∧ ∀ x c, X.env.cells.lookup x = some c → c ≠ b
  bs : ∀ b o, X.base.get? b = some o → X.s₀.heap.get? b = some o ∧ X.H₀ b = none
  bsz : X.base.objs.size ≤ X.s₀.heap.objs.size
  noex : ∀ b o, X.base.get? b = some o → b ∉ X.ex
  exfs : ∀ b ∈ X.ex, b ∉ X.fs
  funs : X.s₀.heap.FunFrames X.base X.outer
  frf : ∀ b ∈ X.fs, X.H₀ b = none

structure Inv (X : Cx) (pins : List (Addr × Obj)) (σ : List (Option V)) (H : Hp) (s : Shared) : Prop where
  ok : X.Ok
  os : s.os = X.s₀.os
  bare : AllBare s.gens
  base : Un X.fs X.ex X.H₀ H X.s₀.heap s.heap
  loc : ∃ m, s.heap.Ns X.env.locals m ∧ ∀ (i : Nat) (x : Str) (v : V), X.N[i]? = some x → σ[i]? = some (some v) → Vis X.env.scope x → ∃ u, RelV v u ∧ Look X.env s.heap m x u
  cell : ∀ x c, X.env.cells.lookup x = some c → ∃ v, s.heap.IsCell c v
  free : H X.env.locals = none
  freeC : ∀ x c, X.env.cells.lookup x = some c → H c = none
  pin : ∀ p ∈ X.pn ++ pins, s.heap.get? p.1 = some p.2 ∧ H p.1 = none ∧ p.1 ≠ X.env.locals ∧ p.1 ∉ X.fs ∧ ∀ v, p.2.data ≠ .cell v
  hok : HOk X.prog X.w H s.heap
  len : σ.length = X.N.length

section
variable {X : Cx} {pins : List (Addr × Obj)} {σ : List (Option V)} {H H' : Hp} {s : Shared} {h' : Heap}

theorem Cx.Ok.nofr (ok : X.Ok) {b : Addr} {o : Obj} (e : X.base.get? b = some o) : b ∉ X.fs := fun hb => by
  have := (ok.funs.mem hb).1
  rw [e] at this; cases this
theorem Inv.bs (I : Inv X pins σ H s) : ∀ b o, X.base.get? b = some o → s.heap.get? b = some o ∧ H b = none := fun b o e =>
  ⟨I.base.keep b o (I.ok.bs b o e).1 (I.ok.bs b o e).2 (I.ok.nofr e) (I.ok.noex b o e), I.base.free b o (I.ok.bs b o e).1 (I.ok.bs b o e).2 (I.ok.noex b o e)⟩
theorem Inv.bk (I : Inv X pins σ H s) : ∀ b o, X.base.get? b = some o → s.heap.get? b = some o := fun b o e => (I.bs b o e).1
theorem Inv.mod (I : Inv X pins σ H s) : Mod X.K X.mg X.base := I.ok.mod
theorem Inv.kIn (I : Inv X pins σ H s) : X.K.In s.heap := I.ok.mod.kin.keeps I.bk
theorem Inv.nolimit (I : Inv X pins σ H s) : s.heap.NoLimit := I.ok.mod.nolimit.keeps I.bk
/-- the frame over the base: for OpenK's rules (K.In X.base is I.mod.kin) -/
theorem Inv.fr (I : Inv X pins σ H s) : ∃ m, Fr X.base X.env.locals s.heap m :=
  let ⟨m, hn, _⟩ := I.loc
  ⟨m, hn, I.bk, Nat.le_trans I.ok.bsz I.ok.above⟩
theorem Inv.lt (I : Inv X pins σ H s) : X.env.locals < s.heap.objs.size := let ⟨_, hn, _⟩ := I.loc; hn.lt
theorem Inv.sz (I : Inv X pins σ H s) : X.s₀.heap.objs.size ≤ s.heap.objs.size := Nat.le_trans I.ok.above (Nat.le_of_lt I.lt)
theorem Inv.nofs (I : Inv X pins σ H s) {a : Addr} (h : s.heap.objs.size ≤ a) : a ∉ X.fs := fun hb => by
  obtain ⟨_, o, ho, _⟩ := I.ok.funs.mem hb
  exact absurd (Nat.lt_of_lt_of_le (Heap.lt_size ho) (Nat.le_trans I.sz h)) (Nat.lt_irrefl _)
theorem Inv.cne (I : Inv X pins σ H s) : ∀ x c, X.env.cells.lookup x = some c → c ≠ X.env.locals := fun x c e z => by
  obtain ⟨v, o, ho, hd⟩ := I.cell x c e
  obtain ⟨m, ⟨o', es, ep, ho', hd', _⟩, _⟩ := I.loc
  rw [z, ho'] at ho; cases ho; rw [hd'] at hd; cases hd
theorem Inv.funs (I : Inv X pins σ H s) : s.heap.FunFrames X.base X.outer := by
  have all : ∀ (l : List Env), (∀ b ∈ frs l, b ∈ X.fs) → X.s₀.heap.FunFrames X.base l → s.heap.FunFrames X.base l := by
    intro l
    induction l with
    | nil => intro _ _; trivial
    | cons env r ih =>
      intro hs hl
      obtain ⟨hk, ⟨L, o, hf, hn, ho, hd⟩, hr⟩ := hl
      have hL : L ∈ X.fs := hs L (by unfold frs; rw [List.filterMap_cons, hf]; exact List.mem_cons_self)
      obtain ⟨sl, e⟩ := I.base.slot L o ho (I.ok.frf L hL) hL fun z => I.ok.exfs L z hL
      exact ⟨hk, ⟨L, _, hf, hn, e, hd⟩, ih (fun b hb => hs b (by unfold frs; rw [List.filterMap_cons, hf]; exact List.mem_cons_of_mem _ hb)) hr⟩
  exact all X.outer (fun _ hb => hb) I.ok.funs

/-- the frames that run, for a call -/
theorem Inv.stack (I : Inv X pins σ H s) : s.heap.FunFrames X.base X.stack := by
  rcases I.ok.stk with e | ⟨e, hf⟩
  · rw [e]; exact I.funs
  · rw [e]
    obtain ⟨m, hn, _⟩ := I.loc
    refine .cons (by rw [I.ok.kind]; decide) hf hn ?_ I.funs
    exact Heap.get?_none_of_le (Nat.le_trans I.ok.bsz I.ok.above)
theorem Inv.stkSub (I : Inv X pins σ H s) : ∀ b ∈ frs X.stack, b ∈ X.env.locals :: X.fs := fun b hb => by
  rcases I.ok.stk with e | ⟨e, hf⟩
  · rw [e] at hb; exact List.mem_cons_of_mem _ hb
  · rw [e] at hb
    unfold frs at hb
    rw [List.filterMap_cons, hf] at hb
    exact hb
theorem Inv.stkFree (I : Inv X pins σ H s) : ∀ b ∈ frs X.stack, H b = none := fun b hb => by
  rcases List.mem_cons.mp (I.stkSub b hb) with e | hb
  · rw [e]; exact I.free
  · obtain ⟨_, o, ho, _⟩ := I.ok.funs.mem hb
    exact I.base.free b o ho (I.ok.frf b hb) fun z => I.ok.exfs b z hb

/-- THE STEP: the untracked objects but the frame and the records at ch are kept (the callers' frames up to slots), the frame's map is kept, the new abstract heap is held -/
theorem Inv.step {g' : Array GenState} {t' : Nat} {d' : Drawn} {ch : List Addr} (I : Inv X pins σ H s)
    (hch : ∀ b ∈ ch, (b ∈ X.ex ∨ X.s₀.heap.objs.size ≤ b) ∧ b ≠ X.env.locals ∧ (∀ x c, X.env.cells.lookup x = some c → c ≠ b) ∧ ∀ p ∈ X.pn ++ pins, p.1 ≠ b)
    (keep : ∀ b o, b ≠ X.env.locals → b ∉ X.fs → b ∉ ch → s.heap.get? b = some o → H b = none → h'.get? b = some o)
    (slot : ∀ b o, b ≠ X.env.locals → b ∈ X.fs → b ∉ ch → s.heap.get? b = some o → H b = none → ∃ sl, h'.get? b = some { o with slots := sl }) (free : ∀ b o, b ∉ ch → s.heap.get? b = some o → H b = none → H' b = none)
    (there : ∀ b o, b ∉ ch → s.heap.get? b = some o → ∃ o', h'.get? b = some o')
    (tups : ∀ b xs, H b = some (.tup xs) → H' b = some (.tup xs)) (frzs : ∀ b o u, H b = some (.frz o u) → H' b = some (.frz o u)) (tbls : ∀ b ps, H b = some (.tbl ps) → ∃ more, H' b = some (.tbl (ps ++ more)))
    (ns : ∀ m, s.heap.Ns X.env.locals m → h'.Ns X.env.locals m) (hok : HOk X.prog X.w H' h') (hg : AllBare g') :
    Inv X pins σ H' { s with heap := h', gens := g', drawn := d', toks := t' } := by
  have neL : ∀ b o, X.s₀.heap.get? b = some o → b ≠ X.env.locals := fun b o e => Nat.ne_of_lt (Nat.lt_of_lt_of_le (Heap.lt_size e) I.ok.above)
  have neC : ∀ b o, X.s₀.heap.get? b = some o → b ∉ X.ex → b ∉ ch := fun b o e hx hb => by
    rcases (hch b hb).1 with z | z
    · exact hx z
    · exact absurd (Nat.lt_of_lt_of_le (Heap.lt_size e) z) (Nat.lt_irrefl _)
  have cellK : ∀ x c, X.env.cells.lookup x = some c → ∀ v, s.heap.IsCell c v → h'.IsCell c v := fun x c e v ⟨o, ho, hd⟩ => by
    have nch : c ∉ ch := fun z => (hch c z).2.2.1 x c e rfl
    by_cases hc : c ∈ X.fs
    · obtain ⟨sl, q⟩ := slot c o (I.cne x c e) hc nch ho (I.freeC x c e)
      exact ⟨_, q, hd⟩
    · exact ⟨o, keep c o (I.cne x c e) hc nch ho (I.freeC x c e), hd⟩
  refine ⟨I.ok, I.os, hg, ⟨fun b o e n hb hx => ?_, fun b o e n hb hx => ?_, fun b o e n hx => ?_, fun b o e hx => ?_, fun b xs e => tups b xs (I.base.tups b xs e), fun b o xs e => frzs b o xs (I.base.frzs b o xs e), fun b ps e => ?_⟩, ?_, fun x c e => ?_, ?_, fun x c e => ?_, fun p hp => ?_, hok, I.len⟩
  · exact keep b o (neL b o e) hb (neC b o e hx) (I.base.keep b o e n hb hx) (I.base.free b o e n hx)
  · obtain ⟨sl, e1⟩ := I.base.slot b o e n hb hx
    obtain ⟨sl', e2⟩ := slot b _ (neL b o e) hb (neC b o e hx) e1 (I.base.free b o e n hx)
    exact ⟨sl', e2⟩
  · obtain ⟨o', e1⟩ := I.base.there b o e hx
    exact free b o' (neC b o e hx) e1 (I.base.free b o e n hx)
  · obtain ⟨o', e1⟩ := I.base.there b o e hx
    exact there b o' (neC b o e hx) e1
  · obtain ⟨m1, e1⟩ := I.base.tbls b ps e
    obtain ⟨m2, e2⟩ := tbls b _ e1
    exact ⟨m1 ++ m2, by rw [e2, Array.append_assoc]⟩
  · obtain ⟨m, hn, hl⟩ := I.loc
    refine ⟨m, ns m hn, fun i x v e1 e2 e3 => ?_⟩
    obtain ⟨u, r, l⟩ := hl i x v e1 e2 e3
    refine ⟨u, r, ?_⟩
    rcases l with l | ⟨k, c, e, z⟩
    · exact .inl l
    · exact .inr ⟨k, c, e, cellK x c e _ z⟩
  · obtain ⟨v, z⟩ := I.cell x c e
    exact ⟨v, cellK x c e v z⟩
  · obtain ⟨m, ⟨o, _, _, ho, _⟩, _⟩ := I.loc
    exact free _ o (fun z => (hch _ z).2.1 rfl) ho I.free
  · obtain ⟨v, o, ho, hd⟩ := I.cell x c e
    exact free c o (fun z => (hch c z).2.2.1 x c e rfl) ho (I.freeC x c e)
  · obtain ⟨e, n, ne, nf, d⟩ := I.pin p hp
    have nch : p.1 ∉ ch := fun z => (hch p.1 z).2.2.2 p hp rfl
    exact ⟨keep p.1 p.2 ne nf nch e n, free p.1 p.2 nch e n, ne, nf, d⟩
/-- .. where the frame's own object is kept too -/
theorem Inv.un {t' : Nat} (I : Inv X pins σ H s) (u : Un X.fs [] H H' s.heap h') (hok : HOk X.prog X.w H' h') : Inv X pins σ H' { s with heap := h', toks := t' } := by
  obtain ⟨m, ⟨o, es, ep, ho, r⟩, _⟩ := id I.loc
  obtain ⟨sl, hL⟩ := u.any ho I.free (by simp)
  exact I.step (g' := s.gens) (d' := s.drawn) (ch := []) (fun _ z => nomatch z) (fun b o _ hb _ e n => u.keep b o e n hb (by simp)) (fun b o _ hb _ e n => u.slot b o e n hb (by simp)) (fun b o _ e n => u.free b o e n (by simp)) (fun b o _ e => u.there b o e (by simp)) u.tups u.frzs u.tbls (fun m' hm => by
    obtain ⟨o', es', ep', ho', r'⟩ := hm
    rw [ho] at ho'; cases ho'
    exact ⟨_, es', ep', hL, r'⟩) hok I.bare
/-- behind a call (or a comprehension's block): the slots of this frame may have changed too, the records at ch may have turned -/
theorem Inv.call {g' : Array GenState} {t' : Nat} {d' : Drawn} {ch : List Addr} (I : Inv X pins σ H s) (u : Un (frs X.stack) ch H H' s.heap h') (hok : HOk X.prog X.w H' h') (hg : AllBare g')
    (hch : ∀ b ∈ ch, (b ∈ X.ex ∨ X.s₀.heap.objs.size ≤ b) ∧ b ≠ X.env.locals ∧ (∀ x c, X.env.cells.lookup x = some c → c ≠ b) ∧ ∀ p ∈ X.pn ++ pins, p.1 ≠ b) :
    Inv X pins σ H' { s with heap := h', gens := g', drawn := d', toks := t' } := by
  obtain ⟨m, ⟨o, es, ep, ho, r⟩, _⟩ := id I.loc
  obtain ⟨sl, hL⟩ := u.any ho I.free fun z => (hch _ z).2.1 rfl
  exact I.step (ch := ch) hch (fun b o hL hb hc e n => u.keep b o e n (fun z => (List.mem_cons.mp (I.stkSub b z)).elim hL hb) hc) (fun b o _ _ hc e n => u.any e n hc) (fun b o hc e n => u.free b o e n hc) (fun b o hc e => u.there b o e hc) u.tups u.frzs u.tbls (fun m' hm => by
    obtain ⟨o', es', ep', ho', r'⟩ := hm
    rw [ho] at ho'; cases ho'
    exact ⟨_, es', ep', hL, r'⟩) hok hg
/-- an untracked record of ours (an iterator) has turned -/
theorem Inv.turned {t' : Nat} {it : Addr} (I : Inv X pins σ H s) (k : ∀ b o, b ≠ it → s.heap.get? b = some o → h'.get? b = some o) (hn : H it = none) (hL : it ≠ X.env.locals)
    (h1 : it ∈ X.ex ∨ X.s₀.heap.objs.size ≤ it) (h2 : ∀ x c, X.env.cells.lookup x = some c → c ≠ it) (h3 : ∀ p ∈ X.pn ++ pins, p.1 ≠ it) : Inv X pins σ H { s with heap := h', toks := t' } := by
  have nit : ∀ b u, H b = some u → b ≠ it := fun b u e z => by rw [z, hn] at e; cases e
  refine I.step (g' := s.gens) (d' := s.drawn) (ch := [it]) (fun b hb => ?_) (fun b o _ _ hc e _ => k b o (fun z => hc (by simp [z])) e) (fun b o _ _ hc e _ => ⟨o.slots, k b o (fun z => hc (by simp [z])) e⟩) (fun _ _ _ _ n => n)
    (fun b o hc e => ⟨o, k b o (fun z => hc (by simp [z])) e⟩) (fun _ _ e => e) (fun _ _ _ e => e) (fun b ps e => ⟨#[], by rw [e]; simp⟩) (fun m hm => ?_) (fun b u e => ?_) I.bare
  · have e : b = it := by simpa using hb
    subst e
    exact ⟨h1, hL, h2, h3⟩
  · obtain ⟨o, es, ep, ho, r⟩ := hm
    exact ⟨o, es, ep, k _ o (Ne.symm hL) ho, r⟩
  · refine (I.hok b u e).stay (fun c v hc q => k c v ?_ q) (fun _ q => q) fun _ _ q => q
    rcases hc with z | z
    · rw [z]; exact nit b u e
    · exact nit c _ z
theorem Inv.tok (I : Inv X pins σ H s) (t : Nat) : Inv X pins σ H { s with toks := t } := I.un (h' := s.heap) (t' := t) Un.refl I.hok
/-- all objects kept -/
theorem Inv.kept {t' : Nat} (I : Inv X pins σ H s) (k : ∀ b u, s.heap.get? b = some u → h'.get? b = some u) : Inv X pins σ H { s with heap := h', toks := t' } := I.un (Un.kept k) (I.hok.kept k)
/-- a new object laid and tracked -/
theorem Inv.laid {a : Addr} {o : HO} {t' : Nat} (I : Inv X pins σ H s) (k : ∀ b u, s.heap.get? b = some u → h'.get? b = some u) (hp : s.heap.objs.size ≤ a) (new : ObjOk X.prog X.w (upd H a o) h' a o) :
    Inv X pins σ (upd H a o) { s with heap := h', toks := t' } := I.un (Un.laid k hp (I.hok.fresh hp)) (I.hok.laid k hp new)
/-- an object written -/
theorem Inv.write {x e : Addr} {o : HO} {t' : Nat} (I : Inv X pins σ H s) (mu : Mut (H x)) (he : e = x ∨ H e = some (.own x)) (k : ∀ b u, b ≠ e → s.heap.get? b = some u → h'.get? b = some u) (heo : ∃ u, h'.get? e = some u)
    (new : ObjOk X.prog X.w (upd H x o) h' x o) : Inv X pins σ (upd H x o) { s with heap := h', toks := t' } := I.un (Un.write mu he k heo) (I.hok.write mu he k heo new)
/-- forgetting slots, pins -/
theorem Inv.weak {σ' : List (Option V)} (I : Inv X pins σ H s) (hl : σ'.length = σ.length) (w : ∀ (i : Nat) v, σ'[i]? = some (some v) → σ[i]? = some (some v)) : Inv X pins σ' H s :=
  ⟨I.ok, I.os, I.bare, I.base, let ⟨m, hn, hl'⟩ := I.loc; ⟨m, hn, fun i x v e1 e2 e3 => hl' i x v e1 (w i v e2) e3⟩, I.cell, I.free, I.freeC, I.pin, I.hok, hl.trans I.len⟩
theorem Inv.pins_of {pins' : List (Addr × Obj)} (I : Inv X pins σ H s) (h : ∀ p ∈ pins', s.heap.get? p.1 = some p.2 ∧ H p.1 = none ∧ p.1 ≠ X.env.locals ∧ p.1 ∉ X.fs ∧ ∀ v, p.2.data ≠ .cell v) : Inv X pins' σ H s :=
  ⟨I.ok, I.os, I.bare, I.base, I.loc, I.cell, I.free, I.freeC, fun p hp => (List.mem_append.mp hp).elim (fun z => I.pin p (List.mem_append_left _ z)) (h p), I.hok, I.len⟩

theorem nodup_ix {N : List Str} (hN : N.Nodup) {i j : Nat} {x : Str} (a : N[i]? = some x) (b : N[j]? = some x) : i = j := by
  obtain ⟨h1, e1⟩ := List.getElem?_eq_some_iff.mp a
  obtain ⟨h2, e2⟩ := List.getElem?_eq_some_iff.mp b
  exact (List.getElem_inj hN).mp (e1.trans e2.symm)

/-- a name is stored; what changed -/
theorem store_ok2 {M : Model} {A : Around} {E : Value → Shared → Prop} {i : Nat} {x : Str} {v : V} {u : Value} {Q : Unit → Shared → Prop} (I : Inv X pins σ H s) (hN : X.N.Nodup) (hi : X.N[i]? = some x) (hx : Loc X.env.scope x) (r : RelV v u)
    (h : ∀ s', Inv X pins (σ.set i (some v)) H s' → (∃ a, Heap.SameBut a s.heap s'.heap ∧ (a = X.env.locals ∨ X.env.cells.lookup x = some a)) → Q () s') (hf : X.fn x = true ∨ X.env.scope.names.lookup x = some .local := by first | exact .inl rfl | exact .inr rfl | assumption) : wpAny M A (storeName X.env x u) Q E s := by
  obtain ⟨m, hn, hl⟩ := id I.loc
  have hcls : (X.env.scope.kind == .class || (X.env.scope.kind == .module && X.env.locals != X.env.globals)) = false := by rw [I.ok.kind]; rfl
  have hiσ : i < σ.length := by rw [I.len]; exact (List.getElem?_eq_some_iff.mp hi).1
  have cne := I.cne
  have tracked : ∀ {a : Addr} {h' : Heap}, (∃ o, s.heap.get? a = some o ∧ H a = none) → Heap.SameBut a s.heap h' → HOk X.prog X.w H h' := fun {a h'} ha hs b ob e => by
    obtain ⟨_, _, hfree⟩ := ha
    refine (I.hok b ob e).stay (fun c w' hc q => (hs.2 c ?_).trans q) (fun _ q => q) fun _ _ q => q
    rintro rfl
    rcases hc with rfl | hc
    · rw [hfree] at e; cases e
    · rw [hfree] at hc; cases hc
  rcases hx with hk | hk
  · refine wpAny_storeName_local hk hn (fun h' hn' hs => ?_) hcls
    obtain ⟨oL, _, _, hoL, _⟩ := id hn
    refine h _ ⟨I.ok, I.os, I.bare, ⟨fun b o e n hb hx => ?_, fun b o e n hb hx => ?_, I.base.free, fun b o e hx => ?_, I.base.tups, I.base.frzs, I.base.tbls⟩, ⟨_, hn', fun j y v' e1 e2 e3 => ?_⟩, fun y c e => ?_, I.free, I.freeC, fun p hp => ?_, tracked ⟨oL, hoL, I.free⟩ hs, by simpa using I.len⟩ ⟨_, hs, .inl rfl⟩
    · exact (hs.2 b (Nat.ne_of_lt (Nat.lt_of_lt_of_le (Heap.lt_size e) I.ok.above))).trans (I.base.keep b o e n hb hx)
    · obtain ⟨sl, e1⟩ := I.base.slot b o e n hb hx
      exact ⟨sl, (hs.2 b (Nat.ne_of_lt (Nat.lt_of_lt_of_le (Heap.lt_size e) I.ok.above))).trans e1⟩
    · obtain ⟨o', e1⟩ := I.base.there b o e hx
      exact ⟨o', (hs.2 b (Nat.ne_of_lt (Nat.lt_of_lt_of_le (Heap.lt_size e) I.ok.above))).trans e1⟩
    · by_cases hj : j = i
      · subst hj
        rw [hi] at e1; cases e1
        rw [List.getElem?_set_self hiσ] at e2
        cases e2
        exact ⟨u, r, .inl ⟨hk, by simp⟩⟩
      · rw [List.getElem?_set_ne (Ne.symm hj)] at e2
        obtain ⟨u', r', q⟩ := hl j y v' e1 e2 e3
        refine ⟨u', r', ?_⟩
        rcases q with ⟨k, e⟩ | ⟨k, c, e, z⟩
        · refine .inl ⟨k, ?_⟩
          have : y ≠ x := fun e => hj (nodup_ix hN e1 (e ▸ hi))
          simp [this, e]
        · exact .inr ⟨k, c, e, z.sameBut hs (cne y c e)⟩
    · obtain ⟨w', z⟩ := I.cell y c e
      exact ⟨w', z.sameBut hs (cne y c e)⟩
    · obtain ⟨e, n, ne, nf, d⟩ := I.pin p hp
      exact ⟨(hs.2 p.1 ne).trans e, n, ne, nf, d⟩
  · have hfn : X.fn x = true := by
      rcases hf with z | z
      · exact z
      · rw [z] at hk; cases hk
    obtain ⟨c, hc⟩ := I.ok.has x (.inl hk)
    obtain ⟨w', z⟩ := I.cell x c hc
    refine wpAny_storeName_cell I.ok.kind hk hc z (fun h' hc' hs => ?_)
    obtain ⟨oc, hoc, hocd⟩ := id z
    refine h { s with heap := h' } ⟨I.ok, I.os, I.bare, ⟨fun b o e n hb hx => ?_, fun b o e n hb hx => ?_, I.base.free, fun b o e hx => ?_, I.base.tups, I.base.frzs, I.base.tbls⟩, ⟨m, hn.sameBut hs (Ne.symm (cne x c hc)), fun j y v' e1 e2 e3 => ?_⟩, fun y c' e => ?_, I.free, I.freeC, fun p hp => ?_, tracked ⟨oc, hoc, I.freeC x c hc⟩ hs, by simpa using I.len⟩ ⟨c, hs, .inr hc⟩
    · exact (hs.2 b (Nat.ne_of_lt (Nat.lt_of_lt_of_le (Heap.lt_size e) (I.ok.cab x c hfn hc)))).trans (I.base.keep b o e n hb hx)
    · obtain ⟨sl, e1⟩ := I.base.slot b o e n hb hx
      exact ⟨sl, (hs.2 b (Nat.ne_of_lt (Nat.lt_of_lt_of_le (Heap.lt_size e) (I.ok.cab x c hfn hc)))).trans e1⟩
    · obtain ⟨o', e1⟩ := I.base.there b o e hx
      exact ⟨o', (hs.2 b (Nat.ne_of_lt (Nat.lt_of_lt_of_le (Heap.lt_size e) (I.ok.cab x c hfn hc)))).trans e1⟩
    · by_cases hj : j = i
      · subst hj
        rw [hi] at e1; cases e1
        rw [List.getElem?_set_self hiσ] at e2
        cases e2
        exact ⟨u, r, .inr ⟨.inl hk, c, hc, hc'⟩⟩
      · rw [List.getElem?_set_ne (Ne.symm hj)] at e2
        obtain ⟨u', r', q⟩ := hl j y v' e1 e2 e3
        refine ⟨u', r', ?_⟩
        rcases q with q | ⟨k, c', e, z'⟩
        · exact .inl q
        · refine .inr ⟨k, c', e, z'.sameBut hs ?_⟩
          rintro rfl
          exact hj (nodup_ix hN e1 (I.ok.inj _ _ _ e hc ▸ hi))
    · by_cases hcc : c' = c
      · subst hcc; exact ⟨_, hc'⟩
      · obtain ⟨w2, z2⟩ := I.cell y c' e
        exact ⟨w2, z2.sameBut hs hcc⟩
    · obtain ⟨e, n, ne, nf, d⟩ := I.pin p hp
      refine ⟨(hs.2 p.1 ?_).trans e, n, ne, nf, d⟩
      intro q
      rw [q, hoc] at e
      have q' : oc = p.2 := Option.some.inj e
      exact d w' (by rw [← q']; exact hocd)
theorem store_ok {M : Model} {A : Around} {E : Value → Shared → Prop} {i : Nat} {x : Str} {v : V} {u : Value} {Q : Unit → Shared → Prop} (I : Inv X pins σ H s) (hN : X.N.Nodup) (hi : X.N[i]? = some x) (hx : Loc X.env.scope x) (r : RelV v u)
    (h : ∀ s', Inv X pins (σ.set i (some v)) H s' → Q () s') (hf : X.fn x = true ∨ X.env.scope.names.lookup x = some .local := by first | exact .inl rfl | exact .inr rfl | assumption) : wpAny M A (storeName X.env x u) Q E s :=
  store_ok2 I hN hi hx r (fun s' I' _ => h s' I') hf
/-- behind a call or a block, the state as it is -/
theorem Inv.call' {s' : Shared} {ch : List Addr} (I : Inv X pins σ H s) (ho : s'.os = s.os) (u : Un (frs X.stack) ch H H' s.heap s'.heap) (hok : HOk X.prog X.w H' s'.heap) (hg : AllBare s'.gens)
    (hch : ∀ b ∈ ch, (b ∈ X.ex ∨ X.s₀.heap.objs.size ≤ b) ∧ b ≠ X.env.locals ∧ (∀ x c, X.env.cells.lookup x = some c → c ≠ b) ∧ ∀ p ∈ X.pn ++ pins, p.1 ≠ b) : Inv X pins σ H' s' := by
  obtain ⟨h', g', d', t', o'⟩ := s'
  have e : o' = s.os := ho
  subst e
  exact I.call (g' := g') (t' := t') (d' := d') u hok hg hch
end

/-! ### the judgements -/
/-- an exception: its class, its own dict's address (where it has one), the abstract heap behind it -/
abbrev XK := Value → Option Addr → Hp → Prop
abbrev St := List (Option V)
abbrev VK := V → Hp → Prop
/-- an expression's reading; a test's; an argument list's -/
abbrev TE := St → Hp → VK → Prop
abbrev TT := St → Hp → (Bool → Hp → Prop) → Prop
abbrev TA := St → Hp → (List V → Hp → Prop) → Prop
/-- what is wanted behind a statement -/
structure Ends where
  nx : St → Hp → Prop
  rt : VK
  bk : St → Hp → Prop := fun _ _ => False
  ct : St → Hp → Prop := fun _ _ => False
abbrev TS := Ends → St → Hp → Prop

def EP (X : Cx) (pins : List (Addr × Obj)) (σ : St) (Q : VK) (u : Value) (s' : Shared) : Prop := ∃ v H', Inv X pins σ H' s' ∧ RelV v u ∧ Q v H'
def TP (X : Cx) (pins : List (Addr × Obj)) (σ : St) (Q : Bool → Hp → Prop) (b : Bool) (s' : Shared) : Prop := ∃ H', Inv X pins σ H' s' ∧ Q b H'
def AP (X : Cx) (pins : List (Addr × Obj)) (σ : St) (Q : List V → Hp → Prop) (us : List Value) (s' : Shared) : Prop := ∃ vs H', Inv X pins σ H' s' ∧ Vals vs us ∧ Q vs H'
def SP (X : Cx) (pins : List (Addr × Obj)) (D : Ends) (f : Flow) (s' : Shared) : Prop :=
  match f with
  | .next => ∃ σ' H', Inv X pins σ' H' s' ∧ D.nx σ' H'
  | .brk => ∃ σ' H', Inv X pins σ' H' s' ∧ D.bk σ' H'
  | .cont => ∃ σ' H', Inv X pins σ' H' s' ∧ D.ct σ' H'
  | .ret u => ∃ v σ' H', Inv X pins σ' H' s' ∧ RelV v u ∧ D.rt v H'

def PE (X : Cx) (e : Expr) (t : TE) : Prop :=
  ∀ (pins : List (Addr × Obj)) (s : Shared) (σ : St) (H : Hp) (Q : VK), Inv X pins σ H s → t σ H Q → wpAny (model X.prog X.w) X.A (eval e X.env) (EP X pins σ Q) X.xe s
def PT (X : Cx) (e : Expr) (t : TT) : Prop :=
  ∀ (pins : List (Addr × Obj)) (s : Shared) (σ : St) (H : Hp) (Q : Bool → Hp → Prop), Inv X pins σ H s → t σ H Q → wpAny (model X.prog X.w) X.A (isTrue e X.env (eval e X.env)) (TP X pins σ Q) X.xe s
/-- a test whatever its 'whole' is (and, or) -/
def PW (X : Cx) (e : Expr) (t : TT) : Prop :=
  ∀ (whole : Sem Value) (pins : List (Addr × Obj)) (s : Shared) (σ : St) (H : Hp) (Q : Bool → Hp → Prop), Inv X pins σ H s → t σ H Q → wpAny (model X.prog X.w) X.A (isTrue e X.env whole) (TP X pins σ Q) X.xe s
theorem PW.pt {X : Cx} {e : Expr} {t : TT} (h : PW X e t) : PT X e t := h _
/-- an argument list (no star), from the left -/
def PA (X : Cx) (es : List Expr) (t : TA) : Prop :=
  ∀ (pos : Pos) (pins : List (Addr × Obj)) (s : Shared) (σ : St) (H : Hp) (Q : List V → Hp → Prop), Inv X pins σ H s → t σ H Q → wpAny (model X.prog X.w) X.A (spliced (backTo pos (starEach es X.env))) (AP X pins σ Q) X.xe s
def PS (X : Cx) (st : Stmt) (t : TS) : Prop :=
  ∀ (pins : List (Addr × Obj)) (s : Shared) (σ : St) (H : Hp) (D : Ends), Inv X pins σ H s → t D σ H → wpAny (model X.prog X.w) X.A (exec st X.env) (SP X pins D) X.xe s
def PSs (X : Cx) (st : List Stmt) (t : TS) : Prop :=
  ∀ (pins : List (Addr × Obj)) (s : Shared) (σ : St) (H : Hp) (D : Ends), Inv X pins σ H s → t D σ H → wpAny (model X.prog X.w) X.A (execs st X.env) (SP X pins D) X.xe s
/-- weaken the end -/
theorem thn {α : Type} {t : Sem α} {Q Q' : α → Shared → Prop} {M : Model} {A : Around} {E : Value → Shared → Prop} {s : Shared} (h : wpAny M A t Q E s) (hQ : ∀ a s, Q a s → Q' a s) : wpAny M A t Q' E s := wpAny_mono h hQ fun _ _ x => x
end L2

namespace L2
open PySem PySem.Spec PyProof.Rows
section
variable {X : Cx}

/-! ### names and constants -/
def tVar (i : Nat) : TE := fun σ H Q => ∃ v, σ[i]? = some (some v) ∧ Q v H
def tC (v : V) : TE := fun _ H Q => Q v H
theorem pe_var {i : Nat} {x : Str} {pos : Pos} (hN : X.N[i]? = some x) (hv : Vis X.env.scope x) (hd : (x == ("__debug__" : Str)) = false := by decide) (hcd : (x == ("__classdict__" : Str)) = false := by decide) : PE X (.Name x pos) (tVar i) := by
  intro pins s σ H Q I h
  obtain ⟨v, e, h⟩ := h
  obtain ⟨m, hn, hl⟩ := I.loc
  obtain ⟨u, r, l⟩ := hl i x v hN e hv
  have fin : EP X pins σ Q u s := ⟨v, H, I, r, h⟩
  rcases l with ⟨hk, hm⟩ | ⟨hk, c, hc, hcell⟩
  · exact wpAny_Name (wpAny_loadName_local I.ok.kind hk hn hm fin) hd
  · rcases hk with hk | hk
    · exact wpAny_Name (wpAny_loadName_cell I.ok.kind hk hc hcell fin) hd
    · exact wpAny_Name (wpAny_loadName_free I.ok.kind hk hc hcell fin hcd) hd
theorem pe_int {i j pos} : PE X (.Constant (.int i) j pos) (tC (.int i)) := fun _ _ _ H _ I h => wpAny_Constant_int ⟨.int i, H, I.tok _, ⟨_, rfl⟩, h⟩
theorem pe_bl {b j pos} : PE X (.Constant (.bool b) j pos) (tC (.bl b)) := fun _ _ _ H _ I h => Constant_bool ⟨.bl b, H, I, rfl, h⟩
theorem pe_non {j pos} : PE X (.Constant .none j pos) (tC .non) := fun _ _ _ H _ I h => Constant_none ⟨.non, H, I, rfl, h⟩
theorem pe_str {x j pos} : PE X (.Constant (.str x) j pos) (tC (.str x)) := fun _ _ _ H _ I h => Calls.Constant_str ⟨.str x, H, I.tok _, ⟨_, rfl⟩, h⟩

/-- a global name of the def -/
def Gl (X : Cx) (x : Str) : Prop := X.env.kindOf x = some .globalImplicit
theorem ld_glob {E : Value → Shared → Prop} {pins : List (Addr × Obj)} {s : Shared} {σ : St} {H : Hp} {x : Str} {u : Value} {pos : Pos} {Q : Value → Shared → Prop} (I : Inv X pins σ H s) (hg : Gl X x) (hm : X.mg x = some u) (h : Q u s)
    (hd : (x == ("__debug__" : Str)) = false := by decide) : wpAny (model X.prog X.w) X.A (eval (.Name x pos) X.env) Q E s :=
  Calls.Name_function_global I.ok.kind hg (Calls.loadGlobal_global (by rw [I.ok.glob]; exact I.mod.glob.keeps I.bk) hm h) hd
theorem ld_blt {E : Value → Shared → Prop} {pins : List (Addr × Obj)} {s : Shared} {σ : St} {H : Hp} {x : Str} {u : Value} {pos : Pos} {Q : Value → Shared → Prop} (I : Inv X pins σ H s) (hg : Gl X x) (hm : X.mg x = none) (hv : bootBuiltins x = some u) (h : Q u s)
    (hn : x ≠ "__name__" := by decide) (hd : (x == ("__debug__" : Str)) = false := by decide) : wpAny (model X.prog X.w) X.A (eval (.Name x pos) X.env) Q E s := by
  obtain ⟨mb, h1, h2⟩ := I.mod.blt
  exact Calls.Name_function_global I.ok.kind hg (Calls.loadGlobal_builtin (by rw [I.ok.glob]; exact I.mod.glob.keeps I.bk) hm (by rw [I.ok.blt]; exact h1.keeps I.bk) ((h2 x hn).trans hv) h) hd
/-- a module's constant, a class, a function, as a value -/
theorem pe_glob {x : Str} {v : V} {u : Value} {pos : Pos} (hg : Gl X x) (hm : X.mg x = some u) (r : RelV v u) (hd : (x == ("__debug__" : Str)) = false := by decide) : PE X (.Name x pos) (tC v) :=
  fun _ _ _ H _ I h => ld_glob I hg hm ⟨v, H, I, r, h⟩ hd
theorem pe_bltn {x : Str} {v : V} {u : Value} {pos : Pos} (hg : Gl X x) (hm : X.mg x = none) (hv : bootBuiltins x = some u) (r : RelV v u) (hn : x ≠ "__name__" := by decide) (hd : (x == ("__debug__" : Str)) = false := by decide) : PE X (.Name x pos) (tC v) :=
  fun _ _ _ H _ I h => ld_blt I hg hm hv ⟨v, H, I, r, h⟩ hn hd

/-! ### arithmetic -/
variable {a b : Expr} {ta tb : TE} {pos : Pos}
/-! ### comparisons -/
/-- a comparison as a value, as a test -/
def tB (t : TE) : TT := fun σ H Q => t σ H fun x H1 => ∃ c, x = .bl c ∧ Q c H1
/-- an expression whose value is a bool, as a test -/
theorem pt_val {e : Expr} {t : TE} (h : PE X e t) (he : ∀ whole, isTrue e X.env whole = (do let v ← whole; standAt e.pos; holding [v] (truthy v)) := by intro _; rfl) : PT X e (tB t) := by
  intro pins s σ H Q I hw
  refine isTrue_plain (thn (h pins s σ H _ I hw) fun v s1 ⟨x, H1, I1, r1, q1⟩ => ?_) (he _)
  obtain ⟨d, rfl, q⟩ := q1
  cases r1
  exact wpAny_truthy_bool ⟨H1, I1, q⟩

/-! ### and, or, not -/
variable {tA tB' : TT} {rest : List Expr}
def tAnd (t u : TT) : TT := fun σ H Q => t σ H fun c H1 => if c = true then u σ H1 Q else Q false H1
def tOr (t u : TT) : TT := fun σ H Q => t σ H fun c H1 => if c = true then Q true H1 else u σ H1 Q
def tNot (t : TT) : TT := fun σ H Q => t σ H fun c H1 => Q (!c) H1
theorem pw_and1 (ha : PT X a tA) : PW X (.BoolOp .And [a] pos) tA := by
  intro wh pins s σ H Q I h
  refine isTrue_and (thn (ha pins s σ H Q I h) fun c s1 e => ?_)
  cases c with
  | true => exact isTrue_and_nil e
  | false => exact e
theorem pw_or1 (ha : PT X a tA) : PW X (.BoolOp .Or [a] pos) tA := by
  intro wh pins s σ H Q I h
  refine isTrue_or (thn (ha pins s σ H Q I h) fun c s1 e => ?_)
  cases c with
  | false => exact isTrue_or_nil e
  | true => exact e
theorem pw_and (ha : PT X a tA) (hb : PW X (.BoolOp .And (b :: rest) pos) tB') : PW X (.BoolOp .And (a :: b :: rest) pos) (tAnd tA tB') := by
  intro wh pins s σ H Q I h
  refine isTrue_and (thn (ha pins s σ H _ I h) fun c s1 ⟨H1, I1, q1⟩ => ?_)
  cases c with
  | true => exact hb wh pins s1 σ H1 Q I1 q1
  | false => exact ⟨H1, I1, q1⟩
theorem pw_or (ha : PT X a tA) (hb : PW X (.BoolOp .Or (b :: rest) pos) tB') : PW X (.BoolOp .Or (a :: b :: rest) pos) (tOr tA tB') := by
  intro wh pins s σ H Q I h
  refine isTrue_or (thn (ha pins s σ H _ I h) fun c s1 ⟨H1, I1, q1⟩ => ?_)
  cases c with
  | true => exact ⟨H1, I1, q1⟩
  | false => exact hb wh pins s1 σ H1 Q I1 q1
theorem pt_not (ha : PT X a tA) : PT X (.UnaryOp .Not a pos) (tNot tA) := by
  intro pins s σ H Q I h
  exact isTrue_not (ha pins s σ H (fun c H1 => Q (!c) H1) I h)
/-- .. as values (bools) -/
def tAndV (ta tb : TE) : TE := fun σ H Q => ta σ H fun x H1 => ∃ c, x = .bl c ∧ if c = true then tb σ H1 Q else Q (.bl false) H1
def tOrV (ta tb : TE) : TE := fun σ H Q => ta σ H fun x H1 => ∃ c, x = .bl c ∧ if c = true then Q (.bl true) H1 else tb σ H1 Q
def tNotV (ta : TE) : TE := fun σ H Q => ta σ H fun x H1 => ∃ c, x = .bl c ∧ Q (.bl (!c)) H1
theorem pe_one {op} {t : TE} (h : PE X a t) : PE X (.BoolOp op [a] pos) t := fun pins s σ H Q I hw => BoolOp_one (h pins s σ H Q I hw)
theorem pe_and (ha : PE X a ta) (hb : PE X (.BoolOp .And (b :: rest) pos) tb) : PE X (.BoolOp .And (a :: b :: rest) pos) (tAndV ta tb) := by
  intro pins s σ H Q I h
  refine BoolOp_and (thn (ha pins s σ H _ I h) fun v s1 ⟨x, H1, I1, r1, q1⟩ => ?_)
  obtain ⟨c, rfl, q1⟩ := q1
  cases r1
  refine wpAny_truthy_bool ?_
  cases c with
  | true => exact hb pins s1 σ H1 Q I1 q1
  | false => exact ⟨.bl false, H1, I1, rfl, q1⟩
theorem pe_or (ha : PE X a ta) (hb : PE X (.BoolOp .Or (b :: rest) pos) tb) : PE X (.BoolOp .Or (a :: b :: rest) pos) (tOrV ta tb) := by
  intro pins s σ H Q I h
  refine BoolOp_or (thn (ha pins s σ H _ I h) fun v s1 ⟨x, H1, I1, r1, q1⟩ => ?_)
  obtain ⟨c, rfl, q1⟩ := q1
  cases r1
  refine wpAny_truthy_bool ?_
  cases c with
  | false => exact hb pins s1 σ H1 Q I1 q1
  | true => exact ⟨.bl true, H1, I1, rfl, q1⟩
theorem pe_not (ha : PE X a ta) : PE X (.UnaryOp .Not a pos) (tNotV ta) := by
  intro pins s σ H Q I h
  refine UnaryOp_ (thn (ha pins s σ H _ I h) fun v s1 ⟨x, H1, I1, r1, q1⟩ => ?_)
  obtain ⟨c, rfl, q1⟩ := q1
  cases r1
  exact not_of (wpAny_truthy_bool ⟨.bl (!c), H1, I1, rfl, q1⟩)
/-- a if t else b -/
def tIf (t : TT) (ta tb : TE) : TE := fun σ H Q => t σ H fun c H1 => if c = true then ta σ H1 Q else tb σ H1 Q
theorem pe_ifExp {c : Expr} (hc : PT X c tA) (ha : PE X a ta) (hb : PE X b tb) : PE X (.IfExp c a b pos) (tIf tA ta tb) := by
  intro pins s σ H Q I h
  refine wpAny_IfExp (thn (hc pins s σ H _ I h) fun d s1 ⟨H1, I1, q1⟩ => ?_)
  cases d with
  | true => exact ha pins s1 σ H1 Q I1 q1
  | false => exact hb pins s1 σ H1 Q I1 q1
end
end L2

namespace L2
open PySem PySem.Spec PyProof.Rows

/-! ### a list, a tuple that is read: tracked, frozen, or an object of the module -/
def SqL (K : PySem.W.Frag) (H : Hp) (a : Addr) (xs : List V) : Prop :=
  Rd H a (.lst xs) ∨
    ∃ (o : Obj) (its : Array Value) (n : Nat), K.lookup a = some o ∧ o.cls = .type "list" ∧ o.dict = none ∧ o.data = .seq its n ∧ its.size ≤ sizeLine ∧ Vals xs its.toList
def SqT (K : PySem.W.Frag) (H : Hp) (a : Addr) (xs : List V) : Prop :=
  Rd H a (.tup xs) ∨
    ∃ (o : Obj) (its : Array Value) (n : Nat), K.lookup a = some o ∧ o.cls = .type "tuple" ∧ o.data = .seq its n ∧ its.size ≤ sizeLine ∧ Vals xs its.toList
def absV : Value → Option V
  | .none => some .non
  | .bool b => some (.bl b)
  | .int i _ => some (.int i)
  | .str x _ => some (.str x)
  | .bytes b _ => some (.byt b)
  | .float b _ => some (.flt b)
  | .ref a => some (.ref a)
  | .type n => some (.ty n)
  | _ => none
theorem RelV.abs {x : V} {u : Value} (r : RelV x u) : absV u = some x := by
  cases x with
  | non => cases r; rfl
  | bl _ => cases r; rfl
  | int _ => obtain ⟨t, rfl⟩ := r; rfl
  | str _ => obtain ⟨t, rfl⟩ := r; rfl
  | byt _ => obtain ⟨t, rfl⟩ := r; rfl
  | flt _ => obtain ⟨t, rfl⟩ := r; rfl
  | ref _ => cases r; rfl
  | ty _ => cases r; rfl
theorem RelV.inj {x y : V} {u : Value} (r : RelV x u) (q : RelV y u) : x = y := Option.some.inj (r.abs.symm.trans q.abs)
theorem Vals.inj : ∀ {xs ys : List V} {us : List Value}, Vals xs us → Vals ys us → xs = ys
  | _, _, _, .nil, .nil => rfl
  | _, _, _, .cons r t, .cons r' t' => by rw [r.inj r', Vals.inj t t']
section
variable {X : Cx} {pins : List (Addr × Obj)} {σ : St} {H : Hp} {s : Shared} {a : Addr} {xs ys : List V}
theorem SqL.of {K : PySem.W.Frag} (h : H a = some (.lst xs)) : SqL K H a xs := .inl (.inl h)
theorem SqT.of {K : PySem.W.Frag} (h : H a = some (.tup xs)) : SqT K H a xs := .inl (.inl h)
theorem Inv.list (I : Inv X pins σ H s) (h : SqL X.K H a xs) : ∃ its : List Value, Vals xs its ∧ PlainL s.heap a its.toArray ∧ xs.length ≤ sizeLine := by
  rcases h with h | ⟨o, its, n, hk, hc, hd, hs, hz, r⟩
  · obtain ⟨z, its, n, r, e⟩ := h.ok I.hok
    exact ⟨its, r, ⟨_, n, e, rfl, rfl, rfl⟩, z⟩
  · refine ⟨its.toList, r, ⟨o, n, I.kIn a o hk, hc, hd, by simpa using hs⟩, ?_⟩
    have e := r.length
    simp only [Array.length_toList] at e
    omega
theorem Inv.tuple (I : Inv X pins σ H s) (h : SqT X.K H a xs) : ∃ its : List Value, Vals xs its ∧ IsTup s.heap a its.toArray ∧ xs.length ≤ sizeLine := by
  rcases h with h | ⟨o, its, n, hk, hc, hs, hz, r⟩
  · obtain ⟨z, its, r, p⟩ := h.ok I.hok
    exact ⟨its, r, p, z⟩
  · refine ⟨its.toList, r, ⟨o, I.kIn a o hk, hc, n, by simpa using hs⟩, ?_⟩
    have e := r.length
    simp only [Array.length_toList] at e
    omega
theorem Inv.list_inj (I : Inv X pins σ H s) (h : SqL X.K H a xs) (h' : SqL X.K H a ys) : xs = ys := by
  obtain ⟨its, r, ⟨o, n, e, _, _, d⟩, _⟩ := I.list h
  obtain ⟨its', r', ⟨o', n', e', _, _, d'⟩, _⟩ := I.list h'
  rw [e] at e'; cases e'
  rw [d] at d'
  injection d' with d1 _
  have : its = its' := by simpa using congrArg Array.toList d1
  subst this
  exact r.inj r'
theorem Inv.tuple_inj (I : Inv X pins σ H s) (h : SqT X.K H a xs) (h' : SqT X.K H a ys) : xs = ys := by
  obtain ⟨its, r, ⟨o, e, _, n, d⟩, _⟩ := I.tuple h
  obtain ⟨its', r', ⟨o', e', _, n', d'⟩, _⟩ := I.tuple h'
  rw [e] at e'; cases e'
  rw [d] at d'
  injection d' with d1 _
  have : its = its' := by simpa using congrArg Array.toList d1
  subst this
  exact r.inj r'
end

/-! ### another wish about exceptions -/
abbrev Cx.wish (X : Cx) (E : Value → Shared → Prop) : Cx := { X with xe := E }
/-- no exception leaves -/
abbrev Cx.nox (X : Cx) : Cx := X.wish fun _ _ => False
theorem Cx.Ok.wish {X : Cx} (ok : X.Ok) (E : Value → Shared → Prop) : (X.wish E).Ok :=
  ⟨ok.mod, ok.kind, ok.glob, ok.blt, ok.above, ok.inj, ok.has, ok.cab, ok.hd, ok.frames, ok.stk, ok.exf, ok.bs, ok.bsz, ok.noex, ok.exfs, ok.funs, ok.frf⟩
theorem Cx.Ok.unwish {X : Cx} {E : Value → Shared → Prop} (ok : (X.wish E).Ok) : X.Ok :=
  ⟨ok.mod, ok.kind, ok.glob, ok.blt, ok.above, ok.inj, ok.has, ok.cab, ok.hd, ok.frames, ok.stk, ok.exf, ok.bs, ok.bsz, ok.noex, ok.exfs, ok.funs, ok.frf⟩
section
variable {X : Cx} {pins : List (Addr × Obj)} {σ : St} {H : Hp} {s : Shared} {E : Value → Shared → Prop}
theorem Inv.wish (I : Inv X pins σ H s) (E : Value → Shared → Prop) : Inv (X.wish E) pins σ H s := ⟨I.ok.wish E, I.os, I.bare, I.base, I.loc, I.cell, I.free, I.freeC, I.pin, I.hok, I.len⟩
theorem Inv.unwish (I : Inv (X.wish E) pins σ H s) : Inv X pins σ H s := ⟨I.ok.unwish, I.os, I.bare, I.base, I.loc, I.cell, I.free, I.freeC, I.pin, I.hok, I.len⟩
theorem SP.unwish {D : Ends} {f : Flow} {s' : Shared} (h : SP (X.wish E) pins D f s') : SP X pins D f s' := by
  cases f with
  | next => obtain ⟨σ', H', I, q⟩ := h; exact ⟨σ', H', I.unwish, q⟩
  | brk => obtain ⟨σ', H', I, q⟩ := h; exact ⟨σ', H', I.unwish, q⟩
  | cont => obtain ⟨σ', H', I, q⟩ := h; exact ⟨σ', H', I.unwish, q⟩
  | ret u => obtain ⟨v, σ', H', I, r, q⟩ := h; exact ⟨v, σ', H', I.unwish, r, q⟩
theorem PE.nox {e : Expr} {t : TE} (h : PE X.nox e t) : PE X e t := fun pins s σ H Q I hw =>
  wpAny_mono (h pins s σ H Q (I.wish _) hw) (fun _ _ ⟨v, H', I', r, q⟩ => ⟨v, H', I'.unwish, r, q⟩) fun _ _ z => False.elim z
theorem PT.nox {e : Expr} {t : TT} (h : PT X.nox e t) : PT X e t := fun pins s σ H Q I hw =>
  wpAny_mono (h pins s σ H Q (I.wish _) hw) (fun _ _ ⟨H', I', q⟩ => ⟨H', I'.unwish, q⟩) fun _ _ z => False.elim z
theorem PSs.nox {st : List Stmt} {t : TS} (h : PSs X.nox st t) : PSs X st t := fun pins s σ H D I hw =>
  wpAny_mono (h pins s σ H D (I.wish _) hw) (fun _ _ q => q.unwish) fun _ _ z => False.elim z
end

/-! ### blocks and small statements -/
section
variable {X : Cx} {st : Stmt} {rest : List Stmt} {t u : TS} {e : Expr} {te : TE} {pos : Pos}
def tNext : TS := fun D σ H => D.nx σ H
def tSeq (t u : TS) : TS := fun D σ H => t { D with nx := u D } σ H
theorem pss_nil : PSs X [] tNext := fun _ _ σ H _ I h => wpAny_execs_nil ⟨σ, H, I, h⟩
theorem pss_cons (h1 : PS X st t) (h2 : PSs X rest u) : PSs X (st :: rest) (tSeq t u) := by
  intro pins s σ H D I h
  refine wpAny_execs_cons (thn (h1 pins s σ H { D with nx := u D } I h) fun f s1 q => ?_)
  cases f with
  | next =>
    obtain ⟨σ', H', I', q⟩ := q
    exact h2 pins s1 σ' H' D I' q
  | ret v => exact q
  | brk => exact q
  | cont => exact q
theorem pss_one (h1 : PS X st t) : PSs X [st] t := by
  intro pins s σ H D I h
  refine wpAny_execs_cons (thn (h1 pins s σ H D I h) fun f s1 q => ?_)
  cases f with
  | next => exact wpAny_execs_nil q
  | ret v => exact q
  | brk => exact q
  | cont => exact q
/-- in a def's body nothing is shown -/
theorem Inv.quiet {pins : List (Addr × Obj)} {σ : St} {H : Hp} {s : Shared} (I : Inv X pins σ H s) : interactive X.env = false := by simp [interactive, I.ok.kind]
/-- an expression whose value is dropped -/
def tDrop (te : TE) : TS := fun D σ H => te σ H fun _ H1 => D.nx σ H1
theorem ps_expr (he : PE X e te) (hs : swapsWith e none pos.line X.env = pure false := by rfl) : PS X (.Expr e pos) (tDrop te) := by
  intro pins s σ H D I h
  exact wpAny_Expr_any (thn (he pins s σ H _ I h) fun v s1 ⟨x, H1, I1, r1, q1⟩ => ⟨σ, H1, I1, q1⟩) I.quiet hs
def tRet (te : TE) : TS := fun D σ H => te σ H D.rt
theorem ps_ret (he : PE X e te) : PS X (.Return (some e) pos) (tRet te) := by
  intro pins s σ H D I h
  exact wpAny_Return_some (thn (he pins s σ H _ I h) fun v s1 ⟨x, H1, I1, r1, q1⟩ => ⟨x, σ, H1, I1, r1, q1⟩)
def tIfS (c : TT) (t u : TS) : TS := fun D σ H => c σ H fun b H1 => if b = true then t D σ H1 else u D σ H1
theorem ps_if {c : Expr} {a b : List Stmt} {tc : TT} (hc : PT X c tc) (ha : PSs X a t) (hb : PSs X b u) : PS X (.If c a b pos) (tIfS tc t u) := by
  intro pins s σ H D I h
  refine wpAny_If (thn (hc pins s σ H _ I h) fun d s1 ⟨H1, I1, q1⟩ => ?_)
  cases d with
  | true => exact ha pins s1 σ H1 D I1 q1
  | false => exact hb pins s1 σ H1 D I1 q1
/-- code that the proof never comes to -/
def tNever : TS := fun _ _ _ => False
theorem ps_never : PS X st tNever := fun _ _ _ _ _ _ h => h.elim
end

/-! ### targets -/
abbrev TG := V → St → Hp → (St → Hp → Prop) → Prop
abbrev TGs := List V → St → Hp → (St → Hp → Prop) → Prop
def PG (X : Cx) (target : Expr) (t : TG) : Prop :=
  ∀ (pins : List (Addr × Obj)) (s : Shared) (σ : St) (H : Hp) (v : V) (u : Value) (Q : St → Hp → Prop), Inv X pins σ H s → RelV v u → t v σ H Q →
    wpAny (model X.prog X.w) X.A (assign target X.env u) (fun _ s' => ∃ σ' H', Inv X pins σ' H' s' ∧ Q σ' H') X.xe s
/-- several targets, one after another -/
def PGs (X : Cx) (ts : List Expr) (t : TGs) : Prop :=
  ∀ (pins : List (Addr × Obj)) (s : Shared) (σ : St) (H : Hp) (vs : List V) (us : List Value) (Q : St → Hp → Prop), Inv X pins σ H s → Vals vs us → t vs σ H Q →
    wpAny (model X.prog X.w) X.A (assignInOrder ((assignEach ts X.env).map (·.2)) us) (fun _ s' => ∃ σ' H', Inv X pins σ' H' s' ∧ Q σ' H') X.xe s
section
variable {X : Cx} {pos : Pos}
def gName (i : Nat) : TG := fun v σ H Q => Q (σ.set i (some v)) H
theorem pg_name {i : Nat} {x : Str} (hN : X.N.Nodup) (hi : X.N[i]? = some x) (hx : Loc X.env.scope x) (hf : X.fn x = true ∨ X.env.scope.names.lookup x = some .local := by first | exact .inl rfl | exact .inr rfl | assumption) : PG X (.Name x pos) (gName i) := by
  intro pins s σ H v u Q I r h
  exact wpAny_assign_Name (store_ok I hN hi hx r (fun s' I' => ⟨_, H, I', h⟩) hf)
def gNil : TGs := fun vs σ H Q => vs = [] ∧ Q σ H
def gCons (t : TG) (u : TGs) : TGs := fun vs σ H Q => ∃ v r, vs = v :: r ∧ t v σ H fun σ' H' => u r σ' H' Q
theorem pgs_nil : PGs X [] gNil := by
  intro pins s σ H vs us Q I r h
  obtain ⟨e, h⟩ := h
  subst e
  cases r
  exact assignInOrder_nil ⟨σ, H, I, h⟩
theorem pgs_cons {e : Expr} {es : List Expr} {t : TG} {u : TGs} (h1 : PG X e t) (h2 : PGs X es u)
    (hs : (assignEach (e :: es) X.env).map (·.2) = assign e X.env :: (assignEach es X.env).map (·.2) := by rfl) : PGs X (e :: es) (gCons t u) := by
  intro pins s σ H vs us Q I r h
  obtain ⟨v, vr, e1, h⟩ := h
  subst e1
  cases r with
  | cons r rr =>
    rw [hs]
    refine assignInOrder_cons (thn (h1 pins s σ H _ _ _ I r h) fun _ s1 ⟨σ1, H1, I1, q1⟩ => ?_)
    exact h2 pins s1 σ1 H1 _ _ Q I1 rr q1
/-- (a, b, ..) = a tuple of that length -/
def gTup (K : PySem.W.Frag) (n : Nat) (t : TGs) : TG := fun v σ H Q => ∃ a xs, v = .ref a ∧ SqT K H a xs ∧ xs.length = n ∧ t xs σ H Q
theorem pg_tup {es : List Expr} {k : Nat} {t : TGs} {n : Nat} (hc : X.calm = true) (h : PGs X es t)
    (hn : (assignEach es X.env).length = n := by rfl) (hst : (assignEach es X.env).findIdx? (·.1) = none := by rfl) : PG X (.Tuple es k pos) (gTup X.K n t) := by
  intro pins s σ H v u Q I r hw
  obtain ⟨a, xs, e1, hq, hl, hw⟩ := hw
  subst e1
  cases r
  obtain ⟨its, rv, ht, hz⟩ := I.tuple hq
  refine assign_Tuple_tuple (I.ok.hd hc) ht (by simp [hn, ← hl, rv.length]) hst fun h' hx => ?_
  have I1 : Inv X pins σ H { s with heap := h' } := I.kept (t' := s.toks) fun b o e => hx b o (Nat.ne_of_lt (Heap.lt_size e)) e
  exact h pins _ σ H xs _ Q I1 (by simpa using rv) hw
/-- target = value -/
def tAsg (te : TE) (g : TG) : TS := fun D σ H => te σ H fun x H1 => g x σ H1 D.nx
/-- name = value -/
theorem ps_set {i : Nat} {x : Str} {e : Expr} {te : TE} {pos' : Pos} (hN : X.N.Nodup) (hi : X.N[i]? = some x) (hx : Loc X.env.scope x) (he : PE X e te) (hs : swapsWith e (some (.Name x pos')) pos.line X.env = pure false := by rfl) (hf : X.fn x = true ∨ X.env.scope.names.lookup x = some .local := by first | exact .inl rfl | exact .inr rfl | assumption) :
    PS X (.Assign [.Name x pos'] e pos) (tAsg te (gName i)) := by
  intro pins s σ H D I h
  refine wpAny_Assign_Name (thn (he pins s σ H _ I h) fun v s1 ⟨y, H1, I1, r1, q1⟩ => ?_) hs
  exact store_ok I1 hN hi hx r1 (fun s2 I2 => ⟨_, H1, I2, q1⟩) hf
end

/-! ### while -/
section
variable {X : Cx} {pos : Pos}
end

/-! ### what a loop or a comprehension walks -/
/-- at turn i: it yields x (the heap may grow), or it stops -/
structure It where
  go : Nat → Hp → Prop
  yld : Nat → Hp → V → Hp → Prop
  stop : Nat → Hp → Prop
/-- the iterator's own objects may turn: they are not the frame's, not pinned, younger than the entry (or a comprehension's own) -/
def FpOk (X : Cx) (pins : List (Addr × Obj)) (H : Hp) (b : Addr) : Prop :=
  H b = none ∧ b ≠ X.env.locals ∧ b ∉ X.fs ∧ (b ∈ X.ex ∨ X.s₀.heap.objs.size ≤ b) ∧ (∀ x c, X.env.cells.lookup x = some c → c ≠ b) ∧ ∀ p ∈ X.pn ++ pins, p.1 ≠ b
theorem Inv.fpOk {X : Cx} {pins : List (Addr × Obj)} {σ : St} {H H' : Hp} {s : Shared} {b : Addr} (I : Inv X pins σ H s) (hb : s.heap.objs.size ≤ b) (hn : H' b = none) : FpOk X pins H' b := by
  refine ⟨hn, Nat.ne_of_gt (Nat.lt_of_lt_of_le I.lt hb), I.nofs hb, .inr (Nat.le_trans I.sz hb), fun x c e z => ?_, fun p hp z => ?_⟩
  · obtain ⟨v, q⟩ := I.cell x c e
    exact absurd (Nat.lt_of_lt_of_le q.lt (by rw [z]; exact hb)) (Nat.lt_irrefl _)
  · exact absurd (Nat.lt_of_lt_of_le (Heap.lt_size (I.pin p hp).1) (by rw [z]; exact hb)) (Nat.lt_irrefl _)
structure Turn (P : Program) (w : World) (K : PySem.W.Frag) (tg : Expr) (J : It) (fp : List Addr) (it : Addr) (tn : Nat → Heap → Prop) : Prop where
  mem : it ∈ fp
  obj : ∀ i h, tn i h → ∀ b ∈ fp, ∃ o, h.get? b = some o ∧ ∀ v, o.data ≠ .cell v
  keep : ∀ i h h', tn i h → (∀ b ∈ fp, ∀ o, h.get? b = some o → h'.get? b = some o) → tn i h'
  item : ∀ (X : Cx), X.prog = P → X.w = w → X.K = K → X.calm = true → ∀ (i : Nat) (pins : List (Addr × Obj)) (s : Shared) (σ : St) (H : Hp) (E : Value → Shared → Prop), Inv X pins σ H s → (∀ b ∈ fp, FpOk X pins H b) → tn i s.heap → J.go i H →
    wpAny (model P w) X.A (pyNext (.ref it)) (fun r s1 => ∃ u, r = some u ∧
      wpAny (model P w) X.A (letOwnedTupleGo tg (.ref it) u) (fun _ s2 => ∃ x H', Inv X pins σ H' s2 ∧ RelV x u ∧ J.yld i H x H' ∧ tn (i + 1) s2.heap ∧ ∀ b ∈ fp, H' b = none) E s1) E s
  done : ∀ (X : Cx), X.prog = P → X.w = w → X.K = K → X.calm = true → ∀ (i : Nat) (pins : List (Addr × Obj)) (s : Shared) (σ : St) (H : Hp) (E : Value → Shared → Prop), Inv X pins σ H s → (∀ b ∈ fp, FpOk X pins H b) → tn i s.heap → J.stop i H →
    wpAny (model P w) X.A (pyNext (.ref it)) (fun r s1 => r = none ∧ Inv X pins σ H s1) E s
  self : ∀ (A : Around) (i : Nat) (s : Shared) (Q : Value → Shared → Prop) (E : Value → Shared → Prop), tn i s.heap → Q (.ref it) s → wpAny (model P w) A (pyIter (.ref it)) Q E s
abbrev TI := St → Hp → (It → Hp → Prop) → Prop
/-- an iterator has come -/
def PIE (X : Cx) (pins : List (Addr × Obj)) (σ : St) (tg : Expr) (R : It → Hp → Prop) (itv : Value) (s2 : Shared) : Prop :=
  ∃ (it : Addr) (fp : List Addr) (tn : Nat → Heap → Prop) (J : It) (H' : Hp), itv = .ref it ∧ Inv X pins σ H' s2 ∧ Turn X.prog X.w X.K tg J fp it tn ∧ tn 0 s2.heap ∧ (∀ b ∈ fp, FpOk X pins H' b) ∧ R J H'
def PI (X : Cx) (tg iter : Expr) (wi : TI) : Prop :=
  ∀ (pins : List (Addr × Obj)) (s : Shared) (σ : St) (H : Hp) (R : It → Hp → Prop), Inv X pins σ H s → wi σ H R →
    wpAny (model X.prog X.w) X.A (eval iter X.env) (fun v s1 => wpAny (model X.prog X.w) X.A (pyIter v) (PIE X pins σ tg R) X.xe s1) X.xe s

/-- the step ahead of the store is nothing for an iterator that keeps no tuple -/
theorem go_of {M : Model} {A : Around} {E : Value → Shared → Prop} {s : Shared} {tg : Expr} {it : Addr} {u : Value} {o : Obj} {n : String} {vs : Array Value} {Q : Unit → Shared → Prop} (ho : s.heap.get? it = some o) (hc : o.cls = .type n) (hd : o.data = .fields vs)
    (hn : ["enumerate", "zip", "dict_itemiterator", "dict_reverseitemiterator", "odict_iterator", "itertools.zip_longest", "itertools.pairwise"].contains n = false) (hQ : Q () s) : wpAny M A (letOwnedTupleGo tg (.ref it) u) Q E s := by
  unfold letOwnedTupleGo
  cases tg <;> first
    | exact wpAny_pure hQ
    | (cases u <;> first
        | exact wpAny_pure hQ
        | (refine wpAny_bind (wpAny_load ho ?_)
           rw [hc, hd]
           show wpAny M A (if (["enumerate", "zip", "dict_itemiterator", "dict_reverseitemiterator", "odict_iterator", "itertools.zip_longest", "itertools.pairwise"].contains n && vs[0]? == some (rawInt _)) = true then _ else _) Q E s
           rw [if_neg (by intro h; rw [hn, Bool.false_and] at h; cases h)]
           exact wpAny_pure hQ))

/-- the list at a, as it stands at each turn (a loop may append to it) -/
def Itl (K : PySem.W.Frag) (a : Addr) : It :=
  ⟨fun i H => ∃ xs x, SqL K H a xs ∧ xs[i]? = some x, fun i H x H' => H' = H ∧ ∀ xs, SqL K H a xs → xs[i]? = some x, fun i H => ∃ xs, SqL K H a xs ∧ xs.length ≤ i⟩
def Itt (K : PySem.W.Frag) (a : Addr) : It :=
  ⟨fun i H => ∃ xs x, SqT K H a xs ∧ xs[i]? = some x, fun i H x H' => H' = H ∧ ∀ xs, SqT K H a xs → xs[i]? = some x, fun i H => ∃ xs, SqT K H a xs ∧ xs.length ≤ i⟩
/-- lo, lo + 1, .. (n of them) -/
def Itr (lo : Int) (n : Nat) : It := ⟨fun i _ => i < n, fun i H x H' => H' = H ∧ x = .int (lo + i), fun i _ => n ≤ i⟩
theorem turn_list {P : Program} {w : World} {K : PySem.W.Frag} {tg : Expr} (a it : Addr) : Turn P w K tg (Itl K a) [it] it (fun i h => h.IsListIter it a i) where
  mem := by simp
  obj := fun i h st b hb => by
    have e : b = it := by simpa using hb
    subst e
    obtain ⟨o, e, c, d⟩ := st
    exact ⟨o, e, fun v z => by rw [d] at z; cases z⟩
  keep := fun i h h' st k => st.at fun o e => k it (by simp) o e
  item := by
    intro X hP hw hK hc i pins s σ H E I hf st hg
    subst hP hw hK
    obtain ⟨xs, x, hq, hx⟩ := hg
    obtain ⟨its, rv, p, hz⟩ := I.list hq
    obtain ⟨u, hu, ru⟩ := rv.get hx
    obtain ⟨f0, f1, f2, f3, f4, f5⟩ := hf it (by simp)
    refine wpAny_pyNext_list_item st p.isList (x := u) (by simpa using hu) fun h' st' sb => ?_
    have I1 : Inv X pins σ H { s with heap := h' } := I.turned (t' := s.toks) (fun b o hb e => (sb.2 b hb).trans e) f0 f1 f3 f4 f5
    obtain ⟨o, e, c, d⟩ := id st'
    exact ⟨u, rfl, go_of (s := { s with heap := h' }) e c d (by decide) ⟨x, H, I1, ru, ⟨rfl, fun ys hy => by rw [I.list_inj hy hq]; exact hx⟩, st', fun b hb => (hf b hb).1⟩⟩
  done := by
    intro X hP hw hK hc i pins s σ H E I hf st hg
    subst hP hw hK
    obtain ⟨xs, hq, hx⟩ := hg
    obtain ⟨its, rv, p, hz⟩ := I.list hq
    obtain ⟨f0, f1, f2, f3, f4, f5⟩ := hf it (by simp)
    have hl := rv.length
    exact wpAny_pyNext_list_end (I.ok.hd hc) st p.isList (by simp; omega) fun h' eb => ⟨rfl, I.turned (t' := s.toks) (fun b o hb e => eb b o hb e) f0 f1 f3 f4 f5⟩
  self := fun _ _ _ _ _ st h => wpAny_pyIter_listiter st h
theorem turn_tuple {P : Program} {w : World} {K : PySem.W.Frag} {tg : Expr} (a it : Addr) : Turn P w K tg (Itt K a) [it] it (fun i h => h.IsTupleIter it a i) where
  mem := by simp
  obj := fun i h st b hb => by
    have e : b = it := by simpa using hb
    subst e
    obtain ⟨o, e, c, d⟩ := st
    exact ⟨o, e, fun v z => by rw [d] at z; cases z⟩
  keep := fun i h h' st k => st.at fun o e => k it (by simp) o e
  item := by
    intro X hP hw hK hc i pins s σ H E I hf st hg
    subst hP hw hK
    obtain ⟨xs, x, hq, hx⟩ := hg
    obtain ⟨its, rv, p, hz⟩ := I.tuple hq
    obtain ⟨u, hu, ru⟩ := rv.get hx
    obtain ⟨f0, f1, f2, f3, f4, f5⟩ := hf it (by simp)
    refine wpAny_pyNext_tuple_item st (show s.heap.IsTuple a its.toArray from p) (x := u) (by simpa using hu) fun h' st' sb => ?_
    have I1 : Inv X pins σ H { s with heap := h' } := I.turned (t' := s.toks) (fun b o hb e => (sb.2 b hb).trans e) f0 f1 f3 f4 f5
    obtain ⟨o, e, c, d⟩ := id st'
    exact ⟨u, rfl, go_of (s := { s with heap := h' }) e c d (by decide) ⟨x, H, I1, ru, ⟨rfl, fun ys hy => by rw [I.tuple_inj hy hq]; exact hx⟩, st', fun b hb => (hf b hb).1⟩⟩
  done := by
    intro X hP hw hK hc i pins s σ H E I hf st hg
    subst hP hw hK
    obtain ⟨xs, hq, hx⟩ := hg
    obtain ⟨its, rv, p, hz⟩ := I.tuple hq
    obtain ⟨f0, f1, f2, f3, f4, f5⟩ := hf it (by simp)
    have hl := rv.length
    exact wpAny_pyNext_tuple_end (I.ok.hd hc) st (show s.heap.IsTuple a its.toArray from p) (by simp; omega) fun h' eb => ⟨rfl, I.turned (t' := s.toks) (fun b o hb e => eb b o hb e) f0 f1 f3 f4 f5⟩
  self := fun _ _ _ _ _ st h => wpAny_pyIter_tupleiter st h
theorem turn_range {P : Program} {w : World} {K : PySem.W.Frag} {tg : Expr} (it : Addr) (lo : Int) (n : Nat) : Turn P w K tg (Itr lo n) [it] it (fun i h => IsRangeIter h it (lo + (i : Nat) * 1) ((n : Int) - (i : Nat)) 1) where
  mem := by simp
  obj := fun i h st b hb => by
    have e : b = it := by simpa using hb
    subst e
    exact ⟨_, st, fun v z => by
      have z' : Data.fields _ = Data.cell v := z
      cases z'⟩
  keep := fun i h h' st k => k it (by simp) _ st
  item := by
    intro X hP hw hK hc i pins s σ H E I hf st hg
    subst hP hw hK
    obtain ⟨f0, f1, f2, f3, f4, f5⟩ := hf it (by simp)
    have W := Walks.range (prog := X.prog) (w := X.w) (I.ok.hd hc) it lo 1 n
    refine W.item i s _ _ hg st fun v h' tk hv st' kk => ?_
    obtain ⟨t, rfl⟩ := hv
    have I1 : Inv X pins σ H { s with heap := h', toks := tk } := I.turned (fun b o hb e => kk b o (by simpa using hb) e) f0 f1 f3 f4 f5
    refine ⟨_, rfl, go_of (s := { s with heap := h', toks := tk }) (n := "range_iterator") st' rfl rfl (by decide) ⟨.int (lo + i), H, I1, ⟨t, ?_⟩, ⟨rfl, rfl⟩, st', fun b hb => (hf b hb).1⟩⟩
    rw [Int.mul_one]
  done := by
    intro X hP hw hK hc i pins s σ H E I hf st hg
    subst hP hw hK
    obtain ⟨f0, f1, f2, f3, f4, f5⟩ := hf it (by simp)
    exact wpAny_pyNext_range_end (I.ok.hd hc) st (by have : n ≤ i := hg; omega) fun h' eb => ⟨rfl, I.turned (t' := s.toks) (fun b o hb e => eb b o hb e) f0 f1 f3 f4 f5⟩
  self := fun _ _ _ _ _ st h => wpAny_pyIter_rangeiter st h
end L2

namespace L2
open PySem PySem.Spec PyProof.Rows
section
variable {X : Cx} {tg : Expr}
def iList (K : PySem.W.Frag) (tl : TE) : TI := fun σ H R => tl σ H fun x H1 => ∃ a, x = .ref a ∧ (∃ xs, SqL K H1 a xs) ∧ R (Itl K a) H1
def iTup (K : PySem.W.Frag) (tl : TE) : TI := fun σ H R => tl σ H fun x H1 => ∃ a, x = .ref a ∧ (∃ xs, SqT K H1 a xs) ∧ R (Itt K a) H1
theorem pi_list {l : Expr} {tl : TE} (hl : PE X l tl) : PI X tg l (iList X.K tl) := by
  intro pins s σ H R I h
  refine thn (hl pins s σ H _ I h) fun v s1 ⟨x, H1, I1, r1, q1⟩ => ?_
  obtain ⟨a, e, ⟨xs, hq⟩, q⟩ := q1
  subst e
  cases r1
  obtain ⟨its, rv, p, hz⟩ := I1.list hq
  refine wpAny_pyIter_list p.isList ?_
  refine ⟨s1.heap.objs.size, [s1.heap.objs.size], _, _, H1, rfl, I1.kept (t' := s1.toks) fun b o e => Heap.get?_push_of_some _ e, turn_list a _, ⟨_, Heap.get?_push_size _ rfl, rfl, rfl⟩, fun b hb => ?_, q⟩
  have e : b = s1.heap.objs.size := by simpa using hb
  subst e
  exact I1.fpOk (Nat.le_refl _) (I1.hok.fresh (Nat.le_refl _))
theorem pi_tup {l : Expr} {tl : TE} (hl : PE X l tl) : PI X tg l (iTup X.K tl) := by
  intro pins s σ H R I h
  refine thn (hl pins s σ H _ I h) fun v s1 ⟨x, H1, I1, r1, q1⟩ => ?_
  obtain ⟨a, e, ⟨xs, hq⟩, q⟩ := q1
  subst e
  cases r1
  obtain ⟨its, rv, p, hz⟩ := I1.tuple hq
  refine wpAny_pyIter_tuple (show s1.heap.IsTuple a its.toArray from p) ?_
  refine ⟨s1.heap.objs.size, [s1.heap.objs.size], _, _, H1, rfl, I1.kept (t' := s1.toks) fun b o e => Heap.get?_push_of_some _ e, turn_tuple a _, ⟨_, Heap.get?_push_size _ rfl, rfl, rfl⟩, fun b hb => ?_, q⟩
  have e : b = s1.heap.objs.size := by simpa using hb
  subst e
  exact I1.fpOk (Nat.le_refl _) (I1.hok.fresh (Nat.le_refl _))
/-- a range object just made, walked -/
theorem range_it {pins : List (Addr × Obj)} {σ : St} {H : Hp} {s : Shared} {R : It → Hp → Prop} {E : Value → Shared → Prop} {lo hi : Int} {t u v : Tok} {tk : Nat} (I : Inv X pins σ H s) (h1 : -(2 ^ 62) ≤ lo) (h2 : lo < 2 ^ 62) (h3 : -(2 ^ 62) ≤ hi) (h4 : hi < 2 ^ 62)
    (q : R (Itr lo (hi - lo).toNat) H) : wpAny (model X.prog X.w) X.A (pyIter (.ref s.heap.objs.size)) (PIE X pins σ tg R) E { s with heap := s.heap.push { cls := .type "range", data := .fields #[.int lo t, .int hi u, .int 1 v] }, toks := tk } := by
  refine wpAny_pyIter_range (IsRange.new ..) (small_one h1 h2 h3 h4) ?_
  have I1 : Inv X pins σ H { s with heap := s.heap.push { cls := .type "range", data := .fields #[.int lo t, .int hi u, .int 1 v] }, toks := tk } := I.kept fun b o e => Heap.get?_push_of_some _ e
  refine ⟨(s.heap.push { cls := .type "range", data := .fields #[.int lo t, .int hi u, .int 1 v] }).objs.size, [(s.heap.push { cls := .type "range", data := .fields #[.int lo t, .int hi u, .int 1 v] }).objs.size], _, _, H, rfl,
    I1.kept (t' := tk) fun b o e => Heap.get?_push_of_some _ e, turn_range _ lo (hi - lo).toNat, ?_, fun b hb => ?_, q⟩
  · have e1 : lo + ((0 : Nat) : Int) * 1 = lo := by simp
    have e2 : (((hi - lo).toNat : Nat) : Int) - ((0 : Nat) : Int) = Builtin.Range.rangeSize lo hi 1 := by rw [rangeSize_one]; split <;> omega
    show IsRangeIter _ _ (lo + ((0 : Nat) : Int) * 1) ((((hi - lo).toNat : Nat) : Int) - ((0 : Nat) : Int)) 1
    rw [e1, e2]
    exact Heap.get?_push_size _ rfl
  · have e : b = (s.heap.push { cls := .type "range", data := .fields #[.int lo t, .int hi u, .int 1 v] }).objs.size := by simpa using hb
    subst e
    exact I1.fpOk (Nat.le_refl _) (I1.hok.fresh (Nat.le_refl _))
def iRng1 (ta : TA) : TI := fun σ H R => ta σ H fun vs H1 => ∃ j : Int, vs = [.int j] ∧ -(2 ^ 62) ≤ j ∧ j < 2 ^ 62 ∧ R (Itr 0 j.toNat) H1
def iRng2 (ta : TA) : TI := fun σ H R => ta σ H fun vs H1 => ∃ i j : Int, vs = [.int i, .int j] ∧ (-(2 ^ 62) ≤ i ∧ i < 2 ^ 62 ∧ -(2 ^ 62) ≤ j ∧ j < 2 ^ 62) ∧ R (Itr i (j - i).toNat) H1
theorem pi_range1 {a : Expr} {ta : TA} {p pos : Pos} (hg : Gl X "range") (hm : X.mg "range" = none) (ha : PA X [a] ta) (hs : starEach [a] X.env = [(false, eval a X.env)] := by rfl) : PI X tg (.Call (.Name "range" p) [a] [] pos) (iRng1 ta) := by
  intro pins s σ H R I h
  refine Call_ (ld_blt I hg hm boot_range (PyProof.Rows.callWith_type1 (thn (ha pos pins s σ H _ I h) fun us s1 ⟨vs, H1, I1, r1, q1⟩ => ?_) hs rfl))
  obtain ⟨j, e, q1, q2, q⟩ := q1
  subst e
  cases r1 with
  | cons r rr =>
    cases rr
    obtain ⟨t, rfl⟩ := r
    exact call_range_1 (range_it I1 (by omega) (by omega) q1 q2 (by simpa using q))
theorem pi_range2 {a b : Expr} {ta : TA} {p pos : Pos} (hg : Gl X "range") (hm : X.mg "range" = none) (ha : PA X [a, b] ta) (hs : starEach [a, b] X.env = [(false, eval a X.env), (false, eval b X.env)] := by rfl) (hs2 : starEach [b] X.env = [(false, eval b X.env)] := by rfl) :
    PI X tg (.Call (.Name "range" p) [a, b] [] pos) (iRng2 ta) := by
  intro pins s σ H R I h
  refine Call_ (ld_blt I hg hm boot_range (PyProof.Rows.callWith_type1 (thn (ha pos pins s σ H _ I h) fun us s1 ⟨vs, H1, I1, r1, q1⟩ => ?_) (by rw [hs, hs2]) (by rw [hs2]; rfl)))
  obtain ⟨i, j, e, ⟨q1, q2, q3, q4⟩, q⟩ := q1
  subst e
  cases r1 with
  | cons r rr =>
    cases rr with
    | cons r' rr =>
      cases rr
      obtain ⟨t, rfl⟩ := r
      obtain ⟨t', rfl⟩ := r'
      exact call_range_2 (range_it I1 q1 q2 q3 q4 q)

/-! ### for -/
/-- W: the invariant by the turn and a measure; N: what the body is to reach -/
def tFor (wi : TI) (g : TG) (tb : TS) : TS := fun D σ H => wi σ H fun J H1 => ∃ W : Nat → Nat → St → Hp → Prop, (∃ m, W 0 m σ H1) ∧ ∀ i m σ H, W i m σ H →
  (J.stop i H ∧ D.nx σ H) ∨ (J.go i H ∧ ∃ N : St → Hp → Prop, (∀ σ' H', N σ' H' → ∃ m', m' < m ∧ W (i + 1) m' σ' H') ∧ ∀ x H', J.yld i H x H' → g x σ H' fun σ2 H2 => tb { D with nx := N, ct := N, bk := D.nx } σ2 H2)
/-- the records at fp as they stand -/
def pinsAt (fp : List Addr) (h : Heap) : List (Addr × Obj) := fp.filterMap fun b => (h.get? b).map fun o => (b, o)
theorem mem_pinsAt {fp : List Addr} {h : Heap} {b : Addr} {o : Obj} (hb : b ∈ fp) (e : h.get? b = some o) : (b, o) ∈ pinsAt fp h := List.mem_filterMap.mpr ⟨b, hb, by rw [e]; rfl⟩
theorem of_pinsAt {fp : List Addr} {h : Heap} {p : Addr × Obj} (hp : p ∈ pinsAt fp h) : p.1 ∈ fp ∧ h.get? p.1 = some p.2 := by
  obtain ⟨b, hb, e⟩ := List.mem_filterMap.mp hp
  cases q : h.get? b with
  | none => rw [q] at e; cases e
  | some o =>
    rw [q] at e
    have e' : (b, o) = p := Option.some.inj e
    subst e'
    exact ⟨hb, q⟩
theorem Inv.pinned {pins : List (Addr × Obj)} {σ : St} {H : Hp} {s : Shared} {fp : List Addr} (I : Inv X pins σ H s) (hf : ∀ b ∈ fp, FpOk X pins H b) (ho : ∀ b ∈ fp, ∃ o, s.heap.get? b = some o ∧ ∀ v, o.data ≠ .cell v) : Inv X (pins ++ pinsAt fp s.heap) σ H s :=
  I.pins_of fun p hp => (List.mem_append.mp hp).elim (fun z => I.pin p (List.mem_append_right _ z)) fun z => by
    obtain ⟨hb, e⟩ := of_pinsAt z
    obtain ⟨f0, f1, f2, _⟩ := hf p.1 hb
    obtain ⟨o, e', d⟩ := ho p.1 hb
    rw [e] at e'; cases e'
    exact ⟨e, f0, f1, f2, d⟩
theorem Inv.unpinned {pins pl : List (Addr × Obj)} {σ : St} {H : Hp} {s : Shared} (I : Inv X (pins ++ pl) σ H s) : Inv X pins σ H s := I.pins_of fun p hp => I.pin p (List.mem_append_right _ (List.mem_append_left _ hp))
theorem ps_for {iter : Expr} {body : List Stmt} {wi : TI} {g : TG} {tb : TS} {pos : Pos} (hp : PassesOwn (model X.prog X.w) X.A X.env X.xe) (hc : X.calm = true) (hi : PI X tg iter wi) (hg : PG X tg g) (hb : PSs X body tb)
    (hs : ∀ x, foldedSetIterable iter X.env x = pure x := by intro _; rfl) : PS X (.For tg iter body [] pos) (tFor wi g tb) := by
  intro pins s σ H D I h
  refine wpAny_For (thn (hi pins s σ H _ I h) fun v s1 h1 => thn h1 fun itv s2 h2 => ?_) hs
  obtain ⟨it, fp, tn, J, H2, e, I2, T, st2, f2, W, ⟨m0, w0⟩, turn⟩ := h2
  subst e
  -- what stays true of the iterator's objects through the loop
  have stat : ∀ {H' : Hp}, (∀ b ∈ fp, H' b = none) → ∀ b ∈ fp, FpOk X pins H' b := fun hn b hb => ⟨hn b hb, (f2 b hb).2⟩
  refine codeAny_forLoop_any (fun n s' => ∃ i σ' H', Inv X pins σ' H' s' ∧ tn i s'.heap ∧ (∀ b ∈ fp, H' b = none) ∧ W i n σ' H') ?_ m0 ⟨0, σ, H2, I2, st2, fun b hb => (f2 b hb).1, w0⟩
  rintro n s3 ⟨i, σ3, H3, I3, st3, fr3, w3⟩
  rcases turn i n σ3 H3 w3 with ⟨stop, qn⟩ | ⟨go, N, hN, step⟩
  · refine wpAny_passesOwn hp (thn (T.done X rfl rfl rfl hc i pins s3 σ3 H3 X.xe I3 (stat fr3) st3 stop) fun r s4 ⟨hr, I4⟩ => ?_)
    subst hr
    exact wpAny_execs_nil ⟨σ3, H3, I4, qn⟩
  · refine wpAny_passesOwn hp (thn (T.item X rfl rfl rfl hc i pins s3 σ3 H3 X.xe I3 (stat fr3) st3 go) fun r s4 ⟨u, hr, h4⟩ => ?_)
    subst hr
    refine wpAny_passesOwn hp (thn h4 fun _ s5 ⟨x, H5, I5, r5, y5, st5, fr5⟩ => ?_)
    have I5' := I5.pinned (stat fr5) (T.obj _ _ st5)
    refine wpAny_passesOwn hp (thn (hg _ s5 σ3 H5 x u _ I5' r5 (step x H5 y5)) fun _ s6 ⟨σ6, H6, I6, q6⟩ => ?_)
    refine wpAny_passesOwn hp (thn (hb _ s6 σ6 H6 _ I6 q6) fun f s7 q7 => ?_)
    have again : ∀ {σ7 : St} {H7 : Hp}, Inv X (pins ++ pinsAt fp s5.heap) σ7 H7 s7 → N σ7 H7 → ∃ m, m < n ∧ ∃ i σ' H', Inv X pins σ' H' s7 ∧ tn i s7.heap ∧ (∀ b ∈ fp, H' b = none) ∧ W i m σ' H' := fun {σ7 H7} I7 n7 => by
      obtain ⟨m', hm, w7⟩ := hN σ7 H7 n7
      refine ⟨m', hm, i + 1, σ7, H7, I7.unpinned, T.keep _ _ _ st5 fun b hb o e => (I7.pin (b, o) (List.mem_append_right _ (List.mem_append_right _ (mem_pinsAt hb e)))).1, fun b hb => ?_, w7⟩
      obtain ⟨o, e, d⟩ := T.obj _ _ st5 b hb
      exact (I7.pin (b, o) (List.mem_append_right _ (List.mem_append_right _ (mem_pinsAt hb e)))).2.1
    cases f with
    | next => obtain ⟨σ7, H7, I7, n7⟩ := q7; exact again I7 n7
    | cont => obtain ⟨σ7, H7, I7, n7⟩ := q7; exact again I7 n7
    | brk => obtain ⟨σ7, H7, I7, q7⟩ := q7; exact ⟨σ7, H7, I7.unpinned, q7⟩
    | ret v => obtain ⟨x7, σ7, H7, I7, r7, q7⟩ := q7; exact ⟨x7, σ7, H7, I7.unpinned, r7, q7⟩
end

/-! ### the forms one uses -/
end L2

namespace L2
open PySem PySem.Spec PyProof.Rows

abbrev R2 := V → V → Hp → VK → Prop
/-- a two-place operation on values: f is binaryOp op, inplaceOp op or compareOp op -/
def OpR (X : Cx) (f : Value → Value → Sem Value) (r : R2) : Prop :=
  ∀ (pins : List (Addr × Obj)) (s : Shared) (σ : St) (H : Hp) (x y : V) (v u : Value) (Q : VK), Inv X pins σ H s → RelV x v → RelV y u → r x y H Q →
    wpAny (model X.prog X.w) X.A (f v u) (EP X pins σ Q) X.xe s
/-- a one-place operation -/
def UnR (X : Cx) (f : Value → Sem Value) (r : V → Hp → VK → Prop) : Prop :=
  ∀ (pins : List (Addr × Obj)) (s : Shared) (σ : St) (H : Hp) (x : V) (v : Value) (Q : VK), Inv X pins σ H s → RelV x v → r x H Q →
    wpAny (model X.prog X.w) X.A (f v) (EP X pins σ Q) X.xe s
/-- a call of a value that is known (a builtin, a type) with values -/
def CallR (X : Cx) (f : Value) (r : List V → Hp → VK → Prop) : Prop :=
  ∀ (pins : List (Addr × Obj)) (s : Shared) (σ : St) (H : Hp) (xs : List V) (us : List Value) (Q : VK), Inv X pins σ H s → Vals xs us → r xs H Q →
    wpAny (model X.prog X.w) X.A (call f us) (EP X pins σ Q) X.xe s
def tOp (r : R2) (ta tb : TE) : TE := fun σ H Q => ta σ H fun x H1 => tb σ H1 fun y H2 => r x y H2 Q
def tUn (r : V → Hp → VK → Prop) (ta : TE) : TE := fun σ H Q => ta σ H fun x H1 => r x H1 Q
/-- ints in, under C, and a value out -/
def rI (C : Int → Int → Prop) (g : Int → Int → V) : R2 := fun x y H Q => ∃ i j, x = .int i ∧ y = .int j ∧ C i j ∧ Q (g i j) H
def rI0 (g : Int → Int → V) : R2 := fun x y H Q => ∃ i j, x = .int i ∧ y = .int j ∧ Q (g i j) H
def rU (g : Int → V) : V → Hp → VK → Prop := fun x H Q => ∃ i, x = .int i ∧ Q (g i) H

section
variable {X : Cx} {a b c : Expr} {ta tb tc : TE} {pos : Pos}

theorem binT (ha : PE X a ta) (hb : PE X b tb) {pins : List (Addr × Obj)} {s : Shared} {σ : St} {H : Hp} {R : V → V → Hp → Prop} (I : Inv X pins σ H s)
    (h : ta σ H fun x H1 => tb σ H1 fun y H2 => R x y H2) {Q : Value → Shared → Prop} {f : Value → Value → Sem Value}
    (hf : ∀ v u s2 x y H2, Inv X pins σ H2 s2 → RelV x v → RelV y u → R x y H2 → wpAny (model X.prog X.w) X.A (f v u) Q X.xe s2) :
    wpAny (model X.prog X.w) X.A (eval a X.env) (fun v s₁ => wpAny (model X.prog X.w) X.A (eval b X.env) (fun u s₂ => wpAny (model X.prog X.w) X.A (f v u) Q X.xe s₂) X.xe s₁) X.xe s := by
  refine thn (ha pins s σ H _ I h) fun v s1 ⟨x, H1, I1, r1, q1⟩ => ?_
  refine thn (hb pins s1 σ H1 _ I1 q1) fun u s2 ⟨y, H2, I2, r2, q2⟩ => ?_
  exact hf v u s2 x y H2 I2 r1 r2 q2

theorem pe_op {op : Operator} {r : R2} (ho : OpR X (binaryOp op) r) (ha : PE X a ta) (hb : PE X b tb) : PE X (.BinOp a op b pos) (tOp r ta tb) := by
  intro pins s σ H Q I h
  exact wpAny_BinOp (binT ha hb I h fun v u s2 x y H2 I2 rx ry q => ho pins s2 σ H2 x y v u Q I2 rx ry q)
theorem pe_un {op : UnaryOp} {r : V → Hp → VK → Prop} (ho : UnR X (unaryOp op) r) (ha : PE X a ta) : PE X (.UnaryOp op a pos) (tUn r ta) := by
  intro pins s σ H Q I h
  exact UnaryOp_ (thn (ha pins s σ H _ I h) fun v s1 ⟨x, H1, I1, r1, q1⟩ => ho pins s1 σ H1 x v Q I1 r1 q1)
/-! ### ints -/
theorem opI {f : Value → Value → Sem Value} {C : Int → Int → Prop} {g : Int → Int → Int}
    (rule : ∀ (i j : Int) (t u : Tok) (s : Shared) (Q : Value → Shared → Prop) (E : Value → Shared → Prop), C i j → Q (.int (g i j) s.toks) { s with toks := s.toks + 1 } → wpAny (model X.prog X.w) X.A (f (.int i t) (.int j u)) Q E s) :
    OpR X f (rI C fun i j => .int (g i j)) := by
  intro pins s σ H x y v u Q I rx ry h
  obtain ⟨i, j, rfl, rfl, hc, q⟩ := h
  obtain ⟨t, rfl⟩ := rx
  obtain ⟨t', rfl⟩ := ry
  exact rule i j t t' s _ _ hc ⟨.int (g i j), H, I.tok _, ⟨_, rfl⟩, q⟩
theorem opI0 {f : Value → Value → Sem Value} {g : Int → Int → Int}
    (rule : ∀ (i j : Int) (t u : Tok) (s : Shared) (Q : Value → Shared → Prop) (E : Value → Shared → Prop), Q (.int (g i j) s.toks) { s with toks := s.toks + 1 } → wpAny (model X.prog X.w) X.A (f (.int i t) (.int j u)) Q E s) :
    OpR X f (rI0 fun i j => .int (g i j)) := by
  intro pins s σ H x y v u Q I rx ry h
  obtain ⟨i, j, rfl, rfl, q⟩ := h
  obtain ⟨t, rfl⟩ := rx
  obtain ⟨t', rfl⟩ := ry
  exact rule i j t t' s _ _ ⟨.int (g i j), H, I.tok _, ⟨_, rfl⟩, q⟩
theorem opB0 {f : Value → Value → Sem Value} {g : Int → Int → Bool}
    (rule : ∀ (i j : Int) (t u : Tok) (s : Shared) (Q : Value → Shared → Prop) (E : Value → Shared → Prop), Q (.bool (g i j)) s → wpAny (model X.prog X.w) X.A (f (.int i t) (.int j u)) Q E s) :
    OpR X f (rI0 fun i j => .bl (g i j)) := by
  intro pins s σ H x y v u Q I rx ry h
  obtain ⟨i, j, rfl, rfl, q⟩ := h
  obtain ⟨t, rfl⟩ := rx
  obtain ⟨t', rfl⟩ := ry
  exact rule i j t t' s _ _ ⟨.bl (g i j), H, I, rfl, q⟩

def CDiv (i j : Int) : Prop := 0 < j ∧ j < 1073741824
def CMul (i j : Int) : Prop := (-(2 ^ 64) < i ∧ i < 2 ^ 64) ∨ (-(2 ^ 64) < j ∧ j < 2 ^ 64)
theorem CMul.ok {i j : Int} (h : CMul i j) : IntMulOk i j := by
  rcases h with ⟨h1, h2⟩ | ⟨h1, h2⟩
  · exact .of_left (intBits_le_64 h1 h2)
  · exact .of_right (intBits_le_64 h1 h2)
theorem op_add : OpR X (binaryOp .Add) (rI0 fun i j => .int (i + j)) := opI0 fun _ _ _ _ _ _ _ q => add_int q
theorem op_sub : OpR X (binaryOp .Sub) (rI0 fun i j => .int (i - j)) := opI0 fun _ _ _ _ _ _ _ q => sub_int q
/-- // by a positive divisor -/
theorem op_fdiv : OpR X (binaryOp .FloorDiv) (rI CDiv fun i j => .int (i / j)) := opI fun i j _ _ _ _ _ hc q => by
  have h1 : (0 : Int) < j := hc.1
  have h2 : j < 1073741824 := hc.2
  exact floordiv_int (by omega) (by rw [Int.fdiv_eq_ediv_of_nonneg i (by omega)]; exact q) (.inl (PyProof.noPylong_small (by omega)))
/-- % by a positive divisor of any size -/
theorem op_mod : OpR X (binaryOp .Mod) (rI (fun _ j => 0 < j) fun i j => .int (i % j)) := opI fun i j _ _ _ _ _ hc q => by
  have h1 : (0 : Int) < j := hc
  exact mod_int' (by omega) (by rw [Int.fmod_eq_emod_of_nonneg i (by omega)]; exact q)
theorem unI {f : Value → Sem Value} {g : Int → Int}
    (rule : ∀ (i : Int) (t : Tok) (s : Shared) (Q : Value → Shared → Prop) (E : Value → Shared → Prop), Q (.int (g i) s.toks) { s with toks := s.toks + 1 } → wpAny (model X.prog X.w) X.A (f (.int i t)) Q E s) :
    UnR X f (rU fun i => .int (g i)) := by
  intro pins s σ H x v Q I rx h
  obtain ⟨i, rfl, q⟩ := h
  obtain ⟨t, rfl⟩ := rx
  exact rule i t s _ _ ⟨.int (g i), H, I.tok _, ⟨_, rfl⟩, q⟩
theorem un_neg : UnR X (unaryOp .USub) (rU fun i => .int (-i)) := unI fun _ _ _ _ _ q => neg_int q
/-! ### bools among ints: n += (a < b) -/
end

/-! ### comparisons -/
/-- the scalars that == tells apart as data does -/
def scal : V → V → Bool
  | .non, .non => true | .non, .int _ => true | .int _, .non => true | .non, .bl _ => true | .bl _, .non => true | .non, .str _ => true | .str _, .non => true
  | .int _, .int _ => true | .bl _, .bl _ => true | .str _, .str _ => true | .byt _, .byt _ => true
  | .int _, .str _ => true | .str _, .int _ => true | .bl _, .str _ => true | .str _, .bl _ => true
  | _, _ => false
def rEq : R2 := fun x y H Q => scal x y = true ∧ Q (.bl (decide (x = y))) H
def rNe : R2 := fun x y H Q => scal x y = true ∧ Q (.bl (!decide (x = y))) H

theorem dec_int {i j : Int} : decide (V.int i = V.int j) = (i == j) := by
  rw [Bool.eq_iff_iff]
  simp
theorem dec_bl {i j : Bool} : decide (V.bl i = V.bl j) = (i == j) := by
  rw [Bool.eq_iff_iff]
  simp
theorem dec_str {i j : Str} : decide (V.str i = V.str j) = (i == j) := by
  rw [Bool.eq_iff_iff]
  simp
theorem dec_byt {i j : Array UInt8} : decide (V.byt i = V.byt j) = (i.toList == j.toList) := by
  rw [Bool.eq_iff_iff]
  cases i
  cases j
  simp

section
variable {X : Cx} {a b c : Expr} {ta tb tc : TE} {pos : Pos}
theorem fin_bl {pins : List (Addr × Obj)} {σ : St} {H : Hp} {s : Shared} {Q : VK} {k k' : Bool} (I : Inv X pins σ H s) (q : Q (.bl k) H) (e : k = k') : EP X pins σ Q (.bool k') s := by
  subst e
  exact ⟨.bl k, H, I, rfl, q⟩
theorem op_eq : OpR X (compareOp .Eq) rEq := by
  intro pins s σ H x y v u Q I rx ry h
  obtain ⟨hs, q⟩ := h
  cases x with
  | non =>
    cases rx
    cases y with
    | non => cases ry; exact PySem.EqNone.eq_none_none (fin_bl I q (by simp))
    | bl j => cases ry; exact PySem.EqNone.eq_none_bool (fin_bl I q (by simp))
    | int j => obtain ⟨t', rfl⟩ := ry; exact PySem.EqNone.eq_none_int (fin_bl I q (by simp))
    | str j => obtain ⟨t', rfl⟩ := ry; exact PySem.EqNone.eq_none_str (fin_bl I q (by simp))
    | _ => exact absurd (show false = true from hs) Bool.false_ne_true
  | bl i =>
    cases rx
    cases y with
    | non => cases ry; exact PySem.EqNone.eq_bool_none (fin_bl I q (by simp))
    | bl j => cases ry; exact eq_bool (fin_bl I q dec_bl)
    | str j => obtain ⟨t', rfl⟩ := ry; exact PySem.EqMixed.eq_bool_str (fin_bl I q (by simp))
    | _ => exact absurd (show false = true from hs) Bool.false_ne_true
  | int i =>
    obtain ⟨t, rfl⟩ := rx
    cases y with
    | non => cases ry; exact PySem.EqNone.eq_int_none (fin_bl I q (by simp))
    | int j => obtain ⟨t', rfl⟩ := ry; exact eq_int (fin_bl I q dec_int)
    | str j => obtain ⟨t', rfl⟩ := ry; exact PySem.EqMixed.eq_int_str (fin_bl I q (by simp))
    | _ => exact absurd (show false = true from hs) Bool.false_ne_true
  | str i =>
    obtain ⟨t, rfl⟩ := rx
    cases y with
    | non => cases ry; exact PySem.EqNone.eq_str_none (fin_bl I q (by simp))
    | bl j => cases ry; exact PySem.EqMixed.eq_str_bool (fin_bl I q (by simp))
    | int j => obtain ⟨t', rfl⟩ := ry; exact PySem.EqMixed.eq_str_int (fin_bl I q (by simp))
    | str j => obtain ⟨t', rfl⟩ := ry; exact eq_str (fin_bl I q dec_str)
    | _ => exact absurd (show false = true from hs) Bool.false_ne_true
  | byt i =>
    obtain ⟨t, rfl⟩ := rx
    cases y with
    | byt j => obtain ⟨t', rfl⟩ := ry; exact PySem.W.eq_bytes (fin_bl I q dec_byt)
    | _ => exact absurd (show false = true from hs) Bool.false_ne_true
  | _ => cases y <;> exact absurd (show false = true from hs) Bool.false_ne_true
theorem op_ne : OpR X (compareOp .NotEq) rNe := by
  intro pins s σ H x y v u Q I rx ry h
  obtain ⟨hs, q⟩ := h
  cases x with
  | non =>
    cases rx
    cases y with
    | non => cases ry; exact PySem.EqNone.ne_none_none (fin_bl I q (by simp))
    | bl j => cases ry; exact PySem.EqNone.ne_none_bool (fin_bl I q (by simp))
    | int j => obtain ⟨t', rfl⟩ := ry; exact PySem.EqNone.ne_none_int (fin_bl I q (by simp))
    | str j => obtain ⟨t', rfl⟩ := ry; exact PySem.EqNone.ne_none_str (fin_bl I q (by simp))
    | _ => exact absurd (show false = true from hs) Bool.false_ne_true
  | bl i =>
    cases rx
    cases y with
    | non => cases ry; exact PySem.EqNone.ne_bool_none (fin_bl I q (by simp))
    | bl j => cases ry; exact ne_bool (fin_bl I q (congrArg not dec_bl))
    | str j => obtain ⟨t', rfl⟩ := ry; exact PySem.EqMixed.ne_bool_str (fin_bl I q (by simp))
    | _ => exact absurd (show false = true from hs) Bool.false_ne_true
  | int i =>
    obtain ⟨t, rfl⟩ := rx
    cases y with
    | non => cases ry; exact PySem.EqNone.ne_int_none (fin_bl I q (by simp))
    | int j => obtain ⟨t', rfl⟩ := ry; exact ne_int (fin_bl I q (congrArg not dec_int))
    | str j => obtain ⟨t', rfl⟩ := ry; exact PySem.EqMixed.ne_int_str (fin_bl I q (by simp))
    | _ => exact absurd (show false = true from hs) Bool.false_ne_true
  | str i =>
    obtain ⟨t, rfl⟩ := rx
    cases y with
    | non => cases ry; exact PySem.EqNone.ne_str_none (fin_bl I q (by simp))
    | bl j => cases ry; exact PySem.EqMixed.ne_str_bool (fin_bl I q (by simp))
    | int j => obtain ⟨t', rfl⟩ := ry; exact PySem.EqMixed.ne_str_int (fin_bl I q (by simp))
    | str j => obtain ⟨t', rfl⟩ := ry; exact ne_str (fin_bl I q (congrArg not dec_str))
    | _ => exact absurd (show false = true from hs) Bool.false_ne_true
  | byt i =>
    obtain ⟨t, rfl⟩ := rx
    cases y with
    | byt j => obtain ⟨t', rfl⟩ := ry; exact PySem.W.ne_bytes (fin_bl I q (congrArg not dec_byt))
    | _ => exact absurd (show false = true from hs) Bool.false_ne_true
  | _ => cases y <;> exact absurd (show false = true from hs) Bool.false_ne_true

theorem op_lt : OpR X (compareOp .Lt) (rI0 fun i j => .bl (decide (i < j))) := opB0 fun _ _ _ _ _ _ _ q => lt_int q
theorem op_le : OpR X (compareOp .LtE) (rI0 fun i j => .bl (decide (i ≤ j))) := opB0 fun _ _ _ _ _ _ _ q => le_int q
theorem op_gt : OpR X (compareOp .Gt) (rI0 fun i j => .bl (decide (j < i))) := opB0 fun _ _ _ _ _ _ _ q => gt_int q
/-- the one string within the other -/
theorem op_in_str : OpR X (compareOp .In) (fun x y H Q => ∃ i j, x = .str i ∧ y = .str j ∧ Q (.bl (!(Builtin.Str.occurrences j i 0 j.length 1).isEmpty)) H) := by
  intro pins s σ H x y v u Q I rx ry h
  obtain ⟨i, j, rfl, rfl, q⟩ := h
  obtain ⟨t, rfl⟩ := rx
  obtain ⟨t', rfl⟩ := ry
  exact in_str (fin_bl I q rfl)

/-- is None, is not None: the right side a value none -/
theorem op_isN : OpR X (compareOp .Is) (fun x y H Q => y = .non ∧ Q (.bl (decide (x = .non))) H) := by
  intro pins s σ H x y v u Q I rx ry h
  obtain ⟨rfl, q⟩ := h
  cases ry
  refine is_none_gen (fin_bl I q ?_)
  cases x <;> first
    | (cases rx; rfl)
    | (obtain ⟨t, rfl⟩ := rx; rfl)
theorem op_notN : OpR X (compareOp .IsNot) (fun x y H Q => y = .non ∧ Q (.bl (!decide (x = .non))) H) := by
  intro pins s σ H x y v u Q I rx ry h
  obtain ⟨rfl, q⟩ := h
  cases ry
  refine isnot_none_gen (fin_bl I q ?_)
  cases x <;> first
    | (cases rx; rfl)
    | (obtain ⟨t, rfl⟩ := rx; rfl)

/-- two rules for one operation: by cases -/
theorem OpR.or {f : Value → Value → Sem Value} {r r' : R2} (h : OpR X f r) (h' : OpR X f r') : OpR X f (fun x y H Q => r x y H Q ∨ r' x y H Q) := by
  intro pins s σ H x y v u Q I rx ry q
  rcases q with q | q
  · exact h pins s σ H x y v u Q I rx ry q
  · exact h' pins s σ H x y v u Q I rx ry q

theorem nomark (b : Expr) {op : CmpOp} (h : op ≠ .In := by decide) (h2 : op ≠ .NotIn := by decide) : behindInMarks op b = false := by
  have e1 : (op == CmpOp.In) = false := by cases op <;> first | rfl | exact absurd rfl h
  have e2 : (op == CmpOp.NotIn) = false := by cases op <;> first | rfl | exact absurd rfl h2
  cases b <;> simp [behindInMarks, e1, e2]
/-- a comparison as a value; hm: nomark b, or (for in, not in) by with_unfolding_all rfl -/
theorem pe_cmpR {op : CmpOp} {r : R2} (ho : OpR X (compareOp op) r) (ha : PE X a ta) (hb : PE X b tb) (hm : behindInMarks op b = false) : PE X (.Compare a [op] [b] pos) (tOp r ta tb) := by
  intro pins s σ H Q I h
  exact wpAny_Compare1 (binT ha hb I h fun v u s2 x y H2 I2 rx ry q => ho pins s2 σ H2 x y v u Q I2 rx ry q) hm
/-- a reading of a value as a test -/
def tTest (t : TE) : TT := fun σ H Q => t σ H fun x H' => ∃ k, x = .bl k ∧ Q k H'
theorem pt_cmpR {op : CmpOp} {r : R2} (ho : OpR X (compareOp op) r) (ha : PE X a ta) (hb : PE X b tb) (hm : behindInMarks op b = false) : PT X (.Compare a [op] [b] pos) (tTest (tOp r ta tb)) := by
  intro pins s σ H Q I h
  refine wpAny_isTrue_Compare1 (thn (ha pins s σ H _ I h) fun v s1 ⟨x, H1, I1, r1, q1⟩ => thn (hb pins s1 σ H1 _ I1 q1) fun u s2 ⟨y, H2, I2, r2, q2⟩ =>
    thn (ho pins s2 σ H2 x y v u _ I2 r1 r2 q2) fun c s3 ⟨z, H3, I3, r3, k, e, q3⟩ => ?_) hm
  subst e
  cases r3
  exact wpAny_truthy_bool ⟨H3, I3, q3⟩
/-- a op1 b op2 c -/
def tChain (r r' : R2) (ta tb tc : TE) : TE := fun σ H Q => ta σ H fun x H1 => tb σ H1 fun y H2 => r x y H2 fun z H3 => ∃ k, z = .bl k ∧
  (if k = true then tc σ H3 fun w' H4 => r' y w' H4 Q else Q (.bl false) H3)
theorem pe_chain {op op' : CmpOp} {r r' : R2} (ho : OpR X (compareOp op) r) (ho' : OpR X (compareOp op') r') (ha : PE X a ta) (hb : PE X b tb) (hc : PE X c tc)
    (hm : lastMarks [op, op'] [b, c] = false := by with_unfolding_all rfl) : PE X (.Compare a [op, op'] [b, c] pos) (tChain r r' ta tb tc) := by
  intro pins s σ H Q I h
  refine Compare_chain (thn (ha pins s σ H _ I h) fun v s1 ⟨x, H1, I1, r1, q1⟩ => chain_link (thn (hb pins s1 σ H1 _ I1 q1) fun u s2 ⟨y, H2, I2, r2, q2⟩ =>
    thn (ho pins s2 σ H2 x y v u _ I2 r1 r2 q2) fun d s3 ⟨z, H3, I3, r3, k, e, q3⟩ => ?_)) hm
  subst e
  cases r3
  refine wpAny_truthy_bool ?_
  cases k with
  | false => exact ite_ff ⟨.bl false, H3, I3, rfl, q3⟩
  | true => exact ite_tt (chain_last (thn (hc pins s3 σ H3 _ I3 q3) fun w' s4 ⟨z', H4, I4, r4, q4⟩ => ho' pins s4 σ H4 y z' u w' Q I4 r2 r4 q4))
/-! ### truth -/
theorem line63 : (sizeLine : Nat) < 2 ^ 63 := by rw [sizeLine_eq]; decide
/-! ### strs and bytes -/
theorem op_add_str : OpR X (binaryOp .Add) (fun x y H Q => ∃ i j, x = .str i ∧ y = .str j ∧ i.length + j.length ≤ sizeLine ∧ Q (.str (i ++ j)) H) := by
  intro pins s σ H x y v u Q I rx ry h
  obtain ⟨i, j, rfl, rfl, hz, q⟩ := h
  obtain ⟨t, rfl⟩ := rx
  obtain ⟨t', rfl⟩ := ry
  exact add_str (fun t' tk => ⟨.str (i ++ j), H, I.tok _, ⟨_, rfl⟩, q⟩) hz
/-! ### scalar builtins, by CallR -/
theorem vals1 {x : V} {us : List Value} (r : Vals [x] us) : ∃ u, us = [u] ∧ RelV x u := by
  cases r with
  | cons r1 r2 => cases r2; exact ⟨_, rfl, r1⟩
theorem vals2 {x y : V} {us : List Value} (r : Vals [x, y] us) : ∃ u w', us = [u, w'] ∧ RelV x u ∧ RelV y w' := by
  cases r with
  | cons r1 r2 =>
    cases r2 with
    | cons r3 r4 => cases r4; exact ⟨_, _, rfl, r1, r3⟩
theorem call_max2 (hc : X.calm = true) : CallR X (.builtin "max") (fun xs H Q => ∃ i j, xs = [.int i, .int j] ∧ Q (.int (if j > i then j else i)) H) := by
  intro pins s σ H xs us Q I r h
  obtain ⟨i, j, rfl, q⟩ := h
  obtain ⟨u, w', rfl, ⟨t, rfl⟩, ⟨t', rfl⟩⟩ := vals2 r
  refine max_two_ints (I.ok.hd hc) fun h' tk k => ⟨_, H, I.kept k, ?_, q⟩
  by_cases hj : j > i
  · rw [if_pos hj, if_pos hj]; exact ⟨_, rfl⟩
  · rw [if_neg hj, if_neg hj]; exact ⟨_, rfl⟩
theorem call_int1 : CallR X (.type "int") (fun xs H Q => (∃ i, xs = [.int i] ∧ Q (.int i) H) ∨ ∃ k, xs = [.bl k] ∧ Q (.int (if k then 1 else 0)) H) := by
  intro pins s σ H xs us Q I r h
  rcases h with ⟨i, rfl, q⟩ | ⟨k, rfl, q⟩
  · obtain ⟨u, rfl, t, rfl⟩ := vals1 r
    exact call_int_int ⟨.int i, H, I, ⟨_, rfl⟩, q⟩
  · obtain ⟨u, rfl, r1⟩ := vals1 r
    cases r1
    exact call_int_bool ⟨.int (if k then 1 else 0), H, I.tok _, ⟨_, rfl⟩, q⟩
theorem call_str_int : CallR X (.type "str") (fun xs H Q => ∃ i, xs = [.int i] ∧ i.natAbs.log2 < 1920 ∧ Q (.str (toString i)) H) := by
  intro pins s σ H xs us Q I r h
  obtain ⟨i, rfl, hz, q⟩ := h
  obtain ⟨u, rfl, t, rfl⟩ := vals1 r
  exact PySem.P.str_of_int hz ⟨.str _, H, I.tok _, ⟨_, rfl⟩, q⟩
end
end L2

namespace L2
open PySem PySem.Spec PyProof.Rows

/-! ### an instance, its attributes a map -/
structure ObjM (h : Heap) (x dx C : Addr) (mA : Str → Option Value) : Prop where
  obj : h.get? x = some (PySem.W.instObj C dx)
  ns : h.Ns1 dx mA
  ne : dx ≠ x

theorem lookIn_ns {h : Heap} {dx : Addr} {mA : Str → Option Value} (n : h.Ns1 dx mA) : ∃ od, h.get? dx = some od ∧ ∀ name, PySem.W.lookIn name od = some (mA name) := by
  obtain ⟨o, es, ep, ho, hd, hk, _, hm⟩ := n
  refine ⟨o, ho, fun name => ?_⟩
  have e := hm name
  unfold nsFind findBy at e
  rw [← Array.find?_toList] at e
  unfold PySem.W.lookIn
  rw [hd]
  dsimp only
  split
  · rename_i y q
    rw [q] at e
    exact congrArg some e
  · rename_i q
    rw [q] at e
    have a : es.toList.any (·.refKey) = false := by
      rw [List.any_eq_false]
      intro y hy
      obtain ⟨z, t, hkey⟩ := hk y (Array.mem_toList_iff.mp hy)
      simp [DictEntry.refKey, hkey]
    have a' : ¬ es.toList.any (·.refKey) = true := by rw [a]; exact Bool.false_ne_true
    rw [if_neg a']
    exact congrArg some e

theorem ObjM.look {h : Heap} {x dx C : Addr} {mA : Str → Option Value} (I : ObjM h x dx C mA) : ∃ od, PySem.W.InstAt h x (PySem.W.instObj C dx) C (some od) ∧ ∀ name, PySem.W.lookIn name od = some (mA name) :=
  let ⟨od, ho, hl⟩ := lookIn_ns I.ns
  ⟨od, ⟨I.obj, rfl, rfl, ho⟩, hl⟩

section
variable {prog : Program} {w : World} {A : Around} {E : Value → Shared → Prop} {s : Shared} {K : PySem.W.Frag} {x dx C f : Addr} {mA : Str → Option Value} {name : Str} {v : Value}

end

/-! ### the attributes as a list of pairs -/
theorem RelO.some_of {v : V} {o : Option Value} (r : RelO (some v) o) : ∃ u, o = some u ∧ RelV v u := by
  cases o with
  | none => exact (show False from r).elim
  | some u => exact ⟨u, rfl, r⟩
section
variable {P : Program} {w : World} {H H' : Hp} {h h' : Heap} {a C dx : Addr} {fs fs' : List (Str × V)}
theorem ins_get (hok : HOk P w H h) (e : H a = some (.ins C dx fs)) : ∃ mA, ObjM h a dx C mA ∧ (∀ f, RelO (fs.lookup f) (mA f)) ∧ PySem.Within mA (fs.map (·.1)) ∧ fs.length ≤ 1000 ∧ H dx = some (.own a) := by
  obtain ⟨d, z, ne, ob, mA, n, r, q⟩ := (show ObjOk P w H h a (.ins C dx fs) from hok a _ e)
  exact ⟨mA, ⟨ob, n, ne⟩, r, q, z, d⟩
end

/-! ### what of the text a class must have -/
structure Cls (K : PySem.W.Frag) (C : Addr) : Prop where
  pg : PySem.W.plainGet K C Str.empty = true
  hd : PySem.W.hasDictIn K C = true
  po : PySem.W.plainOver K C = true
  sa : PySem.W.findIn K (.ref C) "__setattr__" = some (some (.builtin "object.__setattr__"))
theorem Cls.get {K : PySem.W.Frag} {C : Addr} (c : Cls K C) (f : Str) : PySem.W.plainGet K C f = true := c.pg
section
variable {X : Cx} {pins : List (Addr × Obj)} {σ : St} {H : Hp} {s : Shared} {a C dx : Addr} {fs : List (Str × V)} {f : Str} {v : V} {A : Around} {E : Value → Shared → Prop}

/-- a new instance, tracked, without attributes -/
theorem Inv.made (I : Inv X pins σ H s) : Inv X pins σ (upd (upd H s.heap.objs.size (.own (s.heap.objs.size + 1))) (s.heap.objs.size + 1) (.ins C s.heap.objs.size []))
    { s with heap := (s.heap.push PySem.W.emptyDict).push (PySem.W.instObj C s.heap.objs.size) } := by
  have e1 : (s.heap.push PySem.W.emptyDict).get? s.heap.objs.size = some PySem.W.emptyDict := Heap.get?_push_size s.heap rfl
  have e2 : ((s.heap.push PySem.W.emptyDict).push (PySem.W.instObj C s.heap.objs.size)).get? (s.heap.objs.size + 1) = some (PySem.W.instObj C s.heap.objs.size) := by
    have := Heap.get?_push_size (s.heap.push PySem.W.emptyDict) (o := PySem.W.instObj C s.heap.objs.size) rfl
    rwa [Heap.size_push] at this
  have e3 : (s.heap.push PySem.W.emptyDict).Ns s.heap.objs.size (fun _ => none) := ⟨PySem.W.emptyDict, #[], _, e1, rfl, (fun e he => absurd he (by simp)), fun _ => rfl⟩
  have I1 := I.laid (a := s.heap.objs.size) (o := .own (s.heap.objs.size + 1)) (h' := s.heap.push PySem.W.emptyDict) (t' := s.toks) (fun b u q => Heap.get?_push_of_some _ q) (Nat.le_refl _) ⟨_, e1⟩
  refine I1.laid (a := s.heap.objs.size + 1) (o := .ins C s.heap.objs.size []) (t' := s.toks) (fun b u q => Heap.get?_push_of_some _ q) (Nat.le_of_eq (Heap.size_push _ _)) ?_
  have ne : s.heap.objs.size ≠ s.heap.objs.size + 1 := Nat.ne_of_lt (Nat.lt_succ_self _)
  refine ⟨by rw [upd_ne ne, upd_same], Nat.zero_le _, ne, e2, fun _ => none, (Heap.Ns1.of_empty e3).at fun o q => Heap.get?_push_of_some _ q, fun _ => True.intro, fun y hy => absurd rfl hy⟩

end

/-! ### readings and rules -/
section
variable {X : Cx} {o e value : Expr} {f : Str} {pos pos' tpos : Pos} {ta tv : TE}
end

/-! ### isinstance -/
section
variable {X : Cx} {pins : List (Addr × Obj)} {σ : St} {H : Hp} {s : Shared} {A : Around} {E : Value → Shared → Prop} {Q : Value → Shared → Prop} {c : Value} {b : Bool}
/-- the type of a value, as the fragment's deciders take it; for an instance its class -/
inductive TyOf (K : PySem.W.Frag) (H : Hp) : V → Value → Prop where
  | non : TyOf K H .non (.type "NoneType")
  | bl (x : Bool) : TyOf K H (.bl x) (.type "bool")
  | int (i : Int) : TyOf K H (.int i) (.type "int")
  | str (x : Str) : TyOf K H (.str x) (.type "str")
  | flt (x : UInt64) : TyOf K H (.flt x) (.type "float")
  | lst {a : Addr} {xs : List V} (e : H a = some (.lst xs)) : TyOf K H (.ref a) (.type "list")
  | frz {a : Addr} {o : Obj} {xs : List V} (e : H a = some (.frz o (.lst xs))) : TyOf K H (.ref a) (.type "list")
  | tup {a : Addr} {xs : List V} (e : H a = some (.tup xs)) : TyOf K H (.ref a) (.type "tuple")
  | dK {a : Addr} {kvs : List (Key × V)} (e : H a = some (.dK kvs)) : TyOf K H (.ref a) (.type "dict")
  | dT {a : Addr} {kvs : List (List Key × V)} (e : H a = some (.dT kvs)) : TyOf K H (.ref a) (.type "dict")
  | ins {a C dx : Addr} {fs : List (Str × V)} (e : H a = some (.ins C dx fs)) (cl : Cls K C) (ha : PySem.W.findIn K (.ref C) "__class__" = some (some (.builtin "object.__class__")))
      (hn : PySem.W.specialIn K (.builtin "object.__class__") "__get__" = some (some (.builtin "getset_descriptor.__get__"))) (htk : PySem.W.takesIn K (.builtin "object.__class__") = some true)
      (hm : PySem.W.mroIn K C (.type "object") = some true) : TyOf K H (.ref a) (.ref C)
/-- isinstance(x, c) for one class c, a built-in or an own one: kitOne's answer -/
theorem isinst_ok {x : V} {u t : Value} (I : Inv X pins σ H s) (rx : RelV x u) (ty : TyOf X.K H x t) (e : PySem.W.kitOne X.K t c = some b) (h : ∀ tk, Q (.bool b) { s with toks := tk }) :
    wpAny (model X.prog X.w) A (call (.builtin "isinstance") [u, c]) Q E s := by
  cases ty with
  | non => cases (show u = Value.none from rx); exact PySem.W.kia_one PySem.W.kitx_none I.kIn True.intro e (fun z => nomatch z) h
  | bl y => cases (show u = Value.bool y from rx); exact PySem.W.kia_one PySem.W.kitx_bool I.kIn True.intro e (fun z => nomatch z) h
  | int i => obtain ⟨t, q⟩ := (show ∃ t, u = Value.int i t from rx); cases q; exact PySem.W.kia_one PySem.W.kitx_int I.kIn True.intro e (fun z => nomatch z) h
  | str y => obtain ⟨t, q⟩ := (show ∃ t, u = Value.str y t from rx); cases q; exact PySem.W.kia_one PySem.W.kitx_str I.kIn True.intro e (fun z => nomatch z) h
  | flt y => obtain ⟨t, q⟩ := (show ∃ t, u = Value.float y t from rx); cases q; exact PySem.W.kia_one PySem.W.kitx_float I.kIn True.intro e (fun z => nomatch z) h
  | @lst a xs ea =>
    cases (show u = Value.ref a from rx)
    obtain ⟨_, _, n, _, h1⟩ := (show ObjOk X.prog X.w H s.heap a (.lst xs) from I.hok a _ ea)
    exact PySem.W.kia_one PySem.W.kitx_list I.kIn ⟨_, h1, rfl⟩ e (fun z => nomatch z) h
  | @frz a ob xs ea =>
    cases (show u = Value.ref a from rx)
    obtain ⟨_, _, _, n, _, h1⟩ := (show ObjOk X.prog X.w H s.heap a (.frz ob (.lst xs)) from I.hok a _ ea)
    exact PySem.W.kia_one PySem.W.kitx_list I.kIn ⟨_, h1, rfl⟩ e (fun z => nomatch z) h
  | @tup a xs ea =>
    cases (show u = Value.ref a from rx)
    obtain ⟨_, _, _, p⟩ := (show ObjOk X.prog X.w H s.heap a (.tup xs) from I.hok a _ ea)
    obtain ⟨o, h1, h2, _⟩ := p
    exact PySem.W.kia_one PySem.W.kitx_tuple I.kIn ⟨o, h1, h2⟩ e (fun z => nomatch z) h
  | @dK a kvs ea =>
    cases (show u = Value.ref a from rx)
    obtain ⟨_, _, vs, _, p⟩ := (show ObjOk X.prog X.w H s.heap a (.dK kvs) from I.hok a _ ea)
    obtain ⟨o, es, ep, h1, h2, _⟩ := p
    exact PySem.W.kia_one PySem.W.kitx_dict I.kIn ⟨o, h1, h2.1⟩ e (fun z => nomatch z) h
  | @dT a kvs ea =>
    cases (show u = Value.ref a from rx)
    obtain ⟨_, _, xs, _, o, es, ep, h1, h2, _⟩ := (show ObjOk X.prog X.w H s.heap a (.dT kvs) from I.hok a _ ea)
    exact PySem.W.kia_one PySem.W.kitx_dict I.kIn ⟨o, h1, h2.1⟩ e (fun z => nomatch z) h
  | @ins a C dx fs ea cl ha hn htk hm =>
    cases (show u = Value.ref a from rx)
    obtain ⟨mA, O, _⟩ := ins_get I.hok ea
    obtain ⟨od, J, _⟩ := O.look
    exact PySem.W.kia_one (PySem.W.kitx_own (cl.get _) cl.hd ha hn htk hm) I.kIn J e (fun z => nomatch z) h
end
end L2

namespace L2
open PySem PySem.Spec PyProof.Rows

/-! ### room -/
structure Room (k : Nat) (A : Around) : Prop where
  hd : A.handled = none
  dp : A.depth + 3 * k + 5 < recursionLimit
  un : A.units + 16 * k + 200 < cLine
theorem Room.mono {j k : Nat} {A : Around} (r : Room k A) (h : j ≤ k) : Room j A := ⟨r.hd, by have := r.dp; omega, by have := r.un; omega⟩
theorem Room.deeper {k : Nat} {A : Around} (r : Room (k + 1) A) (env : Env) : Room k (A.deeper env) :=
  ⟨r.hd, by have := r.dp; show A.depth + 1 + 3 * k + 5 < _; omega, by have := r.un; show A.units + 3 + 16 * k + 200 < _; omega⟩
theorem Room.in1 {k : Nat} {A : Around} (r : Room (k + 1) A) : Room k A.in1 :=
  ⟨r.hd, by have := r.dp; show A.depth + 3 * k + 5 < _; omega, by have := r.un; show A.units + 1 + 16 * k + 200 < _; omega⟩
theorem Room.depth {k : Nat} {A : Around} (r : Room k A) : A.depth < recursionLimit := by have := r.dp; omega
theorem Room.units {k : Nat} {A : Around} (r : Room k A) : A.units + 64 < cLine := by have := r.un; omega
theorem Room.units0 {k : Nat} {A : Around} (r : Room k A) : A.units < cLine := by have := r.un; omega

/-! ### argument lists and displays -/
def tNil : TA := fun _ H Q => Q [] H
def tCons (ta : TE) (tr : TA) : TA := fun σ H Q => ta σ H fun x H1 => tr σ H1 fun xs H2 => Q (x :: xs) H2
section
variable {X : Cx} {e : Expr} {es : List Expr} {te : TE} {t : TA} {pos : Pos}
theorem pa_nil : PA X [] tNil := fun _ _ _ _ H Q I h => Calls.spliced_nil ⟨[], H, I, .nil, h⟩
theorem pa_cons (ha : PE X e te) (hr : PA X es t) (hs : starEach (e :: es) X.env = (false, eval e X.env) :: starEach es X.env := by rfl) : PA X (e :: es) (tCons te t) := by
  intro pos pins s σ H Q I h
  rw [hs]
  show wpAny _ _ (spliced ((false, eval e X.env) :: backTo pos (starEach es X.env))) _ _ s
  refine Calls.spliced_cons (thn (ha pins s σ H _ I h) fun u s1 ⟨x, H1, I1, r1, q1⟩ => ?_)
  exact thn (hr pos pins s1 σ H1 _ I1 q1) fun us s2 ⟨xs, H2, I2, r2, q2⟩ => ⟨x :: xs, H2, I2, .cons r1 r2, q2⟩

/-- a tuple, a list of written items -/
def tTup (t : TA) : TE := fun σ H Q => t σ H fun xs H1 => xs.length ≤ sizeLine ∧ ∀ p, H1 p = none → Q (.ref p) (upd H1 p (.tup xs))
def tLst (t : TA) : TE := fun σ H Q => t σ H fun xs H1 => xs.length ≤ sizeLine ∧ ∀ p, H1 p = none → Q (.ref p) (upd H1 p (.lst xs))
theorem pe_tup {x1} (h : PA X es t) : PE X (.Tuple es x1 pos) (tTup t) := by
  intro pins s σ H Q I hq
  refine wpAny_Tuple_spliced (thn (h pos pins s σ H _ I hq) fun us s1 ⟨xs, H1, I1, r, z, q⟩ => ⟨by rw [← r.length]; exact z, ?_⟩)
  have hf : H1 s1.heap.objs.size = none := I1.hok.fresh (Nat.le_refl _)
  refine ⟨.ref s1.heap.objs.size, upd H1 s1.heap.objs.size (.tup xs), I1.laid (t' := s1.toks) (fun b u e => Heap.get?_push_of_some _ e) (Nat.le_refl _) ?_, rfl, q _ hf⟩
  exact ⟨z, us, r, ⟨_, Heap.get?_push_size _ rfl, rfl, _, rfl⟩⟩
theorem pe_lst (h : PA X es t) : PE X (.List es pos) (tLst t) := by
  intro pins s σ H Q I hq
  refine wpAny_List_spliced (thn (h pos pins s σ H _ I hq) fun us s1 ⟨xs, H1, I1, r, z, q⟩ => ⟨by rw [← r.length]; exact z, ?_⟩)
  have hf : H1 s1.heap.objs.size = none := I1.hok.fresh (Nat.le_refl _)
  refine ⟨.ref s1.heap.objs.size, upd H1 s1.heap.objs.size (.lst xs), I1.laid (t' := s1.toks) (fun b u e => Heap.get?_push_of_some _ e) (Nat.le_refl _) ?_, rfl, q _ hf⟩
  exact ⟨z, us, 0, r, Heap.get?_push_size _ rfl⟩
end

/-! ### what a def promises -/
/-- a def's promise: the bound arguments in the parameters' order, the heap, the wanted end, the wanted exception -/
abbrev Sp := List V → Hp → VK → XK → Prop
/-- how an exception lies behind a call (file 08 gives it): the callers' frames, abstract heap and state ahead of the call, the wish, the exception, the state -/
abbrev CXT := List Env → Hp → Shared → XK → Value → Shared → Prop

/-- the state at a call -/
structure Env0 (P : Program) (w : World) (K : PySem.W.Frag) (mg : Str → Option Value) (base : Heap) (A : Around) (outer : List Env) (s : Shared) (H : Hp) : Prop where
  frames : A.frames = some outer
  mod : Mod K mg base
  bs : ∀ b o, base.get? b = some o → s.heap.get? b = some o ∧ H b = none
  bsz : base.objs.size ≤ s.heap.objs.size
  funs : s.heap.FunFrames base outer
  frf : ∀ b ∈ frs outer, H b = none
  hok : HOk P w H s.heap
  bare : AllBare s.gens
/-- a call's end -/
def CE (outer : List Env) (P : Program) (w : World) (H : Hp) (s : Shared) (Q : VK) (u : Value) (s' : Shared) : Prop :=
  ∃ v H', s'.os = s.os ∧ AllBare s'.gens ∧ Un (frs outer) [] H H' s.heap s'.heap ∧ HOk P w H' s'.heap ∧ RelV v u ∧ Q v H'
def CR (CX : CXT) (outer : List Env) (P : Program) (w : World) (H : Hp) (s : Shared) (Q : VK) (E : XK) (r : Result) (s' : Shared) : Prop :=
  match r with
  | .ok (.ret u) => CE outer P w H s Q u s'
  | .ok _ => False
  | .error e => CX outer H s E e s'
structure FnOk (P : Program) (w : World) (K : PySem.W.Frag) (mg : Str → Option Value) (base : Heap) (CX : CXT) (k : Nat) (f : Addr) (fd : FuncData) (ps : List Str) (sp : Sp) : Prop where
  len : ∀ vs H Q E, sp vs H Q E → vs.length = ps.length
  run : ∀ (A : Around) (outer : List Env) (s : Shared) (H : Hp) (args : Args) (us : List Value) (vs : List V) (Q : VK) (E : XK), Room k A → Env0 P w K mg base A outer s H → BindsTo s fd args (ps.zip us) → Vals vs us → sp vs H Q E →
    codeAny (model P w) A (.call (.ref f) args) (CR CX outer P w H s Q E) s
theorem FnOk.mono {P : Program} {w : World} {K : PySem.W.Frag} {mg : Str → Option Value} {base : Heap} {CX : CXT} {j k : Nat} {f : Addr} {fd : FuncData} {ps : List Str} {sp : Sp} (F : FnOk P w K mg base CX j f fd ps sp) (h : j ≤ k) :
    FnOk P w K mg base CX k f fd ps sp := ⟨F.len, fun A outer s H args us vs Q E hr => F.run A outer s H args us vs Q E (hr.mono h)⟩
/-- a weaker promise -/
theorem FnOk.imp {P : Program} {w : World} {K : PySem.W.Frag} {mg : Str → Option Value} {base : Heap} {CX : CXT} {k : Nat} {f : Addr} {fd : FuncData} {ps : List Str} {sp sp' : Sp} (F : FnOk P w K mg base CX k f fd ps sp)
    (h : ∀ vs H Q E, sp' vs H Q E → sp vs H Q E) : FnOk P w K mg base CX k f fd ps sp' :=
  ⟨fun vs H Q E q => F.len vs H Q E (h _ _ _ _ q), fun A outer s H args us vs Q E hr he hb hv hs => F.run A outer s H args us vs Q E hr he hb hv (h _ _ _ _ hs)⟩

theorem Env0.in1 {P : Program} {w : World} {K : PySem.W.Frag} {mg : Str → Option Value} {base : Heap} {A : Around} {outer : List Env} {s : Shared} {H : Hp} (e : Env0 P w K mg base A outer s H) :
    Env0 P w K mg base A.in1 outer s H := ⟨e.frames, e.mod, e.bs, e.bsz, e.funs, e.frf, e.hok, e.bare⟩

section
variable {X : Cx} {pins : List (Addr × Obj)} {σ : St} {H : Hp} {s s' : Shared}
/-- from a body: what a callee wants -/
theorem Inv.env0 (I : Inv X pins σ H s) : Env0 X.prog X.w X.K X.mg X.base X.A X.stack s H :=
  ⟨I.ok.frames, I.ok.mod, I.bs, Nat.le_trans I.ok.bsz I.sz, I.stack, I.stkFree, I.hok, I.bare⟩
/-- behind a call -/
theorem Inv.after {Q : VK} {u : Value} (I : Inv X pins σ H s) (h : CE X.stack X.prog X.w H s Q u s') : EP X pins σ Q u s' := by
  obtain ⟨v, H', os, bare, un, hok, r, q⟩ := h
  obtain ⟨hh, g, d, t, os'⟩ := s'
  obtain rfl : os' = s.os := os
  exact ⟨v, H', I.call (h' := hh) (g' := g) (d' := d) (t' := t) (ch := []) un hok bare (fun b z => absurd z (by simp)), r, q⟩
end

/-! ### calls -/
/-- f(..): the written arguments, then the defaults dvs; E: what is wanted of an exception -/
def tCall (sp : Sp) (dvs : List V) (E : XK) (t : TA) : TE := fun σ H Q => t σ H fun vs H1 => sp (vs ++ dvs) H1 Q E
/-- how the parameters are bound: us the positional arguments, kw the keywords' values by name, ds the defaults that fill up -/
def Binds (K : PySem.W.Frag) (fd : FuncData) (ps : List Str) (ds : List Value) : Prop :=
  ∀ (s : Shared) (us : List Value), K.In s.heap → (us ++ ds).length = ps.length → BindsTo s fd ⟨us, []⟩ (ps.zip (us ++ ds))
/-- every parameter is given -/
theorem Binds.all {K : PySem.W.Frag} {fd : FuncData} {ps : List Str} (h : ∀ us : List Value, us.length = ps.length → bindArgs fd ⟨us, []⟩ = pure (ps.zip us)) : Binds K fd ps [] := fun s us _ hl => by
  rw [List.append_nil] at hl ⊢
  exact .of_eq (h us hl)

/-- an exception of a callee reaches what this body wants of exceptions -/
def Passes (CX : CXT) (X : Cx) (E : XK) : Prop := ∀ (pins : List (Addr × Obj)) (σ : St) (H : Hp) (s : Shared) (e : Value) (s' : Shared), Inv X pins σ H s → CX X.stack H s E e s' → X.xe e s'

section
variable {X : Cx} {CX : CXT} {k : Nat} {f C : Addr} {fd : FuncData} {ps : List Str} {sp : Sp} {dvs : List V} {ds : List Value} {E : XK} {x m : Str} {p pos apos : Pos} {e o : Expr} {es : List Expr} {ta : TE} {t : TA}

/-- the callee runs -/
theorem run_fn {pins : List (Addr × Obj)} {σ : St} {H : Hp} {s : Shared} {Q : VK} {us : List Value} {vs : List V} (F : FnOk X.prog X.w X.K X.mg X.base CX k f fd ps sp) (hr : Room k X.A) (hb : Binds X.K fd ps ds) (hd : Vals dvs ds) (hx : Passes CX X E)
    (I : Inv X pins σ H s) (r : Vals vs us) (h : sp (vs ++ dvs) H Q E) : wpAny (model X.prog X.w) X.A (call (.ref f) us) (EP X pins σ Q) X.xe s := by
  have r2 : Vals (vs ++ dvs) (us ++ ds) := r.append hd
  have hl : (us ++ ds).length = ps.length := by rw [← r2.length]; exact F.len _ _ _ _ h
  refine wpAny_call (codeAny_mono (F.run X.A X.stack s H ⟨us, []⟩ (us ++ ds) (vs ++ dvs) Q E hr I.env0 (hb s us I.kIn hl) r2 h) fun r s' hq => ?_)
  cases r with
  | error e => exact hx pins σ H s e s' I hq
  | ok fl =>
    cases fl with
    | ret u => exact I.after hq
    | next => exact False.elim hq
    | brk => exact False.elim hq
    | cont => exact False.elim hq

theorem pe_call (F : FnOk X.prog X.w X.K X.mg X.base CX k f fd ps sp) (hr : Room k X.A) (hg : Gl X x) (hm : X.mg x = some (.ref f)) (hk : PySem.W.keepIn X.K (.ref f) = true) (hb : Binds X.K fd ps ds) (hd : Vals dvs ds) (hx : Passes CX X E)
    (ha : PA X (e :: es) t) (hdb : (x == ("__debug__" : Str)) = false := by decide) (he : starEach (e :: es) X.env = (false, eval e X.env) :: starEach es X.env := by rfl) (hpl : (backTo pos (starEach es X.env)).any (·.1) = false := by rfl) :
    PE X (.Call (.Name x p) (e :: es) [] pos) (tCall sp dvs E t) := by
  intro pins s σ H Q I h
  refine wpAny_Call_Name_kw (ld_glob I hg hm ?_ hdb)
  refine PySem.W.callWith_K (h₀ := X.base) I.ok.mod.kin hk (thn (ha pos pins s σ H _ I h) fun us s1 ⟨vs, H1, I1, r, q⟩ => ⟨I1.kIn, ?_⟩) he hpl
  exact run_fn F hr hb hd hx I1 r q
end

/-! ### keywords -/
section
variable {X : Cx} {CX : CXT} {k : Nat} {f C : Addr} {fd : FuncData} {ps ks : List Str} {sp : Sp} {E : XK} {x m : Str} {p pos apos kpos : Pos} {e o : Expr} {es : List Expr} {kws : List Keyword} {te ta : TE} {t tk : TA} {nm : Option Str}
variable {g : List Value → List Value → List Value} {gV : List V → List V → List V}
end

/-! ### a def's body keeps its promise -/
/-- names: the parameters first -/
structure FnScope (N P : List Str) (sc : Scope) : Prop where
  kind : sc.kind = .function
  co : sc.isCoroutine = false
  gen : sc.isGenerator = false
  nd : N.Nodup
  pre : N.take P.length = P
  par : ∀ x ∈ P, sc.names.lookup x = some .local ∨ sc.names.lookup x = some .cell
  nofree : ∀ y ∈ sc.names, y.2 ≠ .free

theorem bindL_out {kindOf : Str → Option NameKind} {x : Str} : ∀ {binds : List (Str × Value)} {m : Str → Option Value}, (∀ v, (x, v) ∉ binds) → bindL kindOf binds m x = m x
  | [], _, _ => rfl
  | (n, v) :: r, m, h => by
    unfold bindL
    rw [bindL_out fun w hw => h w (List.mem_cons_of_mem _ hw)]
    split
    · have : x ≠ n := by rintro rfl; exact h v List.mem_cons_self
      simp [this]
    · rfl
theorem bindC_out {kindOf : Str → Option NameKind} {x : Str} : ∀ {binds : List (Str × Value)} {m : Str → Option Value}, (∀ v, (x, v) ∉ binds) → bindC kindOf binds m x = m x
  | [], _, _ => rfl
  | (n, v) :: r, m, h => by
    unfold bindC
    rw [bindC_out fun w hw => h w (List.mem_cons_of_mem _ hw)]
    split
    · rfl
    · have : x ≠ n := by rintro rfl; exact h v List.mem_cons_self
      simp [this]
theorem bindL_get {kindOf : Str → Option NameKind} {x : Str} {v : Value} : ∀ {P : List Str} {vs : List Value} {i : Nat} {m : Str → Option Value}, P.Nodup → P[i]? = some x → vs[i]? = some v → kindOf x = some .local →
    bindL kindOf (P.zip vs) m x = some v
  | [], _, _, _, _, h, _, _ => by simp at h
  | _ :: _, [], _, _, _, _, h, _ => by simp at h
  | p :: P, w :: vs, 0, m, nd, h1, h2, hk => by
    simp at h1 h2; subst h1; subst h2
    show bindL kindOf ((p, w) :: P.zip vs) m p = _
    unfold bindL
    rw [bindL_out fun v hv => (List.nodup_cons.mp nd).1 (List.of_mem_zip hv).1, if_pos hk]
    simp
  | p :: P, w :: vs, i + 1, m, nd, h1, h2, hk => by
    show bindL kindOf ((p, w) :: P.zip vs) m x = _
    unfold bindL
    exact bindL_get (i := i) (List.nodup_cons.mp nd).2 (by simpa using h1) (by simpa using h2) hk
theorem bindC_get {kindOf : Str → Option NameKind} {x : Str} {v : Value} : ∀ {P : List Str} {vs : List Value} {i : Nat} {m : Str → Option Value}, P.Nodup → P[i]? = some x → vs[i]? = some v → kindOf x ≠ some .local →
    bindC kindOf (P.zip vs) m x = some v
  | [], _, _, _, _, h, _, _ => by simp at h
  | _ :: _, [], _, _, _, _, h, _ => by simp at h
  | p :: P, w :: vs, 0, m, nd, h1, h2, hk => by
    simp at h1 h2; subst h1; subst h2
    show bindC kindOf ((p, w) :: P.zip vs) m p = _
    unfold bindC
    rw [bindC_out fun v hv => (List.nodup_cons.mp nd).1 (List.of_mem_zip hv).1, if_neg hk]
    simp
  | p :: P, w :: vs, i + 1, m, nd, h1, h2, hk => by
    show bindC kindOf ((p, w) :: P.zip vs) m x = _
    unfold bindC
    exact bindC_get (i := i) (List.nodup_cons.mp nd).2 (by simpa using h1) (by simpa using h2) hk

/-- the names' values at the entry -/
def start (N : List Str) (vs : List V) : St := vs.map some ++ List.replicate (N.length - vs.length) none

/-- the context of a def's body, at its entry; an exception leaves the frame, then lies as CX says -/
def cxOf (CX : CXT) (P : Program) (w : World) (K : PySem.W.Frag) (mg : Str → Option Value) (base : Heap) (N : List Str) (qual : Str) (scope : Scope) (f : Addr) (cd : Value) (A : Around) (outer : List Env) (s : Shared) (H : Hp) (E : XK) : Cx where
  prog := P
  w := w
  K := K
  mg := mg
  base := base
  A := A.deeper (envOfC qual scope s.heap.objs.size f cd)
  N := N
  s₀ := s
  H₀ := H
  env := envOfC qual scope s.heap.objs.size f cd
  outer := outer
  stack := envOfC qual scope s.heap.objs.size f cd :: outer
  ex := []
  calm := true
  fn := fun _ => true
  pn := []
  xe := fun e s' => wpAny (model P w) (A.deeper (envOfC qual scope s.heap.objs.size f cd)) (leaving (envOfC qual scope s.heap.objs.size f cd) e) (fun _ s'' => CX outer H s E e s'') (fun e' s'' => CX outer H s E e' s'') s'

theorem cell_has {sc : Scope} {n : Nat} {x : Str} (h : sc.names.lookup x = some .cell) : ∃ c, (cellsFrom n sc.names []).lookup x = some c := by
  have q := PySem.W.cellsFrom_some sc.names n [] (.inl h)
  exact Option.isSome_iff_exists.mp q

theorem inv_start {CX : CXT} {P : Program} {w : World} {K : PySem.W.Frag} {mg : Str → Option Value} {base : Heap} {N ps : List Str} {qual : Str} {scope : Scope} {f : Addr} {cd : Value} {A : Around} {outer : List Env} {s s1 : Shared} {H : Hp} {E : XK} {us : List Value} {vs : List V}
    (S : FnScope N ps scope) (hd : A.handled = none) (e0 : Env0 P w K mg base A outer s H) (hl : vs.length = ps.length) (r : Vals vs us)
    (x : InCallC s s.heap.objs.size (bindL (envOfC qual scope s.heap.objs.size f cd).kindOf (ps.zip us) fun _ => none) (cellsFrom (s.heap.objs.size + 1) scope.names []) (bindC (envOfC qual scope s.heap.objs.size f cd).kindOf (ps.zip us) fun _ => none) s1) :
    Inv (cxOf CX P w K mg base N qual scope f cd A outer s H E) [] (start N vs) H s1 := by
  have hpl : ps.length ≤ N.length := by have := congrArg List.length S.pre; rw [List.length_take] at this; omega
  obtain ⟨h1, tk, rfl, hk⟩ := x.done
  have noA : ∀ b : Addr, b ∉ (cxOf CX P w K mg base N qual scope f cd A outer s H E).ex := fun b z => absurd (show b ∈ ([] : List Addr) from z) (by simp)
  refine ⟨⟨e0.mod, S.kind, rfl, rfl, Nat.le_refl _, fun y z c h1 h2 => ?_, fun y hy => ?_, fun y c _ h => ?_, fun _ => hd, Around.frames_deeper e0.frames, .inr ⟨rfl, rfl⟩, fun b z => absurd z (noA b), e0.bs, e0.bsz, fun b _ _ => noA b, fun b z => absurd z (noA b), e0.funs, e0.frf⟩,
    rfl, e0.bare, Un.kept hk, ⟨_, x.toInCall.ns, fun i y v h1 h2 h3 => ?_⟩, fun y c h => ⟨_, x.cell y c h⟩, e0.hok.fresh (Nat.le_refl _), fun y c h => ?_, fun p hp => absurd (show p ∈ ([] : List (Addr × Obj)) from hp) (by simp), e0.hok.kept hk, ?_⟩
  · exact name_of_addr x.apart (PySem.mem_of_lookup h1) (PySem.mem_of_lookup h2)
  · have hy : scope.names.lookup y = some .cell ∨ scope.names.lookup y = some .free := hy
    rcases hy with hy | hy
    · exact cell_has hy
    · exact absurd rfl (S.nofree _ (PySem.mem_of_lookup hy))
  · exact Nat.le_of_lt (x.above y c (PySem.mem_of_lookup h))
  · have hi : i < vs.length := by
      unfold start at h2
      by_cases hi : i < vs.length
      · exact hi
      · rw [List.getElem?_append_right (by simpa using hi)] at h2
        rw [List.getElem?_replicate] at h2
        split at h2 <;> cases h2
    have ha : vs[i]? = some v := by
      unfold start at h2
      rw [List.getElem?_append_left (by simpa using hi), List.getElem?_map] at h2
      cases e : vs[i]? with
      | none => rw [e] at h2; cases h2
      | some a => rw [e] at h2; cases h2; rfl
    obtain ⟨u, hu, rv⟩ := r.get ha
    have hp : ps[i]? = some y := by
      rw [← S.pre, List.getElem?_take_of_lt (by omega)]; exact h1
    have ndP : ps.Nodup := by rw [← S.pre]; exact S.nd.sublist (List.take_sublist _ _)
    refine ⟨u, rv, ?_⟩
    rcases S.par y (List.mem_of_getElem? hp) with k | k
    · exact .inl ⟨k, bindL_get ndP hp hu k⟩
    · obtain ⟨c, e⟩ := cell_has (n := s.heap.objs.size + 1) k
      refine .inr ⟨.inl k, c, e, ?_⟩
      have q := x.cell y c e
      rw [bindC_get ndP hp hu (by show scope.names.lookup y ≠ _; rw [k]; decide)] at q
      exact q
  · exact e0.hok.fresh (Nat.le_of_lt (x.above y c (PySem.mem_of_lookup h)))
  · unfold start
    show _ = N.length
    rw [List.length_append, List.length_map, List.length_replicate]
    omega

/-- THE RULE: a def (or a method) of the text, by its body. The body's reading t is chosen for each entry; it is run at the parameters' values -/
theorem fn_of {CX : CXT} {P : Program} {w : World} {K : PySem.W.Frag} {mg : Str → Option Value} {base : Heap} {k : Nat} {f : Addr} {name qual : Str} {params : Arguments} {body : List Stmt} {scope : Scope} {dV kV doc pm cdv ct oc : Value} {an od : Option Addr}
    {osl : Array (Option Value)} {N ps : List Str} {sp : Sp} (lk : K.lookup f = some ⟨oc, od, .func (PySem.W.fnOf name qual params body scope dV kV doc pm an cdv ct), osl⟩) (hcd : PySem.W.codeIn K cdv qual = true) (S : FnScope N ps scope)
    (len : ∀ vs H Q E, sp vs H Q E → vs.length = ps.length)
    (hbody : ∀ (A : Around) (outer : List Env) (s : Shared) (H : Hp) (vs : List V) (Q : VK) (E : XK), Room k (A.deeper (envOfC qual scope s.heap.objs.size f cdv)) → sp vs H Q E →
      ∃ t, PSs (cxOf CX P w K mg base N qual scope f cdv A outer s H E) body t ∧ t { nx := fun _ H' => Q .non H', rt := Q } (start N vs) H) :
    FnOk P w K mg base CX (k + 1) f (PySem.W.fnOf name qual params body scope dV kV doc pm an cdv ct) ps sp := by
  refine ⟨len, fun A outer s H args us vs Q E hr e0 hb r hsp => ?_⟩
  have hl := len _ _ _ _ hsp
  have KX : K.In s.heap := e0.mod.kin.keeps fun b o e => (e0.bs b o e).1
  have lim : s.heap.NoLimit := e0.mod.nolimit.keeps fun b o e => (e0.bs b o e).1
  have hkind : ∀ y ∈ ps.zip us, scope.names.lookup y.1 = some .local ∨ (scope.names.lookup y.1 = some .cell ∧ ((cellsFrom (s.heap.objs.size + 1) scope.names []).lookup y.1).isSome = true) := fun ⟨n, v⟩ hy => by
    rcases S.par n (List.of_mem_zip hy).1 with q | q
    · exact .inl q
    · exact .inr ⟨q, PySem.W.cellsFrom_some _ _ _ (.inl q)⟩
  refine codeAny_call_function hr.depth (KX _ _ lk) rfl S.co S.gen rfl (PySem.W.codeRec_of KX hcd) (hb _ _ _ _ ?_)
  refine wpAny_newFunctionEnv_cells S.kind hkind fun env he s1 x => ?_
  subst he
  refine ⟨lim.keeps x.toInCall.keep, codeAny_func ?_⟩
  obtain ⟨t, ht, hq⟩ := hbody A outer s H vs Q E (hr.deeper _) hsp
  have I : Inv (cxOf CX P w K mg base N qual scope f cdv A outer s H E) [] (start N vs) H s1 := inv_start S hr.hd e0 hl r x
  refine wpAny_mono (ht [] s1 (start N vs) H _ I hq) (fun fl s' hs => ?_) fun e s' hs => hs
  have fin : ∀ {σ' : St} {H' : Hp} {v : V} {u : Value}, Inv (cxOf CX P w K mg base N qual scope f cdv A outer s H E) [] σ' H' s' → RelV v u → Q v H' → CE outer P w H s Q u s' :=
    fun {σ' H' v u} J rv q => ⟨v, H', J.os, J.bare, J.base, J.hok, rv, q⟩
  cases fl with
  | ret u =>
    obtain ⟨v, σ', H', J, rv, q⟩ := hs
    exact fin J rv q
  | next =>
    obtain ⟨σ', H', J, q⟩ := hs
    exact fin (v := V.non) (u := Value.none) J rfl q
  | brk =>
    obtain ⟨_, _, _, q⟩ := hs
    exact False.elim q
  | cont =>
    obtain ⟨_, _, _, q⟩ := hs
    exact False.elim q
end L2

namespace L2
open PySem PySem.Spec PyProof.Rows
section
variable {X : Cx} {x : Str} {p pos : Pos} {e : Expr} {es : List Expr} {t : TA} {id T : String} {r : List V → Hp → VK → Prop}

def tCB (r : List V → Hp → VK → Prop) (t : TA) : TE := fun σ H Q => t σ H fun vs H1 => r vs H1 Q
/-- f(e, ..), f a built-in function -/
theorem pe_callB (hc : CallR X (.builtin id) r) (hg : Gl X x) (hm : X.mg x = none) (hv : bootBuiltins x = some (.builtin id)) (ha : PA X (e :: es) t) (hn : x ≠ "__name__" := by decide) (hdb : (x == ("__debug__" : Str)) = false := by decide)
    (he : starEach (e :: es) X.env = (false, eval e X.env) :: starEach es X.env := by rfl) (hpl : (backTo pos (starEach es X.env)).any (·.1) = false := by rfl) : PE X (.Call (.Name x p) (e :: es) [] pos) (tCB r t) := by
  intro pins s σ H Q I h
  refine wpAny_Call_Name_kw (ld_blt I hg hm hv ?_ hn hdb)
  exact PyProof.Rows.callWith_builtin1 (thn (ha pos pins s σ H _ I h) fun us s1 ⟨vs, H1, I1, r1, q1⟩ => hc pins s1 σ H1 vs us Q I1 r1 q1) he hpl
/-- T(e, ..), T a built-in type -/
theorem pe_callTy (hc : CallR X (.type T) r) (hg : Gl X x) (hm : X.mg x = none) (hv : bootBuiltins x = some (.type T)) (ha : PA X (e :: es) t) (hn : x ≠ "__name__" := by decide) (hdb : (x == ("__debug__" : Str)) = false := by decide)
    (he : starEach (e :: es) X.env = (false, eval e X.env) :: starEach es X.env := by rfl) (hpl : (backTo pos (starEach es X.env)).any (·.1) = false := by rfl) : PE X (.Call (.Name x p) (e :: es) [] pos) (tCB r t) := by
  intro pins s σ H Q I h
  refine wpAny_Call_Name_kw (ld_blt I hg hm hv ?_ hn hdb)
  exact PyProof.Rows.callWith_type1 (thn (ha pos pins s σ H _ I h) fun us s1 ⟨vs, H1, I1, r1, q1⟩ => hc pins s1 σ H1 vs us Q I1 r1 q1) he hpl
end
end L2

namespace L2
open PySem PySem.Spec PyProof.Rows

/-! ### lists of pairs as tables -/
section
variable {κ : Type} [DecidableEq κ]
def valV (kvs : List (κ × V)) (k : κ) : Option V := (kvs.find? fun kv => decide (kv.1 = k)).map (·.2)
/-- in its place, or at the end -/
def putK (kvs : List (κ × V)) (k : κ) (v : V) : List (κ × V) :=
  if (kvs.any fun kv => decide (kv.1 = k)) = true then kvs.map (fun kv => if kv.1 = k then (kv.1, v) else kv) else kvs ++ [(k, v)]
def dropK (kvs : List (κ × V)) (k : κ) : List (κ × V) := kvs.filter fun kv => decide (kv.1 ≠ k)

theorem valV_pos {p : κ × V} {r : List (κ × V)} {k : κ} (e : p.1 = k) : valV (p :: r) k = some p.2 := by simp [valV, List.find?_cons, e]
theorem valV_neg {p : κ × V} {r : List (κ × V)} {k : κ} (e : ¬ p.1 = k) : valV (p :: r) k = valV r k := by simp [valV, List.find?_cons, e]
theorem RelO.isSome_eq {o : Option V} {u : Option Value} (r : RelO o u) : o.isSome = u.isSome := by
  cases o with
  | none => cases u with
    | none => rfl
    | some _ => exact (show False from r).elim
  | some _ => cases u with
    | none => exact (show False from r).elim
    | some _ => rfl
theorem RelO.getD {o : Option V} {u : Option Value} {d : V} {d' : Value} (r : RelO o u) (rd : RelV d d') : RelV (o.getD d) (u.getD d') := by
  cases o with
  | none => cases u with
    | none => exact rd
    | some _ => exact (show False from r).elim
  | some _ => cases u with
    | none => exact (show False from r).elim
    | some _ => exact r

/-- raw tables of the same keys -/
theorem KV.val {kvs : List (κ × V)} {vs : List (κ × Value)} (r : KV kvs vs) (k : κ) : RelO (valV kvs k) (valueAt vs k) := by
  unfold KV at r
  induction r with
  | nil => exact True.intro
  | @cons p q ps qs h t ih =>
    obtain ⟨h1, h2⟩ := h
    by_cases e : p.1 = k
    · have e' : q.1 = k := h1.symm.trans e
      have b : valueAt (q :: qs) k = some q.2 := by simp [valueAt, List.find?_cons, e']
      rw [valV_pos e, b]; exact h2
    · have e' : ¬ q.1 = k := fun z => e (h1.trans z)
      have b : valueAt (q :: qs) k = valueAt qs k := by simp [valueAt, List.find?_cons, e']
      rw [valV_neg e, b]; exact ih
theorem KV.any {kvs : List (κ × V)} {vs : List (κ × Value)} (r : KV kvs vs) (k : κ) : (kvs.any fun kv => decide (kv.1 = k)) = vs.any fun kv => decide (kv.1 = k) := by
  unfold KV at r
  induction r with
  | nil => rfl
  | cons h t ih => rw [List.any_cons, List.any_cons, ih, h.1]
theorem KV.drop {kvs : List (κ × V)} {vs : List (κ × Value)} (r : KV kvs vs) (k : κ) : KV (dropK kvs k) (without vs k) := by
  unfold KV at r ⊢
  unfold dropK without
  induction r with
  | nil => exact .nil
  | @cons p q ps qs h t ih =>
    obtain ⟨h1, h2⟩ := h
    rw [List.filter_cons, List.filter_cons]
    by_cases e : p.1 = k
    · have a : ¬ decide (p.1 ≠ k) = true := by simp [e]
      have b : ¬ decide (q.1 ≠ k) = true := by simp [h1.symm.trans e]
      rw [if_neg a, if_neg b]; exact ih
    · have e' : ¬ q.1 = k := fun z => e (h1.trans z)
      have a : decide (p.1 ≠ k) = true := by simp [e]
      have b : decide (q.1 ≠ k) = true := by simp [e']
      rw [if_pos a, if_pos b]; exact .cons ⟨h1, h2⟩ ih
theorem KV.keys {kvs : List (κ × V)} {vs : List (κ × Value)} (r : KV kvs vs) : kvs.map (·.1) = vs.map (·.1) := by
  unfold KV at r
  induction r with
  | nil => rfl
  | cons h t ih => rw [List.map_cons, List.map_cons, ih, h.1]
theorem KV.length {kvs : List (κ × V)} {vs : List (κ × Value)} (r : KV kvs vs) : kvs.length = vs.length := Paired.length r
end


/-! ### a tracked dict, its keys ints and texts or tuples of these -/
theorem kV_is {P : Program} {w : World} {k : Key} {u : Value} (r : RelV (kV k) u) : (mixKind P w).is k u = true := by
  cases k with
  | inl i => obtain ⟨t, e⟩ := (show ∃ t, u = Value.int i t from r); subst e; exact mixKind_int P w i t
  | inr x => obtain ⟨t, e⟩ := (show ∃ t, u = Value.str x t from r); subst e; exact mixKind_str P w x t
theorem items_are {P : Program} {w : World} : ∀ {ks : List Key} {us : List Value}, Vals (ks.map kV) us → ItemsAre (mixKind P w) ks us
  | [], _, r => by rw [List.map_nil] at r; cases r; exact .nil
  | k :: ks, _, r => by
    rw [List.map_cons] at r
    cases r with
    | cons h t => exact .cons (kV_is h) (items_are t)

/-- raw entries of a dict with tuple keys -/
abbrev KT (H : Hp) : List (List Key × V) → List (List Key × Addr × Value) → Prop := Paired fun p q => p.1 = q.1 ∧ H q.2.1 = some (.tup (p.1.map kV)) ∧ RelV p.2 q.2.2
theorem KT.val {H : Hp} {kvs : List (List Key × V)} {xs : List (List Key × Addr × Value)} (r : KT H kvs xs) (k : List Key) : RelO (valV kvs k) ((atKey xs k).map (·.2)) := by
  induction r with
  | nil => exact True.intro
  | @cons p q ps qs h t ih =>
    obtain ⟨h1, _, h2⟩ := h
    by_cases e : p.1 = k
    · have e' : q.1 = k := h1.symm.trans e
      have b : atKey (q :: qs) k = some q.2 := by simp [atKey, List.find?_cons, e']
      rw [valV_pos e, b]; exact h2
    · have e' : ¬ q.1 = k := fun z => e (h1.trans z)
      have b : atKey (q :: qs) k = atKey qs k := by simp [atKey, List.find?_cons, e']
      rw [valV_neg e, b]; exact ih
theorem KT.keeps {H H' : Hp} {kvs : List (List Key × V)} {xs : List (List Key × Addr × Value)} (r : KT H kvs xs) (ht : ∀ b ys, H b = some (.tup ys) → H' b = some (.tup ys)) : KT H' kvs xs :=
  Paired.mapP r fun _ _ z => ⟨z.1, ht _ _ z.2.1, z.2.2⟩

section
variable {P : Program} {w : World} {H : Hp} {h : Heap} {a : Addr}
theorem rd_of {u : HO} (ok : HOk P w H h) (e : Rd H a u) : ObjOk P w H h a u := e.ok ok
theorem dk_rd {kvs : List (Key × V)} (ok : HOk P w H h) (e : Rd H a (.dK kvs)) : kvs.length ≤ sizeLine ∧ (a == sysModules) = false ∧ ∃ vs, KV kvs vs ∧ h.DictOf (mixKind P w) a vs :=
  show ObjOk P w H h a (.dK kvs) from rd_of ok e
/-- a tracked tuple of ints and texts is a key -/
theorem key_of {ks : List Key} (ok : HOk P w H h) (e : H a = some (.tup (ks.map kV))) : (tupleKind (mixKind P w)).is h ks a := by
  obtain ⟨_, its, r, o, h1, h2, n, h3⟩ := (show ObjOk P w H h a (.tup (ks.map kV)) from ok a _ e)
  exact ⟨o, its.toArray, n, h1, h2, h3, by simpa using items_are r⟩
theorem dt_rd {kvs : List (List Key × V)} (ok : HOk P w H h) (e : Rd H a (.dT kvs)) : kvs.length ≤ sizeLine ∧ (a == sysModules) = false ∧
    ∃ xs, KT H kvs xs ∧ h.DictOfH (tupleKind (mixKind P w)) a xs := by
  obtain ⟨z, y, xs, r, o, es, ep, h1, h2, h3, h4, h5⟩ := (show ObjOk P w H h a (.dT kvs) from rd_of ok e)
  refine ⟨z, y, xs, r, o, es, ep, h1, h2, h3, h4, fun x hx => ?_, h5⟩
  have all : ∀ {l : List (List Key × V)} {m : List (List Key × Addr × Value)}, KT H l m → ∀ x ∈ m, (tupleKind (mixKind P w)).is h x.1 x.2.1 := by
    intro l m q
    induction q with
    | nil => intro x hx; exact nomatch hx
    | @cons p q ps qs hq t ih =>
      intro x hx
      rcases List.mem_cons.mp hx with e | hx
      · subst e
        exact key_of ok (by rw [← hq.1]; exact hq.2.1)
      · exact ih x hx
  exact all r x hx
end

/-- what the dict at a holds at the key y -/
def DGet (H : Hp) (a : Addr) (y : V) (r : Option V) : Prop :=
  (∃ kvs k, Rd H a (.dK kvs) ∧ y = kV k ∧ r = valV kvs k) ∨ ∃ kvs k b, Rd H a (.dT kvs) ∧ y = .ref b ∧ H b = some (.tup (k.map kV)) ∧ r = valV kvs k
/-- the heap behind a[y] = v -/
def DPut (H : Hp) (a : Addr) (y v : V) (H' : Hp) : Prop :=
  (∃ kvs k, H a = some (.dK kvs) ∧ y = kV k ∧ kvs.length < sizeLine ∧ H' = upd H a (.dK (putK kvs k v))) ∨
  ∃ kvs k b, H a = some (.dT kvs) ∧ y = .ref b ∧ H b = some (.tup (k.map kV)) ∧ kvs.length < sizeLine ∧ H' = upd H a (.dT (putK kvs k v))
theorem DGet.k {H : Hp} {a : Addr} {kvs : List (Key × V)} {k : Key} (e : H a = some (.dK kvs)) : DGet H a (kV k) (valV kvs k) := .inl ⟨kvs, k, .inl e, rfl, rfl⟩
theorem DGet.t {H : Hp} {a b : Addr} {kvs : List (List Key × V)} {k : List Key} (e : H a = some (.dT kvs)) (eb : H b = some (.tup (k.map kV))) : DGet H a (.ref b) (valV kvs k) := .inr ⟨kvs, k, b, .inl e, rfl, eb, rfl⟩
theorem DPut.k {H : Hp} {a : Addr} {kvs : List (Key × V)} {k : Key} {v : V} (e : H a = some (.dK kvs)) (hl : kvs.length < sizeLine) : DPut H a (kV k) v (upd H a (.dK (putK kvs k v))) := .inl ⟨kvs, k, e, rfl, hl, rfl⟩
theorem DPut.t {H : Hp} {a b : Addr} {kvs : List (List Key × V)} {k : List Key} {v : V} (e : H a = some (.dT kvs)) (eb : H b = some (.tup (k.map kV))) (hl : kvs.length < sizeLine) :
    DPut H a (.ref b) v (upd H a (.dT (putK kvs k v))) := .inr ⟨kvs, k, b, e, rfl, eb, hl, rfl⟩


section
variable {X : Cx} {pins : List (Addr × Obj)} {σ : St} {H : Hp} {s : Shared} {a : Addr} {y v : V} {u r : Value} {o : Option V} {A : Around} {E : Value → Shared → Prop}

/-- d[y], there -/
theorem d_getItem {Q : Value → Shared → Prop} (hu : A.units + 1 < cLine) (I : Inv X pins σ H s) (g : DGet H a y (some v)) (ry : RelV y u) (h : ∀ w' s', Inv X pins σ H s' → RelV v w' → Q w' s') :
    wpAny (model X.prog X.w) A (getItem (.ref a) u) Q E s := by
  rcases g with ⟨kvs, k, e, ey, l⟩ | ⟨kvs, k, b, e, ey, eb, l⟩
  · subst ey
    obtain ⟨z, hd, vs, rel, dd⟩ := dk_rd I.hok e
    obtain ⟨w', hw, rw'⟩ := RelO.some_of (v := v) (o := valueAt vs k) (by rw [l]; exact rel.val k)
    exact wpAny_getItem_of (kV_is ry) dd.mapOf hw (h w' _ (I.tok _) rw')
  · subst ey
    cases (show u = Value.ref b from ry)
    obtain ⟨z, hd, xs, rel, dd⟩ := dt_rd I.hok e
    obtain ⟨w', hw, rw'⟩ := RelO.some_of (v := v) (o := (atKey xs k).map (·.2)) (by rw [l]; exact rel.val k)
    obtain ⟨p, hp, hp2⟩ := Option.map_eq_some_iff.mp hw
    refine wpAny_getItem_heap (tupleKind_room_in1 hu) (key_of I.hok eb) dd hp ?_
    rw [hp2]
    exact h w' _ (I.tok _) rw'
/-- y in d -/
theorem d_in {Q : Value → Shared → Prop} (hu : A.units + 1 < cLine) (I : Inv X pins σ H s) (g : DGet H a y o) (ry : RelV y u) (h : ∀ s', Inv X pins σ H s' → Q (.bool o.isSome) s') :
    wpAny (model X.prog X.w) A (compareOp .In u (.ref a)) Q E s := by
  rcases g with ⟨kvs, k, e, ey, l⟩ | ⟨kvs, k, b, e, ey, eb, l⟩
  · subst ey
    obtain ⟨z, hd, vs, rel, dd⟩ := dk_rd I.hok e
    refine wpAny_in_of (kV_is ry) hd dd.mapOf ?_
    rw [← (rel.val k).isSome_eq, ← l]
    exact h _ (I.tok _)
  · subst ey
    cases (show u = Value.ref b from ry)
    obtain ⟨z, hd, xs, rel, dd⟩ := dt_rd I.hok e
    refine wpAny_in_heap (tupleKind_room_in1 hu) (key_of I.hok eb) hd dd ?_
    have q := (rel.val k).isSome_eq
    rw [Option.isSome_map] at q
    rw [← q, ← l]
    exact h _ (I.tok _)
theorem d_notIn {Q : Value → Shared → Prop} (hu : A.units + 1 < cLine) (I : Inv X pins σ H s) (g : DGet H a y o) (ry : RelV y u) (h : ∀ s', Inv X pins σ H s' → Q (.bool (!o.isSome)) s') :
    wpAny (model X.prog X.w) A (compareOp .NotIn u (.ref a)) Q E s := by
  rcases g with ⟨kvs, k, e, ey, l⟩ | ⟨kvs, k, b, e, ey, eb, l⟩
  · subst ey
    obtain ⟨z, hd, vs, rel, dd⟩ := dk_rd I.hok e
    refine wpAny_notIn_of (kV_is ry) hd dd.mapOf ?_
    rw [← (rel.val k).isSome_eq, ← l]
    exact h _ (I.tok _)
  · subst ey
    cases (show u = Value.ref b from ry)
    obtain ⟨z, hd, xs, rel, dd⟩ := dt_rd I.hok e
    refine wpAny_notIn_heap (tupleKind_room_in1 hu) (key_of I.hok eb) hd dd ?_
    have q := (rel.val k).isSome_eq
    rw [Option.isSome_map] at q
    rw [← q, ← l]
    exact h _ (I.tok _)
end

section
variable {X : Cx} {pins : List (Addr × Obj)} {σ : St} {H : Hp} {s : Shared} {a : Addr} {kvs : List (Key × V)} {k : Key} {u : Value} {A : Around} {E : Value → Shared → Prop}
/-- len(d) -/
theorem d_len {Q : Value → Shared → Prop} (I : Inv X pins σ H s) (e : Rd H a (.dK kvs)) (h : ∀ t s', Inv X pins σ H s' → Q (.int kvs.length t) s') : wpAny (model X.prog X.w) A (call (.builtin "len") [.ref a]) Q E s := by
  obtain ⟨z, hd, vs, rel, dd⟩ := dk_rd I.hok e
  refine call_len_dict hd dd (by rw [← rel.length]; rw [sizeLine_eq] at z; omega) ?_
  rw [← rel.length]
  exact h _ _ (I.tok _)
end


/-! ### readings and rules -/
/-- the element of a subscription, not a slice -/
def NoSl (i : Expr) : Prop := ∀ ov iv, subscripted i false ov iv = operate [ov, iv] (getItem ov iv)
theorem subD_of {prog : Program} {w : World} {A : Around} {E : Value → Shared → Prop} {s : Shared} {env : Env} {value slice : Expr} {pos : Pos} {T id : String} {Q : Value → Shared → Prop}
    (hl : typeLookup (.type T) "__getitem__" = pure (some (.builtin id))) (hs : NoSl slice)
    (h : wpAny (model prog w) A (eval value env) (fun o s₁ => wpAny (model prog w) A (eval slice env) (fun i s₂ => s₂.TypeIs o T ∧ wpAny (model prog w) A (getItem o i) Q E s₂) E s₁) E s) :
    wpAny (model prog w) A (eval (.Subscript value slice pos) env) Q E s := by
  refine Subscript_ (wpAny_mono h (fun o s₁ h₁ => wpAny_mono h₁ (fun i s₂ h₂ => ?_) fun _ _ x => x) fun _ _ x => x)
  obtain ⟨hT, h₂⟩ := h₂
  unfold subscriptTail
  refine wpAny_bind ?_
  rw [getitemInPython_of_ne hT.not_modules]
  refine wpAny_bind (wpAny_specialOf hT hl ?_)
  have fin : wpAny (model prog w) A (subscripted slice false o i) (fun r s₃ => wpAny (model prog w) A (letTemporaryGo value o r >>= fun _ => pure r) Q E s₃) E s₂ := by
    rw [hs o i]
    exact wpAny_operating (wpAny_mono h₂ (fun r s₃ h₃ => wpAny_bind (wpAny_letTemporaryGo (wpAny_pure h₃))) fun _ _ x => x)
  first
    | exact wpAny_pure (wpAny_bind fin)
    | exact wpAny_bind (wpAny_pure (wpAny_bind fin))
    | exact wpAny_bind fin

theorem dict_typeIs {X : Cx} {pins : List (Addr × Obj)} {σ : St} {H : Hp} {s : Shared} {a : Addr} {y : V} {o : Option V} (I : Inv X pins σ H s) (g : DGet H a y o) : s.TypeIs (.ref a) "dict" := by
  rcases g with ⟨kvs, k, e, _, _⟩ | ⟨kvs, k, b, e, _, _, _⟩
  · obtain ⟨_, _, vs, _, dd⟩ := dk_rd I.hok e
    exact dd.typeIs
  · obtain ⟨_, _, xs, _, dd⟩ := dt_rd I.hok e
    exact dd.typeIs
/-- d[y] -/
def tDGet (td ty : TE) : TE := fun σ H Q => td σ H fun x H1 => ty σ H1 fun y H2 => ∃ a v, x = .ref a ∧ DGet H2 a y (some v) ∧ Q v H2
section
variable {X : Cx} {o i e value : Expr} {pos pos' tpos : Pos} {td ty tv : TE}
theorem pe_dget (hu : X.A.units + 1 < cLine) (ho : PE X o td) (hi : PE X i ty) (hs : NoSl i) : PE X (.Subscript o i pos) (tDGet td ty) := by
  intro pins s σ H Q I h
  refine subD_of PySem.F.slot_dict_getitem.lookup hs (thn (ho pins s σ H _ I h) fun u s1 ⟨x, H1, I1, rx, q1⟩ => thn (hi pins s1 σ H1 _ I1 q1) fun iv s2 ⟨y, H2, I2, ry, a, v, ex, g, q2⟩ => ?_)
  subst ex
  obtain rfl : u = Value.ref a := rx
  exact ⟨dict_typeIs I2 g, d_getItem hu I2 g ry fun w' s3 I3 rw' => ⟨v, H2, I3, rw', q2⟩⟩
end


/-! ### displays -/
section
variable {X : Cx} {pos : Pos}
end

/-! ### methods -/
section
variable {X : Cx} {pins : List (Addr × Obj)} {σ : St} {H : Hp} {s : Shared} {a : Addr} {y d : V} {u r : Value} {o : Option V} {A : Around} {E : Value → Shared → Prop}
end

section
variable {X : Cx} {o e f : Expr} {apos cpos : Pos} {td ty tx : TE}
end

/-! ### dict(d): a copy -/
section
variable {X : Cx} {pins : List (Addr × Obj)} {σ : St} {H : Hp} {s : Shared} {a : Addr} {kvs : List (Key × V)} {A : Around} {E : Value → Shared → Prop}
end


section
variable {X : Cx} {pins : List (Addr × Obj)} {σ : St} {H : Hp} {s : Shared} {a : Addr} {y : V} {u : Value} {A : Around} {E : Value → Shared → Prop}
end
end L2

namespace HT
open PySem PyProof.Rows

/-- t < u of tuples of ints -/
def lexLt : List Int → List Int → Bool
  | [], [] => false
  | [], _ :: _ => true
  | _ :: _, [] => false
  | x :: xs, y :: ys => if x = y then lexLt xs ys else decide (x < y)
theorem lexLt_cons (x y : Int) (xs ys : List Int) : lexLt (x :: xs) (y :: ys) = if x = y then lexLt xs ys else decide (x < y) := rfl
theorem eqAt_int (A : Around) (s : Shared) (a : Int) (t : Tok) (c : Int) (u : Tok) : ∃ e, SeqAt.EqAt A s (.int a t) (.int c u) e ∧ (e = true ↔ a = c) :=
  ⟨(a == c), SeqAt.EqAt.int_int a t c u, by simp⟩
theorem rcLt_int (A : Around) (s : Shared) (a : Int) (t : Tok) (c : Int) (u : Tok) (prog : Program) (w : World) (E : Value → Shared → Prop) (Q : Value → Shared → Prop) (h : Q (.bool (decide (a < c))) s) :
    wpAny (model prog w) A (richCompare .Lt (.int a t) (.int c u)) Q E s :=
  (PyProof.Rows.lt_int h : wpAny (model prog w) A (compareOp .Lt (.int a t) (.int c u)) Q E s)

section
open PySem.SeqAt
open PySem.AutoSeq1 (wpAny_loadPart')
open PySem.MeetsSeq PySem.MeetsSeq2 PySem.MeetsSeq3

end

section
variable {prog : Program} {w : World} {A : Around} {E : Value → Shared → Prop} {s : Shared}

/-! ### t[a:b], not the whole -/
/-- a slice's bound as a place among n (d where it is left out) -/
def sIx (n d : Nat) : Option Int → Nat
  | none => d
  | some v => if v < 0 then (v + (n : Int)).toNat else min v.toNat n
theorem sIx_nat (n d k : Nat) : sIx n d (some (k : Int)) = min k n := by
  show (if (k : Int) < 0 then ((k : Int) + (n : Int)).toNat else min (k : Int).toNat n) = min k n
  rw [if_neg (by omega), Int.toNat_natCast]
theorem sIx_le (n d : Nat) (hd : d ≤ n) (o : Option Int) : sIx n d o ≤ n := by
  cases o with
  | none => exact hd
  | some v =>
    show (if v < 0 then (v + (n : Int)).toNat else min v.toNat n) ≤ n
    by_cases hv : v < 0
    · rw [if_pos hv]; omega
    · rw [if_neg hv]; exact Nat.min_le_right _ _
end
end HT

namespace L2
open PySem PySem.Spec PyProof.Rows

/-! ### the parts of a slice -/
abbrev TO := St → Hp → (Option Int → Hp → Prop) → Prop
/-- a slice's part (left out, or an int) -/
def PO (X : Cx) (e : Option Expr) (t : TO) : Prop :=
  ∀ (pins : List (Addr × Obj)) (s : Shared) (σ : St) (H : Hp) (Q : Option Int → Hp → Prop), Inv X pins σ H s → t σ H Q →
    wpAny (model X.prog X.w) X.A (evalPart e X.env) (fun u s' => ∃ o H', Inv X pins σ H' s' ∧ IsPart u o ∧ Q o H') X.xe s
def tNoPart : TO := fun _ H Q => Q none H
def tPart (t : TE) : TO := fun σ H Q => t σ H fun x H1 => ∃ i, x = .int i ∧ Q (some i) H1

theorem intsAre_of {ns : List Int} : ∀ {us : List Value}, Vals (ns.map V.int) us → IntsAre us ns := by
  induction ns with
  | nil => intro us r; rw [List.map_nil] at r; cases r; exact .nil
  | cons n ns ih =>
    intro us r
    rw [List.map_cons] at r
    cases r with
    | cons r1 r2 =>
      obtain ⟨t, e⟩ := r1
      subst e
      exact .cons n t (ih r2)

section
variable {X : Cx} {e : Expr} {te : TE} {lo hi : Option Expr} {tl th : TO} {pos p2 : Pos}

theorem po_none : PO X none tNoPart := by
  intro pins s σ H Q I h
  rw [evalPart_none]
  exact wpAny_pure ⟨none, H, I, .none, h⟩
theorem po_some (h : PE X e te) : PO X (some e) (tPart te) := by
  intro pins s σ H Q I hw
  rw [evalPart_some]
  refine thn (h pins s σ H _ I hw) fun u s1 ⟨x, H1, I1, r1, q1⟩ => ?_
  obtain ⟨i, rfl, q⟩ := q1
  obtain ⟨t, rfl⟩ := r1
  exact ⟨some i, H1, I1, .int i t, q⟩

/-- what a slice of a value is, by values: the slice object stands at sl -/
def SlR (X : Cx) (r : V → Option Int → Option Int → Hp → VK → Prop) : Prop :=
  ∀ (pins : List (Addr × Obj)) (s : Shared) (σ : St) (H : Hp) (x : V) (v vl vu : Value) (lo hi : Option Int) (sl : Addr) (Q : VK), Inv X pins σ H s → RelV x v → s.heap.IsSliceOf sl vl vu .none → IsPart vl lo → IsPart vu hi → r x lo hi H Q →
    ∃ T id, typeLookup (.type T) "__getitem__" = pure (some (.builtin id)) ∧ s.TypeIs v T ∧ wpAny (model X.prog X.w) X.A (getItem v (.ref sl)) (EP X pins σ Q) X.xe s
theorem SlR.or {r r' : V → Option Int → Option Int → Hp → VK → Prop} (h : SlR X r) (h' : SlR X r') : SlR X (fun x lo hi H Q => r x lo hi H Q ∨ r' x lo hi H Q) := by
  intro pins s σ H x v vl vu lo hi sl Q I rx hs pl pu q
  rcases q with q | q
  · exact h pins s σ H x v vl vu lo hi sl Q I rx hs pl pu q
  · exact h' pins s σ H x v vl vu lo hi sl Q I rx hs pl pu q
def tSl (r : V → Option Int → Option Int → Hp → VK → Prop) (te : TE) (tl th : TO) : TE := fun σ H Q => te σ H fun x H1 => tl σ H1 fun l H2 => th σ H2 fun u H3 => r x l u H3 Q
/-- a[lo:hi], any a -/
theorem pe_slice {r : V → Option Int → Option Int → Hp → VK → Prop} (hr : SlR X r) (he : PE X e te) (hl : PO X lo tl) (hu : PO X hi th) : PE X (.Subscript e (.Slice lo hi none p2) pos) (tSl r te tl th) := by
  intro pins s σ H Q I h
  refine Subscript_ (thn (he pins s σ H _ I h) fun v s1 ⟨x, H1, I1, r1, q1⟩ => ?_)
  refine wpAny_Slice (thn (hl pins s1 σ H1 _ I1 q1) fun vl s2 ⟨l, H2, I2, pl, q2⟩ => thn (hu pins s2 σ H2 _ I2 q2) fun vu s3 ⟨u, H3, I3, pu, q3⟩ => ?_)
  rw [evalPart_none]
  refine wpAny_pure ?_
  have I4 : Inv X pins σ H3 { s3 with heap := s3.heap.push { cls := .type "slice", data := .fields #[vl, vu, .none] } } := I3.kept (t' := s3.toks) fun b ob q => Heap.get?_push_of_some _ q
  obtain ⟨T, id, hT, ht, hg⟩ := hr pins { s3 with heap := s3.heap.push { cls := .type "slice", data := .fields #[vl, vu, .none] } } σ H3 x v vl vu l u s3.heap.objs.size Q I4 r1 (Heap.IsSliceOf.new ..) pl pu q3
  show wpAny (model X.prog X.w) X.A (subscriptTail e (.Slice lo hi none p2) v (.ref s3.heap.objs.size)) (EP X pins σ Q) X.xe { s3 with heap := s3.heap.push { cls := .type "slice", data := .fields #[vl, vu, .none] } }
  exact tail_any (ops := [.ref s3.heap.objs.size, v]) ht hT hg (by with_unfolding_all rfl)

/-- the items of xs[lo:hi] -/
def cutV (xs : List V) (lo hi : Option Int) : List V := (xs.drop (HT.sIx xs.length 0 lo)).take (HT.sIx xs.length xs.length hi - HT.sIx xs.length 0 lo)
theorem cutV_length (xs : List V) (lo hi : Option Int) : (cutV xs lo hi).length ≤ xs.length := by
  unfold cutV
  rw [List.length_take, List.length_drop]
  omega
/-! ### t < u, t + u -/
end
end L2

namespace L2
open PySem PySem.Spec PyProof.Rows

/-! ### places -/
/-- the place that an index of any sign means -/
def ixN (n : Nat) (i : Int) : Option Nat := if 0 ≤ i then (if i < n then some i.toNat else none) else if -(n : Int) ≤ i then some (i + n).toNat else none
def atI {α : Type} (xs : List α) (i : Int) : Option α := (ixN xs.length i).bind fun j => xs[j]?
theorem ixN_seq {n : Nat} {i : Int} {j : Nat} (h : ixN n i = some j) : seqIndex? i n = some j ∧ j < n ∧ -(n : Int) ≤ i ∧ i < n := by
  unfold ixN at h
  by_cases h0 : 0 ≤ i
  · rw [if_pos h0] at h
    by_cases h1 : i < n
    · rw [if_pos h1] at h
      have e : i.toNat = j := Option.some.inj h
      exact ⟨by rw [seqIndex_of h0 h1, e], by omega, by omega, h1⟩
    · rw [if_neg h1] at h; cases h
  · rw [if_neg h0] at h
    by_cases h1 : -(n : Int) ≤ i
    · rw [if_pos h1] at h
      have e : (i + n).toNat = j := Option.some.inj h
      exact ⟨by rw [seqIndex_neg (by omega) h1, e], by omega, h1, by omega⟩
    · rw [if_neg h1] at h; cases h
theorem atI_get {α : Type} {xs : List α} {i : Int} {v : α} (h : atI xs i = some v) : ∃ j, seqIndex? i xs.length = some j ∧ xs[j]? = some v ∧ j < xs.length ∧ -(xs.length : Int) ≤ i ∧ i < xs.length := by
  unfold atI at h
  cases e : ixN xs.length i with
  | none => rw [e] at h; cases h
  | some j =>
    rw [e] at h
    obtain ⟨h1, h2, h3, h4⟩ := ixN_seq e
    exact ⟨j, h1, h, h2, h3, h4⟩
theorem atI_nat {α : Type} {xs : List α} {j : Nat} {v : α} (h : xs[j]? = some v) : atI xs (j : Int) = some v := by
  have hj : j < xs.length := (List.getElem?_eq_some_iff.mp h).1
  have e : ixN xs.length (j : Int) = some j := by
    unfold ixN
    rw [if_pos (by omega), if_pos (by omega)]; simp
  unfold atI; rw [e]; exact h
/-! ### what may be subscripted -/
/-- what stands as an index of a plain subscript -/
def PlainIx (b : Expr) : Prop := ∀ o i, subscripted b false o i = operate [o, i] (getItem o i)
/-- a subscript by values -/
def IxR (X : Cx) (r : R2) : Prop :=
  ∀ (value slice : Expr) (pins : List (Addr × Obj)) (s : Shared) (σ : St) (H : Hp) (x y : V) (v u : Value) (Q : VK), Inv X pins σ H s → RelV x v → RelV y u → r x y H Q →
    subscripted slice false v u = operate [v, u] (getItem v u) → wpAny (model X.prog X.w) X.A (subscriptTail value slice v u) (EP X pins σ Q) X.xe s
/-- a call of a builtin's method by values: the receiver, the arguments -/
def MtR (X : Cx) (id : String) (r : V → List V → Hp → VK → Prop) : Prop :=
  ∀ (pins : List (Addr × Obj)) (s : Shared) (σ : St) (H : Hp) (x : V) (xs : List V) (v : Value) (us : List Value) (Q : VK), Inv X pins σ H s → RelV x v → Vals xs us → r x xs H Q →
    wpAny (model X.prog X.w) X.A (call (.builtin id) (v :: us)) (EP X pins σ Q) X.xe s
section
variable {X : Cx} {a b : Expr} {ta tb : TE} {pos : Pos}
theorem IxR.or {r r' : R2} (h : IxR X r) (h' : IxR X r') : IxR X (fun x y H Q => r x y H Q ∨ r' x y H Q) := by
  intro value slice pins s σ H x y v u Q I rx ry q hs
  rcases q with q | q
  · exact h value slice pins s σ H x y v u Q I rx ry q hs
  · exact h' value slice pins s σ H x y v u Q I rx ry q hs
theorem MtR.or {id : String} {r r' : V → List V → Hp → VK → Prop} (h : MtR X id r) (h' : MtR X id r') : MtR X id (fun x xs H Q => r x xs H Q ∨ r' x xs H Q) := by
  intro pins s σ H x xs v us Q I rx rs q
  rcases q with q | q
  · exact h pins s σ H x xs v us Q I rx rs q
  · exact h' pins s σ H x xs v us Q I rx rs q
/-- a[b] -/
theorem pe_ix {r : R2} (hr : IxR X r) (ha : PE X a ta) (hb : PE X b tb) (hs : PlainIx b) : PE X (.Subscript a b pos) (tOp r ta tb) := by
  intro pins s σ H Q I h
  exact Subscript_ (binT ha hb I h fun v u s2 x y H2 I2 rx ry q => hr a b pins s2 σ H2 x y v u Q I2 rx ry q (hs _ _))

def rIxL (K : PySem.W.Frag) : R2 := fun x y H Q => ∃ p xs i v, x = .ref p ∧ y = .int i ∧ SqL K H p xs ∧ atI xs i = some v ∧ Q v H
def rIxT (K : PySem.W.Frag) : R2 := fun x y H Q => ∃ p xs i v, x = .ref p ∧ y = .int i ∧ SqT K H p xs ∧ atI xs i = some v ∧ Q v H
def rIxS : R2 := fun x y H Q => ∃ z i c, x = .str z ∧ y = .int i ∧ z.length ≤ sizeLine ∧ atI z.cps.toList i = some c ∧ Q (.str ⟨#[c]⟩) H
theorem ix_list : IxR X (rIxL X.K) := by
  intro value slice pins s σ H x y v u Q I rx ry h hs
  obtain ⟨p, xs, i, z, rfl, rfl, hq, he, q⟩ := h
  cases rx
  obtain ⟨t, rfl⟩ := ry
  obtain ⟨its, r, pl, hz⟩ := I.list hq
  obtain ⟨j, h1, h2, h3, h4, h5⟩ := atI_get he
  obtain ⟨w, ew, rw'⟩ := r.get h2
  have hl := r.length
  have hn := line63
  have fin : EP X pins σ Q w s := ⟨z, H, I, rw', q⟩
  by_cases h0 : 0 ≤ i
  · have hj : i.toNat = j := by
      rw [seqIndex_of h0 h5] at h1
      exact Option.some.inj h1
    exact item_listR pl.isList h0 (by omega) (by rw [hj]; simpa using ew) fin hs
  · have hj : (i + (its.toArray.size : Int)).toNat = j := by
      rw [seqIndex_neg (by omega) h4] at h1
      rw [List.size_toArray, ← hl]
      exact Option.some.inj h1
    exact subscriptTail_builtinR (x := w) pl.isList.typeIs slot_list_getitem.lookup
      (wpAny_getItem_list_neg (Q := fun r s' => r = w ∧ EP X pins σ Q r s') pl.isList (by omega) (by rw [List.size_toArray] <;> omega) (by omega) (by rw [hj]; simpa using ew) ⟨rfl, fin⟩) hs
theorem ix_tup : IxR X (rIxT X.K) := by
  intro value slice pins s σ H x y v u Q I rx ry h hs
  obtain ⟨p, xs, i, z, rfl, rfl, hq, he, q⟩ := h
  cases rx
  obtain ⟨t, rfl⟩ := ry
  obtain ⟨its, r, pl, hz⟩ := I.tuple hq
  obtain ⟨j, h1, h2, h3, h4, h5⟩ := atI_get he
  obtain ⟨w, ew, rw'⟩ := r.get h2
  have hl := r.length
  have hn := line63
  have fin : EP X pins σ Q w s := ⟨z, H, I, rw', q⟩
  exact subscriptTail_builtinR (x := w) pl.typeIs slot_tuple_getitem.lookup
    (getItem_tuple (j := j) (Q := fun r s' => r = w ∧ EP X pins σ Q r s') pl (by omega) (by omega) (by rw [List.size_toArray, ← hl]; exact h1) (by simpa using ew) ⟨rfl, fin⟩) hs
theorem ix_str : IxR X rIxS := by
  intro value slice pins s σ H x y v u Q I rx ry h hs
  obtain ⟨z, i, c, rfl, rfl, hz, he, q⟩ := h
  obtain ⟨t, rfl⟩ := rx
  obtain ⟨t', rfl⟩ := ry
  obtain ⟨j, h1, h2, h3, h4, h5⟩ := atI_get he
  have hl : z.cps.toList.length = z.length := by simp [Str.length]
  rw [hl] at h1 h4 h5
  have hn := line63
  exact tail_any (typeIs_str s z t) slot_str_getitem.lookup (getItem_str (c := c) (by
    have e1 : decide (i < -(2 ^ 63 : Int)) = false := decide_eq_false (by omega)
    have e2 : decide (i ≥ 2 ^ 63) = false := decide_eq_false (by omega)
    rw [e1, e2, Bool.or_false]) (by rw [h1]; simpa using h2) ⟨.str ⟨#[c]⟩, H, I.tok _, ⟨_, rfl⟩, q⟩) hs
/-- list, tuple or str -/
def rIx (K : PySem.W.Frag) : R2 := fun x y H Q => rIxL K x y H Q ∨ rIxT K x y H Q ∨ rIxS x y H Q
theorem ix_seq : IxR X (rIx X.K) := ix_list.or (ix_tup.or ix_str)

/-! ### xs[i] = v, any sign -/
theorem Inv.lst {pins : List (Addr × Obj)} {σ : St} {H : Hp} {s : Shared} {p : Addr} {xs : List V} (I : Inv X pins σ H s) (h : H p = some (.lst xs)) :
    ∃ (its : List Value) (n : Nat), Vals xs its ∧ s.heap.get? p = some { cls := .type "list", data := .seq its.toArray n } ∧ xs.length ≤ sizeLine := by
  obtain ⟨z, its, n, r, e⟩ := I.hok p _ h
  exact ⟨its, n, r, e, z⟩
/-! ### slices -/
theorem slice_bounds (lo hi : Option Int) (n : Nat) : (sliceBounds lo hi none n).1 = ((HT.sIx n 0 lo : Nat) : Int) ∧ (sliceBounds lo hi none n).2.1 = ((HT.sIx n n hi : Nat) : Int) ∧ (sliceBounds lo hi none n).2.2 = 1 := by
  refine ⟨?_, ?_, rfl⟩
  · cases lo with
    | none => simp [sliceBounds, HT.sIx]
    | some i =>
      simp only [sliceBounds, HT.sIx, Option.getD_none, show (1 : Int) > 0 by decide, if_true]
      by_cases h : i < 0
      · simp only [h, if_true] <;> omega
      · simp only [h, if_false] <;> omega
  · cases hi with
    | none => simp [sliceBounds, HT.sIx]
    | some i =>
      simp only [sliceBounds, HT.sIx, Option.getD_none, show (1 : Int) > 0 by decide, if_true]
      by_cases h : i < 0
      · simp only [h, if_true] <;> omega
      · simp only [h, if_false] <;> omega
theorem slicePick_cut (its : List Value) (lo hi : Option Int) : slicePick its.toArray lo hi none = ((its.drop (HT.sIx its.length 0 lo)).take (HT.sIx its.length its.length hi - HT.sIx its.length 0 lo)).toArray := by
  obtain ⟨h1, h2, h3⟩ := slice_bounds lo hi its.toArray.size
  unfold slicePick
  rw [h1, h2, h3]
  simp only [sliceRange_one, pick_run, List.size_toArray] <;> rfl
/-- xs[lo:hi] of a list: a new list -/
def rSlL (K : PySem.W.Frag) : V → Option Int → Option Int → Hp → VK → Prop := fun x lo hi H Q => ∃ a xs, x = .ref a ∧ SqL K H a xs ∧ ∀ p, H p = none → Q (.ref p) (upd H p (.lst (cutV xs lo hi)))
theorem sl_list : SlR X (rSlL X.K) := by
  intro pins s σ H x v vl vu lo hi sl Q I rx hs pl pu h
  obtain ⟨a, xs, rfl, hx, q⟩ := h
  cases rx
  obtain ⟨its, r, ht, hz⟩ := I.list hx
  have hlen := r.length
  refine ⟨"list", _, slot_list_getitem.lookup, ht.isList.typeIs, ?_⟩
  refine wpAny_getItem_list_slice ht.isList hs pl pu .none (by simp) ?_ (by rw [List.size_toArray] <;> omega)
  rw [slicePick_cut, ← hlen]
  refine ⟨.ref s.heap.objs.size, _, I.laid (t' := s.toks) (o := .lst (cutV xs lo hi)) (fun b ob q => Heap.get?_push_of_some _ q) (Nat.le_refl _) ?_, rfl, q _ (I.hok.fresh (Nat.le_refl _))⟩
  exact ⟨Nat.le_trans (cutV_length xs lo hi) hz, _, 0, (r.drop (HT.sIx xs.length 0 lo)).take (HT.sIx xs.length xs.length hi - HT.sIx xs.length 0 lo), Heap.get?_push_size _ rfl⟩

/-! ### in, not in: flat items -/
def flatV : V → Bool
  | .non => true
  | .bl _ => true
  | .int _ => true
  | .str _ => true
  | _ => false
/-- == of flat values -/
def eqV : V → V → Bool
  | .non, .non => true
  | .bl a, .bl b => a == b
  | .bl a, .int b => (if a then 1 else 0) == b
  | .int a, .bl b => a == (if b then 1 else 0)
  | .int a, .int b => a == b
  | .str a, .str b => a == b
  | _, _ => false
theorem eqAt_V {A : Around} {s : Shared} {y x : V} {u v : Value} (ry : RelV y u) (rx : RelV x v) (fy : flatV y = true) (fx : flatV x = true) : SeqAt.EqAt A s u v (eqV y x) := by
  cases y with
  | non =>
    cases ry
    cases x with
    | non => cases rx; exact SeqAt.EqAt.same _
    | bl b => cases rx; exact SeqAt.EqAt.none_bool b
    | int b => obtain ⟨t, rfl⟩ := rx; exact SeqAt.EqAt.none_int b t
    | str b => obtain ⟨t, rfl⟩ := rx; exact SeqAt.EqAt.none_str b t
    | _ => exact absurd (show false = true from fx) Bool.false_ne_true
  | bl a =>
    cases ry
    cases x with
    | non => cases rx; exact SeqAt.EqAt.bool_none a
    | bl b => cases rx; exact SeqAt.EqAt.bool_bool a b
    | int b => obtain ⟨t, rfl⟩ := rx; exact SeqAt.EqAt.bool_int a b t
    | str b => obtain ⟨t, rfl⟩ := rx; exact SeqAt.EqAt.bool_str a b t
    | _ => exact absurd (show false = true from fx) Bool.false_ne_true
  | int a =>
    obtain ⟨t', rfl⟩ := ry
    cases x with
    | non => cases rx; exact SeqAt.EqAt.int_none a t'
    | bl b => cases rx; exact SeqAt.EqAt.int_bool a t' b
    | int b => obtain ⟨t, rfl⟩ := rx; exact SeqAt.EqAt.int_int a t' b t
    | str b => obtain ⟨t, rfl⟩ := rx; exact SeqAt.EqAt.int_str a t' b t
    | _ => exact absurd (show false = true from fx) Bool.false_ne_true
  | str a =>
    obtain ⟨t', rfl⟩ := ry
    cases x with
    | non => cases rx; exact SeqAt.EqAt.str_none a t'
    | bl b => cases rx; exact SeqAt.EqAt.str_bool a t' b
    | int b => obtain ⟨t, rfl⟩ := rx; exact SeqAt.EqAt.str_int a t' b t
    | str b => obtain ⟨t, rfl⟩ := rx; exact SeqAt.EqAt.str_str a t' b t
    | _ => exact absurd (show false = true from fx) Bool.false_ne_true
  | _ => exact absurd (show false = true from fy) Bool.false_ne_true
/-- the items' answers, read off the values (a value's own answer does not lean on its token) -/
def eqU (x : V) (u : Value) : Bool := match u with
  | .none => eqV .non x
  | .bool b => eqV (.bl b) x
  | .int i _ => eqV (.int i) x
  | .str z _ => eqV (.str z) x
  | _ => false
theorem eqU_of {x y : V} {u : Value} (r : RelV y u) (f : flatV y = true) : eqU x u = eqV y x := by
  cases y with
  | non => cases r; rfl
  | bl b => cases r; rfl
  | int i => obtain ⟨t, rfl⟩ := r; rfl
  | str z => obtain ⟨t, rfl⟩ := r; rfl
  | _ => exact absurd (show false = true from f) Bool.false_ne_true
theorem any_eqU {x : V} : ∀ {xs : List V} {us : List Value}, Vals xs us → xs.all flatV = true → us.any (eqU x) = xs.any fun y => eqV y x
  | _, _, .nil, _ => rfl
  | y :: xs, u :: us, .cons r t, f => by
    rw [List.all_cons, Bool.and_eq_true] at f
    rw [List.any_cons, List.any_cons, eqU_of r f.1, any_eqU t f.2]
theorem mem_eqAt {A : Around} {s : Shared} {x : V} {v : Value} (rx : RelV x v) (fx : flatV x = true) : ∀ {xs : List V} {us : List Value}, Vals xs us → xs.all flatV = true → ∀ u ∈ us, SeqAt.EqAt A s u v (eqU x u)
  | _, _, .nil, _ => fun u hu => by cases hu
  | y :: xs, u :: us, .cons r t, f => fun u' hu => by
    rw [List.all_cons, Bool.and_eq_true] at f
    rcases List.mem_cons.mp hu with rfl | hu
    · rw [eqU_of r f.1]; exact eqAt_V r rx f.1 fx
    · exact mem_eqAt rx fx t f.2 u' hu
def inV (x : V) (xs : List V) : Bool := xs.any fun y => eqV y x
/-- x in a list or tuple of flat items -/
def rIn (K : PySem.W.Frag) (neg : Bool) : R2 := fun x y H Q => ∃ p xs, y = .ref p ∧ (SqL K H p xs ∨ SqT K H p xs) ∧ flatV x = true ∧ xs.all flatV = true ∧ Q (.bl (if neg then !inV x xs else inV x xs)) H
theorem op_in_seq : OpR X (compareOp .In) (rIn X.K false) := by
  intro pins s σ H x y v u Q I rx ry h
  obtain ⟨p, xs, rfl, hq, fx, fs, q⟩ := h
  cases ry
  rcases hq with hq | hq
  · obtain ⟨its, r, pl, hz⟩ := I.list hq
    refine SeqAt.in_listAt (eqU x) pl.isList (fun w hw => mem_eqAt rx fx r fs w (by simpa using hw)) ⟨.bl _, H, I, rfl, ?_⟩
    rw [show its.toArray.any (eqU x) = its.any (eqU x) by simp, any_eqU r fs]
    exact q
  · obtain ⟨its, r, pl, hz⟩ := I.tuple hq
    refine SeqAt.in_tupleAt (eqU x) pl (fun w hw => mem_eqAt rx fx r fs w (by simpa using hw)) ⟨.bl _, H, I, rfl, ?_⟩
    rw [show its.toArray.any (eqU x) = its.any (eqU x) by simp, any_eqU r fs]
    exact q
theorem op_notIn_seq : OpR X (compareOp .NotIn) (rIn X.K true) := by
  intro pins s σ H x y v u Q I rx ry h
  obtain ⟨p, xs, rfl, hq, fx, fs, q⟩ := h
  cases ry
  rcases hq with hq | hq
  · obtain ⟨its, r, pl, hz⟩ := I.list hq
    refine SeqAt.notIn_listAt (eqU x) pl.isList (fun w hw => mem_eqAt rx fx r fs w (by simpa using hw)) ⟨.bl _, H, I, rfl, ?_⟩
    rw [show its.toArray.any (eqU x) = its.any (eqU x) by simp, any_eqU r fs]
    exact q
  · obtain ⟨its, r, pl, hz⟩ := I.tuple hq
    refine SeqAt.notIn_tupleAt (eqU x) pl (fun w hw => mem_eqAt rx fx r fs w (by simpa using hw)) ⟨.bl _, H, I, rfl, ?_⟩
    rw [show its.toArray.any (eqU x) = its.any (eqU x) by simp, any_eqU r fs]
    exact q
theorem op_notIn_str : OpR X (compareOp .NotIn) (fun x y H Q => ∃ i j, x = .str i ∧ y = .str j ∧ Q (.bl (!(!(Builtin.Str.occurrences j i 0 j.length 1).isEmpty))) H) := by
  intro pins s σ H x y v u Q I rx ry h
  obtain ⟨i, j, rfl, rfl, q⟩ := h
  obtain ⟨t, rfl⟩ := rx
  obtain ⟨t', rfl⟩ := ry
  exact notIn_str ⟨.bl _, H, I, rfl, q⟩

/-! ### len, list(x), tuple(x) of any list or tuple that is read -/
theorem call_len_seq : CallR X (.builtin "len") (fun xs H Q => ∃ p ys, xs = [.ref p] ∧ (SqL X.K H p ys ∨ SqT X.K H p ys) ∧ Q (.int ys.length) H) := by
  intro pins s σ H xs us Q I r h
  obtain ⟨p, ys, rfl, hq, q⟩ := h
  obtain ⟨u, rfl, rx⟩ := vals1 r
  cases rx
  have hn := line63
  rcases hq with hq | hq
  · obtain ⟨its, r', pl, hz⟩ := I.list hq
    have hlen := r'.length
    exact Calls.call_len_list pl.isList (by simp only [List.size_toArray] <;> omega) ⟨.int ys.length, H, I.tok _, ⟨s.toks + 1, by rw [List.size_toArray, hlen]⟩, q⟩
  · obtain ⟨its, r', pl, hz⟩ := I.tuple hq
    have hlen := r'.length
    exact len_tuple pl (by simp only [List.size_toArray] <;> omega) ⟨.int ys.length, H, I.tok _, ⟨s.toks + 1, by rw [List.size_toArray, hlen]⟩, q⟩
theorem call_len_str : CallR X (.builtin "len") (fun xs H Q => ∃ z, xs = [.str z] ∧ z.length ≤ sizeLine ∧ Q (.int z.length) H) := by
  intro pins s σ H xs us Q I r h
  obtain ⟨z, rfl, hz, q⟩ := h
  obtain ⟨u, rfl, t, rfl⟩ := vals1 r
  have hn := line63
  exact len_str (by omega) ⟨.int z.length, H, I.tok _, ⟨_, rfl⟩, q⟩
theorem CallR.or {f : Value} {r r' : List V → Hp → VK → Prop} (h : CallR X f r) (h' : CallR X f r') : CallR X f (fun xs H Q => r xs H Q ∨ r' xs H Q) := by
  intro pins s σ H xs us Q I rs q
  rcases q with q | q
  · exact h pins s σ H xs us Q I rs q
  · exact h' pins s σ H xs us Q I rs q
theorem call_tuple_of : CallR X (.type "tuple") (fun xs H Q => ∃ p ys, xs = [.ref p] ∧ ((SqL X.K H p ys ∧ ∀ l, H l = none → Q (.ref l) (upd H l (.tup ys))) ∨ (SqT X.K H p ys ∧ Q (.ref p) H))) := by
  intro pins s σ H xs us Q I r h
  obtain ⟨p, ys, rfl, h⟩ := h
  obtain ⟨u, rfl, rx⟩ := vals1 r
  cases rx
  rcases h with ⟨hq, q⟩ | ⟨hq, q⟩
  · obtain ⟨its, r', pl, hz⟩ := I.list hq
    have hlen := r'.length
    refine call_tuple_list pl.isList (fun h' kp => ?_) (by simp only [List.size_toArray] <;> omega)
    have I1 : Inv X pins σ H { s with heap := h' } := I.kept (t' := s.toks) kp
    have I2 : Inv X pins σ (upd H h'.objs.size (.tup ys)) { s with heap := h'.push { cls := .type "tuple", data := .seq its.toArray } } :=
      I1.laid (t' := s.toks) (fun b o e => Heap.get?_push_of_some _ e) (Nat.le_refl _) (show ObjOk X.prog X.w _ _ _ (.tup ys) from ⟨hz, its, r', IsTup.new _ _⟩)
    exact ⟨.ref h'.objs.size, _, I2, rfl, q _ (I1.hok.fresh (Nat.le_refl _))⟩
  · obtain ⟨its, r', pl, hz⟩ := I.tuple hq
    exact call_tuple_same pl ⟨.ref p, H, I, rfl, q⟩

/-! ### the call of a builtin's method: o.m(..) -/
/-- the value is of that builtin type -/
def tyV (K : PySem.W.Frag) (T : String) (x : V) (H : Hp) : Prop := match x with
  | .str _ => T = "str"
  | .int _ => T = "int"
  | .ref p => (T = "list" ∧ ∃ xs, SqL K H p xs) ∨ (T = "tuple" ∧ ∃ o, K.lookup p = some o ∧ o.cls = .type "tuple" ∧ o.dict = none) ∨
      (T = "dict" ∧ ((∃ kvs, H p = some (.dK kvs)) ∨ ∃ kvs, H p = some (.dT kvs))) ∨ (T = "set" ∧ ∃ S n, H p = some (.set S n))
  | _ => False
theorem tyV_is {pins : List (Addr × Obj)} {σ : St} {H : Hp} {s : Shared} {T : String} {x : V} {v : Value} (I : Inv X pins σ H s) (r : RelV x v) (ty : tyV X.K T x H) :
    s.TypeIs v T ∧ ∀ a, v = .ref a → ∃ ob, s.heap.get? a = some ob ∧ ob.dict = none := by
  cases x with
  | str z =>
    obtain ⟨t, rfl⟩ := r
    cases (show T = "str" from ty)
    exact ⟨typeIs_str s z t, fun _ e => nomatch e⟩
  | int i =>
    obtain ⟨t, rfl⟩ := r
    cases (show T = "int" from ty)
    exact ⟨typeIs_int s i t, fun _ e => nomatch e⟩
  | ref p =>
    cases r
    rcases ty with ⟨rfl, xs, hq⟩ | ⟨rfl, o, hk, hc, hd⟩ | ⟨rfl, hk⟩ | ⟨rfl, S, n, hk⟩
    · obtain ⟨its, _, pl, _⟩ := I.list hq
      refine ⟨pl.isList.typeIs, fun a e => ?_⟩
      cases e
      obtain ⟨o, n, e, c, hd, _⟩ := pl
      exact ⟨o, e, hd⟩
    · refine ⟨⟨o, I.kIn p o hk, hc⟩, fun a e => ?_⟩
      cases e
      exact ⟨o, I.kIn _ o hk, hd⟩
    · have z : ∃ o, s.heap.get? p = some o ∧ o.ExactDict := by
        rcases hk with ⟨kvs, hk⟩ | ⟨kvs, hk⟩
        · obtain ⟨_, _, _, _, o, _, _, e, ex, _⟩ := I.hok p _ hk
          exact ⟨o, e, ex⟩
        · obtain ⟨_, _, _, _, o, _, _, e, ex, _⟩ := I.hok p _ hk
          exact ⟨o, e, ex⟩
      obtain ⟨o, e, ex⟩ := z
      refine ⟨⟨o, e, ex.1⟩, fun a e2 => ?_⟩
      cases e2
      exact ⟨o, e, ex.2.1⟩
    · obtain ⟨o, _, _, _, e, ex, _⟩ := I.hok p _ hk
      refine ⟨⟨o, e, ex.1⟩, fun a e2 => ?_⟩
      cases e2
      exact ⟨o, e, ex.2.1⟩
  | _ => exact False.elim ty
def tBM0 (K : PySem.W.Frag) (T : String) (r : V → List V → Hp → VK → Prop) (to : TE) : TE := fun σ H Q => to σ H fun x H1 => tyV K T x H1 ∧ r x [] H1 Q
def tBM (K : PySem.W.Frag) (T : String) (r : V → List V → Hp → VK → Prop) (to : TE) (t : TA) : TE := fun σ H Q => to σ H fun x H1 => tyV K T x H1 ∧ t σ H1 fun xs H2 => r x xs H2 Q
variable {o e : Expr} {es : List Expr} {to : TE} {t : TA} {name : Str} {apos cpos : Pos} {T id : String} {r : V → List V → Hp → VK → Prop}
theorem pe_bm0 (pa : PlainAttrs T) (slot : Slot T name id) (hty : typeOf (.builtin id) = pure (.type "method_descriptor")) (hm : MtR X id r) (ho : PE X o to)
    (hbase : attributeBase o name X.env (eval o X.env) = eval o X.env := by rfl) (hline : (apos.endLine == cpos.line) = true := by rfl) : PE X (.Call (.Attribute o name apos) [] [] cpos) (tBM0 X.K T r to) := by
  intro pins s σ H Q I h
  refine wpAny_Call_method0_late hbase hline (thn (ho pins s σ H _ I h) fun v s1 ⟨x, H1, I1, r1, ty, q1⟩ => ?_)
  obtain ⟨h1, h2⟩ := tyV_is I1 r1 ty
  exact ⟨T, id, pa, slot, hty, h1, h2, Calls.callWith_builtin rfl (PySem.evalArgs_none (hm pins s1 σ H1 x [] v [] Q I1 r1 .nil q1))⟩
theorem pe_bm (pa : PlainAttrs T) (slot : Slot T name id) (hty : typeOf (.builtin id) = pure (.type "method_descriptor")) (hm : MtR X id r) (ho : PE X o to) (ha : PA X (e :: es) t)
    (hbase : attributeBase o name X.env (eval o X.env) = eval o X.env := by rfl)
    (hfew : ((backTo cpos (starEach (e :: es) X.env)).all (fun x => !x.1) && (backToKw cpos (keywordEach [] X.env)).all (fun x => x.1.isSome)
      && decide ((e :: es).length + ([] : List Keyword).length + (if ([] : List Keyword).isEmpty then 0 else 1) < 30)) = true := by rfl)
    (hline : (apos.endLine == cpos.line) = true := by rfl) (hs : starEach (e :: es) X.env = (false, eval e X.env) :: starEach es X.env := by rfl) (hplain : (backTo cpos (starEach es X.env)).any (·.1) = false := by rfl) :
    PE X (.Call (.Attribute o name apos) (e :: es) [] cpos) (tBM X.K T r to t) := by
  intro pins s σ H Q I h
  refine wpAny_Call_method_late hbase hfew hline rfl (thn (ho pins s σ H _ I h) fun v s1 ⟨x, H1, I1, r1, ty, q1⟩ => ?_)
  obtain ⟨h1, h2⟩ := tyV_is I1 r1 ty
  refine ⟨T, id, pa, slot, hty, h1, h2, ?_⟩
  have hA := ha cpos pins s1 σ H1 _ I1 q1
  rw [hs] at hA ⊢
  refine Calls.callWith_builtin (by show (false || (backTo cpos (starEach es X.env)).any (·.1)) = false; rw [hplain] <;> rfl) (Calls.evalArgs_plain ?_)
  exact thn hA fun us s2 ⟨vs, H2, I2, r2, q2⟩ => hm pins s2 σ H2 x vs v us Q I2 r1 r2 q2
/- xs.append(e), list.index on a module's tuple .. are MtR facts of 06m -/
end
end L2

namespace L2
open PySem PySem.Spec PyProof.Rows

def MtM (X : Cx) (id : String) (r : V → List V → Hp → VK → Prop) : Prop :=
  ∀ (pins : List (Addr × Obj)) (s : Shared) (σ : St) (H : Hp) (x : V) (xs : List V) (v : Value) (us : List Value) (Q : VK), Inv X pins σ H s → RelV x v → Vals xs us → r x xs H Q →
    wpAny (model X.prog X.w) X.A (call (.builtin id) (v :: us)) (EP X pins σ Q) X.xe s

/-! ### lists of values -/
theorem Vals.one {x : V} {us : List Value} (h : Vals [x] us) : ∃ u, us = [u] ∧ RelV x u := by
  cases h with
  | cons r t => cases t; exact ⟨_, rfl, r⟩
theorem Vals.two {x y : V} {us : List Value} (h : Vals [x, y] us) : ∃ u v, us = [u, v] ∧ RelV x u ∧ RelV y v := by
  cases h with
  | cons r t =>
    obtain ⟨v, rfl, q⟩ := Vals.one t
    exact ⟨_, v, rfl, r, q⟩
theorem Vals.zero {us : List Value} (h : Vals [] us) : us = [] := by cases h; rfl
theorem Vals.reverse {xs : List V} {us : List Value} (h : Vals xs us) : Vals xs.reverse us.reverse := by
  induction h with
  | nil => exact .nil
  | cons r t ih => rw [List.reverse_cons, List.reverse_cons]; exact Vals.append ih (.cons r .nil)
theorem Vals.rep {xs : List V} {us : List Value} (h : Vals xs us) : ∀ k : Nat, Vals (List.replicate k xs).flatten (List.replicate k us).flatten
  | 0 => .nil
  | k + 1 => by
    rw [List.replicate_succ, List.replicate_succ, List.flatten_cons, List.flatten_cons]
    exact Vals.append h (Vals.rep h k)
section
variable {X : Cx} {pins : List (Addr × Obj)} {σ : St} {H : Hp} {s : Shared} {l b : Addr} {xs ys zs : List V}

/-! ### the two steps: a tracked list is rewritten, a new list is laid -/
theorem Inv.lset {its its' : List Value} {n : Nat} {f : Array Value → Array Value} {t' : Nat} (I : Inv X pins σ H s) (hH : H l = some (.lst xs))
    (e : s.heap.get? l = some { cls := .type "list", data := .seq its.toArray n }) (hf : f its.toArray = its'.toArray) (hv : Vals ys its') (hz : ys.length ≤ sizeLine) :
    Inv X pins σ (upd H l (.lst ys)) { s with heap := s.heap.update l (Obj.mapSeq f), toks := t' } := by
  have q := PySem.IsL.update e f
  rw [hf] at q
  refine I.write (x := l) (e := l) (by rw [hH]; exact trivial) (.inl rfl) (fun b' u hb hu => (Heap.get?_update_other s.heap (Obj.mapSeq f) (Ne.symm hb)).trans hu) ⟨_, q⟩ ?_
  exact ⟨hz, its', _, hv, q⟩
theorem Inv.lnew {its : List Value} {t' : Nat} (I : Inv X pins σ H s) (hv : Vals ys its) (hz : ys.length ≤ sizeLine) :
    Inv X pins σ (upd H s.heap.objs.size (.lst ys)) { s with heap := s.heap.push { cls := .type "list", data := .seq its.toArray }, toks := t' } :=
  I.laid (fun _ _ q => Heap.get?_push_of_some _ q) (Nat.le_refl _) ⟨hz, its, 0, hv, Heap.get?_push_size _ rfl⟩
theorem Inv.fresh (I : Inv X pins σ H s) : H s.heap.objs.size = none := I.hok.fresh (Nat.le_refl _)
theorem Inv.lstM (I : Inv X pins σ H s) (hH : H l = some (.lst xs)) : xs.length ≤ sizeLine ∧ ∃ (its : List Value) (n : Nat), Vals xs its ∧ xs.length = its.length ∧ s.heap.get? l = some { cls := .type "list", data := .seq its.toArray n } := by
  obtain ⟨z, its, n, r, e⟩ := I.hok l _ hH
  exact ⟨z, its, n, r, r.length, e⟩

end

section
variable {X : Cx}

/-! ### methods -/
def rAppend : V → List V → Hp → VK → Prop := fun x vs H Q => ∃ l xs y, x = .ref l ∧ vs = [y] ∧ H l = some (.lst xs) ∧ xs.length < sizeLine ∧ Q .non (upd H l (.lst (xs ++ [y])))
theorem mt_append : MtM X "list.append" rAppend := by
  intro pins s σ H x vs v us Q I rx rv h
  obtain ⟨l, xs, y, rfl, rfl, hH, hz, q⟩ := h
  cases rx
  obtain ⟨u, rfl, ru⟩ := rv.one
  obtain ⟨z, its, n, r, hl, e⟩ := I.lstM hH
  refine call_meets F.slot_list_append ⟨_, e, rfl⟩ F.entry_list_append (F.args_list_append_2 _ _) (PySem.list_append l its.toArray n u (by rw [List.size_toArray]; omega)) ⟨e, ?_⟩
  refine ⟨.non, _, I.lset (its' := its ++ [u]) hH e (by simp) (r.append (.cons ru .nil)) ?_, rfl, q⟩
  rw [List.length_append, List.length_singleton]
  omega

/-! ### list + list, list += list, list * int -/
def rCat : R2 := fun x y H Q => ∃ l b xs zs, x = .ref l ∧ y = .ref b ∧ H l = some (.lst xs) ∧ H b = some (.lst zs) ∧ xs.length + zs.length ≤ sizeLine ∧ ∀ p, H p = none → Q (.ref p) (upd H p (.lst (xs ++ zs)))
theorem op_cat : OpR X (binaryOp .Add) rCat := by
  intro pins s σ H x y v u Q I rx ry h
  obtain ⟨l, b, xs, zs, rfl, rfl, hH, hB, hz, q⟩ := h
  cases rx
  cases ry
  obtain ⟨z, its, n, r, hl, e⟩ := I.lstM hH
  obtain ⟨z2, its2, n2, r2, hl2, e2⟩ := I.lstM hB
  refine PySem.P.add_list e e2 ?_ (by rw [List.size_toArray, List.size_toArray]; omega)
  have ea : its.toArray ++ its2.toArray = (its ++ its2).toArray := by simp
  rw [ea]
  exact ⟨.ref _, _, I.lnew (t' := s.toks) (r.append r2) (by rw [List.length_append]; omega), rfl, q _ I.fresh⟩
/-! ### del xs[i] -/
end

/-! ### xs[a:b] = ys -/
section
variable {prog : Program} {w : World} {A : Around} {E : Value → Shared → Prop} {s : Shared}
end

section
variable {X : Cx}
end
end L2

namespace Att
open PySem PySem.W PySem.Calls PyProof.Rows

/-! ### the script -/
theorem ints_of_wellAll {P : Params} {h : Heap} : ∀ (ns : List Int) (vs : List Value), WellAll P h vs (ns.map WData.int) → IntsAre vs ns := by
  intro ns
  induction ns with
  | nil =>
    intro vs w
    rw [List.map_nil] at w
    cases w
    exact .nil
  | cons n ns ih =>
    intro vs w
    rw [List.map_cons] at w
    cases w with
    | cons a b =>
      cases a
      exact .cons _ _ (ih _ b)

theorem script_of {l : OpenLaw} {n : Nat} (hn : l.most = some n) {P : Params} {h : Heap} {args : List WData} {vals : List Value}
    (hpre : l.row.toRowW.claim.pre args = true) (hwl : WellAll P h vals args) :
    ∃ a vs ns, vals = [Value.ref a] ∧ args = [WData.list (ns.map WData.int)] ∧ h.get? a = some { cls := .type "list", data := .seq vs.toArray } ∧ IntsAre vs ns ∧ ns.length ≤ n := by
  have hsh : WShape.hasAll [] args [.list .int] = true := (pre_splitW hpre).1
  have hc : l.pre.holds [] { args := args } = true := (pre_splitW hpre).2
  obtain ⟨d, r, rfl, h1, h2⟩ := hasAllW_cons hsh
  obtain rfl := hasAllW_nil h2
  obtain ⟨xs, rfl, h3⟩ := hasW_list h1
  obtain ⟨ns, rfl⟩ := items_int h3
  have hlen : ns.length ≤ n := by
    unfold OpenLaw.pre at hc
    have h4 : (WTm.not (.lt (.lit (.int (n : Int))) (.len (.arg 0)))).holds [] { args := [.list (ns.map .int)] } = true := by
      have h4 := (holds_andW hc).1
      rw [hn] at h4
      exact h4
    have h5 := condW_of h4 (w_not (w_lt w_lit (w_len_list (w_arg rfl))))
    rw [List.length_map] at h5
    refine Nat.le_of_not_lt fun q => ?_
    have q' : (n : Int) < ((ns.length : Nat) : Int) := by omega
    first
      | (rw [decide_eq_true q'] at h5; exact absurd h5 (by decide))
      | (simp at h5; omega)
  cases hwl with
  | cons w1 w2 =>
    cases w2
    cases w1 with
    | list ho hall => exact ⟨_, _, ns, rfl, rfl, ho, ints_of_wellAll ns _ hall, hlen⟩

theorem post_true (l : OpenLaw) (args : List WData) : l.row.toRowW.claim.post args (.bool true) args = true :=
  postW_of (r := l.row.toRowW) (X := (true == true))
    (show WShape.has [] (.bool true) .bool = true by first | rfl | decide | simp [WShape.has, WShape.arms, WShape.armsAll])
    (show (WTm.eq .res (.lit (.bool true))).value [] { args := args, res := some (.bool true), after := args } = some (.bool (true == true)) from w_eq_bool (w_res rfl) w_lit) rfl

/-! ### the attachment: holds_open's last premise (the goal 'hc' behind k_head) from a wpAny of the law's body -/
/-- the same from a codeAny of the CALL (for a layer whose function contracts speak of calls) -/
theorem attach_call {l : OpenLaw} {n : Nat} {q : Program} {loose : List Str} {XP : (Str → Option Value) → Heap → Prop} {YP : World → Heap → Prop} {d : DefRec}
    (hn : l.most = some n) (hdf : d.params.defaults = [])
    (call : ∀ (w : World) (s₀ s₁ : Shared) (mg mb : Str → Option Value) (fa : Addr) (o : Obj) (pm cd doc : Value) (a : Addr) (vs : List Value) (ns : List Int),
      Ground q loose [] XP w s₀ mg mb s₁.heap → YP w s₁.heap →
      s₁.heap.get? fa = some o → o.data = .func (docDef d.name d.params d.body d.scope pm cd doc) → s₁.heap.CodeRec cd d.name → mg d.name = some (.ref fa) →
      s₁.heap.get? a = some { cls := .type "list", data := .seq vs.toArray } → IntsAre vs ns → ns.length ≤ n → s₁.gens = #[] →
      codeAny (model l.prog w) callerA (.call (.ref fa) ⟨[.ref a], []⟩) (fun r s' => r = .ok (.ret (.bool true)) ∧ OldK s₁.heap s'.heap ∧ s'.os = s₁.os ∧ AllBare s'.gens) s₁) :
    WalkO q loose XP YP l.row.toRowW d [] (fun f vs => PySem.call f vs) := by
  intro w s₀ s₁ mg mb G Y fa o pm cd doc dV kV ho hd hcd hD hmg hg args vals as hpre hlay hrd hwl hlo
  obtain rfl : dV = .none := Dflts.none hD hdf
  obtain rfl : kV = .none := Dflts.noKw hD
  obtain ⟨a, vs, ns, rfl, rfl, hobj, hints, hlen⟩ := script_of hn hpre hwl
  refine enter_call (codeAny_mono (call w s₀ s₁ mg mb fa o pm cd doc a vs ns G Y ho (fd_plain hd) hcd hmg hobj hints hlen hg) fun r s' hq => ?_)
  obtain ⟨rfl, h2, h3, h4⟩ := hq
  exact ⟨.inl ⟨.bool true, .bool true, [], rfl, fun _ => rfl, .bool true, post_true l _, fun _ => ⟨List.Pairwise.nil, fun _ hm => (nomatch hm)⟩⟩, h2, h3, h4⟩

/-! ### rules over ANY heap (no ledger) from facts about the written part K: the library's own take a ledger (News) for what they write -/
section
variable {prog : Program} {w : World} {A : Around} {E : Value → Shared → Prop} {s : Shared} {K : Frag}

/-! the whole heap as the ledger: makes every rule that writes through a ledger a rule over any heap -/
def ledger (h : Heap) (L d : Addr) : List (Addr × Obj) := (List.range h.objs.size).filterMap fun a => if a = L ∨ a = d then none else (h.get? a).map fun o => (a, o)
end
end Att

namespace L2
open PySem PySem.Spec PyProof.Rows

theorem vals_ints : ∀ {vs : List Value} {ns : List Int}, IntsAre vs ns → Vals (ns.map V.int) vs
  | _, _, .nil => .nil
  | _, _, .cons n t h => .cons ⟨t, rfl⟩ (vals_ints h)

/-- nothing is tracked but the script, known to the object (or it is an object of the module) -/
def Only (H : Hp) : Prop := ∀ b, H b = none ∨ ∃ o xs, H b = some (.frz o (.lst xs))

/-- THE HEAD: the law's promise, at the heap behind the top. F, the promise of the law's def, may use that base is part of the heap (so K.In base, base.Ns mainGlobals mg stand in Mod) -/
theorem law_call {P : Program} {w : World} {K : PySem.W.Frag} {mg mb : Str → Option Value} {CX : CXT} {k : Nat} {fa a : Addr} {fd : FuncData} {x : Str} {sp : Sp} {s₁ : Shared} {vs : List Value} {ns : List Int}
    (KX : K.In s₁.heap) (hns : s₁.heap.Ns mainGlobals mg) (hb : s₁.heap.Ns builtinsNs mb) (hbb : ∀ x : Str, x ≠ "__name__" → mb x = bootBuiltins x) (hlim : s₁.heap.NoLimit) (hg : s₁.gens = #[])
    (ha : s₁.heap.get? a = some { cls := .type "list", data := .seq vs.toArray }) (hi : IntsAre vs ns) (hl : ns.length ≤ sizeLine) (hr : Room k callerA)
    (F : ∀ base : Heap, K.In base → base.Ns mainGlobals mg → FnOk P w K mg base CX k fa fd [x] sp) (hbind : ∀ (s : Shared) (u : Value), BindsTo s fd ⟨[u], []⟩ [(x, u)])
    (hsp : ∀ H : Hp, Only H → SqL K H a (ns.map V.int) → sp [.ref a] H (fun v _ => v = .bl true) fun _ _ _ => False)
    (hCX : ∀ H e s', CX [] H s₁ (fun _ _ _ => False) e s' → False) :
    codeAny (model P w) callerA (.call (.ref fa) ⟨[.ref a], []⟩) (fun r s' => r = .ok (.ret (.bool true)) ∧ OldK s₁.heap s'.heap ∧ s'.os = s₁.os ∧ AllBare s'.gens) s₁ := by
  have rv := vals_ints hi
  have lenV := hi.length
  -- from an abstract heap in which nothing but the script may be tracked
  have core : ∀ H : Hp, Only H → SqL K H a (ns.map V.int) → HOk P w H s₁.heap → (∀ b, H b ≠ none → b = a) → (H a ≠ none → K.lookup a = none) →
      codeAny (model P w) callerA (.call (.ref fa) ⟨[.ref a], []⟩) (fun r s' => r = .ok (.ret (.bool true)) ∧ OldK s₁.heap s'.heap ∧ s'.os = s₁.os ∧ AllBare s'.gens) s₁ := by
    intro H hO hS hok hA hK
    have base_of : ∀ {b : Addr} {o : Obj}, s₁.heap.get? b = some o → H b = none → (hidT s₁.heap H).get? b = some o := fun e n => hidT_get e n
    have noA : ∀ {b : Addr} {o : Obj} {es : Array DictEntry} {ep : Nat}, s₁.heap.get? b = some o → o.data = .dict es ep → H b = none := fun {b o es ep} e d => by
      cases q : H b with
      | none => rfl
      | some u =>
        have e' : b = a := hA b (by rw [q]; simp)
        subst e'
        rw [ha] at e; cases e
        have d' : Data.seq vs.toArray _ = Data.dict es ep := d
        cases d'
    have nsK : ∀ {b : Addr} {m : Str → Option Value}, s₁.heap.Ns b m → (hidT s₁.heap H).Ns b m := fun {b m} ⟨o, es, ep, e, d, r⟩ => ⟨o, es, ep, base_of e (noA e d), d, r⟩
    have hKb : K.In (hidT s₁.heap H) := fun b o e => base_of (KX b o e) (by
      cases q : H b with
      | none => rfl
      | some u =>
        have e' : b = a := hA b (by rw [q]; simp)
        subst e'
        rw [hK (by rw [q]; simp)] at e; cases e)
    have hM : Mod K mg (hidT s₁.heap H) := ⟨hKb, nsK hns, ⟨mb, nsK hb, hbb⟩, let ⟨mc, h1, h2⟩ := hlim; ⟨mc, nsK h1, h2⟩⟩
    have e0 : Env0 P w K mg (hidT s₁.heap H) callerA [] s₁ H := ⟨rfl, hM, fun b o e => of_hidT e, Nat.le_of_eq (hidT_size _ _), trivial, fun b hb => absurd (show b ∈ ([] : List Addr) from hb) (by simp), hok, .of_eq hg⟩
    refine codeAny_mono ((F _ hKb (nsK hns)).run callerA [] s₁ H ⟨[.ref a], []⟩ [.ref a] [.ref a] _ _ hr e0 (hbind s₁ (.ref a)) (.cons rfl .nil) (hsp H hO hS)) fun r s' h => ?_
    cases r with
    | error e => exact (hCX H e s' h).elim
    | ok fl =>
      cases fl with
      | next => exact False.elim h
      | brk => exact False.elim h
      | cont => exact False.elim h
      | ret u =>
        obtain ⟨v, H', os, bare, un, hok', r', q⟩ := h
        have q' : v = .bl true := q
        subst q'
        obtain rfl : u = Value.bool true := r'
        refine ⟨rfl, OldK.of_keep fun b o e => ?_, os, bare⟩
        cases q : H b with
        | none => exact un.keep b o e q (by intro z; exact absurd (show b ∈ ([] : List Addr) from z) (by simp)) (by simp)
        | some u =>
          rcases hO b with z | ⟨ob, xs, z⟩
          · rw [q] at z; cases z
          · have z2 := un.frzs b ob _ z
            obtain ⟨e1, _⟩ := hok b _ z
            obtain ⟨e2, _⟩ := hok' b _ z2
            rw [e] at e1; cases e1
            exact e2
  cases hk : K.lookup a with
  | some o =>
    -- the script is one of the module's own objects
    have e := KX a o hk
    rw [ha] at e
    cases e
    refine core (fun _ => none) (fun _ => .inl rfl) (.inr ⟨_, vs.toArray, _, hk, rfl, rfl, rfl, by rw [List.size_toArray, lenV]; exact hl, by simpa using rv⟩) (fun b u z => by have z' : (none : Option HO) = some u := z; cases z') (fun b z => absurd rfl z) fun z => absurd rfl z
  | none =>
    refine core (fun b => if b = a then some (.frz { cls := .type "list", data := .seq vs.toArray } (.lst (ns.map V.int))) else none) (fun b => ?_) (.inl (.inr ⟨{ cls := .type "list", data := .seq vs.toArray }, if_pos rfl⟩)) (fun b u z => ?_) (fun b z => ?_) fun _ => hk
    · by_cases hb : b = a
      · exact .inr ⟨_, _, if_pos hb⟩
      · exact .inl (if_neg hb)
    · by_cases hb : b = a
      · have z' := (if_pos hb).symm.trans z
        cases z'
        subst hb
        exact ⟨ha, by rw [List.length_map]; exact hl, vs, _, rv, ha⟩
      · have z' := (if_neg hb).symm.trans z
        cases z'
    · by_cases hb : b = a
      · exact hb
      · exact absurd (if_neg hb) z
end L2

namespace L2
open PySem PySem.Spec PyProof.Rows

/-- the goal that k_head leaves (case hc), from the law's promise. F gives the function object fd (K's own) once, then the promise over every base -/
theorem walk_of {l : PySem.W.OpenLaw} {n k : Nat} {q : Program} {loose : List Str} {XP : (Str → Option Value) → Heap → Prop} {YP : World → Heap → Prop} {d : DefRec} {K : Params → PySem.W.Frag} {CX : World → CXT} {sp : World → Sp} {x : Str}
    (hn : l.most = some n) (hn2 : n ≤ sizeLine) (hdf : d.params.defaults = []) (hr : Room k callerA)
    (hY : ∀ (w : World) (h : Heap), YP w h → (K w.params).In h)
    (F : ∀ (w : World) (mg : Str → Option Value) (fa : Addr) (h : Heap), (K w.params).In h → h.Ns mainGlobals mg → mg d.name = some (.ref fa) →
      ∃ fd : FuncData, (∀ (s : Shared) (u : Value), BindsTo s fd ⟨[u], []⟩ [(x, u)]) ∧
        ∀ base : Heap, (K w.params).In base → base.Ns mainGlobals mg → FnOk l.prog w (K w.params) mg base (CX w) k fa fd [x] (sp w))
    (hsp : ∀ (w : World) (H : Hp) (a : Addr) (ns : List Int), ns.length ≤ n → Only H → SqL (K w.params) H a (ns.map V.int) → sp w [.ref a] H (fun v _ => v = .bl true) fun _ _ _ => False)
    (hCX : ∀ (w : World) (H : Hp) (s : Shared) (e : Value) (s' : Shared), CX w [] H s (fun _ _ _ => False) e s' → False) :
    PySem.W.WalkO q loose XP YP l.row.toRowW d [] (fun f vs => PySem.call f vs) := by
  refine Att.attach_call hn hdf fun w s₀ s₁ mg mb fa o pm cd doc a vs ns G Y ho hd hcd hmg hobj hints hlen hg => ?_
  have KX := hY w _ Y
  obtain ⟨fd, hb, hF⟩ := F w mg fa _ KX G.T.g hmg
  exact law_call KX G.T.g G.T.b G.T.builtins G.T.nolimit hg hobj hints (Nat.le_trans hlen hn2) hr hF hb (fun H hO hS => hsp w H a ns hlen hO hS) fun H e s' => hCX w H s₁ e s'
end L2

/- THE LAST THEOREM (shape; LID, My.* are yours):
   My.Adr: a structure of the addresses that your layer names (classes, functions); My.Txt K t: a structure (Prop) of the equations over K;
   My.txt_mk : {K} {implicit addresses ..} (e1 : nsIn K mainGlobals "law" = some (some (.ref f))) (e2 : K.lookup f = some ⟨oc, od, .func (fnOf "law" "law" params body scope dV kV doc pm an cdv ct), sl⟩) (e3 : codeIn K cdv "law" = true) .. : ∃ t, My.Txt K t

(the tactic k_is has no namespace: write k_is) -/

/-! SHORT WORDS over the layer: a def of the text, its body, what a loop and a test want. -/
namespace L2
open PySem PySem.Spec PyProof.Rows

/-! ### the text by places -/
def defArgs (s : Stmt) : Arguments := match s with
  | .FunctionDef _ a _ _ _ _ _ _ _ _ => a
  | _ => { posonlyargs := [], args := [], vararg := none, kwonlyargs := [], kw_defaults := [], kwarg := none, defaults := [] }
def defBody (s : Stmt) : List Stmt := match s with
  | .FunctionDef _ _ b _ _ _ _ _ _ _ => b
  | _ => []
def defScope (s : Stmt) : Scope := match s with
  | .FunctionDef _ _ _ _ _ _ sc _ _ _ => sc
  | _ => { kind := .function, names := [], isGenerator := false, isCoroutine := false }

/-! ### no exception leaves a def -/
abbrev CX0 : CXT := fun _ _ _ _ _ _ => False
abbrev E0 : XK := fun _ _ _ => False
theorem pass0 {X : Cx} : Passes CX0 X E0 := fun _ _ _ _ _ _ _ h => h.elim

/-! ### a def (or method) of the text as it stands behind the top -/
structure Fun (K : PySem.W.Frag) (x qual : Str) (st : Stmt) (f : Addr) (fd : FuncData) : Prop where
  ex : ∃ (oc : Value) (od : Option Addr) (kV doc pm : Value) (an : Option Addr) (cdv ct : Value) (osl : Array (Option Value)),
    fd = PySem.W.fnOf x qual (defArgs st) (defBody st) (defScope st) .none kV doc pm an cdv ct ∧ K.lookup f = some ⟨oc, od, .func fd, osl⟩ ∧ PySem.W.codeIn K cdv qual = true
  kp : PySem.W.keepIn K (.ref f) = true
section
variable {P : Program} {w : World} {K : PySem.W.Frag} {mg : Str → Option Value} {base : Heap}
/-- THE RULE for a def: its body as a term of rules, and the reading of that term -/
theorem Fun.ok {x qual : Str} {st : Stmt} {f : Addr} {fd : FuncData} {N ps : List Str} {k : Nat} {sp : Sp} (F : Fun K x qual st f fd) (S : FnScope N ps (defScope st)) (len : ∀ vs H Q E, sp vs H Q E → vs.length = ps.length)
    (hbody : ∀ (cdv : Value) (A : Around) (outer : List Env) (s : Shared) (H : Hp) (vs : List V) (Q : VK) (E : XK), Room k (A.deeper (envOfC qual (defScope st) s.heap.objs.size f cdv)) → sp vs H Q E →
      ∃ t, PSs (cxOf CX0 P w K mg base N qual (defScope st) f cdv A outer s H E).nox (defBody st) t ∧ t { nx := fun _ H' => Q .non H', rt := Q } (start N vs) H) : FnOk P w K mg base CX0 (k + 1) f fd ps sp := by
  obtain ⟨oc, od, kV, doc, pm, an, cdv, ct, osl, rfl, lk, hcd⟩ := F.ex
  refine fn_of lk hcd S len fun A outer s H vs Q E hr hsp => ?_
  obtain ⟨t, h, q⟩ := hbody cdv A outer s H vs Q E hr hsp
  exact ⟨t, h.nox, q⟩
/-- how its arguments bind (no defaults): h is «fun _ _ _ _ _ _ us hl => match us, hl with | [_, _], _ => rfl», one _ a parameter -/
theorem Fun.binds {x qual : Str} {st : Stmt} {f : Addr} {fd : FuncData} {ps : List Str} (F : Fun K x qual st f fd)
    (h : ∀ (kV doc pm : Value) (an : Option Addr) (cdv ct : Value) (us : List Value), us.length = ps.length → bindArgs (PySem.W.fnOf x qual (defArgs st) (defBody st) (defScope st) .none kV doc pm an cdv ct) ⟨us, []⟩ = pure (ps.zip us)) : Binds K fd ps [] := by
  obtain ⟨oc, od, kV, doc, pm, an, cdv, ct, osl, rfl, lk, hcd⟩ := F.ex
  exact .all (h kV doc pm an cdv ct)
theorem fun_mk {x qual : Str} {st : Stmt} {f : Addr} {oc : Value} {od an : Option Addr} {osl : Array (Option Value)} {kV doc pm cdv ct : Value} (l : K.lookup f = some ⟨oc, od, .func (PySem.W.fnOf x qual (defArgs st) (defBody st) (defScope st) .none kV doc pm an cdv ct), osl⟩)
    (c : PySem.W.codeIn K cdv qual = true) (k : PySem.W.keepIn K (.ref f) = true) : Fun K x qual st f (PySem.W.fnOf x qual (defArgs st) (defBody st) (defScope st) .none kV doc pm an cdv ct) := ⟨⟨oc, od, kV, doc, pm, an, cdv, ct, osl, rfl, l, c⟩, k⟩
end
theorem hu_of {A : Around} {k : Nat} (hr : Room k A) : A.units + 1 < cLine := Nat.lt_of_le_of_lt (Nat.add_le_add_left (by decide : 1 ≤ 64) _) hr.units
theorem small1000 {n : Nat} (h : n ≤ 1000) : n < sizeLine := Nat.lt_of_le_of_lt h (by decide)

/-! ### expressions in short: the name that stands in the i-th slot -/
section
variable {X : Cx}
end

/-! ### tests -/
theorem iteF {A B : Prop} (h : B) : if false = true then A else B := by
  rw [if_neg Bool.false_ne_true]
  exact h
theorem iteT {A B : Prop} (h : A) : if true = true then A else B := by
  rw [if_pos rfl]
  exact h
/-! ### heaps -/
/-- all that was tracked is as it was -/
def Same (H H' : Hp) : Prop := ∀ b o, H b = some o → H' b = some o
theorem Same.refl (H : Hp) : Same H H := fun _ _ h => h
theorem Same.trans {H H1 H2 : Hp} (a : Same H H1) (b : Same H1 H2) : Same H H2 := fun c o h => b c o (a c o h)
theorem Same.free {H H' : Hp} (e : Same H H') {l : Addr} (h : H' l = Option.none) : H l = Option.none := by
  cases q : H l with
  | none => rfl
  | some o =>
    rw [e l o q] at h
    cases h
theorem Same.seq {K : PySem.W.Frag} {H H' : Hp} {a : Addr} {xs : List V} (e : Same H H') (h : SqL K H a xs) : SqL K H' a xs := by
  rcases h with (h | ⟨o, h⟩) | h
  · exact .inl (.inl (e _ _ h))
  · exact .inl (.inr ⟨o, e _ _ h⟩)
  · exact .inr h

end L2


namespace L2
open PySem PySem.Spec PyProof.Rows
section
variable {X : Cx}
/-- len of a dict -/
theorem call_lenD : CallR X (.builtin "len") (fun xs H Q => ∃ a kvs, xs = [V.ref a] ∧ H a = some (.dK kvs) ∧ Q (.int kvs.length) H) := by
  intro pins s σ H xs us Q I r h
  obtain ⟨a, kvs, rfl, ha, q⟩ := h
  obtain ⟨u, rfl, ru⟩ := vals1 r
  cases ru
  exact d_len I (.inl ha) fun t s' I' => ⟨.int kvs.length, H, I', ⟨t, rfl⟩, q⟩
end
/-! ### a dict's pairs: keys that differ -/
section
variable {κ : Type} [DecidableEq κ]
end
end L2

/-! ## comprehensions over the hand layer -/
namespace L2
open PySem PySem.Spec PyProof.Rows

theorem forIn_yield_fold {α β : Type} {l : List α} {f : α → β → Sem (ForInStep β)} (g : α → β → β) : ∀ (c : β), (∀ x ∈ l, ∀ c, f x c = pure (.yield (g x c))) →
    forIn l c f = pure (l.foldl (fun c x => g x c) c) := by
  induction l with
  | nil => intro c _; rfl
  | cons x l ih =>
    intro c h
    rw [List.forIn_cons, h x List.mem_cons_self, pure_bind]
    exact ih _ fun y hy => h y (List.mem_cons_of_mem _ hy)

def clStep (env : Env) (x : Str × NameKind) (c : List (Str × Addr)) : List (Str × Addr) := if x.2 = .free then (x.1, (env.cells.lookup x.1).getD 0) :: c else c
def clOf (env : Env) (names : List (Str × NameKind)) : List (Str × Addr) := names.foldl (fun c x => clStep env x c) []

theorem closureFor_cl {scope : Scope} {env : Env} (h : ∀ x ∈ scope.names, x.2 = .free → ∃ c, env.cells.lookup x.1 = some c) : closureFor scope env = pure (clOf env scope.names) := by
  simp only [closureFor]
  rw [forIn_yield_fold (clStep env) [] (fun x hx c => by
    obtain ⟨n, kind⟩ := x
    by_cases e : kind = .free
    · subst e
      obtain ⟨a, ha⟩ := h _ hx rfl
      have ha' : env.cells.lookup n = some a := ha
      simp [clStep, cellOf, ha']
    · have : (kind == NameKind.free) = false := by simpa using e
      simp [clStep, e, this])]
  rfl

theorem clFold_sub {env : Env} : ∀ (l : List (Str × NameKind)) (cs : List (Str × Addr)), (∀ x ∈ l, x.2 = .free → ∃ c, env.cells.lookup x.1 = some c) → (∀ y c, cs.lookup y = some c → env.cells.lookup y = some c) →
    ∀ y c, (l.foldl (fun c x => clStep env x c) cs).lookup y = some c → env.cells.lookup y = some c
  | [], cs, _, h2, y, c, e => h2 y c e
  | x :: r, cs, h1, h2, y, c, e => by
    refine clFold_sub r (clStep env x cs) (fun z hz => h1 z (List.mem_cons_of_mem _ hz)) (fun z d q => ?_) y c e
    unfold clStep at q
    by_cases k : x.2 = .free
    · rw [if_pos k] at q
      obtain ⟨a, ha⟩ := h1 x List.mem_cons_self k
      rw [List.lookup_cons] at q
      cases hb : z == x.1 with
      | true =>
        rw [hb] at q
        have ez : z = x.1 := by simpa using hb
        rw [ha] at q
        have q' : a = d := by simpa using q
        rw [ez, ha, q']
      | false =>
        rw [hb] at q
        exact h2 z d q
    · rw [if_neg k] at q
      exact h2 z d q
theorem cl_sub {env : Env} {names : List (Str × NameKind)} (h : ∀ x ∈ names, x.2 = .free → ∃ c, env.cells.lookup x.1 = some c) {y : Str} {c : Addr} (e : (clOf env names).lookup y = some c) : env.cells.lookup y = some c :=
  clFold_sub names [] h (fun y c q => by simp at q) y c e
theorem clFold_has {env : Env} {y : Str} : ∀ (l : List (Str × NameKind)) (cs : List (Str × Addr)), ((y, .free) ∈ l ∨ ∃ c, cs.lookup y = some c) → ∃ c, (l.foldl (fun c x => clStep env x c) cs).lookup y = some c
  | [], cs, h => by
    rcases h with h | h
    · simp at h
    · exact h
  | x :: r, cs, h => by
    refine clFold_has r (clStep env x cs) ?_
    rcases h with h | ⟨c, h⟩
    · rcases List.mem_cons.mp h with e | e
      · refine .inr ⟨(env.cells.lookup y).getD 0, ?_⟩
        rw [← e]
        simp [clStep]
      · exact .inl e
    · refine .inr ?_
      unfold clStep
      split
      · rw [List.lookup_cons]
        split
        · exact ⟨_, rfl⟩
        · exact ⟨c, h⟩
      · exact ⟨c, h⟩
theorem cl_has {env : Env} {names : List (Str × NameKind)} {y : Str} (h : (y, .free) ∈ names) : ∃ c, (clOf env names).lookup y = some c := clFold_has names [] (.inl h)

theorem mem_of_lookup {x : Str} {k : NameKind} : ∀ {l : List (Str × NameKind)}, l.lookup x = some k → (x, k) ∈ l
  | [], h => by simp at h
  | (n, j) :: r, h => by
    rw [List.lookup_cons] at h
    cases hb : x == n with
    | true =>
      rw [hb] at h
      have e : x = n := by simpa using hb
      have e2 : j = k := by simpa using h
      rw [e, e2]
      exact List.mem_cons_self
    | false =>
      rw [hb] at h
      exact List.mem_cons_of_mem _ (mem_of_lookup h)

theorem relabel_free {env : Env} : ∀ {names : List (Str × NameKind)} {x : Str}, names.lookup x = some .free →
    (names.map fun (n, k) => if (k == NameKind.free && env.scope.kind == .function && env.kindOf n == some .cell) then (n, NameKind.cell) else (n, k)).lookup x = some .cell ∨
    (names.map fun (n, k) => if (k == NameKind.free && env.scope.kind == .function && env.kindOf n == some .cell) then (n, NameKind.cell) else (n, k)).lookup x = some .free
  | [], _, h => by simp at h
  | (n, k) :: r, x, h => by
    have ih := @relabel_free env r x
    cases hx : x == n with
    | true =>
      simp only [List.lookup_cons, hx] at h
      cases h
      by_cases hc : (NameKind.free == NameKind.free && env.scope.kind == .function && env.kindOf n == some .cell) = true
      · refine .inl ?_
        simp only [List.map_cons, if_pos hc, List.lookup_cons, hx]
      · refine .inr ?_
        simp only [List.map_cons, if_neg hc, List.lookup_cons, hx]
    | false =>
      simp only [List.lookup_cons, hx] at h
      have ih := ih h
      by_cases hc : (k == NameKind.free && env.scope.kind == .function && env.kindOf n == some .cell) = true
      · simp only [List.map_cons, if_pos hc, List.lookup_cons, hx]
        exact ih
      · simp only [List.map_cons, if_neg hc, List.lookup_cons, hx]
        exact ih
theorem of_relabel {env : Env} : ∀ {names : List (Str × NameKind)} {x : Str} {j : NameKind}, (∀ y ∈ names, y.2 ≠ .cell) → (j = .cell ∨ j = .free) →
    (names.map fun (n, k) => if (k == NameKind.free && env.scope.kind == .function && env.kindOf n == some .cell) then (n, NameKind.cell) else (n, k)).lookup x = some j → (x, .free) ∈ names
  | [], _, _, _, _, h => by simp at h
  | (n, k) :: r, x, j, hn, hj, h => by
    have ih := @of_relabel env r x j (fun y hy => hn y (List.mem_cons_of_mem _ hy)) hj
    cases hx : x == n with
    | true =>
      have e : x = n := by simpa using hx
      subst e
      by_cases hc : (k == NameKind.free && env.scope.kind == .function && env.kindOf x == some .cell) = true
      · have hk : k = .free := by
          simp only [Bool.and_eq_true, beq_iff_eq] at hc
          exact hc.1.1
        subst hk
        exact List.mem_cons_self
      · simp only [List.map_cons, if_neg hc, List.lookup_cons, hx] at h
        have hk : k = j := by simpa using h
        rcases hj with z | z
        · exact absurd (hk.trans z) (hn (x, k) List.mem_cons_self)
        · rw [hk, z]
          exact List.mem_cons_self
    | false =>
      by_cases hc : (k == NameKind.free && env.scope.kind == .function && env.kindOf n == some .cell) = true
      · simp only [List.map_cons, if_pos hc, List.lookup_cons, hx] at h
        exact List.mem_cons_of_mem _ (ih h)
      · simp only [List.map_cons, if_neg hc, List.lookup_cons, hx] at h
        exact List.mem_cons_of_mem _ (ih h)

/-- the context of a comprehension's block: no exception leaves it -/
abbrev Cx.comp (X : Cx) (N : List Str) (scope : Scope) (C : Addr) (s : Shared) (H : Hp) (fp : List Addr) : Cx where
  prog := X.prog
  w := X.w
  K := X.K
  mg := X.mg
  base := X.base
  A := X.A
  N := N
  s₀ := s
  H₀ := H
  env := compEnvC scope (clOf X.env scope.names) C X.env
  outer := X.stack
  stack := X.stack
  ex := fp
  fn := fun _ => false
  calm := X.calm
  pn := []
  xe := fun _ _ => False

def capOk (scope : Scope) (ON N : List Str) (cap : List (Option Nat)) : Bool :=
  cap.length == N.length && (List.range N.length).all fun j => match cap[j]? with
    | some (some i) => (match N[j]?, ON[i]? with
      | some x, some y => x == y && (scope.names.lookup x == some NameKind.free)
      | _, _ => false)
    | _ => true
/-- a comprehension's scope within another one: closed facts -/
structure CSc (osc scope : Scope) (ON N : List Str) (cap : List (Option Nat)) : Prop where
  kind : scope.kind = .function
  noc : ∀ y ∈ scope.names, y.2 ≠ .cell
  loc : ∀ y ∈ scope.names, y.2 = .local → scope.names.lookup y.1 = some .local
  fr : ∀ y ∈ scope.names, y.2 = .free → osc.names.lookup y.1 = some .cell ∨ osc.names.lookup y.1 = some .free
  cap : capOk scope ON N cap = true
theorem CSc.at {osc scope : Scope} {ON N : List Str} {cap : List (Option Nat)} (S : CSc osc scope ON N cap) {j i : Nat} {x : Str} (h : cap[j]? = some (some i)) (hx : N[j]? = some x) : ON[i]? = some x ∧ scope.names.lookup x = some .free := by
  have h0 := S.cap
  unfold capOk at h0
  rw [Bool.and_eq_true] at h0
  have hj : j < N.length := (List.getElem?_eq_some_iff.mp hx).1
  have h1 := List.all_eq_true.mp h0.2 j (List.mem_range.mpr hj)
  rw [h] at h1
  dsimp only at h1
  rw [hx] at h1
  cases hy : ON[i]? with
  | none => rw [hy] at h1; simp at h1
  | some y =>
    rw [hy] at h1
    simp only [Bool.and_eq_true, beq_iff_eq] at h1
    exact ⟨by rw [h1.1], h1.2⟩
theorem CSc.len {osc scope : Scope} {ON N : List Str} {cap : List (Option Nat)} (S : CSc osc scope ON N cap) : cap.length = N.length := by
  have h0 := S.cap
  unfold capOk at h0
  rw [Bool.and_eq_true, beq_iff_eq] at h0
  exact h0.1

def capV (σ : St) : Option Nat → Option V
  | some i => (σ[i]?).getD none
  | none => none
def capSt (cap : List (Option Nat)) (σ : St) : St := cap.map (capV σ)

/-- the tests behind the for -/
def PIfs (X : Cx) (ifs : List Expr) (t : TT) : Prop :=
  ∀ (pins : List (Addr × Obj)) (s : Shared) (σ : St) (H : Hp) (Q : Bool → Hp → Prop), Inv X pins σ H s → t σ H Q →
    wpAny (model X.prog X.w) X.A (forIn ifs true fun c r => if r = true then do let ok ← isTrue c X.env (eval c X.env); pure (ForInStep.yield ok) else pure (ForInStep.yield r)) (TP X pins σ Q) X.xe s
def tIf0 : TT := fun _ H Q => Q true H
theorem pifs_nil {X : Cx} : PIfs X [] tIf0 := fun _ _ _ H _ I h => wpAny_tests_nil ⟨H, I, h⟩
theorem pifs_one {X : Cx} {c : Expr} {t : TT} (h : PT X c t) : PIfs X [c] t := fun pins s σ H Q I q => wpAny_tests_one (h pins s σ H Q I q)

theorem codeAny_compLoop_testsG {prog : Program} {w : World} {A : Around} {R : Result → Shared → Prop} {s : Shared} {elt target iter : Expr} {ifs : List Expr} {scope : Scope} {pos : Pos} {it acc : Value} {env : Env} (I : Nat → Shared → Prop)
    (turn : ∀ n s, I n s → wpAny (model prog w) A (pyNext it) (fun r s₁ => match r with
      | none => R (.ok .next) s₁
      | some v => wpAny (model prog w) A (letOwnedTupleGo target it v) (fun _ s₁' => wpAny (model prog w) A (assign target env v) (fun _ s₂ =>
          wpAny (model prog w) A (forIn ifs true fun c r => if r = true then do let ok ← isTrue c env (eval c env); pure (ForInStep.yield ok) else pure (ForInStep.yield r)) (fun ok s₃ =>
            if ok = true then wpAny (model prog w) A (eval elt env) (fun x s₄ =>
              wpAny (model prog w) A (call (.builtin "list.append") [acc, x]) (fun _ s₅ => ∃ m, m < n ∧ I m s₅) (fun _ _ => False) s₄) (fun _ _ => False) s₃
            else ∃ m, m < n ∧ I m s₃) (fun _ _ => False) s₂) (fun _ _ => False) s₁') (fun _ _ => False) s₁) (fun _ _ => False) s)
    (n : Nat) (h : I n s) :
    codeAny (model prog w) A (.compLoop (.ListComp elt [⟨target, iter, ifs, 0⟩] scope pos) 0 it acc env) R s := by
  refine codeAny_loop rfl I (fun n s hI => ?_) n h
  show wpAny _ A ((compTurn (.ListComp elt [⟨target, iter, ifs, 0⟩] scope pos) 0 it acc env).onRaise (fun x => do noteFrame x env; theTreesLotGoes x)) _ _ s
  refine wpAny_noted ?_
  rw [compTurn_list]
  refine wpAny_bind (wpAny_standAt (wpAny_bind (wpAny_mono (turn n s hI) (fun r s₁ h₁ => ?_) fun _ _ h' => h'.elim)))
  cases r with
  | none => exact wpAny_pure h₁
  | some v =>
    refine wpAny_bind (wpAny_mono h₁ (fun _ s₁' h₁' => ?_) fun _ _ h' => h'.elim)
    refine wpAny_bind (wpAny_mono h₁' (fun _ s₂ h₂ => wpAny_bind (wpAny_mono h₂ (fun ok s₃ h₃ => ?_) fun _ _ h' => h'.elim)) fun _ _ h' => h'.elim)
    cases ok with
    | false => exact wpAny_pure ⟨rfl, h₃⟩
    | true =>
      exact wpAny_bind (wpAny_bind (wpAny_mono h₃ (fun x s₄ h₄ => wpAny_bind (wpAny_mono h₄ (fun _ s₅ h₅ => wpAny_pure (wpAny_pure ⟨rfl, h₅⟩)) fun _ _ h' => h'.elim)) fun _ _ h' => h'.elim))

/-- what stood in the slots stands there still -/
def Kp (σ σ2 : St) : Prop := σ.length = σ2.length ∧ ∀ (i : Nat) (v : V), σ[i]? = some (some v) → σ2[i]? = some (some v)
theorem kp_name {rest : St} {x : V} : Kp (none :: rest) (some x :: rest) := ⟨rfl, fun i v e => by
  cases i with
  | zero => cases e
  | succ i => exact e⟩
/-- the reading: the list comes at D; W holds between two turns (turn, measure, what is gathered, the heap); each turn begins with the block's first slots -/
structure TComp (wi : TI) (cap : List (Option Nat)) (g : TG) (tt : TT) (te : TE) (σ : St) (H : Hp) (Q : VK) : Prop where
  ex : wi σ H fun J H1 => ∀ D, H1 D = none → ∃ W : Nat → Nat → List V → Hp → Prop,
  (∃ m, W 0 m [] (upd H1 D (.lst []))) ∧ ∀ i m ys H, W i m ys H → H D = some (.lst ys) ∧ ((J.stop i H ∧ Q (.ref D) H) ∨
    (J.go i H ∧ ∃ N : List V → Hp → Prop, (∀ ys' H', N ys' H' → ∃ m', m' < m ∧ W (i + 1) m' ys' H') ∧ ∀ x H', J.yld i H x H' → g x (capSt cap σ) H' fun σ2 H2 => Kp (capSt cap σ) σ2 ∧ tt σ2 H2 fun b H3 =>
      if b = true then te σ2 H3 fun y H4 => H4 D = some (.lst ys) ∧ ys.length < sizeLine ∧ N (ys ++ [y]) (upd H4 D (.lst (ys ++ [y]))) else N ys H3))
def tComp (wi : TI) (cap : List (Option Nat)) (g : TG) (tt : TT) (te : TE) : TE := fun σ H Q => TComp wi cap g tt te σ H Q

section
variable {X : Cx} {tg iter elt : Expr} {ifs : List Expr} {scope osc : Scope} {ON N : List Str} {cap : List (Option Nat)} {wi : TI} {g : TG} {tt : TT} {te : TE} {pos : Pos}

theorem comp_ok {pins : List (Addr × Obj)} {σ : St} {H2 : Hp} {s2 : Shared} {fp : List Addr} {C : Addr} (I2 : Inv X pins σ H2 s2) (S : CSc osc scope ON N cap) (hsc : X.env.scope = osc) (f2 : ∀ b ∈ fp, FpOk X pins H2 b)
    (hfp : ∀ b ∈ fp, b < s2.heap.objs.size) (hC : s2.heap.objs.size ≤ C) : (X.comp N scope C s2 H2 fp).Ok := by
  have hfr : ∀ x ∈ scope.names, x.2 = .free → ∃ c, X.env.cells.lookup x.1 = some c := fun x hx e => I2.ok.has x.1 (by
    rcases S.fr x hx e with z | z
    · exact .inl (by rw [Env.kindOf, hsc]; exact z)
    · exact .inr (by rw [Env.kindOf, hsc]; exact z))
  refine ⟨I2.mod, S.kind, I2.ok.glob, I2.ok.blt, hC, fun x y c h1 h2 => I2.ok.inj x y c (cl_sub hfr h1) (cl_sub hfr h2), fun x h => ?_, fun x c h => by simp at h, I2.ok.hd, I2.ok.frames, .inl rfl, fun b hb => ⟨?_, fun x c e => ?_⟩, fun b o e => I2.bs b o e, ?_, fun b o e hb => ?_, fun b hb hz => ?_, I2.stack, I2.stkFree⟩
  · have hm : (x, NameKind.free) ∈ scope.names := by
      rcases h with h | h
      · exact of_relabel (env := X.env) S.noc (.inl rfl) h
      · exact of_relabel (env := X.env) S.noc (.inr rfl) h
    exact cl_has hm
  · exact Nat.ne_of_lt (Nat.lt_of_lt_of_le (hfp b hb) hC)
  · exact (f2 b hb).2.2.2.2.1 x c (cl_sub hfr e)
  · exact Nat.le_trans I2.ok.bsz I2.sz
  · rcases (f2 b hb).2.2.2.1 with z | z
    · exact I2.ok.noex b o e z
    · exact absurd (Nat.lt_of_lt_of_le (Heap.lt_size e) (Nat.le_trans I2.ok.bsz z)) (Nat.lt_irrefl _)
  · obtain ⟨_, f1, f3, _⟩ := f2 b hb
    rcases List.mem_cons.mp (I2.stkSub b hz) with z | z
    · exact f1 z
    · exact f3 z

theorem comp_core {pins : List (Addr × Obj)} {s : Shared} {σ : St} {H : Hp} {Q : VK} {RR : Value → Addr → Result → Shared → Prop} {cqual : Str} (hc : X.calm = true) (S : CSc osc scope ON N cap) (hsc : X.env.scope = osc) (hN : X.N = ON)
    (hi : PI X tg iter wi) (hg : ∀ C s H fp, PG (X.comp N scope C s H fp) tg g) (ht : ∀ C s H fp, PIfs (X.comp N scope C s H fp) ifs tt) (he : ∀ C s H fp, PE (X.comp N scope C s H fp) elt te)
    (I : Inv X pins σ H s) (h : tComp wi cap g tt te σ H Q)
    (fin : ∀ D C H' s', Inv X pins σ H' s' → FpOk X pins H' C → (∃ m, s'.heap.Ns C m) → Q (.ref D) H' → RR (.ref D) C (.ok .next) s') :
    wpAny (model X.prog X.w) X.A (eval iter X.env) (fun x s₁ => wpAny (model X.prog X.w) X.A (pyIter x) (fun itv s₂ => wpAny (model X.prog X.w) X.A (newList []) (fun acc s₃ =>
      wpAny (model X.prog X.w) X.A (newFunctionEnv scope X.env.globals (clOf X.env scope.names) [] X.env.qual none .none (some X.env)) (fun cenv s₄ =>
        codeAny (model X.prog X.w) X.A (.compStart (.ListComp elt [⟨tg, iter, ifs, 0⟩] scope pos) 0 itv acc { cenv with scope := relabel scope X.env }) (RR acc cenv.locals) s₄) X.xe s₃) X.xe s₂) X.xe s₁) X.xe s := by
  refine thn (hi pins s σ H _ I h.ex) fun v s1 h1 => thn h1 fun itv s2 h2 => ?_
  obtain ⟨it, fp, tn, J, H2, e, I2, T, st2, f2, q2⟩ := h2
  subst e
  refine wpAny_newObj_type (wpAny_newFunctionEnv S.noc (by intro y hy; simp at hy) (fun h₁ hns₁ hsb₁ => ?_) S.kind)
  dsimp only at hns₁ hsb₁ ⊢
  generalize hH2 : s2.heap.push { cls := .type "list", dict := none, data := .seq ([] : List Value).toArray } = P2 at hns₁ hsb₁ ⊢
  generalize hD : s2.heap.objs.size = D
  generalize hCe : P2.objs.size = C at hns₁ hsb₁ ⊢
  have hCD : C = D + 1 := by rw [← hCe, ← hH2, Heap.size_push, hD]
  have hCle : s2.heap.objs.size ≤ C := by rw [hCD, hD]; exact Nat.le_succ _
  have hfp : ∀ b ∈ fp, b < s2.heap.objs.size := fun b hb => by
    obtain ⟨o, e, _⟩ := T.obj 0 _ st2 b hb
    exact Heap.lt_size e
  have below : ∀ b, b < s2.heap.objs.size → b ≠ C := fun b hb => Nat.ne_of_lt (Nat.lt_of_lt_of_le hb hCle)
  have k1 : ∀ b o, s2.heap.get? b = some o → h₁.get? b = some o := fun b o e => hsb₁.extBut b o (below b (Heap.lt_size e)) (Heap.get?_push_of_some _ (hH2 ▸ Heap.get?_push_of_some _ e))
  have hDC : D ≠ C := by rw [hCD]; exact Nat.ne_of_lt (Nat.lt_succ_self _)
  have gD : h₁.get? D = some { cls := .type "list", dict := none, data := .seq ([] : List Value).toArray } := by
    refine hsb₁.extBut D _ hDC (Heap.get?_push_of_some _ ?_)
    rw [← hH2, ← hD]
    exact Heap.get?_push_size _ rfl
  have nD : H2 D = none := I2.hok.fresh (by rw [hD]; exact Nat.le_refl _)
  have nC : H2 C = none := I2.hok.fresh hCle
  have hfr : ∀ x ∈ scope.names, x.2 = .free → ∃ c, X.env.cells.lookup x.1 = some c := fun x hx e => I2.ok.has x.1 (by
    rcases S.fr x hx e with z | z
    · exact .inl (by rw [Env.kindOf, hsc]; exact z)
    · exact .inr (by rw [Env.kindOf, hsc]; exact z))
  obtain ⟨W, ⟨m0, w0⟩, turn⟩ := q2 D nD
  have IY : Inv (X.comp N scope C s2 H2 fp) [] (capSt cap σ) (upd H2 D (.lst [])) { s2 with heap := h₁, toks := s2.toks + ([] : List (Str × Value)).length } := by
    have hp : s2.heap.objs.size ≤ D := by rw [hD]; exact Nat.le_refl _
    refine ⟨comp_ok I2 S hsc f2 hfp hCle, rfl, I2.bare, Un.laid k1 hp nD, ⟨_, hns₁, fun j x v e1 e2 e3 => ?_⟩, fun x c e => ?_, ?_, fun x c e => ?_, fun p hp => by simp at hp, I2.hok.laid k1 hp ⟨Nat.zero_le _, [], _, .nil, gD⟩, ?_⟩
    · have e2' : (cap.map (capV σ))[j]? = some (some v) := e2
      rw [List.getElem?_map] at e2'
      cases q : cap[j]? with
      | none => rw [q] at e2'; cases e2'
      | some o =>
        rw [q] at e2'
        have e4 : capV σ o = some v := Option.some.inj e2'
        cases o with
        | none => cases e4
        | some i =>
          have hσ : σ[i]? = some (some v) := by
            have e5 : (σ[i]?).getD none = some v := e4
            cases z : σ[i]? with
            | none => rw [z] at e5; cases e5
            | some w => rw [z] at e5; exact congrArg some e5
          obtain ⟨hx1, hx2⟩ := S.at q e1
          have hk : X.env.kindOf x = some .cell ∨ X.env.kindOf x = some .free := by
            rcases S.fr _ (mem_of_lookup hx2) rfl with z | z
            · exact .inl (by rw [Env.kindOf, hsc]; exact z)
            · exact .inr (by rw [Env.kindOf, hsc]; exact z)
          obtain ⟨m, hn, hl⟩ := I2.loc
          obtain ⟨u, r, l⟩ := hl i x v (by rw [hN]; exact hx1) hσ (by
            rcases hk with z | z
            · exact .inr (.inl z)
            · exact .inr (.inr z))
          refine ⟨u, r, ?_⟩
          rcases l with ⟨z, _⟩ | ⟨_, c, hc', hcell⟩
          · rcases hk with y | y
            · rw [y] at z; cases z
            · rw [y] at z; cases z
          · obtain ⟨c', hc2⟩ := cl_has (env := X.env) (mem_of_lookup hx2)
            have e6 := cl_sub hfr hc2
            rw [hc'] at e6
            have e7 : c = c' := Option.some.inj e6
            subst e7
            obtain ⟨oc, ho, hd⟩ := hcell
            exact .inr ⟨relabel_free (env := X.env) hx2, c, hc2, ⟨oc, k1 c oc ho, hd⟩⟩
    · obtain ⟨v, oc, ho, hd⟩ := I2.cell x c (cl_sub hfr e)
      exact ⟨v, oc, k1 c oc ho, hd⟩
    · show upd H2 D (.lst []) C = none
      rw [upd_ne (Ne.symm hDC)]
      exact nC
    · have e' := cl_sub hfr e
      obtain ⟨v, oc, ho, hd⟩ := I2.cell x c e'
      show upd H2 D (.lst []) c = none
      rw [upd_ne (fun z => absurd (Heap.lt_size ho) (by rw [z, hD]; exact Nat.lt_irrefl _))]
      exact I2.freeC x c e'
    · show (cap.map (capV σ)).length = N.length
      rw [List.length_map]
      exact S.len
  have stat : ∀ {H' : Hp}, (∀ b ∈ fp, H' b = none) → ∀ b ∈ fp, FpOk (X.comp N scope C s2 H2 fp) [] H' b := fun hn b hb => by
    obtain ⟨_, f1, f3, f4, f5, f6⟩ := f2 b hb
    refine ⟨hn b hb, below b (hfp b hb), fun hz => ?_, .inl hb, fun x c e => f5 x c (cl_sub hfr e), fun p hp => by simp at hp⟩
    rcases List.mem_cons.mp (I2.stkSub b hz) with z | z
    · exact f1 z
    · exact f3 z
  have back : ∀ {σ' : St} {H' : Hp} {s' : Shared}, Inv (X.comp N scope C s2 H2 fp) [] σ' H' s' → Inv X pins σ H' s' := fun {σ' H' s'} I' =>
    I2.call' (ch := fp) I'.os I'.base I'.hok I'.bare fun b hb => let ⟨_, f1, _, f4, f5, f6⟩ := f2 b hb; ⟨f4, f1, f5, f6⟩
  have st1 : tn 0 h₁ := T.keep 0 _ _ st2 fun b _ o e => k1 b o e
  have fr1 : ∀ b ∈ fp, upd H2 D (.lst []) b = none := fun b hb => by
    rw [upd_ne (fun z => absurd (hfp b hb) (by rw [z, hD]; exact Nat.lt_irrefl _))]
    exact (f2 b hb).1
  have loop : codeAny (model X.prog X.w) X.A (.compLoop (.ListComp elt [⟨tg, iter, ifs, 0⟩] scope pos) 0 (.ref it) (.ref D) (compEnvC scope (clOf X.env scope.names) C X.env)) (RR (.ref D) C) { s2 with heap := h₁, toks := s2.toks + ([] : List (Str × Value)).length } := by
    refine codeAny_compLoop_testsG (fun n s' => ∃ i ys H', Inv (X.comp N scope C s2 H2 fp) [] (capSt cap σ) H' s' ∧ tn i s'.heap ∧ (∀ b ∈ fp, H' b = none) ∧ W i n ys H') ?_ m0 ⟨0, [], _, IY, st1, fr1, w0⟩
    rintro n s3 ⟨i, ys, H3, I3, st3, fr3, w3⟩
    obtain ⟨hDy, hturn⟩ := turn i n ys H3 w3
    rcases hturn with ⟨stop, qn⟩ | ⟨go, Nx, hNx, step⟩
    · refine thn (T.done (X.comp N scope C s2 H2 fp) rfl rfl rfl hc i [] s3 (capSt cap σ) H3 _ I3 (stat fr3) st3 stop) fun r s4 ⟨hr, I4⟩ => ?_
      subst hr
      obtain ⟨m, hm, _⟩ := I4.loc
      exact fin D C H3 s4 (back I4) (I2.fpOk hCle I4.free) ⟨m, hm⟩ qn
    · refine thn (T.item (X.comp N scope C s2 H2 fp) rfl rfl rfl hc i [] s3 (capSt cap σ) H3 _ I3 (stat fr3) st3 go) fun r s4 ⟨u, hr, h4⟩ => ?_
      subst hr
      refine thn h4 fun _ s5 ⟨x, H5, I5, r5, y5, st5, fr5⟩ => ?_
      have I5' := I5.pinned (stat fr5) (T.obj _ _ st5)
      refine thn (hg C s2 H2 fp _ s5 (capSt cap σ) H5 x u _ I5' r5 (step x H5 y5)) fun _ s6 ⟨σ6, H6, I6, kp6, q6⟩ => ?_
      refine thn (ht C s2 H2 fp _ s6 σ6 H6 _ I6 q6) fun b s7 ⟨H7, I7, q7⟩ => ?_
      have again : ∀ {ys' : List V} {H7 : Hp} {s7 : Shared}, Inv (X.comp N scope C s2 H2 fp) ([] ++ pinsAt fp s5.heap) σ6 H7 s7 → Nx ys' H7 → ∃ m, m < n ∧ ∃ i ys H', Inv (X.comp N scope C s2 H2 fp) [] (capSt cap σ) H' s7 ∧ tn i s7.heap ∧ (∀ b ∈ fp, H' b = none) ∧ W i m ys H' := fun {ys' H7 s7} I7 n7 => by
        obtain ⟨m', hm, w7⟩ := hNx ys' H7 n7
        refine ⟨m', hm, i + 1, ys', H7, I7.unpinned.weak kp6.1 kp6.2, T.keep _ _ _ st5 fun b hb o e => (I7.pin (b, o) (List.mem_append_right _ (List.mem_append_right _ (mem_pinsAt hb e)))).1, fun b hb => ?_, w7⟩
        obtain ⟨o, e, d⟩ := T.obj _ _ st5 b hb
        exact (I7.pin (b, o) (List.mem_append_right _ (List.mem_append_right _ (mem_pinsAt hb e)))).2.1
      cases b with
      | false =>
        rw [if_neg Bool.false_ne_true] at q7 ⊢
        exact again I7 q7
      | true =>
        rw [if_pos rfl] at q7 ⊢
        refine thn (he C s2 H2 fp _ s7 σ6 H7 _ I7 q7) fun xv s8 ⟨y, H8, I8, r8, hD8, hl8, n8⟩ => ?_
        refine thn (mt_append (X := X.comp N scope C s2 H2 fp) _ s8 σ6 H8 (.ref D) [y] (.ref D) [xv] (fun _ H9 => Nx (ys ++ [y]) H9) I8 rfl (.cons r8 .nil) ⟨D, ys, y, rfl, rfl, hD8, hl8, n8⟩) fun _ s9 ⟨_, H9, I9, _, n9⟩ => ?_
        exact again I9 n9
  subst hD hCe
  exact codeAny_compStart_list loop (T.self _ 0 _ _ _ st1 loop)

theorem hclos_of {pins : List (Addr × Obj)} {s : Shared} {σ : St} {H : Hp} (S : CSc osc scope ON N cap) (hsc : X.env.scope = osc) (I : Inv X pins σ H s) : closureFor scope X.env = pure (clOf X.env scope.names) :=
  closureFor_cl fun x hx e => I.ok.has x.1 (by
    rcases S.fr x hx e with z | z
    · exact .inl (by rw [Env.kindOf, hsc]; exact z)
    · exact .inr (by rw [Env.kindOf, hsc]; exact z))

/-- behind the block its frame's names are let go -/
theorem Inv.letgo {pins : List (Addr × Obj)} {s' : Shared} {σ : St} {H' : Hp} {C : Addr} {h' : Heap} (I : Inv X pins σ H' s') (f : FpOk X pins H' C) (hs : Heap.SameBut C s'.heap h') : Inv X pins σ H' { s' with heap := h' } :=
  I.turned (t' := s'.toks) (it := C) (fun b o hb e => (hs.2 b hb).trans e) f.1 f.2.1 f.2.2.2.1 f.2.2.2.2.1 f.2.2.2.2.2

/-- [elt for tg in iter (if ..)] -/
theorem pe_comp (S : CSc osc scope ON N cap) (hi : PI X tg iter wi) (hg : ∀ C s H fp, PG (X.comp N scope C s H fp) tg g) (ht : ∀ C s H fp, PIfs (X.comp N scope C s H fp) ifs tt) (he : ∀ C s H fp, PE (X.comp N scope C s H fp) elt te)
    (hc : X.calm = true := by rfl) (hsc : X.env.scope = osc := by rfl) (hN : X.N = ON := by rfl) (hs : ∀ x, foldedSetIterable iter X.env x = pure x := by intro _; rfl) : PE X (.ListComp elt [⟨tg, iter, ifs, 0⟩] scope pos) (tComp wi cap g tt te) := by
  intro pins s σ H Q I h
  rw [eval_ListComp]
  refine wpAny_comprehension_free (use := none) rfl hs (hclos_of S hsc I) S.kind S.loc ?_
  refine comp_core (RR := fun acc C => compPost (model X.prog X.w) X.A X.xe none (EP X pins σ Q) acc C) (cqual := "") hc S hsc hN hi hg ht he I h fun D C H' s' I' f hm q => ?_
  obtain ⟨m, hm⟩ := hm
  exact ⟨m, hm, fun h' hs' => ⟨.ref D, H', I'.letgo f hs', rfl, q⟩⟩

/-- name = [elt for ..], where the store stands inside the block -/
theorem ps_setC {i : Nat} {y : Str} {py spos : Pos} (S : CSc osc scope ON N cap) (hNd : X.N.Nodup) (hi' : X.N[i]? = some y) (hy : Loc X.env.scope y) (hi : PI X tg iter wi) (hg : ∀ C s H fp, PG (X.comp N scope C s H fp) tg g) (ht : ∀ C s H fp, PIfs (X.comp N scope C s H fp) ifs tt) (he : ∀ C s H fp, PE (X.comp N scope C s H fp) elt te)
    (hsw : swapsWith (.ListComp elt [⟨tg, iter, ifs, 0⟩] scope pos) (some (.Name y py)) spos.line X.env = pure true := by rfl)
    (hc : X.calm = true := by rfl) (hsc : X.env.scope = osc := by rfl) (hN : X.N = ON := by rfl) (hs : ∀ x, foldedSetIterable iter X.env x = pure x := by intro _; rfl)
    (hf : X.fn y = true ∨ X.env.scope.names.lookup y = some .local := by first | exact .inl rfl | exact .inr rfl | assumption) :
    PS X (.Assign [.Name y py] (.ListComp elt [⟨tg, iter, ifs, 0⟩] scope pos) spos) (tAsg (tComp wi cap g tt te) (gName i)) := by
  intro pins s σ H D0 I h
  rw [exec_Assign_Name_used _ _ _ _ hsw]
  refine wpAny_bind (wpAny_standAt (wpAny_bind ?_))
  show wpAny _ _ (do let _ ← comprehension (.ListComp elt [⟨tg, iter, ifs, 0⟩] scope pos) scope X.env _ (newList []) false (eval iter X.env) (some (assign (.Name y py) X.env))) _ _ s
  refine wpAny_bind (wpAny_mono (wpAny_comprehension_free (use := some (assign (.Name y py) X.env)) (Q := fun _ s' => SP X pins D0 .next s') rfl hs (hclos_of S hsc I) S.kind S.loc
    (comp_core (RR := fun acc C => compPost (model X.prog X.w) X.A X.xe (some (assign (.Name y py) X.env)) (fun _ s' => SP X pins D0 .next s') acc C) (cqual := "") hc S hsc hN hi hg ht he I h fun D C H' s' I' f hm q => ?_))
    (fun _ s' hq => wpAny_pure (wpAny_pure hq)) fun _ _ e => e)
  obtain ⟨m, hm⟩ := hm
  show wpAny _ _ (assign (.Name y py) X.env (.ref D)) _ _ s'
  refine wpAny_assign_Name (store_ok2 I' hNd hi' hy (v := .ref D) rfl (fun s'' I'' hch => ?_) hf)
  obtain ⟨a, hsb, ha⟩ := hch
  have nCa : C ≠ a := by
    rintro rfl
    rcases ha with z | z
    · exact f.2.1 z
    · exact f.2.2.2.2.1 y C z rfl
  refine ⟨m, hm.sameBut hsb nCa, fun h' hs' => ⟨_, H', I''.letgo f hs', q⟩⟩
end

/-! ### the forms one uses -/
section
variable {tt : TT} {te : TE} {Q : VK} {σ0 rest : St} {H : Hp} {D : Addr}
end
end L2

/-! ## enumerate, texts walked, split, join, all, any, list(d), ==, isinstance over the hand layer -/
namespace L2
open PySem PySem.Spec PyProof.Rows

section
variable {X : Cx} {pins : List (Addr × Obj)} {σ : St} {H H' : Hp} {s : Shared} {h' : Heap}
/-- untracked records of ours have turned, and a new object is laid and tracked -/
theorem Inv.turnedL {t' : Nat} {ch : List Addr} {a : Addr} {o : HO} (I : Inv X pins σ H s) (k : ∀ b u, b ∉ ch → s.heap.get? b = some u → h'.get? b = some u) (ht : ∀ b u, s.heap.get? b = some u → ∃ u', h'.get? b = some u') (hf : ∀ b ∈ ch, FpOk X pins H b)
    (hp : s.heap.objs.size ≤ a) (new : ObjOk X.prog X.w (upd H a o) h' a o) : Inv X pins σ (upd H a o) { s with heap := h', toks := t' } := by
  have hn : H a = none := I.hok.fresh hp
  have nch : ∀ b u, H b = some u → b ∉ ch := fun b u e hb => by
    rw [(hf b hb).1] at e; cases e
  have na : ∀ b u, s.heap.get? b = some u → b ≠ a := fun b u e => Nat.ne_of_lt (Nat.lt_of_lt_of_le (Heap.lt_size e) hp)
  have hhok : HOk X.prog X.w (upd H a o) h' := fun b u e => by
    by_cases hb : b = a
    · subst hb; rw [upd_same] at e; cases e; exact new
    · rw [upd_ne hb] at e
      refine (I.hok b u e).stay (fun c v hc q => k c v ?_ q) (fun c q => by rw [upd_ne (ne_of_none q hn)]; exact q) fun c xs q => by rw [upd_ne (ne_of_none q hn)]; exact q
      rcases hc with rfl | hc
      · exact nch c u e
      · exact nch c _ hc
  refine I.step (g' := s.gens) (d' := s.drawn) (ch := ch) (fun b hb => let ⟨_, f1, _, f4, f5, f6⟩ := hf b hb; ⟨f4, f1, f5, f6⟩) (fun b o _ _ hc e _ => k b o hc e) (fun b o _ _ hc e _ => ⟨o.slots, k b o hc e⟩)
    (fun b o _ e n => by rw [upd_ne (na b o e)]; exact n) (fun b o _ e => ht b o e) (fun b xs q => by rw [upd_ne (ne_of_none q hn)]; exact q) (fun b u xs q => by rw [upd_ne (ne_of_none q hn)]; exact q)
    (fun b ps q => ⟨#[], by rw [upd_ne (ne_of_none q hn), q]; simp⟩) (fun m hm => ?_) hhok I.bare
  obtain ⟨oL, es, ep, ho, r⟩ := hm
  have nL : X.env.locals ∉ ch := fun hb => (hf _ hb).2.1 rfl
  exact ⟨oL, es, ep, k _ oL nL ho, r⟩
end

/-! ### enumerate over a list -/
section
variable {X : Cx}
end
/-! ### a text walked sign by sign -/
def Its (x : Str) : It := ⟨fun i _ => i < x.cps.size, fun i H v H' => H' = H ∧ ∃ c, x.cps[i]? = some c ∧ v = .str ⟨#[c]⟩, fun i _ => i = x.cps.size⟩
theorem turn_str {P : Program} {w : World} {K : PySem.W.Frag} {tg : Expr} (it : Addr) (x : Str) (t : Tok) (ty : String) (hty : ["enumerate", "zip", "dict_itemiterator", "dict_reverseitemiterator", "odict_iterator", "itertools.zip_longest", "itertools.pairwise"].contains ty = false)
    (W : ∀ A : Around, A.handled = none → Walks P w A it [it] [it] x.cps.size (SignAt x) (fun i h => h.IsStrIter it ty x t i))
    (slf : ∀ (A : Around) (i : Nat) (s : Shared) (Q : Value → Shared → Prop) (E : Value → Shared → Prop), s.heap.IsStrIter it ty x t i → Q (.ref it) s → wpAny (model P w) A (pyIter (.ref it)) Q E s) :
    Turn P w K tg (Its x) [it] it (fun i h => h.IsStrIter it ty x t i) where
  mem := by simp
  obj := fun i h st b hb => by
    have e : b = it := by simpa using hb
    subst e
    obtain ⟨o, e, c, d⟩ := st
    exact ⟨o, e, fun v z => by rw [d] at z; cases z⟩
  keep := fun i h h' st k => by
    obtain ⟨o, e, r⟩ := st
    exact ⟨o, k it (by simp) o e, r⟩
  item := by
    intro X hP hw hK hc i pins s σ H E I hf st hg
    subst hP hw hK
    obtain ⟨f0, f1, f2, f3, f4, f5⟩ := hf it (by simp)
    refine (W X.A (I.ok.hd hc)).item i s _ _ hg st fun v h' tk hv st' kk => ?_
    obtain ⟨c, u, hx, rfl⟩ := hv
    have I1 : Inv X pins σ H { s with heap := h', toks := tk } := I.turned (fun b o hb e => kk b o (by simpa using hb) e) f0 f1 f3 f4 f5
    obtain ⟨o, e, cc, d⟩ := id st'
    exact ⟨_, rfl, go_of (s := { s with heap := h', toks := tk }) e cc d hty ⟨.str ⟨#[c]⟩, H, I1, ⟨u, rfl⟩, ⟨rfl, c, hx, rfl⟩, st', fun b hb => (hf b hb).1⟩⟩
  done := by
    intro X hP hw hK hc i pins s σ H E I hf st hg
    subst hP hw hK
    obtain ⟨f0, f1, f2, f3, f4, f5⟩ := hf it (by simp)
    have hg' : i = x.cps.size := hg
    subst hg'
    exact (W X.A (I.ok.hd hc)).done s _ _ st fun h' tk kk => ⟨rfl, I.turned (fun b o hb e => kk b o (by simpa using hb) e) f0 f1 f3 f4 f5⟩
  self := slf
section
variable {X : Cx} {tg : Expr}
def iStr (tl : TE) : TI := fun σ H R => tl σ H fun x H1 => ∃ z, x = .str z ∧ R (Its z) H1
theorem pi_str {l : Expr} {tl : TE} (hl : PE X l tl) : PI X tg l (iStr tl) := by
  intro pins s σ H R I h
  refine thn (hl pins s σ H _ I h) fun v s1 ⟨x, H1, I1, r1, q1⟩ => ?_
  obtain ⟨z, e, q⟩ := q1
  subst e
  obtain ⟨t, rfl⟩ := r1
  have fp : ∀ b ∈ [s1.heap.objs.size], FpOk X pins H1 b := fun b hb => by
    have e : b = s1.heap.objs.size := by simpa using hb
    subst e
    exact I1.fpOk (Nat.le_refl _) (I1.hok.fresh (Nat.le_refl _))
  cases ha : z.cps.all (· < 128)
  · exact wpAny_pyIter_wide ha ⟨s1.heap.objs.size, [s1.heap.objs.size], _, _, H1, rfl, I1.kept (t' := s1.toks) fun b o e => Heap.get?_push_of_some _ e, turn_str _ z t "str_iterator" (by decide) (fun A hA => Walks.strWide hA _ z t) (fun A i s Q E st h => wpAny_pyIter_striter_wide st h), ⟨_, Heap.get?_push_size _ rfl, rfl, rfl⟩, fp, q⟩
  · exact wpAny_pyIter_ascii ha ⟨s1.heap.objs.size, [s1.heap.objs.size], _, _, H1, rfl, I1.kept (t' := s1.toks) fun b o e => Heap.get?_push_of_some _ e, turn_str _ z t "str_ascii_iterator" (by decide) (fun A hA => Walks.strAscii hA _ z t) (fun A i s Q E st h => wpAny_pyIter_striter_ascii st h), ⟨_, Heap.get?_push_size _ rfl, rfl, rfl⟩, fp, q⟩
end
section
variable {tt : TT} {te : TE} {Q : VK} {σ0 rest : St} {H : Hp} {D : Addr}
theorem comp_str {x : Str} (hσ : σ0 = none :: rest) (Pv : Nat → List V → Hp → Prop) (h0 : Pv 0 [] (upd H D (.lst [])))
    (hl : ∀ i ys H, i ≤ x.cps.toList.length → Pv i ys H → H D = some (.lst ys))
    (hs : ∀ i c ys H, x.cps.toList[i]? = some c → Pv i ys H → tt (some (.str ⟨#[c]⟩) :: rest) H fun b H3 => if b = true then te (some (.str ⟨#[c]⟩) :: rest) H3 fun y H4 => H4 D = some (.lst ys) ∧ ys.length < sizeLine ∧ Pv (i + 1) (ys ++ [y]) (upd H4 D (.lst (ys ++ [y]))) else Pv (i + 1) ys H3)
    (hd : ∀ ys H, Pv x.cps.toList.length ys H → Q (.ref D) H) :
    ∃ W : Nat → Nat → List V → Hp → Prop, (∃ m, W 0 m [] (upd H D (.lst []))) ∧ ∀ i m ys H, W i m ys H → H D = some (.lst ys) ∧ (((Its x).stop i H ∧ Q (.ref D) H) ∨
      ((Its x).go i H ∧ ∃ N : List V → Hp → Prop, (∀ ys' H', N ys' H' → ∃ m', m' < m ∧ W (i + 1) m' ys' H') ∧ ∀ y H', (Its x).yld i H y H' → gName 0 y σ0 H' fun σ2 H2 => Kp σ0 σ2 ∧ tt σ2 H2 fun b H3 =>
        if b = true then te σ2 H3 fun y H4 => H4 D = some (.lst ys) ∧ ys.length < sizeLine ∧ N (ys ++ [y]) (upd H4 D (.lst (ys ++ [y]))) else N ys H3)) := by
  subst hσ
  have hsz : x.cps.toList.length = x.cps.size := Array.length_toList
  refine ⟨fun i m ys H => m = x.cps.size - i ∧ i ≤ x.cps.size ∧ Pv i ys H, ⟨x.cps.size, by simp, Nat.zero_le _, h0⟩, ?_⟩
  rintro i m ys H ⟨rfl, hi, p⟩
  refine ⟨hl i ys H (by omega) p, ?_⟩
  by_cases hlt : i < x.cps.size
  · refine .inr ⟨hlt, Pv (i + 1), fun ys' H' p' => ⟨x.cps.size - (i + 1), by omega, rfl, hlt, p'⟩, fun y H' yl => ?_⟩
    obtain ⟨e, c, hc, e2⟩ := yl
    subst e e2
    exact ⟨kp_name, hs i c ys _ (by rw [Array.getElem?_toList]; exact hc) p⟩
  · have e : i = x.cps.size := by omega
    subst e
    exact .inl ⟨rfl, hd ys H (by rw [hsz]; exact p)⟩
end

/-! ### split, join -/
section
variable {X : Cx}
theorem vals_strs : ∀ {l : List (Str × Tok)} {zs : List Str}, l.map (·.1) = zs → Vals (zs.map V.str) (strValues l)
  | [], _, e => by subst e; exact .nil
  | (x, t) :: r, _, e => by subst e; exact .cons ⟨t, rfl⟩ (vals_strs rfl)
theorem strs_of_vals : ∀ {zs : List Str} {us : List Value}, Vals (zs.map V.str) us → ∃ l : List (Str × Tok), us = strValues l ∧ l.map (·.1) = zs
  | [], _, r => by cases r; exact ⟨[], rfl, rfl⟩
  | z :: zs, _, r => by
    cases r with
    | cons r1 r2 =>
      obtain ⟨t, rfl⟩ := r1
      obtain ⟨l, rfl, e⟩ := strs_of_vals r2
      exact ⟨(z, t) :: l, rfl, by rw [List.map_cons, e]⟩
def rSplit : V → List V → Hp → VK → Prop := fun x vs H Q => ∃ z y, x = .str z ∧ vs = [.str y] ∧ (y.length == 0) = false ∧ z.length ≤ 1000000 ∧ ∀ l, H l = none → Q (.ref l) (upd H l (.lst ((Txt.split z y).map V.str)))
theorem parts_len (x y : Str) : (Builtin.Str.partsBetween x (Builtin.Str.occurrences x y 0 x.length (x.length + 1)) y.length).length ≤ x.length + 2 := by
  have h := StrLaws.occ_length_le_len x y 0 x.length (x.length + 1)
  unfold Builtin.Str.partsBetween
  simp only [List.length_map, List.length_zip, List.length_cons, List.length_append, List.length_nil]
  omega
theorem split_len {x y : Str} : (Txt.split x y).length ≤ x.length + 2 := by
  unfold Txt.split
  split
  · simp
  · split
    · simp
    · exact parts_len x y
theorem mt_split : MtR X "str.split" rSplit := by
  intro pins s σ H x vs v us Q I rx rv h
  obtain ⟨z, y, rfl, rfl, hy, hz, q⟩ := h
  obtain ⟨t, rfl⟩ := rx
  obtain ⟨u, rfl, u', rfl⟩ := rv.one
  have sl := @split_len z y
  have hz2 : z.length ≤ sizeLine := Nat.le_trans hz (by decide)
  have hz3 : z.length + 2 ≤ sizeLine := Nat.le_trans (Nat.add_le_add_right hz 2) (by decide)
  have e0 : ∀ (l : List (Str × Tok)) (t' : Nat), l.map (·.1) = Txt.split z y → EP X pins σ Q (.ref s.heap.objs.size) { s with heap := s.heap.push { cls := .type "list", data := .seq (strValues l).toArray }, toks := t' } := fun l t' e =>
    ⟨.ref s.heap.objs.size, _, I.lnew (vals_strs e) (by
      rw [List.length_map]
      exact Nat.le_trans sl hz3), rfl, q _ I.fresh⟩
  cases h1 : (decide (z.length < y.length) || decide (Builtin.Str.strKind z < Builtin.Str.strKind y))
  · cases hf : (Builtin.Str.occurrences z y 0 z.length (z.length + 1)).isEmpty
    · refine call_meets F.slot_str_split (typeIs_str _ _ _) F.entry_str_split (F.args_str_split_2 _ _) (meets_str_split_sep z y t u' h1 hy hf hz2 (Nat.le_trans (parts_len z y) hz3)) ?_
      show wants _ _ _ { s with toks := _, heap := s.heap.push { cls := .type "list", data := .seq (strsFrom s.toks (Builtin.Str.partsBetween z (Builtin.Str.occurrences z y 0 z.length (z.length + 1)) y.length)).toArray } }
      rw [strsFrom_eq]
      exact e0 (numbered s.toks _) _ ((numbered_texts _ _).trans ((if_neg (ne_true_of_eq_false h1)).trans (if_neg (ne_true_of_eq_false hf))).symm)
    · exact call_meets F.slot_str_split (typeIs_str _ _ _) F.entry_str_split (F.args_str_split_2 _ _) (meets_str_split_not_found z y t u' h1 hy hf)
        (e0 [(z, t)] s.toks ((if_neg (ne_true_of_eq_false h1)).trans (if_pos hf)).symm)
  · exact call_meets F.slot_str_split (typeIs_str _ _ _) F.entry_str_split (F.args_str_split_2 _ _) (meets_str_split_cannot_occur z y t u' h1) (e0 [(z, t)] s.toks (if_pos h1).symm)
def rJoin (K : PySem.W.Frag) : V → List V → Hp → VK → Prop := fun x vs H Q => ∃ z l zs, x = .str z ∧ vs = [.ref l] ∧ SqL K H l (zs.map V.str) ∧ JoinOk z zs = true ∧ Q (.str (Str.join z zs)) H
theorem mt_join : MtR X "str.join" (rJoin X.K) := by
  intro pins s σ H x vs v us Q I rx rv h
  obtain ⟨z, l, zs, rfl, rfl, hl, ok, q⟩ := h
  obtain ⟨t, rfl⟩ := rx
  obtain ⟨u, rfl, ru⟩ := rv.one
  cases ru
  obtain ⟨its, r, p, _⟩ := I.list hl
  obtain ⟨l', e, e2⟩ := strs_of_vals r
  subst e
  refine SC.join p.isList e2 ok fun t' k => ⟨.str (Str.join z zs), H, I.tok _, ⟨t', ?_⟩, q⟩
  unfold Txt.join
  rw [StrLaws.glued_eq_join]

/-! ### all, any of a list of bools -/
theorem bools_get {bs : List Bool} {us : List Value} (r : Vals (bs.map V.bl) us) {i : Nat} {v : Value} (e : us[i]? = some v) : ∃ b, bs[i]? = some b ∧ v = .bool b := by
  have hl := r.length
  rw [List.length_map] at hl
  have hi : i < us.length := (List.getElem?_eq_some_iff.mp e).1
  have hb : bs[i]? = some bs[i] := List.getElem?_eq_getElem (by omega)
  obtain ⟨u, h1, h2⟩ := r.get (i := i) (x := .bl bs[i]) (by rw [List.getElem?_map, hb] <;> rfl)
  rw [e] at h1
  cases h1
  exact ⟨_, hb, h2⟩
theorem range_all {bs : List Bool} {n : Nat} (hn : n = bs.length) : ((List.range n).all fun i => (bs[i]?).getD true) = bs.all id := by
  subst hn
  rw [Bool.eq_iff_iff]
  simp only [List.all_eq_true, List.mem_range, id]
  constructor
  · intro h x hx
    obtain ⟨i, hi, e⟩ := List.mem_iff_getElem.mp hx
    have := h i hi
    rw [List.getElem?_eq_getElem hi] at this
    rw [← e]
    exact this
  · intro h i hi
    rw [List.getElem?_eq_getElem hi]
    exact h _ (List.getElem_mem hi)
theorem range_any {bs : List Bool} {n : Nat} (hn : n = bs.length) : ((List.range n).any fun i => (bs[i]?).getD true) = bs.any id := by
  subst hn
  rw [Bool.eq_iff_iff]
  simp only [List.any_eq_true, List.mem_range, id]
  constructor
  · rintro ⟨i, hi, h⟩
    rw [List.getElem?_eq_getElem hi] at h
    exact ⟨_, List.getElem_mem hi, h⟩
  · rintro ⟨x, hx, h⟩
    obtain ⟨i, hi, e⟩ := List.mem_iff_getElem.mp hx
    refine ⟨i, hi, ?_⟩
    rw [List.getElem?_eq_getElem hi]
    show bs[i] = true
    rw [e]
    exact h
theorem kept_iter {h h' : Heap} {o : Obj} (hk : ∀ b x, b ∉ [h.objs.size] → (h.push o).get? b = some x → h'.get? b = some x) : ∀ b x, h.get? b = some x → h'.get? b = some x :=
  fun b x e => hk b x (fun hm => by rw [List.mem_singleton.mp hm] at e; exact Nat.lt_irrefl _ (Heap.lt_size e)) (Heap.get?_push_of_some _ e)
theorem call_all (hc : X.calm = true := by rfl) : CallR X (.builtin "all") (fun xs H Q => ∃ (p : Addr) (bs : List Bool), xs = [.ref p] ∧ SqL X.K H p (bs.map V.bl) ∧ Q (.bl (bs.all id)) H) := by
  intro pins s σ H xs us Q I r h
  obtain ⟨l, bs, rfl, hq, q⟩ := h
  obtain ⟨u, rfl, rx⟩ := vals1 r
  cases rx
  obtain ⟨its, r', pl, hz⟩ := I.list hq
  have hl := pl.isList
  have hlen := r'.length
  rw [List.length_map] at hlen
  have hlt : l < s.heap.objs.size := by obtain ⟨_, e, _⟩ := hl; exact Heap.lt_size e
  have hh := I.ok.hd hc
  refine call_all_walk (wpAny_pyIter_list hl ?_)
  refine ⟨s.heap.objs.size, [s.heap.objs.size, l], [s.heap.objs.size], its.toArray.size, _, _, fun i => (bs[i]?).getD true, rfl, Walks.list (A := X.A.in1) hh _ l (Nat.ne_of_lt hlt) its.toArray,
    ⟨⟨_, Heap.get?_push_size _ rfl, rfl, rfl⟩, hl.push _⟩, fun i v s' Q' E' hP hQ => ?_, fun h' tk hk => ?_⟩
  · obtain ⟨b, e, rfl⟩ := bools_get r' (i := i) (v := v) (by simpa using hP)
    simp only [e, Option.getD_some] at hQ
    exact wpAny_truthy_bool hQ
  · refine ⟨.bl (bs.all id), H, I.kept (kept_iter hk), ?_, q⟩
    rw [range_all (by simp [hlen])]
    rfl
theorem call_any (hc : X.calm = true := by rfl) : CallR X (.builtin "any") (fun xs H Q => ∃ (p : Addr) (bs : List Bool), xs = [.ref p] ∧ SqL X.K H p (bs.map V.bl) ∧ Q (.bl (bs.any id)) H) := by
  intro pins s σ H xs us Q I r h
  obtain ⟨l, bs, rfl, hq, q⟩ := h
  obtain ⟨u, rfl, rx⟩ := vals1 r
  cases rx
  obtain ⟨its, r', pl, hz⟩ := I.list hq
  have hl := pl.isList
  have hlen := r'.length
  rw [List.length_map] at hlen
  have hlt : l < s.heap.objs.size := by obtain ⟨_, e, _⟩ := hl; exact Heap.lt_size e
  have hh := I.ok.hd hc
  refine call_any_walk (wpAny_pyIter_list hl ?_)
  refine ⟨s.heap.objs.size, [s.heap.objs.size, l], [s.heap.objs.size], its.toArray.size, _, _, fun i => (bs[i]?).getD true, rfl, Walks.list (A := X.A.in1) hh _ l (Nat.ne_of_lt hlt) its.toArray,
    ⟨⟨_, Heap.get?_push_size _ rfl, rfl, rfl⟩, hl.push _⟩, fun i v s' Q' E' hP hQ => ?_, fun h' tk hk => ?_⟩
  · obtain ⟨b, e, rfl⟩ := bools_get r' (i := i) (v := v) (by simpa using hP)
    simp only [e, Option.getD_some] at hQ
    exact wpAny_truthy_bool hQ
  · refine ⟨.bl (bs.any id), H, I.kept (kept_iter hk), ?_, q⟩
    rw [range_any (by simp [hlen])]
    rfl

/-! ### list(d): its keys -/
/-! ### == and != of data -/
mutual
inductive Dt (K : PySem.W.Frag) (H : Hp) : V → PyData → Prop
  | non : Dt K H .non .none
  | bl (b : Bool) : Dt K H (.bl b) (.bool b)
  | int (i : Int) : Dt K H (.int i) (.int i)
  | str (x : Str) : Dt K H (.str x) (.str x)
  | lst {a : Addr} {xs : List V} {ds : List PyData} : SqL K H a xs → Dts K H xs ds → Dt K H (.ref a) (.list ds)
  | tup {a : Addr} {xs : List V} {ds : List PyData} : SqT K H a xs → Dts K H xs ds → Dt K H (.ref a) (.tuple ds)
inductive Dts (K : PySem.W.Frag) (H : Hp) : List V → List PyData → Prop
  | nil : Dts K H [] []
  | cons {x : V} {xs : List V} {d : PyData} {ds : List PyData} : Dt K H x d → Dts K H xs ds → Dts K H (x :: xs) (d :: ds)
end
mutual
theorem Dt.reads {pins : List (Addr × Obj)} {σ : St} {H : Hp} {s : Shared} (I : Inv X pins σ H s) : ∀ {x : V} {d : PyData} {u : Value}, Dt X.K H x d → RelV x u → ∃ as, Reads s.heap u d as
  | _, _, _, .non, r => by cases r; exact ⟨[], .none⟩
  | _, _, _, .bl b, r => by cases r; exact ⟨[], .bool b⟩
  | _, _, _, .int i, r => by obtain ⟨t, rfl⟩ := r; exact ⟨[], .int i t⟩
  | _, _, _, .str x, r => by obtain ⟨t, rfl⟩ := r; exact ⟨[], .str x t⟩
  | _, _, _, .lst hq hs, r => by
    cases r
    obtain ⟨its, rv, pl, _⟩ := I.list hq
    obtain ⟨o, e, c, n, d⟩ := pl.isList
    obtain ⟨as, ra⟩ := Dts.reads I hs rv
    exact ⟨_, .list e c d (by simpa using ra)⟩
  | _, _, _, .tup hq hs, r => by
    cases r
    obtain ⟨its, rv, pl, _⟩ := I.tuple hq
    obtain ⟨o, e, c, n, d⟩ := pl
    obtain ⟨as, ra⟩ := Dts.reads I hs rv
    exact ⟨_, .tuple e c d (by simpa using ra)⟩
theorem Dts.reads {pins : List (Addr × Obj)} {σ : St} {H : Hp} {s : Shared} (I : Inv X pins σ H s) : ∀ {xs : List V} {ds : List PyData} {us : List Value}, Dts X.K H xs ds → Vals xs us → ∃ as, ReadsAll s.heap us ds as
  | _, _, _, .nil, r => by cases r; exact ⟨[], .nil⟩
  | _, _, _, .cons h hs, r => by
    cases r with
    | cons r1 r2 =>
      obtain ⟨as, ra⟩ := Dt.reads I h r1
      obtain ⟨bs, rb⟩ := Dts.reads I hs r2
      exact ⟨_, .cons ra rb⟩
end
theorem op_eqD (hu : X.A.units + 64 < cLine) : OpR X (compareOp .Eq) (fun x y H Q => ∃ d e, Dt X.K H x d ∧ Dt X.K H y e ∧ SeqAt.shaped d = true ∧ SeqAt.shaped e = true ∧ Q (.bl (PyData.eqv d e)) H) := by
  intro pins s σ H x y v u Q I rx ry h
  obtain ⟨d, e, h1, h2, s1, s2, q⟩ := h
  obtain ⟨as, ra⟩ := h1.reads I rx
  obtain ⟨bs, rb⟩ := h2.reads I ry
  exact eq_dataH ra rb s1 s2 hu ⟨.bl _, H, I, rfl, q⟩
theorem op_neD (hu : X.A.units + 64 < cLine) : OpR X (compareOp .NotEq) (fun x y H Q => ∃ d e, Dt X.K H x d ∧ Dt X.K H y e ∧ SeqAt.shaped d = true ∧ SeqAt.shaped e = true ∧ Q (.bl (!PyData.eqv d e)) H) := by
  intro pins s σ H x y v u Q I rx ry h
  obtain ⟨d, e, h1, h2, s1, s2, q⟩ := h
  obtain ⟨as, ra⟩ := h1.reads I rx
  obtain ⟨bs, rb⟩ := h2.reads I ry
  exact ne_dataH ra rb s1 s2 hu ⟨.bl _, H, I, rfl, q⟩

/-! ### isinstance -/
theorem call_isinst : CallR X (.builtin "isinstance") (fun xs H Q => ∃ x n t b, xs = [x, .ty n] ∧ TyOf X.K H x t ∧ PySem.W.kitOne X.K t (.type n) = some b ∧ Q (.bl b) H) := by
  intro pins s σ H xs us Q I r h
  obtain ⟨x, n, t, b, rfl, ty, e, q⟩ := h
  obtain ⟨u, w', rfl, r1, r2⟩ := vals2 r
  cases r2
  exact isinst_ok I r1 ty e fun tk => ⟨.bl b, H, I.tok _, rfl, q⟩
end
end L2
namespace L2
open PySem PySem.Spec PyProof.Rows

/-! ## a def by its name and promise; comprehensions by a function -/
structure Cal (P : Program) (w : World) (K : PySem.W.Frag) (mg : Str → Option Value) (base : Heap) (k : Nat) (x : Str) (ps : List Str) (sp : Sp) : Prop where
  ex : ∃ f fd, FnOk P w K mg base CX0 k f fd ps sp ∧ Binds K fd ps [] ∧ PySem.W.keepIn K (.ref f) = true ∧ mg x = some (.ref f)
theorem cal_mk {P : Program} {w : World} {K : PySem.W.Frag} {mg : Str → Option Value} {base : Heap} {k : Nat} {x : Str} {ps : List Str} {sp : Sp} {st : Stmt} {f : Addr} {fd : FuncData} (F : Fun K x x st f fd)
    (hm : mg x = some (.ref f)) (hb : Binds K fd ps []) (G : FnOk P w K mg base CX0 k f fd ps sp) : Cal P w K mg base k x ps sp := ⟨f, fd, G, hb, F.kp, hm⟩
theorem pe_cal {X : Cx} {k j : Nat} {x : Str} {ps : List Str} {sp : Sp} {p pos : Pos} {e : Expr} {es : List Expr} {t : TA} (c : Cal X.prog X.w X.K X.mg X.base k x ps sp) (hr : Room j X.A) (ha : PA X (e :: es) t) (hle : k ≤ j := by decide) (hg : Gl X x := by rfl)
    (hdb : (x == ("__debug__" : Str)) = false := by decide) (he : starEach (e :: es) X.env = (false, eval e X.env) :: starEach es X.env := by rfl) (hpl : (backTo pos (starEach es X.env)).any (·.1) = false := by rfl) :
    PE X (.Call (.Name x p) (e :: es) [] pos) (tCall sp [] E0 t) := by
  obtain ⟨f, fd, G, hb, kp, hm⟩ := c.ex
  exact pe_call G (hr.mono hle) hg hm kp hb .nil pass0 ha hdb he hpl

theorem same_new {H : Hp} {p : Addr} (h : H p = none) (o : HO) : Same H (upd H p o) := fun b u q => by rw [upd_ne (ne_of_none q h)]; exact q
theorem Same.new {H H' : Hp} {p : Addr} (s : Same H H') (h : H' p = none) (o : HO) : Same H (upd H' p o) := s.trans (same_new h o)
theorem Same.over {H H' : Hp} {p : Addr} (s : Same H H') (h : H p = none) (o : HO) : Same H (upd H' p o) := fun b u q => by rw [upd_ne (ne_of_none q h)]; exact s b u q
theorem small {n : Nat} (h : n ≤ 1000) : n ≤ sizeLine := Nat.le_of_lt (small1000 h)
theorem le_line {n : Nat} (h : n ≤ 1000000) : n < sizeLine := Nat.lt_of_le_of_lt h (by decide)

/-- a value that is reckoned without a trace but new objects -/
abbrev PureAt (t : TE) (σ : St) (H : Hp) (v : V) : Prop := ∀ H', Same H H' → ∀ Q : VK, (∀ H'', Same H' H'' → Q v H'') → t σ H' Q
abbrev PureT (t : TT) (σ : St) (H : Hp) (b : Bool) : Prop := ∀ H', Same H H' → ∀ Q : Bool → Hp → Prop, (∀ H'', Same H' H'' → Q b H'') → t σ H' Q
section
variable {tt : TT} {te : TE} {Q : VK} {σ0 rest : St} {H : Hp} {D : Addr}
end

section
variable {K : PySem.W.Frag} {wi : TI} {cap : List (Option Nat)} {tt : TT} {te : TE} {σ rest : St} {H : Hp} {Q : VK} {xs : List V}
theorem PureAt.same {t : TE} {H1 : Hp} {v : V} (h : PureAt t σ H v) (s : Same H H1) : PureAt t σ H1 v := fun H' s' Q q => h H' (s.trans s') Q q
theorem PureT.same {t : TT} {H1 : Hp} {b : Bool} (h : PureT t σ H b) (s : Same H H1) : PureT t σ H1 b := fun H' s' Q q => h H' (s.trans s') Q q
end

/-- a row: a list of texts -/
def Txts (K : PySem.W.Frag) (H : Hp) (v : V) (ws : List Str) : Prop := ∃ l, v = .ref l ∧ SqL K H l (ws.map V.str)
theorem Txts.mono {K : PySem.W.Frag} {H H' : Hp} {v : V} {ws : List Str} (h : Txts K H v ws) (s : Same H H') : Txts K H' v ws := let ⟨l, e, q⟩ := h; ⟨l, e, s.seq q⟩
/-- a list of rows -/
def Rws (K : PySem.W.Frag) (H : Hp) (v : V) (rs : List (List Str)) : Prop := ∃ l ys, v = .ref l ∧ SqL K H l ys ∧ Paired (fun ws y => Txts K H y ws) rs ys
theorem paired_mono {α β : Type} {F G : α → β → Prop} (f : ∀ a b, F a b → G a b) : ∀ {l₁ : List α} {l₂ : List β}, Paired F l₁ l₂ → Paired G l₁ l₂
  | _, _, .nil => .nil
  | _, _, .cons h t => .cons (f _ _ h) (paired_mono f t)
theorem Rws.mono {K : PySem.W.Frag} {H H' : Hp} {v : V} {rs : List (List Str)} (h : Rws K H v rs) (s : Same H H') : Rws K H' v rs := let ⟨l, ys, e, q, p⟩ := h; ⟨l, ys, e, s.seq q, paired_mono (fun _ _ t => t.mono s) p⟩
theorem Paired.get {α β : Type} {F : α → β → Prop} : ∀ {l₁ : List α} {l₂ : List β} {i : Nat} {y : β}, Paired F l₁ l₂ → l₂[i]? = some y → ∃ x, l₁[i]? = some x ∧ F x y
  | _, _, _, _, .nil, e => by simp at e
  | _, _, 0, _, .cons r _, e => by simp at e; subst e; exact ⟨_, rfl, r⟩
  | _, _, i + 1, y, .cons _ t, e => by
    obtain ⟨x, h1, h2⟩ := Paired.get (i := i) (y := y) t (by simpa using e)
    exact ⟨x, by simpa using h1, h2⟩
/-! ## rules by an explicit fragment (within a block the rule must not name the block) -/
section
variable (K : PySem.W.Frag) {X : Cx}
end
end L2

/-! ## slices of texts over the hand layer -/
namespace L2
open PySem PySem.Spec PyProof.Rows

/-- x[lo:hi] of a text -/
def cutS (x : Str) (lo hi : Option Int) : Str := ⟨((x.cps.toList.drop (HT.sIx x.length 0 lo)).take (HT.sIx x.length x.length hi - HT.sIx x.length 0 lo)).toArray⟩
theorem idx_cut (lo hi : Option Int) (n : Nat) : Builtin.Str.strSliceIndices lo hi 1 n = (List.range (HT.sIx n n hi - HT.sIx n 0 lo)).map (HT.sIx n 0 lo + ·) := by
  rw [← sliceRange_one]
  unfold Builtin.Str.strSliceIndices
  have cl : ∀ (o : Option Int) (d : Nat), d ≤ n → (match o with | none => (d : Int) | some i => let i := if i < 0 then i + (n : Int) else i; if (1 : Int) > 0 then max 0 (min i (n : Int)) else max (-1) (min i ((n : Int) - 1))) = ((HT.sIx n d o : Nat) : Int) := fun o d hd => by
    cases o with
    | none => rfl
    | some i =>
      simp only [HT.sIx, show (1 : Int) > 0 by decide, if_true]
      by_cases h : i < 0
      · simp only [h, if_true] <;> omega
      · simp only [h, if_false] <;> omega
  have c1 := cl lo 0 (Nat.zero_le _)
  have c2 := cl hi n (Nat.le_refl _)
  simp only [show (1 : Int) > 0 by decide, if_true] at c1 c2 ⊢
  exact congr (congrArg sliceRange c1) c2 ▸ rfl
theorem made_cut (x : Str) (t : Tok) (l u : Option (Int × Tok)) {Q : Value → Shared → Prop} {s : Shared} (hl : x.length ≤ sizeLine)
    (h : ∀ t' s', (s' = s ∨ s' = { s with toks := s.toks + 1 }) → Q (.str (cutS x (l.map (·.1)) (u.map (·.1))) t') s') : (sliceMade x t l u none).post Q s := by
  unfold sliceMade slicePicked
  have e : Builtin.Str.strSliceIndices (l.map (·.1)) (u.map (·.1)) ((((none : Option (Int × Tok)).map (·.1)).getD 1)) x.length = _ := idx_cut (l.map (·.1)) (u.map (·.1)) x.length
  rw [e]
  have hp := pick_run x.cps (HT.sIx x.length 0 (l.map (·.1))) (HT.sIx x.length x.length (u.map (·.1)) - HT.sIx x.length 0 (l.map (·.1)))
  have hs : HT.sIx x.length x.length (u.map (·.1)) ≤ x.length := HT.sIx_le _ _ (Nat.le_refl _) _
  have hc : x.length = x.cps.toList.length := by simp [Str.length]
  by_cases hw : ((((none : Option (Int × Tok)).map (·.1)).getD 1 == 1 && ((List.range (HT.sIx x.length x.length (u.map (·.1)) - HT.sIx x.length 0 (l.map (·.1)))).map (HT.sIx x.length 0 (l.map (·.1)) + ·)).length == x.length) = true)
  · rw [if_pos hw]
    show Q (.str x t) s
    have hn : HT.sIx x.length x.length (u.map (·.1)) - HT.sIx x.length 0 (l.map (·.1)) = x.length := by
      have := (Bool.and_eq_true _ _ ▸ hw).2
      simpa using this
    have e2 : cutS x (l.map (·.1)) (u.map (·.1)) = x := by
      unfold cutS
      rw [hn]
      by_cases h0 : x.length = 0
      · have : x.cps.toList = [] := List.eq_nil_of_length_eq_zero (by omega)
        cases x with | mk c => simp at this; subst this; simp
      · have h1 : HT.sIx x.length 0 (l.map (·.1)) = 0 := by omega
        rw [h1, List.drop_zero, hc, List.take_length]
    have := h t s (.inl rfl)
    rw [e2] at this
    exact this
  · rw [if_neg hw, hp]
    refine ⟨?_, h _ _ (.inr rfl)⟩
    show ((x.cps.toList.drop _).take _).toArray.size ≤ sizeLine
    rw [List.size_toArray, List.length_take, List.length_drop, ← hc]
    omega
section
variable {X : Cx}
def rSlS : V → Option Int → Option Int → Hp → VK → Prop := fun x lo hi H Q => ∃ z, x = .str z ∧ z.length ≤ sizeLine ∧ Q (.str (cutS z lo hi)) H
theorem sl_str : SlR X rSlS := by
  intro pins s σ H x v vl vu lo hi sl Q I rx hs pl pu h
  obtain ⟨z, rfl, hz, q⟩ := h
  obtain ⟨t, rfl⟩ := rx
  refine ⟨"str", _, slot_str_getitem.lookup, typeIs_str s z t, ?_⟩
  have part : ∀ {v : Value} {o : Option Int}, IsPart v o → ∃ p : Option (Int × Tok), v = partValue p ∧ p.map (·.1) = o := fun p => by
    cases p with
    | none => exact ⟨none, rfl, rfl⟩
    | int i t => exact ⟨some (i, t), rfl, rfl⟩
  obtain ⟨l, rfl, rfl⟩ := part pl
  obtain ⟨u, rfl, rfl⟩ := part pu
  refine wpAny_getItem_str_slice (l := l) (u := u) (st := none) hs rfl (made_cut z t l u hz fun t' s' hs' => ?_)
  rcases hs' with rfl | rfl
  · exact ⟨.str (cutS z (l.map (·.1)) (u.map (·.1))), H, I, ⟨t', rfl⟩, q⟩
  · exact ⟨.str (cutS z (l.map (·.1)) (u.map (·.1))), H, I.tok _, ⟨t', rfl⟩, q⟩
/-- of a list or a text -/
def rSlA (K : PySem.W.Frag) : V → Option Int → Option Int → Hp → VK → Prop := fun x lo hi H Q => rSlL K x lo hi H Q ∨ rSlS x lo hi H Q
theorem sl_any : SlR X (rSlA X.K) := sl_list.or sl_str
end
end L2

/-! ## zip of two lists over the hand layer -/
namespace L2
open PySem PySem.Spec PyProof.Rows

section
variable {X : Cx} {pins : List (Addr × Obj)} {σ : St} {H H' : Hp} {s : Shared} {h' : Heap}
end
section
variable {X : Cx}
end
end L2

/-! ## list(range(n)) over the hand layer -/
namespace L2
open PySem PySem.Spec PyProof.Rows
section
variable {X : Cx}
theorem vals_rng : ∀ (n k : Nat) (l : List Value), l.length = n → (∀ (j : Nat) v, l[j]? = some v → ∃ t, v = .int ((k + j : Nat) : Int) t) → Vals ((List.range' k n).map fun i => V.int (i : Nat)) l
  | 0, k, l, h, _ => by
    have := List.eq_nil_of_length_eq_zero h
    subst this
    exact .nil
  | n + 1, k, l, h, hv => by
    cases l with
    | nil => cases h
    | cons v l =>
      rw [List.range'_succ, List.map_cons]
      refine .cons ?_ (vals_rng n (k + 1) l (by simpa using h) fun j u hu => ?_)
      · obtain ⟨t, e⟩ := hv 0 v rfl
        exact ⟨t, e⟩
      · obtain ⟨t, e⟩ := hv (j + 1) u (by simpa using hu)
        exact ⟨t, by rw [e]; congr 1; omega⟩
end
end L2

/-! ## reversed(list), list(reversed(list)), range(n, -1, -1) over the hand layer -/
namespace L2
open PySem PySem.Spec PyProof.Rows
section
variable {prog : Program} {w : World} {A : Around} {E : Value → Shared → Prop} {s : Shared}
end
/-! ### walking backwards -/
section
variable {X : Cx} {tg : Expr}
/-! ### list(reversed(x)) -/
end
end L2

/-! ## range(n, -1, -1), x[::-1], x.index(y) over the hand layer -/
namespace L2
open PySem PySem.Spec PyProof.Rows
section
variable {X : Cx} {tg : Expr}
/-! ### x[::-1] -/
/-! ### x.index(y), by data -/
end
end L2

/-! ## zip of two things, each a list or a tuple, over the hand layer -/
namespace L2
open PySem PySem.Spec PyProof.Rows
section
variable {prog : Program} {w : World} {A : Around} {E : Value → Shared → Prop} {s : Shared}
theorem nextT {it t : Addr} {i : Nat} {items : Array Value} {x : Value} {Q : Value → Shared → Prop} (hit : s.heap.IsTupleIter it t i) (ht : s.heap.IsTuple t items) (hx : items[i]? = some x)
    (hQ : ∀ h', h'.IsTupleIter it t (i + 1) → Heap.SameBut it s.heap h' → Q x { s with heap := h' }) : wpAny (model prog w) A (Builtin.SmallTypes.nextOf (.ref it)) Q E s := by
  obtain ⟨o, eo, co, fo⟩ := id hit
  obtain ⟨p, ep, _, np, dp⟩ := ht
  unfold Builtin.SmallTypes.nextOf
  refine wpAny_bind (wpAny_callSpecial?_slot (name := Str.ofString "__next__") hit.typeIs F.slot_tuple_iterator_next (wpAny_call_entry F.slot_tuple_iterator_next hit.typeIs F.entry_tuple_iterator_next ?_ (F.args_tuple_iterator_next_1 _)))
  show wpAny _ _ (field (.ref it) 0 >>= _) _ _ _
  refine wpAny_bind (wpAny_field eo fo (x := .ref t) rfl ?_)
  show wpAny _ _ (if (Value.ref t == Value.none) = true then _ else _) _ _ _
  rw [if_neg (fun z : (Value.ref t == Value.none) = true => Bool.false_ne_true z)]
  show wpAny _ _ (field (.ref it) 1 >>= _) _ _ _
  refine wpAny_bind (wpAny_field eo fo (x := .int i 0) rfl ?_)
  show wpAny _ _ (seqItems? (.ref t) >>= _) _ _ _
  refine wpAny_bind (wpAny_seqItems ep dp ?_); simp only [Int.toNat_natCast, hx]
  refine wpAny_bind (wpAny_setField eo fo (by simp) (wpAny_pure ⟨x, rfl, wpAny_pure (hQ _ ⟨_, Heap.get?_update_self _ eo (Obj.isFreed_of_fields (Obj.data_mapFields fo _)), (Obj.cls_mapFields ..).trans co, ?_⟩ (Heap.SameBut.update ..))⟩))
  rw [Obj.data_mapFields fo]
  simp [rawInt]
theorem nextT_end {it t : Addr} {i : Nat} {items : Array Value} {Q : Value → Shared → Prop} (hh : A.handled = none) (hit : s.heap.IsTupleIter it t i) (ht : s.heap.IsTuple t items) (hx : items[i]? = none)
    (hE : ∀ h' e, Heap.ExtBut it s.heap h' → (∃ o, h'.get? e = some o ∧ o.cls = .type "StopIteration") → E (.ref e) { s with heap := h' }) : wpAny (model prog w) A (Builtin.SmallTypes.nextOf (.ref it)) Q E s := by
  obtain ⟨o, eo, co, fo⟩ := id hit
  obtain ⟨p, ep, _, np, dp⟩ := ht
  unfold Builtin.SmallTypes.nextOf
  refine wpAny_bind (wpAny_callSpecial?_slot (name := Str.ofString "__next__") hit.typeIs F.slot_tuple_iterator_next (wpAny_call_entry F.slot_tuple_iterator_next hit.typeIs F.entry_tuple_iterator_next ?_ (F.args_tuple_iterator_next_1 _)))
  show wpAny _ _ (field (.ref it) 0 >>= _) _ _ _
  refine wpAny_bind (wpAny_field eo fo (x := .ref t) rfl ?_)
  show wpAny _ _ (if (Value.ref t == Value.none) = true then _ else _) _ _ _
  rw [if_neg (fun z : (Value.ref t == Value.none) = true => Bool.false_ne_true z)]
  show wpAny _ _ (field (.ref it) 1 >>= _) _ _ _
  refine wpAny_bind (wpAny_field eo fo (x := .int i 0) rfl ?_)
  show wpAny _ _ (seqItems? (.ref t) >>= _) _ _ _
  refine wpAny_bind (wpAny_seqItems ep dp ?_); simp only [Int.toNat_natCast, hx]
  refine wpAny_bind (wpAny_rule (wpAny_bind (wpAny_setField eo fo (by simp) ?_)))
  show wpAny _ _ (newExc (.type "StopIteration") [] >>= _) _ _ _
  refine wpAny_bind ?_; simp only [newExc, newTuple]
  refine wpAny_bind (wpAny_newObj_type (wpAny_bind (m := firstArgMember _ _) (wpAny_of_eq (a := Value.none) (by first | rfl | (simp only [firstArgMember]; rfl)) (wpAny_newObj_type ?_ (by size_fits)))) (by size_fits))
  simp only [raiseNew]
  refine wpAny_bind (wpAny_handled ?_); rw [hh]
  refine wpAny_bind (wpAny_pure (wpAny_throw ?_))
  exact hE _ _ (((Heap.SameBut.update ..).extBut.push _).push _) ⟨_, Heap.get?_push_size _ rfl, rfl⟩
theorem drawsT (hh : A.handled = none) (it t : Addr) (hne : t ≠ it) (items : Array Value) : Draws prog w A it [it, t] items.size (fun i v => items[i]? = some v) (fun i h => h.IsTupleIter it t i ∧ h.IsTuple t items) where
  live := fun i h st => let ⟨o, e, _⟩ := st.1; ⟨o, e⟩
  frame := fun i h h' st k => ⟨st.1.at fun o e => k it (by simp) o e, let ⟨o, e, c⟩ := st.2; ⟨o, k t (by simp) o e, c⟩⟩
  item := fun i s Q E hi st hQ => nextT st.1 st.2 (Array.getElem?_eq_getElem hi) fun h' a b => hQ _ h' s.toks (Array.getElem?_eq_getElem hi) ⟨a, let ⟨o, e, c⟩ := st.2; ⟨o, (b.2 t hne).trans e, c⟩⟩ b
  done := fun s Q E st hE => nextT_end hh st.1 st.2 (Array.getElem?_eq_none (Nat.le_refl _)) hE
variable {z TI TO i1 i2 : Addr} {fp1 fp2 : List Addr} {n1 n2 : Nat} {P1 P2 : Nat → Value → Prop} {St1 St2 : Nat → Heap → Prop}
end
/-- a list or a tuple -/
inductive SK where | L | T
def SK.ty : SK → String
  | .L => "list_iterator"
  | .T => "tuple_iterator"
def SK.is (k : SK) (h : Heap) (a : Addr) (items : Array Value) : Prop := match k with
  | .L => h.IsList a items
  | .T => h.IsTuple a items
def SK.at (k : SK) (h : Heap) (it a : Addr) (i : Nat) : Prop := match k with
  | .L => h.IsListIter it a i
  | .T => h.IsTupleIter it a i
theorem SK.at_of {k : SK} {h : Heap} {it a : Addr} (e : h.get? it = some { cls := .type k.ty, data := .fields #[.ref a, .int 0 0] }) : k.at h it a 0 := by
  cases k with
  | L => exact ⟨_, e, rfl, rfl⟩
  | T => exact ⟨_, e, rfl, rfl⟩
theorem SK.at_obj {k : SK} {h : Heap} {it a : Addr} {i : Nat} (st : k.at h it a i) : ∃ o, h.get? it = some o ∧ ∀ v, o.data ≠ .cell v := by
  cases k with
  | L => obtain ⟨o, e, c, d⟩ := st; exact ⟨o, e, fun v y => by rw [d] at y; cases y⟩
  | T => obtain ⟨o, e, c, d⟩ := st; exact ⟨o, e, fun v y => by rw [d] at y; cases y⟩
theorem SK.at_keep {k : SK} {h h' : Heap} {it a : Addr} {i : Nat} (st : k.at h it a i) (q : ∀ o, h.get? it = some o → h'.get? it = some o) : k.at h' it a i := by
  cases k with
  | L => exact Heap.IsListIter.at st q
  | T => exact Heap.IsTupleIter.at st q
theorem SK.is_lt {k : SK} {h : Heap} {a : Addr} {items : Array Value} (p : k.is h a items) : a < h.objs.size := by
  cases k with
  | L => obtain ⟨o, e, _⟩ := p; exact Heap.lt_size e
  | T => obtain ⟨o, e, _⟩ := p; exact Heap.lt_size e
theorem SK.draws {prog : Program} {w : World} {A : Around} (k : SK) (hh : A.handled = none) (it a : Addr) (hne : a ≠ it) (items : Array Value) : Draws prog w A it [it, a] items.size (fun i v => items[i]? = some v) (fun i h => k.at h it a i ∧ k.is h a items) := by
  cases k with
  | L => exact Draws.list hh it a hne items
  | T => exact drawsT hh it a hne items
end L2

/-! ## zip of two, each a list or a tuple: the loop's source -/
namespace L2
open PySem PySem.Spec PyProof.Rows
section
variable {prog : Program} {w : World} {A : Around} {E : Value → Shared → Prop} {s : Shared}
end
/-- its items, as they stand -/
def SK.sq (k : SK) (K : PySem.W.Frag) (H : Hp) (a : Addr) (xs : List V) : Prop := match k with
  | .L => SqL K H a xs
  | .T => SqT K H a xs
section
variable {X : Cx} {pins : List (Addr × Obj)} {σ : St} {H : Hp} {s : Shared}
theorem Inv.sk (I : Inv X pins σ H s) {k : SK} {a : Addr} {xs : List V} (h : k.sq X.K H a xs) : ∃ its : List Value, Vals xs its ∧ k.is s.heap a its.toArray := by
  cases k with
  | L => obtain ⟨its, r, p, _⟩ := I.list h; exact ⟨its, r, p.isList⟩
  | T => obtain ⟨its, r, p, _⟩ := I.tuple h; exact ⟨its, r, p⟩
theorem Inv.sk_inj (I : Inv X pins σ H s) {k : SK} {a : Addr} {xs ys : List V} (h : k.sq X.K H a xs) (h' : k.sq X.K H a ys) : xs = ys := by
  cases k with
  | L => exact I.list_inj h h'
  | T => exact I.tuple_inj h h'
end
section
variable {X : Cx}
end
end L2

/-! ## set(a tuple of texts), and how many it has -/
namespace L2
open PySem PySem.Spec PyProof.Rows
/-- texts met so far, each once -/
def metS (val : Nat → Str) : Nat → List Str
  | 0 => []
  | i + 1 => if val i ∈ metS val i then metS val i else metS val i ++ [val i]
section
variable {prog : Program} {w : World} {A : Around} {R : Result → Shared → Prop} {J : Addr} {fp wr : List Addr} {G : Array GenState → Array GenState → Prop} {n : Nat} {P : Nat → Value → Prop} {St : Nat → Shared → Prop}
end
section
variable {prog : Program} {w : World} {A : Around} {E : Value → Shared → Prop} {s : Shared}
end
end L2

/-! ## len(set(a tuple of texts)) -/
namespace L2
open PySem PySem.Spec PyProof.Rows
/-- how many unlike texts -/
def unlike (xs : List Str) : Nat := (metS (fun i => xs.getD i ⟨#[]⟩) xs.length).length
section
variable {X : Cx}
end
end L2

/-! ## reversed(tuple) over the hand layer -/
namespace L2
open PySem PySem.Spec PyProof.Rows
def IsRvd (h : Heap) (a t : Addr) (i : Int) : Prop := ∃ o, h.get? a = some o ∧ o.cls = .type "reversed" ∧ o.data = .fields #[.ref t, rawInt i]
theorem IsRvd.at {h h' : Heap} {a l : Addr} {i : Int} (x : IsRvd h a l i) (e : ∀ o, h.get? a = some o → h'.get? a = some o) : IsRvd h' a l i := let ⟨o, ho, r⟩ := x; ⟨o, e _ ho, r⟩
section
variable {prog : Program} {w : World} {A : Around} {E : Value → Shared → Prop} {s : Shared}
end
/-! ### walking a tuple backwards -/
section
variable {X : Cx} {tg : Expr}
end
end L2

/-! ## zip of a text and a list or a tuple -/
namespace L2
open PySem PySem.Spec PyProof.Rows
section
variable {prog : Program} {w : World} {A : Around} {E : Value → Shared → Prop} {s : Shared}
end
section
variable {X : Cx}
end
end L2
/-! ## a < b, both lists of ints -/
namespace HT
open PySem PyProof.Rows
section
open PySem.SeqAt
open PySem.AutoSeq1 (wpAny_loadPart')
open PySem.MeetsSeq PySem.MeetsSeq2 PySem.MeetsSeq3
theorem IntsAre.drop_cons {vs : List Value} {x : Int} {ns : List Int} (h : IntsAre vs (x :: ns)) : ∃ t ws, vs = .int x t :: ws ∧ IntsAre ws ns := by
  cases h with
  | cons a t h' => exact ⟨t, _, rfl, h'⟩
theorem IntsAre.drop_nil {vs : List Value} (h : IntsAre vs []) : vs = [] := by
  cases h
  rfl
theorem at_drop {its : Array Value} {i : Nat} {v : Value} {ws : List Value} (h : its.toList.drop i = v :: ws) : its[((i : Nat) : Int).toNat]? = some v ∧ its.toList.drop (i + 1) = ws ∧ i < its.size := by
  have h1 : its.toList[i]? = some v := by
    have := congrArg (fun l => l[0]?) h
    simpa using this
  have h2 : i < its.toList.length := by
    rcases Nat.lt_or_ge i its.toList.length with z | z
    · exact z
    · rw [List.drop_of_length_le z] at h; cases h
  refine ⟨by simpa using h1, ?_, by simpa using h2⟩
  rw [← List.tail_drop, h]
  rfl
theorem at_end {its : Array Value} {i : Nat} (h : its.toList.drop i = []) : its[((i : Nat) : Int).toNat]? = none ∧ its.size ≤ i := by
  have h1 : its.size ≤ i := by
    have := congrArg List.length h
    simp at this
    omega
  exact ⟨by simp; omega, h1⟩
theorem ltLoop (p q : Addr) (its jts : Array Value) (n n2 : Nat) (dd dd2 : Option Addr) (sl sl2 : Array (Option Value)) : ∀ (ns ms : List Int) (i : Nat), i ≤ its.size → i ≤ jts.size → IntsAre (its.toList.drop i) ns → IntsAre (jts.toList.drop i) ms →
    Meets (Builtin.«list.__eq__.loop» ⟨[.ref p, .ref q, rawInt i, rawInt 0], []⟩)
      (fun A R s => s.heap.get? p = some { cls := .type "list", dict := dd, data := .seq its n, slots := sl } ∧ s.heap.get? q = some { cls := .type "list", dict := dd2, data := .seq jts n2, slots := sl2 } ∧ R (.ok (.ret (.bool (lexLt ns ms)))) s) := by
  intro ns
  induction ns with
  | nil =>
    intro ms i i1 i2 hi hj prog w A R s h
    obtain ⟨hp, g, d, tk, os⟩ := s; obtain ⟨hl, hb, h⟩ := h
    have e1 := at_end (IntsAre.drop_nil hi)
    wp_walk using wpAny_loadPart' hl, wpAny_loadPart' hb
    rw [e1.1]
    cases ms with
    | nil =>
      have e2 := at_end (IntsAre.drop_nil hj)
      rw [e2.1]
      wp_walk using wpAny_loadPart' hl, wpAny_loadPart' hb
      show R (.ok (.ret (.bool (decide (its.size < jts.size))))) _
      rw [decide_eq_false (by omega)]
      exact h
    | cons y ms =>
      obtain ⟨t, ws, ew, _⟩ := IntsAre.drop_cons hj
      have e2 := at_drop ew
      rw [e2.1]
      wp_walk using wpAny_loadPart' hl, wpAny_loadPart' hb
      show R (.ok (.ret (.bool (decide (its.size < jts.size))))) _
      rw [decide_eq_true (by omega)]
      exact h
  | cons x ns ih =>
    intro ms i i1 i2 hi hj prog w A R s h
    obtain ⟨hp, g, d, tk, os⟩ := s; obtain ⟨hl, hb, h⟩ := h
    obtain ⟨t, vs, ev, hi'⟩ := IntsAre.drop_cons hi
    have e1 := at_drop ev
    wp_walk using wpAny_loadPart' hl, wpAny_loadPart' hb
    rw [e1.1]
    cases ms with
    | nil =>
      have e2 := at_end (IntsAre.drop_nil hj)
      rw [e2.1]
      wp_walk using wpAny_loadPart' hl, wpAny_loadPart' hb
      show R (.ok (.ret (.bool (decide (its.size < jts.size))))) _
      rw [decide_eq_false (by omega)]
      exact h
    | cons y ms =>
      obtain ⟨u, ws, ew, hj'⟩ := IntsAre.drop_cons hj
      have e2 := at_drop ew
      rw [e2.1]
      rw [lexLt_cons] at h
      obtain ⟨e, he, hiff⟩ := eqAt_int A.in1 ⟨hp, g, d, tk, os⟩ x t y u
      refine wpAny_bind (he prog w _ _ ?_)
      cases e with
      | true =>
        rw [if_pos (hiff.mp rfl)] at h
        have hc : ((i : Int) + 1) = ((i + 1 : Nat) : Int) := by omega
        wp_walk
        rw [hc]
        refine ⟨plainId_quiet plain_eq_loop _, codeAny_builtin entry_eq_loop ?_⟩
        rw [Around.under_plainId plain_eq_loop _]
        exact ih ms (i + 1) (by omega) (by omega) (by rw [e1.2.1]; exact hi') (by rw [e2.2.1]; exact hj') prog w A R _ ⟨hl, hb, h⟩
      | false =>
        rw [if_neg (fun z => absurd (hiff.mpr z) Bool.false_ne_true)] at h
        have hri := rcLt_int A.in1 ⟨hp, g, d, tk, os⟩ x t y u prog w
        wp_walk using wpAny_loadPart' hl, wpAny_loadPart' hb
        rw [e1.1, e2.1]
        wp_walk using hri
        exact h
theorem ltLists (p q : Addr) (its jts : Array Value) (n n2 : Nat) (dd dd2 : Option Addr) (sl sl2 : Array (Option Value)) (ns ms : List Int) (hi : IntsAre its.toList ns) (hj : IntsAre jts.toList ms) :
    Meets (Builtin.«list.__lt__» ⟨[.ref p, .ref q], []⟩)
      (fun A R s => s.heap.get? p = some { cls := .type "list", dict := dd, data := .seq its n, slots := sl } ∧ s.heap.get? q = some { cls := .type "list", dict := dd2, data := .seq jts n2, slots := sl2 } ∧ R (.ok (.ret (.bool (lexLt ns ms)))) s) := by
  intro prog w A R s h
  obtain ⟨hp, g, d, tk, os⟩ := s; obtain ⟨hl, hb, h⟩ := h
  have f3 := AutoSeq1.sub_list_list
  wp_walk using wpAny_loadPart' hl, wpAny_loadPart' hb
  refine ⟨plainId_quiet plain_eq_loop _, codeAny_builtin entry_eq_loop ?_⟩
  rw [Around.under_plainId plain_eq_loop _]
  exact ltLoop p q its jts n n2 dd dd2 sl sl2 ns ms 0 (Nat.zero_le _) (Nat.zero_le _) (by simpa using hi) (by simpa using hj) prog w A R _ ⟨hl, hb, h⟩
end
theorem lt_listInts {prog : Program} {w : World} {A : Around} {E : Value → Shared → Prop} {s : Shared} {p q : Addr} {its jts : Array Value} {ns ms : List Int} {Q : Value → Shared → Prop} (hl : s.heap.IsList p its) (hb : s.heap.IsList q jts) (hi : IntsAre its.toList ns) (hj : IntsAre jts.toList ms)
    (hu : A.units < cLine) (h : Q (.bool (lexLt ns ms)) s) : wpAny (model prog w) A (compareOp .Lt (.ref p) (.ref q)) Q E s := by
  obtain ⟨⟨c1, d1, o1, s1⟩, ho, hc, n, hd⟩ := id hl
  obtain ⟨⟨c2, d2, o2, s2⟩, ho2, hc2, n2, hd2⟩ := id hb
  simp only at hc hd hc2 hd2
  subst hc hd hc2 hd2
  exact richCompare_meets_room (op := .Lt) ⟨_, ho, rfl⟩ ⟨_, ho2, rfl⟩ PySem.F.slot_list_lt PySem.F.entry_list_lt (PySem.F.args_list_lt_2 _ _) (ltLists p q its jts n n2 d1 d2 s1 s2 ns ms hi hj)
    ⟨ho, ho2, ⟨(fun x => nomatch x), h⟩⟩ hu
end HT
namespace L2
open PySem PyProof.Rows
section
variable {X : Cx}
def rLtL (K : PySem.W.Frag) : R2 := fun x y H Q => ∃ a b ns ms, x = .ref a ∧ y = .ref b ∧ SqL K H a (ns.map V.int) ∧ SqL K H b (ms.map V.int) ∧ Q (.bl (HT.lexLt ns ms)) H
theorem op_ltL (hu : X.A.units < cLine) : OpR X (compareOp .Lt) (rLtL X.K) := by
  intro pins s σ H x y v u Q I rx ry h
  obtain ⟨a, b, ns, ms, rfl, rfl, ha, hb, q⟩ := h
  cases rx
  cases ry
  obtain ⟨its, r1, p1, _⟩ := I.list ha
  obtain ⟨jts, r2, p2, _⟩ := I.list hb
  exact HT.lt_listInts p1.isList p2.isList (intsAre_of r1) (intsAre_of r2) hu ⟨.bl (HT.lexLt ns ms), H, I, rfl, q⟩
end
end L2

/-! ## enumerate of a list or a tuple -/
namespace L2
open PySem PySem.Spec PyProof.Rows
def en1 (k : SK) (h : Heap) (l : Addr) : Heap := h.push { cls := .type k.ty, data := .fields #[.ref l, .int 0 0] }
def en2 (k : SK) (h : Heap) (l : Addr) : Heap := (en1 k h l).push { cls := .type "enumerate", data := .fields #[.none, .bool false, .ref h.objs.size, rawInt 0, .none, .none] }
theorem newEnum (k : SK) (l : Addr) (xs : Array Value) : Meets (Builtin.«enumerate.__new__» ⟨[.type "enumerate", .ref l], []⟩) (fun _ R s => k.is s.heap l xs ∧ R (.ok (.ret (.ref (en1 k s.heap l).objs.size))) { s with heap := en2 k s.heap l }) :=
  .of_wp fun prog w A R s h => by
    obtain ⟨hp, g, d, tk, os⟩ := s
    obtain ⟨q1, h⟩ := h
    have hsub := sub_enumerate
    cases k with
    | L =>
      have e1 : Heap.IsList (Shared.heap ⟨hp, g, d, tk, os⟩) l xs := q1
      wp_walk using wpAny_pyIter_list e1
      refine wpAny_stack_any fun st => wpAny_pure ?_
      split
      · rename_i c _ _ _ _ _
        cases (c == Value.type "enumerate") <;> (wp_walk using wpAny_pyIter_list e1; exact ⟨_, rfl, h⟩)
      · wp_walk using wpAny_pyIter_list e1
        exact ⟨_, rfl, h⟩
    | T =>
      have e1 : Heap.IsTuple (Shared.heap ⟨hp, g, d, tk, os⟩) l xs := q1
      wp_walk using wpAny_pyIter_tuple e1
      refine wpAny_stack_any fun st => wpAny_pure ?_
      split
      · rename_i c _ _ _ _ _
        cases (c == Value.type "enumerate") <;> (wp_walk using wpAny_pyIter_tuple e1; exact ⟨_, rfl, h⟩)
      · wp_walk using wpAny_pyIter_tuple e1
        exact ⟨_, rfl, h⟩
theorem call_enumK {prog : Program} {w : World} {A : Around} {E : Value → Shared → Prop} {s : Shared} {k : SK} {l : Addr} {xs : Array Value} {Q : Value → Shared → Prop} (q1 : k.is s.heap l xs)
    (h : ∀ h', IsEnum h' (s.heap.objs.size + 1) s.heap.objs.size 0 .none → k.at h' s.heap.objs.size l 0 → (∀ b o, s.heap.get? b = some o → h'.get? b = some o) → Q (.ref (s.heap.objs.size + 1)) { s with heap := h' }) :
    wpAny (model prog w) A (call (.type "enumerate") [.ref l]) Q E s := by
  refine callType_new F.called_enumerate (by decide) (F.typeCall_enumerate_1 _) (F.newCall_enumerate_1 _) (fun obj => F.args_object_init_2 obj _) F.entry_enumerate_new (newEnum k l xs) ⟨q1, ?_⟩
  have hz : (en1 k s.heap l).objs.size = s.heap.objs.size + 1 := Heap.size_push ..
  show _ ∧ _
  rw [hz]
  have he : IsEnum (en2 k s.heap l) (s.heap.objs.size + 1) s.heap.objs.size 0 .none := by
    have z := Heap.get?_push_size (en1 k s.heap l) (o := { cls := .type "enumerate", data := .fields #[.none, .bool false, .ref s.heap.objs.size, rawInt 0, .none, .none] }) rfl
    rw [hz] at z
    exact z
  exact ⟨⟨_, he, rfl⟩, h _ he (SK.at_of (Heap.get?_push_of_some _ (Heap.get?_push_size _ rfl))) fun b o x => Heap.get?_push_of_some _ (Heap.get?_push_of_some _ x)⟩
def Itek (K : PySem.W.Frag) (k : SK) (a : Addr) : It :=
  ⟨fun i H => ∃ xs x, k.sq K H a xs ∧ xs[i]? = some x, fun i H v H' => ∃ t x, H t = none ∧ v = .ref t ∧ H' = upd H t (.tup [.int (i : Nat), x]) ∧ ∀ xs, k.sq K H a xs → xs[i]? = some x, fun i H => ∃ xs, k.sq K H a xs ∧ xs.length = i⟩
def EAt (k : SK) (e it a : Addr) (i : Nat) (h : Heap) : Prop := (∃ old, IsEnum h e it (i : Nat) old) ∧ k.at h it a i
theorem turn_enumK {P : Program} {w : World} {K : PySem.W.Frag} {es : List Expr} {x1 : Nat} {tpos : Pos} (k : SK) (a e it : Addr) (hne : e ≠ it) (hae : a ≠ e) (hai : a ≠ it) : Turn P w K (.Tuple es x1 tpos) (Itek K k a) [it, e] e (EAt k e it a) where
  mem := by simp
  obj := fun i h st b hb => by
    obtain ⟨⟨old, he⟩, s1⟩ := st
    simp only [List.mem_cons, List.not_mem_nil, or_false] at hb
    rcases hb with rfl | rfl
    · exact SK.at_obj s1
    · exact ⟨_, he, fun v y => by have y' : Data.fields _ = Data.cell v := y; cases y'⟩
  keep := fun i h h' st kk => by
    obtain ⟨⟨old, he⟩, s1⟩ := st
    exact ⟨⟨old, kk e (by simp) _ he⟩, SK.at_keep s1 fun o q => kk it (by simp) o q⟩
  item := by
    intro X hP hw hK hc i pins s σ H E I hf st hg
    subst hP hw hK
    obtain ⟨xs, x, hq, hx⟩ := hg
    obtain ⟨⟨old, he⟩, s1⟩ := st
    obtain ⟨its, rv, p1⟩ := I.sk hq
    obtain ⟨u, hu, ru⟩ := rv.get hx
    have hh := I.ok.hd hc
    have hi1 : i < its.toArray.size := by
      rcases Nat.lt_or_ge i its.length with q | q
      · simpa using q
      · rw [List.getElem?_eq_none q] at hu; cases hu
    refine wpAny_pyNext_enum_itemD (SK.draws (prog := X.prog) (w := X.w) (A := X.A.in1) k hh it a hai its.toArray) he ⟨s1, p1⟩ hi1 hne (by simp [hne, hae.symm]) fun x' h' tk ex heo j1 htup hsz hk => ⟨_, rfl, ?_⟩
    have eu : x' = u := Option.some.inj (by rw [← ex, ← hu]; simp)
    subst eu
    refine wpAny_letOwnedTupleGo_enum (s := { s with heap := h', toks := tk + 1 }) heo fun h2 he2 hs2 => ?_
    have hel : e < s.heap.objs.size := Heap.lt_size he
    have g2 : h2.get? s.heap.objs.size = some { cls := .type "tuple", data := .seq #[.int i tk, x'] } := (hs2.2 _ (Nat.ne_of_gt hel)).trans htup
    have k2 : ∀ b o, b ∉ [it, e] → s.heap.get? b = some o → h2.get? b = some o := fun b o hb q => by
      simp only [List.mem_cons, List.not_mem_nil, or_false, not_or] at hb
      exact (hs2.2 b hb.2).trans (hk b o hb.2 hb.1 q)
    have g1 : k.at h2 it a (i + 1) := SK.at_keep j1.1 fun o q => (hs2.2 it (Ne.symm hne)).trans q
    have ht2 : ∀ b o, s.heap.get? b = some o → ∃ o', h2.get? b = some o' := fun b o q => by
      by_cases n1 : b = it
      · subst n1; obtain ⟨o', e', _⟩ := SK.at_obj g1; exact ⟨o', e'⟩
      · by_cases n2 : b = e
        · subst n2; exact ⟨_, he2⟩
        · exact ⟨o, k2 b o (by simp [n1, n2]) q⟩
    have I2 : Inv X pins σ (upd H s.heap.objs.size (.tup [.int (i : Nat), x])) { s with heap := h2, toks := tk + 1 } :=
      I.turnedL (ch := [it, e]) k2 ht2 hf (Nat.le_refl _) ⟨by show 2 ≤ sizeLine; decide, [.int i tk, x'], .cons ⟨_, rfl⟩ (.cons ru .nil), ⟨_, g2, rfl, _, rfl⟩⟩
    refine ⟨.ref s.heap.objs.size, _, I2, rfl, ⟨s.heap.objs.size, x, I.fresh, rfl, rfl, fun ys hy => by rw [I.sk_inj hy hq]; exact hx⟩, ⟨⟨x', he2⟩, g1⟩, fun b hb => ?_⟩
    have hb0 := (hf b hb).1
    rw [upd_ne ?_]
    · exact hb0
    · simp only [List.mem_cons, List.not_mem_nil, or_false] at hb
      rcases hb with rfl | rfl
      · obtain ⟨o, e1, _⟩ := SK.at_obj s1; exact Nat.ne_of_lt (Heap.lt_size e1)
      · exact Nat.ne_of_lt hel
  done := by
    intro X hP hw hK hc i pins s σ H E I hf st hg
    subst hP hw hK
    obtain ⟨xs, hq, hx⟩ := hg
    obtain ⟨⟨old, he⟩, s1⟩ := st
    obtain ⟨its, rv, p1⟩ := I.sk hq
    obtain ⟨f0, f1, f2, f3, f4, f5⟩ := hf it (by simp)
    have hl := rv.length
    have hi : i = its.toArray.size := by rw [List.size_toArray]; omega
    rw [hi] at s1
    exact wpAny_pyNext_enum_endD (SK.draws (prog := X.prog) (w := X.w) (A := X.A.in1) k (I.ok.hd hc) it a hai its.toArray) he ⟨s1, p1⟩ fun h' eb => ⟨rfl, I.turned (t' := s.toks) (fun b o hb q => eb b o hb q) f0 f1 f3 f4 f5⟩
  self := fun A i s Q E st h => by
    obtain ⟨⟨old, he⟩, s1⟩ := st
    have hT : s.TypeIs (.ref e) "enumerate" := ⟨_, he, rfl⟩
    refine wpAny_pyIter_slot hT F.slot_enumerate_iter (wpAny_call_entry F.slot_enumerate_iter hT F.entry_enumerate_iter ?_ (F.args_enumerate_iter_1 _))
    show wpAny _ _ (ret (.ref e)) _ _ s
    exact wpAny_pure ⟨_, rfl, "enumerate", _, hT, F.slot_enumerate_next.lookup, h⟩
section
variable {X : Cx}
def iEnumK (K : PySem.W.Frag) (k : SK) (ta : TA) : TI := fun σ H R => ta σ H fun vs H1 => ∃ a, vs = [.ref a] ∧ (∃ xs, k.sq K H1 a xs) ∧ R (Itek K k a) H1
theorem pi_enumK {k : SK} {l : Expr} {ta : TA} {es : List Expr} {x1 : Nat} {tpos p pos : Pos} (hg : Gl X "enumerate") (hm : X.mg "enumerate" = none) (ha : PA X [l] ta) (hs : starEach [l] X.env = [(false, eval l X.env)] := by rfl) :
    PI X (.Tuple es x1 tpos) (.Call (.Name "enumerate" p) [l] [] pos) (iEnumK X.K k ta) := by
  intro pins s σ H R I h
  refine Call_ (ld_blt I hg hm PyProof.Rows.boot_enumerate (PyProof.Rows.callWith_type1 (thn (ha pos pins s σ H _ I h) fun us s1 ⟨vs, H1, I1, r1, q1⟩ => ?_) hs rfl))
  obtain ⟨a, e, ⟨xs, hq⟩, q⟩ := q1
  subst e
  obtain ⟨u, rfl, ru⟩ := vals1 r1
  cases ru
  obtain ⟨its, rv, p1⟩ := I1.sk hq
  refine call_enumK p1 fun h' he hit hk => ?_
  have I2 : Inv X pins σ H1 { s1 with heap := h' } := I1.kept (t' := s1.toks) hk
  have la := SK.is_lt p1
  have st : EAt k (s1.heap.objs.size + 1) s1.heap.objs.size a 0 h' := ⟨⟨.none, he⟩, hit⟩
  have T := turn_enumK (P := X.prog) (w := X.w) (K := X.K) (es := es) (x1 := x1) (tpos := tpos) k a (s1.heap.objs.size + 1) s1.heap.objs.size (Nat.succ_ne_self _) (Nat.ne_of_lt (Nat.lt_succ_of_lt la)) (Nat.ne_of_lt la)
  refine T.self X.A 0 { s1 with heap := h' } _ _ st ?_
  refine ⟨s1.heap.objs.size + 1, [s1.heap.objs.size, s1.heap.objs.size + 1], _, _, H1, rfl, I2, T, st, fun b hb => ?_, q⟩
  have hb' : s1.heap.objs.size ≤ b := by
    simp only [List.mem_cons, List.not_mem_nil, or_false] at hb
    rcases hb with z | z
    · rw [z]; exact Nat.le_refl _
    · rw [z]; exact Nat.le_succ _
  exact I1.fpOk hb' (I1.hok.fresh hb')
end
end L2

/-! ## a, b = e where e is a list -/
namespace L2
open PySem PySem.Spec PyProof.Rows
section
variable {prog : Program} {w : World} {A : Around} {E : Value → Shared → Prop} {s : Shared}
end
section
variable {X : Cx} {pos : Pos}
end
end L2

/-! ## list(range(a, b)) over the hand layer -/
namespace L2
open PySem PySem.Spec PyProof.Rows
section
variable {X : Cx}
def rngJ (a n : Nat) : List V := (List.range' a n).map fun i => .int (i : Nat)
def tListQ (ta : TA) : TE := fun σ H Q => ta σ H fun vs H1 => ∃ a n : Nat, vs = [.int (a : Nat), .int ((a + n : Nat) : Int)] ∧ a + n ≤ 1000000 ∧ ∀ l, H1 l = none → Q (.ref l) (upd H1 l (.lst (rngJ a n)))
theorem pe_listQ {a c : Expr} {ta : TA} {p p2 pos pos2 : Pos} (hg : Gl X "list") (hm : X.mg "list" = none) (hg2 : Gl X "range") (hm2 : X.mg "range" = none) (hc : X.calm = true) (ha : PA X [a, c] ta) (hs : starEach [a, c] X.env = [(false, eval a X.env), (false, eval c X.env)] := by rfl) (hs1 : starEach [c] X.env = [(false, eval c X.env)] := by rfl)
    (hs2 : starEach [.Call (.Name "range" p2) [a, c] [] pos2] X.env = (false, eval (.Call (.Name "range" p2) [a, c] [] pos2) X.env) :: starEach [] X.env := by rfl) (hpl : (backTo pos (starEach [] X.env)).any (·.1) = false := by rfl) :
    PE X (.Call (.Name "list" p) [.Call (.Name "range" p2) [a, c] [] pos2] [] pos) (tListQ ta) := by
  intro pins s σ H Q I h
  refine wpAny_Call_Name_kw (ld_blt I hg hm PyProof.Rows.boot_list ?_ (by decide) (by decide))
  refine PyProof.Rows.callWith_type1 ?_ hs2 hpl
  rw [hs2]
  show wpAny _ _ (spliced ((false, eval (.Call (.Name "range" p2) [a, c] [] pos2) X.env) :: backTo pos (starEach [] X.env))) _ _ s
  refine Calls.spliced_cons ?_
  refine Call_ (ld_blt I hg2 hm2 PyProof.Rows.boot_range (PyProof.Rows.callWith_type1 (thn (ha pos2 pins s σ H _ I h) fun us s1 ⟨vs, H1, I1, r1, q1⟩ => ?_) (by rw [hs, hs1]) (by rw [hs1]; rfl)))
  obtain ⟨i, n, e, hn, q⟩ := q1
  subst e
  cases r1 with
  | cons r rr =>
    cases rr with
    | cons r' rr =>
      cases rr
      obtain ⟨t, rfl⟩ := r
      obtain ⟨t', rfl⟩ := r'
      refine call_range_2 (Calls.spliced_nil ?_)
      have h64 : (2 ^ 62 : Int) = 4611686018427387904 := by decide
      refine call_list_range (n := n) (I1.ok.hd hc) (IsRange.new ..) (small_one (by omega) (by omega) (by omega) (by omega)) (by rw [rangeSize_one]; split <;> omega) (by omega) fun h' tk acc' c' kp e it => ?_
      obtain ⟨i1, i2⟩ := it
      have hv : Vals (rngJ i n) acc'.toList := vals_rng n i acc'.toList (by simpa using i1) fun j v hj => by
        obtain ⟨t, e⟩ := i2 j v (by simpa using hj)
        exact ⟨t, by rw [e]; congr 1; omega⟩
      have I2 := I1.laid (a := s1.heap.objs.size + 1) (o := .lst (rngJ i n)) (h' := h') (t' := tk) (fun b o eb => kp b o (Heap.get?_push_of_some _ eb)) (by omega)
        (show ObjOk X.prog X.w _ h' _ (.lst (rngJ i n)) from ⟨(by unfold rngJ; rw [List.length_map, List.length_range']; exact Nat.le_of_lt (le_line (by omega))), acc'.toList, c', hv, by
          have := e
          rw [Heap.size_push] at this
          simpa using this⟩)
      refine ⟨.ref (s1.heap.objs.size + 1), _, I2, ?_, q _ (I1.hok.fresh (by omega))⟩
      show Value.ref _ = Value.ref _
      rw [Heap.size_push]
end
end L2

/-! ## the mirror: plain values, how the heap bears them, what an expression is worth -/
namespace MR
open PySem L2

/-- a plain value -/
inductive PV where
  | non | bl (b : Bool) | int (i : Int) | str (x : Str)
  | lst (xs : List PV) | frz (xs : List PV) | tup (xs : List PV) | ktp (xs : List PV)
  | dK (kvs : List (Key × PV)) | dT (kvs : List (List Key × PV))
  | obj (c : Nat) (fs : List (Str × PV))

/-- the text's written part, its classes by number -/
structure MC where
  K : PySem.W.Frag
  cl : Nat → Addr

mutual
inductive Rep (C : MC) (A : Addr → Prop) (H : Hp) : V → PV → Prop
  | non : Rep C A H .non .non
  | bl (b : Bool) : Rep C A H (.bl b) (.bl b)
  | int (i : Int) : Rep C A H (.int i) (.int i)
  | str (x : Str) : Rep C A H (.str x) (.str x)
  | lst {a : Addr} {vs : List V} {xs : List PV} : H a = some (.lst vs) → A a → Reps C A H vs xs → Rep C A H (.ref a) (.lst xs)
  | lstF {a : Addr} {o : Obj} {vs : List V} {xs : List PV} : H a = some (.frz o (.lst vs)) → Reps C A H vs xs → Rep C A H (.ref a) (.frz xs)
  | lstK {a : Addr} {vs : List V} {xs : List PV} : SqL C.K (fun _ => none) a vs → Reps C A H vs xs → Rep C A H (.ref a) (.frz xs)
  | tup {a : Addr} {vs : List V} {xs : List PV} : H a = some (.tup vs) → Reps C A H vs xs → Rep C A H (.ref a) (.tup xs)
  | tupK {a : Addr} {vs : List V} {xs : List PV} : SqT C.K (fun _ => none) a vs → Reps C A H vs xs → Rep C A H (.ref a) (.ktp xs)
  | dK {a : Addr} {kv : List (Key × V)} {kvs : List (Key × PV)} : H a = some (.dK kv) → A a → RepK C A H kv kvs → Rep C A H (.ref a) (.dK kvs)
  | dT {a : Addr} {kv : List (List Key × V)} {kvs : List (List Key × PV)} : H a = some (.dT kv) → A a → RepT C A H kv kvs → Rep C A H (.ref a) (.dT kvs)
  | obj {a dx : Addr} {c : Nat} {f : List (Str × V)} {fs : List (Str × PV)} : H a = some (.ins (C.cl c) dx f) → A a → RepF C A H f fs → Rep C A H (.ref a) (.obj c fs)
inductive Reps (C : MC) (A : Addr → Prop) (H : Hp) : List V → List PV → Prop
  | nil : Reps C A H [] []
  | cons {v : V} {p : PV} {vs : List V} {ps : List PV} : Rep C A H v p → Reps C A H vs ps → Reps C A H (v :: vs) (p :: ps)
inductive RepK (C : MC) (A : Addr → Prop) (H : Hp) : List (Key × V) → List (Key × PV) → Prop
  | nil : RepK C A H [] []
  | cons {k : Key} {v : V} {p : PV} {vs : List (Key × V)} {ps : List (Key × PV)} : Rep C A H v p → RepK C A H vs ps → RepK C A H ((k, v) :: vs) ((k, p) :: ps)
inductive RepT (C : MC) (A : Addr → Prop) (H : Hp) : List (List Key × V) → List (List Key × PV) → Prop
  | nil : RepT C A H [] []
  | cons {k : List Key} {v : V} {p : PV} {vs : List (List Key × V)} {ps : List (List Key × PV)} : Rep C A H v p → RepT C A H vs ps → RepT C A H ((k, v) :: vs) ((k, p) :: ps)
inductive RepF (C : MC) (A : Addr → Prop) (H : Hp) : List (Str × V) → List (Str × PV) → Prop
  | nil : RepF C A H [] []
  | cons {k : Str} {v : V} {p : PV} {vs : List (Str × V)} {ps : List (Str × PV)} : Rep C A H v p → RepF C A H vs ps → RepF C A H ((k, v) :: vs) ((k, p) :: ps)
end

/-- may be written -/
def isMut : HO → Bool
  | .lst _ => true
  | .dK _ => true
  | .dT _ => true
  | .ins _ _ _ => true
  | _ => false
/-- from one heap to a later one: what A allows, and what is never written, stands; and A' allows it -/
def Ex (A : Addr → Prop) (H : Hp) (A' : Addr → Prop) (H' : Hp) : Prop := ∀ a o, H a = some o → (A a → H' a = some o ∧ A' a) ∧ (isMut o = false → H' a = some o)
theorem Ex.refl (A : Addr → Prop) (H : Hp) : Ex A H A H := fun a o h => ⟨fun q => ⟨h, q⟩, fun _ => h⟩
theorem Ex.trans {A B C : Addr → Prop} {H I J : Hp} (e : Ex A H B I) (f : Ex B I C J) : Ex A H C J := fun a o h => ⟨fun q => by
  obtain ⟨h1, q1⟩ := (e a o h).1 q
  exact (f a o h1).1 q1, fun m => (f a o ((e a o h).2 m)).2 m⟩
theorem Ex.of_same {A : Addr → Prop} {H H' : Hp} (s : Same H H') : Ex A H A H' := fun a o h => ⟨fun q => ⟨s a o h, q⟩, fun _ => s a o h⟩

mutual
theorem Rep.ex {C : MC} {A A' : Addr → Prop} {H H' : Hp} (e : Ex A H A' H') : ∀ {v : V} {p : PV}, Rep C A H v p → Rep C A' H' v p
  | _, _, .non => .non
  | _, _, .bl b => .bl b
  | _, _, .int i => .int i
  | _, _, .str x => .str x
  | _, _, .lst h q r => .lst ((e _ _ h).1 q).1 ((e _ _ h).1 q).2 (Reps.ex e r)
  | _, _, .lstF h r => .lstF ((e _ _ h).2 rfl) (Reps.ex e r)
  | _, _, .lstK h r => .lstK h (Reps.ex e r)
  | _, _, .tup h r => .tup ((e _ _ h).2 rfl) (Reps.ex e r)
  | _, _, .tupK h r => .tupK h (Reps.ex e r)
  | _, _, .dK h q r => .dK ((e _ _ h).1 q).1 ((e _ _ h).1 q).2 (RepK.ex e r)
  | _, _, .dT h q r => .dT ((e _ _ h).1 q).1 ((e _ _ h).1 q).2 (RepT.ex e r)
  | _, _, .obj h q r => .obj ((e _ _ h).1 q).1 ((e _ _ h).1 q).2 (RepF.ex e r)
theorem Reps.ex {C : MC} {A A' : Addr → Prop} {H H' : Hp} (e : Ex A H A' H') : ∀ {v : List V} {p : List PV}, Reps C A H v p → Reps C A' H' v p
  | _, _, .nil => .nil
  | _, _, .cons h t => .cons (Rep.ex e h) (Reps.ex e t)
theorem RepK.ex {C : MC} {A A' : Addr → Prop} {H H' : Hp} (e : Ex A H A' H') : ∀ {v : List (Key × V)} {p : List (Key × PV)}, RepK C A H v p → RepK C A' H' v p
  | _, _, .nil => .nil
  | _, _, .cons h t => .cons (Rep.ex e h) (RepK.ex e t)
theorem RepT.ex {C : MC} {A A' : Addr → Prop} {H H' : Hp} (e : Ex A H A' H') : ∀ {v : List (List Key × V)} {p : List (List Key × PV)}, RepT C A H v p → RepT C A' H' v p
  | _, _, .nil => .nil
  | _, _, .cons h t => .cons (Rep.ex e h) (RepT.ex e t)
theorem RepF.ex {C : MC} {A A' : Addr → Prop} {H H' : Hp} (e : Ex A H A' H') : ∀ {v : List (Str × V)} {p : List (Str × PV)}, RepF C A H v p → RepF C A' H' v p
  | _, _, .nil => .nil
  | _, _, .cons h t => .cons (Rep.ex e h) (RepF.ex e t)
end
theorem ex_weak {A A' : Addr → Prop} {H : Hp} (h : ∀ a o, H a = some o → A a → A' a) : Ex A H A' H := fun a o e => ⟨fun q => ⟨e, h a o e q⟩, fun _ => e⟩

theorem Reps.length {C : MC} {A : Addr → Prop} {H : Hp} : ∀ {vs : List V} {ps : List PV}, Reps C A H vs ps → vs.length = ps.length
  | _, _, .nil => rfl
  | _, _, .cons _ t => by simp [Reps.length t]
theorem Reps.append {C : MC} {A : Addr → Prop} {H : Hp} : ∀ {vs us : List V} {ps qs : List PV}, Reps C A H vs ps → Reps C A H us qs → Reps C A H (vs ++ us) (ps ++ qs)
  | _, _, _, _, .nil, h => h
  | _, _, _, _, .cons h t, r => .cons h (Reps.append t r)
theorem Reps.get {C : MC} {A : Addr → Prop} {H : Hp} : ∀ {vs : List V} {ps : List PV} {i : Nat} {p : PV}, Reps C A H vs ps → ps[i]? = some p → ∃ v, vs[i]? = some v ∧ Rep C A H v p
  | _, _, _, _, .nil, e => by simp at e
  | _, _, 0, _, .cons h t, e => by simp at e; subst e; exact ⟨_, rfl, h⟩
  | _, _, i + 1, p, .cons h t, e => by
    obtain ⟨v, e1, r⟩ := Reps.get (i := i) (p := p) t (by simpa using e)
    exact ⟨v, by simpa using e1, r⟩
theorem Reps.drop {C : MC} {A : Addr → Prop} {H : Hp} : ∀ {vs : List V} {ps : List PV} (n : Nat), Reps C A H vs ps → Reps C A H (vs.drop n) (ps.drop n)
  | _, _, 0, h => by simpa using h
  | _, _, n + 1, .nil => by simpa using Reps.nil
  | _, _, n + 1, .cons _ t => by simpa using Reps.drop n t
theorem Reps.take {C : MC} {A : Addr → Prop} {H : Hp} : ∀ {vs : List V} {ps : List PV} (n : Nat), Reps C A H vs ps → Reps C A H (vs.take n) (ps.take n)
  | _, _, 0, h => by simpa using Reps.nil
  | _, _, n + 1, .nil => by simpa using Reps.nil
  | _, _, n + 1, .cons h t => by simpa using Reps.cons h (Reps.take n t)
theorem Reps.set {C : MC} {A : Addr → Prop} {H : Hp} {v : V} {p : PV} (r : Rep C A H v p) : ∀ {vs : List V} {ps : List PV} (n : Nat), Reps C A H vs ps → Reps C A H (vs.set n v) (ps.set n p)
  | _, _, _, .nil => .nil
  | _, _, 0, .cons _ t => .cons r t
  | _, _, n + 1, .cons h t => .cons h (Reps.set r n t)
theorem Reps.reverse {C : MC} {A : Addr → Prop} {H : Hp} : ∀ {vs : List V} {ps : List PV}, Reps C A H vs ps → Reps C A H vs.reverse ps.reverse
  | _, _, .nil => .nil
  | _, _, .cons h t => by
    rw [List.reverse_cons, List.reverse_cons]
    exact (Reps.reverse t).append (.cons h .nil)
theorem reps_of {C : MC} {A : Addr → Prop} {H : Hp} {α : Type} (f : α → V) (g : α → PV) (h : ∀ x, Rep C A H (f x) (g x)) : ∀ l : List α, Reps C A H (l.map f) (l.map g)
  | [] => .nil
  | x :: l => .cons (h x) (reps_of f g h l)
theorem RepK.val {C : MC} {A : Addr → Prop} {H : Hp} {k : Key} : ∀ {kv : List (Key × V)} {kvs : List (Key × PV)}, RepK C A H kv kvs → (∃ v p, valV kv k = some v ∧ (kvs.find? fun x => decide (x.1 = k)).map (·.2) = some p ∧ Rep C A H v p) ∨ (valV kv k = none ∧ (kvs.find? fun x => decide (x.1 = k)).map (·.2) = none)
  | _, _, .nil => .inr ⟨rfl, rfl⟩
  | _, _, .cons (k := k') (v := v) (p := p) h t => by
    by_cases e : k' = k
    · subst e
      exact .inl ⟨v, p, valV_pos rfl, by simp, h⟩
    · rw [valV_neg e, List.find?_cons_of_neg (by simpa using e)]
      exact RepK.val t
theorem RepT.val {C : MC} {A : Addr → Prop} {H : Hp} {k : List Key} : ∀ {kv : List (List Key × V)} {kvs : List (List Key × PV)}, RepT C A H kv kvs → (∃ v p, valV kv k = some v ∧ (kvs.find? fun x => decide (x.1 = k)).map (·.2) = some p ∧ Rep C A H v p) ∨ (valV kv k = none ∧ (kvs.find? fun x => decide (x.1 = k)).map (·.2) = none)
  | _, _, .nil => .inr ⟨rfl, rfl⟩
  | _, _, .cons (k := k') (v := v) (p := p) h t => by
    by_cases e : k' = k
    · subst e
      exact .inl ⟨v, p, valV_pos rfl, by simp, h⟩
    · rw [valV_neg e, List.find?_cons_of_neg (by simpa using e)]
      exact RepT.val t
theorem RepF.look {C : MC} {A : Addr → Prop} {H : Hp} {k : Str} {p : PV} : ∀ {f : List (Str × V)} {fs : List (Str × PV)}, RepF C A H f fs → fs.lookup k = some p → ∃ v, f.lookup k = some v ∧ Rep C A H v p
  | _, _, .nil, e => by cases e
  | _, _, .cons (k := k') (v := v) (p := p') h t, e => by
    rw [List.lookup_cons] at e ⊢
    cases q : k == k' with
    | true => rw [q] at e; cases e; exact ⟨v, rfl, h⟩
    | false => rw [q] at e; exact RepF.look t e
/-- what may be written, as it stands at a; what lies in it A allows -/
def Top (C : MC) (A : Addr → Prop) (H : Hp) (a : Addr) : PV → Prop
  | .lst xs => ∃ vs, H a = some (.lst vs) ∧ Reps C A H vs xs
  | .dK kvs => ∃ kv, H a = some (.dK kv) ∧ RepK C A H kv kvs
  | .dT kvs => ∃ kv, H a = some (.dT kv) ∧ RepT C A H kv kvs
  | .obj c fs => ∃ dx f, H a = some (.ins (C.cl c) dx f) ∧ RepF C A H f fs
  | _ => False
theorem Top.ex {C : MC} {A A' : Addr → Prop} {H H' : Hp} {a : Addr} {p : PV} (e : Ex A H A' H') (h : ∀ o, H a = some o → H' a = some o) (t : Top C A H a p) : Top C A' H' a p := by
  cases p with
  | lst xs => obtain ⟨vs, q, r⟩ := t; exact ⟨vs, h _ q, r.ex e⟩
  | dK kvs => obtain ⟨vs, q, r⟩ := t; exact ⟨vs, h _ q, r.ex e⟩
  | dT kvs => obtain ⟨vs, q, r⟩ := t; exact ⟨vs, h _ q, r.ex e⟩
  | obj c fs => obtain ⟨dx, f, q, r⟩ := t; exact ⟨dx, f, h _ q, r.ex e⟩
  | _ => exact t
theorem Top.live {C : MC} {A : Addr → Prop} {H : Hp} {a : Addr} {p : PV} (t : Top C A H a p) : ∃ o, H a = some o ∧ isMut o = true := by
  cases p with
  | lst xs => obtain ⟨vs, q, r⟩ := t; exact ⟨_, q, rfl⟩
  | dK kvs => obtain ⟨vs, q, r⟩ := t; exact ⟨_, q, rfl⟩
  | dT kvs => obtain ⟨vs, q, r⟩ := t; exact ⟨_, q, rfl⟩
  | obj c fs => obtain ⟨dx, f, q, r⟩ := t; exact ⟨_, q, rfl⟩
  | _ => exact t.elim
theorem Top.rep {C : MC} {A : Addr → Prop} {H : Hp} {a : Addr} {p : PV} (t : Top C A H a p) (h : A a) : Rep C A H (.ref a) p := by
  cases p with
  | lst xs => obtain ⟨vs, q, r⟩ := t; exact .lst q h r
  | dK kvs => obtain ⟨vs, q, r⟩ := t; exact .dK q h r
  | dT kvs => obtain ⟨vs, q, r⟩ := t; exact .dT q h r
  | obj c fs => obtain ⟨dx, f, q, r⟩ := t; exact .obj q h r
  | _ => exact t.elim
/-- read, not kept -/
def RepB (C : MC) (A : Addr → Prop) (H : Hp) (v : V) (p : PV) : Prop := Rep C A H v p ∨ ∃ a, v = .ref a ∧ Top C A H a p
theorem RepB.ex {C : MC} {A A' : Addr → Prop} {H H' : Hp} {v : V} {p : PV} (e : Ex A H A' H') (s : Same H H') (h : RepB C A H v p) : RepB C A' H' v p := by
  rcases h with h | ⟨a, q, t⟩
  · exact .inl (h.ex e)
  · exact .inr ⟨a, q, t.ex e fun o z => s _ _ z⟩

/-! ### what is read off a value -/
section
variable {C : MC} {A : Addr → Prop} {H : Hp} {v : V}
theorem sqK {K : PySem.W.Frag} {a : Addr} {vs : List V} (h : SqL K (fun _ => none) a vs) : SqL K H a vs := by
  rcases h with (h | ⟨o, h⟩) | h
  · cases h
  · cases h
  · exact .inr h
theorem sqTK {K : PySem.W.Frag} {a : Addr} {vs : List V} (h : SqT K (fun _ => none) a vs) : SqT K H a vs := by
  rcases h with (h | ⟨o, h⟩) | h
  · cases h
  · cases h
  · exact .inr h
theorem RepB.lst {xs : List PV} (h : RepB C A H v (.lst xs)) : ∃ a vs, v = .ref a ∧ H a = some (.lst vs) ∧ Reps C A H vs xs := by
  rcases h with h | ⟨a, rfl, vs, q, r⟩
  · cases h with
    | lst q _ r => exact ⟨_, _, rfl, q, r⟩
  · exact ⟨a, vs, rfl, q, r⟩
theorem RepB.frz {xs : List PV} (h : RepB C A H v (.frz xs)) : ∃ a vs, v = .ref a ∧ SqL C.K H a vs ∧ Reps C A H vs xs := by
  rcases h with h | ⟨a, rfl, t⟩
  · cases h with
    | lstF q r => exact ⟨_, _, rfl, .inl (.inr ⟨_, q⟩), r⟩
    | lstK q r => exact ⟨_, _, rfl, sqK q, r⟩
  · exact t.elim
theorem RepB.tup {xs : List PV} (h : RepB C A H v (.tup xs)) : ∃ a vs, v = .ref a ∧ H a = some (.tup vs) ∧ Reps C A H vs xs := by
  rcases h with h | ⟨a, rfl, t⟩
  · cases h with
    | tup q r => exact ⟨_, _, rfl, q, r⟩
  · exact t.elim
theorem RepB.ktp {xs : List PV} (h : RepB C A H v (.ktp xs)) : ∃ a vs, v = .ref a ∧ SqT C.K H a vs ∧ Reps C A H vs xs := by
  rcases h with h | ⟨a, rfl, t⟩
  · cases h with
    | tupK q r => exact ⟨_, _, rfl, sqTK q, r⟩
  · exact t.elim
theorem RepB.dK {kvs : List (Key × PV)} (h : RepB C A H v (.dK kvs)) : ∃ a kv, v = .ref a ∧ H a = some (.dK kv) ∧ RepK C A H kv kvs := by
  rcases h with h | ⟨a, rfl, vs, q, r⟩
  · cases h with
    | dK q _ r => exact ⟨_, _, rfl, q, r⟩
  · exact ⟨a, vs, rfl, q, r⟩
theorem RepB.dT {kvs : List (List Key × PV)} (h : RepB C A H v (.dT kvs)) : ∃ a kv, v = .ref a ∧ H a = some (.dT kv) ∧ RepT C A H kv kvs := by
  rcases h with h | ⟨a, rfl, vs, q, r⟩
  · cases h with
    | dT q _ r => exact ⟨_, _, rfl, q, r⟩
  · exact ⟨a, vs, rfl, q, r⟩
theorem RepB.obj {c : Nat} {fs : List (Str × PV)} (h : RepB C A H v (.obj c fs)) : ∃ a dx f, v = .ref a ∧ H a = some (.ins (C.cl c) dx f) ∧ RepF C A H f fs := by
  rcases h with h | ⟨a, rfl, dx, vs, q, r⟩
  · cases h with
    | obj q _ r => exact ⟨_, _, _, rfl, q, r⟩
  · exact ⟨a, dx, vs, rfl, q, r⟩
theorem RepB.int {i : Int} (h : RepB C A H v (.int i)) : v = .int i := by
  rcases h with h | ⟨a, rfl, t⟩
  · cases h; rfl
  · exact t.elim
theorem RepB.str {x : Str} (h : RepB C A H v (.str x)) : v = .str x := by
  rcases h with h | ⟨a, rfl, t⟩
  · cases h; rfl
  · exact t.elim
theorem RepB.bl {x : Bool} (h : RepB C A H v (.bl x)) : v = .bl x := by
  rcases h with h | ⟨a, rfl, t⟩
  · cases h; rfl
  · exact t.elim
theorem RepB.non (h : RepB C A H v .non) : v = .non := by
  rcases h with h | ⟨a, rfl, t⟩
  · cases h; rfl
  · exact t.elim
end

/-! ### a frame -/
/-- the def at hand: the callers' things, the heap at its entry -/
structure BX where
  C : MC
  A : Addr → Prop
  H0 : Hp
  fx : Nat → Option V
abbrev Env := List (Option PV)
/-- what may be kept: not owned here, and the caller's or new -/
def Bs (b : BX) (Ow : Addr → Prop) (a : Addr) : Prop := ¬ Ow a ∧ (b.A a ∨ b.H0 a = none)
structure ER (b : BX) (Ow : Addr → Prop) (G : List Nat) (σ : St) (env : Env) (H : Hp) : Prop where
  len : σ.length = env.length
  same : Same b.H0 H
  live : ∀ a, Ow a → ∃ o, H a = some o
  new : ∀ a, Ow a → b.H0 a = none
  val : ∀ i p, env[i]? = some (some p) → i ∉ G → ∃ v, σ[i]? = some (some v) ∧ Rep b.C (Bs b Ow) H v p
  own : ∀ i p, env[i]? = some (some p) → i ∈ G → ∃ a, σ[i]? = some (some (.ref a)) ∧ Ow a ∧ Top b.C (Bs b Ow) H a p
  sep : ∀ i j a p q, env[i]? = some (some p) → i ∈ G → σ[i]? = some (some (.ref a)) → env[j]? = some (some q) → j ∈ G → σ[j]? = some (some (.ref a)) → i = j
  fix : ∀ i v, b.fx i = some v → σ[i]? = some (some v)

inductive Md where | val | own | bor
/-- how the value of an expression comes: to be kept, as a new thing of one's own, to be read -/
def Res (b : BX) (Ow : Addr → Prop) (H H' : Hp) (m : Md) (v : V) (p : PV) : Prop := match m with
  | .val => Rep b.C (Bs b Ow) H' v p
  | .own => ∃ a, v = .ref a ∧ H a = none ∧ Top b.C (fun c => Bs b Ow c ∧ c ≠ a) H' a p
  | .bor => RepB b.C (Bs b Ow) H' v p
/-- an expression's worth -/
def tM (b : BX) (G : List Nat) (m : Md) (f : Env → Option PV) : TE := fun σ H Q => ∃ Ow env p, ER b Ow G σ env H ∧ f env = some p ∧ ∀ v H', Same H H' → Res b Ow H H' m v p → Q v H'
def tMT (b : BX) (G : List Nat) (f : Env → Option Bool) : TT := fun σ H Q => ∃ Ow env k, ER b Ow G σ env H ∧ f env = some k ∧ ∀ H', Same H H' → Q k H'

section
variable {b : BX} {Ow : Addr → Prop} {G : List Nat} {σ : St} {env : Env} {H H' : Hp}
theorem ER.up (E : ER b Ow G σ env H) (s : Same H H') : ER b Ow G σ env H' :=
  ⟨E.len, E.same.trans s, fun a h => let ⟨o, e⟩ := E.live a h; ⟨o, s _ _ e⟩, E.new, fun i p h n => let ⟨v, e, r⟩ := E.val i p h n; ⟨v, e, r.ex (.of_same s)⟩,
    fun i p h n => let ⟨a, e, w, t⟩ := E.own i p h n; ⟨a, e, w, t.ex (.of_same s) fun o z => s _ _ z⟩, E.sep, E.fix⟩
/-- a new address may be kept -/
theorem ER.fresh (E : ER b Ow G σ env H) {a : Addr} (h : H a = none) : Bs b Ow a :=
  ⟨fun w => (by obtain ⟨o, e⟩ := E.live a w; rw [h] at e; cases e), .inr (E.same.free h)⟩
theorem Res.val {m : Md} {v : V} {p : PV} (E : ER b Ow G σ env H) (hm : m ≠ .bor) (r : Res b Ow H H' m v p) : Res b Ow H H' .val v p := by
  cases m with
  | val => exact r
  | bor => exact absurd rfl hm
  | own =>
    obtain ⟨a, rfl, h, t⟩ := r
    have hw : Ex (fun c => Bs b Ow c ∧ c ≠ a) H' (Bs b Ow) H' := ex_weak fun _ _ _ z => z.1
    exact (t.ex hw fun o z => z).rep (E.fresh h)
theorem Res.bor {m : Md} {v : V} {p : PV} (r : Res b Ow H H' m v p) : Res b Ow H H' .bor v p := by
  cases m with
  | val => exact .inl r
  | bor => exact r
  | own =>
    obtain ⟨a, rfl, h, t⟩ := r
    have hw : Ex (fun c => Bs b Ow c ∧ c ≠ a) H' (Bs b Ow) H' := ex_weak fun _ _ _ z => z.1
    exact .inr ⟨a, rfl, t.ex hw fun o z => z⟩
/-- a value kept on -/
theorem Res.up {m : Md} {v : V} {p : PV} {H'' : Hp} (r : Res b Ow H H' m v p) (s : Same H' H'') : Res b Ow H H'' m v p := by
  cases m with
  | val => exact Rep.ex (.of_same s) r
  | bor => exact RepB.ex (.of_same s) s r
  | own =>
    obtain ⟨a, e, h, t⟩ := r
    exact ⟨a, e, h, t.ex (.of_same s) fun o z => s _ _ z⟩
theorem Res.down {m : Md} {v : V} {p : PV} {H'' : Hp} (s : Same H H') (r : Res b Ow H' H'' m v p) : Res b Ow H H'' m v p := by
  cases m with
  | val => exact r
  | bor => exact r
  | own =>
    obtain ⟨a, e, h, t⟩ := r
    exact ⟨a, e, s.free h, t⟩
end

/-! ### judgements by the mirror -/
theorem PE.imp {X : Cx} {e : Expr} {t u : TE} (h : PE X e t) (i : ∀ σ H Q, u σ H Q → t σ H Q) : PE X e u := fun pins s σ H Q I q => h pins s σ H Q I (i σ H Q q)
theorem PT.imp {X : Cx} {e : Expr} {t u : TT} (h : PT X e t) (i : ∀ σ H Q, u σ H Q → t σ H Q) : PT X e u := fun pins s σ H Q I q => h pins s σ H Q I (i σ H Q q)
theorem PS.imp {X : Cx} {e : Stmt} {t u : TS} (h : PS X e t) (i : ∀ D σ H, u D σ H → t D σ H) : PS X e u := fun pins s σ H D I q => h pins s σ H D I (i D σ H q)
theorem PE.or {X : Cx} {e : Expr} {t u : TE} (h : PE X e t) (h' : PE X e u) : PE X e (fun σ H Q => t σ H Q ∨ u σ H Q) := fun pins s σ H Q I q => q.elim (h pins s σ H Q I) (h' pins s σ H Q I)
theorem OpR.or {X : Cx} {op : Value → Value → Sem Value} {r r' : R2} (h : OpR X op r) (h' : OpR X op r') : OpR X op (fun x y H Q => r x y H Q ∨ r' x y H Q) := fun pins s σ H x y v u Q I rx ry q => q.elim (h pins s σ H x y v u Q I rx ry) (h' pins s σ H x y v u Q I rx ry)
abbrev SE (X : Cx) (b : BX) (G : List Nat) (m : Md) (e : Expr) (f : Env → Option PV) : Prop := PE X e (tM b G m f)
abbrev ST (X : Cx) (b : BX) (G : List Nat) (e : Expr) (f : Env → Option Bool) : Prop := PT X e (tMT b G f)
theorem SE.bor {X : Cx} {b : BX} {G : List Nat} {m : Md} {e : Expr} {f : Env → Option PV} (h : SE X b G m e f) : SE X b G .bor e f :=
  PE.imp h fun σ H Q ⟨Ow, env, p, E, hf, k⟩ => ⟨Ow, env, p, E, hf, fun v H' s r => k v H' s r.bor⟩
theorem SE.val {X : Cx} {b : BX} {G : List Nat} {e : Expr} {f : Env → Option PV} (h : SE X b G .own e f) : SE X b G .val e f :=
  PE.imp h fun σ H Q ⟨Ow, env, p, E, hf, k⟩ => ⟨Ow, env, p, E, hf, fun v H' s r => k v H' s (r.val E (by intro z; cases z))⟩
end MR

/-! ## the mirror: expressions -/
namespace MR
open PySem L2

/-! ### worths -/
def bC (p : PV) (env : Env) : Option PV := some p
@[simp] theorem bC_ap (p : PV) (env : Env) : bC p env = (some p) := id rfl
def bV (i : Nat) (env : Env) : Option PV := match env[i]? with | some o => o | none => none
@[simp] theorem bV_ap (i : Nat) (env : Env) : bV i env = (match env[i]? with | some o => o | none => none) := id rfl
def b1 (g : PV → Option PV) (f : Env → Option PV) (env : Env) : Option PV := (f env).bind g
@[simp] theorem b1_ap (g : PV → Option PV) (f : Env → Option PV) (env : Env) : b1 g f env = ((f env).bind g) := id rfl
def b2 (g : PV → PV → Option PV) (f h : Env → Option PV) (env : Env) : Option PV := (f env).bind fun x => (h env).bind fun y => g x y
@[simp] theorem b2_ap (g : PV → PV → Option PV) (f h : Env → Option PV) (env : Env) : b2 g f h env = ((f env).bind fun x => (h env).bind fun y => g x y) := id rfl
def b3 (g : PV → PV → PV → Option PV) (f h k : Env → Option PV) (env : Env) : Option PV := (f env).bind fun x => (h env).bind fun y => (k env).bind fun z => g x y z
@[simp] theorem b3_ap (g : PV → PV → PV → Option PV) (f h k : Env → Option PV) (env : Env) : b3 g f h k env = ((f env).bind fun x => (h env).bind fun y => (k env).bind fun z => g x y z) := id rfl
def bAnd (f g : Env → Option PV) (env : Env) : Option PV := (f env).bind fun x => match x with | .bl true => g env | .bl false => some (.bl false) | _ => none
@[simp] theorem bAnd_ap (f g : Env → Option PV) (env : Env) : bAnd f g env = ((f env).bind fun x => match x with | .bl true => g env | .bl false => some (.bl false) | _ => none) := id rfl
def bOr (f g : Env → Option PV) (env : Env) : Option PV := (f env).bind fun x => match x with | .bl true => some (.bl true) | .bl false => g env | _ => none
@[simp] theorem bOr_ap (f g : Env → Option PV) (env : Env) : bOr f g env = ((f env).bind fun x => match x with | .bl true => some (.bl true) | .bl false => g env | _ => none) := id rfl
def bNot (f : Env → Option PV) (env : Env) : Option PV := (f env).bind fun x => match x with | .bl c => some (.bl (!c)) | _ => none
@[simp] theorem bNot_ap (f : Env → Option PV) (env : Env) : bNot f env = ((f env).bind fun x => match x with | .bl c => some (.bl (!c)) | _ => none) := id rfl
def bIf (c : Env → Option Bool) (f g : Env → Option PV) (env : Env) : Option PV := (c env).bind fun x => if x = true then f env else g env
@[simp] theorem bIf_ap (c : Env → Option Bool) (f g : Env → Option PV) (env : Env) : bIf c f g env = ((c env).bind fun x => if x = true then f env else g env) := id rfl
def tV (f : Env → Option PV) (env : Env) : Option Bool := (f env).bind fun x => match x with | .bl c => some c | _ => none
@[simp] theorem tV_ap (f : Env → Option PV) (env : Env) : tV f env = ((f env).bind fun x => match x with | .bl c => some c | _ => none) := id rfl
def tA (f g : Env → Option Bool) (env : Env) : Option Bool := (f env).bind fun x => if x = true then g env else some false
@[simp] theorem tA_ap (f g : Env → Option Bool) (env : Env) : tA f g env = ((f env).bind fun x => if x = true then g env else some false) := id rfl
def tO (f g : Env → Option Bool) (env : Env) : Option Bool := (f env).bind fun x => if x = true then some true else g env
@[simp] theorem tO_ap (f g : Env → Option Bool) (env : Env) : tO f g env = ((f env).bind fun x => if x = true then some true else g env) := id rfl
def tN (f : Env → Option Bool) (env : Env) : Option Bool := (f env).bind fun x => some (!x)
@[simp] theorem tN_ap (f : Env → Option Bool) (env : Env) : tN f env = ((f env).bind fun x => some (!x)) := id rfl
def bNil (env : Env) : Option (List PV) := some []
@[simp] theorem bNil_ap (env : Env) : bNil env = (some []) := id rfl
def bCons (f : Env → Option PV) (g : Env → Option (List PV)) (env : Env) : Option (List PV) := (f env).bind fun x => (g env).bind fun xs => some (x :: xs)
@[simp] theorem bCons_ap (f : Env → Option PV) (g : Env → Option (List PV)) (env : Env) : bCons f g env = ((f env).bind fun x => (g env).bind fun xs => some (x :: xs)) := id rfl
def bLst (g : Env → Option (List PV)) (env : Env) : Option PV := (g env).bind fun xs => if xs.length ≤ 1000000 then some (.lst xs) else none
@[simp] theorem bLst_ap (g : Env → Option (List PV)) (env : Env) : bLst g env = ((g env).bind fun xs => if xs.length ≤ 1000000 then some (.lst xs) else none) := id rfl
def bTup (g : Env → Option (List PV)) (env : Env) : Option PV := (g env).bind fun xs => if xs.length ≤ 1000000 then some (.tup xs) else none
@[simp] theorem bTup_ap (g : Env → Option (List PV)) (env : Env) : bTup g env = ((g env).bind fun xs => if xs.length ≤ 1000000 then some (.tup xs) else none) := id rfl
def bCall (m : List PV → Option PV) (g : Env → Option (List PV)) (env : Env) : Option PV := (g env).bind m
@[simp] theorem bCall_ap (m : List PV → Option PV) (g : Env → Option (List PV)) (env : Env) : bCall m g env = ((g env).bind m) := id rfl

/-! ### two operands -/
section
variable {b : BX} {G : List Nat} {m : Md} {σ : St} {H : Hp} {Q : VK}
/-- what an operation must do with two values that are read -/
def Op2 (b : BX) (m : Md) (r : R2) (g : PV → PV → Option PV) : Prop := ∀ (Ow : Addr → Prop) (H : Hp) (v1 v2 : V) (p1 p2 p : PV) (Q : VK), (∀ a, H a = none → Bs b Ow a) → RepB b.C (Bs b Ow) H v1 p1 → RepB b.C (Bs b Ow) H v2 p2 → g p1 p2 = some p →
  (∀ v H', Same H H' → Res b Ow H H' m v p → Q v H') → r v1 v2 H Q
theorem tM_op {r : R2} {g : PV → PV → Option PV} {f1 f2 : Env → Option PV} (hr : Op2 b m r g) (h : tM b G m (b2 g f1 f2) σ H Q) : tOp r (tM b G .bor f1) (tM b G .bor f2) σ H Q := by
  obtain ⟨Ow, env, p, E, hf, k⟩ := h
  unfold b2 at hf
  cases h1 : f1 env with
  | none => rw [h1] at hf; cases hf
  | some p1 =>
    rw [h1] at hf
    cases h2 : f2 env with
    | none => rw [h2] at hf; cases hf
    | some p2 =>
      rw [h2] at hf
      exact ⟨Ow, env, p1, E, h1, fun v1 H1 s1 r1 => ⟨Ow, env, p2, E.up s1, h2, fun v2 H2 s2 r2 => hr Ow H2 v1 v2 p1 p2 p Q (fun a => (E.up (s1.trans s2)).fresh) (r1.up s2) r2 hf fun v H' s r => k v H' (s1.trans (s2.trans s)) (r.down (s1.trans s2))⟩⟩
def Op1 (b : BX) (m : Md) (r : V → Hp → VK → Prop) (g : PV → Option PV) : Prop := ∀ (Ow : Addr → Prop) (H : Hp) (v1 : V) (p1 p : PV) (Q : VK), (∀ a, H a = none → Bs b Ow a) → RepB b.C (Bs b Ow) H v1 p1 → g p1 = some p →
  (∀ v H', Same H H' → Res b Ow H H' m v p → Q v H') → r v1 H Q
theorem tM_un {r : V → Hp → VK → Prop} {g : PV → Option PV} {f1 : Env → Option PV} (hr : Op1 b m r g) (h : tM b G m (b1 g f1) σ H Q) : tM b G .bor f1 σ H fun x H1 => r x H1 Q := by
  obtain ⟨Ow, env, p, E, hf, k⟩ := h
  unfold b1 at hf
  cases h1 : f1 env with
  | none => rw [h1] at hf; cases hf
  | some p1 =>
    rw [h1] at hf
    exact ⟨Ow, env, p1, E, h1, fun v1 H1 s1 r1 => hr Ow H1 v1 p1 p Q (fun a => (E.up s1).fresh) r1 hf fun v H' s r => k v H' (s1.trans s) (r.down s1)⟩
end

/-! ### what the operations are worth -/
@[simp] def addV : PV → PV → Option PV
  | .int i, .int j => some (.int (i + j))
  | .str x, .str y => if x.length + y.length ≤ 1000000 then some (.str (x ++ y)) else none
  | .lst xs, .lst ys => if xs.length + ys.length ≤ 1000000 then some (.lst (xs ++ ys)) else none
  | _, _ => none
@[simp] def catV : PV → PV → Option PV
  | .lst xs, .lst ys => if xs.length + ys.length ≤ 1000000 then some (.lst (xs ++ ys)) else none
  | _, _ => none
@[simp] def subV : PV → PV → Option PV
  | .int i, .int j => some (.int (i - j))
  | _, _ => none
/-- small enough for a product -/
noncomputable def smI (i : Int) : Bool := @decide (-18446744073709551616 < i ∧ i < 18446744073709551616) (Classical.propDecidable _)
@[simp] noncomputable def mulV : PV → PV → Option PV
  | .int i, .int j => if (smI i || smI j) = true then some (.int (i * j)) else none
  | _, _ => none
@[simp] def divV : PV → PV → Option PV
  | .int i, .int j => if 0 < j ∧ j < 1073741824 then some (.int (i / j)) else none
  | _, _ => none
@[simp] def modV : PV → PV → Option PV
  | .int i, .int j => if 0 < j then some (.int (i % j)) else none
  | _, _ => none
@[simp] def powV : PV → PV → Option PV
  | .int i, .int j => if 0 ≤ j ∧ j ≤ 1000000 ∧ i.natAbs < 2 ^ 64 then some (.int (i ^ j.toNat)) else none
  | _, _ => none
@[simp] def cmpV (g : Int → Int → Bool) : PV → PV → Option PV
  | .int i, .int j => some (.bl (g i j))
  | _, _ => none
theorem line_le {n : Nat} (h : n ≤ 1000000) : n ≤ sizeLine := Nat.le_of_lt (le_line h)

section
variable {b : BX}
theorem o2_int0 {g : Int → Int → Int} {f : PV → PV → Option PV} (hf : ∀ x y p, f x y = some p → ∃ i j, x = .int i ∧ y = .int j ∧ p = .int (g i j)) : Op2 b .val (rI0 fun i j => .int (g i j)) f := by
  intro Ow H v1 v2 p1 p2 p Q hn r1 r2 e k
  obtain ⟨i, j, rfl, rfl, rfl⟩ := hf _ _ _ e
  rw [r1.int, r2.int]
  exact ⟨i, j, rfl, rfl, k _ H (Same.refl _) (.int _)⟩
theorem o2_cmp {g : Int → Int → Bool} : Op2 b .val (rI0 fun i j => .bl (g i j)) (cmpV g) := by
  intro Ow H v1 v2 p1 p2 p Q hn r1 r2 e k
  unfold cmpV at e
  split at e
  · cases e
    rw [r1.int, r2.int]
    exact ⟨_, _, rfl, rfl, k _ H (Same.refl _) (.bl _)⟩
  · cases e
theorem o2_sub : Op2 b .val (rI0 fun i j => .int (i - j)) subV := o2_int0 fun x y p e => by
  unfold subV at e
  split at e
  · cases e; exact ⟨_, _, rfl, rfl, rfl⟩
  · cases e
theorem o2_div : Op2 b .val (rI CDiv fun i j => .int (i / j)) divV := by
  intro Ow H v1 v2 p1 p2 p Q hn r1 r2 e k
  unfold divV at e
  split at e
  · split at e
    · rename_i h
      cases e
      rw [r1.int, r2.int]
      exact ⟨_, _, rfl, rfl, h, k _ H (Same.refl _) (.int _)⟩
    · cases e
  · cases e
theorem o2_mod : Op2 b .val (rI (fun _ j => 0 < j) fun i j => .int (i % j)) modV := by
  intro Ow H v1 v2 p1 p2 p Q hn r1 r2 e k
  unfold modV at e
  split at e
  · split at e
    · rename_i h
      cases e
      rw [r1.int, r2.int]
      exact ⟨_, _, rfl, rfl, h, k _ H (Same.refl _) (.int _)⟩
    · cases e
  · cases e
end
/-- a new list -/
theorem res_new {b : BX} {Ow : Addr → Prop} {H : Hp} {a : Addr} {vs : List V} {xs : List PV} (h : H a = none) (r : Reps b.C (Bs b Ow) H vs xs) : Res b Ow H (upd H a (.lst vs)) .own (.ref a) (.lst xs) := by
  refine ⟨a, rfl, h, vs, upd_same, r.ex fun c o e => ?_⟩
  have hc : c ≠ a := ne_of_none e h
  exact ⟨fun q => ⟨by rw [upd_ne hc]; exact e, q, hc⟩, fun _ => by rw [upd_ne hc]; exact e⟩
theorem res_tup {b : BX} {Ow : Addr → Prop} {H H0 : Hp} {a : Addr} {vs : List V} {xs : List PV} (h : H a = none) (r : Reps b.C (Bs b Ow) H vs xs) : Res b Ow H0 (upd H a (.tup vs)) .val (.ref a) (.tup xs) :=
  Rep.tup upd_same (r.ex (.of_same (same_new h _)))


section
variable {b : BX}
theorem o2_add : Op2 b .val (fun x y H Q => (rI0 (fun i j => .int (i + j)) x y H Q ∨ ∃ i j, x = .str i ∧ y = .str j ∧ i.length + j.length ≤ sizeLine ∧ Q (.str (i ++ j)) H) ∨ rCat x y H Q) addV := by
  intro Ow H v1 v2 p1 p2 p Q hn r1 r2 e k
  unfold addV at e
  split at e
  · cases e
    rw [r1.int, r2.int]
    exact .inl (.inl ⟨_, _, rfl, rfl, k _ H (Same.refl _) (.int _)⟩)
  · split at e
    · rename_i h
      cases e
      rw [r1.str, r2.str]
      exact .inl (.inr ⟨_, _, rfl, rfl, line_le h, k _ H (Same.refl _) (.str _)⟩)
    · cases e
  · split at e
    · rename_i h
      cases e
      obtain ⟨a, vs, rfl, ha, ra⟩ := r1.lst
      obtain ⟨c, us, rfl, hc, rc⟩ := r2.lst
      exact .inr ⟨a, c, vs, us, rfl, rfl, ha, hc, line_le (by rw [ra.length, rc.length]; exact h), fun q hq => k _ _ (same_new hq _) (.lst upd_same (hn q hq) ((ra.append rc).ex (.of_same (same_new hq _))))⟩
    · cases e
  · cases e
theorem o2_cat : Op2 b .own rCat catV := by
  intro Ow H v1 v2 p1 p2 p Q hn r1 r2 e k
  unfold catV at e
  split at e
  · split at e
    · rename_i h
      cases e
      obtain ⟨a, vs, rfl, ha, ra⟩ := r1.lst
      obtain ⟨c, us, rfl, hc, rc⟩ := r2.lst
      refine ⟨a, c, vs, us, rfl, rfl, ha, hc, line_le (by rw [ra.length, rc.length]; exact h), fun q hq => k _ _ (same_new hq _) (res_new hq (ra.append rc))⟩
    · cases e
  · cases e
end

section
variable {X : Cx} {b : BX} {G : List Nat} {m : Md} {e e1 e2 : Expr} {f f1 f2 : Env → Option PV} {pos : Pos}
/-! ### names, constants -/
theorem se_int {i j pos} : SE X b G .val (.Constant (.int i) j pos) (bC (.int i)) := PE.imp pe_int fun σ H Q ⟨Ow, env, p, E, hf, k⟩ => by cases hf; exact k _ H (Same.refl _) (.int i)
theorem se_bl {i j pos} : SE X b G .val (.Constant (.bool i) j pos) (bC (.bl i)) := PE.imp pe_bl fun σ H Q ⟨Ow, env, p, E, hf, k⟩ => by cases hf; exact k _ H (Same.refl _) (.bl i)
theorem se_str {i j pos} : SE X b G .val (.Constant (.str i) j pos) (bC (.str i)) := PE.imp pe_str fun σ H Q ⟨Ow, env, p, E, hf, k⟩ => by cases hf; exact k _ H (Same.refl _) (.str i)
theorem se_non {j pos} : SE X b G .val (.Constant .none j pos) (bC .non) := PE.imp pe_non fun σ H Q ⟨Ow, env, p, E, hf, k⟩ => by cases hf; exact k _ H (Same.refl _) .non
theorem bV_some {i : Nat} {env : Env} {p : PV} (h : bV i env = some p) : env[i]? = some (some p) := by
  unfold bV at h
  split at h
  · rename_i o e; rw [e, h]
  · cases h
theorem se_v (i : Nat) {x : Str} {pos : Pos} (hN : X.N[i]? = some x := by rfl) (hv : Vis X.env.scope x := by first | exact Or.inl rfl | exact Or.inr (Or.inl rfl) | exact Or.inr (Or.inr rfl)) (hG : i ∉ G := by decide) (hd : (x == ("__debug__" : Str)) = false := by decide)
    (hcd : (x == ("__classdict__" : Str)) = false := by decide) : SE X b G .val (.Name x pos) (bV i) := PE.imp (pe_var hN hv hd hcd) fun σ H Q ⟨Ow, env, p, E, hf, k⟩ => by
  obtain ⟨v, e, r⟩ := E.val i p (bV_some hf) hG
  exact ⟨v, e, k v H (Same.refl _) r⟩
theorem se_b (i : Nat) {x : Str} {pos : Pos} (hN : X.N[i]? = some x := by rfl) (hv : Vis X.env.scope x := by first | exact Or.inl rfl | exact Or.inr (Or.inl rfl) | exact Or.inr (Or.inr rfl)) (hd : (x == ("__debug__" : Str)) = false := by decide)
    (hcd : (x == ("__classdict__" : Str)) = false := by decide) : SE X b G .bor (.Name x pos) (bV i) := PE.imp (pe_var hN hv hd hcd) fun σ H Q ⟨Ow, env, p, E, hf, k⟩ => by
  by_cases hG : i ∈ G
  · obtain ⟨a, e, _, t⟩ := E.own i p (bV_some hf) hG
    exact ⟨_, e, k _ H (Same.refl _) (.inr ⟨a, rfl, t⟩)⟩
  · obtain ⟨v, e, r⟩ := E.val i p (bV_some hf) hG
    exact ⟨v, e, k v H (Same.refl _) (.inl r)⟩
theorem se_gS {x z : Str} {t : Tok} {pos : Pos} (hm : X.mg x = some (.str z t)) (hg : Gl X x := by rfl) (hd : (x == ("__debug__" : Str)) = false := by decide) : SE X b G .val (.Name x pos) (bC (.str z)) :=
  PE.imp (pe_glob hg hm (v := .str z) ⟨_, rfl⟩ hd) fun σ H Q ⟨Ow, env, p, E, hf, k⟩ => by cases hf; exact k _ H (Same.refl _) (.str z)
theorem se_gI {x : Str} {i : Int} {t : Tok} {pos : Pos} (hm : X.mg x = some (.int i t)) (hg : Gl X x := by rfl) (hd : (x == ("__debug__" : Str)) = false := by decide) : SE X b G .val (.Name x pos) (bC (.int i)) :=
  PE.imp (pe_glob hg hm (v := .int i) ⟨_, rfl⟩ hd) fun σ H Q ⟨Ow, env, p, E, hf, k⟩ => by cases hf; exact k _ H (Same.refl _) (.int i)
theorem se_gR {x : Str} {a : Addr} {q : PV} {pos : Pos} (hm : X.mg x = some (.ref a)) (hr : ∀ A H, Rep b.C A H (.ref a) q) (hg : Gl X x := by rfl) (hd : (x == ("__debug__" : Str)) = false := by decide) : SE X b G .val (.Name x pos) (bC q) :=
  PE.imp (pe_glob hg hm (v := .ref a) rfl hd) fun σ H Q ⟨Ow, env, p, E, hf, k⟩ => by cases hf; exact k _ H (Same.refl _) (hr _ _)

/-! ### arithmetic -/
theorem se_op {op : Operator} {r : R2} {g : PV → PV → Option PV} (ho : OpR X (binaryOp op) r) (hr : Op2 b m r g) {m1 m2 : Md} (h1 : SE X b G m1 e1 f1) (h2 : SE X b G m2 e2 f2) : SE X b G m (.BinOp e1 op e2 pos) (b2 g f1 f2) :=
  PE.imp (pe_op ho h1.bor h2.bor) fun σ H Q h => tM_op hr h
theorem se_add {m1 m2 : Md} (h1 : SE X b G m1 e1 f1) (h2 : SE X b G m2 e2 f2) : SE X b G .val (.BinOp e1 .Add e2 pos) (b2 addV f1 f2) := se_op (OpR.or (OpR.or op_add op_add_str) op_cat) o2_add h1 h2
theorem se_cat {m1 m2 : Md} (h1 : SE X b G m1 e1 f1) (h2 : SE X b G m2 e2 f2) : SE X b G .own (.BinOp e1 .Add e2 pos) (b2 catV f1 f2) := se_op op_cat o2_cat h1 h2
theorem se_sub {m1 m2 : Md} (h1 : SE X b G m1 e1 f1) (h2 : SE X b G m2 e2 f2) : SE X b G .val (.BinOp e1 .Sub e2 pos) (b2 subV f1 f2) := se_op op_sub o2_sub h1 h2
theorem se_div {m1 m2 : Md} (h1 : SE X b G m1 e1 f1) (h2 : SE X b G m2 e2 f2) : SE X b G .val (.BinOp e1 .FloorDiv e2 pos) (b2 divV f1 f2) := se_op op_fdiv o2_div h1 h2
theorem se_mod {m1 m2 : Md} (h1 : SE X b G m1 e1 f1) (h2 : SE X b G m2 e2 f2) : SE X b G .val (.BinOp e1 .Mod e2 pos) (b2 modV f1 f2) := se_op op_mod o2_mod h1 h2
end
end MR

/-! ## the mirror: comparisons, tests, displays, items -/
namespace MR
open PySem L2

/-! ### equality -/
@[simp] def eqS : PV → PV → Option Bool
  | .non, .non => some true
  | .non, .int _ => some false | .int _, .non => some false | .non, .bl _ => some false | .bl _, .non => some false | .non, .str _ => some false | .str _, .non => some false
  | .int i, .int j => some (decide (i = j))
  | .bl i, .bl j => some (decide (i = j))
  | .str i, .str j => some (decide (i = j))
  | .int _, .str _ => some false | .str _, .int _ => some false | .bl _, .str _ => some false | .str _, .bl _ => some false
  | _, _ => none
mutual
def toD : PV → Option PyData
  | .non => some .none
  | .bl b => some (.bool b)
  | .int i => some (.int i)
  | .str x => some (.str x)
  | .lst xs => (toDs xs).map .list
  | .frz xs => (toDs xs).map .list
  | .tup xs => (toDs xs).map .tuple
  | .ktp xs => (toDs xs).map .tuple
  | _ => none
def toDs : List PV → Option (List PyData)
  | [] => some []
  | x :: xs => match toD x, toDs xs with
    | some d, some ds => some (d :: ds)
    | _, _ => none
end
def eqD (x y : PV) : Option Bool := match toD x, toD y with
  | some d, some e => if SeqAt.shaped d = true ∧ SeqAt.shaped e = true then some (PyData.eqv d e) else none
  | _, _ => none
def eqP (x y : PV) : Option Bool := match eqS x y with
  | some k => some k
  | none => eqD x y
def eqQ (x y : PV) : Option PV := (eqP x y).map .bl
@[simp] theorem eqQ_ap (x y : PV) : eqQ x y = ((eqP x y).map .bl) := id rfl
def neQ (x y : PV) : Option PV := (eqP x y).map fun k => .bl (!k)
@[simp] theorem neQ_ap (x y : PV) : neQ x y = ((eqP x y).map fun k => .bl (!k)) := id rfl

mutual
theorem Rep.dt {C : MC} {A : Addr → Prop} {H : Hp} : ∀ {v : V} {p : PV} {d : PyData}, Rep C A H v p → toD p = some d → Dt C.K H v d
  | _, _, _, .non, e => by simp only [toD] at e; cases e; exact .non
  | _, _, _, .bl b, e => by simp only [toD] at e; cases e; exact .bl b
  | _, _, _, .int b, e => by simp only [toD] at e; cases e; exact .int b
  | _, _, _, .str b, e => by simp only [toD] at e; cases e; exact .str b
  | _, _, _, .lst (xs := xs) h _ r, e => by
    simp only [toD] at e
    cases q : toDs xs with
    | none => rw [q] at e; cases e
    | some ds => rw [q] at e; cases e; exact .lst (SqL.of h) (Reps.dt r q)
  | _, _, _, .lstF (xs := xs) h r, e => by
    simp only [toD] at e
    cases q : toDs xs with
    | none => rw [q] at e; cases e
    | some ds => rw [q] at e; cases e; exact .lst (.inl (.inr ⟨_, h⟩)) (Reps.dt r q)
  | _, _, _, .lstK (xs := xs) h r, e => by
    simp only [toD] at e
    cases q : toDs xs with
    | none => rw [q] at e; cases e
    | some ds => rw [q] at e; cases e; exact .lst (sqK h) (Reps.dt r q)
  | _, _, _, .tup (xs := xs) h r, e => by
    simp only [toD] at e
    cases q : toDs xs with
    | none => rw [q] at e; cases e
    | some ds => rw [q] at e; cases e; exact .tup (SqT.of h) (Reps.dt r q)
  | _, _, _, .tupK (xs := xs) h r, e => by
    simp only [toD] at e
    cases q : toDs xs with
    | none => rw [q] at e; cases e
    | some ds => rw [q] at e; cases e; exact .tup (sqTK h) (Reps.dt r q)
  | _, _, _, .dK h _ r, e => by simp only [toD] at e; cases e
  | _, _, _, .dT h _ r, e => by simp only [toD] at e; cases e
  | _, _, _, .obj h _ r, e => by simp only [toD] at e; cases e
theorem Reps.dt {C : MC} {A : Addr → Prop} {H : Hp} : ∀ {v : List V} {p : List PV} {d : List PyData}, Reps C A H v p → toDs p = some d → Dts C.K H v d
  | _, _, _, .nil, e => by simp only [toDs] at e; cases e; exact .nil
  | _, _, _, .cons (p := p) (ps := ps) h t, e => by
    simp only [toDs] at e
    cases q : toD p with
    | none => rw [q] at e; cases e
    | some d =>
      cases q2 : toDs ps with
      | none => rw [q, q2] at e; cases e
      | some ds => rw [q, q2] at e; cases e; exact .cons (Rep.dt h q) (Reps.dt t q2)
end
theorem RepB.dt {C : MC} {A : Addr → Prop} {H : Hp} {v : V} {p : PV} {d : PyData} (h : RepB C A H v p) (e : toD p = some d) : Dt C.K H v d := by
  rcases h with h | ⟨a, rfl, t⟩
  · exact h.dt e
  · cases p with
    | lst xs =>
      obtain ⟨vs, q, r⟩ := t
      exact (Rep.lst (A := fun _ => True) q True.intro (r.ex (ex_weak fun _ _ _ _ => True.intro))).dt e
    | dK kvs => simp only [toD] at e; cases e
    | dT kvs => simp only [toD] at e; cases e
    | obj c fs => simp only [toD] at e; cases e
    | _ => exact t.elim
theorem eqS_scal {C : MC} {A : Addr → Prop} {H : Hp} {v u : V} {p q : PV} {k : Bool} (h : RepB C A H v p) (h' : RepB C A H u q) (e : eqS p q = some k) : scal v u = true ∧ decide (v = u) = k := by
  unfold eqS at e
  split at e <;> first | cases e | skip
  · rw [h.non, h'.non]; exact ⟨rfl, rfl⟩
  · rw [h.non, h'.int]; exact ⟨rfl, rfl⟩
  · rw [h.int, h'.non]; exact ⟨rfl, rfl⟩
  · rw [h.non, h'.bl]; exact ⟨rfl, rfl⟩
  · rw [h.bl, h'.non]; exact ⟨rfl, rfl⟩
  · rw [h.non, h'.str]; exact ⟨rfl, rfl⟩
  · rw [h.str, h'.non]; exact ⟨rfl, rfl⟩
  · rw [h.int, h'.int]; exact ⟨rfl, by simp⟩
  · rw [h.bl, h'.bl]; exact ⟨rfl, by simp⟩
  · rw [h.str, h'.str]; exact ⟨rfl, by simp⟩
  · rw [h.int, h'.str]; exact ⟨rfl, rfl⟩
  · rw [h.str, h'.int]; exact ⟨rfl, rfl⟩
  · rw [h.bl, h'.str]; exact ⟨rfl, rfl⟩
  · rw [h.str, h'.bl]; exact ⟨rfl, rfl⟩

def rEqA (K : PySem.W.Frag) : R2 := fun x y H Q => rEq x y H Q ∨ ∃ d e, Dt K H x d ∧ Dt K H y e ∧ SeqAt.shaped d = true ∧ SeqAt.shaped e = true ∧ Q (.bl (PyData.eqv d e)) H
def rNeA (K : PySem.W.Frag) : R2 := fun x y H Q => rNe x y H Q ∨ ∃ d e, Dt K H x d ∧ Dt K H y e ∧ SeqAt.shaped d = true ∧ SeqAt.shaped e = true ∧ Q (.bl (!PyData.eqv d e)) H
section
variable {b : BX}
theorem o2_eq : Op2 b .val (rEqA b.C.K) eqQ := by
  intro Ow H v1 v2 p1 p2 p Q hn r1 r2 e k
  unfold eqQ eqP at e
  cases q : eqS p1 p2 with
  | some c =>
    rw [q] at e
    cases e
    obtain ⟨h1, h2⟩ := eqS_scal r1 r2 q
    exact .inl ⟨h1, by rw [h2]; exact k _ H (Same.refl _) (.bl c)⟩
  | none =>
    rw [q] at e
    simp only [eqD] at e
    cases q1 : toD p1 with
    | none => rw [q1] at e; cases e
    | some d =>
      cases q2 : toD p2 with
      | none => rw [q1, q2] at e; cases e
      | some d' =>
        rw [q1, q2] at e
        simp only at e
        split at e
        · rename_i hs
          cases e
          exact .inr ⟨d, d', r1.dt q1, r2.dt q2, hs.1, hs.2, k _ H (Same.refl _) (.bl _)⟩
        · cases e
theorem o2_ne : Op2 b .val (rNeA b.C.K) neQ := by
  intro Ow H v1 v2 p1 p2 p Q hn r1 r2 e k
  unfold neQ eqP at e
  cases q : eqS p1 p2 with
  | some c =>
    rw [q] at e
    cases e
    obtain ⟨h1, h2⟩ := eqS_scal r1 r2 q
    exact .inl ⟨h1, by rw [h2]; exact k _ H (Same.refl _) (.bl _)⟩
  | none =>
    rw [q] at e
    simp only [eqD] at e
    cases q1 : toD p1 with
    | none => rw [q1] at e; cases e
    | some d =>
      cases q2 : toD p2 with
      | none => rw [q1, q2] at e; cases e
      | some d' =>
        rw [q1, q2] at e
        simp only at e
        split at e
        · rename_i hs
          cases e
          exact .inr ⟨d, d', r1.dt q1, r2.dt q2, hs.1, hs.2, k _ H (Same.refl _) (.bl _)⟩
        · cases e
end

/-! ### in -/
@[simp] def keyOf : PV → Option Key
  | .int i => some (.inl i)
  | .str x => some (.inr x)
  | _ => none
@[simp] def keysOf : List PV → Option (List Key)
  | [] => some []
  | x :: xs => match keyOf x, keysOf xs with
    | some k, some ks => some (k :: ks)
    | _, _ => none
@[simp] def flatP : PV → Bool
  | .non => true
  | .bl _ => true
  | .int _ => true
  | .str _ => true
  | _ => false
def eqF : PV → PV → Bool
  | .non, .non => true
  | .bl a, .bl b => a == b
  | .bl a, .int b => (if a then 1 else 0) == b
  | .int a, .bl b => a == (if b then 1 else 0)
  | .int a, .int b => a == b
  | .str a, .str b => a == b
  | _, _ => false
def dLook {κ : Type} [DecidableEq κ] (kvs : List (κ × PV)) (k : κ) : Option PV := (kvs.find? fun x => decide (x.1 = k)).map (·.2)
/-- x in ys, by data -/
def inD (x : PV) (ys : List PV) : Option Bool := match toD x, toDs ys with
  | some d, some ds => if PyData.canLayAll0 ds = true ∧ d.canLay0 = true ∧ d.depth ≤ 32 then some (ds.any fun y => PyData.eqv y d) else none
  | _, _ => none
theorem inD_some {x : PV} {ys : List PV} {k : Bool} (h : inD x ys = some k) : ∃ d ds, toD x = some d ∧ toDs ys = some ds ∧ PyData.canLayAll0 ds = true ∧ d.canLay0 = true ∧ d.depth ≤ 32 ∧ (ds.any fun y => PyData.eqv y d) = k := by
  unfold inD at h
  split at h
  · rename_i d ds h1 h2
    split at h
    · rename_i hc
      exact ⟨d, ds, h1, h2, hc.1, hc.2.1, hc.2.2, Option.some.inj h⟩
    · cases h
  · cases h
def inP : PV → PV → Option Bool
  | x, .lst ys => if flatP x = true ∧ ys.all flatP = true then some (ys.any fun y => eqF y x) else inD x ys
  | x, .frz ys => if flatP x = true ∧ ys.all flatP = true then some (ys.any fun y => eqF y x) else inD x ys
  | x, .ktp ys => if flatP x = true ∧ ys.all flatP = true then some (ys.any fun y => eqF y x) else inD x ys
  | x, .tup ys => if flatP x = true ∧ ys.all flatP = true then some (ys.any fun y => eqF y x) else inD x ys
  | .str x, .str y => some (!(Builtin.Str.occurrences y x 0 y.length 1).isEmpty)
  | x, .dK kvs => (keyOf x).map fun k => (dLook kvs k).isSome
  | .tup xs, .dT kvs => (keysOf xs).map fun k => (dLook kvs k).isSome
  | _, _ => none

theorem Reps.keys {C : MC} {A : Addr → Prop} {H : Hp} : ∀ {vs : List V} {ps : List PV} {ks : List Key}, Reps C A H vs ps → keysOf ps = some ks → vs = ks.map kV
  | _, _, _, .nil, e => by cases e; rfl
  | _, _, _, .cons (p := p) (ps := ps) h t, e => by
    unfold keysOf at e
    cases q : keyOf p with
    | none => rw [q] at e; cases e
    | some k =>
      cases q2 : keysOf ps with
      | none => rw [q, q2] at e; cases e
      | some ks =>
        rw [q, q2] at e
        cases e
        have ih := Reps.keys t q2
        rw [List.map_cons, ih]
        congr 1
        unfold keyOf at q
        split at q <;> cases q <;> cases h <;> rfl
theorem RepB.key {C : MC} {A : Addr → Prop} {H : Hp} {v : V} {p : PV} {k : Key} (h : RepB C A H v p) (e : keyOf p = some k) : v = kV k := by
  unfold keyOf at e
  split at e
  · cases e; exact h.int
  · cases e; exact h.str
  · cases e
theorem RepB.flat {C : MC} {A : Addr → Prop} {H : Hp} {v : V} {p : PV} (h : RepB C A H v p) (e : flatP p = true) : flatV v = true := by
  unfold flatP at e
  split at e
  · rw [h.non]; rfl
  · rw [h.bl]; rfl
  · rw [h.int]; rfl
  · rw [h.str]; rfl
  · cases e
def fV : PV → V
  | .bl b => .bl b
  | .int i => .int i
  | .str x => .str x
  | _ => .non
theorem RepB.fV {C : MC} {A : Addr → Prop} {H : Hp} {v : V} {p : PV} (h : RepB C A H v p) (e : flatP p = true) : v = fV p := by
  cases p with
  | non => exact h.non
  | bl b => exact h.bl
  | int i => exact h.int
  | str x => exact h.str
  | _ => cases e
theorem eqF_V (p q : PV) (hp : flatP p = true) (hq : flatP q = true) : L2.eqV (fV p) (fV q) = eqF p q := by
  cases p <;> cases q <;> first | rfl | (cases hp; done) | (cases hq; done)
theorem Reps.flat {C : MC} {A : Addr → Prop} {H : Hp} {v : V} {p : PV} (h : RepB C A H v p) (e : flatP p = true) : ∀ {vs : List V} {ps : List PV}, Reps C A H vs ps → ps.all flatP = true → vs.all flatV = true ∧ inV v vs = ps.any fun y => eqF y p
  | _, _, .nil, _ => ⟨rfl, rfl⟩
  | _, _, .cons (v := v') (p := p') (vs := vs) (ps := ps) q t, e' => by
    rw [List.all_cons, Bool.and_eq_true] at e'
    obtain ⟨h1, h2⟩ := Reps.flat h e t e'.2
    have hf : flatV v' = true := RepB.flat (.inl q) e'.1
    refine ⟨by rw [List.all_cons, hf, h1]; rfl, ?_⟩
    unfold inV at h2 ⊢
    rw [List.any_cons, List.any_cons, h2]
    have q1 := h.fV e
    have q2 := RepB.fV (.inl q) e'.1
    rw [q1, q2, eqF_V _ _ e'.1 e]

section
variable {X : Cx}
theorem op_din (hu : X.A.units + 1 < cLine) : OpR X (compareOp .In) (fun x y H Q => ∃ a o, y = .ref a ∧ DGet H a x o ∧ Q (.bl o.isSome) H) := by
  intro pins s σ H x y v u Q I rx ry h
  obtain ⟨a, o, rfl, g, q⟩ := h
  obtain rfl : u = Value.ref a := ry
  exact d_in hu I g rx fun s3 I3 => ⟨.bl o.isSome, H, I3, rfl, q⟩
def rInD (K : PySem.W.Frag) (neg : Bool) : R2 := fun x y H Q => ∃ d ds, (Dt K H y (.list ds) ∨ Dt K H y (.tuple ds)) ∧ Dt K H x d ∧ PyData.canLayAll0 ds = true ∧ d.canLay0 = true ∧ d.depth ≤ 32 ∧ Q (.bl (if neg then !(ds.any fun y => PyData.eqv y d) else ds.any fun y => PyData.eqv y d)) H
theorem op_inD (hu : X.A.units + 64 < cLine) : OpR X (compareOp .In) (rInD X.K false) := by
  intro pins s σ H x y v u Q I rx ry h
  obtain ⟨d, ds, h1, h2, c1, c2, c3, q⟩ := h
  have hm : min (PyData.depthAll ds) d.depth ≤ d.depth := Nat.min_le_right _ _
  obtain ⟨as, ra⟩ := h2.reads I rx
  rcases h1 with h1 | h1
  · obtain ⟨bs, rb⟩ := h1.reads I ry
    exact PySem.SeqAt.in_list_reads rb ra c1 c2 (by omega) ⟨.bl _, H, I, rfl, q⟩
  · obtain ⟨bs, rb⟩ := h1.reads I ry
    exact PySem.SeqAt.in_tuple_reads rb ra c1 c2 (by omega) ⟨.bl _, H, I, rfl, q⟩
theorem op_notInD (hu : X.A.units + 64 < cLine) : OpR X (compareOp .NotIn) (rInD X.K true) := by
  intro pins s σ H x y v u Q I rx ry h
  obtain ⟨d, ds, h1, h2, c1, c2, c3, q⟩ := h
  have hm : min (PyData.depthAll ds) d.depth ≤ d.depth := Nat.min_le_right _ _
  obtain ⟨as, ra⟩ := h2.reads I rx
  rcases h1 with h1 | h1
  · obtain ⟨bs, rb⟩ := h1.reads I ry
    exact PySem.SeqAt.notIn_list_reads rb ra c1 c2 (by omega) ⟨.bl _, H, I, rfl, q⟩
  · obtain ⟨bs, rb⟩ := h1.reads I ry
    exact PySem.SeqAt.notIn_tuple_reads rb ra c1 c2 (by omega) ⟨.bl _, H, I, rfl, q⟩
theorem op_dnotin (hu : X.A.units + 1 < cLine) : OpR X (compareOp .NotIn) (fun x y H Q => ∃ a o, y = .ref a ∧ DGet H a x o ∧ Q (.bl (!o.isSome)) H) := by
  intro pins s σ H x y v u Q I rx ry h
  obtain ⟨a, o, rfl, g, q⟩ := h
  obtain rfl : u = Value.ref a := ry
  exact d_notIn hu I g rx fun s3 I3 => ⟨.bl (!o.isSome), H, I3, rfl, q⟩
end
def rInA (K : PySem.W.Frag) : R2 := fun x y H Q => (rIn K false x y H Q ∨ ∃ i j, x = .str i ∧ y = .str j ∧ Q (.bl (!(Builtin.Str.occurrences j i 0 j.length 1).isEmpty)) H) ∨ (∃ a o, y = .ref a ∧ DGet H a x o ∧ Q (.bl o.isSome) H) ∨ rInD K false x y H Q
def rNotInA (K : PySem.W.Frag) : R2 := fun x y H Q => (rIn K true x y H Q ∨ ∃ i j, x = .str i ∧ y = .str j ∧ Q (.bl (!(!(Builtin.Str.occurrences j i 0 j.length 1).isEmpty))) H) ∨ (∃ a o, y = .ref a ∧ DGet H a x o ∧ Q (.bl (!o.isSome)) H) ∨ rInD K true x y H Q
def inQ (x y : PV) : Option PV := (inP x y).map .bl
@[simp] theorem inQ_ap (x y : PV) : inQ x y = ((inP x y).map .bl) := id rfl
def notInQ (x y : PV) : Option PV := (inP x y).map fun k => .bl (!k)
@[simp] theorem notInQ_ap (x y : PV) : notInQ x y = ((inP x y).map fun k => .bl (!k)) := id rfl
/-- what in is worth, with what is wanted of it -/
theorem in_gen {C : MC} {A : Addr → Prop} {H : Hp} {v1 v2 : V} {p1 p2 : PV} {k : Bool} (r1 : RepB C A H v1 p1) (r2 : RepB C A H v2 p2) (e : inP p1 p2 = some k) :
    (∃ p xs, v2 = .ref p ∧ (SqL C.K H p xs ∨ SqT C.K H p xs) ∧ flatV v1 = true ∧ xs.all flatV = true ∧ inV v1 xs = k) ∨ (∃ i j, v1 = .str i ∧ v2 = .str j ∧ (!(Builtin.Str.occurrences j i 0 j.length 1).isEmpty) = k) ∨ (∃ a o, v2 = .ref a ∧ DGet H a v1 o ∧ o.isSome = k) ∨ ∃ d ds, (Dt C.K H v2 (.list ds) ∨ Dt C.K H v2 (.tuple ds)) ∧ Dt C.K H v1 d ∧ PyData.canLayAll0 ds = true ∧ d.canLay0 = true ∧ d.depth ≤ 32 ∧ (ds.any fun y => PyData.eqv y d) = k := by
  unfold inP at e
  split at e
  · split at e
    · rename_i h
      cases e
      obtain ⟨a, vs, rfl, ha, ra⟩ := r2.lst
      obtain ⟨h1, h2⟩ := Reps.flat r1 h.1 ra h.2
      exact .inl ⟨a, vs, rfl, .inl (SqL.of ha), r1.flat h.1, h1, h2⟩
    · obtain ⟨d, ds, t1, t2, c1, c2, c3, c4⟩ := inD_some e
      exact .inr (.inr (.inr ⟨d, ds, .inl (r2.dt (by simp [toD, t2])), r1.dt t1, c1, c2, c3, c4⟩))
  · split at e
    · rename_i h
      cases e
      obtain ⟨a, vs, rfl, ha, ra⟩ := r2.frz
      obtain ⟨h1, h2⟩ := Reps.flat r1 h.1 ra h.2
      exact .inl ⟨a, vs, rfl, .inl ha, r1.flat h.1, h1, h2⟩
    · obtain ⟨d, ds, t1, t2, c1, c2, c3, c4⟩ := inD_some e
      exact .inr (.inr (.inr ⟨d, ds, .inl (r2.dt (by simp [toD, t2])), r1.dt t1, c1, c2, c3, c4⟩))
  · split at e
    · rename_i h
      cases e
      obtain ⟨a, vs, rfl, ha, ra⟩ := r2.ktp
      obtain ⟨h1, h2⟩ := Reps.flat r1 h.1 ra h.2
      exact .inl ⟨a, vs, rfl, .inr ha, r1.flat h.1, h1, h2⟩
    · obtain ⟨d, ds, t1, t2, c1, c2, c3, c4⟩ := inD_some e
      exact .inr (.inr (.inr ⟨d, ds, .inr (r2.dt (by simp [toD, t2])), r1.dt t1, c1, c2, c3, c4⟩))
  · split at e
    · rename_i h
      cases e
      obtain ⟨a, vs, rfl, ha, ra⟩ := r2.tup
      obtain ⟨h1, h2⟩ := Reps.flat r1 h.1 ra h.2
      exact .inl ⟨a, vs, rfl, .inr (SqT.of ha), r1.flat h.1, h1, h2⟩
    · obtain ⟨d, ds, t1, t2, c1, c2, c3, c4⟩ := inD_some e
      exact .inr (.inr (.inr ⟨d, ds, .inr (r2.dt (by simp [toD, t2])), r1.dt t1, c1, c2, c3, c4⟩))
  · cases e
    exact .inr (.inl ⟨_, _, r1.str, r2.str, rfl⟩)
  · obtain ⟨a, kv, rfl, ha, ra⟩ := r2.dK
    cases q : keyOf p1 with
    | none => rw [q] at e; cases e
    | some ky =>
      rw [q] at e
      cases e
      rw [r1.key q]
      refine .inr (.inr (.inl ⟨a, _, rfl, DGet.k ha, ?_⟩))
      unfold dLook
      dsimp only
      rcases RepK.val (k := ky) ra with ⟨v, p, h1, h2, _⟩ | ⟨h1, h2⟩
      · rw [h1, h2]; rfl
      · rw [h1, h2]; rfl
  · rename_i xs kvs
    obtain ⟨a, kv, rfl, ha, ra⟩ := r2.dT
    obtain ⟨c, vs, rfl, hc, rc⟩ := r1.tup
    cases q : keysOf xs with
    | none => rw [q] at e; cases e
    | some ky =>
      rw [q] at e
      cases e
      have hv := rc.keys q
      subst hv
      refine .inr (.inr (.inl ⟨a, _, rfl, DGet.t ha hc, ?_⟩))
      unfold dLook
      dsimp only
      rcases RepT.val (k := ky) ra with ⟨v, p, h1, h2, _⟩ | ⟨h1, h2⟩
      · rw [h1, h2]; rfl
      · rw [h1, h2]; rfl
  · cases e
section
variable {b : BX}
theorem o2_in : Op2 b .val (rInA b.C.K) inQ := by
  intro Ow H v1 v2 p1 p2 p Q hn r1 r2 e k
  unfold inQ at e
  cases q : inP p1 p2 with
  | none => rw [q] at e; cases e
  | some c =>
    rw [q] at e
    cases e
    have fin := k (.bl c) H (Same.refl _) (.bl c)
    rcases in_gen r1 r2 q with ⟨a, xs, rfl, h1, h2, h3, h4⟩ | ⟨i, j, rfl, rfl, h1⟩ | ⟨a, o, rfl, h1, h2⟩ | ⟨d, ds, h1, h2, c1, c2, c3, h4⟩
    · subst h4; exact .inl (.inl ⟨a, xs, rfl, h1, h2, h3, fin⟩)
    · subst h1; exact .inl (.inr ⟨i, j, rfl, rfl, fin⟩)
    · subst h2; exact .inr (.inl ⟨a, o, rfl, h1, fin⟩)
    · subst h4; exact .inr (.inr ⟨d, ds, h1, h2, c1, c2, c3, fin⟩)
theorem o2_notin : Op2 b .val (rNotInA b.C.K) notInQ := by
  intro Ow H v1 v2 p1 p2 p Q hn r1 r2 e k
  unfold notInQ at e
  cases q : inP p1 p2 with
  | none => rw [q] at e; cases e
  | some c =>
    rw [q] at e
    cases e
    have fin := k (.bl (!c)) H (Same.refl _) (.bl _)
    rcases in_gen r1 r2 q with ⟨a, xs, rfl, h1, h2, h3, h4⟩ | ⟨i, j, rfl, rfl, h1⟩ | ⟨a, o, rfl, h1, h2⟩ | ⟨d, ds, h1, h2, c1, c2, c3, h4⟩
    · subst h4; exact .inl (.inl ⟨a, xs, rfl, h1, h2, h3, fin⟩)
    · subst h1; exact .inl (.inr ⟨i, j, rfl, rfl, fin⟩)
    · subst h2; exact .inr (.inl ⟨a, o, rfl, h1, fin⟩)
    · subst h4; exact .inr (.inr ⟨d, ds, h1, h2, c1, c2, c3, fin⟩)
end
/-- x is None -/
@[simp] def nonP : PV → Bool
  | .non => true
  | _ => false
def isN (x y : PV) : Option PV := match y with
  | .non => some (.bl (nonP x))
  | _ => none
@[simp] theorem isN_ap (x y : PV) : isN x y = (match y with
  | .non => some (.bl (nonP x))
  | _ => none) := id rfl
def isNotN (x y : PV) : Option PV := match y with
  | .non => some (.bl (!nonP x))
  | _ => none
@[simp] theorem isNotN_ap (x y : PV) : isNotN x y = (match y with
  | .non => some (.bl (!nonP x))
  | _ => none) := id rfl
theorem RepB.isN {C : MC} {A : Addr → Prop} {H : Hp} {v : V} {p : PV} (h : RepB C A H v p) : decide (v = .non) = nonP p := by
  cases p with
  | non => rw [h.non]; rfl
  | bl b => rw [h.bl]; rfl
  | int b => rw [h.int]; rfl
  | str b => rw [h.str]; rfl
  | lst b => obtain ⟨a, _, rfl, _⟩ := h.lst; rfl
  | frz b => obtain ⟨a, _, rfl, _⟩ := h.frz; rfl
  | tup b => obtain ⟨a, _, rfl, _⟩ := h.tup; rfl
  | ktp b => obtain ⟨a, _, rfl, _⟩ := h.ktp; rfl
  | dK b => obtain ⟨a, _, rfl, _⟩ := h.dK; rfl
  | dT b => obtain ⟨a, _, rfl, _⟩ := h.dT; rfl
  | obj c b => obtain ⟨a, _, _, rfl, _⟩ := h.obj; rfl
section
variable {b : BX}
theorem o2_isN : Op2 b .val (fun x y H Q => y = .non ∧ Q (.bl (decide (x = .non))) H) isN := by
  intro Ow H v1 v2 p1 p2 p Q hn r1 r2 e k
  cases p2 with
  | non =>
    simp only [isN] at e
    cases e
    exact ⟨r2.non, by rw [r1.isN]; exact k _ H (Same.refl _) (.bl _)⟩
  | _ => simp only [isN] at e; cases e
theorem o2_isNotN : Op2 b .val (fun x y H Q => y = .non ∧ Q (.bl (!decide (x = .non))) H) isNotN := by
  intro Ow H v1 v2 p1 p2 p Q hn r1 r2 e k
  cases p2 with
  | non =>
    simp only [isNotN] at e
    cases e
    exact ⟨r2.non, by rw [r1.isN]; exact k _ H (Same.refl _) (.bl _)⟩
  | _ => simp only [isNotN] at e; cases e
end

/-! ### comparisons -/
section
variable {X : Cx} {b : BX} {G : List Nat} {m : Md} {e e1 e2 e3 : Expr} {f f1 f2 f3 : Env → Option PV} {pos : Pos} {m1 m2 m3 : Md}
/-- a comparison, as a value and as a test -/
structure SC (X : Cx) (b : BX) (G : List Nat) (op : CmpOp) (e1 e2 : Expr) (f : Env → Option PV) : Prop where
  pe : ∀ pos, SE X b G .val (.Compare e1 [op] [e2] pos) f
  pt : ∀ pos, ST X b G (.Compare e1 [op] [e2] pos) (tV f)
theorem sc_of {op : CmpOp} {r : R2} {g : PV → PV → Option PV} (ho : OpR X (compareOp op) r) (hr : Op2 b .val r g) (h1 : SE X b G m1 e1 f1) (h2 : SE X b G m2 e2 f2) (hm : behindInMarks op e2 = false) : SC X b G op e1 e2 (b2 g f1 f2) := by
  refine ⟨fun pos => PE.imp (pe_cmpR ho h1.bor h2.bor hm) fun σ H Q h => tM_op hr h, fun pos => PT.imp (pt_cmpR ho h1.bor h2.bor hm) fun σ H Q h => ?_⟩
  obtain ⟨Ow, env, c, E, hf, k⟩ := h
  unfold tV at hf
  cases q : b2 g f1 f2 env with
  | none => rw [q] at hf; cases hf
  | some p =>
    rw [q] at hf
    refine tM_op (Q := fun x H' => ∃ k, x = .bl k ∧ _) hr ⟨Ow, env, p, E, q, fun v H' s r => ?_⟩
    cases p with
    | bl d =>
      cases hf
      cases r
      exact ⟨_, rfl, k H' s⟩
    | _ => cases hf
theorem sc_eq {j : Nat} (hr : Room j X.A) (h1 : SE X b G m1 e1 f1) (h2 : SE X b G m2 e2 f2) (hK : X.K = b.C.K := by rfl) : SC X b G .Eq e1 e2 (b2 eqQ f1 f2) := sc_of (r := rEqA b.C.K) (by rw [← hK]; exact OpR.or op_eq (op_eqD hr.units)) o2_eq h1 h2 (nomark _)
theorem sc_ne {j : Nat} (hr : Room j X.A) (h1 : SE X b G m1 e1 f1) (h2 : SE X b G m2 e2 f2) (hK : X.K = b.C.K := by rfl) : SC X b G .NotEq e1 e2 (b2 neQ f1 f2) := sc_of (r := rNeA b.C.K) (by rw [← hK]; exact OpR.or op_ne (op_neD hr.units)) o2_ne h1 h2 (nomark _)
theorem sc_gt (h1 : SE X b G m1 e1 f1) (h2 : SE X b G m2 e2 f2) : SC X b G .Gt e1 e2 (b2 (cmpV fun i j => decide (j < i)) f1 f2) := sc_of op_gt o2_cmp h1 h2 (nomark _)
theorem sc_in {j : Nat} (hr : Room j X.A) (h1 : SE X b G m1 e1 f1) (h2 : SE X b G m2 e2 f2) (hm : behindInMarks .In e2 = false := by rfl) (hK : X.K = b.C.K := by rfl) : SC X b G .In e1 e2 (b2 inQ f1 f2) :=
  sc_of (r := rInA b.C.K) (by rw [← hK]; exact OpR.or (OpR.or op_in_seq op_in_str) (OpR.or (op_din (hu_of hr)) (op_inD hr.units))) o2_in h1 h2 hm
theorem sc_notin {j : Nat} (hr : Room j X.A) (h1 : SE X b G m1 e1 f1) (h2 : SE X b G m2 e2 f2) (hm : behindInMarks .NotIn e2 = false := by rfl) (hK : X.K = b.C.K := by rfl) : SC X b G .NotIn e1 e2 (b2 notInQ f1 f2) :=
  sc_of (r := rNotInA b.C.K) (by rw [← hK]; exact OpR.or (OpR.or op_notIn_seq op_notIn_str) (OpR.or (op_dnotin (hu_of hr)) (op_notInD hr.units))) o2_notin h1 h2 hm
theorem sc_is (h1 : SE X b G m1 e1 f1) (h2 : SE X b G m2 e2 f2) : SC X b G .Is e1 e2 (b2 isN f1 f2) := sc_of op_isN o2_isN h1 h2 (nomark _)
theorem sc_isnot (h1 : SE X b G m1 e1 f1) (h2 : SE X b G m2 e2 f2) : SC X b G .IsNot e1 e2 (b2 isNotN f1 f2) := sc_of op_notN o2_isNotN h1 h2 (nomark _)
theorem se_cmp {op : CmpOp} (h : SC X b G op e1 e2 f) : SE X b G .val (.Compare e1 [op] [e2] pos) f := h.pe pos
theorem st_cmp {op : CmpOp} (h : SC X b G op e1 e2 f) : ST X b G (.Compare e1 [op] [e2] pos) (tV f) := h.pt pos
/-- a op b op' c, of ints -/
def bChain (g g' : Int → Int → Bool) (f1 f2 f3 : Env → Option PV) (env : Env) : Option PV := (f1 env).bind fun x => (f2 env).bind fun y => match x, y with
  | .int i, .int j => if g i j = true then (f3 env).bind fun z => cmpV g' y z else some (.bl false)
  | _, _ => none
@[simp] theorem bChain_ap (g g' : Int → Int → Bool) (f1 f2 f3 : Env → Option PV) (env : Env) : bChain g g' f1 f2 f3 env = ((f1 env).bind fun x => (f2 env).bind fun y => match x, y with
  | .int i, .int j => if g i j = true then (f3 env).bind fun z => cmpV g' y z else some (.bl false)
  | _, _ => none) := id rfl
theorem bChain_some {g g' : Int → Int → Bool} {f1 f2 f3 : Env → Option PV} {env : Env} {p : PV} (h : bChain g g' f1 f2 f3 env = some p) :
    ∃ i j, f1 env = some (.int i) ∧ f2 env = some (.int j) ∧ ((g i j = false ∧ p = .bl false) ∨ (g i j = true ∧ ∃ l, f3 env = some (.int l) ∧ p = .bl (g' j l))) := by
  unfold bChain at h
  cases q1 : f1 env with
  | none => rw [q1] at h; cases h
  | some p1 =>
    cases q2 : f2 env with
    | none => rw [q1, q2] at h; cases h
    | some p2 =>
      rw [q1, q2] at h
      simp only [Option.bind_some] at h
      split at h
      · rename_i i j
        refine ⟨i, j, rfl, rfl, ?_⟩
        cases hg : g i j with
        | false =>
          rw [hg] at h
          cases h
          exact .inl ⟨rfl, rfl⟩
        | true =>
          rw [hg] at h
          simp only [if_true] at h
          obtain ⟨p3, q3, h⟩ := Option.bind_eq_some_iff.mp h
          cases p3 with
          | int l =>
            cases h
            exact .inr ⟨rfl, l, q3, rfl⟩
          | _ => cases h
      · cases h
theorem se_chain {op op' : CmpOp} {g g' : Int → Int → Bool} (ho : OpR X (compareOp op) (rI0 fun i j => .bl (g i j))) (ho' : OpR X (compareOp op') (rI0 fun i j => .bl (g' i j))) (h1 : SE X b G m1 e1 f1) (h2 : SE X b G m2 e2 f2) (h3 : SE X b G m3 e3 f3)
    (hm : lastMarks [op, op'] [e2, e3] = false := by with_unfolding_all rfl) : SE X b G .val (.Compare e1 [op, op'] [e2, e3] pos) (bChain g g' f1 f2 f3) :=
  PE.imp (pe_chain ho ho' h1.bor h2.bor h3.bor hm) fun σ H Q ⟨Ow, env, p, E, hf, k⟩ => by
    obtain ⟨i, j, q1, q2, hc⟩ := bChain_some hf
    refine ⟨Ow, env, _, E, q1, fun v1 H1 s1 r1 => ⟨Ow, env, _, E.up s1, q2, fun v2 H2 s2 r2 => ?_⟩⟩
    have r1' : RepB b.C (Bs b Ow) H2 v1 (.int i) := Res.up (m := .bor) r1 s2
    have r2' : RepB b.C (Bs b Ow) H2 v2 (.int j) := r2
    rw [r1'.int, r2'.int]
    refine ⟨i, j, rfl, rfl, g i j, rfl, ?_⟩
    rcases hc with ⟨hc, rfl⟩ | ⟨hc, l, q3, rfl⟩
    · rw [hc]
      simp only [Bool.false_eq_true, if_false]
      exact k _ H2 (s1.trans s2) (.bl false)
    · rw [hc]
      simp only [if_true]
      refine ⟨Ow, env, _, E.up (s1.trans s2), q3, fun v3 H3 s3 r3 => ?_⟩
      have r3' : RepB b.C (Bs b Ow) H3 v3 (.int l) := r3
      rw [r3'.int]
      exact ⟨_, _, rfl, rfl, k _ H3 (s1.trans (s2.trans s3)) (.bl _)⟩

/-! ### and, or, not -/
theorem se_one {op} (h : SE X b G m e f) : SE X b G m (.BoolOp op [e] pos) f := pe_one h
theorem se_and {rest : List Expr} (h1 : SE X b G .val e1 f1) (h2 : SE X b G .val (.BoolOp .And (e2 :: rest) pos) f2) : SE X b G .val (.BoolOp .And (e1 :: e2 :: rest) pos) (bAnd f1 f2) :=
  PE.imp (pe_and h1 h2) fun σ H Q ⟨Ow, env, p, E, hf, k⟩ => by
    unfold bAnd at hf
    cases q1 : f1 env with
    | none => rw [q1] at hf; cases hf
    | some p1 =>
      rw [q1] at hf
      refine ⟨Ow, env, p1, E, q1, fun v1 H1 s1 r1 => ?_⟩
      cases p1 with
      | bl c =>
        cases r1
        refine ⟨c, rfl, ?_⟩
        cases c with
        | true => exact ⟨Ow, env, p, E.up s1, hf, fun v H' s r => k v H' (s1.trans s) r⟩
        | false => cases hf; exact k _ H1 s1 (.bl false)
      | _ => cases hf
theorem se_or {rest : List Expr} (h1 : SE X b G .val e1 f1) (h2 : SE X b G .val (.BoolOp .Or (e2 :: rest) pos) f2) : SE X b G .val (.BoolOp .Or (e1 :: e2 :: rest) pos) (bOr f1 f2) :=
  PE.imp (pe_or h1 h2) fun σ H Q ⟨Ow, env, p, E, hf, k⟩ => by
    unfold bOr at hf
    cases q1 : f1 env with
    | none => rw [q1] at hf; cases hf
    | some p1 =>
      rw [q1] at hf
      refine ⟨Ow, env, p1, E, q1, fun v1 H1 s1 r1 => ?_⟩
      cases p1 with
      | bl c =>
        cases r1
        refine ⟨c, rfl, ?_⟩
        cases c with
        | false => exact ⟨Ow, env, p, E.up s1, hf, fun v H' s r => k v H' (s1.trans s) r⟩
        | true => cases hf; exact k _ H1 s1 (.bl true)
      | _ => cases hf
theorem se_not (h1 : SE X b G .val e1 f1) : SE X b G .val (.UnaryOp .Not e1 pos) (bNot f1) :=
  PE.imp (pe_not h1) fun σ H Q ⟨Ow, env, p, E, hf, k⟩ => by
    unfold bNot at hf
    cases q1 : f1 env with
    | none => rw [q1] at hf; cases hf
    | some p1 =>
      rw [q1] at hf
      refine ⟨Ow, env, p1, E, q1, fun v1 H1 s1 r1 => ?_⟩
      cases p1 with
      | bl c => cases r1; cases hf; exact ⟨c, rfl, k _ H1 s1 (.bl _)⟩
      | _ => cases hf
@[simp] def negV : PV → Option PV
  | .int i => some (.int (-i))
  | _ => none
theorem se_neg (h1 : SE X b G m e1 f1) : SE X b G .val (.UnaryOp .USub e1 pos) (b1 negV f1) :=
  PE.imp (pe_un un_neg h1.bor) fun σ H Q h => tM_un (r := rU fun i => .int (-i)) (fun Ow H v1 p1 p Q hn r1 e k => by
    cases p1 <;> simp only [negV] at e <;> cases e
    exact ⟨_, r1.int, k _ H (Same.refl _) (.int _)⟩) h
/-- tests -/
theorem st_val (h : SE X b G .val e f) (he : ∀ whole, isTrue e X.env whole = (do let v ← whole; standAt e.pos; holding [v] (truthy v)) := by intro _; rfl) : ST X b G e (tV f) :=
  PT.imp (pt_val h he) fun σ H Q ⟨Ow, env, c, E, hf, k⟩ => by
    unfold tV at hf
    cases q1 : f env with
    | none => rw [q1] at hf; cases hf
    | some p1 =>
      rw [q1] at hf
      refine ⟨Ow, env, p1, E, q1, fun v1 H1 s1 r1 => ?_⟩
      cases p1 with
      | bl d => cases r1; cases hf; exact ⟨_, rfl, k H1 s1⟩
      | _ => cases hf
theorem st_not {g : Env → Option Bool} (h : ST X b G e g) : ST X b G (.UnaryOp .Not e pos) (tN g) :=
  PT.imp (pt_not h) fun σ H Q ⟨Ow, env, c, E, hf, k⟩ => by
    unfold tN at hf
    cases q1 : g env with
    | none => rw [q1] at hf; cases hf
    | some p1 => rw [q1] at hf; cases hf; exact ⟨Ow, env, p1, E, q1, fun H' s => k H' s⟩
abbrev SW (X : Cx) (b : BX) (G : List Nat) (e : Expr) (g : Env → Option Bool) : Prop := PW X e (tMT b G g)
theorem PW.imp {t u : TT} (h : PW X e t) (i : ∀ σ H Q, u σ H Q → t σ H Q) : PW X e u := fun wh pins s σ H Q I q => h wh pins s σ H Q I (i σ H Q q)
variable {g1 g2 : Env → Option Bool}
theorem sw_and1 (h : ST X b G e g1) : SW X b G (.BoolOp .And [e] pos) g1 := pw_and1 h
theorem sw_or1 (h : ST X b G e g1) : SW X b G (.BoolOp .Or [e] pos) g1 := pw_or1 h
theorem sw_and {rest : List Expr} (h1 : ST X b G e1 g1) (h2 : SW X b G (.BoolOp .And (e2 :: rest) pos) g2) : SW X b G (.BoolOp .And (e1 :: e2 :: rest) pos) (tA g1 g2) :=
  PW.imp (pw_and h1 h2) fun σ H Q ⟨Ow, env, c, E, hf, k⟩ => by
    unfold tA at hf
    cases q1 : g1 env with
    | none => rw [q1] at hf; cases hf
    | some p1 =>
      rw [q1] at hf
      refine ⟨Ow, env, p1, E, q1, fun H1 s1 => ?_⟩
      cases p1 with
      | true => exact ⟨Ow, env, c, E.up s1, hf, fun H' s => k H' (s1.trans s)⟩
      | false => cases hf; exact k H1 s1
theorem sw_or {rest : List Expr} (h1 : ST X b G e1 g1) (h2 : SW X b G (.BoolOp .Or (e2 :: rest) pos) g2) : SW X b G (.BoolOp .Or (e1 :: e2 :: rest) pos) (tO g1 g2) :=
  PW.imp (pw_or h1 h2) fun σ H Q ⟨Ow, env, c, E, hf, k⟩ => by
    unfold tO at hf
    cases q1 : g1 env with
    | none => rw [q1] at hf; cases hf
    | some p1 =>
      rw [q1] at hf
      refine ⟨Ow, env, p1, E, q1, fun H1 s1 => ?_⟩
      cases p1 with
      | false => exact ⟨Ow, env, c, E.up s1, hf, fun H' s => k H' (s1.trans s)⟩
      | true => cases hf; exact k H1 s1
theorem SW.st (h : SW X b G e g1) : ST X b G e g1 := h _
theorem se_if {c : Expr} (hc : ST X b G c g1) (h1 : SE X b G m e1 f1) (h2 : SE X b G m e2 f2) : SE X b G m (.IfExp c e1 e2 pos) (bIf g1 f1 f2) :=
  PE.imp (pe_ifExp hc h1 h2) fun σ H Q ⟨Ow, env, p, E, hf, k⟩ => by
    unfold bIf at hf
    cases q1 : g1 env with
    | none => rw [q1] at hf; cases hf
    | some c =>
      rw [q1] at hf
      refine ⟨Ow, env, c, E, q1, fun H1 s1 => ?_⟩
      cases c with
      | true => exact ⟨Ow, env, p, E.up s1, hf, fun v H' s r => k v H' (s1.trans s) (r.down s1)⟩
      | false => exact ⟨Ow, env, p, E.up s1, hf, fun v H' s r => k v H' (s1.trans s) (r.down s1)⟩
end
end MR

/-! ## the mirror: argument lists, displays, items, builtins, calls -/
namespace MR
open PySem L2

/-- an argument list's worth; L: lists of one's own may stand among them, to be read -/
def ArA (b : BX) (Ow : Addr → Prop) (L : Bool) (H : Hp) (a : Addr) : Prop := Bs b Ow a ∨ (L = true ∧ ∃ vs, H a = some (.lst vs))
def tMA (b : BX) (G : List Nat) (L : Bool) (g : Env → Option (List PV)) : TA := fun σ H Q => ∃ Ow env ps, ER b Ow G σ env H ∧ g env = some ps ∧ ∀ vs H', Same H H' → Reps b.C (ArA b Ow L H') H' vs ps → Q vs H'
abbrev SA (X : Cx) (b : BX) (G : List Nat) (L : Bool) (es : List Expr) (g : Env → Option (List PV)) : Prop := PA X es (tMA b G L g)
theorem PA.imp {X : Cx} {es : List Expr} {t u : TA} (h : PA X es t) (i : ∀ σ H Q, u σ H Q → t σ H Q) : PA X es u := fun pos pins s σ H Q I q => h pos pins s σ H Q I (i σ H Q q)
theorem ArA.ex {b : BX} {Ow : Addr → Prop} {L : Bool} {H H' : Hp} (s : Same H H') : Ex (ArA b Ow L H) H (ArA b Ow L H') H' := fun a o h => ⟨fun q => ⟨s _ _ h, q.imp id fun ⟨l, vs, e⟩ => ⟨l, vs, s _ _ e⟩⟩, fun _ => s _ _ h⟩
section
variable {X : Cx} {b : BX} {G : List Nat} {m m1 m2 : Md} {L : Bool} {e e1 e2 : Expr} {es : List Expr} {f f1 f2 : Env → Option PV} {g : Env → Option (List PV)} {pos p : Pos}
theorem sa_nil : SA X b G L [] bNil := PA.imp pa_nil fun σ H Q ⟨Ow, env, ps, E, hg, k⟩ => by cases hg; exact k [] H (Same.refl _) .nil
theorem sa_cons (h1 : SE X b G .val e f) (h2 : SA X b G L es g) (hs : starEach (e :: es) X.env = (false, eval e X.env) :: starEach es X.env := by rfl) : SA X b G L (e :: es) (bCons f g) :=
  PA.imp (pa_cons h1 h2 hs) fun σ H Q ⟨Ow, env, ps, E, hg, k⟩ => by
    unfold bCons at hg
    cases q1 : f env with
    | none => rw [q1] at hg; cases hg
    | some p1 =>
      rw [q1] at hg
      cases q2 : g env with
      | none => rw [q2] at hg; cases hg
      | some ps' =>
        rw [q2] at hg
        cases hg
        exact ⟨Ow, env, p1, E, q1, fun v H1 s1 r1 => ⟨Ow, env, ps', E.up s1, q2, fun vs H2 s2 r2 => k (v :: vs) H2 (s1.trans s2) (.cons (Rep.ex (fun a o h => ⟨fun q => ⟨s2 _ _ h, .inl q⟩, fun _ => s2 _ _ h⟩) r1) r2)⟩⟩
/-- a list of one's own, handed on to be read -/
def bL (f : Env → Option PV) (env : Env) : Option PV := (f env).bind fun p => match p with | .lst xs => some (.lst xs) | _ => none
@[simp] theorem bL_ap (f : Env → Option PV) (env : Env) : bL f env = ((f env).bind fun p => match p with | .lst xs => some (.lst xs) | _ => none) := id rfl
theorem sa_consL (h1 : SE X b G m e f) (h2 : SA X b G true es g) (hs : starEach (e :: es) X.env = (false, eval e X.env) :: starEach es X.env := by rfl) : SA X b G true (e :: es) (bCons (bL f) g) :=
  PA.imp (pa_cons h1.bor h2 hs) fun σ H Q ⟨Ow, env, ps, E, hg, k⟩ => by
    unfold bCons bL at hg
    cases q1 : f env with
    | none => rw [q1] at hg; cases hg
    | some p1 =>
      rw [q1] at hg
      cases p1 with
      | lst xs =>
        simp only [Option.bind_some] at hg
        cases q2 : g env with
        | none => rw [q2] at hg; cases hg
        | some ps' =>
          rw [q2] at hg
          cases hg
          refine ⟨Ow, env, _, E, q1, fun v H1 s1 r1 => ⟨Ow, env, ps', E.up s1, q2, fun vs H2 s2 r2 => k (v :: vs) H2 (s1.trans s2) (.cons ?_ r2)⟩⟩
          have r1' : RepB b.C (Bs b Ow) H1 v (.lst xs) := r1
          obtain ⟨a, us, rfl, ha, ra⟩ := r1'.lst
          exact .lst (s2 _ _ ha) (.inr ⟨rfl, us, s2 _ _ ha⟩) (ra.ex fun a o h => ⟨fun q => ⟨s2 _ _ h, .inl q⟩, fun _ => s2 _ _ h⟩)
      | _ => cases hg
theorem arA_f {b : BX} {Ow : Addr → Prop} {H : Hp} {vs : List V} {ps : List PV} (h : Reps b.C (ArA b Ow false H) H vs ps) : Reps b.C (Bs b Ow) H vs ps := h.ex (ex_weak fun a o _ q => q.elim id fun z => by cases z.1)

/-! ### displays -/
theorem se_lst (h : SA X b G false es g) : SE X b G .own (.List es pos) (bLst g) := PE.imp (pe_lst h) fun σ H Q ⟨Ow, env, p, E, hf, k⟩ => by
  unfold bLst at hf
  cases q1 : g env with
  | none => rw [q1] at hf; cases hf
  | some ps =>
    rw [q1] at hf
    simp only [Option.bind_some] at hf
    split at hf
    · rename_i hl
      cases hf
      refine ⟨Ow, env, ps, E, q1, fun vs H1 s1 r => ⟨line_le (by rw [r.length]; exact hl), fun q hq => k _ _ (s1.trans (same_new hq _)) (Res.down s1 (res_new hq (arA_f r)))⟩⟩
    · cases hf
theorem se_tup {x1} (h : SA X b G false es g) : SE X b G .val (.Tuple es x1 pos) (bTup g) := PE.imp (pe_tup h) fun σ H Q ⟨Ow, env, p, E, hf, k⟩ => by
  unfold bTup at hf
  cases q1 : g env with
  | none => rw [q1] at hf; cases hf
  | some ps =>
    rw [q1] at hf
    simp only [Option.bind_some] at hf
    split at hf
    · rename_i hl
      cases hf
      refine ⟨Ow, env, ps, E, q1, fun vs H1 s1 r => ⟨line_le (by rw [r.length]; exact hl), fun q hq => k _ _ (s1.trans (same_new hq _)) (res_tup hq (arA_f r))⟩⟩
    · cases hf
/-! ### items -/
@[simp] def ixP : PV → PV → Option PV
  | .lst xs, .int i => atI xs i
  | .frz xs, .int i => atI xs i
  | .tup xs, .int i => atI xs i
  | .ktp xs, .int i => atI xs i
  | .str x, .int i => if x.length ≤ 1000000 then (atI x.cps.toList i).map fun c => .str ⟨#[c]⟩ else none
  | .dK kvs, y => (keyOf y).bind fun k => dLook kvs k
  | .dT kvs, .tup ys => (keysOf ys).bind fun k => dLook kvs k
  | _, _ => none
theorem Reps.atI {C : MC} {A : Addr → Prop} {H : Hp} {vs : List V} {ps : List PV} {i : Int} {p : PV} (h : Reps C A H vs ps) (e : atI ps i = some p) : ∃ v, L2.atI vs i = some v ∧ Rep C A H v p := by
  unfold L2.atI at e ⊢
  rw [h.length]
  cases q : ixN ps.length i with
  | none => rw [q] at e; cases e
  | some j => rw [q] at e; exact h.get e
theorem se_ix {j : Nat} (hr : Room j X.A) (h1 : SE X b G m1 e1 f1) (h2 : SE X b G m2 e2 f2) (hs : PlainIx e2 := by intro _ _; rfl) (hs' : NoSl e2 := by intro _ _; rfl) (hK : X.K = b.C.K := by rfl) : SE X b G .val (.Subscript e1 e2 pos) (b2 ixP f1 f2) := by
  refine PE.imp (PE.or (pe_ix (r := rIx b.C.K) (by rw [← hK]; exact ix_seq) h1.bor h2.bor hs) (pe_dget (hu_of hr) h1.bor h2.bor hs')) fun σ H Q h => ?_
  obtain ⟨Ow, env, p, E, hf, k⟩ := h
  unfold b2 at hf
  cases q1 : f1 env with
  | none => rw [q1] at hf; cases hf
  | some p1 =>
    rw [q1] at hf
    cases q2 : f2 env with
    | none => rw [q2] at hf; cases hf
    | some p2 =>
      rw [q2] at hf
      simp only [Option.bind_some] at hf
      have step : ∀ (R : V → V → Hp → VK → Prop), (∀ H2 v1 v2, RepB b.C (Bs b Ow) H2 v1 p1 → RepB b.C (Bs b Ow) H2 v2 p2 → Same H H2 → R v1 v2 H2 Q) → tM b G .bor f1 σ H fun x H1 => tM b G .bor f2 σ H1 fun y H2 => R x y H2 Q := fun R hR =>
        ⟨Ow, env, p1, E, q1, fun v1 H1 s1 r1 => ⟨Ow, env, p2, E.up s1, q2, fun v2 H2 s2 r2 => hR H2 v1 v2 (Res.up (m := .bor) r1 s2) r2 (s1.trans s2)⟩⟩
      unfold ixP at hf
      split at hf
      · refine .inl (step _ fun H2 v1 v2 r1 r2 s => ?_)
        obtain ⟨a, vs, rfl, ha, ra⟩ := r1.lst
        obtain ⟨v, hv, rv⟩ := ra.atI hf
        rw [r2.int]
        exact .inl ⟨a, vs, _, v, rfl, rfl, SqL.of ha, hv, k v H2 s rv⟩
      · refine .inl (step _ fun H2 v1 v2 r1 r2 s => ?_)
        obtain ⟨a, vs, rfl, ha, ra⟩ := r1.frz
        obtain ⟨v, hv, rv⟩ := ra.atI hf
        rw [r2.int]
        exact .inl ⟨a, vs, _, v, rfl, rfl, ha, hv, k v H2 s rv⟩
      · refine .inl (step _ fun H2 v1 v2 r1 r2 s => ?_)
        obtain ⟨a, vs, rfl, ha, ra⟩ := r1.tup
        obtain ⟨v, hv, rv⟩ := ra.atI hf
        rw [r2.int]
        exact .inr (.inl ⟨a, vs, _, v, rfl, rfl, SqT.of ha, hv, k v H2 s rv⟩)
      · refine .inl (step _ fun H2 v1 v2 r1 r2 s => ?_)
        obtain ⟨a, vs, rfl, ha, ra⟩ := r1.ktp
        obtain ⟨v, hv, rv⟩ := ra.atI hf
        rw [r2.int]
        exact .inr (.inl ⟨a, vs, _, v, rfl, rfl, ha, hv, k v H2 s rv⟩)
      · split at hf
        · rename_i x i hx
          cases q3 : atI x.cps.toList i with
          | none => rw [q3] at hf; cases hf
          | some c =>
            rw [q3] at hf
            cases hf
            refine .inl (step _ fun H2 v1 v2 r1 r2 s => ?_)
            rw [r1.str, r2.int]
            exact .inr (.inr ⟨x, i, c, rfl, rfl, line_le hx, q3, k _ H2 s (.str _)⟩)
        · cases hf
      · rename_i kvs
        cases q3 : keyOf p2 with
        | none => rw [q3] at hf; cases hf
        | some ky =>
          rw [q3] at hf
          simp only [Option.bind_some] at hf
          refine .inr (step (fun x y H2 Q => ∃ a v, x = .ref a ∧ DGet H2 a y (some v) ∧ Q v H2) fun H2 v1 v2 r1 r2 s => ?_)
          obtain ⟨a, kv, rfl, ha, ra⟩ := r1.dK
          rw [r2.key q3]
          unfold dLook at hf
          rcases RepK.val (k := ky) ra with ⟨v, p', h1, h2, rv⟩ | ⟨h1, h2⟩
          · rw [h2] at hf
            cases hf
            exact ⟨a, v, rfl, by rw [← h1]; exact DGet.k ha, k v H2 s rv⟩
          · rw [h2] at hf; cases hf
      · rename_i kvs ys
        cases q3 : keysOf ys with
        | none => rw [q3] at hf; cases hf
        | some ky =>
          rw [q3] at hf
          simp only [Option.bind_some] at hf
          refine .inr (step (fun x y H2 Q => ∃ a v, x = .ref a ∧ DGet H2 a y (some v) ∧ Q v H2) fun H2 v1 v2 r1 r2 s => ?_)
          obtain ⟨a, kv, rfl, ha, ra⟩ := r1.dT
          obtain ⟨c, vs, rfl, hc, rc⟩ := r2.tup
          have hv := rc.keys q3
          subst hv
          unfold dLook at hf
          rcases RepT.val (k := ky) ra with ⟨v, p', h1, h2, rv⟩ | ⟨h1, h2⟩
          · rw [h2] at hf
            cases hf
            exact ⟨a, v, rfl, by rw [← h1]; exact DGet.t ha hc, k v H2 s rv⟩
          · rw [h2] at hf; cases hf
      · cases hf

/-! ### slices of lists -/
def cutP (xs : List PV) (lo hi : Option Int) : List PV := (xs.drop (HT.sIx xs.length 0 lo)).take (HT.sIx xs.length xs.length hi - HT.sIx xs.length 0 lo)
theorem Reps.cut {C : MC} {A : Addr → Prop} {H : Hp} {vs : List V} {ps : List PV} (h : Reps C A H vs ps) (lo hi : Option Int) : Reps C A H (cutV vs lo hi) (cutP ps lo hi) := by
  unfold cutV cutP
  rw [h.length]
  exact (h.drop _).take _
/-- the end of a slice -/
def oN (env : Env) : Option (Option Int) := some none
@[simp] theorem oN_ap (env : Env) : oN env = (some none) := id rfl
def oS (f : Env → Option PV) (env : Env) : Option (Option Int) := (f env).bind fun p => match p with | .int i => some (some i) | _ => none
@[simp] theorem oS_ap (f : Env → Option PV) (env : Env) : oS f env = ((f env).bind fun p => match p with | .int i => some (some i) | _ => none) := id rfl
def tMO (b : BX) (G : List Nat) (f : Env → Option (Option Int)) : TO := fun σ H Q => ∃ Ow env o, ER b Ow G σ env H ∧ f env = some o ∧ ∀ H', Same H H' → Q o H'
theorem PO.imp {x : Option Expr} {t u : TO} (h : PO X x t) (i : ∀ σ H Q, u σ H Q → t σ H Q) : PO X x u := by
  intro pins s σ H Q I q
  exact h pins s σ H Q I (i σ H Q q)
abbrev SO (X : Cx) (b : BX) (G : List Nat) (e : Option Expr) (f : Env → Option (Option Int)) : Prop := PO X e (tMO b G f)
theorem so_none : SO X b G none oN := PO.imp po_none fun σ H Q ⟨Ow, env, o, E, hf, k⟩ => by cases hf; exact k H (Same.refl _)
theorem so_some (h : SE X b G m e f) : SO X b G (some e) (oS f) := PO.imp (po_some h.bor) fun σ H Q ⟨Ow, env, o, E, hf, k⟩ => by
  unfold oS at hf
  cases q1 : f env with
  | none => rw [q1] at hf; cases hf
  | some p1 =>
    rw [q1] at hf
    refine ⟨Ow, env, p1, E, q1, fun v H1 s1 r1 => ?_⟩
    have r1' : RepB b.C (Bs b Ow) H1 v p1 := r1
    cases p1 <;> simp only [Option.bind_some] at hf <;> cases hf
    exact ⟨_, r1'.int, k H1 s1⟩
def bSl (f : Env → Option PV) (lo hi : Env → Option (Option Int)) (env : Env) : Option PV := (f env).bind fun x => (lo env).bind fun l => (hi env).bind fun h => match x with
  | .lst xs => some (.lst (cutP xs l h))
  | .frz xs => some (.lst (cutP xs l h))
  | .str x => if x.length ≤ 1000000 then some (.str (cutS x l h)) else none
  | _ => none
@[simp] theorem bSl_ap (f : Env → Option PV) (lo hi : Env → Option (Option Int)) (env : Env) : bSl f lo hi env = ((f env).bind fun x => (lo env).bind fun l => (hi env).bind fun h => match x with
  | .lst xs => some (.lst (cutP xs l h))
  | .frz xs => some (.lst (cutP xs l h))
  | .str x => if x.length ≤ 1000000 then some (.str (cutS x l h)) else none
  | _ => none) := id rfl
theorem se_sl {lo hi : Option Expr} {p2 : Pos} {fl fh : Env → Option (Option Int)} (h1 : SE X b G m e f) (hl : SO X b G lo fl) (hh : SO X b G hi fh) (hK : X.K = b.C.K := by rfl) : SE X b G .val (.Subscript e (.Slice lo hi none p2) pos) (bSl f fl fh) := by
  refine PE.imp (pe_slice (r := rSlA b.C.K) (by rw [← hK]; exact sl_any) h1.bor hl hh) fun σ H Q ⟨Ow, env, p, E, hf, k⟩ => ?_
  unfold bSl at hf
  cases q1 : f env with
  | none => rw [q1] at hf; cases hf
  | some p1 =>
    rw [q1] at hf
    cases q2 : fl env with
    | none => rw [q2] at hf; cases hf
    | some l =>
      rw [q2] at hf
      cases q3 : fh env with
      | none => rw [q3] at hf; cases hf
      | some h =>
        rw [q3] at hf
        refine ⟨Ow, env, p1, E, q1, fun v H1 s1 r1 => ⟨Ow, env, l, E.up s1, q2, fun H2 s2 => ⟨Ow, env, h, E.up (s1.trans s2), q3, fun H3 s3 => ?_⟩⟩⟩
        have r1' : RepB b.C (Bs b Ow) H3 v p1 := Res.up (m := .bor) r1 (s2.trans s3)
        cases p1 <;> simp only [Option.bind_some] at hf
        case lst xs =>
          cases hf
          obtain ⟨a, vs, rfl, ha, ra⟩ := r1'.lst
          exact .inl ⟨a, vs, rfl, SqL.of ha, fun q hq => k _ _ (s1.trans (s2.trans (s3.trans (same_new hq _)))) (Res.val (m := .own) E (fun z => nomatch z) (Res.down (s1.trans (s2.trans s3)) (res_new hq (ra.cut l h))))⟩
        case frz xs =>
          cases hf
          obtain ⟨a, vs, rfl, ha, ra⟩ := r1'.frz
          exact .inl ⟨a, vs, rfl, ha, fun q hq => k _ _ (s1.trans (s2.trans (s3.trans (same_new hq _)))) (Res.val (m := .own) E (fun z => nomatch z) (Res.down (s1.trans (s2.trans s3)) (res_new hq (ra.cut l h))))⟩
        case str x =>
          split at hf
          · rename_i hx
            cases hf
            exact .inr ⟨x, r1'.str, line_le hx, k _ _ (s1.trans (s2.trans s3)) (.str _)⟩
          · cases hf
        all_goals cases hf

def bSlO (f : Env → Option PV) (lo hi : Env → Option (Option Int)) (env : Env) : Option PV := (f env).bind fun x => (lo env).bind fun l => (hi env).bind fun h => match x with
  | .lst xs => some (.lst (cutP xs l h))
  | .frz xs => some (.lst (cutP xs l h))
  | _ => none
@[simp] theorem bSlO_ap (f : Env → Option PV) (lo hi : Env → Option (Option Int)) (env : Env) : bSlO f lo hi env = ((f env).bind fun x => (lo env).bind fun l => (hi env).bind fun h => match x with
  | .lst xs => some (.lst (cutP xs l h))
  | .frz xs => some (.lst (cutP xs l h))
  | _ => none) := id rfl
/-! ### builtins of one argument -/
theorem se_blt {id : String} {x : Str} {r : List V → Hp → VK → Prop} {g : PV → Option PV} (hc : CallR X (.builtin id) r) (hr : Op1 b m (fun v H Q => r [v] H Q) g) (hm : X.mg x = none) (hv : bootBuiltins x = some (.builtin id)) (h : SE X b G m1 e f)
    (hg : Gl X x := by rfl) (hn : x ≠ "__name__" := by decide) (hdb : (x == ("__debug__" : Str)) = false := by decide) (he : starEach [e] X.env = (false, eval e X.env) :: starEach [] X.env := by rfl) :
    SE X b G m (.Call (.Name x p) [e] [] pos) (b1 g f) :=
  PE.imp (pe_callB hc hg hm hv (pa_cons h.bor pa_nil he) hn hdb he rfl) fun σ H Q h => tM_un hr h
theorem se_blty {id : String} {x : Str} {r : List V → Hp → VK → Prop} {g : PV → Option PV} (hc : CallR X (.type id) r) (hr : Op1 b m (fun v H Q => r [v] H Q) g) (hm : X.mg x = none) (hv : bootBuiltins x = some (.type id)) (h : SE X b G m1 e f)
    (hg : Gl X x := by rfl) (hn : x ≠ "__name__" := by decide) (hdb : (x == ("__debug__" : Str)) = false := by decide) (he : starEach [e] X.env = (false, eval e X.env) :: starEach [] X.env := by rfl) :
    SE X b G m (.Call (.Name x p) [e] [] pos) (b1 g f) :=
  PE.imp (pe_callTy hc hg hm hv (pa_cons h.bor pa_nil he) hn hdb he rfl) fun σ H Q h => tM_un hr h
@[simp] def lenV : PV → Option PV
  | .lst xs => some (.int xs.length)
  | .frz xs => some (.int xs.length)
  | .tup xs => some (.int xs.length)
  | .ktp xs => some (.int xs.length)
  | .str x => if x.length ≤ 1000000 then some (.int x.length) else none
  | .dK kvs => some (.int kvs.length)
  | _ => none
theorem RepK.length {C : MC} {A : Addr → Prop} {H : Hp} : ∀ {vs : List (Key × V)} {ps : List (Key × PV)}, RepK C A H vs ps → vs.length = ps.length
  | _, _, .nil => rfl
  | _, _, .cons _ t => by simp [RepK.length t]
theorem se_len (hm : X.mg "len" = none) (h : SE X b G m1 e f) (hK : X.K = b.C.K := by rfl) (hg : Gl X "len" := by rfl) (he : starEach [e] X.env = (false, eval e X.env) :: starEach [] X.env := by rfl) : SE X b G .val (.Call (.Name "len" p) [e] [] pos) (b1 lenV f) := by
  refine se_blt (CallR.or (CallR.or call_len_seq call_len_str) call_lenD) (fun Ow H v1 p1 p Q hn r1 e k => ?_) hm PySem.boot_len h hg (by decide) (by decide) he
  rw [hK]
  cases p1 <;> simp only [lenV] at e
  case lst xs => cases e; obtain ⟨a, vs, rfl, ha, ra⟩ := r1.lst; exact .inl (.inl ⟨a, vs, rfl, .inl (SqL.of ha), by rw [ra.length]; exact k _ H (Same.refl _) (.int _)⟩)
  case frz xs => cases e; obtain ⟨a, vs, rfl, ha, ra⟩ := r1.frz; exact .inl (.inl ⟨a, vs, rfl, .inl ha, by rw [ra.length]; exact k _ H (Same.refl _) (.int _)⟩)
  case tup xs => cases e; obtain ⟨a, vs, rfl, ha, ra⟩ := r1.tup; exact .inl (.inl ⟨a, vs, rfl, .inr (SqT.of ha), by rw [ra.length]; exact k _ H (Same.refl _) (.int _)⟩)
  case ktp xs => cases e; obtain ⟨a, vs, rfl, ha, ra⟩ := r1.ktp; exact .inl (.inl ⟨a, vs, rfl, .inr ha, by rw [ra.length]; exact k _ H (Same.refl _) (.int _)⟩)
  case str x =>
    split at e
    · rename_i hx
      cases e
      rw [r1.str]
      exact .inl (.inr ⟨x, rfl, line_le hx, k _ H (Same.refl _) (.int _)⟩)
    · cases e
  case dK kvs => cases e; obtain ⟨a, vs, rfl, ha, ra⟩ := r1.dK; exact .inr ⟨a, vs, rfl, ha, by rw [ra.length]; exact k _ H (Same.refl _) (.int _)⟩
  all_goals cases e
def unKey : Key → PV
  | .inl i => .int i
  | .inr x => .str x
@[simp] def listV : PV → Option PV
  | .lst xs => some (.lst xs)
  | .frz xs => some (.lst xs)
  | .tup xs => some (.lst xs)
  | .ktp xs => some (.lst xs)
  | .dK kvs => some (.lst (kvs.map fun kv => unKey kv.1))
  | _ => none
theorem rep_key {C : MC} {A : Addr → Prop} {H : Hp} (k : Key) : Rep C A H (kV k) (unKey k) := by cases k with | inl i => exact .int i | inr x => exact .str x
theorem RepK.keys {C : MC} {A : Addr → Prop} {H : Hp} : ∀ {vs : List (Key × V)} {ps : List (Key × PV)}, RepK C A H vs ps → Reps C A H (vs.map fun kv => kV kv.1) (ps.map fun kv => unKey kv.1)
  | _, _, .nil => .nil
  | _, _, .cons (k := k) _ t => .cons (rep_key k) (RepK.keys t)
@[simp] def intV : PV → Option PV
  | .int i => some (.int i)
  | .bl k => some (.int (if k then 1 else 0))
  | _ => none
@[simp] def bools : List PV → Option (List Bool)
  | [] => some []
  | .bl c :: r => (bools r).map (c :: ·)
  | _ :: _ => none
theorem Reps.bools {C : MC} {A : Addr → Prop} {H : Hp} : ∀ {vs : List V} {ps : List PV} {bs : List Bool}, Reps C A H vs ps → bools ps = some bs → vs = bs.map V.bl
  | _, _, _, .nil, e => by cases e; rfl
  | _, _, _, .cons (p := p) (ps := ps) h t, e => by
    cases p <;> simp only [MR.bools] at e <;> first | cases e | skip
    rename_i c
    cases q : MR.bools ps with
    | none => rw [q] at e; cases e
    | some bs => rw [q] at e; cases e; cases h; rw [Reps.bools t q]; rfl
@[simp] def allV : PV → Option PV
  | .lst xs => (bools xs).map fun bs => .bl (bs.all id)
  | _ => none
@[simp] def anyV : PV → Option PV
  | .lst xs => (bools xs).map fun bs => .bl (bs.any id)
  | _ => none
theorem se_all (hm : X.mg "all" = none) (h : SE X b G m1 e f) (hcm : X.calm = true := by rfl) (hg : Gl X "all" := by rfl) (he : starEach [e] X.env = (false, eval e X.env) :: starEach [] X.env := by rfl) : SE X b G .val (.Call (.Name "all" p) [e] [] pos) (b1 allV f) := by
  refine se_blt (call_all hcm) (fun Ow H v1 p1 p Q hn r1 e k => ?_) hm PyProof.Rows.boot_all h hg (by decide) (by decide) he
  cases p1 <;> simp only [allV] at e <;> first | cases e | skip
  rename_i xs
  cases q : bools xs with
  | none => rw [q] at e; cases e
  | some bs =>
    rw [q] at e
    cases e
    obtain ⟨a, vs, rfl, ha, ra⟩ := r1.lst
    have hv := ra.bools q
    subst hv
    exact ⟨a, bs, rfl, SqL.of ha, k _ H (Same.refl _) (.bl _)⟩
theorem se_any (hm : X.mg "any" = none) (h : SE X b G m1 e f) (hcm : X.calm = true := by rfl) (hg : Gl X "any" := by rfl) (he : starEach [e] X.env = (false, eval e X.env) :: starEach [] X.env := by rfl) : SE X b G .val (.Call (.Name "any" p) [e] [] pos) (b1 anyV f) := by
  refine se_blt (call_any hcm) (fun Ow H v1 p1 p Q hn r1 e k => ?_) hm PyProof.Rows.boot_any h hg (by decide) (by decide) he
  cases p1 <;> simp only [anyV] at e <;> first | cases e | skip
  rename_i xs
  cases q : bools xs with
  | none => rw [q] at e; cases e
  | some bs =>
    rw [q] at e
    cases e
    obtain ⟨a, vs, rfl, ha, ra⟩ := r1.lst
    have hv := ra.bools q
    subst hv
    exact ⟨a, bs, rfl, SqL.of ha, k _ H (Same.refl _) (.bl _)⟩

/-! ### texts: join, split -/
@[simp] def strsP : List PV → Option (List Str)
  | [] => some []
  | .str c :: r => (strsP r).map (c :: ·)
  | _ :: _ => none
theorem Reps.strsP {C : MC} {A : Addr → Prop} {H : Hp} : ∀ {vs : List V} {ps : List PV} {bs : List Str}, Reps C A H vs ps → strsP ps = some bs → vs = bs.map V.str
  | _, _, _, .nil, e => by cases e; rfl
  | _, _, _, .cons (p := p) (ps := ps) h t, e => by
    cases p <;> simp only [MR.strsP] at e <;> first | cases e | skip
    rename_i c
    cases q : MR.strsP ps with
    | none => rw [q] at e; cases e
    | some bs => rw [q] at e; cases e; cases h; rw [Reps.strsP t q]; rfl
@[simp] def joinV : PV → PV → Option PV
  | .str z, .lst xs => (strsP xs).bind fun zs => if JoinOk z zs = true then some (.str (Str.join z zs)) else none
  | _, _ => none
@[simp] def splitV : PV → PV → Option PV
  | .str z, .str y => if (y.length == 0) = false ∧ z.length ≤ 1000000 then some (.lst ((Txt.split z y).map .str)) else none
  | _, _ => none

/-- o.m(e), o a text -/
theorem se_sm {id : String} {name : Str} {apos cpos : Pos} {o : Expr} {fo : Env → Option PV} {r : V → List V → Hp → VK → Prop} {g : PV → PV → Option PV} (slot : Slot "str" name id) (hty : typeOf (.builtin id) = pure (.type "method_descriptor")) (pa : PlainAttrs "str") (hm : MtR X id r)
    (hr : Op2 b m (fun x y H Q => (∃ z, x = .str z) → r x [y] H Q) g) (hgs : ∀ x y p, g x y = some p → ∃ z, x = .str z) (ho : SE X b G m1 o fo) (h : SE X b G m2 e f)
    (hbase : attributeBase o name X.env (eval o X.env) = eval o X.env := by rfl)
    (hfew : ((backTo cpos (starEach [e] X.env)).all (fun x => !x.1) && (backToKw cpos (keywordEach [] X.env)).all (fun x => x.1.isSome)
      && decide ([e].length + ([] : List Keyword).length + (if ([] : List Keyword).isEmpty then 0 else 1) < 30)) = true := by rfl)
    (hline : (apos.endLine == cpos.line) = true := by rfl) (hs : starEach [e] X.env = (false, eval e X.env) :: starEach [] X.env := by rfl) :
    SE X b G m (.Call (.Attribute o name apos) [e] [] cpos) (b2 g fo f) := by
  refine PE.imp (pe_bm pa slot hty hm ho.bor (pa_cons h.bor pa_nil hs) hbase hfew hline hs rfl) fun σ H Q h => ?_
  obtain ⟨Ow, env, p, E, hf, k⟩ := h
  unfold b2 at hf
  cases q1 : fo env with
  | none => rw [q1] at hf; cases hf
  | some p1 =>
    rw [q1] at hf
    cases q2 : f env with
    | none => rw [q2] at hf; cases hf
    | some p2 =>
      rw [q2] at hf
      simp only [Option.bind_some] at hf
      obtain ⟨z, rfl⟩ := hgs _ _ _ hf
      refine ⟨Ow, env, _, E, q1, fun v1 H1 s1 r1 => ?_⟩
      have r1' : RepB b.C (Bs b Ow) H1 v1 (.str z) := r1
      have ev := r1'.str
      subst ev
      refine ⟨rfl, Ow, env, p2, E.up s1, q2, fun v2 H2 s2 r2 => ?_⟩
      exact hr Ow H2 _ v2 _ p2 p Q (fun a => (E.up (s1.trans s2)).fresh) (RepB.ex (.of_same s2) s2 r1') r2 hf (fun v H' s r => k v H' (s1.trans (s2.trans s)) (r.down (s1.trans s2))) ⟨z, rfl⟩
theorem o2_join : Op2 b .val (fun x y H Q => (∃ z, x = .str z) → rJoin b.C.K x [y] H Q) joinV := by
  intro Ow H v1 v2 p1 p2 p Q hn r1 r2 e k _
  unfold joinV at e
  split at e
  · rename_i z xs
    cases q : strsP xs with
    | none => rw [q] at e; cases e
    | some zs =>
      rw [q] at e
      simp only [Option.bind_some] at e
      split at e
      · rename_i hj
        cases e
        obtain ⟨a, vs, rfl, ha, ra⟩ := r2.lst
        have hv := ra.strsP q
        subst hv
        exact ⟨z, a, zs, r1.str, rfl, SqL.of ha, hj, k _ H (Same.refl _) (.str _)⟩
      · cases e
  · cases e
theorem o2_split : Op2 b .own (fun x y H Q => (∃ z, x = .str z) → rSplit x [y] H Q) splitV := by
  intro Ow H v1 v2 p1 p2 p Q hn r1 r2 e k _
  unfold splitV at e
  split at e
  · rename_i z y
    split at e
    · rename_i hj
      cases e
      refine ⟨z, y, r1.str, by rw [r2.str], hj.1, hj.2, fun l hl => k _ _ (same_new hl _) (res_new hl (reps_of _ _ (fun x => .str x) _))⟩
    · cases e
  · cases e
theorem se_split {apos cpos : Pos} {o : Expr} {fo : Env → Option PV} (ho : SE X b G m1 o fo) (h : SE X b G m2 e f) (hbase : attributeBase o "split" X.env (eval o X.env) = eval o X.env := by rfl)
    (hfew : ((backTo cpos (starEach [e] X.env)).all (fun x => !x.1) && (backToKw cpos (keywordEach [] X.env)).all (fun x => x.1.isSome)
      && decide ([e].length + ([] : List Keyword).length + (if ([] : List Keyword).isEmpty then 0 else 1) < 30)) = true := by rfl)
    (hline : (apos.endLine == cpos.line) = true := by rfl) (hs : starEach [e] X.env = (false, eval e X.env) :: starEach [] X.env := by rfl) :
    SE X b G .own (.Call (.Attribute o "split" apos) [e] [] cpos) (b2 splitV fo f) :=
  se_sm PySem.F.slot_str_split PySem.F.type_str_split PySem.F.plainAttrs_str mt_split o2_split (fun x y p e => by
    unfold splitV at e
    split at e
    · exact ⟨_, rfl⟩
    · cases e) ho h hbase hfew hline hs

/-! ### own defs -/
/-- what a def hands back -/
def Ret (C : MC) (A : Addr → Prop) (H : Hp) (ro : Bool) (H' : Hp) (v : V) (p : PV) : Prop := match ro with
  | true => ∃ a, v = .ref a ∧ H a = none ∧ Top C (fun c => (A c ∨ H c = none) ∧ c ≠ a) H' a p
  | false => Rep C (fun c => A c ∨ H c = none) H' v p
/-- a def's promise by its mirror; ro: it hands back a new thing -/
def spM (C : MC) (m : List PV → Option PV) (ro : Bool) : Sp := fun vs H Q _ => ∃ A ps p, Reps C A H vs ps ∧ m ps = some p ∧ ∀ v H', Same H H' → Ret C A H ro H' v p → Q v H'
def mdOf : Bool → Md
  | true => .own
  | false => .val
theorem Ret.res {Ow : Addr → Prop} {σ : St} {env : Env} {H H1 H' : Hp} {ro : Bool} {v : V} {q : PV} (E : ER b Ow G σ env H) (s : Same H H1) (r : Ret b.C (Bs b Ow) H1 ro H' v q) : Res b Ow H H' (mdOf ro) v q := by
  cases ro with
  | true =>
    obtain ⟨a, rfl, h, t⟩ := r
    exact ⟨a, rfl, s.free h, t.ex (ex_weak fun c o _ z => ⟨z.1.elim id fun w => (E.up s).fresh w, z.2⟩) fun o z => z⟩
  | false => exact Rep.ex (ex_weak fun c o _ z => z.elim id fun w => (E.up s).fresh w) r
theorem se_call {k j : Nat} {x : Str} {ps : List Str} {mi : List PV → Option PV} {ro : Bool} (c : Cal X.prog X.w X.K X.mg X.base k x ps (spM b.C mi ro)) (hr : Room j X.A) (ha : SA X b G false (e :: es) g) (hle : k ≤ j := by decide) (hg : Gl X x := by rfl)
    (hdb : (x == ("__debug__" : Str)) = false := by decide) (he : starEach (e :: es) X.env = (false, eval e X.env) :: starEach es X.env := by rfl) (hpl : (backTo pos (starEach es X.env)).any (·.1) = false := by rfl) :
    SE X b G (mdOf ro) (.Call (.Name x p) (e :: es) [] pos) (bCall mi g) := by
  refine PE.imp (pe_cal c hr ha hle hg hdb he hpl) fun σ H Q ⟨Ow, env, q, E, hf, kk⟩ => ?_
  unfold bCall at hf
  cases q1 : g env with
  | none => rw [q1] at hf; cases hf
  | some qs =>
    rw [q1] at hf
    refine ⟨Ow, env, qs, E, q1, fun vs H1 s1 r => ?_⟩
    dsimp only
    rw [List.append_nil]
    exact ⟨Bs b Ow, qs, q, arA_f r, hf, fun v H' s' rr => kk v H' (s1.trans s') (Ret.res E s1 rr)⟩
/-! no list lies in it -/
mutual
def noL : PV → Bool
  | .lst _ => false
  | .tup xs => noLs xs
  | .ktp xs => noLs xs
  | .frz xs => noLs xs
  | .dK kvs => noLk kvs
  | .dT kvs => noLt kvs
  | .obj _ fs => noLf fs
  | _ => true
def noLs : List PV → Bool
  | [] => true
  | x :: xs => noL x && noLs xs
def noLk : List (Key × PV) → Bool
  | [] => true
  | x :: xs => noL x.2 && noLk xs
def noLt : List (List Key × PV) → Bool
  | [] => true
  | x :: xs => noL x.2 && noLt xs
def noLf : List (Str × PV) → Bool
  | [] => true
  | x :: xs => noL x.2 && noLf xs
end
/-- what has no list needs no word about lists -/
def NL (A A' : Addr → Prop) (H : Hp) : Prop := ∀ a o, H a = some o → A a → A' a ∨ ∃ vs, o = .lst vs
mutual
theorem Rep.nl {C : MC} {A A' : Addr → Prop} {H : Hp} (e : NL A A' H) : ∀ {v : V} {p : PV}, Rep C A H v p → noL p = true → Rep C A' H v p
  | _, _, .non, _ => .non
  | _, _, .bl b, _ => .bl b
  | _, _, .int i, _ => .int i
  | _, _, .str x, _ => .str x
  | _, _, .lst h q r, n => by simp only [noL] at n; cases n
  | _, _, .lstF h r, n => .lstF h (Reps.nl e r (by simpa only [noL] using n))
  | _, _, .lstK h r, n => .lstK h (Reps.nl e r (by simpa only [noL] using n))
  | _, _, .tup h r, n => .tup h (Reps.nl e r (by simpa only [noL] using n))
  | _, _, .tupK h r, n => .tupK h (Reps.nl e r (by simpa only [noL] using n))
  | _, _, .dK h q r, n => .dK h ((e _ _ h q).elim id fun ⟨_, z⟩ => nomatch z) (RepK.nl e r (by simpa only [noL] using n))
  | _, _, .dT h q r, n => .dT h ((e _ _ h q).elim id fun ⟨_, z⟩ => nomatch z) (RepT.nl e r (by simpa only [noL] using n))
  | _, _, .obj h q r, n => .obj h ((e _ _ h q).elim id fun ⟨_, z⟩ => nomatch z) (RepF.nl e r (by simpa only [noL] using n))
theorem Reps.nl {C : MC} {A A' : Addr → Prop} {H : Hp} (e : NL A A' H) : ∀ {v : List V} {p : List PV}, Reps C A H v p → noLs p = true → Reps C A' H v p
  | _, _, .nil, _ => .nil
  | _, _, .cons h t, n => by
    simp only [noLs, Bool.and_eq_true] at n
    exact .cons (Rep.nl e h n.1) (Reps.nl e t n.2)
theorem RepK.nl {C : MC} {A A' : Addr → Prop} {H : Hp} (e : NL A A' H) : ∀ {v : List (Key × V)} {p : List (Key × PV)}, RepK C A H v p → noLk p = true → RepK C A' H v p
  | _, _, .nil, _ => .nil
  | _, _, .cons h t, n => by
    simp only [noLk, Bool.and_eq_true] at n
    exact .cons (Rep.nl e h n.1) (RepK.nl e t n.2)
theorem RepT.nl {C : MC} {A A' : Addr → Prop} {H : Hp} (e : NL A A' H) : ∀ {v : List (List Key × V)} {p : List (List Key × PV)}, RepT C A H v p → noLt p = true → RepT C A' H v p
  | _, _, .nil, _ => .nil
  | _, _, .cons h t, n => by
    simp only [noLt, Bool.and_eq_true] at n
    exact .cons (Rep.nl e h n.1) (RepT.nl e t n.2)
theorem RepF.nl {C : MC} {A A' : Addr → Prop} {H : Hp} (e : NL A A' H) : ∀ {v : List (Str × V)} {p : List (Str × PV)}, RepF C A H v p → noLf p = true → RepF C A' H v p
  | _, _, .nil, _ => .nil
  | _, _, .cons h t, n => by
    simp only [noLf, Bool.and_eq_true] at n
    exact .cons (Rep.nl e h n.1) (RepF.nl e t n.2)
end
def bCallB (mi : List PV → Option PV) (g : Env → Option (List PV)) (env : Env) : Option PV := ((g env).bind mi).bind fun p => if noL p = true then some p else none
@[simp] theorem bCallB_ap (mi : List PV → Option PV) (g : Env → Option (List PV)) (env : Env) : bCallB mi g env = (((g env).bind mi).bind fun p => if noL p = true then some p else none) := id rfl
/-- f(xs), xs a list of one's own that is only read -/
theorem se_callB {k j : Nat} {x : Str} {ps : List Str} {mi : List PV → Option PV} (c : Cal X.prog X.w X.K X.mg X.base k x ps (spM b.C mi false)) (hr : Room j X.A) (ha : SA X b G true (e :: es) g) (hle : k ≤ j := by decide) (hg : Gl X x := by rfl)
    (hdb : (x == ("__debug__" : Str)) = false := by decide) (he : starEach (e :: es) X.env = (false, eval e X.env) :: starEach es X.env := by rfl) (hpl : (backTo pos (starEach es X.env)).any (·.1) = false := by rfl) :
    SE X b G .val (.Call (.Name x p) (e :: es) [] pos) (bCallB mi g) := by
  refine PE.imp (pe_cal c hr ha hle hg hdb he hpl) fun σ H Q ⟨Ow, env, q, E, hf, kk⟩ => ?_
  unfold bCallB at hf
  cases q1 : g env with
  | none => rw [q1] at hf; cases hf
  | some qs =>
    rw [q1] at hf
    simp only [Option.bind_some] at hf
    cases q2 : mi qs with
    | none => rw [q2] at hf; cases hf
    | some q' =>
      rw [q2] at hf
      simp only [Option.bind_some] at hf
      split at hf
      · rename_i hl
        cases hf
        refine ⟨Ow, env, qs, E, q1, fun vs H1 s1 r => ?_⟩
        dsimp only
        rw [List.append_nil]
        refine ⟨ArA b Ow true H1, qs, q, r, q2, fun v H' s' rr => kk v H' (s1.trans s') ?_⟩
        have rr' : Rep b.C (fun c => ArA b Ow true H1 c ∨ H1 c = none) H' v q := rr
        refine rr'.nl (fun a o ha z => ?_) hl
        rcases z with (z | ⟨_, us, z⟩) | z
        · exact .inl z
        · have := s' _ _ z
          rw [this] at ha
          exact .inr ⟨us, (Option.some.inj ha).symm⟩
        · exact .inl ((E.up s1).fresh z)
      · cases hf

/-! ### fields, methods -/
def bFld (c : Nat) (x : Str) (f : Env → Option PV) (env : Env) : Option PV := (f env).bind fun p => match p with
  | .obj c' fs => if c' = c then fs.lookup x else none
  | _ => none
@[simp] theorem bFld_ap (c : Nat) (x : Str) (f : Env → Option PV) (env : Env) : bFld c x f env = ((f env).bind fun p => match p with
  | .obj c' fs => if c' = c then fs.lookup x else none
  | _ => none) := id rfl
def bMeth (c : Nat) (x : Str) (mi : List PV → Option PV) (f : Env → Option PV) (g : Env → Option (List PV)) (env : Env) : Option PV := (f env).bind fun p => match p with
  | .obj c' fs => if c' = c ∧ fs.lookup x = none then (g env).bind fun ps => mi (p :: ps) else none
  | _ => none
@[simp] theorem bMeth_ap (c : Nat) (x : Str) (mi : List PV → Option PV) (f : Env → Option PV) (g : Env → Option (List PV)) (env : Env) : bMeth c x mi f g env = ((f env).bind fun p => match p with
  | .obj c' fs => if c' = c ∧ fs.lookup x = none then (g env).bind fun ps => mi (p :: ps) else none
  | _ => none) := id rfl
theorem se_callV {k j : Nat} {x : Str} {ps : List Str} {mi : List PV → Option PV} (c : Cal X.prog X.w X.K X.mg X.base k x ps (spM b.C mi false)) (hr : Room j X.A) (ha : SA X b G false (e :: es) g) (hle : k ≤ j := by decide) (hg : Gl X x := by rfl)
    (hdb : (x == ("__debug__" : Str)) = false := by decide) (he : starEach (e :: es) X.env = (false, eval e X.env) :: starEach es X.env := by rfl) (hpl : (backTo pos (starEach es X.env)).any (·.1) = false := by rfl) :
    SE X b G .val (.Call (.Name x p) (e :: es) [] pos) (bCall mi g) := se_call c hr ha hle hg hdb he hpl
theorem se_callO {k j : Nat} {x : Str} {ps : List Str} {mi : List PV → Option PV} (c : Cal X.prog X.w X.K X.mg X.base k x ps (spM b.C mi true)) (hr : Room j X.A) (ha : SA X b G false (e :: es) g) (hle : k ≤ j := by decide) (hg : Gl X x := by rfl)
    (hdb : (x == ("__debug__" : Str)) = false := by decide) (he : starEach (e :: es) X.env = (false, eval e X.env) :: starEach es X.env := by rfl) (hpl : (backTo pos (starEach es X.env)).any (·.1) = false := by rfl) :
    SE X b G .own (.Call (.Name x p) (e :: es) [] pos) (bCall mi g) := se_call c hr ha hle hg hdb he hpl
end
end MR

/-! ## the mirror: frames changed, statements -/
namespace MR
open PySem L2

section
variable {b : BX} {Ow : Addr → Prop} {G : List Nat} {σ : St} {env : Env} {H H' : Hp}
theorem ER.set (E : ER b Ow G σ env H) {i : Nat} {v : V} {p : PV} (hi : i ∉ G) (r : Rep b.C (Bs b Ow) H v p) (hx : b.fx i = none) : ER b Ow G (σ.set i (some v)) (env.set i (some p)) H := by
  refine ⟨by rw [List.length_set, List.length_set]; exact E.len, E.same, E.live, E.new, fun j q e n => ?_, fun j q e n => ?_, fun j k a q q' e1 n1 s1 e2 n2 s2 => ?_, fun k w hw => ?_⟩
  · by_cases hj : i = j
    · subst hj
      rw [List.getElem?_set] at e
      split at e
      · split at e
        · rename_i hl
          have := Option.some.inj (Option.some.inj e)
          subst this
          exact ⟨v, by rw [List.getElem?_set_self (by rw [E.len]; exact hl)], r⟩
        · cases e
      · exact absurd rfl ‹_›
    · rw [List.getElem?_set_ne hj] at e ⊢
      exact E.val j q e n
  · have hj : i ≠ j := fun z => hi (z ▸ n)
    rw [List.getElem?_set_ne hj] at e ⊢
    exact E.own j q e n
  · have hj : i ≠ j := fun z => hi (z ▸ n1)
    have hk : i ≠ k := fun z => hi (z ▸ n2)
    rw [List.getElem?_set_ne hj] at e1 s1
    rw [List.getElem?_set_ne hk] at e2 s2
    exact E.sep j k a q q' e1 n1 s1 e2 n2 s2
  · by_cases hk : i = k
    · subst hk; rw [hx] at hw; cases hw
    · rw [List.getElem?_set_ne hk]; exact E.fix k w hw
/-- a name of one's own gets a new thing -/
theorem ER.setO (E : ER b Ow G σ env H) {i : Nat} {a : Addr} {p : PV} {H0 : Hp} {G' : List Nat} (hG : ∀ j, j ∈ G' ↔ (j ∈ G ∨ j = i)) (s0 : Same H0 H) (hn : H0 a = none) (hE0 : ER b Ow G σ env H0) (t : Top b.C (fun c => Bs b Ow c ∧ c ≠ a) H a p) (hx : b.fx i = none) :
    ER b (fun c => Ow c ∨ c = a) G' (σ.set i (some (.ref a))) (env.set i (some p)) H ∧ Ex (Bs b Ow) H0 (Bs b fun c => Ow c ∨ c = a) H := by
  have hx0 : Ex (Bs b Ow) H0 (Bs b fun c => Ow c ∨ c = a) H := fun c o h => ⟨fun q => ⟨s0 _ _ h, fun z => z.elim q.1 (ne_of_none h hn), q.2⟩, fun _ => s0 _ _ h⟩
  have ht : Top b.C (Bs b fun c => Ow c ∨ c = a) H a p := t.ex (ex_weak fun c o _ q => ⟨fun z => z.elim q.1.1 q.2, q.1.2⟩) fun o z => z
  refine ⟨⟨by rw [List.length_set, List.length_set]; exact E.len, E.same, fun c w => w.elim (E.live c) fun z => by subst z; obtain ⟨o, h, _⟩ := t.live; exact ⟨o, h⟩, fun c w => w.elim (E.new c) fun z => by subst z; exact hE0.same.free hn, fun j q e n => ?_, fun j q e n => ?_, fun j k c q q' e1 n1 s1 e2 n2 s2 => ?_, fun k w hw => ?_⟩, hx0⟩
  · have hj : i ≠ j := fun z => n ((hG j).mpr (.inr z.symm))
    rw [List.getElem?_set_ne hj] at e ⊢
    obtain ⟨v, h1, h2⟩ := hE0.val j q e fun z => n ((hG j).mpr (.inl z))
    exact ⟨v, h1, h2.ex hx0⟩
  · by_cases hj : i = j
    · subst hj
      rw [List.getElem?_set] at e
      split at e
      · split at e
        · rename_i hl
          have := Option.some.inj (Option.some.inj e)
          subst this
          exact ⟨a, by rw [List.getElem?_set_self (by rw [E.len]; exact hl)], .inr rfl, ht⟩
        · cases e
      · exact absurd rfl ‹_›
    · rw [List.getElem?_set_ne hj] at e ⊢
      have nG : j ∈ G := ((hG j).mp n).elim id fun z => absurd z.symm hj
      obtain ⟨c, h1, h2, h3⟩ := hE0.own j q e nG
      exact ⟨c, h1, .inl h2, h3.ex hx0 fun o z => s0 _ _ z⟩
  · have old : ∀ {j : Nat} {q : PV}, i ≠ j → j ∈ G' → env[j]? = some (some q) → σ[j]? = some (some (.ref c)) → c ≠ a := fun {j q} hj n e s => by
      have nG : j ∈ G := ((hG j).mp n).elim id fun z => absurd z.symm hj
      obtain ⟨c', h1, h2, h3⟩ := hE0.own j q e nG
      rw [s] at h1
      cases h1
      obtain ⟨o, h4, _⟩ := h3.live
      exact ne_of_none h4 hn
    by_cases hj : i = j
    · by_cases hk : i = k
      · exact hj.symm.trans hk
      · subst hj
        rw [List.getElem?_set_ne hk] at e2 s2
        have hl : i < σ.length := by
          by_cases hl : i < σ.length
          · exact hl
          · rw [List.getElem?_eq_none (by rw [List.length_set]; omega)] at s1; cases s1
        rw [List.getElem?_set_self hl] at s1
        cases s1
        exact absurd rfl (old hk n2 e2 s2)
    · by_cases hk : i = k
      · subst hk
        rw [List.getElem?_set_ne hj] at e1 s1
        have hl : i < σ.length := by
          by_cases hl : i < σ.length
          · exact hl
          · rw [List.getElem?_eq_none (by rw [List.length_set]; omega)] at s2; cases s2
        rw [List.getElem?_set_self hl] at s2
        cases s2
        exact absurd rfl (old hj n1 e1 s1)
      · rw [List.getElem?_set_ne hj] at e1 s1
        rw [List.getElem?_set_ne hk] at e2 s2
        have g1 : j ∈ G := ((hG j).mp n1).elim id fun z => absurd z.symm hj
        have g2 : k ∈ G := ((hG k).mp n2).elim id fun z => absurd z.symm hk
        exact E.sep j k c q q' e1 g1 s1 e2 g2 s2
  · by_cases hk : i = k
    · subst hk; rw [hx] at hw; cases hw
    · rw [List.getElem?_set_ne hk]; exact E.fix k w hw
/-- a thing of one's own is written -/
theorem ER.write (E : ER b Ow G σ env H) {i : Nat} {a : Addr} {p p' : PV} {o' : HO} (hi : i ∈ G) (hσ : σ[i]? = some (some (.ref a))) (he : env[i]? = some (some p)) (hw : Ow a) (t : Top b.C (Bs b Ow) H a p) (t' : Top b.C (Bs b Ow) (upd H a o') a p') :
    ER b Ow G σ (env.set i (some p')) (upd H a o') ∧ Ex (Bs b Ow) H (Bs b Ow) (upd H a o') := by
  obtain ⟨o, ho, hm⟩ := t.live
  have hx : Ex (Bs b Ow) H (Bs b Ow) (upd H a o') := fun c u h => ⟨fun q => ⟨by rw [upd_ne (fun z : c = a => q.1 (z ▸ hw))]; exact h, q⟩, fun m => by
    have hc : c ≠ a := fun z => by subst z; rw [ho] at h; cases h; rw [hm] at m; cases m
    rw [upd_ne hc]; exact h⟩
  refine ⟨⟨by rw [List.length_set]; exact E.len, fun c u h => ?_, fun c w => ?_, E.new, fun j q e n => ?_, fun j q e n => ?_, fun j k c q q' e1 n1 s1 e2 n2 s2 => ?_, E.fix⟩, hx⟩
  · have hc : c ≠ a := ne_of_none h (E.new a hw)
    rw [upd_ne hc]; exact E.same c u h
  · by_cases hc : c = a
    · subst hc; exact ⟨o', upd_same⟩
    · obtain ⟨u, h⟩ := E.live c w
      exact ⟨u, by rw [upd_ne hc]; exact h⟩
  · have hj : i ≠ j := fun z => n (z ▸ hi)
    rw [List.getElem?_set_ne hj] at e
    obtain ⟨v, h1, h2⟩ := E.val j q e n
    exact ⟨v, h1, h2.ex hx⟩
  · by_cases hj : i = j
    · subst hj
      rw [List.getElem?_set] at e
      split at e
      · split at e
        · have := Option.some.inj (Option.some.inj e)
          subst this
          exact ⟨a, hσ, hw, t'⟩
        · cases e
      · exact absurd rfl ‹_›
    · rw [List.getElem?_set_ne hj] at e
      obtain ⟨c, h1, h2, h3⟩ := E.own j q e n
      have hc : c ≠ a := fun z => by subst z; exact hj (E.sep i j c p q he hi hσ e n h1)
      exact ⟨c, h1, h2, h3.ex hx fun u z => by rw [upd_ne hc]; exact z⟩
  · have back : ∀ {j : Nat} {q : PV}, (env.set i (some p'))[j]? = some (some q) → ∃ q, env[j]? = some (some q) := fun {j q} e => by
      by_cases hj : i = j
      · subst hj; exact ⟨p, he⟩
      · rw [List.getElem?_set_ne hj] at e; exact ⟨q, e⟩
    obtain ⟨r1, e1'⟩ := back e1
    obtain ⟨r2, e2'⟩ := back e2
    exact E.sep j k c r1 r2 e1' n1 s1 e2' n2 s2
/-- a thing is one's own no more -/
theorem ER.weak {G' : List Nat} (E : ER b Ow G σ env H) (h : ∀ j, j ∈ G' → j ∈ G) : ∃ Ow', ER b Ow' G' σ env H ∧ Ex (Bs b Ow) H (Bs b Ow') H := by
  refine ⟨fun a => Ow a ∧ ∃ j q, j ∈ G' ∧ env[j]? = some (some q) ∧ σ[j]? = some (some (.ref a)), ?_⟩
  have hx : Ex (Bs b Ow) H (Bs b fun a => Ow a ∧ ∃ j q, j ∈ G' ∧ env[j]? = some (some q) ∧ σ[j]? = some (some (.ref a))) H := ex_weak fun c o _ q => ⟨fun z => q.1 z.1, q.2⟩
  refine ⟨⟨E.len, E.same, fun a w => E.live a w.1, fun a w => E.new a w.1, fun i p e n => ?_, fun i p e n => ?_, fun i j a p q e1 n1 s1 e2 n2 s2 => E.sep i j a p q e1 (h i n1) s1 e2 (h j n2) s2, E.fix⟩, hx⟩
  · by_cases hi : i ∈ G
    · obtain ⟨a, h1, h2, h3⟩ := E.own i p e hi
      refine ⟨_, h1, (h3.ex hx fun o z => z).rep ⟨fun z => ?_, .inr (E.new a h2)⟩⟩
      obtain ⟨_, j, q, hj, e', s'⟩ := z
      have := E.sep i j a p q e hi h1 e' (h j hj) s'
      subst this
      exact n hj
    · obtain ⟨v, h1, h2⟩ := E.val i p e hi
      exact ⟨v, h1, h2.ex hx⟩
  · obtain ⟨a, h1, h2, h3⟩ := E.own i p e (h i n)
    exact ⟨a, h1, ⟨h2, i, p, n, e, h1⟩, h3.ex hx fun o z => z⟩
theorem ER.forget (E : ER b Ow G σ env H) (i : Nat) : ER b Ow G σ (env.set i none) H := by
  have back : ∀ {j : Nat} {q : PV}, (env.set i none)[j]? = some (some q) → env[j]? = some (some q) := fun {j q} e => by
    by_cases hj : i = j
    · subst hj
      rw [List.getElem?_set] at e
      split at e
      · split at e <;> cases e
      · exact absurd rfl ‹_›
    · rw [List.getElem?_set_ne hj] at e; exact e
  exact ⟨by rw [List.length_set]; exact E.len, E.same, E.live, E.new, fun j q e n => E.val j q (back e) n, fun j q e n => E.own j q (back e) n, fun j k a q q' e1 n1 s1 e2 n2 s2 => E.sep j k a q q' (back e1) n1 s1 (back e2) n2 s2, E.fix⟩
@[simp] def clr : List Nat → Env → Env
  | [], env => env
  | i :: r, env => clr r (env.set i none)
theorem ER.clr : ∀ {ds : List Nat} {env : Env}, ER b Ow G σ env H → ER b Ow G σ (clr ds env) H
  | [], _, E => E
  | i :: r, env, E => ER.clr (ds := r) (E.forget i)
end

inductive Out where
  | nx (e : Env) | bk (e : Env) | ct (e : Env) | rt (p : PV)
def Post (b : BX) (Ow : Addr → Prop) (H : Hp) (G L : List Nat) (ro : Bool) (D : Ends) : Out → Prop
  | .nx e => ∀ Ow' σ' H', ER b Ow' G σ' e H' → Ex (Bs b Ow) H (Bs b Ow') H' → D.nx σ' H'
  | .bk e => ∀ Ow' σ' H', ER b Ow' L σ' e H' → Ex (Bs b Ow) H (Bs b Ow') H' → D.bk σ' H'
  | .ct e => ∀ Ow' σ' H', ER b Ow' L σ' e H' → Ex (Bs b Ow) H (Bs b Ow') H' → D.ct σ' H'
  | .rt p => ∀ v H', Same b.H0 H' → Ret b.C b.A b.H0 ro H' v p → D.rt v H'
/-- a statement's worth: G owned ahead, G' behind, L at the loop's head -/
def tS (b : BX) (G G' L : List Nat) (ro : Bool) (f : Env → Option Out) : TS := fun D σ H => ∃ Ow env out, ER b Ow G σ env H ∧ f env = some out ∧ Post b Ow H G' L ro D out
abbrev SS (X : Cx) (b : BX) (G G' L : List Nat) (ro : Bool) (st : Stmt) (f : Env → Option Out) : Prop := PS X st (tS b G G' L ro f)
abbrev SSs (X : Cx) (b : BX) (G G' L : List Nat) (ro : Bool) (st : List Stmt) (f : Env → Option Out) : Prop := PSs X st (tS b G G' L ro f)
theorem PSs.imp {X : Cx} {e : List Stmt} {t u : TS} (h : PSs X e t) (i : ∀ D σ H, u D σ H → t D σ H) : PSs X e u := fun pins s σ H D I q => h pins s σ H D I (i D σ H q)
theorem PS.or {X : Cx} {e : Stmt} {t u : TS} (h : PS X e t) (h' : PS X e u) : PS X e (fun D σ H => t D σ H ∨ u D σ H) := fun pins s σ H D I q => q.elim (h pins s σ H D I) (h' pins s σ H D I)
theorem Post.ex {b : BX} {Ow Ow1 : Addr → Prop} {H H1 : Hp} {G L : List Nat} {ro : Bool} {D : Ends} {o : Out} (e : Ex (Bs b Ow) H (Bs b Ow1) H1) (h : Post b Ow H G L ro D o) : Post b Ow1 H1 G L ro D o := by
  cases o with
  | nx e' => exact fun Ow' σ' H' E x => h Ow' σ' H' E (e.trans x)
  | bk e' => exact fun Ow' σ' H' E x => h Ow' σ' H' E (e.trans x)
  | ct e' => exact fun Ow' σ' H' E x => h Ow' σ' H' E (e.trans x)
  | rt p => exact h

/-! ### worths of statements -/
def sNx (env : Env) : Option Out := some (.nx env)
@[simp] theorem sNx_ap (env : Env) : sNx env = (some (.nx env)) := id rfl
def sBk (env : Env) : Option Out := some (.bk env)
@[simp] theorem sBk_ap (env : Env) : sBk env = (some (.bk env)) := id rfl
def sCt (env : Env) : Option Out := some (.ct env)
@[simp] theorem sCt_ap (env : Env) : sCt env = (some (.ct env)) := id rfl
def sNo (env : Env) : Option Out := none
@[simp] theorem sNo_ap (env : Env) : sNo env = (none) := id rfl
def sSeq (f g : Env → Option Out) (env : Env) : Option Out := (f env).bind fun o => match o with | .nx e => g e | o => some o
@[simp] theorem sSeq_ap (f g : Env → Option Out) (env : Env) : sSeq f g env = ((f env).bind fun o => match o with | .nx e => g e | o => some o) := id rfl
def sSet (i : Nat) (f : Env → Option PV) (env : Env) : Option Out := (f env).bind fun p => some (.nx (env.set i (some p)))
@[simp] theorem sSet_ap (i : Nat) (f : Env → Option PV) (env : Env) : sSet i f env = ((f env).bind fun p => some (.nx (env.set i (some p)))) := id rfl
def sRet (f : Env → Option PV) (env : Env) : Option Out := (f env).bind fun p => some (.rt p)
@[simp] theorem sRet_ap (f : Env → Option PV) (env : Env) : sRet f env = ((f env).bind fun p => some (.rt p)) := id rfl
def sIf (c : Env → Option Bool) (f g : Env → Option Out) (env : Env) : Option Out := (c env).bind fun k => if k = true then f env else g env
@[simp] theorem sIf_ap (c : Env → Option Bool) (f g : Env → Option Out) (env : Env) : sIf c f g env = ((c env).bind fun k => if k = true then f env else g env) := id rfl
def sDrop (f : Env → Option PV) (env : Env) : Option Out := (f env).bind fun _ => some (.nx env)
@[simp] theorem sDrop_ap (f : Env → Option PV) (env : Env) : sDrop f env = ((f env).bind fun _ => some (.nx env)) := id rfl
/-- x.append(e) and its like: g of what stands in the name and of the value -/
def sMut1 (g : PV → PV → Option PV) (i : Nat) (f : Env → Option PV) (env : Env) : Option Out := (bV i env).bind fun x => (f env).bind fun p => (g x p).bind fun y => some (.nx (env.set i (some y)))
@[simp] theorem sMut1_ap (g : PV → PV → Option PV) (i : Nat) (f : Env → Option PV) (env : Env) : sMut1 g i f env = ((bV i env).bind fun x => (f env).bind fun p => (g x p).bind fun y => some (.nx (env.set i (some y)))) := id rfl
def sMut0 (g : PV → Option PV) (i : Nat) (env : Env) : Option Out := (bV i env).bind fun x => (g x).bind fun y => some (.nx (env.set i (some y)))
@[simp] theorem sMut0_ap (g : PV → Option PV) (i : Nat) (env : Env) : sMut0 g i env = ((bV i env).bind fun x => (g x).bind fun y => some (.nx (env.set i (some y)))) := id rfl
def sMut2 (g : PV → PV → PV → Option PV) (i : Nat) (f h : Env → Option PV) (env : Env) : Option Out := (bV i env).bind fun x => (f env).bind fun p => (h env).bind fun q => (g x p q).bind fun y => some (.nx (env.set i (some y)))
@[simp] theorem sMut2_ap (g : PV → PV → PV → Option PV) (i : Nat) (f h : Env → Option PV) (env : Env) : sMut2 g i f h env = ((bV i env).bind fun x => (f env).bind fun p => (h env).bind fun q => (g x p q).bind fun y => some (.nx (env.set i (some y)))) := id rfl
@[simp] def appV : PV → PV → Option PV
  | .lst xs, p => if xs.length < 1000000 then some (.lst (xs ++ [p])) else none
  | _, _ => none
@[simp] def clearV : PV → Option PV
  | .lst _ => some (.lst [])
  | _ => none
@[simp] def revV : PV → Option PV
  | .lst xs => some (.lst xs.reverse)
  | _ => none
def dPut {κ : Type} [DecidableEq κ] (kvs : List (κ × PV)) (k : κ) (v : PV) : List (κ × PV) :=
  if (kvs.any fun kv => decide (kv.1 = k)) = true then kvs.map (fun kv => if kv.1 = k then (kv.1, v) else kv) else kvs ++ [(k, v)]
/-- x[k] = v -/
@[simp] def putV : PV → PV → PV → Option PV
  | .dK kvs, k, v => (keyOf k).bind fun k => if kvs.length < 1000000 then some (.dK (dPut kvs k v)) else none
  | .dT kvs, .tup ks, v => (keysOf ks).bind fun k => if kvs.length < 1000000 then some (.dT (dPut kvs k v)) else none
  | .lst xs, .int i, v => (ixN xs.length i).map fun j => .lst (xs.set j v)
  | _, _, _ => none
def pF (f : Str) (v : PV) : List (Str × PV) → List (Str × PV)
  | [] => [(f, v)]
  | (g, x) :: r => if g = f then (g, v) :: r else (g, x) :: pF f v r
@[simp] def fsV (c : Nat) (x : Str) : PV → PV → Option PV
  | .obj c' fs, v => if c' = c ∧ fs.length < 1000 then some (.obj c' (pF x v fs)) else none
  | _, _ => none

section
variable {X : Cx} {b : BX} {G G' G1 L : List Nat} {ro : Bool} {st : Stmt} {rest : List Stmt} {f g : Env → Option Out} {e e1 e2 : Expr} {h h1 h2 : Env → Option PV} {m m1 m2 : Md} {pos : Pos}
theorem ss_nil : SSs X b G G L ro [] sNx := PSs.imp pss_nil fun D σ H ⟨Ow, env, o, E, hf, k⟩ => by cases hf; exact k Ow σ H E (Ex.refl _ _)
theorem ss_cons (a : SS X b G G1 L ro st f) (c : SSs X b G1 G' L ro rest g) : SSs X b G G' L ro (st :: rest) (sSeq f g) := PSs.imp (pss_cons a c) fun D σ H ⟨Ow, env, o, E, hf, k⟩ => by
  unfold sSeq at hf
  cases q : f env with
  | none => rw [q] at hf; cases hf
  | some o1 =>
    rw [q] at hf
    refine ⟨Ow, env, o1, E, q, ?_⟩
    cases o1 with
    | nx e' => exact fun Ow' σ' H' E' x => ⟨Ow', e', o, E', hf, k.ex x⟩
    | bk e' => cases hf; exact k
    | ct e' => cases hf; exact k
    | rt p => cases hf; exact k
theorem ss_one (a : SS X b G G' L ro st f) : SSs X b G G' L ro [st] f := pss_one a
/-- from here on less is one's own -/
theorem ss_frz (c : SSs X b G1 G' L ro rest g) (hs : ∀ j, j ∈ G1 → j ∈ G := by decide) : SSs X b G G' L ro rest g := PSs.imp c fun D σ H ⟨Ow, env, o, E, hf, k⟩ => by
  obtain ⟨Ow', E', x⟩ := E.weak hs
  exact ⟨Ow', env, o, E', hf, k.ex x⟩
theorem s_no : SS X b G G' L ro st sNo := PS.imp ps_never fun D σ H ⟨Ow, env, o, E, hf, k⟩ => by cases hf
/-- what behind a value is to be done -/
theorem bind_some' {α β : Type} {x : Option α} {k : α → Option β} {y : β} (h : x.bind k = some y) : ∃ a, x = some a ∧ k a = some y := by
  cases x with
  | none => cases h
  | some a => exact ⟨a, rfl, h⟩
theorem tset {i : Nat} {D : Ends} {σ : St} {H : Hp} (hi : i ∉ G) (hx : b.fx i = none) (q : tS b G G L ro (sSet i h) D σ H) : tM b G .val h σ H fun v H1 => D.nx (σ.set i (some v)) H1 := by
  obtain ⟨Ow, env, o, E, hf, k⟩ := q
  obtain ⟨p, hp, e⟩ := bind_some' hf
  cases e
  exact ⟨Ow, env, p, E, hp, fun v H' s r => k Ow _ H' ((E.up s).set hi r hx) (.of_same s)⟩
theorem tsetO {i : Nat} {D : Ends} {σ : St} {H : Hp} (hG : ∀ j, j ∈ G' ↔ (j ∈ G ∨ j = i)) (hx : b.fx i = none) (q : tS b G G' L ro (sSet i h) D σ H) : tM b G .own h σ H fun v H1 => D.nx (σ.set i (some v)) H1 := by
  obtain ⟨Ow, env, o, E, hf, k⟩ := q
  obtain ⟨p, hp, e⟩ := bind_some' hf
  cases e
  refine ⟨Ow, env, p, E, hp, fun v H' s ⟨a, ev, hn, t⟩ => ?_⟩
  subst ev
  obtain ⟨E', x⟩ := (E.up s).setO hG s hn E t hx
  exact k _ _ H' E' x
theorem s_set (i : Nat) {x : Str} {pos' : Pos} (nd : X.N.Nodup) (he : SE X b G .val e h) (hG : i ∉ G := by decide) (hx : b.fx i = none := by first | rfl | assumption) (hi : X.N[i]? = some x := by rfl) (hl : Loc X.env.scope x := by first | exact Or.inl rfl | exact Or.inr rfl)
    (hs : swapsWith e (some (.Name x pos')) pos.line X.env = pure false := by rfl) (hf : X.fn x = true ∨ X.env.scope.names.lookup x = some .local := by first | exact .inl rfl | exact .inr rfl | assumption) : SS X b G G L ro (.Assign [.Name x pos'] e pos) (sSet i h) :=
  PS.imp (ps_set nd hi hl he hs hf) fun D σ H q => tset hG hx q
theorem s_setO (i : Nat) {x : Str} {pos' : Pos} (nd : X.N.Nodup) (he : SE X b G .own e h) (hG : i ∈ G := by decide) (hx : b.fx i = none := by first | rfl | assumption) (hi : X.N[i]? = some x := by rfl) (hl : Loc X.env.scope x := by first | exact Or.inl rfl | exact Or.inr rfl)
    (hs : swapsWith e (some (.Name x pos')) pos.line X.env = pure false := by rfl) (hf : X.fn x = true ∨ X.env.scope.names.lookup x = some .local := by first | exact .inl rfl | exact .inr rfl | assumption) : SS X b G G L ro (.Assign [.Name x pos'] e pos) (sSet i h) :=
  PS.imp (ps_set nd hi hl he hs hf) fun D σ H q => tsetO (fun j => ⟨.inl, fun z => z.elim id fun y => y ▸ hG⟩) hx q
theorem s_ret (he : SE X b G .val e h) : SS X b G G' L false (.Return (some e) pos) (sRet h) := PS.imp (ps_ret he) fun D σ H ⟨Ow, env, o, E, hf, k⟩ => by
  obtain ⟨p, hp, z1⟩ := bind_some' hf
  clear hf
  cases z1
  exact ⟨Ow, env, p, E, hp, fun v H' s r => k v H' (E.same.trans s) (Rep.ex (ex_weak fun c o _ q => q.2) r)⟩
theorem s_retO (he : SE X b G .own e h) : SS X b G G' L true (.Return (some e) pos) (sRet h) := PS.imp (ps_ret he) fun D σ H ⟨Ow, env, o, E, hf, k⟩ => by
  obtain ⟨p, hp, z1⟩ := bind_some' hf
  clear hf
  cases z1
  exact ⟨Ow, env, p, E, hp, fun v H' s ⟨a, ev, hn, t⟩ => k v H' (E.same.trans s) ⟨a, ev, E.same.free hn, t.ex (ex_weak fun c o _ q => ⟨q.1.2, q.2⟩) fun o z => z⟩⟩
theorem s_if {c : Expr} {k : Env → Option Bool} {sa sb : List Stmt} (hc : ST X b G c k) (ha : SSs X b G G' L ro sa f) (hb : SSs X b G G' L ro sb g) : SS X b G G' L ro (.If c sa sb pos) (sIf k f g) := PS.imp (ps_if hc ha hb) fun D σ H ⟨Ow, env, o, E, hf, kk⟩ => by
  obtain ⟨p, hp, z1⟩ := bind_some' hf
  clear hf
  refine ⟨Ow, env, p, E, hp, fun H' s => ?_⟩
  cases p with
  | true => exact iteT ⟨Ow, env, o, E.up s, z1, kk.ex (.of_same s)⟩
  | false => exact iteF ⟨Ow, env, o, E.up s, z1, kk.ex (.of_same s)⟩
/-! ### lists of one's own -/
theorem s_app (i : Nat) {x : Str} {p1 apos cpos : Pos} (he : SE X b G .val e h) (hi : i ∈ G := by decide) (hN : X.N[i]? = some x := by rfl) (hv : Vis X.env.scope x := by first | exact Or.inl rfl | exact Or.inr (Or.inl rfl) | exact Or.inr (Or.inr rfl)) (hd : (x == ("__debug__" : Str)) = false := by decide)
    (hcd : (x == ("__classdict__" : Str)) = false := by decide) (hbase : attributeBase (.Name x p1) "append" X.env (eval (.Name x p1) X.env) = eval (.Name x p1) X.env := by rfl)
    (hfew : ((backTo cpos (starEach [e] X.env)).all (fun x => !x.1) && (backToKw cpos (keywordEach [] X.env)).all (fun x => x.1.isSome)
      && decide ([e].length + ([] : List Keyword).length + (if ([] : List Keyword).isEmpty then 0 else 1) < 30)) = true := by rfl)
    (hline : (apos.endLine == cpos.line) = true := by rfl) (hs : starEach [e] X.env = (false, eval e X.env) :: starEach [] X.env := by rfl) :
    SS X b G G L ro (.Expr (.Call (.Attribute (.Name x p1) "append" apos) [e] [] cpos) pos) (sMut1 appV i h) :=
  PS.imp (ps_expr (pe_bm PySem.F.plainAttrs_list PySem.F.slot_list_append PySem.F.type_list_append mt_append (pe_var hN hv hd hcd) (pa_cons he pa_nil hs) hbase hfew hline hs rfl)) fun D σ H ⟨Ow, env, o, E, hf, k⟩ => by
    obtain ⟨px, hpx, z1⟩ := bind_some' hf
    clear hf
    obtain ⟨p, hp, z2⟩ := bind_some' z1
    clear z1
    obtain ⟨y, hy, z3⟩ := bind_some' z2
    clear z2
    cases z3
    obtain ⟨a, ea, w, t⟩ := E.own i px (bV_some hpx) hi
    cases px <;> simp only [appV] at hy <;> first | cases hy | skip
    rename_i xs
    split at hy
    · rename_i hl
      cases hy
      obtain ⟨vs, ha, ra⟩ := id t
      refine ⟨_, ea, .inl ⟨rfl, _, SqL.of ha⟩, Ow, env, p, E, hp, fun v H' s r => ?_⟩
      refine ⟨a, vs, v, rfl, rfl, s _ _ ha, le_line (by rw [ra.length]; omega), ?_⟩
      have ra' : Reps b.C (Bs b Ow) (upd H' a (.lst (vs ++ [v]))) (vs ++ [v]) (xs ++ [p]) := by
        refine (ra.ex (.of_same s)).append (.cons r .nil) |>.ex fun c o h => ⟨fun q => ⟨by rw [upd_ne (fun z : c = a => q.1 (z ▸ w))]; exact h, q⟩, fun m => ?_⟩
        have hc : c ≠ a := fun z => by subst z; rw [s _ _ ha] at h; cases h; cases m
        rw [upd_ne hc]; exact h
      obtain ⟨E', x⟩ := (E.up s).write hi ea (bV_some hpx) w (t.ex (.of_same s) fun o z => s _ _ z) (o' := .lst (vs ++ [v])) (p' := .lst (xs ++ [p])) ⟨_, upd_same, ra'⟩
      exact k Ow σ _ E' ((Ex.of_same s).trans x)
    · cases hy
/-! ### x[k] = v -/
theorem RepT.length {C : MC} {A : Addr → Prop} {H : Hp} : ∀ {vs : List (List Key × V)} {ps : List (List Key × PV)}, RepT C A H vs ps → vs.length = ps.length
  | _, _, .nil => rfl
  | _, _, .cons _ t => by simp [RepT.length t]
theorem RepF.length {C : MC} {A : Addr → Prop} {H : Hp} : ∀ {vs : List (Str × V)} {ps : List (Str × PV)}, RepF C A H vs ps → vs.length = ps.length
  | _, _, .nil => rfl
  | _, _, .cons _ t => by simp [RepF.length t]
/-- the heap behind a write of one's own thing -/
theorem ex_write {Ow : Addr → Prop} {H : Hp} {a : Addr} {o o' : HO} (w : Ow a) (ha : H a = some o) (hm : isMut o = true) : Ex (Bs b Ow) H (Bs b Ow) (upd H a o') := fun c u h => ⟨fun q => ⟨by rw [upd_ne (fun z : c = a => q.1 (z ▸ w))]; exact h, q⟩, fun m => by
  have hc : c ≠ a := fun z => by subst z; rw [ha] at h; cases h; rw [hm] at m; cases m
  rw [upd_ne hc]; exact h⟩
/-! ### what a loop walks -/
/-- fr: the walked thing may be looked at while one's own things change -/
def IW (b : BX) (Ow : Addr → Prop) (fr : Bool) (H1 : Hp) (J : It) (ps : List PV) : Prop := ∀ Ow' H, (fr = false → Same H1 H) → Ex (Bs b Ow) H1 (Bs b Ow') H → (∀ a, H a = none → Bs b Ow' a) →
  (∀ i p, ps[i]? = some p → J.go i H ∧ ∀ x H', J.yld i H x H' → Same H H' ∧ Rep b.C (Bs b Ow') H' x p) ∧ J.stop ps.length H
def tMI (b : BX) (G : List Nat) (fr : Bool) (g : Env → Option (List PV)) : TI := fun σ H R => ∃ Ow env ps, ER b Ow G σ env H ∧ g env = some ps ∧ ∀ J H1, Same H H1 → IW b Ow fr H1 J ps → R J H1
abbrev SI (X : Cx) (b : BX) (G : List Nat) (fr : Bool) (tg it : Expr) (g : Env → Option (List PV)) : Prop := PI X tg it (tMI b G fr g)
theorem PI.imp {tg it : Expr} {t u : TI} (h : PI X tg it t) (i : ∀ σ H R, u σ H R → t σ H R) : PI X tg it u := fun pins s σ H R I q => h pins s σ H R I (i σ H R q)
theorem PI.or {tg it : Expr} {t u : TI} (h : PI X tg it t) (h' : PI X tg it u) : PI X tg it (fun σ H R => t σ H R ∨ u σ H R) := fun pins s σ H R I q => q.elim (h pins s σ H R I) (h' pins s σ H R I)
def chV (x : Str) : List PV := x.cps.toList.map fun c => .str ⟨#[c]⟩
@[simp] def itV : PV → Option (List PV)
  | .lst xs => some xs
  | .frz xs => some xs
  | .tup xs => some xs
  | .ktp xs => some xs
  | .str x => some (chV x)
  | _ => none
def iV (f : Env → Option PV) (env : Env) : Option (List PV) := (f env).bind itV
@[simp] theorem iV_ap (f : Env → Option PV) (env : Env) : iV f env = ((f env).bind itV) := id rfl
theorem iw_list {Ow : Addr → Prop} {fr : Bool} {H1 : Hp} {a : Addr} {vs : List V} {xs : List PV} (hq : ∀ Ow' H, (fr = false → Same H1 H) → Ex (Bs b Ow) H1 (Bs b Ow') H → SqL b.C.K H a vs ∧ Reps b.C (Bs b Ow') H vs xs) : IW b Ow fr H1 (Itl b.C.K a) xs := by
  intro Ow' H h0 h1 hn
  obtain ⟨q, r⟩ := hq Ow' H h0 h1
  refine ⟨fun i p hp => ?_, ⟨vs, q, by rw [r.length]; exact Nat.le_refl _⟩⟩
  obtain ⟨v, hv, rv⟩ := r.get hp
  refine ⟨⟨vs, v, q, hv⟩, fun x H' y => ?_⟩
  obtain ⟨e, y⟩ := y
  subst e
  have e2 := y vs q
  rw [hv] at e2
  cases e2
  exact ⟨Same.refl _, rv⟩
theorem iw_tup {Ow : Addr → Prop} {fr : Bool} {H1 : Hp} {a : Addr} {vs : List V} {xs : List PV} (hq : ∀ Ow' H, (fr = false → Same H1 H) → Ex (Bs b Ow) H1 (Bs b Ow') H → SqT b.C.K H a vs ∧ Reps b.C (Bs b Ow') H vs xs) : IW b Ow fr H1 (Itt b.C.K a) xs := by
  intro Ow' H h0 h1 hn
  obtain ⟨q, r⟩ := hq Ow' H h0 h1
  refine ⟨fun i p hp => ?_, ⟨vs, q, by rw [r.length]; exact Nat.le_refl _⟩⟩
  obtain ⟨v, hv, rv⟩ := r.get hp
  refine ⟨⟨vs, v, q, hv⟩, fun x H' y => ?_⟩
  obtain ⟨e, y⟩ := y
  subst e
  have e2 := y vs q
  rw [hv] at e2
  cases e2
  exact ⟨Same.refl _, rv⟩
theorem iw_str {Ow : Addr → Prop} {fr : Bool} {H1 : Hp} {x : Str} : IW b Ow fr H1 (Its x) (chV x) := by
  intro Ow' H h0 h1 hn
  refine ⟨fun i p hp => ?_, by show (chV x).length = x.cps.size; unfold chV; rw [List.length_map, Array.length_toList]⟩
  unfold chV at hp
  rw [List.getElem?_map] at hp
  cases q : x.cps.toList[i]? with
  | none => rw [q] at hp; cases hp
  | some c =>
    rw [q] at hp
    cases hp
    have hc : x.cps[i]? = some c := by rw [← Array.getElem?_toList]; exact q
    refine ⟨(Array.getElem?_eq_some_iff.mp hc).1, fun v H' y => ?_⟩
    obtain ⟨e, c', h', ev⟩ := y
    subst e
    rw [hc] at h'
    cases h'
    subst ev
    exact ⟨Same.refl _, .str _⟩
/-- for x in e -/
theorem si_v {tg : Expr} {fr : Bool} (he : SE X b G m e h) (hm : fr = true → m ≠ .bor) (hK : X.K = b.C.K := by rfl) : SI X b G fr tg e (iV h) := by
  have hPI := PI.or (tg := tg) (PI.or (pi_list he) (pi_tup he)) (pi_str he)
  refine PI.imp hPI fun σ H R ⟨Ow, env, ps, E, hg, k⟩ => ?_
  rw [hK]
  obtain ⟨p, hp, hps⟩ := bind_some' hg
  have keep : ∀ {H1 Ow' H2} {v : V}, Same H H1 → Res b Ow H H1 m v p → (fr = false → Same H1 H2) → Ex (Bs b Ow) H1 (Bs b Ow') H2 → RepB b.C (Bs b Ow') H2 v p := fun {H1 Ow' H2 v} s r h0 h1 => by
    cases fr with
    | false => exact RepB.ex h1 (h0 rfl) r.bor
    | true => exact .inl (Rep.ex h1 (r.val E (hm rfl)))
  unfold itV at hps
  split at hps
  · cases hps
    refine .inl (.inl ⟨Ow, env, _, E, hp, fun v H1 s r => ?_⟩)
    have r1 : RepB b.C (Bs b Ow) H1 v (.lst _) := r.bor
    obtain ⟨a, vs, rfl, ha, ra⟩ := r1.lst
    refine ⟨a, rfl, ⟨vs, SqL.of ha⟩, k _ _ s (iw_list (vs := vs) fun Ow' H2 h0 h1 => ?_)⟩
    obtain ⟨a', vs', e', ha', ra'⟩ := (keep s r h0 h1).lst
    cases e'
    have : H2 a = some (.lst vs) := by
      cases fr with
      | false => exact h0 rfl _ _ ha
      | true =>
        have rv : Rep b.C (Bs b Ow) H1 (.ref a) (.lst _) := r.val E (hm rfl)
        cases rv with
        | lst q1 q2 q3 => rw [ha] at q1; cases q1; exact ((h1 _ _ ha).1 q2).1
    rw [ha'] at this
    cases this
    exact ⟨SqL.of ha', ra'⟩
  · cases hps
    refine .inl (.inl ⟨Ow, env, _, E, hp, fun v H1 s r => ?_⟩)
    have r1 : Rep b.C (Bs b Ow) H1 v (.frz _) := (by rcases r.bor with z | ⟨_, _, z⟩; exact z; exact z.elim)
    cases r1 with
    | lstF q1 q3 => exact ⟨_, rfl, ⟨_, .inl (.inr ⟨_, q1⟩)⟩, k _ _ s (iw_list fun Ow' H2 h0 h1 => ⟨.inl (.inr ⟨_, (h1 _ _ q1).2 rfl⟩), q3.ex h1⟩)⟩
    | lstK q1 q3 => exact ⟨_, rfl, ⟨_, sqK q1⟩, k _ _ s (iw_list fun Ow' H2 h0 h1 => ⟨sqK q1, q3.ex h1⟩)⟩
  · cases hps
    refine .inl (.inr ⟨Ow, env, _, E, hp, fun v H1 s r => ?_⟩)
    have r1 : RepB b.C (Bs b Ow) H1 v (.tup _) := r.bor
    obtain ⟨a, vs, rfl, ha, ra⟩ := r1.tup
    exact ⟨a, rfl, ⟨vs, SqT.of ha⟩, k _ _ s (iw_tup (vs := vs) fun Ow' H2 h0 h1 => ⟨SqT.of ((h1 _ _ ha).2 rfl), ra.ex h1⟩)⟩
  · cases hps
    refine .inl (.inr ⟨Ow, env, _, E, hp, fun v H1 s r => ?_⟩)
    have r1 : RepB b.C (Bs b Ow) H1 v (.ktp _) := r.bor
    rcases r1 with r1 | ⟨_, _, t⟩
    · cases r1 with
      | tupK q1 q3 => exact ⟨_, rfl, ⟨_, sqTK q1⟩, k _ _ s (iw_tup fun Ow' H2 h0 h1 => ⟨sqTK q1, q3.ex h1⟩)⟩
    · exact t.elim
  · cases hps
    refine .inr ⟨Ow, env, _, E, hp, fun v H1 s r => ?_⟩
    have r1 : RepB b.C (Bs b Ow) H1 v (.str _) := r.bor
    exact ⟨_, r1.str, k _ _ s iw_str⟩
  · cases hps
/-- small enough for a range -/
noncomputable def rgI (i : Int) : Bool := @decide (-4611686018427387904 ≤ i ∧ i < 4611686018427387904) (Classical.propDecidable _)
theorem rgI_of {i : Int} (h : -4611686018427387904 ≤ i) (h' : i < 4611686018427387904) : rgI i = true := @decide_eq_true _ (Classical.propDecidable _) ⟨h, h'⟩
theorem rgI_to {i : Int} (h : rgI i = true) : -(2 ^ 62) ≤ i ∧ i < 2 ^ 62 := by
  simp only [rgI, decide_eq_true_eq] at h
  exact h
def rngV (lo hi : Int) : List PV := (List.range (hi - lo).toNat).map fun i => .int (lo + (i : Nat))
noncomputable def iR1 (f : Env → Option PV) (env : Env) : Option (List PV) := (f env).bind fun p => match p with
  | .int j => if rgI j = true then some (rngV 0 j) else none
  | _ => none
@[simp] theorem iR1_ap (f : Env → Option PV) (env : Env) : iR1 f env = ((f env).bind fun p => match p with
  | .int j => if rgI j = true then some (rngV 0 j) else none
  | _ => none) := id rfl
noncomputable def iR2 (f g : Env → Option PV) (env : Env) : Option (List PV) := (f env).bind fun p => (g env).bind fun q => match p, q with
  | .int i, .int j => if (rgI i && rgI j) = true then some (rngV i j) else none
  | _, _ => none
@[simp] theorem iR2_ap (f g : Env → Option PV) (env : Env) : iR2 f g env = ((f env).bind fun p => (g env).bind fun q => match p, q with
  | .int i, .int j => if (rgI i && rgI j) = true then some (rngV i j) else none
  | _, _ => none) := id rfl
theorem iw_rng {Ow : Addr → Prop} {fr : Bool} {H1 : Hp} {lo hi : Int} : IW b Ow fr H1 (Itr lo (hi - lo).toNat) (rngV lo hi) := by
  intro Ow' H h0 h1 hn
  have hl : (rngV lo hi).length = (hi - lo).toNat := by unfold rngV; rw [List.length_map, List.length_range]
  refine ⟨fun i p hp => ?_, by show (hi - lo).toNat ≤ (rngV lo hi).length; rw [hl]; exact Nat.le_refl _⟩
  have hi' : i < (hi - lo).toNat := by rw [← hl]; exact (List.getElem?_eq_some_iff.mp hp).1
  refine ⟨hi', fun x H' y => ?_⟩
  obtain ⟨e, ex⟩ := y
  subst e ex
  unfold rngV at hp
  rw [List.getElem?_map, List.getElem?_range hi'] at hp
  cases hp
  exact ⟨Same.refl _, .int _⟩
theorem si_r1 {tg : Expr} {fr : Bool} {p pos : Pos} (hm : X.mg "range" = none) (he : SE X b G m e h) (hg : Gl X "range" := by rfl) (hs : starEach [e] X.env = [(false, eval e X.env)] := by rfl) (hs' : starEach [e] X.env = (false, eval e X.env) :: starEach [] X.env := by rfl) : SI X b G fr tg (.Call (.Name "range" p) [e] [] pos) (iR1 h) := by
  refine PI.imp (pi_range1 hg hm (pa_cons he.bor pa_nil hs') hs) fun σ H R ⟨Ow, env, ps, E, hf, k⟩ => ?_
  obtain ⟨p1, hp, hps⟩ := bind_some' hf
  refine ⟨Ow, env, p1, E, hp, fun v H1 s r => ?_⟩
  have r1 : RepB b.C (Bs b Ow) H1 v p1 := r
  cases p1 <;> simp only at hps <;> first | cases hps | skip
  rename_i j
  split at hps
  · rename_i hj
    cases hps
    have hw : IW b Ow fr H1 (Itr 0 (j - 0).toNat) (rngV 0 j) := iw_rng
    rw [Int.sub_zero] at hw
    exact ⟨j, by rw [r1.int], (rgI_to hj).1, (rgI_to hj).2, k _ _ s hw⟩
  · cases hps
theorem si_r2 {tg : Expr} {fr : Bool} {p pos : Pos} (hm : X.mg "range" = none) (he : SE X b G m1 e1 h1) (he2 : SE X b G m2 e2 h2) (hg : Gl X "range" := by rfl) (hs : starEach [e1, e2] X.env = [(false, eval e1 X.env), (false, eval e2 X.env)] := by rfl) (hs2 : starEach [e2] X.env = [(false, eval e2 X.env)] := by rfl)
    (hs' : starEach [e1, e2] X.env = (false, eval e1 X.env) :: starEach [e2] X.env := by rfl) (hs2' : starEach [e2] X.env = (false, eval e2 X.env) :: starEach [] X.env := by rfl) : SI X b G fr tg (.Call (.Name "range" p) [e1, e2] [] pos) (iR2 h1 h2) := by
  refine PI.imp (pi_range2 hg hm (pa_cons he.bor (pa_cons he2.bor pa_nil hs2') hs') hs hs2) fun σ H R ⟨Ow, env, ps, E, hf, k⟩ => ?_
  obtain ⟨p1, hp, hps1⟩ := bind_some' hf
  clear hf
  obtain ⟨p2, hp2, hps⟩ := bind_some' hps1
  clear hps1
  refine ⟨Ow, env, p1, E, hp, fun v H1 s r => ⟨Ow, env, p2, E.up s, hp2, fun v2 H2 s2 r2 => ?_⟩⟩
  have r1 : RepB b.C (Bs b Ow) H1 v p1 := r
  have r2' : RepB b.C (Bs b Ow) H2 v2 p2 := r2
  cases p1 <;> cases p2 <;> simp only at hps <;> first | cases hps | skip
  rename_i i j
  split at hps
  · rename_i hj
    cases hps
    exact ⟨i, j, by rw [r1.int, r2'.int], (by rw [Bool.and_eq_true] at hj; exact ⟨(rgI_to hj.1).1, (rgI_to hj.1).2, (rgI_to hj.2).1, (rgI_to hj.2).2⟩), k _ _ (s.trans s2) iw_rng⟩
  · cases hps
/-- enumerate -/
def enumV (n : Nat) : List PV → List PV
  | [] => []
  | x :: xs => .tup [.int (n : Nat), x] :: enumV (n + 1) xs
theorem enumV_get {p : PV} : ∀ {xs : List PV} {n i : Nat}, (enumV n xs)[i]? = some p → ∃ x, xs[i]? = some x ∧ p = .tup [.int ((n + i : Nat) : Int), x]
  | [], n, i, e => by simp [enumV] at e
  | x :: xs, n, 0, e => by
    simp [enumV] at e
    exact ⟨x, rfl, by rw [← e]; rfl⟩
  | x :: xs, n, i + 1, e => by
    simp only [enumV, List.getElem?_cons_succ] at e
    obtain ⟨y, h1, h2⟩ := enumV_get e
    exact ⟨y, by simpa using h1, by rw [h2, Nat.add_right_comm, Nat.add_assoc]⟩
theorem enumV_length : ∀ {xs : List PV} {n : Nat}, (enumV n xs).length = xs.length
  | [], _ => rfl
  | x :: xs, n => by simp [enumV, enumV_length (xs := xs)]
def iE (f : Env → Option PV) (env : Env) : Option (List PV) := (f env).bind fun p => match p with
  | .lst xs => some (enumV 0 xs)
  | _ => none
@[simp] theorem iE_ap (f : Env → Option PV) (env : Env) : iE f env = ((f env).bind fun p => match p with
  | .lst xs => some (enumV 0 xs)
  | _ => none) := id rfl
end
end MR

/-! ## the mirror: loops, comprehensions, defs -/
namespace MR
open PySem L2

/-! ### targets -/
def gN (i : Nat) (p : PV) (env : Env) : Option Env := some (env.set i (some p))
@[simp] theorem gN_ap (i : Nat) (p : PV) (env : Env) : gN i p env = (some (env.set i (some p))) := id rfl
/-- several names -/
@[simp] def gNs : List Nat → List PV → Env → Option Env
  | [], [], env => some env
  | i :: is, p :: ps, env => gNs is ps (env.set i (some p))
  | _, _, _ => none
def gT (is : List Nat) (p : PV) (env : Env) : Option Env := match p with
  | .tup xs => gNs is xs env
  | _ => none
@[simp] theorem gT_ap (is : List Nat) (p : PV) (env : Env) : gT is p env = (match p with
  | .tup xs => gNs is xs env
  | _ => none) := id rfl
def tMG (b : BX) (G : List Nat) (g : PV → Env → Option Env) : TG := fun v σ H Q => ∃ Ow env p env', ER b Ow G σ env H ∧ Rep b.C (Bs b Ow) H v p ∧ g p env = some env' ∧ ∀ σ', ER b Ow G σ' env' H → Q σ' H
def tMGs (b : BX) (G : List Nat) (is : List Nat) : TGs := fun vs σ H Q => ∃ Ow env ps env', ER b Ow G σ env H ∧ Reps b.C (Bs b Ow) H vs ps ∧ gNs is ps env = some env' ∧ ∀ σ', ER b Ow G σ' env' H → Q σ' H
abbrev SG (X : Cx) (b : BX) (G : List Nat) (tg : Expr) (g : PV → Env → Option Env) : Prop := PG X tg (tMG b G g)
abbrev SGs (X : Cx) (b : BX) (G : List Nat) (tgs : List Expr) (is : List Nat) : Prop := PGs X tgs (tMGs b G is)
theorem PG.imp {X : Cx} {tg : Expr} {t u : TG} (h : PG X tg t) (i : ∀ v σ H Q, u v σ H Q → t v σ H Q) : PG X tg u := fun pins s σ H v w Q I r q => h pins s σ H v w Q I r (i v σ H Q q)
theorem PGs.imp {X : Cx} {tg : List Expr} {t u : TGs} (h : PGs X tg t) (i : ∀ v σ H Q, u v σ H Q → t v σ H Q) : PGs X tg u := fun pins s σ H v w Q I r q => h pins s σ H v w Q I r (i v σ H Q q)
section
variable {X : Cx} {b : BX} {G G' L : List Nat} {ro : Bool} {pos : Pos}
theorem sg_n (i : Nat) {x : Str} (nd : X.N.Nodup) (hG : i ∉ G := by decide) (hx : b.fx i = none := by first | rfl | assumption) (hi : X.N[i]? = some x := by rfl) (hl : Loc X.env.scope x := by first | exact Or.inl rfl | exact Or.inr rfl)
    (hf : X.fn x = true ∨ X.env.scope.names.lookup x = some .local := by first | exact .inl rfl | exact .inr rfl | assumption) : SG X b G (.Name x pos) (gN i) :=
  PG.imp (pg_name nd hi hl hf) fun v σ H Q ⟨Ow, env, p, env', E, r, e, k⟩ => by cases e; exact k _ (E.set hG r hx)
theorem sgs_nil : SGs X b G [] [] := PGs.imp pgs_nil fun vs σ H Q ⟨Ow, env, ps, env', E, r, e, k⟩ => by
  cases ps with
  | nil => cases r; cases e; exact ⟨rfl, k σ E⟩
  | cons p ps => cases e
theorem sgs_cons (i : Nat) {x : Str} {es : List Expr} {is : List Nat} {p1 : Pos} (nd : X.N.Nodup) (h2 : SGs X b G es is) (hG : i ∉ G := by decide) (hx : b.fx i = none := by first | rfl | assumption) (hi : X.N[i]? = some x := by rfl) (hl : Loc X.env.scope x := by first | exact Or.inl rfl | exact Or.inr rfl)
    (hf : X.fn x = true ∨ X.env.scope.names.lookup x = some .local := by first | exact .inl rfl | exact .inr rfl | assumption) (hs : (assignEach (.Name x p1 :: es) X.env).map (·.2) = assign (.Name x p1) X.env :: (assignEach es X.env).map (·.2) := by rfl) : SGs X b G (.Name x p1 :: es) (i :: is) :=
  PGs.imp (pgs_cons (pg_name nd hi hl hf) h2 hs) fun vs σ H Q ⟨Ow, env, ps, env', E, r, e, k⟩ => by
    cases ps with
    | nil => cases e
    | cons p ps =>
      cases r with
      | cons r1 r2 => exact ⟨_, _, rfl, Ow, env.set i (some p), ps, env', E.set hG r1 hx, r2, e, k⟩
theorem gNs_len : ∀ {is : List Nat} {ps : List PV} {env env' : Env}, gNs is ps env = some env' → ps.length = is.length
  | [], [], _, _, _ => rfl
  | i :: is, p :: ps, env, env', e => by simp [gNs_len (is := is) (ps := ps) e]
  | [], _ :: _, _, _, e => by cases e
  | _ :: _, [], _, _, e => by cases e
theorem sg_t {es : List Expr} {k : Nat} {is : List Nat} (h : SGs X b G es is) (hc : X.calm = true := by rfl) (hn : (assignEach es X.env).length = is.length := by rfl) (hst : (assignEach es X.env).findIdx? (·.1) = none := by rfl) (hK : X.K = b.C.K := by rfl) : SG X b G (.Tuple es k pos) (gT is) :=
  PG.imp (pg_tup hc h hn hst) fun v σ H Q ⟨Ow, env, p, env', E, r, e, k⟩ => by
    cases p <;> simp only [gT] at e <;> first | cases e | skip
    rename_i xs
    obtain ⟨a, vs, rfl, ha, ra⟩ := RepB.tup (.inl r)
    rw [hK]
    exact ⟨a, vs, rfl, SqT.of ha, by rw [ra.length]; exact gNs_len e, Ow, env, xs, env', E, ra, e, k⟩

/-! ### for -/
def loopS (g : PV → Env → Option Env) (ds : List Nat) (body : Env → Option Out) : List PV → Env → Option Out
  | [], env => some (.nx env)
  | x :: xs, env => (g x env).bind fun e1 => (body e1).bind fun o => match o with
    | .nx e => loopS g ds body xs (clr ds e)
    | .ct e => loopS g ds body xs (clr ds e)
    | .bk e => some (.nx (clr ds e))
    | .rt p => some (.rt p)
def sFor (g : PV → Env → Option Env) (src : Env → Option (List PV)) (ds : List Nat) (body : Env → Option Out) (env : Env) : Option Out := (src env).bind fun xs => loopS g ds body xs (clr ds env)
@[simp] theorem sFor_ap (g : PV → Env → Option Env) (src : Env → Option (List PV)) (ds : List Nat) (body : Env → Option Out) (env : Env) : sFor g src ds body env = ((src env).bind fun xs => loopS g ds body xs (clr ds env)) := id rfl
theorem s_for {tg it : Expr} {body : List Stmt} {g : PV → Env → Option Env} {src : Env → Option (List PV)} {f : Env → Option Out} (ds : List Nat) (hi : SI X b G true tg it src) (hg : SG X b G tg g) (hb : SSs X b G G G ro body f) (hp : PassesOwn (model X.prog X.w) X.A X.env X.xe) (hc : X.calm = true := by rfl)
    (hs : ∀ x, foldedSetIterable it X.env x = pure x := by intro _; rfl) : SS X b G G L ro (.For tg it body [] pos) (sFor g src ds f) := by
  refine PS.imp (ps_for hp hc hi hg hb hs) fun D σ H ⟨Ow, env, out, E, hf, k⟩ => ?_
  obtain ⟨ps, hps, hl⟩ := bind_some' hf
  refine ⟨Ow, env, ps, E, hps, fun J H1 s1 iw => ?_⟩
  refine ⟨fun i m σ2 H2 => m = ps.length - i ∧ i ≤ ps.length ∧ ∃ Ow2 env2, ER b Ow2 G σ2 env2 H2 ∧ Ex (Bs b Ow) H1 (Bs b Ow2) H2 ∧ loopS g ds f (ps.drop i) env2 = some out, ⟨ps.length, by simp, Nat.zero_le _, Ow, clr ds env, (E.up s1).clr, Ex.refl _ _, by simpa using hl⟩, ?_⟩
  rintro i m σ2 H2 ⟨rfl, hi, Ow2, env2, E2, x2, l2⟩
  obtain ⟨w1, w2⟩ := iw Ow2 H2 (fun z => by cases z) x2 fun a => E2.fresh
  have xk : Ex (Bs b Ow) H (Bs b Ow2) H2 := (Ex.of_same s1).trans x2
  by_cases hlt : i < ps.length
  · rw [List.drop_eq_getElem_cons hlt] at l2
    obtain ⟨e1, he1, l2⟩ := bind_some' l2
    obtain ⟨o, ho, l2⟩ := bind_some' l2
    obtain ⟨g1, g2⟩ := w1 i ps[i] (List.getElem?_eq_getElem hlt)
    refine .inr ⟨g1, fun σ' H' => i + 1 ≤ ps.length ∧ ∃ Ow2 env2, ER b Ow2 G σ' env2 H' ∧ Ex (Bs b Ow) H1 (Bs b Ow2) H' ∧ loopS g ds f (ps.drop (i + 1)) env2 = some out, fun σ' H' q => ⟨ps.length - (i + 1), by omega, rfl, q⟩, fun x H' y => ?_⟩
    obtain ⟨s3, r3⟩ := g2 x H' y
    refine ⟨Ow2, env2, _, e1, E2.up s3, r3, he1, fun σ3 E3 => ⟨Ow2, e1, o, E3, ho, ?_⟩⟩
    cases o with
    | nx e' => exact fun Ow' σ' H'' E' x' => ⟨hlt, Ow', _, E'.clr, x2.trans ((Ex.of_same s3).trans x'), l2⟩
    | ct e' => exact fun Ow' σ' H'' E' x' => ⟨hlt, Ow', _, E'.clr, x2.trans ((Ex.of_same s3).trans x'), l2⟩
    | bk e' => cases l2; exact fun Ow' σ' H'' E' x' => k Ow' σ' H'' E'.clr (xk.trans ((Ex.of_same s3).trans x'))
    | rt p => cases l2; exact k
  · have e : i = ps.length := by omega
    subst e
    rw [List.drop_length] at l2
    cases l2
    exact .inl ⟨w2, k Ow2 σ2 H2 E2 xk⟩
/-- while, at most n turns -/
def loopW (c : Env → Option Bool) (ds : List Nat) (body : Env → Option Out) : Nat → Env → Option Out
  | 0, _ => none
  | n + 1, env => (c env).bind fun k => if k = true then (body env).bind fun o => match o with
      | .nx e => loopW c ds body n (clr ds e)
      | .ct e => loopW c ds body n (clr ds e)
      | .bk e => some (.nx (clr ds e))
      | .rt p => some (.rt p)
    else some (.nx env)
def sWhile (n : Nat) (c : Env → Option Bool) (ds : List Nat) (body : Env → Option Out) (env : Env) : Option Out := loopW c ds body n (clr ds env)
@[simp] theorem sWhile_ap (n : Nat) (c : Env → Option Bool) (ds : List Nat) (body : Env → Option Out) (env : Env) : sWhile n c ds body env = (loopW c ds body n (clr ds env)) := id rfl
end

/-! ### comprehensions -/
def capE (cap : List (Option Nat)) (env : Env) : Env := cap.map fun o => match o with | some i => (env[i]?).getD none | none => none
@[simp] theorem capE_ap (cap : List (Option Nat)) (env : Env) : capE cap env = (cap.map fun o => match o with | some i => (env[i]?).getD none | none => none) := id rfl
def capG (cap : List (Option Nat)) (G : List Nat) : List Nat := (List.range cap.length).filter fun j => match cap[j]? with | some (some i) => decide (i ∈ G) | _ => false
def BX.in (b : BX) : BX := { b with fx := fun _ => none }
def compL (env : Env) (g : PV → Env → Option Env) (t : Env → Option Bool) (f : Env → Option PV) : List PV → Option (List PV)
  | [] => some []
  | x :: xs => (g x env).bind fun e => (t e).bind fun k => if k = true then (f e).bind fun y => (compL env g t f xs).bind fun ys => some (y :: ys) else compL env g t f xs
def bComp (cap : List (Option Nat)) (src : Env → Option (List PV)) (g : PV → Env → Option Env) (t : Env → Option Bool) (f : Env → Option PV) (env : Env) : Option PV := (src env).bind fun xs => if xs.length ≤ 1000000 then (compL (capE cap env) g t f xs).bind fun ys => some (.lst ys) else none
@[simp] theorem bComp_ap (cap : List (Option Nat)) (src : Env → Option (List PV)) (g : PV → Env → Option Env) (t : Env → Option Bool) (f : Env → Option PV) (env : Env) : bComp cap src g t f env = ((src env).bind fun xs => if xs.length ≤ 1000000 then (compL (capE cap env) g t f xs).bind fun ys => some (.lst ys) else none) := id rfl
def tTrue (env : Env) : Option Bool := some true
@[simp] theorem tTrue_ap (env : Env) : tTrue env = (some true) := id rfl

theorem capG_mem {cap : List (Option Nat)} {G : List Nat} {j : Nat} : j ∈ capG cap G ↔ ∃ i, cap[j]? = some (some i) ∧ i ∈ G := by
  unfold capG
  rw [List.mem_filter, List.mem_range]
  constructor
  · rintro ⟨h1, h2⟩
    split at h2
    · rename_i i e; exact ⟨i, e, by simpa using h2⟩
    · cases h2
  · rintro ⟨i, e, h⟩
    refine ⟨(List.getElem?_eq_some_iff.mp e).1, ?_⟩
    rw [e]; simpa using h
theorem capE_get {cap : List (Option Nat)} {env : Env} {j : Nat} {p : PV} (h : (capE cap env)[j]? = some (some p)) : ∃ i, cap[j]? = some (some i) ∧ env[i]? = some (some p) := by
  unfold capE at h
  rw [List.getElem?_map] at h
  cases q : cap[j]? with
  | none => rw [q] at h; cases h
  | some o =>
    rw [q] at h
    cases o with
    | none => cases h
    | some i =>
      refine ⟨i, rfl, ?_⟩
      have h' : (env[i]?).getD none = some p := by simpa using h
      cases q2 : env[i]? with
      | none => rw [q2] at h'; cases h'
      | some o => rw [q2] at h'; simp at h'; rw [h']
theorem capSt_get {cap : List (Option Nat)} {σ : St} {j i : Nat} {v : V} (h : cap[j]? = some (some i)) (e : σ[i]? = some (some v)) : (capSt cap σ)[j]? = some (some v) := by
  unfold capSt
  rw [List.getElem?_map, h]
  simp [capV, e]
/-- what is captured is captured once -/
def capInj (cap : List (Option Nat)) : Bool := (List.range cap.length).all fun j => (List.range cap.length).all fun k => match cap[j]?, cap[k]? with
  | some (some i), some (some i') => decide (i = i' → j = k)
  | _, _ => true
theorem capInj_of {cap : List (Option Nat)} (h : capInj cap = true) {j k i : Nat} (h1 : cap[j]? = some (some i)) (h2 : cap[k]? = some (some i)) : j = k := by
  have a := List.all_eq_true.mp h j (List.mem_range.mpr (List.getElem?_eq_some_iff.mp h1).1)
  have c := List.all_eq_true.mp a k (List.mem_range.mpr (List.getElem?_eq_some_iff.mp h2).1)
  rw [h1, h2] at c
  simpa using c
theorem ER.cap {b : BX} {Ow : Addr → Prop} {G : List Nat} {σ : St} {env : Env} {H : Hp} {cap : List (Option Nat)} (E : ER b Ow G σ env H) (hc : capInj cap = true) : ER b.in Ow (capG cap G) (capSt cap σ) (capE cap env) H := by
  refine ⟨by unfold capSt capE; rw [List.length_map, List.length_map], E.same, E.live, E.new, fun j p e n => ?_, fun j p e n => ?_, fun j k a p q e1 n1 s1 e2 n2 s2 => ?_, fun k v z => by cases z⟩
  · obtain ⟨i, h1, h2⟩ := capE_get e
    obtain ⟨v, h3, h4⟩ := E.val i p h2 fun z => n (capG_mem.mpr ⟨i, h1, z⟩)
    exact ⟨v, capSt_get h1 h3, h4⟩
  · obtain ⟨i, h1, h2⟩ := capE_get e
    obtain ⟨i', h1', hG⟩ := capG_mem.mp n
    rw [h1] at h1'; cases h1'
    obtain ⟨a, h3, h4, h5⟩ := E.own i p h2 hG
    exact ⟨a, capSt_get h1 h3, h4, h5⟩
  · obtain ⟨i, h1, h2⟩ := capE_get e1
    obtain ⟨i', h1', hG⟩ := capG_mem.mp n1
    rw [h1] at h1'; cases h1'
    obtain ⟨k', h3, h4⟩ := capE_get e2
    obtain ⟨k'', h3', hG2⟩ := capG_mem.mp n2
    rw [h3] at h3'; cases h3'
    obtain ⟨c, g1, _, _⟩ := E.own i p h2 hG
    obtain ⟨c2, g2, _, _⟩ := E.own k' q h4 hG2
    have t1 := capSt_get (cap := cap) h1 g1
    have t2 := capSt_get (cap := cap) h3 g2
    rw [s1] at t1; cases t1
    rw [s2] at t2; cases t2
    have := E.sep i k' _ p q h2 hG g1 h4 hG2 g2
    subst this
    exact capInj_of hc h1 h3
/-- the heap with one more thing of one's own -/
theorem ER.more {b : BX} {Ow : Addr → Prop} {G : List Nat} {σ : St} {env : Env} {H H' : Hp} {D : Addr} (E : ER b Ow G σ env H) (hD : H D = none) (s : Same H H') (hl : ∃ o, H' D = some o) : ER b (fun c => Ow c ∨ c = D) G σ env H' ∧ Ex (Bs b Ow) H (Bs b fun c => Ow c ∨ c = D) H' := by
  have hx : Ex (Bs b Ow) H (Bs b fun c => Ow c ∨ c = D) H' := fun c o h => ⟨fun q => ⟨s _ _ h, fun z => z.elim q.1 (ne_of_none h hD), q.2⟩, fun _ => s _ _ h⟩
  exact ⟨⟨E.len, E.same.trans s, fun c w => w.elim (fun z => let ⟨o, h⟩ := E.live c z; ⟨o, s _ _ h⟩) fun z => by subst z; exact hl, fun c w => w.elim (E.new c) fun z => by subst z; exact E.same.free hD, fun i p e n => let ⟨v, h1, h2⟩ := E.val i p e n; ⟨v, h1, h2.ex hx⟩,
    fun i p e n => let ⟨a, h1, h2, h3⟩ := E.own i p e n; ⟨a, h1, .inl h2, h3.ex hx fun o z => s _ _ z⟩, E.sep, E.fix⟩, hx⟩
/-- a target of a comprehension's block: its own slots are stored, the captured ones stay -/
structure TgOk (K : PySem.W.Frag) (cap : List (Option Nat)) (g : TG) (gm : PV → Env → Option Env) : Prop where
  go : ∀ (b : BX) (Ow : Addr → Prop) (G : List Nat) (σ : St) (env e : Env) (H : Hp) (v : V) (p : PV) (Q : St → Hp → Prop), b.C.K = K → (∀ i, b.fx i = none) → ER b Ow (capG cap G) (capSt cap σ) (capE cap env) H → Rep b.C (Bs b Ow) H v p → gm p (capE cap env) = some e →
    (∀ σ', Kp (capSt cap σ) σ' → ER b Ow (capG cap G) σ' e H → Q σ' H) → g v (capSt cap σ) H Q
theorem kp_set {σ σ' : St} {i : Nat} {v : V} (h : Kp σ σ') (hn : ∀ w, σ[i]? ≠ some (some w)) : Kp σ (σ'.set i (some v)) := by
  refine ⟨by rw [List.length_set]; exact h.1, fun j w e => ?_⟩
  by_cases hj : i = j
  · subst hj; exact absurd e (hn w)
  · rw [List.getElem?_set_ne hj]; exact h.2 j w e
theorem kp_refl (σ : St) : Kp σ σ := ⟨rfl, fun _ _ e => e⟩
theorem capSt_none {cap : List (Option Nat)} {σ : St} {i : Nat} (h : cap[i]? = some none) (w : V) : (capSt cap σ)[i]? ≠ some (some w) := by
  unfold capSt
  rw [List.getElem?_map, h]
  intro z; cases z
theorem capG_none {cap : List (Option Nat)} {G : List Nat} {i : Nat} (h : cap[i]? = some none) : i ∉ capG cap G := fun z => by
  obtain ⟨k, e, _⟩ := capG_mem.mp z
  rw [h] at e; cases e
theorem tg_n {K : PySem.W.Frag} {cap : List (Option Nat)} (i : Nat) (h : cap[i]? = some none := by rfl) : TgOk K cap (gName i) (gN i) :=
  ⟨fun b Ow G σ env e H v p Q hK hx E r he k => by
    cases he
    exact k _ (kp_set (kp_refl _) (capSt_none h)) (E.set (capG_none h) r (hx _))⟩
/-- the stores of a tuple's places -/
def gNames : List Nat → TGs
  | [] => gNil
  | i :: is => gCons (gName i) (gNames is)
theorem tg_t {K : PySem.W.Frag} {cap : List (Option Nat)} (is : List Nat) (h : (is.all fun i => decide (cap[i]? = some none)) = true := by rfl) : TgOk K cap (gTup K is.length (gNames is)) (gT is) :=
  ⟨fun b Ow G σ env e H v p Q hK hx E r he k => by
    subst hK
    cases p <;> simp only [gT] at he <;> first | cases he | skip
    rename_i xs
    obtain ⟨a, vs, rfl, ha, ra⟩ := RepB.tup (.inl r)
    refine ⟨a, vs, rfl, SqT.of ha, by rw [ra.length]; exact gNs_len he, ?_⟩
    have gen : ∀ (is : List Nat) (vs : List V) (xs : List PV) (σ1 : St) (env1 : Env), (is.all fun i => decide (cap[i]? = some none)) = true → Kp (capSt cap σ) σ1 → ER b Ow (capG cap G) σ1 env1 H → Reps b.C (Bs b Ow) H vs xs → gNs is xs env1 = some e → gNames is vs σ1 H Q := by
      intro is
      induction is with
      | nil =>
        intro vs xs σ1 env1 _ kp E1 r1 e1
        cases xs with
        | nil => cases r1; cases e1; exact ⟨rfl, k σ1 kp E1⟩
        | cons x xs => cases e1
      | cons i is ih =>
        intro vs xs σ1 env1 hall kp E1 r1 e1
        cases xs with
        | nil => cases e1
        | cons x xs =>
          cases r1 with
          | cons r2 r3 =>
            rw [List.all_cons, Bool.and_eq_true] at hall
            have hi : cap[i]? = some none := by simpa using hall.1
            exact ⟨_, _, rfl, ih _ xs _ _ hall.2 (kp_set kp (capSt_none hi)) (E1.set (capG_none hi) r2 (hx _)) r3 e1⟩
    exact gen is vs xs _ _ h (kp_refl _) E ra he⟩

section
variable {X : Cx} {b : BX} {G L : List Nat} {ro : Bool} {pos : Pos} {tg iter elt : Expr} {ifs : List Expr} {scope osc : Scope} {ON N : List Str} {cap : List (Option Nat)} {src : Env → Option (List PV)} {g : TG} {gm : PV → Env → Option Env} {t : Env → Option Bool} {f : Env → Option PV}
theorem tcomp {σ : St} {H : Hp} {Q : VK} (tgo : TgOk b.C.K cap g gm) (hc : capInj cap = true) (h : tM b G .own (bComp cap src gm t f) σ H Q) :
    tComp (tMI b G false src) cap g (tMT b.in (capG cap G) t) (tM b.in (capG cap G) .val f) σ H Q := by
  obtain ⟨Ow, env, p, E, hf, k⟩ := h
  obtain ⟨xs, hxs, hf⟩ := bind_some' hf
  split at hf
  · rename_i hlen
    obtain ⟨ys, hys, hf⟩ := bind_some' hf
    cases hf
    refine ⟨Ow, env, xs, E, hxs, fun J H1 s1 iw D hD => ?_⟩
    have E1 := E.up s1
    have nD : H D = none := s1.free hD
    refine ⟨fun i m vs H2 => m = xs.length - i ∧ i ≤ xs.length ∧ Same H1 H2 ∧ H2 D = some (.lst vs) ∧ vs.length ≤ i ∧ ∃ done rest, Reps b.C (Bs b fun c => Ow c ∨ c = D) H2 vs done ∧ compL (capE cap env) gm t f (xs.drop i) = some rest ∧ done ++ rest = ys,
      ⟨xs.length, by simp, Nat.zero_le _, same_new hD _, upd_same, Nat.le_refl _, [], ys, .nil, by simpa using hys, rfl⟩, ?_⟩
    rintro i m vs H2 ⟨rfl, hi, s2, d2, hv, done, rest, rd, cl, hdone⟩
    refine ⟨d2, ?_⟩
    obtain ⟨E2, x2⟩ := E1.more hD s2 ⟨_, d2⟩
    obtain ⟨w1, w2⟩ := iw _ H2 (fun _ => s2) x2 fun a => E2.fresh
    by_cases hlt : i < xs.length
    · rw [List.drop_eq_getElem_cons hlt] at cl
      obtain ⟨e1, he1, cl⟩ := bind_some' cl
      obtain ⟨kk, hk, cl⟩ := bind_some' cl
      obtain ⟨g1, g2⟩ := w1 i xs[i] (List.getElem?_eq_getElem hlt)
      refine .inr ⟨g1, fun vs' H' => i + 1 ≤ xs.length ∧ Same H1 H' ∧ H' D = some (.lst vs') ∧ vs'.length ≤ i + 1 ∧ ∃ done rest, Reps b.C (Bs b fun c => Ow c ∨ c = D) H' vs' done ∧ compL (capE cap env) gm t f (xs.drop (i + 1)) = some rest ∧ done ++ rest = ys, fun vs' H' q => ⟨xs.length - (i + 1), by omega, rfl, q⟩, fun x H' y => ?_⟩
      obtain ⟨s3, r3⟩ := g2 x H' y
      have E3 := (E2.up s3).cap hc
      refine tgo.go b.in _ G σ env e1 H' x _ _ rfl (fun _ => rfl) E3 r3 he1 fun σ3 kp E4 => ⟨kp, _, e1, kk, E4, hk, fun H4 s4 => ?_⟩
      have d4 : H4 D = some (.lst vs) := s4 _ _ (s3 _ _ d2)
      have s24 : Same H2 H4 := s3.trans s4
      cases kk with
      | false =>
        refine iteF ⟨hlt, s2.trans s24, d4, Nat.le_succ_of_le hv, done, rest, rd.ex (.of_same s24), ?_, hdone⟩
        simpa using cl
      | true =>
        simp only [if_true] at cl
        obtain ⟨y1, hy1, cl⟩ := bind_some' cl
        obtain ⟨ys1, hys1, cl⟩ := bind_some' cl
        cases cl
        refine iteT ⟨_, e1, y1, E4.up s4, hy1, fun v5 H5 s5 r5 => ⟨s5 _ _ d4, le_line (by omega), hlt, ?_, upd_same, by rw [List.length_append]; show vs.length + 1 ≤ i + 1; omega, done ++ [y1], ys1, ?_, hys1, by rw [List.append_assoc]; exact hdone⟩⟩
        · exact fun c o h => by rw [upd_ne (ne_of_none h hD)]; exact s5 _ _ (s24 _ _ (s2 _ _ h))
        · have r5' : Rep b.C (Bs b fun c => Ow c ∨ c = D) H5 v5 y1 := r5
          refine ((rd.ex (.of_same (s24.trans s5))).append (.cons r5' .nil)).ex ?_
          exact ex_write (b := b) (Ow := fun c => Ow c ∨ c = D) (.inr rfl) (s5 _ _ d4) rfl
    · have e : i = xs.length := by omega
      subst e
      rw [List.drop_length] at cl
      cases cl
      rw [List.append_nil] at hdone
      subst hdone
      refine .inl ⟨w2, k _ H2 (s1.trans s2) ⟨D, rfl, nD, vs, d2, rd.ex (ex_weak fun c o _ q => ⟨⟨fun z => q.1 (.inl z), q.2⟩, fun z => q.1 (.inr z)⟩)⟩⟩
  · cases hf
theorem sifs_nil {X : Cx} : PIfs X [] (tMT b G tTrue) := fun pins s σ H Q I ⟨Ow, env, k, E, hf, kk⟩ => by cases hf; exact pifs_nil pins s σ H Q I (kk H (Same.refl _))
/-- [elt for tg in iter (if ..)] -/
theorem se_comp (S : CSc osc scope ON N cap) (tgo : TgOk b.C.K cap g gm) (hi : SI X b G false tg iter src) (hg : ∀ C s H fp, PG (X.comp N scope C s H fp) tg g) (ht : ∀ C s H fp, PIfs (X.comp N scope C s H fp) ifs (tMT b.in (capG cap G) t)) (he : ∀ C s H fp, SE (X.comp N scope C s H fp) b.in (capG cap G) .val elt f)
    (hci : capInj cap = true := by rfl) (hc : X.calm = true := by rfl) (hsc : X.env.scope = osc := by rfl) (hN : X.N = ON := by rfl) (hs : ∀ x, foldedSetIterable iter X.env x = pure x := by intro _; rfl) : SE X b G .own (.ListComp elt [⟨tg, iter, ifs, 0⟩] scope pos) (bComp cap src gm t f) :=
  PE.imp (pe_comp S hi hg ht he hc hsc hN hs) fun σ H Q h => tcomp tgo hci h
/-- x = [elt for ..] -/
theorem s_setC (i : Nat) {y : Str} {py spos : Pos} (nd : X.N.Nodup) (S : CSc osc scope ON N cap) (tgo : TgOk b.C.K cap g gm) (hi : SI X b G false tg iter src) (hg : ∀ C s H fp, PG (X.comp N scope C s H fp) tg g) (ht : ∀ C s H fp, PIfs (X.comp N scope C s H fp) ifs (tMT b.in (capG cap G) t)) (he : ∀ C s H fp, SE (X.comp N scope C s H fp) b.in (capG cap G) .val elt f)
    (hG : i ∉ G := by decide) (hx : b.fx i = none := by first | rfl | assumption) (hi' : X.N[i]? = some y := by rfl) (hy : Loc X.env.scope y := by first | exact Or.inl rfl | exact Or.inr rfl) (hci : capInj cap = true := by rfl)
    (hsw : swapsWith (.ListComp elt [⟨tg, iter, ifs, 0⟩] scope pos) (some (.Name y py)) spos.line X.env = pure true := by rfl)
    (hc : X.calm = true := by rfl) (hsc : X.env.scope = osc := by rfl) (hN : X.N = ON := by rfl) (hs : ∀ x, foldedSetIterable iter X.env x = pure x := by intro _; rfl)
    (hf : X.fn y = true ∨ X.env.scope.names.lookup y = some .local := by first | exact .inl rfl | exact .inr rfl | assumption) :
    SS X b G G L ro (.Assign [.Name y py] (.ListComp elt [⟨tg, iter, ifs, 0⟩] scope pos) spos) (sSet i (bComp cap src gm t f)) :=
  PS.imp (ps_setC S nd hi' hy hi hg ht he hsw hc hsc hN hs hf) fun D σ H q => tcomp tgo hci (by
    obtain ⟨Ow, env, p, E, hf, k⟩ := tset hG hx q
    exact ⟨Ow, env, p, E, hf, fun v H' s r => k v H' s (r.val E (by intro z; cases z))⟩)
end

/-! ### defs -/
/-- a def's mirror: n slots, k parameters; ro: it hands back a new thing -/
def mDef (n k : Nat) (ro : Bool) (f : Env → Option Out) (ps : List PV) : Option PV := if ps.length = k then (f (ps.map some ++ List.replicate (n - k) none)).bind fun o => match o with
  | .nx _ => if ro = true then none else some .non
  | .rt p => some p
  | _ => none
  else none
@[simp] theorem mDef_ap (n k : Nat) (ro : Bool) (f : Env → Option Out) (ps : List PV) : mDef n k ro f ps = (if ps.length = k then (f (ps.map some ++ List.replicate (n - k) none)).bind fun o => match o with
  | .nx _ => if ro = true then none else some .non
  | .rt p => some p
  | _ => none
  else none) := id rfl
theorem er_start {C : MC} {A : Addr → Prop} {H : Hp} {N : List Str} {vs : List V} {ps : List PV} {G : List Nat} (r : Reps C A H vs ps) (hG : ∀ i, i ∈ G → ps.length ≤ i) (hn : ps.length ≤ N.length) : ER ⟨C, A, H, fun _ => none⟩ (fun _ => False) G (L2.start N vs) (ps.map some ++ List.replicate (N.length - ps.length) none) H := by
  have hl := r.length
  have old : ∀ i p, (ps.map some ++ List.replicate (N.length - ps.length) none)[i]? = some (some p) → ps[i]? = some p := fun i p e => by
    by_cases hi : i < ps.length
    · rw [List.getElem?_append_left (by rw [List.length_map]; exact hi), List.getElem?_map] at e
      cases q : ps[i]? with
      | none => rw [q] at e; cases e
      | some p' => rw [q] at e; cases e; rfl
    · rw [List.getElem?_append_right (by rw [List.length_map]; omega), List.getElem?_replicate] at e
      split at e <;> cases e
  refine ⟨?_, Same.refl _, fun a w => w.elim, fun a w => w.elim, fun i p e n => ?_, fun i p e n => ?_, fun i j a p q e1 n1 s1 e2 n2 s2 => ?_, fun k v z => by cases z⟩
  · unfold L2.start
    simp only [List.length_append, List.length_map, List.length_replicate]
    omega
  · obtain ⟨v, hv, rv⟩ := r.get (old i p e)
    refine ⟨v, ?_, rv.ex (ex_weak fun a o _ q => ⟨fun z => z, .inl q⟩)⟩
    unfold L2.start
    have hi : i < vs.length := (List.getElem?_eq_some_iff.mp hv).1
    rw [List.getElem?_append_left (by rw [List.length_map]; exact hi), List.getElem?_map, hv]
    rfl
  · have h1 := (List.getElem?_eq_some_iff.mp (old i p e)).1
    have h2 := hG i n
    omega
  · have h1 := (List.getElem?_eq_some_iff.mp (old i p e1)).1
    have h2 := hG i n1
    omega
/-- a body keeps the promise of its mirror -/
theorem body_ok {X : Cx} {C : MC} {N : List Str} {n k : Nat} {G G' L : List Nat} {ro : Bool} {body : List Stmt} {f : Env → Option Out} (hN : N.length = n) (hk : k ≤ n) (hG : (G.all fun i => decide (k ≤ i)) = true) (hb : ∀ A H, SSs X ⟨C, A, H, fun _ => none⟩ G G' L ro body f)
    {vs : List V} {H : Hp} {Q : VK} {E : XK} (h : spM C (mDef n k ro f) ro vs H Q E) : ∃ t, PSs X body t ∧ t { nx := fun _ H' => Q .non H', rt := Q } (L2.start N vs) H := by
  obtain ⟨A, ps, p, r, hm, kk⟩ := h
  refine ⟨_, hb A H, ?_⟩
  unfold mDef at hm
  split at hm
  · rename_i hl
    obtain ⟨o, ho, hm⟩ := bind_some' hm
    refine ⟨_, _, o, er_start (N := N) (G := G) r (fun i hi => by rw [hl]; simpa using List.all_eq_true.mp hG i hi) (by omega), by rw [hN, hl]; exact ho, ?_⟩
    cases o with
    | nx e =>
      cases ro with
      | true => cases hm
      | false => cases hm; exact fun Ow' σ' H' E' _ => kk .non H' E'.same .non
    | rt q => cases hm; exact fun v H' s rr => kk v H' s rr
    | bk e => cases hm
    | ct e => cases hm
  · cases hm
theorem spM_len {C : MC} {n k : Nat} {f : Env → Option Out} {ro ro' : Bool} {vs : List V} {H : Hp} {Q : VK} {E : XK} (h : spM C (mDef n k ro' f) ro vs H Q E) : vs.length = k := by
  obtain ⟨A, ps, p, r, hm, kk⟩ := h
  unfold mDef at hm
  split at hm
  · rename_i hl; rw [r.length]; exact hl
  · cases hm

/-! ### a class is made -/
def mInit (n k c : Nat) (f : Env → Option Out) (ps : List PV) : Option (List (Str × PV)) := if ps.length + 1 = k then (f (some (.obj c []) :: (ps.map some ++ List.replicate (n - k) none))).bind fun o => match o with
  | .nx (some (.obj c' fs) :: _) => if c' = c then some fs else none
  | _ => none
  else none
@[simp] theorem mInit_ap (n k c : Nat) (f : Env → Option Out) (ps : List PV) : mInit n k c f ps = (if ps.length + 1 = k then (f (some (.obj c []) :: (ps.map some ++ List.replicate (n - k) none))).bind fun o => match o with
  | .nx (some (.obj c' fs) :: _) => if c' = c then some fs else none
  | _ => none
  else none) := id rfl
def bMake (c : Nat) (m : List PV → Option (List (Str × PV))) (g : Env → Option (List PV)) (env : Env) : Option PV := (g env).bind fun ps => (m ps).bind fun fs => some (.obj c fs)
@[simp] theorem bMake_ap (c : Nat) (m : List PV → Option (List (Str × PV))) (g : Env → Option (List PV)) (env : Env) : bMake c m g env = ((g env).bind fun ps => (m ps).bind fun fs => some (.obj c fs)) := id rfl
def bMakeB (c : Nat) (m : List PV → Option (List (Str × PV))) (g : Env → Option (List PV)) (env : Env) : Option PV := (g env).bind fun ps => (m ps).bind fun fs => if noLf fs = true then some (.obj c fs) else none
@[simp] theorem bMakeB_ap (c : Nat) (m : List PV → Option (List (Str × PV))) (g : Env → Option (List PV)) (env : Env) : bMakeB c m g env = ((g env).bind fun ps => (m ps).bind fun fs => if noLf fs = true then some (.obj c fs) else none) := id rfl
section
variable {X : Cx} {b : BX} {G : List Nat} {pos p : Pos} {e : Expr} {es : List Expr} {g : Env → Option (List PV)}
/-! ### isinstance -/
@[simp] def tyN : PV → Option String
  | .non => some "NoneType"
  | .bl _ => some "bool"
  | .int _ => some "int"
  | .str _ => some "str"
  | .lst _ => some "list"
  | .tup _ => some "tuple"
  | .dK _ => some "dict"
  | .dT _ => some "dict"
  | _ => none
def isiV (tb : List (String × Bool)) (p : PV) : Option PV := (tyN p).bind fun t => (tb.lookup t).bind fun k => some (.bl k)
@[simp] theorem isiV_ap (tb : List (String × Bool)) (p : PV) : isiV tb p = ((tyN p).bind fun t => (tb.lookup t).bind fun k => some (.bl k)) := id rfl
theorem RepB.ty {C : MC} {A : Addr → Prop} {H : Hp} {v : V} {p : PV} {t : String} (r : RepB C A H v p) (h : tyN p = some t) : TyOf C.K H v (.type t) := by
  cases p <;> simp only [tyN] at h <;> cases h
  · rw [r.non]; exact .non
  · rw [r.bl]; exact .bl _
  · rw [r.int]; exact .int _
  · rw [r.str]; exact .str _
  · obtain ⟨a, vs, rfl, ha, _⟩ := r.lst; exact .lst ha
  · obtain ⟨a, vs, rfl, ha, _⟩ := r.tup; exact .tup ha
  · obtain ⟨a, vs, rfl, ha, _⟩ := r.dK; exact .dK ha
  · obtain ⟨a, vs, rfl, ha, _⟩ := r.dT; exact .dT ha
theorem look_mem {α β : Type} [BEq α] [LawfulBEq α] {x : α} {y : β} : ∀ {l : List (α × β)}, l.lookup x = some y → (x, y) ∈ l
  | [], h => by cases h
  | (a, c) :: r, h => by
    rw [List.lookup_cons] at h
    cases q : x == a with
    | true => rw [q] at h; cases h; have := eq_of_beq q; subst this; exact List.mem_cons_self
    | false => rw [q] at h; exact List.mem_cons_of_mem _ (look_mem h)
end
end MR

/-! ## for over a list of one's own, which stays one's own -/
namespace MR
open PySem L2
/-- the place j keeps what stands there -/
def BX.fixed (b : BX) (j : Nat) (v : V) : BX := { b with fx := fun i => if i = j then some v else b.fx i }
def loopO (j : Nat) (g : PV → Env → Option Env) (ds : List Nat) (body : Env → Option Out) : Nat → Nat → Env → Option Out
  | 0, _, _ => none
  | n + 1, k, env => match bV j env with
    | some (.lst ys) => match ys[k]? with
      | none => some (.nx env)
      | some y => (g y env).bind fun e1 => (body e1).bind fun o => match o with
        | .nx e => loopO j g ds body n (k + 1) (clr ds e)
        | .ct e => loopO j g ds body n (k + 1) (clr ds e)
        | .bk e => some (.nx (clr ds e))
        | .rt p => some (.rt p)
    | _ => none
def sForO (j n : Nat) (g : PV → Env → Option Env) (ds : List Nat) (body : Env → Option Out) (env : Env) : Option Out := loopO j g ds body n 0 (clr ds env)
@[simp] theorem sForO_ap (j n : Nat) (g : PV → Env → Option Env) (ds : List Nat) (body : Env → Option Out) (env : Env) : sForO j n g ds body env = loopO j g ds body n 0 (clr ds env) := id rfl
section
variable {X : Cx} {b : BX} {G G' L : List Nat} {ro : Bool} {pos : Pos}
theorem ER.free {Ow Ow' : Addr → Prop} {σ σ' : St} {env env' : Env} {H H' : Hp} {j : Nat} {v : V} (E0 : ER b Ow G σ env H) (h : σ[j]? = some (some v)) (E : ER (b.fixed j v) Ow' G' σ' env' H') : ER b Ow' G' σ' env' H' :=
  ⟨E.len, E.same, E.live, E.new, E.val, E.own, E.sep, fun i w e => by
    by_cases hi : i = j
    · subst hi
      have h1 := E0.fix i w e
      rw [h] at h1
      cases h1
      exact E.fix i v (if_pos rfl)
    · exact E.fix i w ((if_neg hi).trans e)⟩
/-! ### zip -/
def zipV (xs ys : List PV) : List PV := List.zipWith (fun x y => .tup [x, y]) xs ys
def iZ (f g : Env → Option PV) (env : Env) : Option (List PV) := (f env).bind fun p => (g env).bind fun q => match p, q with
  | .lst xs, .lst ys => some (zipV xs ys)
  | _, _ => none
@[simp] theorem iZ_ap (f g : Env → Option PV) (env : Env) : iZ f g env = ((f env).bind fun p => (g env).bind fun q => match p, q with
  | .lst xs, .lst ys => some (zipV xs ys)
  | _, _ => none) := id rfl
end
end MR

/-! ## min, max of two, endswith -/
namespace L2
open PySem PySem.Spec PyProof.Rows
section
variable {X : Cx}
end
end L2
namespace MR
open PySem L2
section
variable {X : Cx} {b : BX} {G G' L : List Nat} {ro : Bool} {pos p : Pos} {m m1 m2 : Md} {e e1 e2 : Expr} {f f1 f2 : Env → Option PV}
@[simp] def minV : PV → PV → Option PV
  | .int i, .int j => some (.int (if j < i then j else i))
  | _, _ => none
@[simp] def maxV : PV → PV → Option PV
  | .int i, .int j => some (.int (if j > i then j else i))
  | _, _ => none
@[simp] def endswithV : PV → PV → Option PV
  | .str x, .str y => some (.bl (Txt.endswith x y))
  | _, _ => none
theorem se_max (hm : X.mg "max" = none) (h1 : SE X b G m1 e1 f1) (h2 : SE X b G m2 e2 f2) (hc : X.calm = true := by rfl) (hg : Gl X "max" := by rfl) (hbi : bootBuiltins "max" = some (.builtin "max") := by decide +kernel)
    (he : starEach [e1, e2] X.env = (false, eval e1 X.env) :: starEach [e2] X.env := by rfl) (he2 : starEach [e2] X.env = (false, eval e2 X.env) :: starEach [] X.env := by rfl) (hpl : (backTo pos (starEach [e2] X.env)).any (·.1) = false := by rfl) :
    SE X b G .val (.Call (.Name "max" p) [e1, e2] [] pos) (b2 maxV f1 f2) := by
  refine PE.imp (pe_callB (call_max2 hc) hg hm hbi (pa_cons h1.bor (pa_cons h2.bor pa_nil he2) he) (by decide) (by decide) he hpl) fun σ H Q ⟨Ow, env, q, E, hf, kk⟩ => ?_
  obtain ⟨p1, hp1, hf⟩ := bind_some' hf
  obtain ⟨p2, hp2, hf⟩ := bind_some' hf
  refine ⟨Ow, env, p1, E, hp1, fun v H1 s r => ⟨Ow, env, p2, E.up s, hp2, fun v2 H2 s2 r2 => ?_⟩⟩
  have r1 : RepB b.C (Bs b Ow) H1 v p1 := r
  have r2' : RepB b.C (Bs b Ow) H2 v2 p2 := r2
  cases p1 <;> cases p2 <;> simp only [maxV] at hf <;> cases hf
  exact ⟨_, _, by rw [r1.int, r2'.int], kk _ H2 (s.trans s2) (.int _)⟩
end
end MR

/-! ## extend, list * int, tuple, a, b = e -/
namespace MR
open PySem L2
section
variable {X : Cx} {b : BX} {G G' L : List Nat} {ro : Bool} {pos p : Pos} {m m1 m2 : Md} {e e1 e2 : Expr} {f f1 f2 h : Env → Option PV}
@[simp] def extV : PV → PV → Option PV
  | .lst xs, .lst ys => if xs.length + ys.length ≤ 1000000 then some (.lst (xs ++ ys)) else none
  | _, _ => none
/-! ### list * int -/
@[simp] def repV : PV → PV → Option PV
  | .lst xs, .int k => if -1000000 ≤ k ∧ k ≤ 1000000 ∧ xs.length * k.toNat ≤ 1000000 then some (.lst (List.replicate k.toNat xs).flatten) else none
  | _, _ => none
/-! ### tuple -/
@[simp] def tupleV : PV → Option PV
  | .lst xs => some (.tup xs)
  | .frz xs => some (.tup xs)
  | .tup xs => some (.tup xs)
  | _ => none
theorem se_tuple (hm : X.mg "tuple" = none) (h : SE X b G m1 e f) (hK : X.K = b.C.K := by rfl) (hg : Gl X "tuple" := by rfl) (he : starEach [e] X.env = (false, eval e X.env) :: starEach [] X.env := by rfl) : SE X b G .val (.Call (.Name "tuple" p) [e] [] pos) (b1 tupleV f) := by
  refine se_blty call_tuple_of (fun Ow H v1 p1 p Q hn r1 e k => ?_) hm PyProof.Rows.boot_tuple h hg (by decide) (by decide) he
  rw [hK]
  cases p1 <;> simp only [tupleV] at e <;> cases e
  case lst xs => obtain ⟨a, vs, rfl, ha, ra⟩ := r1.lst; exact ⟨a, vs, rfl, .inl ⟨SqL.of ha, fun l hl => k _ _ (same_new hl _) (res_tup hl ra)⟩⟩
  case frz xs => obtain ⟨a, vs, rfl, ha, ra⟩ := r1.frz; exact ⟨a, vs, rfl, .inl ⟨ha, fun l hl => k _ _ (same_new hl _) (res_tup hl ra)⟩⟩
  case tup xs => obtain ⟨a, vs, rfl, ha, ra⟩ := r1.tup; exact ⟨a, vs, rfl, .inr ⟨SqT.of ha, k _ _ (Same.refl _) (.tup ha ra)⟩⟩
/-! ### list(range(n)), reversed, index: their worths -/
@[simp] def lrngV : PV → Option PV
  | .int j => if 0 ≤ j ∧ j ≤ 1000000 then some (.lst (rngV 0 j)) else none
  | _ => none
@[simp] def lrevV : PV → Option PV
  | .lst xs => some (.lst xs.reverse)
  | _ => none
def iRv (f : Env → Option PV) (env : Env) : Option (List PV) := (f env).bind fun p => match p with
  | .lst xs => some xs.reverse
  | _ => none
@[simp] theorem iRv_ap (f : Env → Option PV) (env : Env) : iRv f env = ((f env).bind fun p => match p with
  | .lst xs => some xs.reverse
  | _ => none) := id rfl
/-- n, n - 1 .. 0 -/
def dnV (n : Int) : List PV := (List.range (n + 1).toNat).reverse.map fun i => .int (i : Nat)
def iDn (f : Env → Option PV) (env : Env) : Option (List PV) := (f env).bind fun p => match p with
  | .int n => if -1 ≤ n ∧ n ≤ 1000000 then some (dnV n) else none
  | _ => none
@[simp] theorem iDn_ap (f : Env → Option PV) (env : Env) : iDn f env = ((f env).bind fun p => match p with
  | .int n => if -1 ≤ n ∧ n ≤ 1000000 then some (dnV n) else none
  | _ => none) := id rfl
@[simp] def backV : PV → Option PV
  | .lst xs => some (.lst xs.reverse)
  | _ => none
/-- the place of the first that is like d -/
def firstD (d : PyData) : List PyData → Nat → Option Nat
  | [], _ => none
  | e :: es, n => if PyData.eqv e d = true then some n else firstD d es (n + 1)
def idxV (xs : List PV) (y : PV) : Option Nat := match toD y, toDs xs with
  | some d, some ds => if d.canLay0 = true ∧ PyData.canLayAll0 ds = true ∧ d.depth ≤ 32 ∧ ds.length ≤ 1000000 then firstD d ds 0 else none
  | _, _ => none
@[simp] def indexV : PV → PV → Option PV
  | .lst xs, y => (idxV xs y).map fun n => .int (n : Nat)
  | _, _ => none
/-! ### a, b = e -/
def sUnp (g : PV → Env → Option Env) (f : Env → Option PV) (env : Env) : Option Out := (f env).bind fun p => (g p env).bind fun e => some (.nx e)
@[simp] theorem sUnp_ap (g : PV → Env → Option Env) (f : Env → Option PV) (env : Env) : sUnp g f env = ((f env).bind fun p => (g p env).bind fun e => some (.nx e)) := id rfl
end
end MR

/-! ## list(range(n)), list(reversed(x)), reversed, range(n, -1, -1), x[::-1], x.index(y) -/
namespace MR
open PySem L2
section
variable {X : Cx} {b : BX} {G G' L : List Nat} {ro : Bool} {pos p p2 pos2 : Pos} {m m1 m2 : Md} {e e1 e2 : Expr} {f f1 f2 h : Env → Option PV}
/-! ### loops -/
/-! ### index -/
end
end MR
namespace MR
theorem lenS {α : Type} {n : Nat} {us : List α} (hl : us.length = n + 1) : ∃ a r, us = a :: r ∧ r.length = n := by
  cases us with
  | nil => cases hl
  | cons a r => exact ⟨a, r, rfl, Nat.succ.inj hl⟩
@[elab_as_elim] theorem len0 {α : Type} {P : List α → Prop} (us : List α) (hl : us.length = 0) (h : P []) : P us := by
  cases us with
  | nil => exact h
  | cons a r => cases hl
@[elab_as_elim] theorem len1 {α : Type} {P : List α → Prop} (us : List α) (hl : us.length = 1) (h : ∀ a, P [a]) : P us := by
  obtain ⟨a, r, rfl, hr⟩ := lenS hl
  exact len0 (P := fun r => P (a :: r)) r hr (h a)
@[elab_as_elim] theorem len2 {α : Type} {P : List α → Prop} (us : List α) (hl : us.length = 2) (h : ∀ a b, P [a, b]) : P us := by
  obtain ⟨a, r, rfl, hr⟩ := lenS hl
  exact len1 (P := fun r => P (a :: r)) r hr (h a)
end MR

/-! ## zip of two, each a list or a tuple -/
namespace MR
open PySem L2
@[simp] def seqV : PV → Option (List PV)
  | .lst xs => some xs
  | .frz xs => some xs
  | .tup xs => some xs
  | .ktp xs => some xs
  | _ => none
def kd : PV → SK
  | .tup _ => .T
  | .ktp _ => .T
  | _ => .L
def iZ2 (f g : Env → Option PV) (env : Env) : Option (List PV) := (f env).bind fun p => (g env).bind fun q => (seqV p).bind fun xs => (seqV q).bind fun ys => some (zipV xs ys)
@[simp] theorem iZ2_ap (f g : Env → Option PV) (env : Env) : iZ2 f g env = ((f env).bind fun p => (g env).bind fun q => (seqV p).bind fun xs => (seqV q).bind fun ys => some (zipV xs ys)) := id rfl
section
variable {X : Cx} {b : BX} {G G' L : List Nat} {ro : Bool} {pos p : Pos} {m m1 m2 : Md} {e e1 e2 : Expr}
theorem seq_keep {Ow : Addr → Prop} {σ : St} {env : Env} {H H2 : Hp} {fr : Bool} {v : V} {p : PV} {xs : List PV} (E : ER b Ow G σ env H) (r : Res b Ow H H2 m v p) (hmd : fr = true → m ≠ .bor) (hs : seqV p = some xs) :
    ∃ a vs, v = .ref a ∧ SK.sq (kd p) b.C.K H2 a vs ∧ Reps b.C (Bs b Ow) H2 vs xs ∧ ∀ Ow' H3, (fr = false → Same H2 H3) → Ex (Bs b Ow) H2 (Bs b Ow') H3 → SK.sq (kd p) b.C.K H3 a vs ∧ Reps b.C (Bs b Ow') H3 vs xs := by
  have b1 : RepB b.C (Bs b Ow) H2 v p := r.bor
  unfold seqV at hs
  split at hs
  · cases hs
    obtain ⟨a, vs, rfl, ha, ra⟩ := b1.lst
    refine ⟨a, vs, rfl, SqL.of ha, ra, fun Ow' H3 h0 hx => ?_⟩
    have hq : H3 a = some (.lst vs) := by
      cases fr with
      | false => exact h0 rfl _ _ ha
      | true =>
        have rv : Rep b.C (Bs b Ow) H2 (.ref a) (.lst _) := r.val E (hmd rfl)
        cases rv with
        | lst q1 q2 q3 => rw [ha] at q1; cases q1; exact ((hx _ _ ha).1 q2).1
    exact ⟨SqL.of hq, ra.ex hx⟩
  · cases hs
    have r1 : Rep b.C (Bs b Ow) H2 v (.frz _) := (by rcases b1 with z | ⟨_, _, z⟩; exact z; exact z.elim)
    cases r1 with
    | lstF q1 q3 => exact ⟨_, _, rfl, .inl (.inr ⟨_, q1⟩), q3, fun Ow' H3 h0 hx => ⟨.inl (.inr ⟨_, (hx _ _ q1).2 rfl⟩), q3.ex hx⟩⟩
    | lstK q1 q3 => exact ⟨_, _, rfl, sqK q1, q3, fun Ow' H3 h0 hx => ⟨sqK q1, q3.ex hx⟩⟩
  · cases hs
    obtain ⟨a, vs, rfl, ha, ra⟩ := b1.tup
    exact ⟨a, vs, rfl, SqT.of ha, ra, fun Ow' H3 h0 hx => ⟨SqT.of ((hx _ _ ha).2 rfl), ra.ex hx⟩⟩
  · cases hs
    have r1 : Rep b.C (Bs b Ow) H2 v (.ktp _) := (by rcases b1 with z | ⟨_, _, z⟩; exact z; exact z.elim)
    cases r1 with
    | tupK q1 q3 => exact ⟨_, _, rfl, sqTK q1, q3, fun Ow' H3 h0 hx => ⟨sqTK q1, q3.ex hx⟩⟩
  · cases hs
theorem PI.all {α : Type} {tg iter : Expr} {wi : α → TI} (h : ∀ a, PI X tg iter (wi a)) : PI X tg iter (fun σ H R => ∃ a, wi a σ H R) := fun pins s σ H R I ⟨a, q⟩ => h a pins s σ H R I q
end
end MR

/-! ## len(set(a tuple of texts)) -/
namespace MR
open PySem L2
section
variable {X : Cx} {b : BX} {G G' L : List Nat} {pos p p2 pos2 : Pos} {m m1 m2 : Md} {e : Expr} {f : Env → Option PV}
@[simp] def lensetV : PV → Option PV
  | .tup xs => (strsP xs).bind fun ws => if ws.length ≤ 1000 then some (.int (unlike ws : Nat)) else none
  | _ => none
end
end MR

/-! ## z.join(x), x a list or a tuple of texts -/
namespace L2
open PySem PyProof
section
variable {X : Cx}
theorem strsAre_vals : ∀ {zs : List Str} {us : List Value}, Vals (zs.map V.str) us → PyProof.Rows.StrsAre us zs
  | [], _, r => by cases r; constructor
  | z :: zs, _, r => by cases r with | cons h t => obtain ⟨t', rfl⟩ := h; exact .cons _ _ (strsAre_vals t)
def rJoin2 (K : PySem.W.Frag) : V → List V → Hp → VK → Prop := fun x vs H Q => rJoin K x vs H Q ∨ ∃ z l zs, x = .str z ∧ vs = [.ref l] ∧ SqT K H l (zs.map V.str) ∧ z.length ≤ 64 ∧ (zs.map (·.length)).sum + zs.length * 64 ≤ 16777216 ∧ Q (.str (Str.join z zs)) H
theorem mt_join2 : MtR X "str.join" (rJoin2 X.K) := by
  intro pins s σ H x vs v us Q I rx rv h
  rcases h with h | h
  · exact mt_join _ _ _ _ _ _ _ _ _ I rx rv h
  obtain ⟨z, l, zs, rfl, rfl, hl, h1, h2, q⟩ := h
  obtain ⟨t, rfl⟩ := rx
  obtain ⟨u, rfl, ru⟩ := rv.one
  cases ru
  obtain ⟨its, r, p, _⟩ := I.tuple hl
  refine PyProof.Rows.join_tupleC p (strsAre_vals r) h1 h2 fun t' k => ⟨.str (Str.join z zs), H, I.tok _, ⟨t', ?_⟩, q⟩
  unfold Txt.join
  rw [StrLaws.glued_eq_join]
end
end L2

namespace MR
open PySem L2
section
variable {X : Cx} {b : BX} {G G' L : List Nat} {pos p p2 pos2 : Pos} {m m1 m2 : Md} {e : Expr} {f : Env → Option PV}
@[simp] def joinV2 : PV → PV → Option PV
  | .str z, .tup xs => (strsP xs).bind fun zs => if z.length ≤ 64 ∧ (zs.map (·.length)).sum + zs.length * 64 ≤ 16777216 then some (.str (Str.join z zs)) else none
  | x, y => joinV x y
theorem o2_join2 : Op2 b .val (fun x y H Q => (∃ z, x = .str z) → rJoin2 b.C.K x [y] H Q) joinV2 := by
  intro Ow H v1 v2 p1 p2 p Q hn r1 r2 e k hz
  unfold joinV2 at e
  split at e
  · rename_i z xs
    obtain ⟨zs, q, e⟩ := bind_some' e
    split at e
    · rename_i hj
      cases e
      obtain ⟨a, vs, rfl, ha, ra⟩ := r2.tup
      have hv := ra.strsP q
      subst hv
      exact .inr ⟨z, a, zs, r1.str, rfl, SqT.of ha, hj.1, hj.2, k _ H (Same.refl _) (.str _)⟩
    · cases e
  · exact .inl (o2_join Ow H v1 v2 _ _ p Q hn r1 r2 e k hz)
theorem se_join2 {apos cpos : Pos} {o : Expr} {fo : Env → Option PV} (ho : SE X b G m1 o fo) (h : SE X b G m2 e f) (hK : X.K = b.C.K := by rfl) (hbase : attributeBase o "join" X.env (eval o X.env) = eval o X.env := by rfl)
    (hfew : ((backTo cpos (starEach [e] X.env)).all (fun x => !x.1) && (backToKw cpos (keywordEach [] X.env)).all (fun x => x.1.isSome)
      && decide ([e].length + ([] : List Keyword).length + (if ([] : List Keyword).isEmpty then 0 else 1) < 30)) = true := by rfl)
    (hline : (apos.endLine == cpos.line) = true := by rfl) (hs : starEach [e] X.env = (false, eval e X.env) :: starEach [] X.env := by rfl) :
    SE X b G .val (.Call (.Attribute o "join" apos) [e] [] cpos) (b2 joinV2 fo f) :=
  se_sm PySem.F.slot_str_join PySem.F.type_str_join PySem.F.plainAttrs_str (r := rJoin2 b.C.K) (by rw [← hK]; exact mt_join2) o2_join2 (fun x y p e => by
    unfold joinV2 at e
    split at e
    · exact ⟨_, rfl⟩
    · unfold joinV at e
      split at e
      · exact ⟨_, rfl⟩
      · cases e) ho h hbase hfew hline hs
end
end MR

/-! ## sum of a list of ints -/
namespace L2
open PySem PySem.Spec PyProof PyProof.Rows
section
variable {X : Cx}
theorem call_sum (hc : X.calm = true := by rfl) : CallR X (.builtin "sum") (fun xs H Q => ∃ (p : Addr) (ns : List Int), xs = [.ref p] ∧ SqL X.K H p (ns.map V.int) ∧ Q (.int ns.sum) H) := by
  intro pins s σ H xs us Q I r h
  obtain ⟨l, ns, rfl, hq, q⟩ := h
  obtain ⟨u, rfl, rx⟩ := vals1 r
  cases rx
  obtain ⟨its, r', pl, hz⟩ := I.list hq
  have hi := intsAre_of r'
  obtain ⟨ys, hy⟩ := hi.allInts.items
  have hl : s.heap.IsList l (intItems ys) := hy ▸ pl.isList
  refine sum_intListG (I.ok.hd hc) hl fun h' tk t' hk => ⟨.int ns.sum, H, I.kept hk, ⟨t', ?_⟩, q⟩
  have e1 : ns = ys.toList.map (·.1) := by
    rw [← nums_intItems, ← hy]
    exact (show numsOf its.toArray.toList = ns from hi.numsOf).symm
  rw [preSum_eq, List.take_of_length_le (by simp), ← e1]
end
end L2
namespace MR
open PySem L2
section
variable {X : Cx} {b : BX} {G G' L : List Nat} {pos p p2 pos2 : Pos} {m m1 m2 : Md} {e : Expr} {f : Env → Option PV}
@[simp] def intsP : List PV → Option (List Int)
  | [] => some []
  | .int c :: r => (intsP r).map (c :: ·)
  | _ :: _ => none
theorem Reps.intsP {C : MC} {A : Addr → Prop} {H : Hp} : ∀ {vs : List V} {ps : List PV} {bs : List Int}, Reps C A H vs ps → intsP ps = some bs → vs = bs.map V.int
  | _, _, _, .nil, e => by cases e; rfl
  | _, _, _, .cons (p := p) (ps := ps) h t, e => by
    cases p <;> simp only [MR.intsP] at e <;> first | cases e | skip
    rename_i c
    cases q : MR.intsP ps with
    | none => rw [q] at e; cases e
    | some bs => rw [q] at e; cases e; cases h; rw [Reps.intsP t q]; rfl
@[simp] def sumV : PV → Option PV
  | .lst xs => (intsP xs).map fun ns => .int ns.sum
  | _ => none
theorem se_sum (hm : X.mg "sum" = none) (h : SE X b G m1 e f) (hcm : X.calm = true := by rfl) (hK : X.K = b.C.K := by rfl) (hg : Gl X "sum" := by rfl) (he : starEach [e] X.env = (false, eval e X.env) :: starEach [] X.env := by rfl) : SE X b G .val (.Call (.Name "sum" p) [e] [] pos) (b1 sumV f) := by
  refine se_blt (call_sum hcm) (fun Ow H v1 p1 p Q hn r1 e k => ?_) hm PyProof.Rows.boot_sum h hg (by decide) (by decide) he
  rw [hK]
  cases p1 <;> simp only [sumV] at e <;> first | cases e | skip
  rename_i xs
  obtain ⟨a, vs, rfl, ha, ra⟩ := r1.lst
  cases q : MR.intsP xs with
  | none => rw [q] at e; cases e
  | some ns =>
    rw [q] at e
    cases e
    have hv := ra.intsP q
    subst hv
    exact ⟨a, ns, rfl, SqL.of ha, k _ H (Same.refl _) (.int _)⟩
end
end MR

/-! ## x = y, both one's own: y is handed over -/
namespace MR
open PySem L2
section
variable {X : Cx} {b : BX} {G G' L : List Nat} {ro : Bool} {pos p p2 pos2 : Pos} {m m1 m2 : Md} {e : Expr} {f : Env → Option PV}
def sMv (i j : Nat) (env : Env) : Option Out := (bV j env).bind fun p => some (.nx ((env.set i (some p)).set j none))
@[simp] theorem sMv_ap (i j : Nat) (env : Env) : sMv i j env = ((bV j env).bind fun p => some (.nx ((env.set i (some p)).set j none))) := id rfl
end
end MR

/-! ## a loop over reversed(x), x a list or a tuple -/
namespace MR
open PySem L2
section
variable {X : Cx} {b : BX} {G G' L : List Nat} {ro : Bool} {pos p p2 pos2 : Pos} {m m1 m2 : Md} {e : Expr} {h : Env → Option PV}
def iRv2 (f : Env → Option PV) (env : Env) : Option (List PV) := (f env).bind fun p => (seqV p).bind fun xs => some xs.reverse
@[simp] theorem iRv2_ap (f : Env → Option PV) (env : Env) : iRv2 f env = ((f env).bind fun p => (seqV p).bind fun xs => some xs.reverse) := id rfl
end
end MR

/-! ## zip of two, the first a text, a list or a tuple -/
namespace MR
open PySem L2
@[simp] def seqS : PV → Option (List PV)
  | .str x => some (chV x)
  | p => seqV p
def iZ3 (f g : Env → Option PV) (env : Env) : Option (List PV) := (f env).bind fun p => (g env).bind fun q => (seqS p).bind fun xs => (seqV q).bind fun ys => some (zipV xs ys)
@[simp] theorem iZ3_ap (f g : Env → Option PV) (env : Env) : iZ3 f g env = ((f env).bind fun p => (g env).bind fun q => (seqS p).bind fun xs => (seqV q).bind fun ys => some (zipV xs ys)) := id rfl
section
variable {X : Cx} {b : BX} {G G' L : List Nat} {ro : Bool} {pos p : Pos} {m m1 m2 : Md} {e e1 e2 : Expr}
end
end MR

/-! ## a op b op' c where a truth is asked -/
namespace MR
open PySem L2
section
variable {X : Cx} {b : BX} {G : List Nat} {pos : Pos} {m1 m2 m3 : Md} {e1 e2 e3 : Expr} {f1 f2 f3 : Env → Option PV}
end
end MR
/-! ## a < b of two ints or of two lists of ints -/
namespace MR
open PySem L2
section
variable {X : Cx} {b : BX} {G G' L : List Nat} {pos p p2 pos2 : Pos} {m m1 m2 : Md} {e1 e2 : Expr} {f1 f2 : Env → Option PV}
@[simp] def ltV2 : PV → PV → Option PV
  | .int i, .int j => some (.bl (decide (i < j)))
  | .lst xs, .lst ys => (intsP xs).bind fun ns => (intsP ys).bind fun ms => some (.bl (HT.lexLt ns ms))
  | _, _ => none
theorem o2_lt2 : Op2 b .val (fun x y H Q => rI0 (fun i j => .bl (decide (i < j))) x y H Q ∨ rLtL b.C.K x y H Q) ltV2 := by
  intro Ow H v1 v2 p1 p2 p Q hn r1 r2 e k
  unfold ltV2 at e
  split at e
  · cases e
    rw [r1.int, r2.int]
    exact .inl ⟨_, _, rfl, rfl, k _ H (Same.refl _) (.bl _)⟩
  · rename_i xs ys
    obtain ⟨a, vs, rfl, ha, ra⟩ := r1.lst
    obtain ⟨c, ws, rfl, hc, rc⟩ := r2.lst
    obtain ⟨ns, q1, e⟩ := bind_some' e
    obtain ⟨ms, q2, e⟩ := bind_some' e
    cases e
    have h1 := ra.intsP q1
    have h2 := rc.intsP q2
    subst h1 h2
    exact .inr ⟨a, c, ns, ms, rfl, rfl, SqL.of ha, SqL.of hc, k _ H (Same.refl _) (.bl _)⟩
  · cases e
theorem sc_lt2 {j : Nat} (hr : Room j X.A) (h1 : SE X b G m1 e1 f1) (h2 : SE X b G m2 e2 f2) (hK : X.K = b.C.K := by rfl) : SC X b G .Lt e1 e2 (b2 ltV2 f1 f2) :=
  sc_of (r := fun x y H Q => rI0 (fun i j => .bl (decide (i < j))) x y H Q ∨ rLtL b.C.K x y H Q) (by rw [← hK]; exact OpR.or op_lt (op_ltL hr.units0)) o2_lt2 h1 h2 (nomark _)
end
end MR

/-! ## enumerate of a list or a tuple -/
namespace MR
open PySem L2
def iE2 (f : Env → Option PV) (env : Env) : Option (List PV) := (f env).bind fun p => (seqV p).bind fun xs => some (enumV 0 xs)
@[simp] theorem iE2_ap (f : Env → Option PV) (env : Env) : iE2 f env = ((f env).bind fun p => (seqV p).bind fun xs => some (enumV 0 xs)) := id rfl
section
variable {X : Cx} {b : BX} {G G' L : List Nat} {ro : Bool} {pos p : Pos} {m m1 m2 : Md} {e e1 e2 : Expr}
theorem si_enum2 {fr : Bool} {h : Env → Option PV} {es : List Expr} {x1 : Nat} {tpos : Pos} (hm : X.mg "enumerate" = none) (he : SE X b G m e h) (hmd : fr = true → m ≠ .bor) (hK : X.K = b.C.K := by rfl) (hg : Gl X "enumerate" := by rfl) (hs : starEach [e] X.env = [(false, eval e X.env)] := by rfl) (hs' : starEach [e] X.env = (false, eval e X.env) :: starEach [] X.env := by rfl) :
    SI X b G fr (.Tuple es x1 tpos) (.Call (.Name "enumerate" p) [e] [] pos) (iE2 h) := by
  refine PI.imp (PI.all fun k : SK => pi_enumK (k := k) hg hm (pa_cons he pa_nil hs') hs) fun σ H R ⟨Ow, env, ps, E, hf, k⟩ => ?_
  rw [hK]
  obtain ⟨p1, hp1, z1⟩ := bind_some' hf
  clear hf
  obtain ⟨xs, hxs, z4⟩ := bind_some' z1
  clear z1
  cases z4
  refine ⟨kd p1, Ow, env, p1, E, hp1, fun v H1 s r => ?_⟩
  obtain ⟨a, vs, rfl, qa, ra, ka⟩ := seq_keep (fr := fr) E r hmd hxs
  refine ⟨a, rfl, ⟨vs, qa⟩, k _ _ s fun Ow' H3 h0 hx hn => ?_⟩
  obtain ⟨qa', ra'⟩ := ka Ow' H3 h0 hx
  refine ⟨fun i p hp' => ?_, ⟨vs, qa', by rw [enumV_length, ra'.length]⟩⟩
  obtain ⟨x, hx', rfl⟩ := enumV_get hp'
  obtain ⟨v, hv, rv⟩ := ra'.get hx'
  refine ⟨⟨vs, v, qa', hv⟩, fun y H' yl => ?_⟩
  obtain ⟨t, x', ht, e1, e2, yl⟩ := yl
  subst e1 e2
  have e3 := yl vs qa'
  rw [hv] at e3
  cases e3
  refine ⟨same_new ht _, .tup upd_same (.cons ?_ (.cons (rv.ex (.of_same (same_new ht _))) .nil))⟩
  rw [Nat.zero_add]
  exact .int _
end
end MR

/-! ## a list of lists, all of them one's own -/
namespace MR
open PySem L2
/-- the inner lists as they stand -/
inductive Inn (C : MC) (A : Addr → Prop) (H : Hp) : List Addr → List (List PV) → Prop
  | nil : Inn C A H [] []
  | cons {c : Addr} {cs : List Addr} {us : List V} {ys : List PV} {yss : List (List PV)} : H c = some (.lst us) → Reps C A H us ys → Inn C A H cs yss → Inn C A H (c :: cs) (ys :: yss)
theorem Inn.ex {C : MC} {A A' : Addr → Prop} {H H' : Hp} (e : Ex A H A' H') : ∀ {cs : List Addr} {yss : List (List PV)}, (∀ c ∈ cs, H' c = H c) → Inn C A H cs yss → Inn C A' H' cs yss
  | _, _, _, .nil => .nil
  | _, _, h, .cons q r t => .cons ((h _ List.mem_cons_self).trans q) (r.ex e) (Inn.ex e (fun c hc => h c (List.mem_cons_of_mem _ hc)) t)
theorem Inn.live {C : MC} {A : Addr → Prop} {H : Hp} : ∀ {cs : List Addr} {yss : List (List PV)}, Inn C A H cs yss → ∀ c ∈ cs, ∃ us, H c = some (.lst us)
  | _, _, .nil, c, hc => by cases hc
  | _, _, .cons q r t, c, hc => by
    rcases List.mem_cons.mp hc with z | z
    · subst z; exact ⟨_, q⟩
    · exact Inn.live t c z
theorem Inn.length {C : MC} {A : Addr → Prop} {H : Hp} : ∀ {cs : List Addr} {yss : List (List PV)}, Inn C A H cs yss → cs.length = yss.length
  | _, _, .nil => rfl
  | _, _, .cons q r t => by rw [List.length_cons, List.length_cons, Inn.length t]
theorem Inn.reps {C : MC} {A A' : Addr → Prop} {H : Hp} (e : Ex A H A' H) : ∀ {cs : List Addr} {yss : List (List PV)}, (∀ c ∈ cs, A' c) → Inn C A H cs yss → Reps C A' H (cs.map V.ref) (yss.map PV.lst)
  | _, _, _, .nil => .nil
  | _, _, h, .cons q r t => .cons (.lst q (h _ List.mem_cons_self) (r.ex e)) (Inn.reps e (fun c hc => h c (List.mem_cons_of_mem _ hc)) t)
theorem Inn.get {C : MC} {A : Addr → Prop} {H : Hp} : ∀ {cs : List Addr} {yss : List (List PV)} {j : Nat} {ys : List PV}, Inn C A H cs yss → yss[j]? = some ys → ∃ c us, cs[j]? = some c ∧ H c = some (.lst us) ∧ Reps C A H us ys
  | _, _, _, _, .nil, e => by simp at e
  | _, _, 0, _, .cons q r t, e => by simp at e; subst e; exact ⟨_, _, rfl, q, r⟩
  | _, _, j + 1, _, .cons q r t, e => by
    obtain ⟨c, us, h1, h2, h3⟩ := Inn.get t (j := j) (by simpa using e)
    exact ⟨c, us, by simpa using h1, h2, h3⟩
theorem Inn.set {C : MC} {A : Addr → Prop} {H H' : Hp} {us : List V} {ys : List PV} (e : Ex A H A H') (r' : Reps C A H' us ys) : ∀ {cs : List Addr} {yss : List (List PV)} {j : Nat} {c : Addr}, cs.Nodup → cs[j]? = some c → H' c = some (.lst us) → (∀ x ∈ cs, x ≠ c → H' x = H x) → Inn C A H cs yss → Inn C A H' cs (yss.set j ys)
  | _, _, _, _, _, h, _, _, .nil => by simp at h
  | _, _, 0, _, nd, h, hc, k, .cons q r t => by
    simp at h
    subst h
    rw [List.nodup_cons] at nd
    exact .cons hc r' (Inn.ex e (fun x hx => k x (List.mem_cons_of_mem _ hx) fun z => nd.1 (z ▸ hx)) t)
  | _, _, j + 1, _, nd, h, hc, k, .cons q r t => by
    rw [List.nodup_cons] at nd
    have h' := h
    rw [List.getElem?_cons_succ] at h'
    have hm := List.mem_of_getElem? h'
    exact .cons ((k _ List.mem_cons_self fun z => nd.1 (z ▸ hm)).trans q) (r.ex e) (Inn.set e r' (j := j) nd.2 h' hc (fun x hx => k x (List.mem_cons_of_mem _ hx)) t)
/-- the frame while the lists are kept apart: they stand as the caller's do -/
def bn (b : BX) (i : Nat) (a : Addr) (cs : List Addr) (H : Hp) : BX := ⟨b.C, fun x => b.A x ∧ x ∉ a :: cs, fun x => if x ∈ a :: cs then H x else b.H0 x, fun j => if j = i then some (.ref a) else b.fx j⟩
/-- what may be kept -/
def KN (b : BX) (Ow : Addr → Prop) (a : Addr) (cs : List Addr) (x : Addr) : Prop := Bs b Ow x ∧ x ∉ a :: cs
theorem bn_eq {b : BX} {i : Nat} {a : Addr} {cs : List Addr} {H H' : Hp} (h : ∀ x ∈ a :: cs, H' x = H x) : bn b i a cs H' = bn b i a cs H := by
  unfold bn
  congr 1
  funext x
  by_cases hx : x ∈ a :: cs
  · rw [if_pos hx, if_pos hx, h x hx]
  · rw [if_neg hx, if_neg hx]
theorem bn_bs {b : BX} {i : Nat} {a : Addr} {cs : List Addr} {H : Hp} {Ow : Addr → Prop} (lv : ∀ x ∈ a :: cs, ∃ o, H x = some o) {x : Addr} : Bs (bn b i a cs H) Ow x ↔ KN b Ow a cs x := by
  constructor
  · rintro ⟨n, (⟨h, z⟩ | h)⟩
    · exact ⟨⟨n, .inl h⟩, z⟩
    · have h' : (if x ∈ a :: cs then H x else b.H0 x) = none := h
      by_cases hx : x ∈ a :: cs
      · rw [if_pos hx] at h'
        obtain ⟨o, e⟩ := lv x hx
        rw [h'] at e; cases e
      · rw [if_neg hx] at h'
        exact ⟨⟨n, .inr h'⟩, hx⟩
  · rintro ⟨⟨n, (h | h)⟩, z⟩
    · exact ⟨n, .inl ⟨h, z⟩⟩
    · exact ⟨n, .inr (by show (if x ∈ a :: cs then H x else b.H0 x) = none; rw [if_neg z]; exact h)⟩
structure EN (b : BX) (Ow : Addr → Prop) (G : List Nat) (i : Nat) (σ : St) (env : Env) (H : Hp) (a : Addr) (cs : List Addr) (yss : List (List PV)) : Prop where
  val : env[i]? = some (some (.lst (yss.map PV.lst)))
  top : H a = some (.lst (cs.map V.ref))
  nd : (a :: cs).Nodup
  new : ∀ x ∈ a :: cs, b.H0 x = none
  inn : Inn b.C (KN b Ow a cs) H cs yss
  er : ER (bn b i a cs H) Ow G σ (env.set i none) H
section
variable {b : BX} {Ow : Addr → Prop} {G : List Nat} {i : Nat} {σ : St} {env : Env} {H H' : Hp} {a : Addr} {cs : List Addr} {yss : List (List PV)}
theorem EN.live (E : EN b Ow G i σ env H a cs yss) : ∀ x ∈ a :: cs, ∃ o, H x = some o := fun x hx => by
  rcases List.mem_cons.mp hx with z | z
  · subst z; exact ⟨_, E.top⟩
  · obtain ⟨us, h⟩ := E.inn.live x z; exact ⟨_, h⟩
theorem EN.slot (E : EN b Ow G i σ env H a cs yss) : σ[i]? = some (some (.ref a)) := E.er.fix i (.ref a) (by show (if i = i then _ else _) = _; rw [if_pos rfl])
theorem EN.not_ow (E : EN b Ow G i σ env H a cs yss) : ∀ x ∈ a :: cs, ¬ Ow x := fun x hx w => by
  have h := E.er.new x w
  have h' : (if x ∈ a :: cs then H x else b.H0 x) = none := h
  rw [if_pos hx] at h'
  obtain ⟨o, e⟩ := E.live x hx
  rw [h'] at e; cases e
/-- from a frame that stands to one with the lists apart -/
theorem EN.of {Ow' : Addr → Prop} {σ' : St} {e : Env} (E : EN b Ow G i σ env H a cs yss) (E' : ER (bn b i a cs H) Ow' G σ' e H') (x : Ex (Bs (bn b i a cs H) Ow) H (Bs (bn b i a cs H) Ow') H') :
    EN b Ow' G i σ' (e.set i (some (.lst (yss.map PV.lst)))) H' a cs yss ∧ Ex (KN b Ow a cs) H (KN b Ow' a cs) H' := by
  have st : ∀ y ∈ a :: cs, H' y = H y := fun y hy => by
    obtain ⟨o, h⟩ := E.live y hy
    rw [h]
    exact E'.same y o (by show (if y ∈ a :: cs then H y else b.H0 y) = some o; rw [if_pos hy]; exact h)
  have lv' : ∀ y ∈ a :: cs, ∃ o, H' y = some o := fun y hy => by rw [st y hy]; exact E.live y hy
  have x' : Ex (KN b Ow a cs) H (KN b Ow' a cs) H' := fun c o hc => ⟨fun q => by
    obtain ⟨h1, h2⟩ := (x c o hc).1 ((bn_bs E.live).mpr q)
    exact ⟨h1, (bn_bs E.live).mp h2⟩, (x c o hc).2⟩
  have hl : i < e.length := by
    have h := E'.fix i (.ref a) (by show (if i = i then _ else _) = _; rw [if_pos rfl])
    rw [← E'.len]
    rcases Nat.lt_or_ge i σ'.length with z | z
    · exact z
    · rw [List.getElem?_eq_none z] at h; cases h
  refine ⟨⟨by rw [List.getElem?_set_self hl], by rw [st a List.mem_cons_self]; exact E.top, E.nd, E.new, E.inn.ex x' fun c hc => st c (List.mem_cons_of_mem _ hc), ?_⟩, x'⟩
  rw [bn_eq st, List.set_set]
  exact E'.forget i
theorem EN.up (E : EN b Ow G i σ env H a cs yss) (s : Same H H') : EN b Ow G i σ env H' a cs yss := by
  have h := (E.of (E.er.up s) (.of_same s)).1
  rw [List.set_set] at h
  have hl : i < env.length := by
    rcases Nat.lt_or_ge i env.length with z | z
    · exact z
    · have := E.val; rw [List.getElem?_eq_none z] at this; cases this
  have e : env.set i (some (.lst (yss.map PV.lst))) = env := by
    refine List.ext_getElem? fun j => ?_
    by_cases hj : i = j
    · subst hj; rw [List.getElem?_set_self hl, E.val]
    · rw [List.getElem?_set_ne hj]
  rw [e] at h
  exact h
/-- the lists are apart no more -/
theorem EN.out (E : EN b Ow G i σ env H a cs yss) (hi : i ∉ G) (hx : b.fx i = none) : ER b Ow G σ env H := by
  have no := E.not_ow
  have w : Ex (KN b Ow a cs) H (Bs b Ow) H := ex_weak fun c o _ q => q.1
  have w' : Ex (Bs (bn b i a cs H) Ow) H (Bs b Ow) H := ex_weak fun c o _ q => ((bn_bs E.live).mp q).1
  have back : ∀ {j : Nat} {q : PV}, i ≠ j → env[j]? = some (some q) → (env.set i none)[j]? = some (some q) := fun {j q} hj e => by rw [List.getElem?_set_ne hj]; exact e
  refine ⟨by rw [E.er.len, List.length_set], fun c o h => E.er.same c o ?_, E.er.live, fun c z => ?_, fun j q e n => ?_, fun j q e n => ?_, fun j k c q q' e1 n1 s1 e2 n2 s2 => ?_, fun k v hv => E.er.fix k v ?_⟩
  · have hc : c ∉ a :: cs := fun z => by rw [E.new c z] at h; cases h
    show (if c ∈ a :: cs then H c else b.H0 c) = some o
    rw [if_neg hc]; exact h
  · have h := E.er.new c z
    have h' : (if c ∈ a :: cs then H c else b.H0 c) = none := h
    rw [if_neg fun y => no c y z] at h'
    exact h'
  · by_cases hj : i = j
    · subst hj
      rw [E.val] at e
      cases e
      have ha : Bs b Ow a := ⟨no a List.mem_cons_self, .inr (E.new a List.mem_cons_self)⟩
      exact ⟨_, E.slot, .lst E.top ha (E.inn.reps w fun c hc => ⟨no c (List.mem_cons_of_mem _ hc), .inr (E.new c (List.mem_cons_of_mem _ hc))⟩)⟩
    · obtain ⟨v, h1, h2⟩ := E.er.val j q (back hj e) n
      exact ⟨v, h1, h2.ex w'⟩
  · have hj : i ≠ j := fun z => hi (z ▸ n)
    obtain ⟨c, h1, h2, h3⟩ := E.er.own j q (back hj e) n
    exact ⟨c, h1, h2, h3.ex w' fun o z => z⟩
  · have hj : i ≠ j := fun z => hi (z ▸ n1)
    have hk : i ≠ k := fun z => hi (z ▸ n2)
    exact E.er.sep j k c q q' (back hj e1) n1 s1 (back hk e2) n2 s2
  · show (if k = i then some (V.ref a) else b.fx k) = some v
    rw [if_neg fun z => by rw [z, hx] at hv; cases hv]
    exact hv
end
end MR

/-! ## statements while a list of lists is one's own -/
namespace MR
open PySem L2
def tNe (b : BX) (G : List Nat) (i : Nat) (f : Env → Option Out) : TS := fun D σ H => ∃ Ow env a cs yss env', EN b Ow G i σ env H a cs yss ∧ f env = some (.nx env') ∧
  ∀ Ow' σ' H' cs' yss', EN b Ow' G i σ' env' H' a cs' yss' → (∀ x ∈ cs, x ∈ cs') → Ex (KN b Ow a cs) H (KN b Ow' a cs') H' → D.nx σ' H'
abbrev NS (X : Cx) (b : BX) (G : List Nat) (i : Nat) (st : Stmt) (f : Env → Option Out) : Prop := PS X st (tNe b G i f)
abbrev NSs (X : Cx) (b : BX) (G : List Nat) (i : Nat) (st : List Stmt) (f : Env → Option Out) : Prop := PSs X st (tNe b G i f)
/-- a statement that does not look at the lists -/
def hid (i : Nat) (f : Env → Option Out) (env : Env) : Option Out := (f (env.set i none)).bind fun o => match o with
  | .nx e => some (.nx (e.set i (env.getD i none)))
  | _ => none
@[simp] theorem hid_ap (i : Nat) (f : Env → Option Out) (env : Env) : hid i f env = ((f (env.set i none)).bind fun o => match o with
  | .nx e => some (.nx (e.set i (env.getD i none)))
  | _ => none) := id rfl
def nIf (i : Nat) (c : Env → Option Bool) (f g : Env → Option Out) (env : Env) : Option Out := (c (env.set i none)).bind fun k => if k = true then f env else g env
@[simp] theorem nIf_ap (i : Nat) (c : Env → Option Bool) (f g : Env → Option Out) (env : Env) : nIf i c f g env = ((c (env.set i none)).bind fun k => if k = true then f env else g env) := id rfl
def gH (i : Nat) (g : PV → Env → Option Env) (p : PV) (env : Env) : Option Env := (g p (env.set i none)).map fun e => e.set i (env.getD i none)
@[simp] theorem gH_ap (i : Nat) (g : PV → Env → Option Env) (p : PV) (env : Env) : gH i g p env = ((g p (env.set i none)).map fun e => e.set i (env.getD i none)) := id rfl
def onx (f : Env → Option Out) (env : Env) : Option Out := (f env).bind fun o => match o with
  | .nx e => some (.nx e)
  | _ => none
@[simp] theorem onx_ap (f : Env → Option Out) (env : Env) : onx f env = ((f env).bind fun o => match o with
  | .nx e => some (.nx e)
  | _ => none) := id rfl
def nFor (i : Nat) (g : PV → Env → Option Env) (src : Env → Option (List PV)) (ds : List Nat) (f : Env → Option Out) (env : Env) : Option Out := (src (env.set i none)).bind fun xs => loopS (gH i g) ds (onx f) xs (clr ds env)
@[simp] theorem nFor_ap (i : Nat) (g : PV → Env → Option Env) (src : Env → Option (List PV)) (ds : List Nat) (f : Env → Option Out) (env : Env) : nFor i g src ds f env = ((src (env.set i none)).bind fun xs => loopS (gH i g) ds (onx f) xs (clr ds env)) := id rfl
/-- x[k].append(p) -/
@[simp] def apV : PV → PV → PV → Option PV
  | .lst ws, .int k, p => (ixN ws.length k).bind fun j => (ws[j]?).bind fun w => match w with
    | .lst ys => if ys.length < 1000000 then some (.lst (ws.set j (.lst (ys ++ [p])))) else none
    | _ => none
  | _, _, _ => none
def nApp (i : Nat) (f h : Env → Option PV) (env : Env) : Option Out := (bV i env).bind fun x => (f (env.set i none)).bind fun k => (h (env.set i none)).bind fun p => (apV x k p).bind fun y => some (.nx (env.set i (some y)))
@[simp] theorem nApp_ap (i : Nat) (f h : Env → Option PV) (env : Env) : nApp i f h env = ((bV i env).bind fun x => (f (env.set i none)).bind fun k => (h (env.set i none)).bind fun p => (apV x k p).bind fun y => some (.nx (env.set i (some y)))) := id rfl
/-- x.append([]) -/
@[simp] def newV : PV → Option PV
  | .lst ws => if ws.length < 1000000 then some (.lst (ws ++ [.lst []])) else none
  | _ => none
def nNew (i : Nat) (env : Env) : Option Out := (bV i env).bind fun x => (newV x).bind fun y => some (.nx (env.set i (some y)))
@[simp] theorem nNew_ap (i : Nat) (env : Env) : nNew i env = ((bV i env).bind fun x => (newV x).bind fun y => some (.nx (env.set i (some y)))) := id rfl

section
variable {X : Cx} {b : BX} {G G' L : List Nat} {ro : Bool} {i : Nat} {st : Stmt} {rest : List Stmt} {f g : Env → Option Out} {e e1 e2 : Expr} {h h1 h2 : Env → Option PV} {m m1 m2 : Md} {pos : Pos}
theorem getD_val {env : Env} {i : Nat} {p : PV} (h : env[i]? = some (some p)) : env.getD i none = some p := by rw [List.getD_eq_getElem?_getD, h]; rfl
theorem n_cons (x : NS X b G i st f) (c : NSs X b G i rest g) : NSs X b G i (st :: rest) (sSeq f g) := PSs.imp (pss_cons x c) fun D σ H ⟨Ow, env, a, cs, yss, env', E, hf, k⟩ => by
  unfold sSeq at hf
  cases q : f env with
  | none => rw [q] at hf; cases hf
  | some o1 =>
    rw [q] at hf
    cases o1 with
    | nx e' => exact ⟨Ow, env, a, cs, yss, e', E, q, fun Ow1 σ1 H1 cs1 yss1 E1 s1 x1 => ⟨Ow1, e', a, cs1, yss1, env', E1, hf, fun Ow2 σ2 H2 cs2 yss2 E2 s2 x2 => k Ow2 σ2 H2 cs2 yss2 E2 (fun z hz => s2 z (s1 z hz)) (x1.trans x2)⟩⟩
    | bk e' => cases hf
    | ct e' => cases hf
    | rt p => cases hf
theorem n_one (x : NS X b G i st f) : NSs X b G i [st] f := pss_one x
theorem n_lift (x : ∀ a cs H, SS X (bn b i a cs H) G G [] false st f) : NS X b G i st (hid i f) := fun pins s σ H D I ⟨Ow, env, a, cs, yss, env', E, hf, k⟩ => by
  obtain ⟨o, ho, z⟩ := bind_some' hf
  refine x a cs H pins s σ H D I ⟨Ow, env.set i none, o, E.er, ho, ?_⟩
  cases o with
  | nx e' =>
    rw [getD_val E.val] at z
    cases z
    intro Ow' σ' H' E' x'
    obtain ⟨E2, x2⟩ := E.of E' x'
    exact k Ow' σ' H' cs yss E2 (fun _ z => z) x2
  | bk e' => cases z
  | ct e' => cases z
  | rt p => cases z
theorem n_if {c : Expr} {k : Env → Option Bool} {sa sb : List Stmt} (hc : ∀ a cs H, ST X (bn b i a cs H) G c k) (ha : NSs X b G i sa f) (hb : NSs X b G i sb g) : NS X b G i (.If c sa sb pos) (nIf i k f g) := fun pins s σ H D I ⟨Ow, env, a, cs, yss, env', E, hf, kk⟩ => by
  obtain ⟨p, hp, z1⟩ := bind_some' hf
  refine ps_if (hc a cs H) ha hb pins s σ H D I ⟨Ow, env.set i none, p, E.er, hp, fun H' s' => ?_⟩
  have go : ∀ {f : Env → Option Out}, f env = some (.nx env') → tNe b G i f D σ H' := fun {f} hz => ⟨Ow, env, a, cs, yss, env', E.up s', hz, fun Ow2 σ2 H2 cs2 yss2 E2 s2 x2 => kk Ow2 σ2 H2 cs2 yss2 E2 s2 ((Ex.of_same s').trans x2)⟩
  cases p with
  | true => exact iteT (go z1)
  | false => exact iteF (go z1)
end
end MR

/-! ## loops over, writing into, making and giving a list of lists of one's own -/
namespace MR
open PySem L2
section
variable {X : Cx} {b : BX} {G G' L : List Nat} {ro : Bool} {i : Nat} {st : Stmt} {rest : List Stmt} {f g : Env → Option Out} {e e1 e2 : Expr} {h h1 h2 : Env → Option PV} {m m1 m2 : Md} {pos : Pos}
def tGN (b : BX) (G : List Nat) (i : Nat) (g : PV → Env → Option Env) : TG := fun v σ H Q => ∃ a cs H0, tMG (bn b i a cs H0) G g v σ H Q
theorem clr_get : ∀ {ds : List Nat} {env : Env} {i : Nat}, i ∉ ds → (clr ds env)[i]? = env[i]?
  | [], _, _, _ => rfl
  | d :: ds, env, i, h => by
    rw [List.mem_cons, not_or] at h
    show (clr ds (env.set d none))[i]? = _
    rw [clr_get h.2, List.getElem?_set_ne (Ne.symm h.1)]
theorem clr_set : ∀ {ds : List Nat} {env : Env} {i : Nat} {v : Option PV}, i ∉ ds → (clr ds env).set i v = clr ds (env.set i v)
  | [], _, _, _, _ => rfl
  | d :: ds, env, i, v, h => by
    rw [List.mem_cons, not_or] at h
    show (clr ds (env.set d none)).set i v = clr ds ((env.set i v).set d none)
    rw [clr_set h.2, List.set_comm _ _ (Ne.symm h.1)]
theorem EN.clr {Ow : Addr → Prop} {σ : St} {env : Env} {H : Hp} {a : Addr} {cs : List Addr} {yss : List (List PV)} {ds : List Nat} (E : EN b Ow G i σ env H a cs yss) (hd : i ∉ ds) : EN b Ow G i σ (clr ds env) H a cs yss :=
  ⟨by rw [clr_get hd]; exact E.val, E.top, E.nd, E.new, E.inn, by rw [clr_set hd]; exact E.er.clr⟩
theorem n_for {tg it : Expr} {body : List Stmt} {g : PV → Env → Option Env} {src : Env → Option (List PV)} {f : Env → Option Out} (ds : List Nat) (hi : ∀ a cs H, SI X (bn b i a cs H) G true tg it src) (hg : ∀ a cs H, SG X (bn b i a cs H) G tg g) (hb : NSs X b G i body f)
    (hp : PassesOwn (model X.prog X.w) X.A X.env X.xe) (hd : i ∉ ds := by decide) (hc : X.calm = true := by rfl) (hs : ∀ x, foldedSetIterable it X.env x = pure x := by intro _; rfl) : NS X b G i (.For tg it body [] pos) (nFor i g src ds f) := fun pins s σ H D I ⟨Ow, env, a, cs, yss, env', E, hf, k⟩ => by
  obtain ⟨ps, hps, hl⟩ := bind_some' hf
  have hgN : PG X tg (tGN b G i g) := fun pins s σ H v w Q I r ⟨a, cs, H0, q⟩ => hg a cs H0 pins s σ H v w Q I r q
  refine ps_for hp hc (hi a cs H) hgN hb hs pins s σ H D I ⟨Ow, env.set i none, ps, E.er, hps, fun J H1 s1 iw => ?_⟩
  refine ⟨fun n m σ2 H2 => m = ps.length - n ∧ n ≤ ps.length ∧ ∃ Ow2 env2 cs2 yss2, EN b Ow2 G i σ2 env2 H2 a cs2 yss2 ∧ (∀ x ∈ cs, x ∈ cs2) ∧ Ex (KN b Ow a cs) H1 (KN b Ow2 a cs2) H2 ∧ loopS (gH i g) ds (onx f) (ps.drop n) env2 = some (.nx env'), ⟨ps.length, by simp, Nat.zero_le _, Ow, clr ds env, cs, yss, (E.up s1).clr hd, fun _ z => z, Ex.refl _ _, by simpa using hl⟩, ?_⟩
  rintro n m σ2 H2 ⟨rfl, hn, Ow2, env2, cs2, yss2, E2, sub2, x2, l2⟩
  have sub' : ∀ x, x ∉ a :: cs2 → x ∉ a :: cs := fun x hx z => hx (by
    rcases List.mem_cons.mp z with q | q
    · rw [q]; exact List.mem_cons_self
    · exact List.mem_cons_of_mem _ (sub2 x q))
  have into : ∀ x, KN b Ow2 a cs2 x → Bs (bn b i a cs H) (fun y => Ow2 y ∨ y ∈ a :: cs2) x := fun x q => by
    have z := (bn_bs (i := i) E.live (Ow := Ow2)).mpr ⟨q.1, sub' x q.2⟩
    exact ⟨fun y => y.elim q.1.1 q.2, z.2⟩
  have outof : ∀ x, Bs (bn b i a cs H) (fun y => Ow2 y ∨ y ∈ a :: cs2) x → KN b Ow2 a cs2 x := fun x q => by
    have z := (bn_bs (i := i) E.live (Ow := fun y => Ow2 y ∨ y ∈ a :: cs2)).mp q
    exact ⟨⟨fun y => z.1.1 (.inl y), z.1.2⟩, fun y => z.1.1 (.inr y)⟩
  obtain ⟨w1, w2⟩ := iw (fun y => Ow2 y ∨ y ∈ a :: cs2) H2 (fun z => by cases z) (fun c o hc => ⟨fun q => by
    obtain ⟨h1, h2⟩ := (x2 c o hc).1 ((bn_bs E.live).mp q)
    exact ⟨h1, into c h2⟩, (x2 c o hc).2⟩) fun c hc => into c ((bn_bs E2.live).mp (E2.er.fresh hc))
  have xk : Ex (KN b Ow a cs) H (KN b Ow2 a cs2) H2 := (Ex.of_same s1).trans x2
  by_cases hlt : n < ps.length
  · rw [List.drop_eq_getElem_cons hlt] at l2
    obtain ⟨e1, he1, l2⟩ := bind_some' l2
    obtain ⟨o, ho, l2⟩ := bind_some' l2
    obtain ⟨e0, he0, rfl⟩ := Option.map_eq_some_iff.mp he1
    obtain ⟨o', ho', hz⟩ := bind_some' ho
    obtain ⟨g1, g2⟩ := w1 n ps[n] (List.getElem?_eq_getElem hlt)
    refine .inr ⟨g1, fun σ' H' => n + 1 ≤ ps.length ∧ ∃ Ow2 env2 cs2 yss2, EN b Ow2 G i σ' env2 H' a cs2 yss2 ∧ (∀ x ∈ cs, x ∈ cs2) ∧ Ex (KN b Ow a cs) H1 (KN b Ow2 a cs2) H' ∧ loopS (gH i g) ds (onx f) (ps.drop (n + 1)) env2 = some (.nx env'), fun σ' H' q => ⟨ps.length - (n + 1), by omega, rfl, q⟩, fun x H' y => ?_⟩
    obtain ⟨s3, r3⟩ := g2 x H' y
    have E3 := E2.up s3
    have r3' : Rep b.C (Bs (bn b i a cs2 H') Ow2) H' x ps[n] := r3.ex (ex_weak fun c o _ q => (bn_bs E3.live).mpr (outof c q))
    refine ⟨a, cs2, H', Ow2, env2.set i none, ps[n], e0, E3.er, r3', he0, fun σ3 E4 => ?_⟩
    obtain ⟨E5, x5⟩ := E3.of E4 (Ex.refl _ _)
    rw [getD_val E2.val] at ho'
    cases o' with
    | nx e' =>
      cases hz
      exact ⟨Ow2, _, a, cs2, yss2, e', E5, ho', fun Ow6 σ6 H6 cs6 yss6 E6 s6 x6 => ⟨hlt, Ow6, _, cs6, yss6, E6.clr hd, fun z hz => s6 z (sub2 z hz), x2.trans ((Ex.of_same s3).trans (x5.trans x6)), l2⟩⟩
    | bk e' => cases hz
    | ct e' => cases hz
    | rt p => cases hz
  · have e : n = ps.length := by omega
    subst e
    rw [List.drop_length] at l2
    cases l2
    exact .inl ⟨w2, k Ow2 σ2 H2 cs2 yss2 E2 sub2 xk⟩
end
end MR

/-! ## writing into, making and giving a list of lists of one's own -/
namespace MR
open PySem L2
section
variable {X : Cx} {b : BX} {G G' L : List Nat} {ro : Bool} {i : Nat} {st : Stmt} {rest : List Stmt} {f g : Env → Option Out} {e e1 e2 : Expr} {h h1 h2 : Env → Option PV} {m m1 m2 : Md} {pos : Pos}
theorem EN.rebase {Ow : Addr → Prop} {σ : St} {env : Env} {H H' : Hp} {a : Addr} {cs cs' : List Addr} {yss yss' : List (List PV)} (E : EN b Ow G i σ env H a cs yss) (sub : ∀ x ∈ cs, x ∈ cs') (hx : ∀ x o, H x = some o → x ∉ a :: cs' → H' x = some o) (hnew : ∀ x ∈ a :: cs', x ∉ a :: cs → H x = none)
    (nd' : (a :: cs').Nodup) (nw' : ∀ x ∈ a :: cs', b.H0 x = none) (top' : H' a = some (.lst (cs'.map V.ref))) (inn' : Inn b.C (KN b Ow a cs') H' cs' yss') :
    EN b Ow G i σ (env.set i (some (.lst (yss'.map PV.lst)))) H' a cs' yss' ∧ Ex (KN b Ow a cs) H (KN b Ow a cs') H' := by
  have lv' : ∀ x ∈ a :: cs', ∃ o, H' x = some o := fun x hx' => by
    rcases List.mem_cons.mp hx' with z | z
    · subst z; exact ⟨_, top'⟩
    · obtain ⟨us, q⟩ := inn'.live x z; exact ⟨_, q⟩
  have sub' : ∀ x ∈ a :: cs, x ∈ a :: cs' := fun x hx' => by
    rcases List.mem_cons.mp hx' with z | z
    · rw [z]; exact List.mem_cons_self
    · exact List.mem_cons_of_mem _ (sub x z)
  have no := E.not_ow
  have no' : ∀ x ∈ a :: cs', ¬ Ow x := fun x hx' w => by
    by_cases z : x ∈ a :: cs
    · exact no x z w
    · obtain ⟨o, q⟩ := E.er.live x w
      rw [hnew x hx' z] at q; cases q
  have mutN : ∀ x ∈ a :: cs, ∃ us, H x = some (.lst us) := fun x hx' => by
    rcases List.mem_cons.mp hx' with z | z
    · subst z; exact ⟨_, E.top⟩
    · exact E.inn.live x z
  have out : ∀ x o, H x = some o → x ∉ a :: cs → x ∉ a :: cs' := fun x o q z y => by rw [hnew x y z] at q; cases q
  have xk : Ex (KN b Ow a cs) H (KN b Ow a cs') H' := fun c o hc => ⟨fun q => ⟨hx c o hc (out c o hc q.2), q.1, out c o hc q.2⟩, fun mm => hx c o hc (out c o hc fun z => by
    obtain ⟨us, q⟩ := mutN c z
    rw [hc] at q; cases q; cases mm)⟩
  have xb : Ex (Bs (bn b i a cs H) Ow) H (Bs (bn b i a cs' H') Ow) H' := fun c o hc => ⟨fun q => by
    obtain ⟨z1, z2⟩ := (xk c o hc).1 ((bn_bs E.live).mp q)
    exact ⟨z1, (bn_bs lv').mpr z2⟩, (xk c o hc).2⟩
  have hl : i < env.length := by
    rcases Nat.lt_or_ge i env.length with z | z
    · exact z
    · have := E.val; rw [List.getElem?_eq_none z] at this; cases this
  refine ⟨⟨by rw [List.getElem?_set_self hl], top', nd', nw', inn', ?_⟩, xk⟩
  rw [List.set_set]
  refine ⟨E.er.len, fun c o hc => ?_, fun c w => ?_, fun c w => ?_, fun j q eq n => ?_, fun j q eq n => ?_, E.er.sep, E.er.fix⟩
  · have hc' : (if c ∈ a :: cs' then H' c else b.H0 c) = some o := hc
    by_cases z : c ∈ a :: cs'
    · rw [if_pos z] at hc'; exact hc'
    · rw [if_neg z] at hc'
      refine hx c o (E.er.same c o ?_) z
      show (if c ∈ a :: cs then H c else b.H0 c) = some o
      rw [if_neg fun y => z (sub' c y)]; exact hc'
  · obtain ⟨o, q⟩ := E.er.live c w
    exact ⟨o, hx c o q fun z => no' c z w⟩
  · show (if c ∈ a :: cs' then H' c else b.H0 c) = none
    rw [if_neg fun z => no' c z w]
    have q := E.er.new c w
    have q' : (if c ∈ a :: cs then H c else b.H0 c) = none := q
    rw [if_neg fun z => no c z w] at q'
    exact q'
  · obtain ⟨v, z1, z2⟩ := E.er.val j q eq n
    exact ⟨v, z1, z2.ex xb⟩
  · obtain ⟨c, z1, z2, z3⟩ := E.er.own j q eq n
    exact ⟨c, z1, z2, z3.ex xb fun o y => hx c o y fun z => no' c z z2⟩
theorem ixN_lt {n : Nat} {k : Int} {j : Nat} (h : ixN n k = some j) : j < n := by
  unfold ixN at h
  split at h
  · split at h
    · cases h; omega
    · cases h
  · split at h
    · cases h; omega
    · cases h
theorem n_app (i : Nat) {x : Str} {p1 spos apos cpos : Pos} (he1 : ∀ a cs H, SE X (bn b i a cs H) G m1 e1 h1) (he2 : ∀ a cs H, SE X (bn b i a cs H) G .val e2 h2) (hN : X.N[i]? = some x := by rfl) (hv : Vis X.env.scope x := by first | exact Or.inl rfl | exact Or.inr (Or.inl rfl) | exact Or.inr (Or.inr rfl)) (hd : (x == ("__debug__" : Str)) = false := by decide)
    (hcd : (x == ("__classdict__" : Str)) = false := by decide) (hpi : PlainIx e1 := by intro _ _; rfl) (hbase : attributeBase (.Subscript (.Name x p1) e1 spos) "append" X.env (eval (.Subscript (.Name x p1) e1 spos) X.env) = eval (.Subscript (.Name x p1) e1 spos) X.env := by rfl)
    (hfew : ((backTo cpos (starEach [e2] X.env)).all (fun x => !x.1) && (backToKw cpos (keywordEach [] X.env)).all (fun x => x.1.isSome)
      && decide ([e2].length + ([] : List Keyword).length + (if ([] : List Keyword).isEmpty then 0 else 1) < 30)) = true := by rfl)
    (hline : (apos.endLine == cpos.line) = true := by rfl) (hs : starEach [e2] X.env = (false, eval e2 X.env) :: starEach [] X.env := by rfl) (hK : X.K = b.C.K := by rfl) :
    NS X b G i (.Expr (.Call (.Attribute (.Subscript (.Name x p1) e1 spos) "append" apos) [e2] [] cpos) pos) (nApp i h1 h2) := fun pins s σ H D I ⟨Ow, env, a, cs, yss, env', E, hf, kk⟩ => by
  obtain ⟨px, hpx, z1⟩ := bind_some' hf
  clear hf
  obtain ⟨pk, hpk, z2⟩ := bind_some' z1
  clear z1
  obtain ⟨p, hp, z3⟩ := bind_some' z2
  clear z2
  obtain ⟨y, hy, z4⟩ := bind_some' z3
  clear z3
  cases z4
  have hpx' := bV_some hpx
  rw [E.val] at hpx'
  cases hpx'
  cases pk <;> simp only [apV] at hy <;> first | cases hy | skip
  rename_i k
  obtain ⟨j, hj, z5⟩ := bind_some' hy
  clear hy
  obtain ⟨w, hw, z6⟩ := bind_some' z5
  clear z5
  rw [List.getElem?_map] at hw
  obtain ⟨ys, hys, rfl⟩ := Option.map_eq_some_iff.mp hw
  simp only at z6
  split at z6
  · rename_i hlt
    cases z6
    obtain ⟨c, us, hc, hHc, hr⟩ := E.inn.get hys
    have hcm : c ∈ cs := List.mem_of_getElem? hc
    have hat : atI (cs.map V.ref) k = some (.ref c) := by
      unfold atI
      rw [List.length_map] at hj ⊢
      rw [E.inn.length, hj]
      simp [hc]
    refine ps_expr (pe_bm PySem.F.plainAttrs_list PySem.F.slot_list_append PySem.F.type_list_append mt_append (pe_ix (r := rIxL X.K) ix_list (pe_var hN hv hd hcd) ((he1 a cs H).bor) hpi) (pa_cons (he2 a cs H) pa_nil hs) hbase hfew hline hs rfl) rfl pins s σ H D I ?_
    refine ⟨_, E.slot, Ow, env.set i none, .int k, E.er, hpk, fun v H1 s1 r1 => ?_⟩
    refine ⟨a, _, k, _, rfl, RepB.int r1, SqL.of (s1 _ _ E.top), hat, .inl ⟨rfl, _, SqL.of (s1 _ _ hHc)⟩, Ow, env.set i none, p, E.er.up s1, hp, fun v2 H2 s2 r2 => ?_⟩
    have hHc2 := s2 _ _ (s1 _ _ hHc)
    refine ⟨c, us, v2, rfl, rfl, hHc2, le_line (by rw [hr.length]; omega), ?_⟩
    have E2 := E.up (s1.trans s2)
    have hac : a ≠ c := fun z => (List.nodup_cons.mp E.nd).1 (z ▸ hcm)
    have ndc := (List.nodup_cons.mp E.nd).2
    have xc : Ex (KN b Ow a cs) H2 (KN b Ow a cs) (upd H2 c (.lst (us ++ [v2]))) := fun d o hd => ⟨fun q => ⟨by rw [upd_ne (fun z : d = c => q.2 (z ▸ List.mem_cons_of_mem _ hcm))]; exact hd, q⟩, fun mm => by
      have hdc : d ≠ c := fun z => by subst z; rw [hHc2] at hd; cases hd; cases mm
      rw [upd_ne hdc]; exact hd⟩
    have rr : Reps b.C (KN b Ow a cs) H2 (us ++ [v2]) (ys ++ [p]) := by
      have r2' : Rep b.C (Bs (bn b i a cs H) Ow) H2 v2 p := r2
      exact ((hr.ex (.of_same (s1.trans s2)))).append (.cons (r2'.ex (ex_weak fun c o _ q => (bn_bs E.live).mp q)) .nil)
    have inn' := Inn.set xc (rr.ex xc) ndc hc upd_same (fun z hz hne => upd_ne hne) E2.inn
    obtain ⟨E3, x3⟩ := E2.rebase (cs' := cs) (H' := upd H2 c (.lst (us ++ [v2]))) (fun _ z => z) (fun z o hz hn => by rw [upd_ne (fun q : z = c => hn (q ▸ List.mem_cons_of_mem _ hcm))]; exact hz) (fun z h1 h2 => absurd h1 h2) E.nd E.new (by rw [upd_ne hac]; exact E2.top) inn'
    rw [List.map_set] at E3
    exact kk Ow σ _ cs _ E3 (fun _ z => z) ((Ex.of_same (s1.trans s2)).trans x3)
  · cases z6
end
end MR

/-! ## a list of lists of one's own: one more, the first, and out -/
namespace MR
open PySem L2
/-- n lists without things -/
def tEm : Nat → TA
  | 0 => tNil
  | n + 1 => tCons (tLst tNil) (tEm n)
theorem tEm_run : ∀ (n : Nat) {σ : St} {H : Hp} {Q : List V → Hp → Prop}, (∀ (cs : List Addr) (H2 : Hp), cs.length = n → cs.Nodup → (∀ c ∈ cs, H c = none ∧ H2 c = some (.lst [])) → (∀ x, x ∉ cs → H2 x = H x) → Q (cs.map V.ref) H2) → tEm n σ H Q
  | 0, σ, H, Q, h => h [] H rfl .nil (fun c hc => by cases hc) fun _ _ => rfl
  | n + 1, σ, H, Q, h => by
    refine ⟨Nat.zero_le _, fun p hp => ?_⟩
    refine tEm_run n fun cs H2 hl nd hc ho => ?_
    have np : p ∉ cs := fun z => by
      have := (hc p z).1
      rw [upd_same] at this; cases this
    refine h (p :: cs) H2 (by rw [List.length_cons, hl]) (List.nodup_cons.mpr ⟨np, nd⟩) (fun c hcm => ?_) fun x hx => ?_
    · rcases List.mem_cons.mp hcm with z | z
      · subst z; exact ⟨hp, by rw [ho c np, upd_same]⟩
      · have hne : c ≠ p := fun q => np (q ▸ z)
        refine ⟨?_, (hc c z).2⟩
        have := (hc c z).1
        rw [upd_ne hne] at this
        exact this
    · rw [List.mem_cons, not_or] at hx
      rw [ho x hx.2, upd_ne hx.1]
def nInit (i n : Nat) (env : Env) : Option Out := if i < env.length ∧ n ≤ 1000 then some (.nx (env.set i (some (.lst (List.replicate n (.lst [])))))) else none
@[simp] theorem nInit_ap (i n : Nat) (env : Env) : nInit i n env = if i < env.length ∧ n ≤ 1000 then some (.nx (env.set i (some (.lst (List.replicate n (.lst [])))))) else none := id rfl
section
variable {X : Cx} {b : BX} {G G' L : List Nat} {ro : Bool} {i n : Nat} {st : Stmt} {es : List Expr} {rest : List Stmt} {f g : Env → Option Out} {e e1 e2 : Expr} {h h1 h2 : Env → Option PV} {m m1 m2 : Md} {pos : Pos}
theorem em_nil : PA X [] (tEm 0) := pa_nil
theorem em_cons {p : Pos} (hr : PA X es (tEm n)) (hs : starEach (.List [] p :: es) X.env = (false, eval (.List [] p) X.env) :: starEach es X.env := by rfl) : PA X (.List [] p :: es) (tEm (n + 1)) := pa_cons (pe_lst pa_nil) hr hs
/-! ### the first -/
def tNi (b : BX) (G : List Nat) (i : Nat) (f : Env → Option Out) : TS := fun D σ H => ∃ Ow env env', ER b Ow G σ env H ∧ f env = some (.nx env') ∧
  ∀ σ' H' a cs yss, EN b Ow G i σ' env' H' a cs yss → Ex (Bs b Ow) H (KN b Ow a cs) H' → D.nx σ' H'
theorem EN.start {Ow : Addr → Prop} {σ : St} {env : Env} {H H2 : Hp} {a : Addr} {cs : List Addr} (E : ER b Ow G σ env H) (hl : i < env.length) (nd : cs.Nodup) (hc : ∀ c ∈ cs, H c = none ∧ H2 c = some (.lst [])) (ho : ∀ x, x ∉ cs → H2 x = H x) (ha : H2 a = none) (hG : i ∉ G) (hxi : b.fx i = none) :
    EN b Ow G i (σ.set i (some (.ref a))) (env.set i (some (.lst (List.replicate cs.length (.lst []))))) (upd H2 a (.lst (cs.map V.ref))) a cs (List.replicate cs.length []) ∧ Ex (Bs b Ow) H (KN b Ow a cs) (upd H2 a (.lst (cs.map V.ref))) := by
  have nac : a ∉ cs := fun z => by rw [(hc a z).2] at ha; cases ha
  have hHa : H a = none := by rw [← ho a nac]; exact ha
  have hnone : ∀ x ∈ a :: cs, H x = none := fun x hx => by
    rcases List.mem_cons.mp hx with z | z
    · rw [z]; exact hHa
    · exact (hc x z).1
  have st : ∀ x o, H x = some o → (upd H2 a (.lst (cs.map V.ref))) x = some o := fun x o q => by
    have z : x ∉ a :: cs := fun y => by rw [hnone x y] at q; cases q
    rw [List.mem_cons, not_or] at z
    rw [upd_ne z.1, ho x z.2]; exact q
  have lv' : ∀ x ∈ a :: cs, ∃ o, (upd H2 a (.lst (cs.map V.ref))) x = some o := fun x hx => by
    rcases List.mem_cons.mp hx with z | z
    · rw [z]; exact ⟨_, upd_same⟩
    · rw [upd_ne (fun q : x = a => nac (q ▸ z))]; exact ⟨_, (hc x z).2⟩
  have xk : Ex (Bs b Ow) H (KN b Ow a cs) (upd H2 a (.lst (cs.map V.ref))) := fun c o q => ⟨fun w => ⟨st c o q, w, fun y => by rw [hnone c y] at q; cases q⟩, fun _ => st c o q⟩
  have xb : Ex (Bs b Ow) H (Bs (bn b i a cs (upd H2 a (.lst (cs.map V.ref)))) Ow) (upd H2 a (.lst (cs.map V.ref))) := fun c o q => ⟨fun w => ⟨st c o q, (bn_bs lv').mpr ((xk c o q).1 w).2⟩, fun _ => st c o q⟩
  have nw : ∀ x ∈ a :: cs, b.H0 x = none := fun x hx => E.same.free (hnone x hx)
  have now : ∀ x ∈ a :: cs, ¬ Ow x := fun x hx w => by obtain ⟨o, q⟩ := E.live x w; rw [hnone x hx] at q; cases q
  have inn : ∀ ds : List Addr, (∀ c ∈ ds, c ∈ cs) → Inn b.C (KN b Ow a cs) (upd H2 a (.lst (cs.map V.ref))) ds (List.replicate ds.length []) := fun ds => by
    induction ds with
    | nil => exact fun _ => .nil
    | cons d ds ih =>
      intro hd
      have hdc := hd d List.mem_cons_self
      exact .cons (by rw [upd_ne (fun q : d = a => nac (q ▸ hdc))]; exact (hc d hdc).2) .nil (ih fun c z => hd c (List.mem_cons_of_mem _ z))
  have back : ∀ {j : Nat} {q : PV}, (env.set i none)[j]? = some (some q) → i ≠ j ∧ env[j]? = some (some q) := fun {j q} e => by
    by_cases hj : i = j
    · subst hj
      rw [List.getElem?_set_self hl] at e; cases e
    · rw [List.getElem?_set_ne hj] at e; exact ⟨hj, e⟩
  refine ⟨⟨by rw [List.getElem?_set_self hl, List.map_replicate], upd_same, List.nodup_cons.mpr ⟨nac, nd⟩, nw, inn cs fun _ z => z, ?_⟩, xk⟩
  rw [List.set_set]
  refine ⟨by rw [List.length_set, List.length_set]; exact E.len, fun c o q => ?_, fun c w => ?_, fun c w => ?_, fun j q e n => ?_, fun j q e n => ?_, fun j k c q q' e1 n1 s1 e2 n2 s2 => ?_, fun k v hv => ?_⟩
  · have q' : (if c ∈ a :: cs then (upd H2 a (.lst (cs.map V.ref))) c else b.H0 c) = some o := q
    by_cases z : c ∈ a :: cs
    · rw [if_pos z] at q'; exact q'
    · rw [if_neg z] at q'; exact st c o (E.same c o q')
  · obtain ⟨o, q⟩ := E.live c w
    exact ⟨o, st c o q⟩
  · show (if c ∈ a :: cs then (upd H2 a (.lst (cs.map V.ref))) c else b.H0 c) = none
    rw [if_neg fun z => now c z w]; exact E.new c w
  · obtain ⟨hj, e'⟩ := back e
    obtain ⟨v, z1, z2⟩ := E.val j q e' n
    exact ⟨v, by rw [List.getElem?_set_ne hj]; exact z1, z2.ex xb⟩
  · obtain ⟨hj, e'⟩ := back e
    obtain ⟨c, z1, z2, z3⟩ := E.own j q e' n
    exact ⟨c, by rw [List.getElem?_set_ne hj]; exact z1, z2, z3.ex xb fun o y => st c o y⟩
  · obtain ⟨hj, e1'⟩ := back e1
    obtain ⟨hk, e2'⟩ := back e2
    rw [List.getElem?_set_ne hj] at s1
    rw [List.getElem?_set_ne hk] at s2
    exact E.sep j k c q q' e1' n1 s1 e2' n2 s2
  · have hv' : (if k = i then some (V.ref a) else b.fx k) = some v := hv
    by_cases hk : k = i
    · rw [if_pos hk] at hv'
      cases hv'
      rw [hk, List.getElem?_set_self (by rw [E.len]; exact hl)]
    · rw [if_neg hk] at hv'
      rw [List.getElem?_set_ne (Ne.symm hk)]
      exact E.fix k v hv'
theorem n_init (i : Nat) {x : Str} {pos' lpos : Pos} (nd : X.N.Nodup) (he : PA X es (tEm n)) (hG : i ∉ G := by decide) (hx : b.fx i = none := by first | rfl | assumption) (hi : X.N[i]? = some x := by rfl) (hl : Loc X.env.scope x := by first | exact Or.inl rfl | exact Or.inr rfl)
    (hs : swapsWith (.List es lpos) (some (.Name x pos')) pos.line X.env = pure false := by rfl) (hf : X.fn x = true ∨ X.env.scope.names.lookup x = some .local := by first | exact .inl rfl | exact .inr rfl | assumption) : PS X (.Assign [.Name x pos'] (.List es lpos) pos) (tNi b G i (nInit i n)) :=
  PS.imp (ps_set nd hi hl (pe_lst he) hs hf) fun D σ H ⟨Ow, env, env', E, hz, k⟩ => by
    rw [nInit_ap] at hz
    split at hz
    · rename_i hle
      cases hz
      refine tEm_run n fun cs H2 hlen nd hc ho => ⟨line_le (by rw [List.length_map]; omega), fun a ha => ?_⟩
      obtain ⟨E1, x1⟩ := EN.start E hle.1 nd hc ho ha hG hx
      rw [hlen] at E1
      exact k _ _ a cs _ E1 x1
    · cases hz
/-! ### and out -/
def PostK (b : BX) (A : Addr → Prop) (H : Hp) (G L : List Nat) (ro : Bool) (D : Ends) : Out → Prop
  | .nx e => ∀ Ow' σ' H', ER b Ow' G σ' e H' → Ex A H (Bs b Ow') H' → D.nx σ' H'
  | .bk e => ∀ Ow' σ' H', ER b Ow' L σ' e H' → Ex A H (Bs b Ow') H' → D.bk σ' H'
  | .ct e => ∀ Ow' σ' H', ER b Ow' L σ' e H' → Ex A H (Bs b Ow') H' → D.ct σ' H'
  | .rt p => ∀ v H', Same b.H0 H' → Ret b.C b.A b.H0 ro H' v p → D.rt v H'
def tNX (b : BX) (G G' L : List Nat) (ro : Bool) (i : Nat) (f : Env → Option Out) : TS := fun D σ H => ∃ Ow env a cs yss out, EN b Ow G i σ env H a cs yss ∧ f env = some out ∧ PostK b (KN b Ow a cs) H G' L ro D out
abbrev NXs (X : Cx) (b : BX) (G G' L : List Nat) (ro : Bool) (i : Nat) (st : List Stmt) (f : Env → Option Out) : Prop := PSs X st (tNX b G G' L ro i f)
theorem PostK.ex {A A' : Addr → Prop} {H H' : Hp} {D : Ends} {o : Out} (e : Ex A H A' H') (p : PostK b A H G L ro D o) : PostK b A' H' G L ro D o := by
  cases o with
  | nx e' => exact fun Ow' σ' H2 E x => p Ow' σ' H2 E (e.trans x)
  | bk e' => exact fun Ow' σ' H2 E x => p Ow' σ' H2 E (e.trans x)
  | ct e' => exact fun Ow' σ' H2 E x => p Ow' σ' H2 E (e.trans x)
  | rt p' => exact p
theorem nx_exit (c : SSs X b G G' L ro rest g) (hG : i ∉ G := by decide) (hx : b.fx i = none := by first | rfl | assumption) : NXs X b G G' L ro i rest g := PSs.imp c fun D σ H ⟨Ow, env, a, cs, yss, out, E, hf, k⟩ => by
  refine ⟨Ow, env, out, E.out hG hx, hf, ?_⟩
  have w : Ex (KN b Ow a cs) H (Bs b Ow) H := ex_weak fun c o _ q => q.1
  have k' := PostK.ex w k
  cases out with
  | nx e' => exact k'
  | bk e' => exact k'
  | ct e' => exact k'
  | rt p' => exact k'
theorem nx_cons (x : NS X b G i st f) (c : NXs X b G G' L ro i rest g) : NXs X b G G' L ro i (st :: rest) (sSeq (onx f) g) := PSs.imp (pss_cons x c) fun D σ H ⟨Ow, env, a, cs, yss, out, E, hf, k⟩ => by
  unfold sSeq at hf
  obtain ⟨o, ho, hz⟩ := bind_some' hf
  obtain ⟨o', ho', hz'⟩ := bind_some' ho
  cases o' with
  | nx e' =>
    cases hz'
    exact ⟨Ow, env, a, cs, yss, e', E, ho', fun Ow1 σ1 H1 cs1 yss1 E1 s1 x1 => ⟨Ow1, e', a, cs1, yss1, out, E1, hz, k.ex x1⟩⟩
  | bk e' => cases hz'
  | ct e' => cases hz'
  | rt p' => cases hz'
theorem ni_cons (x : PS X st (tNi b G i f)) (c : NXs X b G G' L ro i rest g) : SSs X b G G' L ro (st :: rest) (sSeq (onx f) g) := PSs.imp (pss_cons x c) fun D σ H ⟨Ow, env, out, E, hf, k⟩ => by
  unfold sSeq at hf
  obtain ⟨o, ho, hz⟩ := bind_some' hf
  obtain ⟨o', ho', hz'⟩ := bind_some' ho
  cases o' with
  | nx e' =>
    cases hz'
    refine ⟨Ow, env, e', E, ho', fun σ1 H1 a cs yss E1 x1 => ⟨Ow, e', a, cs, yss, out, E1, hz, ?_⟩⟩
    cases out with
    | nx e'' => exact fun Ow' σ' H2 E2 x2 => k Ow' σ' H2 E2 (x1.trans x2)
    | bk e'' => exact fun Ow' σ' H2 E2 x2 => k Ow' σ' H2 E2 (x1.trans x2)
    | ct e'' => exact fun Ow' σ' H2 E2 x2 => k Ow' σ' H2 E2 (x1.trans x2)
    | rt p' => exact k
  | bk e' => cases hz'
  | ct e' => cases hz'
  | rt p' => cases hz'
end
end MR

/-! ## a, b = e where e is a list -/
namespace MR
open PySem L2
def gL (is : List Nat) (p : PV) (env : Env) : Option Env := match p with
  | .lst xs => gNs is xs env
  | _ => none
@[simp] theorem gL_ap (is : List Nat) (p : PV) (env : Env) : gL is p env = (match p with
  | .lst xs => gNs is xs env
  | _ => none) := id rfl
section
variable {X : Cx} {b : BX} {G G' L : List Nat} {pos : Pos}
end
end MR

/-! ## a second name for a list of one's own -/
namespace MR
open PySem L2
def ba (b : BX) (G : List Nat) (i j : Nat) (a : Addr) : BX := ⟨b.C, b.A, b.H0, fun k => if (k == i || (G.elem k && k == j)) = true then some (.ref a) else b.fx k⟩
theorem ba_i {b : BX} {G : List Nat} {i j : Nat} {a : Addr} : (ba b G i j a).fx i = some (.ref a) := by
  show (if (i == i || (G.elem i && i == j)) = true then _ else _) = _
  rw [if_pos (by simp)]
/-- the name i stands for the name j -/
structure EA (b : BX) (Ow : Addr → Prop) (G : List Nat) (i : Nat) (σ : St) (env : Env) (H : Hp) (j : Nat) (a : Addr) : Prop where
  idx : env[i]? = some (some (.int (j : Nat)))
  mem : j ∈ G
  er : ER (ba b G i j a) Ow G σ (env.set i none) H
/-- x = y -/
def aSet (i j : Nat) (env : Env) : Option Out := (bV j env).bind fun _ => if i < env.length then some (.nx (env.set i (some (.int (j : Nat))))) else none
@[simp] theorem aSet_ap (i j : Nat) (env : Env) : aSet i j env = ((bV j env).bind fun _ => if i < env.length then some (.nx (env.set i (some (.int (j : Nat))))) else none) := id rfl
/-- x.append(e) -/
def aApp (i : Nat) (h : Env → Option PV) (env : Env) : Option Out := (bV i env).bind fun x => match x with
  | .int j => (bV j.toNat (env.set i none)).bind fun y => (h (env.set i none)).bind fun p => (appV y p).bind fun z => some (.nx (env.set j.toNat (some z)))
  | _ => none
@[simp] theorem aApp_ap (i : Nat) (h : Env → Option PV) (env : Env) : aApp i h env = ((bV i env).bind fun x => match x with
  | .int j => (bV j.toNat (env.set i none)).bind fun y => (h (env.set i none)).bind fun p => (appV y p).bind fun z => some (.nx (env.set j.toNat (some z)))
  | _ => none) := id rfl
section
variable {X : Cx} {b : BX} {G G' L : List Nat} {ro : Bool} {i : Nat} {st : Stmt} {rest : List Stmt} {f g : Env → Option Out} {e e1 e2 : Expr} {h h1 h2 : Env → Option PV} {m m1 m2 : Md} {pos : Pos}
variable {Ow Ow' : Addr → Prop} {σ σ' : St} {env env' : Env} {H H' : Hp} {j : Nat} {a : Addr}
theorem EA.len (E : EA b Ow G i σ env H j a) : i < env.length := by
  rcases Nat.lt_or_ge i env.length with z | z
  · exact z
  · have := E.idx; rw [List.getElem?_eq_none z] at this; cases this
theorem EA.of (E : EA b Ow G i σ env H j a) (E' : ER (ba b G i j a) Ow' G σ' env' H') : EA b Ow' G i σ' (env'.set i (some (.int (j : Nat)))) H' j a := by
  have hl : i < env'.length := by
    have q := E'.fix i (.ref a) ba_i
    rw [← E'.len]
    rcases Nat.lt_or_ge i σ'.length with z | z
    · exact z
    · rw [List.getElem?_eq_none z] at q; cases q
  exact ⟨by rw [List.getElem?_set_self hl], E.mem, by rw [List.set_set]; exact E'.forget i⟩
theorem EA.up (E : EA b Ow G i σ env H j a) (s : Same H H') : EA b Ow G i σ env H' j a := ⟨E.idx, E.mem, E.er.up s⟩
theorem EA.clr {ds : List Nat} (E : EA b Ow G i σ env H j a) (hd : i ∉ ds) : EA b Ow G i σ (clr ds env) H j a := ⟨by rw [clr_get hd]; exact E.idx, E.mem, by rw [clr_set hd]; exact E.er.clr⟩
end
end MR

/-! ## a second name for a list of one's own: set, written by, begun and left -/
namespace MR
open PySem L2
section
variable {X : Cx} {b : BX} {G G' L : List Nat} {ro : Bool} {i : Nat} {st : Stmt} {rest : List Stmt} {f g : Env → Option Out} {e e1 e2 : Expr} {h h1 h2 : Env → Option PV} {m m1 m2 : Md} {pos : Pos}
/-! ### begun and left -/
/-- from here on the second name is not asked for -/
def aOut (i : Nat) (g : Env → Option Out) (env : Env) : Option Out := g (env.set i none)
@[simp] theorem aOut_ap (i : Nat) (g : Env → Option Out) (env : Env) : aOut i g env = g (env.set i none) := id rfl
end
end MR

/-! ## list(range(a, b)) -/
namespace MR
open PySem L2
@[simp] def lrngV2 : PV → PV → Option PV
  | .int i, .int j => if 0 ≤ i ∧ i ≤ j ∧ j ≤ 1000000 then some (.lst ((List.range' i.toNat (j - i).toNat).map fun k => .int (k : Nat))) else none
  | _, _ => none
section
variable {X : Cx} {b : BX} {G : List Nat} {pos p p2 pos2 : Pos} {m1 m2 : Md} {e1 e2 : Expr} {f1 f2 : Env → Option PV}
theorem se_listQ (hm : X.mg "list" = none) (hm2 : X.mg "range" = none) (h1 : SE X b G m1 e1 f1) (h2 : SE X b G m2 e2 f2) (hc : X.calm = true := by rfl) (hg : Gl X "list" := by rfl) (hg2 : Gl X "range" := by rfl) (hs : starEach [e1, e2] X.env = [(false, eval e1 X.env), (false, eval e2 X.env)] := by rfl) (hs1 : starEach [e2] X.env = [(false, eval e2 X.env)] := by rfl)
    (hs' : starEach [e1, e2] X.env = (false, eval e1 X.env) :: starEach [e2] X.env := by rfl) (hs1' : starEach [e2] X.env = (false, eval e2 X.env) :: starEach [] X.env := by rfl)
    (hs2 : starEach [.Call (.Name "range" p2) [e1, e2] [] pos2] X.env = (false, eval (.Call (.Name "range" p2) [e1, e2] [] pos2) X.env) :: starEach [] X.env := by rfl) (hpl : (backTo pos (starEach [] X.env)).any (·.1) = false := by rfl) :
    SE X b G .own (.Call (.Name "list" p) [.Call (.Name "range" p2) [e1, e2] [] pos2] [] pos) (b2 lrngV2 f1 f2) := by
  refine PE.imp (pe_listQ hg hm hg2 hm2 hc (pa_cons h1.bor (pa_cons h2.bor pa_nil hs1') hs') hs hs1 hs2 hpl) fun σ H Q ⟨Ow, env, q, E, hf, k⟩ => ?_
  obtain ⟨x, hx, z1⟩ := bind_some' hf
  clear hf
  obtain ⟨y, hy, hf⟩ := bind_some' z1
  clear z1
  cases x <;> cases y <;> simp only [lrngV2] at hf <;> first | cases hf | skip
  rename_i i j
  split at hf
  · rename_i hij
    cases hf
    refine ⟨Ow, env, _, E, hx, fun v H1 s r => ⟨Ow, env, _, E.up s, hy, fun v2 H2 s2 r2 => ?_⟩⟩
    have r1' : RepB b.C (Bs b Ow) H1 v (.int i) := r
    have r2' : RepB b.C (Bs b Ow) H2 v2 (.int j) := r2
    have e1 : ((i.toNat : Nat) : Int) = i := by omega
    have e2 : ((i.toNat + (j - i).toNat : Nat) : Int) = j := by omega
    refine ⟨i.toNat, (j - i).toNat, by rw [r1'.int, r2'.int, e1, e2], by omega, fun l hl => k _ _ ((s.trans s2).new hl _) (Res.down (s.trans s2) (res_new hl ?_))⟩
    exact reps_of _ _ (fun i => .int _) _
  · cases hf
end
end MR

/-! ## a list within what a call handed back is written, and the whole is forgotten -/
namespace MR
open PySem L2
/-- no list that begins with a tuple of three -/
def hd3 : List PV → Bool
  | [] => true
  | .tup xs :: _ => decide (xs.length ≠ 3)
  | .lst _ :: _ => true
  | .non :: _ => true
  | .bl _ :: _ => true
  | .int _ :: _ => true
  | .str _ :: _ => true
  | _ => false
mutual
def okT : PV → Bool
  | .lst xs => hd3 xs && okTs xs
  | .tup xs => okTs xs
  | .non => true
  | .bl _ => true
  | .int _ => true
  | .str _ => true
  | _ => false
def okTs : List PV → Bool
  | [] => true
  | x :: xs => okT x && okTs xs
end

/-- a list whose first is a tuple of something and a list that begins with a tuple of three -/
def shp : PV → Bool
  | .lst (.tup [_, .lst (.tup [x, y, z] :: r)] :: q) => decide (r.length < 1000) && decide (q.length < 1000)
  | _ => false
/-- x = f(..), if c: return .., x[0][1].append(None), x.append(None), and the rest without x -/
def sDeep (i : Nat) (ga : Env → Option (List PV)) (mi : List PV → Option PV) (c : Env → Option Bool) (f g : Env → Option Out) (env : Env) : Option Out := (ga env).bind fun qs => (mi qs).bind fun p => if (okTs qs && shp p && decide (i < env.length)) = true then (c (env.set i (some p))).bind fun k => if k = true then (f (env.set i (some p))).bind fun o => match o with
  | .rt v => some (.rt v)
  | _ => none
  else g (env.set i none) else none
@[simp] theorem sDeep_ap (i : Nat) (ga : Env → Option (List PV)) (mi : List PV → Option PV) (c : Env → Option Bool) (f g : Env → Option Out) (env : Env) : sDeep i ga mi c f g env = ((ga env).bind fun qs => (mi qs).bind fun p => if (okTs qs && shp p && decide (i < env.length)) = true then (c (env.set i (some p))).bind fun k => if k = true then (f (env.set i (some p))).bind fun o => match o with
  | .rt v => some (.rt v)
  | _ => none
  else g (env.set i none) else none) := id rfl
section
variable {X : Cx} {b : BX} {G G' L : List Nat} {ro : Bool} {rest sa : List Stmt} {f g : Env → Option Out}
end
end MR

/-! ## str(x), int(text), LETTERS.upper(), isinstance of a tuple that is told; a def that calls itself, the lowest level -/
namespace MR
open PySem L2
def numT : List (Str × Int) := [("0", 0), ("1", 1), ("2", 2), ("3", 3), ("4", 4), ("5", 5), ("6", 6), ("7", 7), ("8", 8), ("9", 9), ("10", 10), ("11", 11), ("12", 12)]
def numOf (x : Str) : Option Int := (numT.find? fun z => decide (z.1 = x)).map fun z => z.2
def txtOf (i : Int) : Option Str := (numT.find? fun z => decide (z.2 = i)).map fun z => z.1
@[simp] def intV2 : PV → Option PV
  | .int i => some (.int i)
  | .bl k => some (.int (if k then 1 else 0))
  | .str x => (numOf x).map .int
  | _ => none
@[simp] def strV : PV → Option PV
  | .int i => (txtOf i).map .str
  | .str x => some (.str x)
  | _ => none
@[simp] def upperV : PV → Option PV
  | .str x => if x = "abcdefghijklmnopqrstuvwxyz" then some (.str "ABCDEFGHIJKLMNOPQRSTUVWXYZ") else none
  | _ => none
def tyN2 : PV → Option String
  | .ktp _ => some "tuple"
  | p => tyN p
def isiV2 (tb : List (String × Bool)) (p : PV) : Option PV := (tyN2 p).bind fun t => (tb.lookup t).bind fun k => some (.bl k)
@[simp] theorem isiV2_ap (tb : List (String × Bool)) (p : PV) : isiV2 tb p = ((tyN2 p).bind fun t => (tb.lookup t).bind fun k => some (.bl k)) := id rfl
theorem numT_ok : ∀ z ∈ numT, PySem.intText? z.1 = some z.2 ∧ z.1.length ≤ 640 ∧ z.2.natAbs.log2 < 1920 ∧ (toString z.2 : Str) = z.1 := by
  decide +kernel
theorem numOf_ok {x : Str} {i : Int} (h : numOf x = some i) : PySem.intText? x = some i ∧ x.length ≤ 640 := by
  unfold numOf at h
  obtain ⟨z, h1, h2⟩ := Option.map_eq_some_iff.mp h
  have hm := List.mem_of_find?_eq_some h1
  have he := List.find?_some h1
  have he' : z.1 = x := of_decide_eq_true he
  obtain ⟨k1, k2, _⟩ := numT_ok z hm
  subst he'
  subst h2
  exact ⟨k1, k2⟩
theorem txtOf_ok {x : Str} {i : Int} (h : txtOf i = some x) : i.natAbs.log2 < 1920 ∧ (toString i : Str) = x := by
  unfold txtOf at h
  obtain ⟨z, h1, h2⟩ := Option.map_eq_some_iff.mp h
  have hm := List.mem_of_find?_eq_some h1
  have he := List.find?_some h1
  have he' : z.2 = i := of_decide_eq_true he
  obtain ⟨_, _, k1, k2⟩ := numT_ok z hm
  subst he'
  subst h2
  exact ⟨k1, k2⟩
section
variable {X : Cx} {b : BX} {G : List Nat} {p pos : Pos} {m1 : Md} {e : Expr} {f : Env → Option PV}
theorem call_int2 : CallR X (.type "int") (fun xs H Q => (∃ i, xs = [.int i] ∧ Q (.int i) H) ∨ (∃ k, xs = [.bl k] ∧ Q (.int (if k then 1 else 0)) H) ∨ ∃ x i, xs = [.str x] ∧ PySem.intText? x = some i ∧ x.length ≤ 640 ∧ Q (.int i) H) := by
  intro pins s σ H xs us Q I r h
  rcases h with h | h | ⟨x, i, rfl, h1, h2, q⟩
  · exact call_int1 pins s σ H xs us Q I r (.inl h)
  · exact call_int1 pins s σ H xs us Q I r (.inr h)
  · obtain ⟨u, rfl, t, rfl⟩ := vals1 r
    exact PySem.W.KIN.call_text h1 h2 ⟨.int i, H, I.tok _, ⟨_, rfl⟩, q⟩
theorem se_int2 (hm : X.mg "int" = none) (h : SE X b G m1 e f) (hg : Gl X "int" := by rfl) (he : starEach [e] X.env = (false, eval e X.env) :: starEach [] X.env := by rfl) : SE X b G .val (.Call (.Name "int" p) [e] [] pos) (b1 intV2 f) := by
  refine se_blty call_int2 (fun Ow H v1 p1 p Q hn r1 e k => ?_) hm PyProof.Rows.boot_int h hg (by decide) (by decide) he
  unfold intV2 at e
  split at e
  · cases e; rw [r1.int]; exact .inl ⟨_, rfl, k _ H (Same.refl _) (.int _)⟩
  · cases e; rw [r1.bl]; exact .inr (.inl ⟨_, rfl, k _ H (Same.refl _) (.int _)⟩)
  · obtain ⟨i, h1, h2⟩ := Option.map_eq_some_iff.mp e
    obtain ⟨k1, k2⟩ := numOf_ok h1
    subst h2
    rw [r1.str]; exact .inr (.inr ⟨_, _, rfl, k1, k2, k _ H (Same.refl _) (.int _)⟩)
  · cases e
theorem call_str2 : CallR X (.type "str") (fun xs H Q => (∃ i, xs = [.int i] ∧ i.natAbs.log2 < 1920 ∧ Q (.str (toString i)) H) ∨ ∃ x, xs = [.str x] ∧ Q (.str x) H) := by
  intro pins s σ H xs us Q I r h
  rcases h with h | ⟨x, rfl, q⟩
  · exact call_str_int pins s σ H xs us Q I r h
  · obtain ⟨u, rfl, t, rfl⟩ := vals1 r
    exact PySem.P.str_of_str ⟨.str x, H, I, ⟨_, rfl⟩, q⟩
theorem se_str1 (hm : X.mg "str" = none) (h : SE X b G m1 e f) (hg : Gl X "str" := by rfl) (he : starEach [e] X.env = (false, eval e X.env) :: starEach [] X.env := by rfl) : SE X b G .val (.Call (.Name "str" p) [e] [] pos) (b1 strV f) := by
  refine se_blty call_str2 (fun Ow H v1 p1 p Q hn r1 e k => ?_) hm PyProof.Rows.boot_str h hg (by decide) (by decide) he
  unfold strV at e
  split at e
  · obtain ⟨x, h1, h2⟩ := Option.map_eq_some_iff.mp e
    obtain ⟨k1, k2⟩ := txtOf_ok h1
    subst h2
    rw [r1.int]; exact .inl ⟨_, rfl, k1, by rw [k2]; exact k _ H (Same.refl _) (.str _)⟩
  · cases e; rw [r1.str]; exact .inr ⟨_, rfl, k _ H (Same.refl _) (.str _)⟩
  · cases e
/-! ### LETTERS.upper() -/
theorem upper_az : Txt.upper "abcdefghijklmnopqrstuvwxyz" = "ABCDEFGHIJKLMNOPQRSTUVWXYZ" := by decide +kernel
def rUp (x : V) (xs : List V) (H : Hp) (Q : VK) : Prop := x = .str "abcdefghijklmnopqrstuvwxyz" ∧ xs = [] ∧ Q (.str "ABCDEFGHIJKLMNOPQRSTUVWXYZ") H
theorem mt_upper : MtR X "str.upper" rUp := by
  intro pins s σ H x vs v us Q I rx rv h
  obtain ⟨rfl, rfl, q⟩ := h
  obtain ⟨t, rfl⟩ := rx
  cases rv
  have hfit : Builtin.Str.tooLong (Txt.upper "abcdefghijklmnopqrstuvwxyz").length = false := by decide +kernel
  have hz : EP X pins σ Q (.str (Txt.upper "abcdefghijklmnopqrstuvwxyz") s.toks) { s with toks := s.toks + 1 } := by
    rw [upper_az]
    exact ⟨.str _, H, I.tok _, ⟨_, rfl⟩, q⟩
  exact call_gives F.slot_str_upper (typeIs_str _ _ _) F.entry_str_upper (F.args_str_upper_1 _) (gives_str_upper _ t hfit) ⟨fit_le hfit, hz⟩
theorem se_upper {apos cpos : Pos} (h : SE X b G m1 e f) (hbase : attributeBase e "upper" X.env (eval e X.env) = eval e X.env := by rfl) (hline : (apos.endLine == cpos.line) = true := by rfl) :
    SE X b G .val (.Call (.Attribute e "upper" apos) [] [] cpos) (b1 upperV f) := by
  refine PE.imp (pe_bm0 PySem.F.plainAttrs_str PySem.F.slot_str_upper PySem.F.type_str_upper mt_upper h.bor hbase hline) fun σ H Q h => ?_
  obtain ⟨Ow, env, p, E, hf, k⟩ := h
  obtain ⟨p1, q1, hf⟩ := bind_some' hf
  unfold upperV at hf
  split at hf
  · split at hf
    · rename_i z hz
      subst hz
      cases hf
      refine ⟨Ow, env, _, E, q1, fun v1 H1 s1 r1 => ?_⟩
      have r1' : RepB b.C (Bs b Ow) H1 v1 (.str "abcdefghijklmnopqrstuvwxyz") := r1
      have ev := r1'.str
      subst ev
      exact ⟨rfl, rfl, rfl, k _ H1 s1 (.str _)⟩
    · cases hf
  · cases hf
/-! ### isinstance -/
theorem call_isinst2 : CallR X (.builtin "isinstance") (fun xs H Q => (∃ x n t b, xs = [x, .ty n] ∧ TyOf X.K H x t ∧ PySem.W.kitOne X.K t (.type n) = some b ∧ Q (.bl b) H) ∨
    ∃ a ys n b, xs = [.ref a, .ty n] ∧ SqT X.K H a ys ∧ PySem.W.kitOne X.K (.type "tuple") (.type n) = some b ∧ Q (.bl b) H) := by
  intro pins s σ H xs us Q I r h
  rcases h with h | ⟨a, ys, n, b, rfl, hs, e, q⟩
  · exact call_isinst pins s σ H xs us Q I r h
  · obtain ⟨u, w', rfl, r1, r2⟩ := vals2 r
    cases r2
    cases (show u = Value.ref a from r1)
    have key : ∃ o : Obj, s.heap.get? a = some o ∧ o.cls = .type "tuple" := by
      obtain ⟨its, _, pl, _⟩ := I.tuple hs
      obtain ⟨o, e, c, _⟩ := pl
      exact ⟨o, e, c⟩
    exact PySem.W.kia_one PySem.W.kitx_tuple I.kIn key e (fun z => nomatch z) fun tk => ⟨.bl b, H, I.tok _, rfl, q⟩
theorem se_isi2 {m : Md} {n : Str} {n' : String} {p1 : Pos} (tb : List (String × Bool)) (hk : ∀ t k, (t, k) ∈ tb → PySem.W.kitOne X.K (.type t) (.type n') = some k) (hm : X.mg "isinstance" = none) (hmn : X.mg n = none) (hbn : bootBuiltins n = some (.type n')) (h : SE X b G m e f) (hK : X.K = b.C.K := by rfl) (hg : Gl X "isinstance" := by rfl) (hgn : Gl X n := by rfl)
    (hbi : bootBuiltins "isinstance" = some (.builtin "isinstance") := by decide +kernel) (hn1 : n ≠ "__name__" := by decide) (hd : (n == ("__debug__" : Str)) = false := by decide)
    (he : starEach [e, .Name n p1] X.env = (false, eval e X.env) :: starEach [.Name n p1] X.env := by rfl) (he2 : starEach [.Name n p1] X.env = (false, eval (.Name n p1) X.env) :: starEach [] X.env := by rfl) (hpl : (backTo pos (starEach [.Name n p1] X.env)).any (·.1) = false := by rfl) :
    SE X b G .val (.Call (.Name "isinstance" p) [e, .Name n p1] [] pos) (b1 (isiV2 tb) f) := by
  refine PE.imp (pe_callB call_isinst2 hg hm hbi (pa_cons h.bor (pa_cons (pe_bltn (v := .ty n') hgn hmn hbn rfl hn1 hd) pa_nil he2) he) (by decide) (by decide) he hpl) fun σ H Q ⟨Ow, env, q, E, hf, kk⟩ => ?_
  obtain ⟨p1, hp1, hf⟩ := bind_some' hf
  obtain ⟨t, ht, hf⟩ := bind_some' hf
  obtain ⟨k, hk', hf⟩ := bind_some' hf
  cases hf
  refine ⟨Ow, env, p1, E, hp1, fun v H1 s r => ?_⟩
  have r1 : RepB b.C (Bs b Ow) H1 v p1 := r
  unfold tyN2 at ht
  split at ht
  · cases ht
    obtain ⟨a, vs, rfl, ha, _⟩ := r1.ktp
    exact .inr ⟨a, vs, n', k, rfl, by rw [hK]; exact ha, hk _ k (look_mem hk'), kk _ H1 s (.bl k)⟩
  · exact .inl ⟨v, n', .type t, k, rfl, by rw [hK]; exact r1.ty ht, hk t k (look_mem hk'), kk _ H1 s (.bl k)⟩
end
/-- of a def that calls itself the lowest level tells nothing -/
theorem cal_zero {P : Program} {w : World} {K : PySem.W.Frag} {mg : Str → Option Value} {base : Heap} {x : Str} {ps : List Str} {st : Stmt} {fa : Addr} {fd : FuncData} {C : MC} {ro : Bool} (F : Fun K x x st fa fd)
    (hm : mg x = some (.ref fa)) (hb : Binds K fd ps []) : Cal P w K mg base 0 x ps (spM C (fun _ => none) ro) :=
  have no : ∀ vs H Q E, ¬ spM C (fun _ => none) ro vs H Q E := fun vs H Q E h => by
    obtain ⟨A, qs, p, _, z, _⟩ := h
    cases z
  cal_mk F hm hb ⟨fun vs H Q E h => absurd h (no _ _ _ _), fun A outer s H args us vs Q E hr he hb' hv h => absurd h (no _ _ _ _)⟩
end MR
/-! ## plain facts: places, comprehensions, loops, dicts of texts told True -/
namespace My
open PySem L2 MR
@[simp] theorem eqP_int (i j : Int) : eqP (.int i) (.int j) = some (decide (i = j)) := rfl
@[simp] theorem eqP_str (i j : Str) : eqP (.str i) (.str j) = some (decide (i = j)) := rfl
@[simp] theorem eqP_bl (i j : Bool) : eqP (.bl i) (.bl j) = some (decide (i = j)) := rfl
theorem atI_map {α β : Type} (f : α → β) (xs : List α) (i : Int) : atI (xs.map f) i = (atI xs i).map f := by
  unfold atI
  rw [List.length_map]
  cases ixN xs.length i with
  | none => rfl
  | some j => simp
theorem atI_at {α : Type} {xs : List α} {k : Nat} {x : α} (h : xs[k]? = some x) : atI xs (k : Int) = some x := atI_nat h
section
variable {α : Type} {env : MR.Env} {g : PV → MR.Env → Option MR.Env} {t : MR.Env → Option Bool} {f : MR.Env → Option PV}
theorem compL_map (c h : α → PV) : ∀ (ys : List α), (∀ y ∈ ys, ∃ e, g (c y) env = some e ∧ f e = some (h y)) → compL env g tTrue f (ys.map c) = some (ys.map h)
  | [], _ => rfl
  | y :: ys, hh => by
    obtain ⟨e, h1, h2⟩ := hh y List.mem_cons_self
    have ih := compL_map c h ys fun z hz => hh z (List.mem_cons_of_mem _ hz)
    simp [compL, h1, h2, ih]
theorem compL_filter (c h : α → PV) (p : α → Bool) : ∀ (ys : List α), (∀ y ∈ ys, ∃ e, g (c y) env = some e ∧ t e = some (p y) ∧ (p y = true → f e = some (h y))) → compL env g t f (ys.map c) = some ((ys.filter p).map h)
  | [], _ => rfl
  | y :: ys, hh => by
    obtain ⟨e, h1, h2, h3⟩ := hh y List.mem_cons_self
    have ih := compL_filter c h p ys fun z hz => hh z (List.mem_cons_of_mem _ hz)
    cases hp : p y with
    | true => simp [compL, h1, h2, h3 hp, ih, hp]
    | false => simp [compL, h1, h2, ih, hp]
end
theorem enumV_map {α : Type} (c : α → PV) : ∀ (ys : List α) (n : Nat), enumV n (ys.map c) = (ys.zipIdx n).map fun y => .tup [.int (y.2 : Nat), c y.1]
  | [], _ => rfl
  | y :: ys, n => by simp [enumV, enumV_map c ys]
end My
/-! ## plain facts for the laws of tables and metres: turns of loops, data that is like itself -/
namespace My
open PySem L2 MR
section
variable {α : Type} (a b c d e f g h : α) (l : List α)
@[simp] theorem at0 : atI (a :: l) 0 = some a := atI_at (k := 0) rfl
@[simp] theorem at1 : atI (a :: b :: l) 1 = some b := atI_at (k := 1) rfl
@[simp] theorem at2 : atI (a :: b :: c :: l) 2 = some c := atI_at (k := 2) rfl
@[simp] theorem at3 : atI (a :: b :: c :: d :: l) 3 = some d := atI_at (k := 3) rfl
end
@[simp] def nxt (ds : List Nat) : Option Out → Option MR.Env
  | some (.nx e) => some (clr ds e)
  | some (.ct e) => some (clr ds e)
  | _ => none
def turn (g : PV → MR.Env → Option MR.Env) (ds : List Nat) (body : MR.Env → Option Out) (x : PV) (env : MR.Env) : Option MR.Env := (g x env).bind fun e => nxt ds (body e)
theorem turn_ap (g : PV → MR.Env → Option MR.Env) (ds : List Nat) (body : MR.Env → Option Out) (x : PV) (env : MR.Env) : turn g ds body x env = (g x env).bind fun e => nxt ds (body e) := id rfl
theorem loopS_turn {g : PV → MR.Env → Option MR.Env} {ds : List Nat} {body : MR.Env → Option Out} {x : PV} {xs : List PV} {env env' : MR.Env} (h : turn g ds body x env = some env') : loopS g ds body (x :: xs) env = loopS g ds body xs env' := by
  unfold turn at h
  obtain ⟨e, h1, h2⟩ := bind_some' h
  unfold nxt at h2
  split at h2
  · rename_i q; cases h2; simp [loopS, h1, q]
  · rename_i q; cases h2; simp [loopS, h1, q]
  · cases h2
theorem sSeq_nx {f g : MR.Env → Option Out} {env e : MR.Env} (h : f env = some (.nx e)) : sSeq f g env = g e := by simp [h]
theorem sSeq_rt {f g : MR.Env → Option Out} {env : MR.Env} {p : PV} (h : f env = some (.rt p)) : sSeq f g env = some (.rt p) := by simp [h]
theorem rngV_nat (n : Nat) : rngV 0 (n : Int) = (List.range n).map fun k => PV.int (k : Nat) := by
  unfold rngV
  simp
/-! ### data that is like itself -/
def okP : Nat → PV → Prop
  | _, .non => True
  | _, .bl _ => True
  | _, .int _ => True
  | _, .str x => PyData.strOk x = true
  | n + 1, .lst xs => ∀ x ∈ xs, okP n x
  | n + 1, .tup xs => ∀ x ∈ xs, okP n x
  | _, _ => False
theorem okPs_d {n : Nat} (ih : ∀ p, okP n p → ∃ d, toD p = some d ∧ d.canLay0 = true ∧ d.depth ≤ n ∧ PyData.eqv d d = true) : ∀ xs : List PV, (∀ x ∈ xs, okP n x) → ∃ ds, toDs xs = some ds ∧ PyData.canLayAll0 ds = true ∧ PyData.depthAll ds ≤ n ∧ PyData.eqvAll ds ds = true
  | [], _ => ⟨[], rfl, rfl, Nat.zero_le _, rfl⟩
  | x :: xs, h => by
    obtain ⟨d, h1, h2, h3, h4⟩ := ih x (h x List.mem_cons_self)
    obtain ⟨ds, g1, g2, g3, g4⟩ := okPs_d ih xs fun z hz => h z (List.mem_cons_of_mem _ hz)
    refine ⟨d :: ds, by simp [toDs, h1, g1], by simp [PyData.canLayAll0, h2, g2], ?_, by simp [PyData.eqvAll, h4, g4]⟩
    simp only [PyData.depthAll]
    omega
theorem okP_d : ∀ (n : Nat) (p : PV), okP n p → ∃ d, toD p = some d ∧ d.canLay0 = true ∧ d.depth ≤ n ∧ PyData.eqv d d = true
  | n, .non, _ => ⟨.none, by simp [toD], by simp [PyData.canLay0], by simp [PyData.depth], by simp [PyData.eqv]⟩
  | n, .bl b, _ => ⟨.bool b, by simp [toD], by simp [PyData.canLay0], by simp [PyData.depth], by simp [PyData.eqv]⟩
  | n, .int b, _ => ⟨.int b, by simp [toD], by simp [PyData.canLay0], by simp [PyData.depth], by simp [PyData.eqv]⟩
  | n, .str b, h => ⟨.str b, by simp [toD], by simpa [PyData.canLay0, okP] using h, by simp [PyData.depth], by simp [PyData.eqv]⟩
  | n + 1, .lst xs, h => by
    obtain ⟨ds, g1, g2, g3, g4⟩ := okPs_d (okP_d n) xs (by simpa [okP] using h)
    exact ⟨.list ds, by simp [toD, g1], by simp [PyData.canLay0, g2], by simp only [PyData.depth]; omega, by simp [PyData.eqv, g4]⟩
  | n + 1, .tup xs, h => by
    obtain ⟨ds, g1, g2, g3, g4⟩ := okPs_d (okP_d n) xs (by simpa [okP] using h)
    exact ⟨.tuple ds, by simp [toD, g1], by simp [PyData.canLay0, g2], by simp only [PyData.depth]; omega, by simp [PyData.eqv, g4]⟩
  | 0, .lst _, h => by simp [okP] at h
  | 0, .tup _, h => by simp [okP] at h
  | _, .frz _, h => by simp [okP] at h
  | _, .ktp _, h => by simp [okP] at h
  | _, .dK _, h => by simp [okP] at h
  | _, .dT _, h => by simp [okP] at h
  | _, .obj _ _, h => by simp [okP] at h
theorem eqD_refl {n : Nat} {p : PV} (h : okP n p) (hn : n ≤ 64) : eqD p p = some true := by
  obtain ⟨d, h1, h2, h3, h4⟩ := okP_d n p h
  have hs : SeqAt.shaped d = true := by
    unfold SeqAt.shaped
    rw [h2, Bool.true_and, decide_eq_true_eq]
    omega
  simp [eqD, h1, hs, h4]
theorem eqS_self {p : PV} {k : Bool} (h : eqS p p = some k) : k = true := by
  cases p <;> simp at h <;> first | exact h | exact h.symm | cases h
theorem eqP_refl {n : Nat} {p : PV} (h : okP n p) (hn : n ≤ 64) : eqP p p = some true := by
  unfold eqP
  cases q : eqS p p with
  | none => exact eqD_refl h hn
  | some k => rw [eqS_self q]
theorem eqP_lst_nil {n : Nat} {x : PV} {xs : List PV} (h : okP (n + 1) (.lst (x :: xs))) (hn : n ≤ 60) : eqP (.lst (x :: xs)) (.lst []) = some false := by
  have h' : ∀ y ∈ x :: xs, okP n y := by simpa [okP] using h
  obtain ⟨d, a1, a2, a3, a4⟩ := okP_d n x (h' x List.mem_cons_self)
  obtain ⟨ds, g1, g2, g3, g4⟩ := okPs_d (okP_d n) xs fun z hz => h' z (List.mem_cons_of_mem _ hz)
  have hs : SeqAt.shaped (.list (d :: ds)) = true := by
    have h1 : (PyData.list (d :: ds)).canLay0 = true := by simp [PyData.canLay0, PyData.canLayAll0, a2, g2]
    have h2 : (PyData.list (d :: ds)).depth ≤ 64 := by simp only [PyData.depth, PyData.depthAll]; omega
    simp [SeqAt.shaped, h1, h2]
  have hs2 : SeqAt.shaped (.list []) = true := by decide
  simp [eqP, eqS, eqD, toD, toDs, a1, g1, hs, hs2, PyData.eqv, PyData.eqvAll]
@[simp] theorem eqP_nil : eqP (.lst []) (.lst []) = some true := eqP_refl (n := 1) (by simp [okP]) (by decide)
end My
namespace My
open PySem L2 MR
def c_HIGHS : PV := .ktp [.str "1", .str "2", .str "3", .str "4"]
def c_LOWS : PV := .ktp [.str "0", .str "1", .str "2", .str "3", .str "4"]
def c_OPENING : PV := .ktp [.str "("]
def tb_bool : List (String × Bool) := [("bool", true), ("int", false)]
def tb_int : List (String × Bool) := [("int", true)]
def tb_list : List (String × Bool) := [("list", true)]
def tb_str : List (String × Bool) := [("str", true), ("int", false)]
def tb_tuple : List (String × Bool) := [("tuple", true), ("str", false), ("int", false), ("NoneType", false)]
noncomputable def lb__law_roots_1 : MR.Env → Option Out := (sIf (tV (b2 inQ (b2 ixP (bV 4) (bC (.int 0))) (bTup (bCons (bC (.str "(")) (bCons (bC (.str ")")) bNil))))) (sSet 3 (b2 eqQ (b2 ixP (bV 4) (bC (.int 0))) (bC (.str "(")))) (sSeq (sSet 2 (b2 addV (bV 2) (bC (.int 1)))) (sIf (tV (b2 eqQ (b2 ixP (bV 4) (bC (.int 0))) (bC (.str "row")))) (sMut1 appV 1 (bTup (bCons (bV 2) (bCons (bV 3) bNil)))) sNx)))
noncomputable def fb__law_roots : MR.Env → Option Out := (sSeq (sSet 1 (bLst bNil)) (sSeq (sSet 2 (bC (.int 0))) (sSeq (sSet 3 (bC (.bl false))) (sSeq (sFor (gN 4) (iV (bV 0)) [4] lb__law_roots_1) (sRet (bV 1))))))
noncomputable def mi__law_roots : List PV → Option PV := mDef 5 1 false fb__law_roots
noncomputable def ce__law_is_low_1 : MR.Env → Option PV := (bV 0)
noncomputable def cc__law_is_low_2 : MR.Env → Option Bool := (tA (tV (b2 eqQ (b2 ixP (bV 0) (bC (.int 0))) (bC (.str ")")))) (tV (b2 eqQ (b2 ixP (bV 0) (bC (.int 1))) (bC (.int 0)))))
noncomputable def fb__law_is_low : MR.Env → Option Out := (sRet (b2 neQ (bComp [none] (iV (bV 0)) (gN 0) cc__law_is_low_2 ce__law_is_low_1) (bLst bNil)))
noncomputable def mi__law_is_low : List PV → Option PV := mDef 1 1 false fb__law_is_low
noncomputable def fb__law_name : MR.Env → Option Out := (sSeq (sSet 1 (bLst (bCons (bC (.str "a")) (bCons (bC (.str "as")) (bCons (bC (.str "x")) (bCons (bC (.str "iamb")) (bCons (bC (.str "long")) (bCons (bC (.str "b")) (bCons (bC (.str "measured")) (bCons (bC (.str "u")) bNil)))))))))) (sRet (b2 ixP (bV 1) (b2 modV (bV 0) (bC (.int 8))))))
noncomputable def mi__law_name : List PV → Option PV := mDef 2 1 false fb__law_name
noncomputable def fb__law_bond : MR.Env → Option Out := (sSeq (sSet 1 (bLst (bCons (bC .non) (bCons (bC (.str "a")) (bCons (bC (.str "b")) (bCons (bC (.str "c")) (bCons (bC (.str "A")) (bCons (bC (.str "B")) (bCons (bC (.str "a")) (bCons (bC (.str "z")) bNil)))))))))) (sRet (b2 ixP (bV 1) (b2 modV (bV 0) (bC (.int 8))))))
noncomputable def mi__law_bond : List PV → Option PV := mDef 2 1 false fb__law_bond
noncomputable def ce__law_next_1 : MR.Env → Option PV := (b2 ixP (bV 0) (bC (.int 0)))
noncomputable def ce__law_next_2 : MR.Env → Option PV := (bV 0)
noncomputable def cc__law_next_3 : MR.Env → Option Bool := (tN (tV (b2 ixP (bV 0) (bC (.int 1)))))
noncomputable def fb__law_next : MR.Env → Option Out := (sSeq (sSet 2 (bComp [none] (iV (bV 0)) (gN 0) tTrue ce__law_next_1)) (sSeq (sSet 3 (b2 divV (bV 1) (bC (.int 9)))) (sSeq (sSet 4 (bAnd (b2 inQ (bC (.str "(")) (bV 2)) (b2 notInQ (bC (.str ")")) (bV 2)))) (sSeq (sSet 5 (b2 modV (bV 3) (bC (.int 4)))) (sSeq (sIf (tA (tV (b2 eqQ (b2 modV (bV 1) (bC (.int 9))) (bC (.int 7)))) (tV (b2 notInQ (bC (.str "(")) (bV 2)))) (sRet (bTup (bCons (bC (.str "(")) bNil))) sNx) (sSeq (sIf (tA (tV (b2 eqQ (b2 modV (bV 1) (bC (.int 9))) (bC (.int 8)))) (tA (tV (bV 4)) (tV (b2 neQ (b2 ixP (bV 2) (b1 negV (bC (.int 1)))) (bC (.str "(")))))) (sRet (bTup (bCons (bC (.str ")")) (bCons (bV 5) (bCons (b2 addV (b2 maxV (bC (.int 1)) (bV 5)) (b2 modV (b2 divV (bV 3) (bC (.int 4))) (b2 subV (bC (.int 5)) (b2 maxV (bC (.int 1)) (bV 5))))) bNil))))) sNx) (sSeq (sSet 6 (bCall mi__law_roots (bCons (bV 0) bNil))) (sSeq (sIf (tA (tN (tV (bV 4))) (tV (bCall mi__law_is_low (bCons (bV 0) bNil)))) (sSet 6 (bComp [none] (iV (bV 6)) (gN 0) cc__law_next_3 ce__law_next_2)) sNx) (sSeq (sIf (tA (tV (b2 inQ (b2 modV (bV 1) (bC (.int 9))) (bTup (bCons (bC (.int 5)) (bCons (bC (.int 6)) bNil))))) (tV (b2 neQ (bV 6) (bLst bNil)))) (sRet (bTup (bCons (bC (.str "as")) (bCons (b2 ixP (b2 ixP (bV 6) (b2 modV (bV 3) (b1 lenV (bV 6)))) (bC (.int 0))) bNil)))) sNx) (sRet (bTup (bCons (bC (.str "row")) (bCons (bCall mi__law_name (bCons (bV 3) bNil)) (bCons (bCall mi__law_bond (bCons (b2 divV (bV 3) (bC (.int 8))) bNil)) bNil))))))))))))))
noncomputable def mi__law_next : List PV → Option PV := mDef 7 2 false fb__law_next
noncomputable def lb__law_form_1 : MR.Env → Option Out := (sMut1 appV 1 (bCallB mi__law_next (bCons (bL (bV 1)) (bCons (bV 2) bNil))))
noncomputable def ce__law_form_2 : MR.Env → Option PV := (b2 ixP (bV 0) (bC (.int 0)))
noncomputable def fb__law_form : MR.Env → Option Out := (sSeq (sSet 1 (bLst bNil)) (sSeq (sFor (gN 2) (iV (bV 0)) [2] lb__law_form_1) (sSeq (sSet 3 (bComp [none] (iV (bV 1)) (gN 0) tTrue ce__law_form_2)) (sSeq (sIf (tO (tV (b2 eqQ (bV 3) (bLst bNil))) (tV (b2 eqQ (b2 ixP (bV 3) (b1 negV (bC (.int 1)))) (bC (.str "("))))) (sMut1 appV 1 (bTup (bCons (bC (.str "row")) (bCons (bC (.str "x")) (bCons (bC (.str "a")) bNil))))) sNx) (sSeq (sIf (tA (tV (b2 inQ (bC (.str "(")) (bV 3))) (tV (b2 notInQ (bC (.str ")")) (bV 3)))) (sMut1 appV 1 (bTup (bCons (bC (.str ")")) (bCons (bC (.int 1)) (bCons (bC (.int 2)) bNil))))) sNx) (sRet (b1 tupleV (bV 1))))))))
noncomputable def mi__law_form : List PV → Option PV := mDef 4 1 false fb__law_form
noncomputable def ce__law_text_1 : MR.Env → Option PV := (b1 strV (bV 0))
noncomputable def lb__law_text_2 : MR.Env → Option Out := (sIf (tV (b2 eqQ (b2 ixP (bV 2) (bC (.int 0))) (bC (.str "row")))) (sMut1 appV 1 (b2 addV (b2 addV (b2 ixP (bV 2) (bC (.int 1))) (bC (.str " "))) (b2 ixP (bLst (bCons (bC (.str "-")) (bCons (b2 ixP (bV 2) (bC (.int 2))) bNil))) (b1 intV2 (b2 isNotN (b2 ixP (bV 2) (bC (.int 2))) (bC .non)))))) (sMut1 appV 1 (b2 joinV2 (bC (.str " ")) (bComp [none] (iV (bV 2)) (gN 0) tTrue ce__law_text_1))))
noncomputable def fb__law_text : MR.Env → Option Out := (sSeq (sSet 1 (bLst bNil)) (sSeq (sFor (gN 2) (iV (bV 0)) [2] lb__law_text_2) (sRet (b2 joinV2 (bC (.str "; ")) (bV 1)))))
noncomputable def mi__law_text : List PV → Option PV := mDef 3 1 false fb__law_text
noncomputable def ce_written_part_1 : MR.Env → Option PV := (b1 strV (bV 0))
noncomputable def fb_written_part : MR.Env → Option Out := (sSeq (sIf (tV (b2 eqQ (b2 ixP (bV 0) (bC (.int 0))) (bC (.str "row")))) (sRet (b2 addV (b2 addV (b2 ixP (bV 0) (bC (.int 1))) (bC (.str " "))) (bIf (tV (b2 isN (b2 ixP (bV 0) (bC (.int 2))) (bC .non))) (bC (.str "-")) (b2 ixP (bV 0) (bC (.int 2)))))) sNx) (sRet (b2 joinV2 (bC (.str " ")) (bComp [none] (iV (bV 0)) (gN 0) tTrue ce_written_part_1))))
noncomputable def mi_written_part : List PV → Option PV := mDef 1 1 false fb_written_part
noncomputable def ce_written_form_1 : MR.Env → Option PV := (bCall mi_written_part (bCons (bV 0) bNil))
noncomputable def fb_written_form : MR.Env → Option Out := (sRet (b2 joinV2 (bC (.str "; ")) (bComp [none] (iV (bV 0)) (gN 0) tTrue ce_written_form_1)))
noncomputable def mi_written_form : List PV → Option PV := mDef 1 1 false fb_written_form
noncomputable def ce_ending_of_1 : MR.Env → Option PV := (bV 0)
noncomputable def cc_ending_of_2 : MR.Env → Option Bool := (tV (b2 eqQ (b2 ixP (bV 0) (bC (.int 0))) (bC (.str ")"))))
noncomputable def fb_ending_of : MR.Env → Option Out := (sSeq (sSet 1 (bComp [none] (iV (bV 0)) (gN 0) cc_ending_of_2 ce_ending_of_1)) (sRet (bIf (tV (b2 (cmpV fun i j => decide (j < i)) (b1 lenV (bV 1)) (bC (.int 0)))) (b2 ixP (bV 1) (bC (.int 0))) (bC .non))))
noncomputable def mi_ending_of : List PV → Option PV := mDef 2 1 false fb_ending_of
noncomputable def fb_times_of : MR.Env → Option Out := (sSeq (sSet 1 (bCall mi_ending_of (bCons (bV 0) bNil))) (sRet (bIf (tV (b2 isN (bV 1) (bC .non))) (bLst (bCons (bC (.int 1)) bNil)) (b2 lrngV2 (b2 ixP (bV 1) (bC (.int 1))) (b2 addV (b2 ixP (bV 1) (bC (.int 2))) (bC (.int 1)))))))
noncomputable def mi_times_of : List PV → Option PV := mDef 2 1 true fb_times_of
noncomputable def mi__law_alike__0 : List PV → Option PV := fun _ => none
noncomputable def ce__law_alike__1_1 : MR.Env → Option PV := (bCall mi__law_alike__0 (bCons (b2 ixP (bV 1) (bV 0)) (bCons (b2 ixP (bV 2) (bV 0)) bNil)))
noncomputable def fb__law_alike__1 : MR.Env → Option Out := (sSeq (sIf (tV (b1 (isiV2 tb_tuple) (bV 1))) (sSeq (sIf (tO (tN (tV (b1 (isiV2 tb_tuple) (bV 0)))) (tV (b2 neQ (b1 lenV (bV 0)) (b1 lenV (bV 1))))) (sRet (bC (.bl false))) sNx) (sRet (b1 allV (bComp [none, some 0, some 1] (iR1 (b1 lenV (bV 1))) (gN 0) tTrue ce__law_alike__1_1)))) sNx) (sSeq (sIf (tV (b2 isN (bV 1) (bC .non))) (sRet (b2 isN (bV 0) (bC .non))) sNx) (sSeq (sIf (tV (b1 (isiV2 tb_str) (bV 1))) (sRet (bAnd (b1 (isiV2 tb_str) (bV 0)) (b2 eqQ (bV 0) (bV 1)))) sNx) (sRet (bAnd (b1 (isiV2 tb_int) (bV 0)) (bAnd (bNot (b1 (isiV2 tb_bool) (bV 0))) (b2 eqQ (bV 0) (bV 1))))))))
noncomputable def mi__law_alike__1 : List PV → Option PV := mDef 2 2 false fb__law_alike__1
noncomputable def ce__law_alike__2_1 : MR.Env → Option PV := (bCall mi__law_alike__1 (bCons (b2 ixP (bV 1) (bV 0)) (bCons (b2 ixP (bV 2) (bV 0)) bNil)))
noncomputable def fb__law_alike__2 : MR.Env → Option Out := (sSeq (sIf (tV (b1 (isiV2 tb_tuple) (bV 1))) (sSeq (sIf (tO (tN (tV (b1 (isiV2 tb_tuple) (bV 0)))) (tV (b2 neQ (b1 lenV (bV 0)) (b1 lenV (bV 1))))) (sRet (bC (.bl false))) sNx) (sRet (b1 allV (bComp [none, some 0, some 1] (iR1 (b1 lenV (bV 1))) (gN 0) tTrue ce__law_alike__2_1)))) sNx) (sSeq (sIf (tV (b2 isN (bV 1) (bC .non))) (sRet (b2 isN (bV 0) (bC .non))) sNx) (sSeq (sIf (tV (b1 (isiV2 tb_str) (bV 1))) (sRet (bAnd (b1 (isiV2 tb_str) (bV 0)) (b2 eqQ (bV 0) (bV 1)))) sNx) (sRet (bAnd (b1 (isiV2 tb_int) (bV 0)) (bAnd (bNot (b1 (isiV2 tb_bool) (bV 0))) (b2 eqQ (bV 0) (bV 1))))))))
noncomputable def mi__law_alike__2 : List PV → Option PV := mDef 2 2 false fb__law_alike__2
noncomputable def ce__law_alike_1 : MR.Env → Option PV := (bCall mi__law_alike__2 (bCons (b2 ixP (bV 1) (bV 0)) (bCons (b2 ixP (bV 2) (bV 0)) bNil)))
noncomputable def fb__law_alike : MR.Env → Option Out := (sSeq (sIf (tV (b1 (isiV2 tb_tuple) (bV 1))) (sSeq (sIf (tO (tN (tV (b1 (isiV2 tb_tuple) (bV 0)))) (tV (b2 neQ (b1 lenV (bV 0)) (b1 lenV (bV 1))))) (sRet (bC (.bl false))) sNx) (sRet (b1 allV (bComp [none, some 0, some 1] (iR1 (b1 lenV (bV 1))) (gN 0) tTrue ce__law_alike_1)))) sNx) (sSeq (sIf (tV (b2 isN (bV 1) (bC .non))) (sRet (b2 isN (bV 0) (bC .non))) sNx) (sSeq (sIf (tV (b1 (isiV2 tb_str) (bV 1))) (sRet (bAnd (b1 (isiV2 tb_str) (bV 0)) (b2 eqQ (bV 0) (bV 1)))) sNx) (sRet (bAnd (b1 (isiV2 tb_int) (bV 0)) (bAnd (bNot (b1 (isiV2 tb_bool) (bV 0))) (b2 eqQ (bV 0) (bV 1))))))))
noncomputable def mi__law_alike : List PV → Option PV := mDef 2 2 false fb__law_alike
noncomputable def fb_is_open : MR.Env → Option Out := (sRet (bAnd (b2 inQ (bC c_OPENING) (bV 0)) (b2 isN (bCall mi_ending_of (bCons (bV 0) bNil)) (bC .non))))
noncomputable def mi_is_open : List PV → Option PV := mDef 1 1 false fb_is_open
noncomputable def fb_read_ending : MR.Env → Option Out := (sSeq (sIf (tO (tV (b2 notInQ (bV 0) (bC c_LOWS))) (tO (tV (b2 notInQ (bV 1) (bC c_HIGHS))) (tV (b2 ltV2 (b1 intV2 (bV 1)) (b1 intV2 (bV 0)))))) (sRet (bC .non)) sNx) (sRet (bTup (bCons (bC (.str ")")) (bCons (b1 intV2 (bV 0)) (bCons (b1 intV2 (bV 1)) bNil))))))
noncomputable def mi_read_ending : List PV → Option PV := mDef 2 2 false fb_read_ending
noncomputable def ce_is_row_number_1 : MR.Env → Option PV := (b1 strV (bV 0))
noncomputable def fb_is_row_number : MR.Env → Option Out := (sRet (b2 inQ (bV 0) (bComp [none] (iR2 (bC (.int 1)) (b2 addV (bC (.int 12)) (bC (.int 1)))) (gN 0) tTrue ce_is_row_number_1)))
noncomputable def mi_is_row_number : List PV → Option PV := mDef 1 1 false fb_is_row_number
noncomputable def ce_is_name_1 : MR.Env → Option PV := (b2 inQ (bV 0) (bC (.str "abcdefghijklmnopqrstuvwxyz")))
noncomputable def fb_is_name : MR.Env → Option Out := (sRet (bAnd (bChain (fun i j => decide (i ≤ j)) (fun i j => decide (i ≤ j)) (bC (.int 1)) (b1 lenV (bV 0)) (bC (.int 8))) (b1 allV (bComp [none] (iV (bV 0)) (gN 0) tTrue ce_is_name_1))))
noncomputable def mi_is_name : List PV → Option PV := mDef 1 1 false fb_is_name
noncomputable def fb_is_letter : MR.Env → Option Out := (sRet (bAnd (b2 eqQ (b1 lenV (bV 0)) (bC (.int 1))) (b2 inQ (bV 0) (bC (.str "abcdefghijklmnopqrstuvwxyz")))))
noncomputable def mi_is_letter : List PV → Option PV := mDef 1 1 false fb_is_letter
noncomputable def fb_is_bond : MR.Env → Option Out := (sRet (bOr (b2 eqQ (bV 0) (bC (.str "-"))) (bOr (bCall mi_is_letter (bCons (bV 0) bNil)) (bAnd (b2 eqQ (b1 lenV (bV 0)) (bC (.int 1))) (b2 inQ (bV 0) (b1 upperV (bC (.str "abcdefghijklmnopqrstuvwxyz"))))))))
noncomputable def mi_is_bond : List PV → Option PV := mDef 1 1 false fb_is_bond
noncomputable def fb_read_part : MR.Env → Option Out := (sSeq (sSet 1 (b2 splitV (bV 0) (bC (.str " ")))) (sSeq (sIf (tV (b2 eqQ (bV 1) (bLst (bCons (bC (.str "(")) bNil)))) (sRet (bC c_OPENING)) sNx) (sSeq (sIf (tA (tV (b2 eqQ (b1 lenV (bV 1)) (bC (.int 3)))) (tV (b2 eqQ (b2 ixP (bV 1) (bC (.int 0))) (bC (.str ")"))))) (sRet (bCall mi_read_ending (bCons (b2 ixP (bV 1) (bC (.int 1))) (bCons (b2 ixP (bV 1) (bC (.int 2))) bNil)))) sNx) (sSeq (sIf (tV (b2 neQ (b1 lenV (bV 1)) (bC (.int 2)))) (sRet (bC .non)) sNx) (sSeq (sIf (tA (tV (b2 eqQ (b2 ixP (bV 1) (bC (.int 0))) (bC (.str "as")))) (tV (bCall mi_is_row_number (bCons (b2 ixP (bV 1) (bC (.int 1))) bNil)))) (sRet (bTup (bCons (bC (.str "as")) (bCons (b1 intV2 (b2 ixP (bV 1) (bC (.int 1)))) bNil)))) sNx) (sSeq (sIf (tA (tV (bCall mi_is_name (bCons (b2 ixP (bV 1) (bC (.int 0))) bNil))) (tV (bCall mi_is_bond (bCons (b2 ixP (bV 1) (bC (.int 1))) bNil)))) (sRet (bTup (bCons (bC (.str "row")) (bCons (b2 ixP (bV 1) (bC (.int 0))) (bCons (bIf (tV (b2 eqQ (b2 ixP (bV 1) (bC (.int 1))) (bC (.str "-")))) (bC .non) (b2 ixP (bV 1) (bC (.int 1)))) bNil))))) sNx) (sRet (bC .non))))))))
noncomputable def mi_read_part : List PV → Option PV := mDef 2 1 false fb_read_part
noncomputable def lb_cut_form_1 : MR.Env → Option Out := (nIf 1 (tO (tV (b2 eqQ (b2 ixP (bV 4) (bC (.int 0))) (bC (.str "(")))) (tV (b2 eqQ (b2 ixP (bV 4) (bC (.int 0))) (bC (.str ")"))))) (hid 1 (sSet 2 (b2 addV (bV 2) (bC (.int 1))))) (sSeq (hid 1 (sSet 3 (b2 addV (bV 3) (bC (.int 1))))) (nApp 1 (bV 2) (bTup (bCons (bV 3) (bCons (bV 4) bNil))))))
noncomputable def fb_cut_form : MR.Env → Option Out := (sSeq (onx (nInit 1 3)) (sSeq (onx (hid 1 (sSet 2 (bC (.int 0))))) (sSeq (onx (hid 1 (sSet 3 (bC (.int 0))))) (sSeq (onx (nFor 1 (gN 4) (iV (bV 0)) [4] lb_cut_form_1)) (sRet (bV 1))))))
noncomputable def mi_cut_form : List PV → Option PV := mDef 5 1 false fb_cut_form
noncomputable def ce_names_row_1 : MR.Env → Option PV := (bAnd (b2 eqQ (bV 0) (bV 2)) (b2 eqQ (b2 ixP (bV 1) (bC (.int 0))) (bC (.str "row"))))
noncomputable def fb_names_row : MR.Env → Option Out := (sSeq (sSet 2 (bCall mi_cut_form (bCons (bV 0) bNil))) (sSeq (sSet 3 (bCall mi_ending_of (bCons (bV 0) bNil))) (sSeq (sSet 4 (bIf (tA (tV (b2 isNotN (bV 3) (bC .non))) (tV (b2 eqQ (b2 ixP (bV 3) (bC (.int 1))) (bC (.int 0))))) (bLst bNil) (b2 ixP (bV 2) (bC (.int 1))))) (sRet (b1 anyV (bComp [none, none, some 1] (iV (b2 catV (b2 addV (b2 ixP (bV 2) (bC (.int 0))) (bV 4)) (b2 ixP (bV 2) (bC (.int 2))))) (gT [0, 1]) tTrue ce_names_row_1))))))
noncomputable def mi_names_row : List PV → Option PV := mDef 5 2 false fb_names_row
noncomputable def ce_goes_on_1 : MR.Env → Option PV := (b1 lenV (bV 0))
noncomputable def fb_goes_on : MR.Env → Option Out := (sSeq (sIf (tV (b2 eqQ (bV 1) (bC c_OPENING))) (sRet (b2 notInQ (bC c_OPENING) (bV 0))) sNx) (sSeq (sIf (tV (b2 eqQ (b2 ixP (bV 1) (bC (.int 0))) (bC (.str ")")))) (sRet (bAnd (bCall mi_is_open (bCons (bV 0) bNil)) (b2 neQ (b2 ixP (bV 0) (b1 negV (bC (.int 1)))) (bC c_OPENING)))) sNx) (sSeq (sIf (tV (b2 eqQ (b1 sumV (bComp [none] (iV (bCall mi_cut_form (bCons (bV 0) bNil))) (gN 0) tTrue ce_goes_on_1)) (bC (.int 12)))) (sRet (bC (.bl false))) sNx) (sRet (bOr (b2 eqQ (b2 ixP (bV 1) (bC (.int 0))) (bC (.str "row"))) (bCall mi_names_row (bCons (bV 0) (bCons (b2 ixP (bV 1) (bC (.int 1))) bNil))))))))
noncomputable def mi_goes_on : List PV → Option PV := mDef 2 2 false fb_goes_on
noncomputable def lb_read_form_1 : MR.Env → Option Out := (sSeq (sSet 5 (bCall mi_read_part (bCons (bV 4) bNil))) (sSeq (sIf (tO (tV (b2 isN (bV 5) (bC .non))) (tN (tV (bCallB mi_goes_on (bCons (bL (bV 2)) (bCons (bV 5) bNil)))))) sNo sNx) (sMut1 appV 2 (bV 5))))
noncomputable def fb_read_form : MR.Env → Option Out := (sSeq (sSet 1 (b2 splitV (bV 0) (bC (.str "; ")))) (sSeq (sSet 2 (bLst bNil)) (sSeq (sFor (gT [3, 4]) (iE2 (bV 1)) [3, 4, 5] lb_read_form_1) (sSeq (sIf (tV (bCallB mi_is_open (bCons (bL (bV 2)) bNil))) sNo sNx) (sRet (b1 tupleV (bV 2)))))))
noncomputable def mi_read_form : List PV → Option PV := mDef 6 1 false fb_read_form
noncomputable def ce_law_1 : MR.Env → Option PV := (b2 addV (b2 ixP (bV 1) (bC (.int 1))) (bV 0))
noncomputable def lb_law_2 : MR.Env → Option Out := (sIf (tV (b2 eqQ (b2 ixP (bV 5) (bC (.int 0))) (bC (.str ")")))) (sSet 4 (bComp [none, some 5] (iR1 (b2 addV (b2 subV (b2 ixP (bV 5) (bC (.int 2))) (b2 ixP (bV 5) (bC (.int 1)))) (bC (.int 1)))) (gN 0) tTrue ce_law_1)) sNx)
noncomputable def ce_law_3 : MR.Env → Option PV := (bV 0)
noncomputable def cc_law_4 : MR.Env → Option Bool := (tV (b1 (isiV2 tb_bool) (bV 0)))
noncomputable def fb_law : MR.Env → Option Out := (sSeq (sSet 1 (bCall mi__law_form (bCons (bSl (bV 0) oN (oS (bC (.int 12)))) bNil))) (sSeq (sSet 2 (bCall mi__law_text (bCons (bV 1) bNil))) (sSeq (sIf (tN (tV (bCall mi__law_alike (bCons (bCall mi_read_form (bCons (bV 2) bNil)) (bCons (bV 1) bNil))))) (sRet (bC (.bl false))) sNx) (sSeq (sSet 3 (bCall mi_written_form (bCons (bV 1) bNil))) (sSeq (sIf (tO (tN (tV (b1 (isiV2 tb_str) (bV 3)))) (tV (b2 neQ (bV 3) (bV 2)))) (sRet (bC (.bl false))) sNx) (sSeq (sSet 4 (bLst (bCons (bC (.int 1)) bNil))) (sSeq (sFor (gN 5) (iV (bV 1)) [5] lb_law_2) (sSeq (sSet 6 (bCall mi_times_of (bCons (bV 1) bNil))) (sSeq (sIf (tO (tN (tV (b1 (isiV2 tb_list) (bV 6)))) (tO (tV (b2 neQ (bV 6) (bV 4))) (tV (b2 neQ (bComp [none] (iV (bV 6)) (gN 0) cc_law_4 ce_law_3) (bLst bNil))))) (sRet (bC (.bl false))) sNx) (sSeq (sMut1 appV 6 (bC (.int 9))) (sRet (bAnd (b2 eqQ (bCall mi_times_of (bCons (bV 1) bNil)) (bV 4)) (b2 eqQ (bCall mi_read_form (bCons (bCall mi_written_form (bCons (bV 1) bNil)) bNil)) (bV 1))))))))))))))
noncomputable def mi_law : List PV → Option PV := mDef 7 1 false fb_law
end My
/-! ## the drawn form: parts -/
namespace My
open PySem L2 MR
theorem loopS_ex {α S : Type} {g : PV → MR.Env → Option MR.Env} {ds : List Nat} {body : MR.Env → Option Out} (c : α → PV) (E : S → MR.Env) (I : List α → S → Prop) (hh : ∀ y ys s, I (y :: ys) s → ∃ s', I ys s' ∧ turn g ds body (c y) (E s) = some (E s')) : ∀ (ys : List α) (s : S), I ys s →
    ∃ s', I [] s' ∧ loopS g ds body (ys.map c) (E s) = some (.nx (E s'))
  | [], s, i => ⟨s, i, rfl⟩
  | y :: ys, s, i => by
    obtain ⟨s1, i1, h1⟩ := hh y ys s i
    obtain ⟨s2, i2, h2⟩ := loopS_ex c E I hh ys s1 i1
    exact ⟨s2, i2, by rw [List.map_cons, loopS_turn h1, h2]⟩
theorem inP_strs (x : Str) (cs : List Str) : inP (.str x) (.lst (cs.map .str)) = some (decide (x ∈ cs)) := by
  have h1 : (cs.map PV.str).all flatP = true := by rw [List.all_map, List.all_eq_true]; exact fun _ _ => rfl
  have h2 : ((cs.map PV.str).any fun y => eqF y (.str x)) = decide (x ∈ cs) := by
    rw [List.any_map]
    induction cs with
    | nil => simp
    | cons c r ih =>
      rw [List.any_cons, ih (by rw [List.all_map, List.all_eq_true]; exact fun _ _ => rfl)]
      by_cases e : x = c
      · subst e; simp [eqF]
      · have e' : ¬ c = x := fun z => e z.symm
        simp [eqF, e, e']
  simp [inP, flatP, h1, h2]
inductive Pt where
  | op | cl (lo hi : Nat) | as (r : Nat) | rw (nm : Str) (bd : Option Str)
def hdS : Pt → Str
  | .op => "("
  | .cl _ _ => ")"
  | .as _ => "as"
  | .rw _ _ => "row"
def bdP : Option Str → PV
  | none => .non
  | some b => .str b
def ptP : Pt → PV
  | .op => .tup [.str "("]
  | .cl lo hi => .tup [.str ")", .int (lo : Nat), .int (hi : Nat)]
  | .as r => .tup [.str "as", .int (r : Nat)]
  | .rw nm bd => .tup [.str "row", .str nm, bdP bd]
def isIt : Pt → Bool
  | .as _ => true
  | .rw _ _ => true
  | _ => false
def six : List Str := ["a", "b", "c", "A", "B", "z"]
def eightN : List Str := ["a", "as", "x", "iamb", "long", "b", "measured", "u"]
theorem eightN_ok : ∀ x ∈ eightN, PyData.strOk x = true := by
  intro x hx
  simp only [eightN, List.mem_cons, List.not_mem_nil, or_false] at hx
  rcases hx with e | e | e | e | e | e | e | e <;> subst e <;> decide +kernel
structure PtOk (p : Pt) : Prop where
  nm : ∀ n b, p = .rw n b → n ∈ eightN ∧ ∀ x, b = some x → x ∈ six
theorem six_ok : ∀ x ∈ six, PyData.strOk x = true := by
  intro x hx
  simp only [six, List.mem_cons, List.not_mem_nil, or_false] at hx
  rcases hx with e | e | e | e | e | e <;> subst e <;> decide +kernel
theorem hd_at (p : Pt) : ∃ r, ptP p = .tup (.str (hdS p) :: r) := by
  cases p with
  | op => exact ⟨_, rfl⟩
  | cl lo hi => exact ⟨_, rfl⟩
  | as r => exact ⟨_, rfl⟩
  | rw n b => exact ⟨_, rfl⟩
theorem e1 : ¬ (("(" : Str) = ")") := by decide
theorem e2 : ¬ (("as" : Str) = "(") := by decide
theorem e3 : ¬ (("as" : Str) = ")") := by decide
theorem e4 : ¬ (("row" : Str) = "(") := by decide
theorem e5 : ¬ (("row" : Str) = ")") := by decide
theorem e6 : ¬ (("as" : Str) = "row") := by decide
theorem e7 : ¬ ((")" : Str) = "(") := by decide
theorem ptP_ok {p : Pt} (h : PtOk p) : okP 1 (ptP p) := by
  have k1 : PyData.strOk ("(" : Str) = true := by decide +kernel
  have k2 : PyData.strOk (")" : Str) = true := by decide +kernel
  have k3 : PyData.strOk ("as" : Str) = true := by decide +kernel
  have k4 : PyData.strOk ("row" : Str) = true := by decide +kernel
  cases p with
  | op => simp [ptP, okP, k1]
  | cl lo hi => simp [ptP, okP, k2]
  | as r => simp [ptP, okP, k3]
  | rw n b =>
    obtain ⟨h1, h2⟩ := h.nm n b rfl
    have h1 := eightN_ok n h1
    cases b with
    | none => simp [ptP, okP, k4, h1, bdP]
    | some x => simp [ptP, okP, k4, h1, bdP, six_ok x (h2 x rfl)]
/-! ### names and bonds -/
theorem mi_name (n : Int) : ∃ x, x ∈ eightN ∧ mi__law_name [.int n] = some (.str x) := by
  obtain ⟨k, hk, e⟩ : ∃ k : Nat, k < 8 ∧ n % 8 = k := ⟨(n % 8).toNat, by omega, by omega⟩
  have hl : k < eightN.length := hk
  have hat : atI [PV.str "a", .str "as", .str "x", .str "iamb", .str "long", .str "b", .str "measured", .str "u"] (n % 8) = some (.str eightN[k]) := by
    have : atI (eightN.map PV.str) (k : Int) = some (.str eightN[k]) := atI_at (by simp [hl])
    rw [e]; exact this
  refine ⟨eightN[k], List.getElem_mem _, ?_⟩
  generalize eightN[k] = x at *
  simp [mi__law_name, fb__law_name, hat]
def eightB : List (Option Str) := [none, some "a", some "b", some "c", some "A", some "B", some "a", some "z"]
theorem mi_bond (n : Int) : ∃ b : Option Str, (∀ x, b = some x → x ∈ six) ∧ mi__law_bond [.int n] = some (bdP b) := by
  obtain ⟨k, hk, e⟩ : ∃ k : Nat, k < 8 ∧ n % 8 = k := ⟨(n % 8).toNat, by omega, by omega⟩
  have hl : k < eightB.length := hk
  have hat : atI [PV.non, .str "a", .str "b", .str "c", .str "A", .str "B", .str "a", .str "z"] (n % 8) = some (bdP eightB[k]) := by
    have : atI (eightB.map bdP) (k : Int) = some (bdP eightB[k]) := atI_at (by simp [hl])
    rw [e]; exact this
  refine ⟨eightB[k], ?_, ?_⟩
  · intro x hx
    have hm : some x ∈ eightB := by rw [← hx]; exact List.getElem_mem _
    simp only [eightB, List.mem_cons, List.not_mem_nil, or_false, Option.some.injEq, reduceCtorEq, false_or] at hm
    simp only [six, List.mem_cons, List.not_mem_nil, or_false]
    rcases hm with h | h | h | h | h | h | h <;> simp [h]
  · generalize bdP eightB[k] = x at *
    simp [mi__law_bond, fb__law_bond, hat]
/-! ### rows by their numbers -/
def rootsF : List Pt → Nat → Bool → List (Nat × Bool)
  | [], _, _ => []
  | .op :: l, n, _ => rootsF l n true
  | .cl _ _ :: l, n, _ => rootsF l n false
  | .as _ :: l, n, b => rootsF l (n + 1) b
  | .rw _ _ :: l, n, b => (n + 1, b) :: rootsF l (n + 1) b
def rtP (z : Nat × Bool) : PV := .tup [.int (z.1 : Nat), .bl z.2]
theorem inT2 (x : Str) : inP (.str x) (.tup [.str "(", .str ")"]) = some (decide (x = ("(" : Str)) || decide (x = (")" : Str))) := by
  have h : inP (.str x) (.tup [.str "(", .str ")"]) = some ([PV.str "(", .str ")"].any fun y => eqF y (.str x)) := by
    show (if flatP (.str x) = true ∧ [PV.str "(", .str ")"].all flatP = true then some ([PV.str "(", .str ")"].any fun y => eqF y (.str x)) else inD (.str x) [PV.str "(", .str ")"]) = _
    rw [if_pos ⟨rfl, rfl⟩]
  rw [h]
  simp only [List.any_cons, List.any_nil, Bool.or_false]
  congr 1
  have a1 : eqF (.str ("(" : Str)) (.str x) = decide (x = ("(" : Str)) := by
    by_cases q : x = ("(" : Str)
    · simp [eqF, q]
    · have q' : ¬ ("(" : Str) = x := fun z => q z.symm
      simp [eqF, q, q']
  have a2 : eqF (.str (")" : Str)) (.str x) = decide (x = (")" : Str)) := by
    by_cases q : x = (")" : Str)
    · simp [eqF, q]
    · have q' : ¬ (")" : Str) = x := fun z => q z.symm
      simp [eqF, q, q']
  rw [a1, a2]
theorem rt_loop {GP : PV} : ∀ (l : List Pt) (R : List (Nat × Bool)) (n : Nat) (b : Bool), R.length + l.length < 1000 →
    ∃ x2 x3, loopS (gN 4) [4] lb__law_roots_1 (l.map ptP) [some GP, some (.lst (R.map rtP)), some (.int (n : Nat)), some (.bl b), none] = some (.nx [some GP, some (.lst ((R ++ rootsF l n b).map rtP)), x2, x3, none])
  | [], R, n, b, _ => ⟨_, _, by simp [rootsF, loopS]; exact ⟨rfl, rfl⟩⟩
  | p :: l, R, n, b, h => by
    have q1 := e1; have q2 := e2; have q3 := e3; have q4 := e4; have q5 := e5; have q6 := e6; have q7 := e7
    have hR : R.length < 1000000 := by omega
    simp only [List.length_cons] at h
    cases p with
    | op =>
      obtain ⟨x2, x3, ih⟩ := rt_loop (GP := GP) l R n true (by omega)
      have ht : turn (gN 4) [4] lb__law_roots_1 (ptP .op) [some GP, some (.lst (R.map rtP)), some (.int (n : Nat)), some (.bl b), none] = some [some GP, some (.lst (R.map rtP)), some (.int (n : Nat)), some (.bl true), none] := by
        simp [turn_ap, lb__law_roots_1, ptP, inT2]
      exact ⟨x2, x3, by rw [List.map_cons, loopS_turn ht]; exact ih⟩
    | cl lo hi =>
      obtain ⟨x2, x3, ih⟩ := rt_loop (GP := GP) l R n false (by omega)
      have ht : turn (gN 4) [4] lb__law_roots_1 (ptP (.cl lo hi)) [some GP, some (.lst (R.map rtP)), some (.int (n : Nat)), some (.bl b), none] = some [some GP, some (.lst (R.map rtP)), some (.int (n : Nat)), some (.bl false), none] := by
        simp [turn_ap, lb__law_roots_1, ptP, inT2, q7]
      exact ⟨x2, x3, by rw [List.map_cons, loopS_turn ht]; exact ih⟩
    | as r =>
      obtain ⟨x2, x3, ih⟩ := rt_loop (GP := GP) l R (n + 1) b (by omega)
      have ht : turn (gN 4) [4] lb__law_roots_1 (ptP (.as r)) [some GP, some (.lst (R.map rtP)), some (.int (n : Nat)), some (.bl b), none] = some [some GP, some (.lst (R.map rtP)), some (.int ((n + 1 : Nat) : Int)), some (.bl b), none] := by
        simp [turn_ap, lb__law_roots_1, ptP, inT2, q2, q3, q6]
      exact ⟨x2, x3, by rw [List.map_cons, loopS_turn ht]; exact ih⟩
    | rw nm bd =>
      obtain ⟨x2, x3, ih⟩ := rt_loop (GP := GP) l (R ++ [(n + 1, b)]) (n + 1) b (by simp; omega)
      have ht : turn (gN 4) [4] lb__law_roots_1 (ptP (.rw nm bd)) [some GP, some (.lst (R.map rtP)), some (.int (n : Nat)), some (.bl b), none] = some [some GP, some (.lst ((R ++ [(n + 1, b)]).map rtP)), some (.int ((n + 1 : Nat) : Int)), some (.bl b), none] := by
        simp [turn_ap, lb__law_roots_1, ptP, inT2, q4, q5, hR, rtP]
      refine ⟨x2, x3, by rw [List.map_cons, loopS_turn ht, ih]; simp [rootsF]⟩
def pP (l : List Pt) : PV := .lst (l.map ptP)
theorem mi_roots {l : List Pt} (h : l.length < 900) : mi__law_roots [pP l] = some (.lst ((rootsF l 0 false).map rtP)) := by
  obtain ⟨x2, x3, lp⟩ := rt_loop (GP := pP l) l [] 0 false (by simpa using by omega)
  have hp : pP l = .lst (l.map ptP) := rfl
  simp only [List.map_nil, List.nil_append] at lp
  have hb : fb__law_roots [some (pP l), none, none, none, none] = some (.rt (.lst ((rootsF l 0 false).map rtP))) := by
    unfold fb__law_roots
    generalize lb__law_roots_1 = B at *
    rw [hp] at lp ⊢
    have lp' : loopS (gN 4) [4] B (l.map ptP) [some (.lst (l.map ptP)), some (.lst []), some (.int 0), some (.bl false), none] = _ := lp
    simp [itV, lp']
  simp [mi__law_roots, hb]
end My
namespace My
open PySem L2 MR
def heads (l : List Pt) : List Str := l.map hdS
theorem heads_ok (p : Pt) : PyData.strOk (hdS p) = true := by
  have k1 : PyData.strOk ("(" : Str) = true := by decide +kernel
  have k2 : PyData.strOk (")" : Str) = true := by decide +kernel
  have k3 : PyData.strOk ("as" : Str) = true := by decide +kernel
  have k4 : PyData.strOk ("row" : Str) = true := by decide +kernel
  cases p with
  | op => exact k1
  | cl lo hi => exact k2
  | as r => exact k3
  | rw n b => exact k4
theorem hdsP_ok (l : List Pt) : okP 1 (.lst ((heads l).map .str)) := by
  simp only [okP, List.mem_map, heads]
  rintro x ⟨y, ⟨p, _, rfl⟩, rfl⟩
  simp [okP, heads_ok p]
theorem ix0 (p : Pt) : ixP (ptP p) (.int 0) = some (.str (hdS p)) := by
  obtain ⟨r, h⟩ := hd_at p
  rw [h]
  simp
theorem comp_heads {ce : MR.Env → Option PV} (hce : ce = b2 ixP (bV 0) (bC (.int 0))) (l : List Pt) : compL [none] (gN 0) tTrue ce (l.map ptP) = some ((heads l).map .str) := by
  subst hce
  rw [heads, List.map_map]
  exact compL_map _ _ l fun p _ => ⟨_, rfl, by obtain ⟨r, h⟩ := hd_at p; simp [h]⟩
def low0 : Pt → Bool
  | .cl 0 _ => true
  | _ => false
def lowB (l : List Pt) : Bool := l.any low0
theorem mi_low {l : List Pt} (hl : l.length < 900) (ok : ∀ p ∈ l, PtOk p) : mi__law_is_low [pP l] = some (.bl (lowB l)) := by
  have q2 := e3
  have q5 := e5
  have q1 := e1
  have hc := compL_filter (env := [none]) (g := gN 0) (t := cc__law_is_low_2) (f := ce__law_is_low_1) ptP ptP low0 l fun p _ => ⟨[some (ptP p)], rfl, by
    cases p with
    | op => simp [cc__law_is_low_2, ptP, low0, q1]
    | cl lo hi =>
      cases lo with
      | zero => simp [cc__law_is_low_2, ptP, low0]
      | succ k =>
        have : ¬ ((k + 1 : Nat) : Int) = 0 := by omega
        have h2 : ¬ ((k : Int) + 1 = 0) := by omega
        simp [cc__law_is_low_2, ptP, low0, h2]
    | as r => simp [cc__law_is_low_2, ptP, low0, q2]
    | rw n b => simp [cc__law_is_low_2, ptP, low0, q5], fun _ => by simp [ce__law_is_low_1]⟩
  have hle : l.length ≤ 1000000 := by omega
  have hp : pP l = .lst (l.map ptP) := rfl
  cases hf : l.filter low0 with
  | nil =>
    have hb : lowB l = false := by
      unfold lowB
      cases h : l.any low0 with
      | false => rfl
      | true =>
        obtain ⟨p, h1, h2⟩ := List.any_eq_true.mp h
        have : p ∈ l.filter low0 := List.mem_filter.mpr ⟨h1, h2⟩
        rw [hf] at this; cases this
    rw [hf] at hc
    rw [hb, hp]
    simp [mi__law_is_low, fb__law_is_low, itV, hle, hc]
  | cons p ps =>
    have hb : lowB l = true := by
      have : p ∈ l.filter low0 := by rw [hf]; exact List.mem_cons_self
      have h2 := List.mem_filter.mp this
      exact List.any_eq_true.mpr ⟨p, h2.1, h2.2⟩
    rw [hf] at hc
    rw [hb, hp]
    have he : eqP (.lst (ptP p :: ps.map ptP)) (.lst []) = some false := eqP_lst_nil (n := 1) (by
      simp only [okP, List.mem_cons, List.mem_map]
      have hm : ∀ q ∈ p :: ps, PtOk q := fun q hq => ok q (by
        have : q ∈ l.filter low0 := by rw [hf]; exact hq
        exact (List.mem_filter.mp this).1)
      rintro x (rfl | ⟨q, hq, rfl⟩)
      · exact ptP_ok (hm p List.mem_cons_self)
      · exact ptP_ok (hm q (List.mem_cons_of_mem _ hq))) (by decide)
    rw [List.map_cons] at hc
    simp [mi__law_is_low, fb__law_is_low, itV, hle, hc, he]
def rts (l : List Pt) (inner : Bool) : List (Nat × Bool) := if (!inner && lowB l) = true then (rootsF l 0 false).filter fun z => !z.2 else rootsF l 0 false
def innB (l : List Pt) : Bool := decide (("(" : Str) ∈ heads l) && !decide ((")" : Str) ∈ heads l)
theorem roots_len : ∀ (l : List Pt) (n : Nat) (b : Bool), (rootsF l n b).length ≤ l.length
  | [], _, _ => Nat.le_refl _
  | .op :: l, n, _ => by have := roots_len l n true; simp [rootsF]; omega
  | .cl _ _ :: l, n, _ => by have := roots_len l n false; simp [rootsF]; omega
  | .as _ :: l, n, b => by have := roots_len l (n + 1) b; simp [rootsF]; omega
  | .rw _ _ :: l, n, b => by have := roots_len l (n + 1) b; simp [rootsF]; omega
theorem rtP_ok (R : List (Nat × Bool)) : okP 2 (.lst (R.map rtP)) := by
  simp only [okP, List.mem_map]
  rintro x ⟨z, _, rfl⟩
  simp [rtP, okP]
theorem in56 (i : Int) : inP (.int i) (.tup [.int 5, .int 6]) = some (decide (i = 5 ∨ i = 6)) := by
  have h : inP (.int i) (.tup [.int 5, .int 6]) = some ([PV.int 5, .int 6].any fun y => eqF y (.int i)) := by
    show (if flatP (.int i) = true ∧ [PV.int 5, .int 6].all flatP = true then some ([PV.int 5, .int 6].any fun y => eqF y (.int i)) else inD (.int i) [PV.int 5, .int 6]) = _
    rw [if_pos ⟨rfl, rfl⟩]
  rw [h]
  congr 1
  have a1 : ∀ k : Int, eqF (.int k) (.int i) = decide (i = k) := fun k => by
    by_cases q : i = k
    · simp [eqF, q]
    · have q' : ¬ k = i := fun z => q z.symm
      simp [eqF, q, q']
  simp only [List.any_cons, List.any_nil, Bool.or_false, a1]
  rw [Bool.decide_or]
def nxE (l : List Pt) (c : Int) (x4 x5 x6 : Option PV) : MR.Env := [some (pP l), some (.int c), some (.lst ((heads l).map .str)), some (.int (c / 9)), x4, x5, x6]
/-- what the next part is -/
inductive Nx (l : List Pt) : Pt → Prop
  | op : ¬ ("(" : Str) ∈ heads l → Nx l .op
  | cl {lo hi : Nat} : innB l = true → (∀ h, (heads l).getLast? = some h → h ≠ "(") → lo ≤ hi → 1 ≤ hi → hi ≤ 4 → Nx l (.cl lo hi)
  | as {r : Nat} {b : Bool} : (r, b) ∈ rts l (innB l) → Nx l (.as r)
  | rw {n : Str} {b : Option Str} : n ∈ eightN → (∀ x, b = some x → x ∈ six) → Nx l (.rw n b)
theorem mi_next {l : List Pt} (c : Int) (hl : l.length < 900) (ok : ∀ p ∈ l, PtOk p) : ∃ q, Nx l q ∧ mi__law_next [pP l, .int c] = some (ptP q) := by
  have hle : l.length ≤ 1000000 := by omega
  have hp : pP l = .lst (l.map ptP) := rfl
  have hc1 := comp_heads (ce := ce__law_next_1) rfl l
  have hO := inP_strs "(" (heads l)
  have hC := inP_strs ")" (heads l)
  have hlow := mi_low hl ok
  have hrt := mi_roots hl
  have done : ∀ q, fb__law_next [some (pP l), some (.int c), none, none, none, none, none] = some (.rt (ptP q)) → mi__law_next [pP l, .int c] = some (ptP q) := fun q hb => by
    unfold mi__law_next
    generalize fb__law_next = B at *
    simp [hb]
  have s1 : sSet 2 (bComp [none] (iV (bV 0)) (gN 0) tTrue ce__law_next_1) [some (pP l), some (.int c), none, none, none, none, none] = some (.nx [some (pP l), some (.int c), some (.lst ((heads l).map .str)), none, none, none, none]) := by
    rw [hp]
    generalize ce__law_next_1 = ce at *
    simp [itV, hle, hc1]
  have s2 : sSet 3 (b2 divV (bV 1) (bC (.int 9))) [some (pP l), some (.int c), some (.lst ((heads l).map .str)), none, none, none, none] = some (.nx (nxE l c none none none)) := by
    unfold nxE
    simp
  have s3 : sSet 4 (bAnd (b2 inQ (bC (.str "(")) (bV 2)) (b2 notInQ (bC (.str ")")) (bV 2))) (nxE l c none none none) = some (.nx (nxE l c (some (.bl (innB l))) none none)) := by
    unfold nxE innB
    generalize pP l = PP at *
    generalize (heads l).map PV.str = HP at *
    by_cases h1 : ("(" : Str) ∈ heads l <;> simp [hO, hC, h1]
  have s4 : sSet 5 (b2 modV (bV 3) (bC (.int 4))) (nxE l c (some (.bl (innB l))) none none) = some (.nx (nxE l c (some (.bl (innB l))) (some (.int (c / 9 % 4))) none)) := by
    unfold nxE
    simp
  by_cases h7 : c % 9 = 7 ∧ ¬ ("(" : Str) ∈ heads l
  · refine ⟨.op, .op h7.2, done _ ?_⟩
    have s5 : sIf (tA (tV (b2 eqQ (b2 modV (bV 1) (bC (.int 9))) (bC (.int 7)))) (tV (b2 notInQ (bC (.str "(")) (bV 2)))) (sRet (bTup (bCons (bC (.str "(")) bNil))) sNx (nxE l c (some (.bl (innB l))) (some (.int (c / 9 % 4))) none) = some (.rt (ptP .op)) := by
      unfold nxE
      generalize pP l = PP at *
      generalize (heads l).map PV.str = HP at *
      simp [h7.1, h7.2, hO, ptP]
    unfold fb__law_next
    rw [sSeq_nx s1, sSeq_nx s2, sSeq_nx s3, sSeq_nx s4, sSeq_rt s5]
  · have s5 : sIf (tA (tV (b2 eqQ (b2 modV (bV 1) (bC (.int 9))) (bC (.int 7)))) (tV (b2 notInQ (bC (.str "(")) (bV 2)))) (sRet (bTup (bCons (bC (.str "(")) bNil))) sNx (nxE l c (some (.bl (innB l))) (some (.int (c / 9 % 4))) none) = some (.nx (nxE l c (some (.bl (innB l))) (some (.int (c / 9 % 4))) none)) := by
      unfold nxE
      generalize pP l = PP at *
      generalize (heads l).map PV.str = HP at *
      by_cases h1 : c % 9 = 7
      · have h2 : ("(" : Str) ∈ heads l := Classical.byContradiction fun z => h7 ⟨h1, z⟩
        simp [h1, h2, hO]
      · simp [h1]
    by_cases h8 : c % 9 = 8 ∧ innB l = true ∧ ∀ h, (heads l).getLast? = some h → h ≠ ("(" : Str)
    · obtain ⟨k1, k2, k3⟩ := h8
      have hne : heads l ≠ [] := fun z => by
        unfold innB at k2
        rw [z] at k2
        simp at k2
      obtain ⟨h, hh⟩ : ∃ h, (heads l).getLast? = some h := ⟨_, List.getLast?_eq_some_getLast hne⟩
      have hx := k3 h hh
      have hat : atI ((heads l).map PV.str) (-1) = some (.str h) := by
        rw [atI_map]
        have hl' : 0 < (heads l).length := List.length_pos_iff.mpr hne
        have : atI (heads l) (-1) = some h := by
          unfold atI ixN
          rw [if_neg (by decide), if_pos (by omega), Option.bind_some, ← hh, List.getLast?_eq_getElem?]
          congr 1
          omega
        rw [this]
        rfl
      obtain ⟨lo, hlo, elo⟩ : ∃ lo : Nat, lo < 4 ∧ c / 9 % 4 = lo := ⟨(c / 9 % 4).toNat, by omega, by omega⟩
      obtain ⟨mx, hmx3, hmx⟩ : ∃ mx : Nat, (1 ≤ mx ∧ mx ≤ 3 ∧ lo ≤ mx) ∧ maxV (.int 1) (.int (lo : Int)) = some (.int (mx : Nat)) := by
        rcases (show lo = 0 ∨ lo = 1 ∨ lo = 2 ∨ lo = 3 by omega) with rfl | rfl | rfl | rfl
        · exact ⟨1, by decide, rfl⟩
        · exact ⟨1, by decide, rfl⟩
        · exact ⟨2, by decide, rfl⟩
        · exact ⟨3, by decide, rfl⟩
      obtain ⟨hi, hhi1, hhi2⟩ : ∃ hi : Nat, (mx ≤ hi ∧ hi ≤ 4) ∧ (mx : Int) + c / 9 / 4 % (5 - (mx : Int)) = hi := by
        have q1 := Int.emod_nonneg (c / 9 / 4) (b := 5 - (mx : Int)) (by omega)
        have q2 := Int.emod_lt_of_pos (c / 9 / 4) (b := 5 - (mx : Int)) (by omega)
        exact ⟨((mx : Int) + c / 9 / 4 % (5 - (mx : Int))).toNat, by omega, by omega⟩
      refine ⟨.cl lo hi, .cl k2 k3 (by omega) (by omega) hhi1.2, done _ ?_⟩
      have hpos : 0 < 5 - (mx : Int) := by omega
      have s6 : sIf (tA (tV (b2 eqQ (b2 modV (bV 1) (bC (.int 9))) (bC (.int 8)))) (tA (tV (bV 4)) (tV (b2 neQ (b2 ixP (bV 2) (b1 negV (bC (.int 1)))) (bC (.str "(")))))) (sRet (bTup (bCons (bC (.str ")")) (bCons (bV 5) (bCons (b2 addV (b2 maxV (bC (.int 1)) (bV 5)) (b2 modV (b2 divV (bV 3) (bC (.int 4))) (b2 subV (bC (.int 5)) (b2 maxV (bC (.int 1)) (bV 5))))) bNil))))) sNx (nxE l c (some (.bl (innB l))) (some (.int (c / 9 % 4))) none) = some (.rt (ptP (.cl lo hi))) := by
        unfold nxE
        rw [k2, elo]
        generalize pP l = PP at *
        generalize (heads l).map PV.str = HP at *
        simp only [ptP]
        have hm5 : (mx : Int) < 5 := by omega
        simp [k1, hat, hx, hmx, hm5, hpos, hhi2, -maxV]
      unfold fb__law_next
      rw [sSeq_nx s1, sSeq_nx s2, sSeq_nx s3, sSeq_nx s4, sSeq_nx s5, sSeq_rt s6]
    · have s6 : sIf (tA (tV (b2 eqQ (b2 modV (bV 1) (bC (.int 9))) (bC (.int 8)))) (tA (tV (bV 4)) (tV (b2 neQ (b2 ixP (bV 2) (b1 negV (bC (.int 1)))) (bC (.str "(")))))) (sRet (bTup (bCons (bC (.str ")")) (bCons (bV 5) (bCons (b2 addV (b2 maxV (bC (.int 1)) (bV 5)) (b2 modV (b2 divV (bV 3) (bC (.int 4))) (b2 subV (bC (.int 5)) (b2 maxV (bC (.int 1)) (bV 5))))) bNil))))) sNx (nxE l c (some (.bl (innB l))) (some (.int (c / 9 % 4))) none) = some (.nx (nxE l c (some (.bl (innB l))) (some (.int (c / 9 % 4))) none)) := by
        unfold nxE
        by_cases k1 : c % 9 = 8
        · cases k2 : innB l with
          | false =>
            generalize pP l = PP at *
            generalize (heads l).map PV.str = HP at *
            simp [k1]
          | true =>
            have hne : heads l ≠ [] := fun z => by
              unfold innB at k2
              rw [z] at k2
              simp at k2
            obtain ⟨h, hh⟩ : ∃ h, (heads l).getLast? = some h := ⟨_, List.getLast?_eq_some_getLast hne⟩
            have hx : h = ("(" : Str) := Classical.byContradiction fun z => h8 ⟨k1, k2, fun h' hh' => by rw [hh] at hh'; cases hh'; exact z⟩
            have hat : atI ((heads l).map PV.str) (-1) = some (.str h) := by
              rw [atI_map]
              have hl' : 0 < (heads l).length := List.length_pos_iff.mpr hne
              have : atI (heads l) (-1) = some h := by
                unfold atI ixN
                rw [if_neg (by decide), if_pos (by omega), Option.bind_some, ← hh, List.getLast?_eq_getElem?]
                congr 1
                omega
              rw [this]
              rfl
            generalize pP l = PP at *
            generalize (heads l).map PV.str = HP at *
            simp [k1, hat, hx]
        · generalize pP l = PP at *
          generalize (heads l).map PV.str = HP at *
          simp [k1]
      have hrl := roots_len l 0 false
      have s7 : sSet 6 (bCall mi__law_roots (bCons (bV 0) bNil)) (nxE l c (some (.bl (innB l))) (some (.int (c / 9 % 4))) none) = some (.nx (nxE l c (some (.bl (innB l))) (some (.int (c / 9 % 4))) (some (.lst ((rootsF l 0 false).map rtP))))) := by
        unfold nxE
        generalize mi__law_roots = mr at *
        simp [hrt]
      have s8 : sIf (tA (tN (tV (bV 4))) (tV (bCall mi__law_is_low (bCons (bV 0) bNil)))) (sSet 6 (bComp [none] (iV (bV 6)) (gN 0) cc__law_next_3 ce__law_next_2)) sNx (nxE l c (some (.bl (innB l))) (some (.int (c / 9 % 4))) (some (.lst ((rootsF l 0 false).map rtP)))) = some (.nx (nxE l c (some (.bl (innB l))) (some (.int (c / 9 % 4))) (some (.lst ((rts l (innB l)).map rtP))))) := by
        have hc3 := compL_filter (env := [none]) (g := gN 0) (t := cc__law_next_3) (f := ce__law_next_2) rtP rtP (fun z => !z.2) (rootsF l 0 false) fun z _ => ⟨[some (rtP z)], rfl, by simp [cc__law_next_3, rtP], fun _ => by simp [ce__law_next_2]⟩
        have hle2 : (rootsF l 0 false).length ≤ 1000000 := by omega
        unfold nxE rts
        generalize pP l = PP at *
        generalize (heads l).map PV.str = HP at *
        generalize mi__law_is_low = mw at *
        generalize cc__law_next_3 = cc at *
        generalize ce__law_next_2 = ce at *
        cases hi : innB l <;> cases hw : lowB l <;> rw [hw] at hlow <;> simp [hlow, itV, hle2, hc3]
      have hrl2 : (rts l (innB l)).length ≤ l.length := by
        unfold rts
        split
        · exact Nat.le_trans (List.length_filter_le _ _) hrl
        · exact hrl
      have hin := in56 (c % 9)
      by_cases h5 : (c % 9 = 5 ∨ c % 9 = 6) ∧ rts l (innB l) ≠ []
      · obtain ⟨z, zs, hz⟩ := List.exists_cons_of_ne_nil h5.2
        have hpos : 0 < (rts l (innB l)).length := List.length_pos_iff.mpr h5.2
        obtain ⟨k, hk, ek⟩ : ∃ k : Nat, k < (rts l (innB l)).length ∧ c / 9 % ((rts l (innB l)).length : Int) = k := by
          have q1 := Int.emod_nonneg (c / 9) (b := ((rts l (innB l)).length : Int)) (by omega)
          have q2 := Int.emod_lt_of_pos (c / 9) (b := ((rts l (innB l)).length : Int)) (by omega)
          exact ⟨(c / 9 % ((rts l (innB l)).length : Int)).toNat, by omega, by omega⟩
        have hkm := List.getElem_mem hk
        have hat : atI ((rts l (innB l)).map rtP) (k : Int) = some (rtP (rts l (innB l))[k]) := atI_at (by simp [hk])
        generalize hzz : (rts l (innB l))[k] = z0 at *
        have hneq : eqP (.lst ((rts l (innB l)).map rtP)) (.lst []) = some false := by
          have := rtP_ok (rts l (innB l))
          rw [hz, List.map_cons] at this ⊢
          exact eqP_lst_nil (n := 1) this (by decide)
        refine ⟨.as z0.1, .as (b := z0.2) hkm, done _ ?_⟩
        have hlm : ((rts l (innB l)).map rtP).length = (rts l (innB l)).length := List.length_map ..
        have hpos' : (0 : Int) < ((rts l (innB l)).length : Int) := by omega
        rw [decide_eq_true h5.1] at hin
        have hat' : atI ((rts l (innB l)).map rtP) (k : Int) = some (.tup [.int (z0.1 : Nat), .bl z0.2]) := hat
        have s9 : sIf (tA (tV (b2 inQ (b2 modV (bV 1) (bC (.int 9))) (bTup (bCons (bC (.int 5)) (bCons (bC (.int 6)) bNil))))) (tV (b2 neQ (bV 6) (bLst bNil)))) (sRet (bTup (bCons (bC (.str "as")) (bCons (b2 ixP (b2 ixP (bV 6) (b2 modV (bV 3) (b1 lenV (bV 6)))) (bC (.int 0))) bNil)))) sNx (nxE l c (some (.bl (innB l))) (some (.int (c / 9 % 4))) (some (.lst ((rts l (innB l)).map rtP)))) = some (.rt (ptP (.as z0.1))) := by
          unfold nxE
          simp only [ptP]
          generalize pP l = PP at *
          generalize (heads l).map PV.str = HP at *
          generalize (rts l (innB l)).map rtP = RP at *
          simp [hin, hneq, hlm, hpos, hpos', ek, hat']
        unfold fb__law_next
        rw [sSeq_nx s1, sSeq_nx s2, sSeq_nx s3, sSeq_nx s4, sSeq_nx s5, sSeq_nx s6, sSeq_nx s7, sSeq_nx s8, sSeq_rt s9]
      · have s9 : sIf (tA (tV (b2 inQ (b2 modV (bV 1) (bC (.int 9))) (bTup (bCons (bC (.int 5)) (bCons (bC (.int 6)) bNil))))) (tV (b2 neQ (bV 6) (bLst bNil)))) (sRet (bTup (bCons (bC (.str "as")) (bCons (b2 ixP (b2 ixP (bV 6) (b2 modV (bV 3) (b1 lenV (bV 6)))) (bC (.int 0))) bNil)))) sNx (nxE l c (some (.bl (innB l))) (some (.int (c / 9 % 4))) (some (.lst ((rts l (innB l)).map rtP)))) = some (.nx (nxE l c (some (.bl (innB l))) (some (.int (c / 9 % 4))) (some (.lst ((rts l (innB l)).map rtP))))) := by
          unfold nxE
          by_cases k5 : c % 9 = 5 ∨ c % 9 = 6
          · have hr0 : rts l (innB l) = [] := Classical.byContradiction fun z => h5 ⟨k5, z⟩
            rw [decide_eq_true k5] at hin
            rw [hr0]
            generalize pP l = PP at *
            generalize (heads l).map PV.str = HP at *
            simp [hin]
          · rw [decide_eq_false k5] at hin
            generalize pP l = PP at *
            generalize (heads l).map PV.str = HP at *
            generalize (rts l (innB l)).map rtP = RP at *
            simp [hin]
        obtain ⟨nm, n1, n2⟩ := mi_name (c / 9)
        obtain ⟨bd, b1', b2'⟩ := mi_bond (c / 9 / 8)
        refine ⟨.rw nm bd, .rw n1 b1', done _ ?_⟩
        have s10 : sRet (bTup (bCons (bC (.str "row")) (bCons (bCall mi__law_name (bCons (bV 3) bNil)) (bCons (bCall mi__law_bond (bCons (b2 divV (bV 3) (bC (.int 8))) bNil)) bNil)))) (nxE l c (some (.bl (innB l))) (some (.int (c / 9 % 4))) (some (.lst ((rts l (innB l)).map rtP)))) = some (.rt (ptP (.rw nm bd))) := by
          unfold nxE
          simp only [ptP]
          generalize mi__law_name = m1 at *
          generalize mi__law_bond = m2 at *
          simp [n2, b2']
        unfold fb__law_next
        rw [sSeq_nx s1, sSeq_nx s2, sSeq_nx s3, sSeq_nx s4, sSeq_nx s5, sSeq_nx s6, sSeq_nx s7, sSeq_nx s8, sSeq_nx s9]
        exact s10
end My
/-! ## the drawn form: its shape -/
namespace My
open PySem L2 MR
/-- ahead of a stanza, in it, behind it -/
inductive Fm where
  | f0 (A : List Pt) | f1 (A B : List Pt) | f2 (A B : List Pt) (lo hi : Nat) (C : List Pt)
def parts : Fm → List Pt
  | .f0 A => A
  | .f1 A B => A ++ .op :: B
  | .f2 A B lo hi C => A ++ .op :: (B ++ .cl lo hi :: C)
def Its (l : List Pt) : Prop := ∀ p ∈ l, isIt p = true
/-- returns name an earlier row, and one that is there -/
def AsOk (N : List Pt) (a b lo : Nat) : Prop := ∀ (i r : Nat), N[i]? = some (.as r) → 1 ≤ r ∧ r ≤ i ∧ (∃ nm bd, N[r - 1]? = some (.rw nm bd)) ∧ (a + b ≤ i → lo = 0 → r ≤ a ∨ a + b < r)
def FOk : Fm → Prop
  | .f0 A => Its A ∧ AsOk A A.length 0 1
  | .f1 A B => Its A ∧ Its B ∧ AsOk (A ++ B) A.length B.length 1
  | .f2 A B lo hi C => Its A ∧ Its B ∧ Its C ∧ AsOk (A ++ B ++ C) A.length B.length lo ∧ lo ≤ hi ∧ 1 ≤ hi ∧ hi ≤ 4 ∧ B ≠ []
theorem roots_app : ∀ (l rest : List Pt) (n : Nat) (b : Bool), Its l → rootsF (l ++ rest) n b = rootsF l n b ++ rootsF rest (n + l.length) b
  | [], rest, n, b, _ => by simp [rootsF]
  | .op :: l, _, _, _, h => by have := h _ List.mem_cons_self; cases this
  | .cl _ _ :: l, _, _, _, h => by have := h _ List.mem_cons_self; cases this
  | .as r :: l, rest, n, b, h => by
    have ih := roots_app l rest (n + 1) b fun p hp => h p (List.mem_cons_of_mem _ hp)
    show rootsF (l ++ rest) (n + 1) b = rootsF l (n + 1) b ++ _
    rw [ih, List.length_cons, show n + 1 + l.length = n + (l.length + 1) by omega]
  | .rw nm bd :: l, rest, n, b, h => by
    have ih := roots_app l rest (n + 1) b fun p hp => h p (List.mem_cons_of_mem _ hp)
    show (n + 1, b) :: rootsF (l ++ rest) (n + 1) b = (n + 1, b) :: rootsF l (n + 1) b ++ _
    rw [ih, List.length_cons, show n + 1 + l.length = n + (l.length + 1) by omega]
    rfl
theorem roots_mem : ∀ {l : List Pt} {n : Nat} {b : Bool} {r : Nat} {c : Bool}, Its l → (r, c) ∈ rootsF l n b → c = b ∧ n < r ∧ r ≤ n + l.length ∧ ∃ nm bd, l[r - n - 1]? = some (.rw nm bd)
  | [], _, _, _, _, _, h => by simp [rootsF] at h
  | .op :: l, _, _, _, _, h, _ => by have := h _ List.mem_cons_self; cases this
  | .cl _ _ :: l, _, _, _, _, h, _ => by have := h _ List.mem_cons_self; cases this
  | .as q :: l, n, b, r, c, h, hm => by
    have hm' : (r, c) ∈ rootsF l (n + 1) b := hm
    obtain ⟨h1, h2, h3, nm, bd, h4⟩ := roots_mem (fun p hp => h p (List.mem_cons_of_mem _ hp)) hm'
    refine ⟨h1, by omega, by simp; omega, nm, bd, ?_⟩
    rw [show r - n - 1 = (r - (n + 1) - 1) + 1 by omega, List.getElem?_cons_succ]
    exact h4
  | .rw nm0 bd0 :: l, n, b, r, c, h, hm => by
    have hm' : (r, c) ∈ (n + 1, b) :: rootsF l (n + 1) b := hm
    rcases List.mem_cons.mp hm' with z | z
    · cases z
      refine ⟨rfl, by omega, by simp, nm0, bd0, ?_⟩
      rw [show n + 1 - n - 1 = 0 by omega]
      rfl
    · obtain ⟨h1, h2, h3, nm, bd, h4⟩ := roots_mem (fun p hp => h p (List.mem_cons_of_mem _ hp)) z
      refine ⟨h1, by omega, by simp; omega, nm, bd, ?_⟩
      rw [show r - n - 1 = (r - (n + 1) - 1) + 1 by omega, List.getElem?_cons_succ]
      exact h4
theorem hd_it {p : Pt} (h : isIt p = true) : hdS p ≠ ("(" : Str) ∧ hdS p ≠ (")" : Str) := by
  cases p with
  | op => cases h
  | cl lo hi => cases h
  | as r => exact ⟨e2, e3⟩
  | rw n b => exact ⟨e4, e5⟩
theorem heads_it {l : List Pt} (h : Its l) : ¬ ("(" : Str) ∈ heads l ∧ ¬ (")" : Str) ∈ heads l := by
  refine ⟨fun z => ?_, fun z => ?_⟩
  · obtain ⟨p, h1, h2⟩ := List.mem_map.mp z
    exact (hd_it (h p h1)).1 h2
  · obtain ⟨p, h1, h2⟩ := List.mem_map.mp z
    exact (hd_it (h p h1)).2 h2
theorem low_it {l : List Pt} (h : Its l) : lowB l = false := by
  cases q : lowB l with
  | false => rfl
  | true =>
    obtain ⟨p, h1, h2⟩ := List.any_eq_true.mp q
    have := h p h1
    cases p <;> simp [low0] at h2 <;> cases this
theorem Its_snoc {l : List Pt} {p : Pt} (h : Its l) (hp : isIt p = true) : Its (l ++ [p]) := fun q hq => by
  rcases List.mem_append.mp hq with z | z
  · exact h q z
  · rw [List.mem_singleton] at z; rw [z]; exact hp
theorem snoc_at {N : List Pt} {q x : Pt} {i : Nat} (h : (N ++ [q])[i]? = some x) : (i < N.length ∧ N[i]? = some x) ∨ (i = N.length ∧ x = q) := by
  rcases Nat.lt_trichotomy i N.length with z | z | z
  · rw [List.getElem?_append_left z] at h; exact .inl ⟨z, h⟩
  · subst z
    rw [List.getElem?_append_right (Nat.le_refl _)] at h
    simp at h
    exact .inr ⟨rfl, h.symm⟩
  · rw [List.getElem?_eq_none (by simp; omega)] at h; cases h
theorem AsOk.more {N : List Pt} {a b a' b' lo : Nat} {q : Pt} (h : AsOk N a b lo) (hab : a' + b' = N.length + 1 ∨ (a' = a ∧ b' = b)) (hq : ∀ r, q = .as r → 1 ≤ r ∧ r ≤ N.length ∧ (∃ nm bd, N[r - 1]? = some (.rw nm bd)) ∧ (a' + b' ≤ N.length → lo = 0 → r ≤ a' ∨ a' + b' < r)) : AsOk (N ++ [q]) a' b' lo := fun i r hi => by
  rcases snoc_at hi with ⟨z1, z2⟩ | ⟨z1, z2⟩
  · obtain ⟨h1, h2, ⟨nm, bd, h3⟩, h4⟩ := h i r z2
    refine ⟨h1, h2, ⟨nm, bd, by rw [List.getElem?_append_left (by omega)]; exact h3⟩, fun k1 k2 => ?_⟩
    rcases hab with y | ⟨y1, y2⟩
    · omega
    · subst y1 y2; exact h4 k1 k2
  · subst z1
    obtain ⟨h1, h2, ⟨nm, bd, h3⟩, h4⟩ := hq r z2.symm
    exact ⟨h1, h2, ⟨nm, bd, by rw [List.getElem?_append_left (by omega)]; exact h3⟩, h4⟩
/-- one part on -/
theorem fm_next {f : Fm} {q : Pt} (h : FOk f) (hq : Nx (parts f) q) : ∃ f', FOk f' ∧ parts f' = parts f ++ [q] := by
  have q7 := e7
  cases f with
  | f0 A =>
    obtain ⟨h1, h2⟩ := h
    have hh := heads_it h1
    have hin : innB A = false := by unfold innB; rw [decide_eq_false hh.1]; rfl
    have hlw := low_it h1
    cases hq with
    | op _ => exact ⟨.f1 A [], ⟨h1, (fun p hp => by cases hp), fun i r hi => by
        rw [List.append_nil] at hi ⊢
        obtain ⟨k1, k2, k3, k4⟩ := h2 i r hi
        exact ⟨k1, k2, k3, fun y1 y2 => by cases y2⟩⟩, rfl⟩
    | cl hi _ _ _ _ => rw [show parts (.f0 A) = A from rfl, hin] at hi; cases hi
    | @as r b hr =>
      have hr' : (r, b) ∈ rootsF A 0 false := by
        have : parts (.f0 A) = A := rfl
        rw [this] at hr
        unfold rts at hr
        rw [hlw, Bool.and_false, if_neg (by decide)] at hr
        exact hr
      obtain ⟨k1, k2, k3, nm, bd, k4⟩ := roots_mem h1 hr'
      refine ⟨.f0 (A ++ [.as r]), ⟨Its_snoc h1 rfl, ?_⟩, rfl⟩
      exact h2.more (.inl (by simp)) fun r' e => by
        cases e
        exact ⟨by omega, by omega, ⟨nm, bd, by simpa using k4⟩, fun y1 y2 => by cases y2⟩
    | @rw n0 b0 _ _ =>
      refine ⟨.f0 (A ++ [.rw n0 b0]), ⟨Its_snoc h1 rfl, ?_⟩, rfl⟩
      exact h2.more (.inl (by simp)) fun r' e => by cases e
  | f1 A B =>
    obtain ⟨h1, h2, h3⟩ := h
    have hp : parts (.f1 A B) = A ++ .op :: B := rfl
    have ho : ("(" : Str) ∈ heads (A ++ .op :: B) := by simp [heads, hdS]
    have hcn : ¬ (")" : Str) ∈ heads (A ++ .op :: B) := by
      have a1 := (heads_it h1).2
      have a2 := (heads_it h2).2
      unfold heads at *
      simp only [List.map_append, List.map_cons, List.mem_append, List.mem_cons, hdS, not_or]
      exact ⟨a1, q7, a2⟩
    have hin : innB (A ++ .op :: B) = true := by unfold innB; rw [decide_eq_true ho, decide_eq_false hcn]; rfl
    have hroots : rootsF (A ++ .op :: B) 0 false = rootsF A 0 false ++ rootsF B A.length true := by
      rw [roots_app A _ 0 false h1, Nat.zero_add]
      rfl
    rw [hp] at hq ⊢
    cases hq with
    | op hn => exact absurd ho hn
    | @cl lo hi _ hlast k1 k2 k3 =>
      refine ⟨.f2 A B lo hi [], ⟨h1, h2, (fun p hp => by cases hp), fun i r hi' => ?_, k1, k2, k3, fun e => by subst e; exact hlast "(" (by simp [heads, hdS]) rfl⟩, by simp [parts]⟩
      rw [List.append_nil] at hi' ⊢
      obtain ⟨k1, k2, k3, k4⟩ := h3 i r hi'
      refine ⟨k1, k2, k3, fun y1 _ => ?_⟩
      have : i < (A ++ B).length := by
        rcases Nat.lt_or_ge i (A ++ B).length with z | z
        · exact z
        · rw [List.getElem?_eq_none z] at hi'; cases hi'
      rw [List.length_append] at this
      omega
    | @as r b hr =>
      have hr' : (r, b) ∈ rootsF A 0 false ++ rootsF B A.length true := by
        rw [← hroots]
        unfold rts at hr
        rw [hin] at hr
        exact hr
      have hrow : 1 ≤ r ∧ r ≤ (A ++ B).length ∧ ∃ nm bd, (A ++ B)[r - 1]? = some (.rw nm bd) := by
        rcases List.mem_append.mp hr' with z | z
        · obtain ⟨k1, k2, k3, nm, bd, k4⟩ := roots_mem h1 z
          refine ⟨by omega, by simp; omega, nm, bd, ?_⟩
          rw [List.getElem?_append_left (by omega)]
          simpa using k4
        · obtain ⟨k1, k2, k3, nm, bd, k4⟩ := roots_mem h2 z
          refine ⟨by omega, by simp; omega, nm, bd, ?_⟩
          rw [List.getElem?_append_right (by omega), show r - 1 - A.length = r - A.length - 1 by omega]
          exact k4
      refine ⟨.f1 A (B ++ [.as r]), ⟨h1, Its_snoc h2 rfl, ?_⟩, by simp [parts]⟩
      rw [← List.append_assoc]
      exact h3.more (.inl (by simp; omega)) fun r' e => by
        cases e
        exact ⟨hrow.1, hrow.2.1, hrow.2.2, fun y1 y2 => by cases y2⟩
    | @rw n0 b0 _ _ =>
      refine ⟨.f1 A (B ++ [.rw n0 b0]), ⟨h1, Its_snoc h2 rfl, ?_⟩, by simp [parts]⟩
      rw [← List.append_assoc]
      exact h3.more (.inl (by simp; omega)) fun r' e => by cases e
  | f2 A B lo hi C =>
    obtain ⟨h1, h2, h3, h4, h5, h6, h7⟩ := h
    have hp : parts (.f2 A B lo hi C) = A ++ .op :: (B ++ .cl lo hi :: C) := rfl
    have ho : ("(" : Str) ∈ heads (A ++ .op :: (B ++ .cl lo hi :: C)) := by simp [heads, hdS]
    have hc : (")" : Str) ∈ heads (A ++ .op :: (B ++ .cl lo hi :: C)) := by simp [heads, hdS]
    have hin : innB (A ++ .op :: (B ++ .cl lo hi :: C)) = false := by unfold innB; rw [decide_eq_true ho, decide_eq_true hc]; rfl
    have hlw : lowB (A ++ .op :: (B ++ .cl lo hi :: C)) = decide (lo = 0) := by
      unfold lowB
      rw [List.any_append, List.any_cons, List.any_append, List.any_cons]
      have a1 := low_it h1
      have a2 := low_it h2
      have a3 := low_it h3
      unfold lowB at a1 a2 a3
      rw [a1, a2, a3]
      cases lo <;> simp [low0]
    have hroots : rootsF (A ++ .op :: (B ++ .cl lo hi :: C)) 0 false = rootsF A 0 false ++ (rootsF B A.length true ++ rootsF C (A.length + B.length) false) := by
      rw [roots_app A _ 0 false h1, Nat.zero_add]
      show rootsF A 0 false ++ rootsF (B ++ .cl lo hi :: C) A.length true = _
      rw [roots_app B _ A.length true h2]
      rfl
    rw [hp] at hq ⊢
    cases hq with
    | op hn => exact absurd ho hn
    | cl hi' _ _ _ _ => rw [hin] at hi'; cases hi'
    | @as r b hr =>
      have hr' : (r, b) ∈ rootsF A 0 false ++ (rootsF B A.length true ++ rootsF C (A.length + B.length) false) ∧ (lo = 0 → b = false) := by
        rw [← hroots]
        unfold rts at hr
        rw [hin, hlw] at hr
        by_cases h0 : lo = 0
        · rw [decide_eq_true h0, if_pos (by decide)] at hr
          have := List.mem_filter.mp hr
          exact ⟨this.1, fun _ => by simpa using this.2⟩
        · rw [decide_eq_false h0, if_neg (by decide)] at hr
          exact ⟨hr, fun z => absurd z h0⟩
      have hrow : 1 ≤ r ∧ r ≤ (A ++ B ++ C).length ∧ (∃ nm bd, (A ++ B ++ C)[r - 1]? = some (.rw nm bd)) ∧ (lo = 0 → r ≤ A.length ∨ A.length + B.length < r) := by
        obtain ⟨hm, hb⟩ := hr'
        rcases List.mem_append.mp hm with z | z
        · obtain ⟨k1, k2, k3, nm, bd, k4⟩ := roots_mem h1 z
          refine ⟨by omega, by simp; omega, ⟨nm, bd, ?_⟩, fun _ => .inl (by omega)⟩
          rw [List.append_assoc, List.getElem?_append_left (by omega)]
          simpa using k4
        · rcases List.mem_append.mp z with z | z
          · obtain ⟨k1, k2, k3, nm, bd, k4⟩ := roots_mem h2 z
            refine ⟨by omega, by simp; omega, ⟨nm, bd, ?_⟩, fun y => by have := hb y; rw [k1] at this; cases this⟩
            rw [List.getElem?_append_left (by simp; omega), List.getElem?_append_right (by omega), show r - 1 - A.length = r - A.length - 1 by omega]
            exact k4
          · obtain ⟨k1, k2, k3, nm, bd, k4⟩ := roots_mem h3 z
            refine ⟨by omega, by simp; omega, ⟨nm, bd, ?_⟩, fun _ => .inr (by omega)⟩
            rw [List.getElem?_append_right (by simp; omega), List.length_append, show r - 1 - (A.length + B.length) = r - (A.length + B.length) - 1 by omega]
            exact k4
      refine ⟨.f2 A B lo hi (C ++ [.as r]), ⟨h1, h2, Its_snoc h3 rfl, ?_, h5, h6, h7⟩, by simp [parts]⟩
      rw [← List.append_assoc]
      exact h4.more (.inr ⟨rfl, rfl⟩) fun r' e => by
        cases e
        exact ⟨hrow.1, hrow.2.1, hrow.2.2.1, fun _ y => hrow.2.2.2 y⟩
    | @rw n0 b0 _ _ =>
      refine ⟨.f2 A B lo hi (C ++ [.rw n0 b0]), ⟨h1, h2, Its_snoc h3 rfl, ?_, h5, h6, h7⟩, by simp [parts]⟩
      rw [← List.append_assoc]
      exact h4.more (.inr ⟨rfl, rfl⟩) fun r' e => by cases e
end My
namespace My
open PySem L2 MR
theorem Nx.ok {l : List Pt} {q : Pt} (h : Nx l q) : PtOk q := by
  cases h with
  | op _ => exact ⟨fun n b e => by cases e⟩
  | cl _ _ _ _ _ => exact ⟨fun n b e => by cases e⟩
  | as _ => exact ⟨fun n b e => by cases e⟩
  | rw h1 h2 => exact ⟨fun n b e => by cases e; exact ⟨h1, h2⟩⟩
theorem noL_pt (q : Pt) : noL (ptP q) = true := by
  cases q with
  | op => rfl
  | cl lo hi => rfl
  | as r => rfl
  | rw n b => cases b <;> rfl
theorem fo_turn {CP : PV} {l : List Pt} {q : Pt} {c : Int} (h : mi__law_next [pP l, .int c] = some (ptP q)) (hl : l.length < 900) :
    turn (gN 2) [2] lb__law_form_1 (.int c) [some CP, some (pP l), none, none] = some [some CP, some (pP (l ++ [q])), none, none] := by
  have e : pP (l ++ [q]) = .lst (l.map ptP ++ [ptP q]) := by simp [pP]
  have hll : (l.map ptP).length < 1000000 := by rw [List.length_map]; omega
  have hp : pP l = .lst (l.map ptP) := rfl
  rw [e]
  rw [hp] at h ⊢
  unfold lb__law_form_1
  have hn := noL_pt q
  generalize mi__law_next = mn at *
  generalize l.map ptP = LP at *
  generalize ptP q = QP at *
  simp [turn_ap, h, hll, hn]
def tP (l : List Pt) : PV := .tup (l.map ptP)
/-- a whole form -/
inductive Whole : Fm → Prop
  | w0 {A : List Pt} : A ≠ [] → Whole (.f0 A)
  | w2 {A B : List Pt} {lo hi : Nat} {C : List Pt} : Whole (.f2 A B lo hi C)
theorem fil_le (l : List Pt) : (l.filter isIt).length ≤ l.length := List.length_filter_le _ _
theorem cnt_ok {l : List Pt} {b1 b2 : Bool} (h : l.length ≤ 12) (h1 : (decide (l = []) || decide ((heads l).getLast? = some ("(" : Str))) = b1) :
    ((if b2 = true then (if b1 = true then l ++ [Pt.rw "x" (some "a")] else l) ++ [.cl 1 2] else (if b1 = true then l ++ [Pt.rw "x" (some "a")] else l)).filter isIt).length ≤ 12 := by
  have hx : ((if b1 = true then l ++ [Pt.rw "x" (some "a")] else l).filter isIt).length ≤ 12 := by
    have hf := fil_le l
    cases b1 with
    | false => rw [if_neg (by decide)]; omega
    | true =>
      rw [if_pos rfl, List.filter_append, List.length_append]
      have e : ([Pt.rw "x" (some "a")].filter isIt).length = 1 := rfl
      rw [e]
      rw [Bool.or_eq_true] at h1
      rcases h1 with z | z
      · have z := of_decide_eq_true z
        rw [z]; decide
      · have z := of_decide_eq_true z
        rcases List.eq_nil_or_concat l with w | ⟨i, p, w⟩
        · rw [w]; decide
        · rw [List.concat_eq_append] at w
          subst w
          have hp : hdS p = ("(" : Str) := by simpa [heads] using z
          have hi : isIt p = false := by
            cases p with
            | op => rfl
            | cl lo hi => rfl
            | as r => exact absurd hp e2
            | rw n b => exact absurd hp e4
          rw [List.filter_append, List.filter_cons_of_neg (by rw [hi]; decide), List.filter_nil, List.append_nil]
          have := fil_le i
          simp only [List.length_append, List.length_cons, List.length_nil] at h
          omega
  cases b2 with
  | false => rw [if_neg (by decide)]; exact hx
  | true =>
    rw [if_pos rfl, List.filter_append]
    have e : [Pt.cl 1 2].filter isIt = [] := rfl
    rw [e, List.append_nil]
    exact hx
theorem mi_form {cs : List Int} (hc : cs.length ≤ 12) : ∃ f, FOk f ∧ Whole f ∧ (∀ p ∈ parts f, PtOk p) ∧ (parts f).length < 20 ∧ ((parts f).filter isIt).length ≤ 12 ∧ mi__law_form [.lst (cs.map .int)] = some (tP (parts f)) := by
  obtain ⟨f, ⟨i1, i2, i3⟩, lp⟩ := loopS_ex (g := gN 2) (ds := [2]) (body := lb__law_form_1) PV.int (fun f : Fm => [some (.lst (cs.map .int)), some (pP (parts f)), none, none])
    (fun r f => FOk f ∧ (∀ p ∈ parts f, PtOk p) ∧ (parts f).length + r.length ≤ 12)
    (fun c r f ⟨i1, i2, i3⟩ => by
      simp only [List.length_cons] at i3
      obtain ⟨q, hq, hm⟩ := mi_next c (l := parts f) (by omega) i2
      obtain ⟨f', j1, j2⟩ := fm_next i1 hq
      refine ⟨f', ⟨j1, fun p hp => ?_, by rw [j2]; simp; omega⟩, by rw [j2]; exact fo_turn hm (by omega)⟩
      rw [j2] at hp
      rcases List.mem_append.mp hp with z | z
      · exact i2 p z
      · rw [List.mem_singleton] at z; rw [z]; exact hq.ok)
    cs (.f0 []) ⟨⟨(fun p hp => by cases hp), fun i r hi => by simp at hi⟩, (fun p hp => by cases hp), by simpa [parts] using hc⟩
  have hp0 : parts (.f0 []) = [] := rfl
  rw [hp0] at lp
  simp only [List.length_nil, Nat.add_zero] at i3
  have h0 : pP [] = .lst [] := rfl
  rw [h0] at lp
  have s1 : sSet 1 (bLst bNil) [some (.lst (cs.map .int)), none, none, none] = some (.nx [some (.lst (cs.map .int)), some (.lst []), none, none]) := by simp
  have s2 : sFor (gN 2) (iV (bV 0)) [2] lb__law_form_1 [some (.lst (cs.map .int)), some (.lst []), none, none] = some (.nx [some (.lst (cs.map .int)), some (pP (parts f)), none, none]) := by
    generalize lb__law_form_1 = B at *
    simp [itV, lp]
  have hcp := comp_heads (ce := ce__law_form_2) rfl (parts f)
  have s3 : sSet 3 (bComp [none] (iV (bV 1)) (gN 0) tTrue ce__law_form_2) [some (.lst (cs.map .int)), some (pP (parts f)), none, none] = some (.nx [some (.lst (cs.map .int)), some (pP (parts f)), none, some (.lst ((heads (parts f)).map .str))]) := by
    have hle : (parts f).length ≤ 1000000 := by omega
    have hp : pP (parts f) = .lst ((parts f).map ptP) := rfl
    rw [hp]
    generalize ce__law_form_2 = ce at *
    simp [itV, hle, hcp]
  have hO := inP_strs "(" (heads (parts f))
  have hC := inP_strs ")" (heads (parts f))
  have xa : PtOk (.rw "x" (some "a")) := ⟨fun n b e => by cases e; exact ⟨by decide +kernel, fun x hx => by cases hx; simp [six]⟩⟩
  have cok : PtOk (.cl 1 2) := ⟨fun n b e => by cases e⟩
  -- the first if
  have c1 : ∀ b : Bool, (decide (parts f = []) || decide ((heads (parts f)).getLast? = some ("(" : Str))) = b → sIf (tO (tV (b2 eqQ (bV 3) (bLst bNil))) (tV (b2 eqQ (b2 ixP (bV 3) (b1 negV (bC (.int 1)))) (bC (.str "("))))) (sMut1 appV 1 (bTup (bCons (bC (.str "row")) (bCons (bC (.str "x")) (bCons (bC (.str "a")) bNil))))) sNx [some (.lst (cs.map .int)), some (pP (parts f)), none, some (.lst ((heads (parts f)).map .str))] = some (.nx [some (.lst (cs.map .int)), some (pP (if b = true then parts f ++ [.rw "x" (some "a")] else parts f)), none, some (.lst ((heads (parts f)).map .str))]) := fun b hb => by
    have hl : (parts f).length < 1000000 := by omega
    have e : pP (parts f ++ [.rw "x" (some "a")]) = .lst ((parts f).map ptP ++ [.tup [.str "row", .str "x", .str "a"]]) := by simp [pP, ptP, bdP]
    have hp : pP (parts f) = .lst ((parts f).map ptP) := rfl
    cases hz : parts f with
    | nil =>
      rw [hz] at hb
      simp at hb
      subst hb
      simp [pP, heads, ptP, bdP]
    | cons p ps =>
      rw [← hz]
      have hne : heads (parts f) ≠ [] := by rw [hz]; simp [heads]
      have hok := hdsP_ok (parts f)
      obtain ⟨h, hh⟩ : ∃ h, (heads (parts f)).getLast? = some h := ⟨_, List.getLast?_eq_some_getLast hne⟩
      have hat : atI ((heads (parts f)).map PV.str) (-1) = some (.str h) := by
        rw [atI_map]
        have hl' : 0 < (heads (parts f)).length := List.length_pos_iff.mpr hne
        have : atI (heads (parts f)) (-1) = some h := by
          unfold atI ixN
          rw [if_neg (by decide), if_pos (by omega), Option.bind_some, ← hh, List.getLast?_eq_getElem?]
          congr 1
          omega
        rw [this]
        rfl
      have heq : eqP (.lst ((heads (parts f)).map .str)) (.lst []) = some false := by
        obtain ⟨y, ys, hy⟩ := List.exists_cons_of_ne_nil hne
        rw [hy, List.map_cons] at hok ⊢
        exact eqP_lst_nil (n := 0) hok (by decide)
      rw [hh] at hb
      have hpn : ¬ parts f = [] := by rw [hz]; simp
      rw [decide_eq_false hpn, Bool.false_or] at hb
      by_cases hx : h = ("(" : Str)
      · rw [decide_eq_true (by rw [hx])] at hb
        subst hb
        rw [if_pos rfl, e, hp]
        have hll : ((parts f).map ptP).length < 1000000 := by rw [List.length_map]; omega
        generalize (parts f).map ptP = LP at *
        generalize (heads (parts f)).map PV.str = HP at *
        simp [heq, hat, hx, hll]
      · rw [decide_eq_false (fun z => hx (Option.some.inj z))] at hb
        subst hb
        rw [if_neg (by decide)]
        generalize pP (parts f) = LP at *
        generalize (heads (parts f)).map PV.str = HP at *
        simp [heq, hat, hx]
  have c2 : ∀ (l : List Pt) (b : Bool), l.length < 900 → innB (parts f) = b → sIf (tA (tV (b2 inQ (bC (.str "(")) (bV 3))) (tV (b2 notInQ (bC (.str ")")) (bV 3)))) (sMut1 appV 1 (bTup (bCons (bC (.str ")")) (bCons (bC (.int 1)) (bCons (bC (.int 2)) bNil))))) sNx [some (.lst (cs.map .int)), some (pP l), none, some (.lst ((heads (parts f)).map .str))] = some (.nx [some (.lst (cs.map .int)), some (pP (if b = true then l ++ [.cl 1 2] else l)), none, some (.lst ((heads (parts f)).map .str))]) := fun l b hl hb => by
    have e : pP (l ++ [.cl 1 2]) = .lst (l.map ptP ++ [.tup [.str ")", .int 1, .int 2]]) := by simp [pP, ptP]
    have hp : pP l = .lst (l.map ptP) := rfl
    have hll : (l.map ptP).length < 1000000 := by rw [List.length_map]; omega
    unfold innB at hb
    cases b with
    | true =>
      rw [if_pos rfl, e, hp]
      rw [Bool.and_eq_true] at hb
      have k1 : ("(" : Str) ∈ heads (parts f) := of_decide_eq_true hb.1
      have k2 : ¬ (")" : Str) ∈ heads (parts f) := by simpa using hb.2
      generalize l.map ptP = LP at *
      generalize (heads (parts f)).map PV.str = HP at *
      simp [hO, hC, k1, k2, hll]
    | false =>
      rw [if_neg (by decide)]
      generalize pP l = LP at *
      generalize (heads (parts f)).map PV.str = HP at *
      by_cases k1 : ("(" : Str) ∈ heads (parts f)
      · have k2 : (")" : Str) ∈ heads (parts f) := by
          rw [decide_eq_true k1] at hb
          simpa using hb
        simp [hO, hC, k1, k2]
      · simp [hO, k1]
  have done : ∀ (b1' b2' : Bool) (f' : Fm), (decide (parts f = []) || decide ((heads (parts f)).getLast? = some ("(" : Str))) = b1' → innB (parts f) = b2' → parts f' = (if b2' = true then (if b1' = true then parts f ++ [.rw "x" (some "a")] else parts f) ++ [.cl 1 2] else (if b1' = true then parts f ++ [.rw "x" (some "a")] else parts f)) → FOk f' → Whole f' → ∃ f, FOk f ∧ Whole f ∧ (∀ p ∈ parts f, PtOk p) ∧ (parts f).length < 20 ∧ ((parts f).filter isIt).length ≤ 12 ∧ mi__law_form [.lst (cs.map .int)] = some (tP (parts f)) := fun b1' b2' f' h1 h2 h3 h4 h5 => by
    have hmem : ∀ p ∈ parts f', PtOk p := fun p hp => by
      rw [h3] at hp
      have g1 : ∀ p ∈ (if b1' = true then parts f ++ [.rw "x" (some "a")] else parts f), PtOk p := fun p hp => by
        split at hp
        · rcases List.mem_append.mp hp with z | z
          · exact i2 p z
          · rw [List.mem_singleton] at z; rw [z]; exact xa
        · exact i2 p hp
      split at hp
      · rcases List.mem_append.mp hp with z | z
        · exact g1 p z
        · rw [List.mem_singleton] at z; rw [z]; exact cok
      · exact g1 p hp
    have hlen : (if b1' = true then parts f ++ [Pt.rw "x" (some "a")] else parts f).length ≤ 13 := by split <;> first | (simp; omega) | omega
    have hlen2 : (parts f').length < 20 := by rw [h3]; split <;> first | (simp only [List.length_append, List.length_cons, List.length_nil]; omega) | omega
    refine ⟨f', h4, h5, hmem, hlen2, by rw [h3]; exact cnt_ok i3 h1, ?_⟩
    have hb : fb__law_form [some (.lst (cs.map .int)), none, none, none] = some (.rt (tP (parts f'))) := by
      unfold fb__law_form
      rw [sSeq_nx s1, sSeq_nx s2, sSeq_nx s3, sSeq_nx (c1 b1' h1), sSeq_nx (c2 _ b2' (by omega) h2), ← h3]
      have hp : pP (parts f') = .lst ((parts f').map ptP) := rfl
      rw [hp]
      have hle : (parts f').length ≤ 1000000 := by omega
      simp [tP, hle]
    unfold mi__law_form
    generalize fb__law_form = B at *
    simp [hb]
  have q2 := e1
  cases f with
  | f0 A =>
    obtain ⟨k1, k2⟩ := i1
    have hin : innB A = false := by unfold innB; rw [decide_eq_false (heads_it k1).1]; rfl
    cases A with
    | nil =>
      refine done true false (.f0 [.rw "x" (some "a")]) (by simp [parts]) hin rfl ⟨(fun p hp => by simp at hp; subst hp; rfl), fun i r hi => ?_⟩ (.w0 (by simp))
      cases i <;> simp at hi
    | cons p ps =>
      refine done false false (.f0 (p :: ps)) ?_ hin rfl ⟨k1, k2⟩ (.w0 (by simp))
      show (decide (p :: ps = []) || decide ((heads (p :: ps)).getLast? = some ("(" : Str))) = false
      have hn : ¬ (heads (p :: ps)).getLast? = some ("(" : Str) := fun z => (heads_it k1).1 (List.mem_of_getLast? z)
      rw [decide_eq_false hn]
      rfl
  | f1 A B =>
    obtain ⟨k1, k2, k3⟩ := i1
    have ho : ("(" : Str) ∈ heads (A ++ .op :: B) := by simp [heads, hdS]
    have hcn : ¬ (")" : Str) ∈ heads (A ++ .op :: B) := by
      have a1 := (heads_it k1).2
      have a2 := (heads_it k2).2
      have q7 := e7
      unfold heads at *
      simp only [List.map_append, List.map_cons, List.mem_append, List.mem_cons, hdS, not_or]
      exact ⟨a1, q7, a2⟩
    have hin : innB (A ++ .op :: B) = true := by unfold innB; rw [decide_eq_true ho, decide_eq_false hcn]; rfl
    have as1 : ∀ N : List Pt, AsOk N A.length B.length 1 → ∀ x y z, AsOk N x y z → True := fun _ _ _ _ _ _ => trivial
    have lift : ∀ (N : List Pt) (a b : Nat), AsOk N a b 1 → N.length = a + b → ∀ b' , AsOk N a b' 1 := fun N a b h _ b' i r hi => by
      obtain ⟨y1, y2, y3, y4⟩ := h i r hi
      exact ⟨y1, y2, y3, fun _ z => by cases z⟩
    cases B with
    | nil =>
      refine done true true (.f2 A [.rw "x" (some "a")] 1 2 []) (by simp [parts, heads, hdS]) hin (by simp [parts]) ⟨k1, (fun p hp => by simp at hp; subst hp; rfl), (fun p hp => by cases hp), ?_, by decide, by decide, by decide, by simp⟩ .w2
      rw [List.append_nil] at k3 ⊢
      exact k3.more (.inl (by simp)) fun r e => by cases e
    | cons p ps =>
      refine done false true (.f2 A (p :: ps) 1 2 []) ?_ hin (by simp [parts]) ⟨k1, k2, (fun p hp => by cases hp), ?_, by decide, by decide, by decide, by simp⟩ .w2
      · show (decide (A ++ .op :: p :: ps = []) || decide ((heads (A ++ .op :: p :: ps)).getLast? = some ("(" : Str))) = false
        have hn : ¬ (heads (A ++ .op :: p :: ps)).getLast? = some ("(" : Str) := fun z => by
          have e : heads (A ++ .op :: p :: ps) = heads (A ++ [.op]) ++ heads (p :: ps) := by simp [heads]
          rw [e, List.getLast?_append] at z
          obtain ⟨h, hh⟩ : ∃ h, (heads (p :: ps)).getLast? = some h := ⟨_, List.getLast?_eq_some_getLast (by simp [heads])⟩
          rw [hh] at z
          simp at z
          rw [z] at hh
          exact (heads_it k2).1 (List.mem_of_getLast? hh)
        have hn2 : ¬ (A ++ .op :: p :: ps = []) := by simp
        rw [decide_eq_false hn, decide_eq_false hn2]
        rfl
      · rw [List.append_nil]
        exact k3
  | f2 A B lo hi C =>
    have ho : ("(" : Str) ∈ heads (A ++ .op :: (B ++ .cl lo hi :: C)) := by simp [heads, hdS]
    have hc : (")" : Str) ∈ heads (A ++ .op :: (B ++ .cl lo hi :: C)) := by simp [heads, hdS]
    have hin : innB (A ++ .op :: (B ++ .cl lo hi :: C)) = false := by unfold innB; rw [decide_eq_true ho, decide_eq_true hc]; rfl
    refine done false false (.f2 A B lo hi C) ?_ hin rfl i1 .w2
    show (decide (A ++ .op :: (B ++ .cl lo hi :: C) = []) || decide ((heads (A ++ .op :: (B ++ .cl lo hi :: C))).getLast? = some ("(" : Str))) = false
    have hn : ¬ (heads (A ++ .op :: (B ++ .cl lo hi :: C))).getLast? = some ("(" : Str) := fun z => by
      have e : heads (A ++ .op :: (B ++ .cl lo hi :: C)) = heads (A ++ .op :: B) ++ heads (.cl lo hi :: C) := by simp [heads]
      rw [e, List.getLast?_append] at z
      obtain ⟨h, hh⟩ : ∃ h, (heads (.cl lo hi :: C)).getLast? = some h := ⟨_, List.getLast?_eq_some_getLast (by simp [heads])⟩
      rw [hh] at z
      simp at z
      rw [z] at hh
      have hm := List.mem_of_getLast? hh
      simp only [heads, List.map_cons, List.mem_cons] at hm
      rcases hm with y | y
      · exact e1 y
      · exact (heads_it i1.2.2.1).1 y
    have hn2 : ¬ (A ++ .op :: (B ++ .cl lo hi :: C) = []) := by simp
    rw [decide_eq_false hn, decide_eq_false hn2]
    rfl
end My
namespace My
open PySem
/-! ## what split at a blank tells -/
def isAt (x : Str) (c i : Nat) : Bool := decide (x.cps.toList[i]? = some c)
theorem occ_run (x : Str) (c limit : Nat) : ∀ (n a : Nat) (st : Array Nat × Nat), st.2 ≤ a → st.1.size + n ≤ limit →
    (forIn (List.range' a n) st (StrLaws.occBody x ⟨#[c]⟩ x.length limit)).run.fst.toList = st.1.toList ++ (List.range' a n).filter (isAt x c)
  | 0, a, st, _, _ => by simp
  | n + 1, a, st, h1, h2 => by
    rw [List.range'_succ, List.forIn_cons]
    unfold StrLaws.occBody
    have hs := StrLaws.subAt_one x c a
    by_cases h : x.cps.toList[a]? = some c
    · obtain ⟨h3, h4⟩ := hs.mpr h
      rw [if_pos ⟨⟨⟨by omega, h1⟩, h3⟩, h4⟩]
      have ih := occ_run x c limit n (a + 1) (st.1.push a, a + (⟨#[c]⟩ : Str).length) (by show a + 1 ≤ a + 1; omega) (by simp; omega)
      show (forIn (List.range' (a + 1) n) (st.1.push a, a + (⟨#[c]⟩ : Str).length) (StrLaws.occBody x ⟨#[c]⟩ x.length limit)).run.fst.toList = _
      rw [ih, List.filter_cons]
      have hi : isAt x c a = true := by simp [isAt, h]
      rw [if_pos hi]
      simp
    · rw [if_neg (fun z => h (hs.mp ⟨z.1.2, z.2⟩))]
      have ih := occ_run x c limit n (a + 1) (st.1, st.2) (by show st.2 ≤ a + 1; omega) (by show st.1.size + n ≤ limit; omega)
      show (forIn (List.range' (a + 1) n) (st.1, st.2) (StrLaws.occBody x ⟨#[c]⟩ x.length limit)).run.fst.toList = _
      rw [ih, List.filter_cons]
      have hi : isAt x c a = false := decide_eq_false h
      rw [if_neg (by rw [hi]; exact Bool.false_ne_true)]
theorem occ_all (x : Str) (c : Nat) : Builtin.Str.occurrences x ⟨#[c]⟩ 0 x.length (x.length + 1) = (List.range' 0 (x.length + 1)).filter (isAt x c) := by
  rw [StrLaws.occ_eq, occ_run x c (x.length + 1) (x.length + 1 - 0) 0 (#[], 0) (Nat.le_refl _) (by simp)]
  simp
/-- a list cut at each c -/
def spl (c : Nat) : List Nat → List (List Nat)
  | [] => [[]]
  | a :: l => if a = c then [] :: spl c l else match spl c l with
    | p :: ps => (a :: p) :: ps
    | [] => [[a]]
theorem spl_ne (c : Nat) : ∀ l : List Nat, ∃ p ps, spl c l = p :: ps
  | [] => ⟨_, _, rfl⟩
  | a :: l => by
    obtain ⟨p, ps, e⟩ := spl_ne c l
    unfold spl
    split
    · exact ⟨_, _, rfl⟩
    · rw [e]; exact ⟨_, _, rfl⟩
def glue (w : List Nat) : List (List Nat) → List (List Nat)
  | p :: ps => (w ++ p) :: ps
  | [] => [w]
theorem partsFrom_spl (x : Str) (c : Nat) : ∀ (n a b : Nat), b + n = x.length → a ≤ b → (StrLaws.partsFrom x 1 a ((List.range' b (n + 1)).filter (isAt x c))).map (fun p => p.cps.toList) = glue ((x.cps.toList.drop a).take (b - a)) (spl c (x.cps.toList.drop b))
  | 0, a, b, h, hab => by
    have hl : x.cps.toList.length = x.length := Array.length_toList
    have hi : isAt x c b = false := by
      unfold isAt
      rw [List.getElem?_eq_none (by omega)]
      simp
    rw [List.range'_succ, List.filter_cons, if_neg (by rw [hi]; exact Bool.false_ne_true)]
    simp only [List.range'_zero, List.filter_nil, StrLaws.partsFrom, List.map_cons, List.map_nil]
    rw [StrLaws.strSub_toList, List.drop_eq_nil_of_le (by omega : x.cps.toList.length ≤ b)]
    simp only [spl, glue, List.append_nil]
    rw [show x.length - a = b - a by omega]
  | n + 1, a, b, h, hab => by
    have hl : x.cps.toList.length = x.length := Array.length_toList
    have hb : b < x.cps.toList.length := by omega
    rw [List.range'_succ, List.filter_cons]
    have ed : x.cps.toList.drop b = x.cps.toList[b] :: x.cps.toList.drop (b + 1) := List.drop_eq_getElem_cons hb
    by_cases hc : x.cps.toList[b] = c
    · have hi : isAt x c b = true := by
        unfold isAt
        rw [List.getElem?_eq_getElem hb, hc]
        simp
      rw [if_pos hi]
      have ih := partsFrom_spl x c n (b + 1) (b + 1) (by omega) (Nat.le_refl _)
      simp only [StrLaws.partsFrom, List.map_cons]
      rw [ih, StrLaws.strSub_toList, ed]
      obtain ⟨p, ps, e⟩ := spl_ne c (x.cps.toList.drop (b + 1))
      simp only [spl, if_pos hc, e, glue, Nat.sub_self, List.take_zero, List.nil_append, List.append_nil]
    · have hi : isAt x c b = false := by
        unfold isAt
        rw [List.getElem?_eq_getElem hb]
        exact decide_eq_false fun z => hc (Option.some.inj z)
      rw [if_neg (by rw [hi]; exact Bool.false_ne_true)]
      have ih := partsFrom_spl x c n a (b + 1) (by omega) (by omega)
      rw [ih, ed]
      obtain ⟨p, ps, e⟩ := spl_ne c (x.cps.toList.drop (b + 1))
      simp only [spl, if_neg hc, e, glue]
      have e2 : (x.cps.toList.drop a).take (b + 1 - a) = (x.cps.toList.drop a).take (b - a) ++ [x.cps.toList[b]] := by
        rw [show b + 1 - a = (b - a) + 1 by omega, List.take_add_one, List.getElem?_drop, show a + (b - a) = b by omega, List.getElem?_eq_getElem hb]
        rfl
      rw [e2]
      simp
theorem spl_none {c : Nat} : ∀ {l : List Nat}, c ∉ l → spl c l = [l]
  | [], _ => rfl
  | a :: l, h => by
    have h1 : ¬ a = c := fun e => h (by simp [e])
    have h2 : c ∉ l := fun e => h (List.mem_cons_of_mem _ e)
    unfold spl
    rw [if_neg h1, spl_none h2]
theorem spl_app {c : Nat} {r : List Nat} : ∀ {l : List Nat}, c ∉ l → spl c (l ++ c :: r) = l :: spl c r
  | [], _ => by simp [spl]
  | a :: l, h => by
    have h1 : ¬ a = c := fun e => h (by simp [e])
    have h2 : c ∉ l := fun e => h (List.mem_cons_of_mem _ e)
    rw [List.cons_append]
    have e := spl_app (r := r) h2
    show (if a = c then [] :: spl c (l ++ c :: r) else match spl c (l ++ c :: r) with | p :: ps => (a :: p) :: ps | [] => [[a]]) = _
    rw [if_neg h1, e]
def mkS (l : List Nat) : Str := ⟨l.toArray⟩
theorem mkS_toList (x : Str) : mkS x.cps.toList = x := by
  unfold mkS
  simp
theorem kind_one {c : Nat} (hc : c < 128) (x : Str) : (decide (x.length < (⟨#[c]⟩ : Str).length) || decide (Builtin.Str.strKind x < Builtin.Str.strKind ⟨#[c]⟩)) = true → x.length = 0 := by
  intro h
  rw [Bool.or_eq_true] at h
  rcases h with h | h
  · have h' := of_decide_eq_true h
    have : (⟨#[c]⟩ : Str).length = 1 := rfl
    omega
  · exfalso
    have h' := of_decide_eq_true h
    have e : Builtin.Str.strKind ⟨#[c]⟩ = 1 := by
      unfold Builtin.Str.strKind
      rw [if_pos (by simp; omega)]
    have e2 : 1 ≤ Builtin.Str.strKind x := by
      unfold Builtin.Str.strKind
      split
      · exact Nat.le_refl _
      · split <;> decide
    omega
theorem split_one {c : Nat} (hc : c < 128) (x : Str) : Txt.split x (⟨#[c]⟩ : Str) = (spl c x.cps.toList).map mkS := by
  have hl : x.cps.toList.length = x.length := Array.length_toList
  have key : (StrLaws.partsFrom x 1 0 (Builtin.Str.occurrences x ⟨#[c]⟩ 0 x.length (x.length + 1))).map (fun p => p.cps.toList) = spl c x.cps.toList := by
    rw [occ_all]
    have h := partsFrom_spl x c x.length 0 0 (by omega) (Nat.le_refl _)
    rw [h]
    obtain ⟨p, ps, e⟩ := spl_ne c x.cps.toList
    simp [glue, e]
  have key2 : StrLaws.partsFrom x 1 0 (Builtin.Str.occurrences x ⟨#[c]⟩ 0 x.length (x.length + 1)) = (spl c x.cps.toList).map mkS := by
    rw [← key, List.map_map]
    have : (mkS ∘ fun (p : Str) => p.cps.toList) = id := by
      funext p
      exact mkS_toList p
    rw [this, List.map_id]
  unfold Txt.split
  split
  · rename_i h
    have h0 := kind_one hc x h
    have : x.cps.toList = [] := List.length_eq_zero_iff.mp (by omega)
    rw [this]
    simp only [spl, List.map_cons, List.map_nil]
    rw [← this, mkS_toList]
  · split
    · rename_i h2
      have e0 : Builtin.Str.occurrences x ⟨#[c]⟩ 0 x.length (x.length + 1) = [] := List.isEmpty_iff.mp h2
      rw [← key2, e0]
      simp only [StrLaws.partsFrom]
      rw [StrLaws.sub_whole]
    · rw [StrLaws.partsBetween_eq]
      exact key2
theorem split_word1 {c : Nat} (hc : c < 128) {x : Str} (h : c ∉ x.cps.toList) : Txt.split x ⟨#[c]⟩ = [x] := by
  rw [split_one hc, spl_none h]
  simp [mkS_toList]
theorem split_cons1 {c : Nat} (hc : c < 128) {w r : Str} (h : c ∉ w.cps.toList) : Txt.split (w ++ (⟨#[c]⟩ : Str) ++ r) ⟨#[c]⟩ = w :: Txt.split r ⟨#[c]⟩ := by
  rw [split_one hc, split_one hc]
  have e : (w ++ (⟨#[c]⟩ : Str) ++ r).cps.toList = w.cps.toList ++ c :: r.cps.toList := by
    rw [Str.cps_append, Str.cps_append]
    simp
  rw [e, spl_app h, List.map_cons, mkS_toList]
/-- what is joined by one sign that stands in none of the words is split into them again -/
theorem split_join1 {c : Nat} (hc : c < 128) : ∀ {zs : List Str}, zs ≠ [] → (∀ z ∈ zs, c ∉ z.cps.toList) → Txt.split (Str.join ⟨#[c]⟩ zs) ⟨#[c]⟩ = zs
  | [], h, _ => absurd rfl h
  | [z], _, h => split_word1 hc (h z (by simp))
  | z :: y :: r, _, h => by
    show Txt.split (z ++ (⟨#[c]⟩ : Str) ++ Str.join ⟨#[c]⟩ (y :: r)) ⟨#[c]⟩ = _
    rw [split_cons1 hc (h z (by simp)), split_join1 hc (by simp) fun x hx => h x (List.mem_cons_of_mem _ hx)]
end My
/-! ## what is joined by `; ` is split into it again, where none has a `;` -/
namespace My
open PySem
def isA (x : Str) (i : Nat) : Bool := decide (x.cps.toList[i]? = some 59)
def sep2 : Str := ⟨#[59, 32]⟩
theorem sub2 (x : Str) (i : Nat) : (i + sep2.length ≤ x.length ∧ Builtin.Str.subAt x sep2 i = true) ↔ x.cps.toList[i]? = some 59 ∧ x.cps.toList[i + 1]? = some 32 := by
  have hl : x.cps.toList.length = x.length := Array.length_toList
  rw [StrLaws.subAt_eq]
  show (i + 2 ≤ x.length ∧ ((x.cps.toList.drop i).take 2 == [59, 32]) = true) ↔ _
  rw [beq_iff_eq]
  generalize x.cps.toList = l at *
  have e1 : (l.drop i).take 2 = (l[i]?).toList ++ (l[i + 1]?).toList := by
    rw [show (2 : Nat) = 1 + 1 from rfl, List.take_add_one, List.getElem?_drop, show (1 : Nat) = 0 + 1 from rfl, List.take_add_one, List.getElem?_drop]
    simp
  rw [e1]
  constructor
  · rintro ⟨h1, h2⟩
    rw [List.getElem?_eq_getElem (by omega : i < l.length), List.getElem?_eq_getElem (by omega : i + 1 < l.length)] at h2 ⊢
    simpa using h2
  · rintro ⟨h1, h2⟩
    obtain ⟨k1, _⟩ := List.getElem?_eq_some_iff.mp h2
    refine ⟨by omega, by rw [h1, h2]; rfl⟩
theorem occ_run2 (x : Str) (limit : Nat) (hx : ∀ i, x.cps.toList[i]? = some 59 → x.cps.toList[i + 1]? = some 32) : ∀ (n a : Nat) (st : Array Nat × Nat), (st.2 ≤ a ∨ (st.2 = a + 1 ∧ x.cps.toList[a]? ≠ some 59)) → st.1.size + n ≤ limit →
    (forIn (List.range' a n) st (StrLaws.occBody x sep2 x.length limit)).run.fst.toList = st.1.toList ++ (List.range' a n).filter (isA x)
  | 0, a, st, _, _ => by simp
  | n + 1, a, st, h1, h2 => by
    rw [List.range'_succ, List.forIn_cons]
    unfold StrLaws.occBody
    have hs := sub2 x a
    by_cases h : x.cps.toList[a]? = some 59
    · obtain ⟨h3, h4⟩ := hs.mpr ⟨h, hx a h⟩
      have h5 : st.2 ≤ a := by
        rcases h1 with z | ⟨_, z⟩
        · exact z
        · exact absurd h z
      rw [if_pos ⟨⟨⟨by omega, h5⟩, h3⟩, h4⟩]
      have ih := occ_run2 x limit hx n (a + 1) (st.1.push a, a + sep2.length) (.inr ⟨rfl, by rw [hx a h]; decide⟩) (by simp; omega)
      show (forIn (List.range' (a + 1) n) (st.1.push a, a + sep2.length) (StrLaws.occBody x sep2 x.length limit)).run.fst.toList = _
      rw [ih, List.filter_cons]
      have hi : isA x a = true := by simp [isA, h]
      rw [if_pos hi]
      simp
    · rw [if_neg (fun z => h (hs.mp ⟨z.1.2, z.2⟩).1)]
      have ih := occ_run2 x limit hx n (a + 1) (st.1, st.2) (.inl (by
        show st.2 ≤ a + 1
        rcases h1 with z | ⟨z, _⟩ <;> omega)) (by show st.1.size + n ≤ limit; omega)
      show (forIn (List.range' (a + 1) n) (st.1, st.2) (StrLaws.occBody x sep2 x.length limit)).run.fst.toList = _
      rw [ih, List.filter_cons]
      have hi : isA x a = false := decide_eq_false h
      rw [if_neg (by rw [hi]; exact Bool.false_ne_true)]
theorem occ_all2 (x : Str) (hx : ∀ i, x.cps.toList[i]? = some 59 → x.cps.toList[i + 1]? = some 32) : Builtin.Str.occurrences x sep2 0 x.length (x.length + 1) = (List.range' 0 (x.length + 1)).filter (isA x) := by
  rw [StrLaws.occ_eq, occ_run2 x (x.length + 1) hx (x.length + 1 - 0) 0 (#[], 0) (.inl (Nat.le_refl _)) (by simp)]
  simp
/-- the signs of what is joined -/
def jl : List (List Nat) → List Nat
  | [] => []
  | [w] => w
  | w :: v :: r => w ++ 59 :: 32 :: jl (v :: r)
theorem jl_59 : ∀ (ws : List (List Nat)), (∀ w ∈ ws, 59 ∉ w) → ∀ i, (jl ws)[i]? = some 59 → (jl ws)[i + 1]? = some 32
  | [], _, i, h => by simp [jl] at h
  | [w], h0, i, h => absurd (List.mem_of_getElem? h) (h0 w (by simp))
  | w :: v :: r, h0, i, h => by
    have ih := jl_59 (v :: r) (fun z hz => h0 z (List.mem_cons_of_mem _ hz))
    unfold jl at h ⊢
    generalize jl (v :: r) = J at *
    rcases Nat.lt_trichotomy i w.length with z | z | z
    · rw [List.getElem?_append_left z] at h
      exact absurd (List.mem_of_getElem? h) (h0 w (by simp))
    · subst z
      rw [List.getElem?_append_right (by omega), Nat.add_sub_cancel_left]
      rfl
    · obtain ⟨k, rfl⟩ : ∃ k, i = w.length + 1 + k := ⟨i - w.length - 1, by omega⟩
      rw [List.getElem?_append_right (by omega), show w.length + 1 + k - w.length = k + 1 by omega, List.getElem?_cons_succ] at h
      rw [List.getElem?_append_right (by omega), show w.length + 1 + k + 1 - w.length = k + 1 + 1 by omega, List.getElem?_cons_succ]
      cases k with
      | zero => simp at h
      | succ k =>
        rw [List.getElem?_cons_succ] at h ⊢
        exact ih k h
theorem fil_no {x : Str} {a n : Nat} (h : ∀ i, a ≤ i → i < a + n → x.cps.toList[i]? ≠ some 59) : (List.range' a n).filter (isA x) = [] := by
  rw [List.filter_eq_nil_iff]
  intro i hi
  obtain ⟨k, hk, rfl⟩ := List.mem_range'.mp hi
  unfold isA
  rw [decide_eq_true_eq]
  exact h _ (by omega) (by omega)
theorem parts2 (x : Str) : ∀ (ws : List (List Nat)) (pre : List Nat), ws ≠ [] → (∀ w ∈ ws, 59 ∉ w) → x.cps.toList = pre ++ jl ws →
    (StrLaws.partsFrom x 2 pre.length ((List.range' pre.length ((jl ws).length + 1)).filter (isA x))).map (fun p => p.cps.toList) = ws
  | [], _, h, _, _ => absurd rfl h
  | [w], pre, _, h0, hx => by
    have hl : x.cps.toList.length = x.length := Array.length_toList
    have hw : 59 ∉ w := h0 w (by simp)
    rw [fil_no fun i h1 h2 z => ?_]
    · simp only [StrLaws.partsFrom, List.map_cons, List.map_nil]
      rw [StrLaws.strSub_toList, hx]
      have e : x.length - pre.length = w.length := by rw [← hl, hx]; simp [jl]
      rw [e, List.drop_left]
      simp [jl]
    · rw [hx, List.getElem?_append_right h1] at z
      exact hw (List.mem_of_getElem? z)
  | w :: v :: r, pre, _, h0, hx => by
    have hl : x.cps.toList.length = x.length := Array.length_toList
    have hw : 59 ∉ w := h0 w (by simp)
    have ih := parts2 x (v :: r) (pre ++ (w ++ [59, 32])) (by simp) (fun z hz => h0 z (List.mem_cons_of_mem _ hz)) (by rw [hx, jl]; simp)
    have hj : jl (w :: v :: r) = w ++ 59 :: 32 :: jl (v :: r) := rfl
    rw [hj] at hx ⊢
    generalize jl (v :: r) = J at *
    have e0 : (w ++ 59 :: 32 :: J).length + 1 = w.length + (1 + (1 + (J.length + 1))) := by simp; omega
    rw [e0, ← List.range'_append_1, ← List.range'_append_1, ← List.range'_append_1, List.filter_append, List.filter_append, List.filter_append]
    have f1 : (List.range' pre.length w.length).filter (isA x) = [] := fil_no fun i h1 h2 z => by
      rw [hx, List.getElem?_append_right h1, List.getElem?_append_left (by omega)] at z
      exact hw (List.mem_of_getElem? z)
    have g59 : x.cps.toList[pre.length + w.length]? = some 59 := by
      rw [hx, List.getElem?_append_right (by omega), List.getElem?_append_right (by omega), show pre.length + w.length - pre.length - w.length = 0 by omega]
      rfl
    have g32 : x.cps.toList[pre.length + w.length + 1]? = some 32 := by
      rw [hx, List.getElem?_append_right (by omega), List.getElem?_append_right (by omega), show pre.length + w.length + 1 - pre.length - w.length = 1 by omega]
      rfl
    have f2 : (List.range' (pre.length + w.length) 1).filter (isA x) = [pre.length + w.length] := by
      simp [isA, g59]
    have f3 : (List.range' (pre.length + w.length + 1) 1).filter (isA x) = [] := by
      simp [isA, g32]
    rw [f1, f2, f3]
    have e1 : (pre ++ (w ++ [59, 32])).length = pre.length + w.length + 1 + 1 := by simp; omega
    rw [e1] at ih
    simp only [List.nil_append, List.cons_append, StrLaws.partsFrom, List.map_cons]
    rw [show pre.length + w.length + 2 = pre.length + w.length + 1 + 1 by omega, ih]
    congr 1
    rw [StrLaws.strSub_toList, hx, List.drop_left, show pre.length + w.length - pre.length = w.length by omega, List.take_left]
theorem join_jl : ∀ ws : List Str, (Str.join sep2 ws).cps.toList = jl (ws.map fun w => w.cps.toList)
  | [] => rfl
  | [w] => rfl
  | w :: v :: r => by
    have ih := join_jl (v :: r)
    show (w ++ sep2 ++ Str.join sep2 (v :: r)).cps.toList = w.cps.toList ++ 59 :: 32 :: jl ((v :: r).map fun w => w.cps.toList)
    rw [Str.cps_append, Str.cps_append]
    simp only [Array.toList_append, ih, List.append_assoc]
    rfl
def mkS2 (l : List Nat) : Str := ⟨l.toArray⟩
theorem mkS2_toList (x : Str) : mkS2 x.cps.toList = x := by
  unfold mkS2
  simp
theorem split_join2 {ws : List Str} (hn : ws ≠ []) (h : ∀ w ∈ ws, 59 ∉ w.cps.toList) : Txt.split (Str.join sep2 ws) sep2 = ws := by
  have hj := join_jl ws
  have hn' : ws.map (fun w => w.cps.toList) ≠ [] := by simpa using hn
  have h' : ∀ w ∈ ws.map (fun w => w.cps.toList), 59 ∉ w := fun w hw => by
    obtain ⟨z, h1, rfl⟩ := List.mem_map.mp hw
    exact h z h1
  have h59 := jl_59 _ h'
  rw [← hj] at h59
  have hl : (Str.join sep2 ws).cps.toList.length = (Str.join sep2 ws).length := Array.length_toList
  have key : StrLaws.partsFrom (Str.join sep2 ws) 2 0 (Builtin.Str.occurrences (Str.join sep2 ws) sep2 0 (Str.join sep2 ws).length ((Str.join sep2 ws).length + 1)) = ws := by
    rw [occ_all2 _ h59]
    have k := parts2 (Str.join sep2 ws) _ [] hn' h' (by rw [hj]; rfl)
    rw [← hj, hl] at k
    have k2 := congrArg (List.map mkS2) k
    rw [List.map_map, List.map_map] at k2
    have e : (mkS2 ∘ fun (p : Str) => p.cps.toList) = id := by
      funext p
      exact mkS2_toList p
    rw [e, List.map_id, List.map_id] at k2
    exact k2
  unfold Txt.split
  split
  · rename_i hk
    cases ws with
    | nil => exact absurd rfl hn
    | cons w r =>
      cases r with
      | nil => rfl
      | cons v r =>
        exfalso
        have h2 : 2 ≤ (Str.join sep2 (w :: v :: r)).length := by
          rw [← hl, hj]
          simp [jl]
          omega
        rw [Bool.or_eq_true] at hk
        rcases hk with z | z
        · have z := of_decide_eq_true z
          have : sep2.length = 2 := rfl
          omega
        · have z := of_decide_eq_true z
          have e : Builtin.Str.strKind sep2 = 1 := by decide +kernel
          have e2 : 1 ≤ Builtin.Str.strKind (Str.join sep2 (w :: v :: r)) := by
            unfold Builtin.Str.strKind
            split
            · exact Nat.le_refl _
            · split <;> decide
          omega
  · split
    · rename_i h2
      have e0 := List.isEmpty_iff.mp h2
      rw [e0] at key
      simp only [StrLaws.partsFrom] at key
      rw [StrLaws.sub_whole] at key
      exact key
    · rw [StrLaws.partsBetween_eq]
      exact key
end My
/-! ## the texts of parts -/
namespace My
open PySem L2 MR
theorem strsP_all : ∀ ws : List Str, strsP (ws.map PV.str) = some ws
  | [] => rfl
  | w :: ws => by simp [strsP_all ws]
theorem bools_true {α : Type} : ∀ l : List α, bools (l.map fun _ => PV.bl true) = some (l.map fun _ => true)
  | [] => rfl
  | w :: ws => by simp [bools_true ws]
def nS (k : Nat) : Str := (txtOf (k : Int)).getD ""
theorem nS_ok : ∀ k : Nat, k ≤ 12 → txtOf (k : Int) = some (nS k) ∧ numOf (nS k) = some (k : Int) ∧ (nS k).length ≤ 2 ∧ 32 ∉ (nS k).cps.toList ∧ 59 ∉ (nS k).cps.toList := by
  intro k hk
  rcases (show k = 0 ∨ k = 1 ∨ k = 2 ∨ k = 3 ∨ k = 4 ∨ k = 5 ∨ k = 6 ∨ k = 7 ∨ k = 8 ∨ k = 9 ∨ k = 10 ∨ k = 11 ∨ k = 12 by omega) with h | h | h | h | h | h | h | h | h | h | h | h | h <;> subst h <;> decide +kernel
def words : Pt → List Str
  | .op => ["("]
  | .cl lo hi => [")", nS lo, nS hi]
  | .as r => ["as", nS r]
  | .rw n b => [n, b.getD "-"]
def wr (p : Pt) : Str := Str.join " " (words p)
def WOk : Pt → Prop
  | .op => True
  | .cl lo hi => lo ≤ hi ∧ 1 ≤ hi ∧ hi ≤ 4
  | .as r => 1 ≤ r ∧ r ≤ 12
  | .rw n b => n ∈ eightN ∧ ∀ x, b = some x → x ∈ six
theorem eight_facts : ∀ x ∈ eightN, x.length ≤ 8 ∧ 32 ∉ x.cps.toList ∧ 59 ∉ x.cps.toList := by
  intro x hx
  simp only [eightN, List.mem_cons, List.not_mem_nil, or_false] at hx
  rcases hx with e | e | e | e | e | e | e | e <;> subst e <;> decide +kernel
theorem six_facts : ∀ x ∈ six, x.length ≤ 2 ∧ 32 ∉ x.cps.toList ∧ 59 ∉ x.cps.toList ∧ x ≠ "-" := by
  intro x hx
  simp only [six, List.mem_cons, List.not_mem_nil, or_false] at hx
  rcases hx with e | e | e | e | e | e <;> subst e <;> decide +kernel
theorem bd_facts {b : Option Str} (h : ∀ x, b = some x → x ∈ six) : (b.getD "-").length ≤ 2 ∧ 32 ∉ (b.getD "-").cps.toList ∧ 59 ∉ (b.getD "-").cps.toList := by
  cases b with
  | none => decide +kernel
  | some x => obtain ⟨h1, h2, h3, _⟩ := six_facts x (h x rfl); exact ⟨h1, h2, h3⟩
theorem words_ok {p : Pt} (h : WOk p) : words p ≠ [] ∧ (words p).length ≤ 3 ∧ ∀ w ∈ words p, w.length ≤ 8 ∧ 32 ∉ w.cps.toList ∧ 59 ∉ w.cps.toList := by
  cases p with
  | op => exact ⟨by simp [words], by simp [words], fun w hw => by simp only [words, List.mem_singleton] at hw; subst hw; decide +kernel⟩
  | cl lo hi =>
    obtain ⟨h1, h2, h3⟩ := h
    obtain ⟨_, _, a1, a2, a3⟩ := nS_ok lo (by omega)
    obtain ⟨_, _, b1, b2, b3⟩ := nS_ok hi (by omega)
    refine ⟨by simp [words], by simp [words], fun w hw => ?_⟩
    simp only [words, List.mem_cons, List.not_mem_nil, or_false] at hw
    rcases hw with e | e | e
    · subst e; decide +kernel
    · subst e; exact ⟨by omega, a2, a3⟩
    · subst e; exact ⟨by omega, b2, b3⟩
  | as r =>
    obtain ⟨h1, h2⟩ := h
    obtain ⟨_, _, a1, a2, a3⟩ := nS_ok r (by omega)
    refine ⟨by simp [words], by simp [words], fun w hw => ?_⟩
    simp only [words, List.mem_cons, List.not_mem_nil, or_false] at hw
    rcases hw with e | e
    · subst e; decide +kernel
    · subst e; exact ⟨by omega, a2, a3⟩
  | rw n b =>
    obtain ⟨h1, h2⟩ := h
    obtain ⟨a1, a2, a3⟩ := eight_facts n h1
    obtain ⟨b1, b2, b3⟩ := bd_facts h2
    refine ⟨by simp [words], by simp [words], fun w hw => ?_⟩
    simp only [words, List.mem_cons, List.not_mem_nil, or_false] at hw
    rcases hw with e | e
    · subst e; exact ⟨a1, a2, a3⟩
    · subst e; exact ⟨by omega, b2, b3⟩
theorem blank_eq : (" " : Str) = ⟨#[32]⟩ := by decide +kernel
theorem sep_eq : ("; " : Str) = sep2 := by decide +kernel
theorem split_wr {p : Pt} (h : WOk p) : Txt.split (wr p) " " = words p := by
  obtain ⟨h1, _, h2⟩ := words_ok h
  unfold wr
  rw [blank_eq]
  exact split_join1 (by decide) h1 fun z hz => (h2 z hz).2.1
theorem join_len : ∀ (ws : List Str), (∀ w ∈ ws, w.length ≤ 8) → (Str.join " " ws).length ≤ 9 * ws.length
  | [], _ => by decide +kernel
  | [w], h => by
    have := h w (by simp)
    show w.length ≤ _
    simp
    omega
  | w :: v :: r, h => by
    have h1 := h w (by simp)
    have ih := join_len (v :: r) fun z hz => h z (List.mem_cons_of_mem _ hz)
    show (w ++ (" " : Str) ++ Str.join " " (v :: r)).length ≤ _
    rw [Str.length_append, Str.length_append]
    have e : (" " : Str).length = 1 := by decide +kernel
    simp only [List.length_cons] at ih ⊢
    omega
theorem wr_len {p : Pt} (h : WOk p) : (wr p).length ≤ 27 := by
  obtain ⟨_, h1, h2⟩ := words_ok h
  have := join_len (words p) fun w hw => (h2 w hw).1
  unfold wr
  omega
theorem join_no : ∀ (ws : List Str), (∀ w ∈ ws, 59 ∉ w.cps.toList) → 59 ∉ (Str.join " " ws).cps.toList
  | [], _ => by decide +kernel
  | [w], h => h w (by simp)
  | w :: v :: r, h => by
    have h1 := h w (by simp)
    have ih := join_no (v :: r) fun z hz => h z (List.mem_cons_of_mem _ hz)
    show 59 ∉ (w ++ (" " : Str) ++ Str.join " " (v :: r)).cps.toList
    have e : ¬ 59 ∈ (" " : Str).cps.toList := by decide +kernel
    rw [Str.cps_append, Str.cps_append]
    simp only [Array.toList_append, List.mem_append, not_or]
    exact ⟨⟨h1, e⟩, ih⟩
theorem wr_no {p : Pt} (h : WOk p) : 59 ∉ (wr p).cps.toList := by
  obtain ⟨_, _, h2⟩ := words_ok h
  exact join_no (words p) fun w hw => (h2 w hw).2.2
theorem glued_len : ∀ (sep : Str) (ts : List Str), (Str.join sep ts).length ≤ (ts.map (·.length)).sum + ts.length * sep.length
  | sep, [] => by show (Str.empty).length ≤ _; have : Str.empty.length = 0 := by decide +kernel
                  omega
  | sep, [w] => by
    show w.length ≤ _
    simp
  | sep, w :: v :: r => by
    have ih := glued_len sep (v :: r)
    show (w ++ sep ++ Str.join sep (v :: r)).length ≤ _
    rw [Str.length_append, Str.length_append]
    simp only [List.map_cons, List.sum_cons, List.length_cons, Nat.succ_mul] at ih ⊢
    omega
theorem joinOk_of {sep : Str} {ts : List Str} (h : (ts.map (·.length)).sum + ts.length * sep.length ≤ 10000) : JoinOk sep ts = true := by
  unfold JoinOk Builtin.Str.tooLong
  rw [StrLaws.joinTotal]
  have : (10000 : Nat) ≤ sizeLine := by decide
  simp
  omega
theorem sum_le {k : Nat} : ∀ {ts : List Str}, (∀ t ∈ ts, t.length ≤ k) → (ts.map (·.length)).sum ≤ ts.length * k
  | [], _ => by simp
  | t :: r, h => by
    have h1 := h t (by simp)
    have ih := sum_le (ts := r) fun z hz => h z (List.mem_cons_of_mem _ hz)
    simp only [List.map_cons, List.sum_cons, List.length_cons, Nat.succ_mul]
    omega
end My
namespace My
open PySem L2 MR
theorem r1 : ¬ (("(" : Str) = "row") := by decide
theorem r2 : ¬ ((")" : Str) = "row") := by decide
theorem r3 : ¬ (("as" : Str) = "row") := by decide
theorem bl1 : (" " : Str).length = 1 := by decide +kernel
theorem join_wr {ws : List Str} (h : ∀ w ∈ ws, w.length ≤ 8) (hl : ws.length ≤ 3) : JoinOk (" " : Str) ws = true := joinOk_of (by
  have h1 := sum_le h
  rw [bl1]
  omega)
/-- str of each in a part that is no row -/
theorem comp_str {p : Pt} {ce : MR.Env → Option PV} (hce : ce = b1 strV (bV 0)) (h : WOk p) (hr : hdS p ≠ "row") : ∃ xs, ptP p = .tup xs ∧ xs.length ≤ 3 ∧ compL [none] (gN 0) tTrue ce xs = some ((words p).map .str) := by
  subst hce
  cases p with
  | op => exact ⟨_, rfl, by simp, by simp [compL, words]⟩
  | cl lo hi =>
    obtain ⟨h1, h2, h3⟩ := h
    have a := (nS_ok lo (by omega)).1
    have b := (nS_ok hi (by omega)).1
    exact ⟨_, rfl, by simp, by simp [compL, words, a, b]⟩
  | as r =>
    obtain ⟨h1, h2⟩ := h
    have a := (nS_ok r (by omega)).1
    exact ⟨_, rfl, by simp, by simp [compL, words, a]⟩
  | rw n b => exact absurd rfl hr
theorem row_text {n : Str} {b : Option Str} (h : WOk (.rw n b)) : n.length + (" " : Str).length ≤ 1000000 ∧ (n ++ (" " : Str)).length + (b.getD "-").length ≤ 1000000 ∧ wr (.rw n b) = n ++ (" " : Str) ++ b.getD "-" := by
  obtain ⟨h1, h2⟩ := h
  have a1 := (eight_facts n h1).1
  have b1 := (bd_facts h2).1
  have e := bl1
  refine ⟨by omega, by rw [Str.length_append]; omega, rfl⟩
theorem text_turn {p : Pt} (h : WOk p) {l : List Pt} (hl : l.length < 1000) {M : PV} :
    turn (gN 2) [2] lb__law_text_2 (ptP p) [some M, some (.lst ((l.map wr).map .str)), none] = some [some M, some (.lst (((l ++ [p]).map wr).map .str)), none] := by
  have hl' : l.length < 1000000 := by omega
  by_cases hr : hdS p = "row"
  · cases p with
    | op => exact absurd hr r1
    | cl lo hi => exact absurd hr r2
    | as r => exact absurd hr r3
    | rw n b =>
      obtain ⟨k1, k2, k3⟩ := row_text h
      rw [List.map_append, List.map_append, List.map_singleton, List.map_singleton, k3]
      cases b with
      | none => 
        simp only [Option.getD_none] at k2 ⊢
        simp [turn_ap, lb__law_text_2, ptP, bdP, k1, k2, hl']
      | some x =>
        simp only [Option.getD_some] at k2 ⊢
        simp [turn_ap, lb__law_text_2, ptP, bdP, k1, k2, hl']
  · obtain ⟨xs, e, hx, hc⟩ := comp_str (ce := ce__law_text_1) rfl h hr
    obtain ⟨w1, w2, w3⟩ := words_ok h
    have hj := join_wr (fun w hw => (w3 w hw).1) w2
    have hs := strsP_all (words p)
    have h0 := ix0 p
    have hle : xs.length ≤ 1000000 := by omega
    have hw : wr p = Str.join " " (words p) := rfl
    rw [e] at h0
    rw [List.map_append, List.map_append, List.map_singleton, List.map_singleton, hw, e]
    generalize words p = WP at *
    generalize hdS p = HD at *
    simp [turn_ap, lb__law_text_2, -ixP, h0, hr, hc, hj, hs, hle, hl', itV]
def txtF (l : List Pt) : Str := Str.join "; " (l.map wr)
theorem join_f {l : List Pt} (h : ∀ p ∈ l, WOk p) (hl : l.length < 20) : JoinOk ("; " : Str) (l.map wr) = true := joinOk_of (by
  have h1 := sum_le (ts := l.map wr) (k := 27) fun t ht => by
    obtain ⟨p, hp, rfl⟩ := List.mem_map.mp ht
    exact wr_len (h p hp)
  have e : ("; " : Str).length = 2 := by decide +kernel
  rw [List.length_map] at h1 ⊢
  rw [e]
  omega)
theorem txtF_len {l : List Pt} (h : ∀ p ∈ l, WOk p) (hl : l.length < 20) : (txtF l).length ≤ 1000000 := by
  have h0 := glued_len "; " (l.map wr)
  have h1 := sum_le (ts := l.map wr) (k := 27) fun t ht => by
    obtain ⟨p, hp, rfl⟩ := List.mem_map.mp ht
    exact wr_len (h p hp)
  have e : ("; " : Str).length = 2 := by decide +kernel
  rw [List.length_map] at h0 h1
  rw [e] at h0
  unfold txtF
  omega
theorem split_txt {l : List Pt} (h : ∀ p ∈ l, WOk p) (hn : l ≠ []) : Txt.split (txtF l) "; " = l.map wr := by
  unfold txtF
  rw [sep_eq]
  exact split_join2 (by simpa using hn) fun w hw => by
    obtain ⟨p, hp, rfl⟩ := List.mem_map.mp hw
    exact wr_no (h p hp)
theorem mi_text {l : List Pt} (h : ∀ p ∈ l, WOk p) (hl : l.length < 20) : mi__law_text [tP l] = some (.str (txtF l)) := by
  obtain ⟨l', ⟨d, e1, e2⟩, lp⟩ := loopS_ex (g := gN 2) (ds := [2]) (body := lb__law_text_2) ptP (fun l' : List Pt => [some (tP l), some (.lst ((l'.map wr).map .str)), none])
    (fun r l' => ∃ d, l = d ++ r ∧ l' = d)
    (fun s r l' ⟨d, e1, e2⟩ => by
      subst e2
      have hd : l'.length < 1000 := by have := congrArg List.length e1; simp at this; omega
      exact ⟨l' ++ [s], ⟨l' ++ [s], by rw [e1]; simp, rfl⟩, text_turn (h s (by rw [e1]; simp)) hd⟩)
    l [] ⟨[], rfl, rfl⟩
  rw [List.append_nil] at e1
  rw [e2, ← e1] at lp
  have h1 := join_f h hl
  have h2 := strsP_all (l.map wr)
  simp only [List.map_nil] at lp
  have hm : tP l = .tup (l.map ptP) := rfl
  have ht : txtF l = Str.join "; " (l.map wr) := rfl
  rw [hm] at lp ⊢
  rw [ht]
  generalize l.map wr = ts at *
  simp [mi__law_text, fb__law_text, lp, h1, h2]
theorem mi_wpart {p : Pt} (h : WOk p) : mi_written_part [ptP p] = some (.str (wr p)) := by
  by_cases hr : hdS p = "row"
  · cases p with
    | op => exact absurd hr r1
    | cl lo hi => exact absurd hr r2
    | as r => exact absurd hr r3
    | rw n b =>
      obtain ⟨k1, k2, k3⟩ := row_text h
      rw [k3]
      cases b with
      | none =>
        simp only [Option.getD_none] at k2 ⊢
        simp [mi_written_part, fb_written_part, ptP, bdP, k1, k2]
      | some x =>
        simp only [Option.getD_some] at k2 ⊢
        simp [mi_written_part, fb_written_part, ptP, bdP, k1, k2]
  · obtain ⟨xs, e, hx, hc⟩ := comp_str (ce := ce_written_part_1) rfl h hr
    obtain ⟨w1, w2, w3⟩ := words_ok h
    have hj := join_wr (fun w hw => (w3 w hw).1) w2
    have hs := strsP_all (words p)
    have h0 := ix0 p
    have hle : xs.length ≤ 1000000 := by omega
    have hw : wr p = Str.join " " (words p) := rfl
    rw [e] at h0
    rw [hw, e]
    generalize words p = WP at *
    generalize hdS p = HD at *
    simp [mi_written_part, fb_written_part, -ixP, h0, hr, hc, hj, hs, hle, itV]
theorem mi_wform {l : List Pt} (h : ∀ p ∈ l, WOk p) (hl : l.length < 20) : mi_written_form [tP l] = some (.str (txtF l)) := by
  have hc := compL_map (env := [none]) (g := gN 0) (f := ce_written_form_1) ptP (fun p => PV.str (wr p)) l fun p hp => ⟨[some (ptP p)], rfl, by
    have := mi_wpart (h p hp)
    simp [ce_written_form_1, this]⟩
  have h1 := join_f h hl
  have h2 := strsP_all (l.map wr)
  have hle : (l.map ptP).length ≤ 1000000 := by rw [List.length_map]; omega
  have e : (l.map fun p => PV.str (wr p)) = (l.map wr).map PV.str := by simp
  rw [e] at hc
  have hm : tP l = .tup (l.map ptP) := rfl
  have ht : txtF l = Str.join "; " (l.map wr) := rfl
  rw [hm, ht]
  generalize l.map wr = ts at *
  generalize l.map ptP = LP at *
  simp [mi_written_form, fb_written_form, hc, h1, h2, hle, itV]
end My
/-! ## a part is read -/
namespace My
open PySem L2 MR
def rdP : Pt → PV
  | .op => c_OPENING
  | p => ptP p
theorem eqvAll_strs : ∀ ws vs : List Str, PyData.eqvAll (ws.map PyData.str) (vs.map PyData.str) = decide (ws = vs)
  | [], [] => by simp [PyData.eqvAll]
  | [], v :: vs => by simp [PyData.eqvAll]
  | w :: ws, [] => by simp [PyData.eqvAll]
  | w :: ws, v :: vs => by
    have ih := eqvAll_strs ws vs
    simp only [List.map_cons, PyData.eqvAll, PyData.eqv, ih, List.cons.injEq]
    by_cases h : w = v
    · subst h; simp
    · have : (w == v) = false := by simpa using h
      simp [this, h]
theorem toDs_strs : ∀ ws : List Str, toDs (ws.map PV.str) = some (ws.map PyData.str)
  | [] => rfl
  | w :: ws => by simp [toDs, toD, toDs_strs ws]
theorem lay_strs : ∀ ws : List Str, (∀ w ∈ ws, PyData.strOk w = true) → PyData.canLayAll0 (ws.map PyData.str) = true ∧ PyData.depthAll (ws.map PyData.str) ≤ 0
  | [], _ => ⟨rfl, Nat.le_refl _⟩
  | w :: ws, h => by
    obtain ⟨h1, h2⟩ := lay_strs ws fun z hz => h z (List.mem_cons_of_mem _ hz)
    have h3 := h w (by simp)
    exact ⟨by simp [PyData.canLayAll0, PyData.canLay0, h3, h1], by simp only [List.map_cons, PyData.depthAll, PyData.depth]; omega⟩
theorem shaped_strs {ws : List Str} (h : ∀ w ∈ ws, PyData.strOk w = true) : SeqAt.shaped (.list (ws.map PyData.str)) = true := by
  obtain ⟨h1, h2⟩ := lay_strs ws h
  have h3 : (PyData.list (ws.map PyData.str)).canLay0 = true := by simp [PyData.canLay0, h1]
  have h4 : (PyData.list (ws.map PyData.str)).depth ≤ 64 := by simp only [PyData.depth]; omega
  simp [SeqAt.shaped, h3, h4]
theorem eqP_strs {ws vs : List Str} (h : ∀ w ∈ ws, PyData.strOk w = true) (h' : ∀ w ∈ vs, PyData.strOk w = true) : eqP (.lst (ws.map .str)) (.lst (vs.map .str)) = some (decide (ws = vs)) := by
  have a := shaped_strs h
  have b := shaped_strs h'
  simp [eqP, eqS, eqD, toD, toDs_strs, a, b, PyData.eqv, eqvAll_strs]
theorem nS_ok2 : ∀ k : Nat, k ≤ 12 → PyData.strOk (nS k) = true := by
  intro k hk
  rcases (show k = 0 ∨ k = 1 ∨ k = 2 ∨ k = 3 ∨ k = 4 ∨ k = 5 ∨ k = 6 ∨ k = 7 ∨ k = 8 ∨ k = 9 ∨ k = 10 ∨ k = 11 ∨ k = 12 by omega) with h | h | h | h | h | h | h | h | h | h | h | h | h <;> subst h <;> decide +kernel
theorem words_str {p : Pt} (h : WOk p) : ∀ w ∈ words p, PyData.strOk w = true := by
  have k1 : PyData.strOk ("(" : Str) = true := by decide +kernel
  have k2 : PyData.strOk (")" : Str) = true := by decide +kernel
  have k3 : PyData.strOk ("as" : Str) = true := by decide +kernel
  have k4 : PyData.strOk ("-" : Str) = true := by decide +kernel
  intro w hw
  cases p with
  | op => simp only [words, List.mem_singleton] at hw; subst hw; exact k1
  | cl lo hi =>
    obtain ⟨h1, h2, h3⟩ := h
    simp only [words, List.mem_cons, List.not_mem_nil, or_false] at hw
    rcases hw with e | e | e
    · subst e; exact k2
    · subst e; exact nS_ok2 lo (by omega)
    · subst e; exact nS_ok2 hi (by omega)
  | as r =>
    obtain ⟨h1, h2⟩ := h
    simp only [words, List.mem_cons, List.not_mem_nil, or_false] at hw
    rcases hw with e | e
    · subst e; exact k3
    · subst e; exact nS_ok2 r (by omega)
  | rw n b =>
    obtain ⟨h1, h2⟩ := h
    simp only [words, List.mem_cons, List.not_mem_nil, or_false] at hw
    rcases hw with e | e
    · subst e; exact eightN_ok _ h1
    · subst e
      cases b with
      | none => exact k4
      | some x => exact six_ok x (h2 x rfl)
theorem words_op {p : Pt} (h : WOk p) : eqP (.lst ((words p).map .str)) (.lst [.str "("]) = some (decide (words p = ([("(" : Str)] : List Str))) := by
  have := eqP_strs (words_str h) (vs := [("(" : Str)]) (fun w hw => by rw [List.mem_singleton] at hw; subst hw; decide +kernel)
  exact this
theorem low_in : ∀ k : Nat, k ≤ 4 → inP (.str (nS k)) c_LOWS = some true := by
  intro k hk
  rcases (show k = 0 ∨ k = 1 ∨ k = 2 ∨ k = 3 ∨ k = 4 by omega) with h | h | h | h | h <;> subst h <;> decide +kernel
theorem high_in : ∀ k : Nat, 1 ≤ k → k ≤ 4 → inP (.str (nS k)) c_HIGHS = some true := by
  intro k h0 hk
  rcases (show k = 1 ∨ k = 2 ∨ k = 3 ∨ k = 4 by omega) with h | h | h | h <;> subst h <;> decide +kernel
theorem mi_rend {lo hi : Nat} (h : WOk (.cl lo hi)) : mi_read_ending [.str (nS lo), .str (nS hi)] = some (ptP (.cl lo hi)) := by
  obtain ⟨h1, h2, h3⟩ := h
  have a1 := low_in lo (by omega)
  have a2 := high_in hi h2 h3
  have b1 := (nS_ok lo (by omega)).2.1
  have b2 := (nS_ok hi (by omega)).2.1
  have h4 : ¬ hi < lo := by omega
  generalize nS lo = L at *
  generalize nS hi = HH at *
  simp [mi_read_ending, fb_read_ending, a1, a2, b1, b2, h4, ptP]
def twelve : List Str := ["1", "2", "3", "4", "5", "6", "7", "8", "9", "10", "11", "12"]
theorem tw_comp : compL [none] (gN 0) tTrue ce_is_row_number_1 (rngV 1 13) = some (twelve.map .str) := by
  have hr : rngV 1 13 = (List.range' 1 12).map fun k => PV.int (k : Nat) := rfl
  have hm : twelve.map PV.str = (List.range' 1 12).map fun k => PV.str (nS k) := by
    have : twelve = (List.range' 1 12).map nS := by decide +kernel
    rw [this, List.map_map]
    rfl
  rw [hr, hm]
  exact compL_map _ _ _ fun k hk => ⟨_, rfl, by
    obtain ⟨i, hi, rfl⟩ := List.mem_range'.mp hk
    generalize 1 + 1 * i = k at *
    have := (nS_ok k (by have := List.mem_range'.mp hk; omega)).1
    simp [ce_is_row_number_1, this]⟩
theorem mi_rno (x : Str) : mi_is_row_number [.str x] = some (.bl (decide (x ∈ twelve))) := by
  have r1 : rgI 1 = true := rgI_of (by omega) (by omega)
  have r2 : rgI 13 = true := rgI_of (by omega) (by omega)
  have hc := tw_comp
  have hi := inP_strs x twelve
  generalize twelve.map PV.str = TW at *
  have hl : (rngV 1 13).length ≤ 1000000 := by decide
  simp [mi_is_row_number, fb_is_row_number, r1, r2, hc, hi, hl]
end My
namespace My
open PySem L2 MR
theorem eight_chars : ∀ x ∈ eightN, 1 ≤ x.length ∧ ∀ c ∈ x.cps.toList, inP (.str ⟨#[c]⟩) (.str "abcdefghijklmnopqrstuvwxyz") = some true := by
  intro x hx
  simp only [eightN, List.mem_cons, List.not_mem_nil, or_false] at hx
  rcases hx with e | e | e | e | e | e | e | e <;> subst e <;> decide +kernel
theorem mi_isname {n : Str} (h : n ∈ eightN) : mi_is_name [.str n] = some (.bl true) := by
  obtain ⟨a1, a2⟩ := eight_chars n h
  have a3 := (eight_facts n h).1
  have h1 : n.length ≤ 1000000 := by omega
  have h2 : (1 : Int) ≤ (n.length : Int) := by omega
  have h3 : (n.length : Int) ≤ 8 := by omega
  have hl : n.cps.size ≤ 1000000 := by simpa [Str.length] using h1
  have hc := compL_map (env := [none]) (g := gN 0) (f := ce_is_name_1) (fun c : Nat => PV.str ⟨#[c]⟩) (fun _ => PV.bl true) n.cps.toList (fun c hc => ⟨[some (.str ⟨#[c]⟩)], rfl, by simp [ce_is_name_1, a2 c hc]⟩)
  have hb := bools_true n.cps.toList
  have hv : chV n = n.cps.toList.map fun c => PV.str ⟨#[c]⟩ := rfl
  simp [hv, mi_is_name, fb_is_name, h1, h2, h3, hl, hc, hb]
theorem six_in : ∀ x ∈ six, x.length = 1 ∧ ∃ k, inP (.str x) (.str "abcdefghijklmnopqrstuvwxyz") = some k ∧ (k = false → inP (.str x) (.str "ABCDEFGHIJKLMNOPQRSTUVWXYZ") = some true) := by
  intro x hx
  simp only [six, List.mem_cons, List.not_mem_nil, or_false] at hx
  rcases hx with e | e | e | e | e | e <;> subst e
  · exact ⟨by decide +kernel, true, by decide +kernel, fun z => by cases z⟩
  · exact ⟨by decide +kernel, true, by decide +kernel, fun z => by cases z⟩
  · exact ⟨by decide +kernel, true, by decide +kernel, fun z => by cases z⟩
  · exact ⟨by decide +kernel, false, by decide +kernel, fun _ => by decide +kernel⟩
  · exact ⟨by decide +kernel, false, by decide +kernel, fun _ => by decide +kernel⟩
  · exact ⟨by decide +kernel, true, by decide +kernel, fun z => by cases z⟩
theorem mi_isbond {b : Option Str} (h : ∀ x, b = some x → x ∈ six) : mi_is_bond [.str (b.getD "-")] = some (.bl true) := by
  cases b with
  | none => simp [mi_is_bond, fb_is_bond]
  | some x =>
    obtain ⟨h1, k, h2, h3⟩ := six_in x (h x rfl)
    have h4 := (six_facts x (h x rfl)).2.2.2
    have hl : mi_is_letter [.str x] = some (.bl k) := by
      simp [mi_is_letter, fb_is_letter, h1, h2]
    cases k with
    | true => simp [mi_is_bond, fb_is_bond, h4, hl]
    | false => simp [mi_is_bond, fb_is_bond, h4, hl, h1, h3 rfl]
theorem n_no12 : ∀ x ∈ twelve, x ≠ "-" ∧ x ∉ six := by
  intro x hx
  simp only [twelve, List.mem_cons, List.not_mem_nil, or_false] at hx
  rcases hx with e | e | e | e | e | e | e | e | e | e | e | e <;> subst e <;> decide +kernel
theorem in12 : ∀ k : Nat, 1 ≤ k → k ≤ 12 → nS k ∈ twelve := by
  intro k h0 hk
  rcases (show k = 1 ∨ k = 2 ∨ k = 3 ∨ k = 4 ∨ k = 5 ∨ k = 6 ∨ k = 7 ∨ k = 8 ∨ k = 9 ∨ k = 10 ∨ k = 11 ∨ k = 12 by omega) with h | h | h | h | h | h | h | h | h | h | h | h <;> subst h <;> decide +kernel
theorem mi_rpart {p : Pt} (h : WOk p) : mi_read_part [.str (wr p)] = some (rdP p) := by
  have hs := split_wr h
  have hl : (wr p).length ≤ 1000000 := by have := wr_len h; omega
  have hb1 : (((" " : Str)).length == 0) = false := by decide +kernel
  have ho := words_op h
  have s1 : sSet 1 (b2 splitV (bV 0) (bC (.str " "))) [some (.str (wr p)), none] = some (.nx [some (.str (wr p)), some (.lst ((words p).map .str))]) := by
    simp [hs, hl, bl1]
  have hb : fb_read_part [some (.str (wr p)), none] = some (.rt (rdP p)) := by
    unfold fb_read_part
    rw [sSeq_nx s1]
    generalize wr p = W at *
    clear s1 hs
    cases p with
    | op =>
      have hw : (words .op).map PV.str = [PV.str "("] := rfl
      rw [show words .op = [("(" : Str)] from rfl, decide_eq_true rfl] at ho
      rw [hw]
      have ho : eqP (.lst [.str ("(" : Str)]) (.lst [.str ("(" : Str)]) = some true := ho
      simp [ho, rdP]
    | cl lo hi =>
      have hr := mi_rend h
      have hw : (words (.cl lo hi)).map PV.str = [.str ")", .str (nS lo), .str (nS hi)] := rfl
      rw [decide_eq_false (by simp [words]), hw] at ho
      rw [hw]
      have e : rdP (.cl lo hi) = ptP (.cl lo hi) := rfl
      rw [e]
      generalize nS lo = L at *
      generalize nS hi = HH at *
      generalize ptP (.cl lo hi) = PP at *
      generalize mi_read_ending = MM at *
      simp [ho, hr]
    | as r =>
      have hr := mi_rno (nS r)
      rw [decide_eq_true (in12 r h.1 h.2)] at hr
      have hn := (nS_ok r h.2).2.1
      have hw : (words (.as r)).map PV.str = [.str "as", .str (nS r)] := rfl
      rw [decide_eq_false (by simp [words]), hw] at ho
      rw [hw]
      have q3 := e3
      generalize nS r = R at *
      generalize mi_is_row_number = MM at *
      simp [ho, hr, hn, rdP, ptP, q3]
    | rw n b =>
      obtain ⟨h1, h2⟩ := h
      have a1 := mi_isname h1
      have a2 := mi_isbond h2
      have hr := mi_rno (b.getD "-")
      have hnb : b.getD "-" ∉ twelve := fun z => by
        obtain ⟨z1, z2⟩ := n_no12 _ z
        cases b with
        | none => exact z1 rfl
        | some x => exact z2 (h2 x rfl)
      rw [decide_eq_false hnb] at hr
      have hw : (words (.rw n b)).map PV.str = [.str n, .str (b.getD "-")] := rfl
      rw [decide_eq_false (by simp [words]), hw] at ho
      rw [hw]
      have e : rdP (.rw n b) = .tup [.str "row", .str n, bdP b] := rfl
      rw [e]
      generalize mi_is_row_number = MM at *
      generalize mi_is_name = MN at *
      generalize mi_is_bond = MB at *
      have hb' : (if b.getD ("-" : Str) = ("-" : Str) then some PV.non else some (.str (b.getD ("-" : Str)))) = some (bdP b) := by
        cases b with
        | none => rfl
        | some x =>
          have := (six_facts x (h2 x rfl)).2.2.2
          show (if x = ("-" : Str) then some PV.non else some (.str x)) = some (.str x)
          rw [if_neg this]
      generalize b.getD ("-" : Str) = BB at *
      have q0 : ∀ f : MR.Env → Option Out, sSeq (sIf (tV (b2 eqQ (bV 1) (bLst (bCons (bC (.str "(")) bNil)))) (sRet (bC c_OPENING)) sNx) f [some (.str W), some (.lst [.str n, .str BB])] = f [some (.str W), some (.lst [.str n, .str BB])] := fun f => sSeq_nx (by simp [ho])
      have q1 : ∀ f : MR.Env → Option Out, sSeq (sIf (tA (tV (b2 eqQ (b1 lenV (bV 1)) (bC (.int 3)))) (tV (b2 eqQ (b2 ixP (bV 1) (bC (.int 0))) (bC (.str ")"))))) (sRet (bCall mi_read_ending (bCons (b2 ixP (bV 1) (bC (.int 1))) (bCons (b2 ixP (bV 1) (bC (.int 2))) bNil)))) sNx) f [some (.str W), some (.lst [.str n, .str BB])] = f [some (.str W), some (.lst [.str n, .str BB])] := fun f => sSeq_nx (by simp)
      have q2 : ∀ f : MR.Env → Option Out, sSeq (sIf (tV (b2 neQ (b1 lenV (bV 1)) (bC (.int 2)))) (sRet (bC .non)) sNx) f [some (.str W), some (.lst [.str n, .str BB])] = f [some (.str W), some (.lst [.str n, .str BB])] := fun f => sSeq_nx (by simp)
      have q3 : ∀ f : MR.Env → Option Out, sSeq (sIf (tA (tV (b2 eqQ (b2 ixP (bV 1) (bC (.int 0))) (bC (.str "as")))) (tV (bCall MM (bCons (b2 ixP (bV 1) (bC (.int 1))) bNil)))) (sRet (bTup (bCons (bC (.str "as")) (bCons (b1 intV2 (b2 ixP (bV 1) (bC (.int 1)))) bNil)))) sNx) f [some (.str W), some (.lst [.str n, .str BB])] = f [some (.str W), some (.lst [.str n, .str BB])] := fun f => sSeq_nx (by
        by_cases hz : n = ("as" : Str)
        · simp [hz, hr]
        · simp [hz])
      have q4 : ∀ f : MR.Env → Option Out, sSeq (sIf (tA (tV (bCall MN (bCons (b2 ixP (bV 1) (bC (.int 0))) bNil))) (tV (bCall MB (bCons (b2 ixP (bV 1) (bC (.int 1))) bNil)))) (sRet (bTup (bCons (bC (.str "row")) (bCons (b2 ixP (bV 1) (bC (.int 0))) (bCons (bIf (tV (b2 eqQ (b2 ixP (bV 1) (bC (.int 1))) (bC (.str "-")))) (bC .non) (b2 ixP (bV 1) (bC (.int 1)))) bNil))))) sNx) f [some (.str W), some (.lst [.str n, .str BB])] = some (.rt (.tup [.str "row", .str n, bdP b])) := fun f => sSeq_rt (by
        by_cases hy : BB = ("-" : Str)
        · rw [if_pos hy] at hb'
          rw [← Option.some.inj hb']
          rw [hy] at a2 ⊢
          simp [a1, a2]
        · rw [if_neg hy] at hb'
          rw [← Option.some.inj hb']
          simp [a1, a2, hy])
      rw [q0, q1, q2, q3, q4]
  unfold mi_read_part
  generalize fb_read_part = B at *
  simp [hb]
end My
/-! ## parts that are read: as data, the form's end and opening, cut -/
namespace My
open PySem L2 MR
def bdD : Option Str → PyData
  | none => .none
  | some x => .str x
def pD : Pt → PyData
  | .op => .tuple [.str "("]
  | .cl lo hi => .tuple [.str ")", .int (lo : Nat), .int (hi : Nat)]
  | .as r => .tuple [.str "as", .int (r : Nat)]
  | .rw n b => .tuple [.str "row", .str n, bdD b]
theorem toD_pt (p : Pt) : toD (ptP p) = some (pD p) := by
  cases p with
  | op => simp [ptP, toD, toDs, pD]
  | cl lo hi => simp [ptP, toD, toDs, pD]
  | as r => simp [ptP, toD, toDs, pD]
  | rw n b => cases b <;> simp [ptP, toD, toDs, pD, bdP, bdD]
theorem toD_rd (p : Pt) : toD (rdP p) = some (pD p) := by
  cases p with
  | op => simp [rdP, c_OPENING, toD, toDs, pD]
  | cl lo hi => exact toD_pt (.cl lo hi)
  | as r => exact toD_pt (.as r)
  | rw n b => exact toD_pt (.rw n b)
theorem toDs_pt : ∀ l : List Pt, toDs (l.map ptP) = some (l.map pD)
  | [] => rfl
  | p :: l => by simp [toDs, toD_pt, toDs_pt l]
theorem toDs_rd : ∀ l : List Pt, toDs (l.map rdP) = some (l.map pD)
  | [] => rfl
  | p :: l => by simp [toDs, toD_rd, toDs_rd l]
theorem pD_ok {p : Pt} (h : WOk p) : (pD p).canLay0 = true ∧ (pD p).depth ≤ 1 ∧ PyData.eqv (pD p) (pD p) = true := by
  have k1 : PyData.strOk ("(" : Str) = true := by decide +kernel
  have k2 : PyData.strOk (")" : Str) = true := by decide +kernel
  have k3 : PyData.strOk ("as" : Str) = true := by decide +kernel
  have k4 : PyData.strOk ("row" : Str) = true := by decide +kernel
  cases p with
  | op => simp [pD, PyData.canLay0, PyData.canLayAll0, PyData.depth, PyData.depthAll, PyData.eqv, PyData.eqvAll, k1]
  | cl lo hi => simp [pD, PyData.canLay0, PyData.canLayAll0, PyData.depth, PyData.depthAll, PyData.eqv, PyData.eqvAll, k2]
  | as r => simp [pD, PyData.canLay0, PyData.canLayAll0, PyData.depth, PyData.depthAll, PyData.eqv, PyData.eqvAll, k3]
  | rw n b =>
    obtain ⟨h1, h2⟩ := h
    have k5 := eightN_ok n h1
    cases b with
    | none => simp [pD, bdD, PyData.canLay0, PyData.canLayAll0, PyData.depth, PyData.depthAll, PyData.eqv, PyData.eqvAll, k4, k5]
    | some x =>
      have k6 := six_ok x (h2 x rfl)
      simp [pD, bdD, PyData.canLay0, PyData.canLayAll0, PyData.depth, PyData.depthAll, PyData.eqv, PyData.eqvAll, k4, k5, k6]
theorem pDs_ok : ∀ {l : List Pt}, (∀ p ∈ l, WOk p) → PyData.canLayAll0 (l.map pD) = true ∧ PyData.depthAll (l.map pD) ≤ 1 ∧ PyData.eqvAll (l.map pD) (l.map pD) = true
  | [], _ => ⟨rfl, Nat.zero_le _, rfl⟩
  | p :: l, h => by
    obtain ⟨a1, a2, a3⟩ := pD_ok (h p (by simp))
    obtain ⟨b1, b2, b3⟩ := pDs_ok (l := l) fun z hz => h z (List.mem_cons_of_mem _ hz)
    refine ⟨by simp [PyData.canLayAll0, a1, b1], ?_, by simp [PyData.eqvAll, a3, b3]⟩
    simp only [List.map_cons, PyData.depthAll]
    omega
def isOp : Pt → Bool
  | .op => true
  | _ => false
theorem eqv_op (p : Pt) : PyData.eqv (pD p) (.tuple [.str "("]) = isOp p := by
  cases p with
  | op => decide +kernel
  | cl lo hi => simp [pD, PyData.eqv, PyData.eqvAll, isOp]
  | as r => simp [pD, PyData.eqv, PyData.eqvAll, isOp]
  | rw n b => simp [pD, PyData.eqv, PyData.eqvAll, isOp]
theorem toD_O : toD c_OPENING = some (.tuple [.str "("]) := by simp [c_OPENING, toD, toDs]
theorem shaped_O : SeqAt.shaped (.tuple [.str "("]) = true := by decide +kernel
theorem shaped_p {p : Pt} (h : WOk p) : SeqAt.shaped (pD p) = true := by
  obtain ⟨a1, a2, _⟩ := pD_ok h
  have : (pD p).depth ≤ 64 := by omega
  simp [SeqAt.shaped, a1, this]
theorem eqS_rd (p : Pt) : eqS (rdP p) c_OPENING = none := by
  cases p with
  | op => simp [rdP, c_OPENING]
  | cl lo hi => simp [rdP, ptP, c_OPENING]
  | as r => simp [rdP, ptP, c_OPENING]
  | rw n b => simp [rdP, ptP, c_OPENING]
theorem eq_O {p : Pt} (h : WOk p) : eqP (rdP p) c_OPENING = some (isOp p) := by
  have h1 := shaped_p h
  have h2 := shaped_O
  have h3 := eqv_op p
  unfold eqP
  rw [eqS_rd]
  simp only [eqD, toD_rd, toD_O, h1, h2, h3]
  rfl
theorem in_O {l : List Pt} (h : ∀ p ∈ l, WOk p) : inP c_OPENING (.lst (l.map rdP)) = some (l.any isOp) := by
  obtain ⟨b1, b2, _⟩ := pDs_ok h
  have hf : flatP c_OPENING = false := rfl
  have e : inP c_OPENING (.lst (l.map rdP)) = inD c_OPENING (l.map rdP) := by
    show (if flatP c_OPENING = true ∧ (l.map rdP).all flatP = true then some ((l.map rdP).any fun y => eqF y c_OPENING) else inD c_OPENING (l.map rdP)) = _
    rw [if_neg (by rw [hf]; simp)]
  rw [e]
  unfold inD
  rw [toD_O, toDs_rd]
  have c1 : (PyData.tuple [.str "("]).canLay0 = true := by decide +kernel
  have c2 : (PyData.tuple [.str "("]).depth ≤ 32 := by decide +kernel
  simp only
  rw [if_pos ⟨b1, c1, c2⟩, List.any_map]
  congr 2
  funext p
  exact eqv_op p
theorem rd_at (p : Pt) : ixP (rdP p) (.int 0) = some (.str (hdS p)) := by
  cases p with
  | op => exact at0 _ _
  | cl lo hi => exact ix0 (.cl lo hi)
  | as r => exact ix0 (.as r)
  | rw n b => exact ix0 (.rw n b)
/-! ### the end -/
def isCl (p : Pt) : Bool := decide (hdS p = (")" : Str))
theorem cl_its {l : List Pt} (h : Its l) : l.filter isCl = [] := by
  rw [List.filter_eq_nil_iff]
  intro p hp z
  exact (hd_it (h p hp)).2 (of_decide_eq_true z)
def endV (l : List Pt) : PV := match l.filter isCl with
  | [] => .non
  | p :: _ => ptP p
theorem rd_cl {p : Pt} (h : isCl p = true) : rdP p = ptP p := by
  cases p with
  | op => exact absurd (of_decide_eq_true h) e1
  | cl lo hi => rfl
  | as r => rfl
  | rw n b => rfl
theorem mi_endG {c : Pt → PV} {FP : PV} {l : List Pt} (hi : itV FP = some (l.map c)) (h0 : ∀ p, ixP (c p) (.int 0) = some (.str (hdS p))) (hc' : ∀ p, isCl p = true → c p = ptP p) (hl : l.length < 900) : mi_ending_of [FP] = some (endV l) := by
  have hc := compL_filter (env := [none]) (g := gN 0) (t := cc_ending_of_2) (f := ce_ending_of_1) c ptP isCl l fun p _ => ⟨[some (c p)], rfl, by
    have e := h0 p
    unfold isCl
    by_cases q : hdS p = (")" : Str)
    · simp [cc_ending_of_2, -ixP, e, q]
    · simp [cc_ending_of_2, -ixP, e, q], fun hp => by simp [ce_ending_of_1, hc' p hp]⟩
  have hll : l.length ≤ 1000000 := by omega
  have hfl : (l.filter isCl).length ≤ 1000000 := Nat.le_trans (List.length_filter_le _ _) hll
  unfold mi_ending_of fb_ending_of endV
  generalize cc_ending_of_2 = cc at *
  generalize ce_ending_of_1 = ce at *
  have hmap : (l.map c).length ≤ 1000000 := by rw [List.length_map]; exact hll
  generalize l.map c = PP at *
  cases q : l.filter isCl with
  | nil =>
    rw [q] at hc
    simp only [List.map_nil] at hc
    simp [-itV, hi, hmap, hc]
  | cons p ps =>
    rw [q] at hc hfl
    have hpos : (0 : Int) < ((ps.length : Int) + 1) := by omega
    simp only [List.map_cons] at hc
    have hfl' : ps.length + 1 ≤ 1000000 := by simpa using hfl
    have hat : atI (ptP p :: ps.map ptP) 0 = some (ptP p) := atI_at (k := 0) rfl
    simp [-itV, hi, hmap, hc, hpos, hfl', hat]
def rP (l : List Pt) : PV := .lst (l.map rdP)
theorem mi_endR {l : List Pt} (hl : l.length < 900) : mi_ending_of [rP l] = some (endV l) := mi_endG (c := rdP) rfl rd_at (fun _ h => rd_cl h) hl
theorem mi_endT {l : List Pt} (hl : l.length < 900) : mi_ending_of [tP l] = some (endV l) := mi_endG (c := ptP) rfl ix0 (fun _ _ => rfl) hl
theorem endV_non {l : List Pt} (h : l.filter isCl = []) : endV l = .non := by unfold endV; rw [h]
theorem mi_open {l : List Pt} (h : ∀ p ∈ l, WOk p) (hl : l.length < 900) (hc : l.filter isCl = []) : mi_is_open [rP l] = some (.bl (l.any isOp)) := by
  have h1 := in_O h
  have h2 := mi_endR hl
  rw [endV_non hc] at h2
  have h1 : inP c_OPENING (rP l) = some (l.any isOp) := h1
  generalize rP l = FP at *
  unfold mi_is_open fb_is_open
  generalize mi_ending_of = m at *
  cases hb : l.any isOp with
  | true => rw [hb] at h1; simp [h1, h2]
  | false => rw [hb] at h1; simp [h1]
theorem mi_open2 {l : List Pt} {lo hi : Nat} (h : ∀ p ∈ l, WOk p) (hl : l.length < 900) (hc : ∃ r, l.filter isCl = .cl lo hi :: r) : mi_is_open [rP l] = some (.bl false) := by
  have h1 := in_O h
  have h2 := mi_endR hl
  obtain ⟨r, hc⟩ := hc
  have he : endV l = ptP (.cl lo hi) := by unfold endV; rw [hc]
  rw [he] at h2
  have h1 : inP c_OPENING (rP l) = some (l.any isOp) := h1
  generalize rP l = FP at *
  unfold mi_is_open fb_is_open
  generalize mi_ending_of = m at *
  cases hb : l.any isOp with
  | true => rw [hb] at h1; simp [h1, h2, ptP]
  | false => rw [hb] at h1; simp [h1]
end My
/-! ## the form that is read so far, cut -/
namespace My
open PySem L2 MR
def pA : Fm → List Pt
  | .f0 A => A
  | .f1 A _ => A
  | .f2 A _ _ _ _ => A
def pB : Fm → List Pt
  | .f0 _ => []
  | .f1 _ B => B
  | .f2 _ B _ _ _ => B
def pC : Fm → List Pt
  | .f2 _ _ _ _ C => C
  | _ => []
def FIts (f : Fm) : Prop := Its (pA f) ∧ Its (pB f) ∧ Its (pC f)
def numsP : Nat → List Pt → List (Nat × Pt)
  | _, [] => []
  | n, p :: l => (n + 1, p) :: numsP (n + 1) l
def nmP (z : Nat × Pt) : PV := .tup [.int (z.1 : Nat), ptP z.2]
def npV (n : Nat) (l : List Pt) : List PV := (numsP n l).map nmP
theorem numsP_len : ∀ (n : Nat) (l : List Pt), (numsP n l).length = l.length
  | _, [] => rfl
  | n, p :: l => by simp [numsP, numsP_len (n + 1) l]
theorem npV_len (n : Nat) (l : List Pt) : (npV n l).length = l.length := by simp [npV, numsP_len]
theorem ixN_lt {n k : Nat} (h : k < n) : ixN n (k : Int) = some k := by
  unfold ixN
  rw [if_pos (by omega)]
  simp [h]
theorem rd_it {p : Pt} (h : isIt p = true) : rdP p = ptP p := by
  cases p with
  | op => cases h
  | cl lo hi => rfl
  | as r => rfl
  | rw n b => rfl
theorem cut_turn {FP : PV} {W L : List PV} {at' n : Nat} {p : Pt} (hp : isIt p = true) (hw : W[at']? = some (.lst L)) (hl : L.length < 900) :
    turn (gH 1 (gN 4)) [4] (onx lb_cut_form_1) (rdP p) [some FP, some (.lst W), some (.int (at' : Nat)), some (.int (n : Nat)), none] = some [some FP, some (.lst (W.set at' (.lst (L ++ [nmP (n + 1, p)])))), some (.int (at' : Nat)), some (.int ((n + 1 : Nat) : Nat)), none] := by
  obtain ⟨r, e⟩ := hd_at p
  obtain ⟨h1, h2⟩ := hd_it hp
  have hlt : at' < W.length := by
    rcases Nat.lt_or_ge at' W.length with z | z
    · exact z
    · rw [List.getElem?_eq_none z] at hw; cases hw
  have hx := ixN_lt hlt
  have hl' : L.length < 1000000 := by omega
  have hn : nmP (n + 1, p) = .tup [.int ((n : Int) + 1), ptP p] := by simp [nmP]
  rw [hn, rd_it hp, e]
  generalize hdS p = hd at *
  simp [turn_ap, lb_cut_form_1, h1, h2, hx, hw, hl']
theorem cut_run {FP : PV} {at' : Nat} {rest : List PV} : ∀ (l : List Pt) {W L : List PV} {n : Nat}, Its l → W[at']? = some (.lst L) → L.length + l.length < 900 →
    loopS (gH 1 (gN 4)) [4] (onx lb_cut_form_1) (l.map rdP ++ rest) [some FP, some (.lst W), some (.int (at' : Nat)), some (.int (n : Nat)), none] = loopS (gH 1 (gN 4)) [4] (onx lb_cut_form_1) rest [some FP, some (.lst (W.set at' (.lst (L ++ npV n l)))), some (.int (at' : Nat)), some (.int ((n + l.length : Nat) : Nat)), none]
  | [], W, L, n, _, hw, _ => by
    have : W.set at' (.lst (L ++ npV n [])) = W := by
      rw [show npV n [] = [] from rfl, List.append_nil]
      obtain ⟨h1, h2⟩ := List.getElem?_eq_some_iff.mp hw
      rw [← h2, List.set_getElem_self]
    rw [this]
    rfl
  | p :: l, W, L, n, h, hw, hl => by
    simp only [List.length_cons] at hl
    have hlt : at' < W.length := (List.getElem?_eq_some_iff.mp hw).1
    rw [List.map_cons, List.cons_append, loopS_turn (cut_turn (h p List.mem_cons_self) hw (by omega)), cut_run l (fun q hq => h q (List.mem_cons_of_mem _ hq)) (List.getElem?_set_self hlt) (by simp; omega), List.set_set, List.append_assoc]
    rw [show n + 1 + l.length = n + (p :: l).length by simp; omega]
    rfl
theorem cut_sep {FP : PV} {W : List PV} {at' n : Nat} {p : Pt} (hp : isIt p = false) :
    turn (gH 1 (gN 4)) [4] (onx lb_cut_form_1) (rdP p) [some FP, some (.lst W), some (.int (at' : Nat)), some (.int (n : Nat)), none] = some [some FP, some (.lst W), some (.int ((at' + 1 : Nat) : Nat)), some (.int (n : Nat)), none] := by
  have q1 := e7
  cases p with
  | op => simp [turn_ap, lb_cut_form_1, rdP, c_OPENING]
  | cl lo hi => simp [turn_ap, lb_cut_form_1, rdP, ptP, q1]
  | as r => cases hp
  | rw n b => cases hp
def cutV (f : Fm) : PV := .lst [.lst (npV 0 (pA f)), .lst (npV (pA f).length (pB f)), .lst (npV ((pA f).length + (pB f).length) (pC f))]
theorem mi_cut {f : Fm} (hf : FIts f) (hl : (parts f).length < 20) : mi_cut_form [rP (parts f)] = some (cutV f) := by
  obtain ⟨h1, h2, h3⟩ := hf
  have lp : ∃ x2 x3, loopS (gH 1 (gN 4)) [4] (onx lb_cut_form_1) ((parts f).map rdP) [some (rP (parts f)), some (.lst [.lst [], .lst [], .lst []]), some (.int 0), some (.int 0), none] = some (.nx [some (rP (parts f)), some (cutV f), x2, x3, none]) := by
    generalize rP (parts f) = FP
    cases f with
    | f0 A =>
      have h1 : Its A := h1
      have := cut_run (FP := FP) (at' := 0) (rest := []) A (W := [.lst [], .lst [], .lst []]) (L := []) (n := 0) h1 rfl (by simp only [parts] at hl; simp; omega)
      rw [List.append_nil] at this
      refine ⟨some (.int ((0 : Nat) : Nat)), some (.int ((0 + A.length : Nat) : Nat)), ?_⟩
      show loopS (gH 1 (gN 4)) [4] (onx lb_cut_form_1) (A.map rdP) [some FP, some (.lst [.lst [], .lst [], .lst []]), some (.int ((0 : Nat) : Nat)), some (.int ((0 : Nat) : Nat)), none] = _
      rw [this]
      rfl
    | f1 A B =>
      have h1 : Its A := h1
      have h2 : Its B := h2
      simp only [parts, List.length_append, List.length_cons] at hl
      refine ⟨some (.int ((0 + 1 : Nat) : Nat)), some (.int ((0 + A.length + B.length : Nat) : Nat)), ?_⟩
      show loopS (gH 1 (gN 4)) [4] (onx lb_cut_form_1) ((A ++ .op :: B).map rdP) [some FP, some (.lst [.lst [], .lst [], .lst []]), some (.int ((0 : Nat) : Nat)), some (.int ((0 : Nat) : Nat)), none] = _
      rw [List.map_append, cut_run A h1 (L := []) rfl (by simp; omega), List.map_cons, loopS_turn (cut_sep rfl)]
      have e := cut_run (FP := FP) (at' := 0 + 1) (rest := []) B (W := [PV.lst [], .lst [], .lst []].set 0 (.lst ([] ++ npV 0 A))) (L := []) (n := 0 + A.length) h2 rfl (by simp; omega)
      rw [List.append_nil] at e
      rw [e]
      simp only [Nat.zero_add, List.nil_append]
      rfl
    | f2 A B lo hi C =>
      have h1 : Its A := h1
      have h2 : Its B := h2
      have h3 : Its C := h3
      simp only [parts, List.length_append, List.length_cons] at hl
      refine ⟨some (.int ((0 + 1 + 1 : Nat) : Nat)), some (.int ((0 + A.length + B.length + C.length : Nat) : Nat)), ?_⟩
      show loopS (gH 1 (gN 4)) [4] (onx lb_cut_form_1) ((A ++ .op :: (B ++ .cl lo hi :: C)).map rdP) [some FP, some (.lst [.lst [], .lst [], .lst []]), some (.int ((0 : Nat) : Nat)), some (.int ((0 : Nat) : Nat)), none] = _
      rw [List.map_append, cut_run A h1 (L := []) rfl (by simp; omega), List.map_cons, loopS_turn (cut_sep rfl), List.map_append, cut_run B h2 (L := []) rfl (by simp; omega), List.map_cons, loopS_turn (cut_sep rfl)]
      have e := cut_run (FP := FP) (at' := 0 + 1 + 1) (rest := []) C (W := ([PV.lst [], .lst [], .lst []].set 0 (.lst ([] ++ npV 0 A))).set (0 + 1) (.lst ([] ++ npV (0 + A.length) B))) (L := []) (n := 0 + A.length + B.length) h3 rfl (by simp; omega)
      rw [List.append_nil] at e
      rw [e]
      simp only [Nat.zero_add, List.nil_append]
      rfl
  obtain ⟨x2, x3, lp⟩ := lp
  have ht : rP (parts f) = .lst ((parts f).map rdP) := rfl
  have hb : fb_cut_form [some (rP (parts f)), none, none, none, none] = some (.rt (cutV f)) := by
    unfold fb_cut_form
    rw [ht] at lp ⊢
    generalize (parts f).map rdP = PP at *
    generalize cutV f = RP at *
    generalize lb_cut_form_1 = BB at *
    have e0 : List.replicate 3 (PV.lst []) = [.lst [], .lst [], .lst []] := rfl
    simp [itV, nInit, e0, lp]
  unfold mi_cut_form
  generalize fb_cut_form = B at *
  simp [hb]
/-! ### a row by its number -/
def rowQ (r : Nat) (z : Nat × Pt) : Bool := decide (z.1 = r) && decide (hdS z.2 = ("row" : Str))
theorem bools_map {α : Type} (g : α → Bool) : ∀ l : List α, bools (l.map fun x => PV.bl (g x)) = some (l.map g)
  | [] => rfl
  | w :: ws => by simp [bools_map g ws]
theorem comp_row {r : Nat} (zs : List (Nat × Pt)) : compL [none, none, some (.int (r : Nat))] (gT [0, 1]) tTrue ce_names_row_1 (zs.map nmP) = some (zs.map fun z => PV.bl (rowQ r z)) :=
  compL_map nmP _ zs fun z _ => ⟨[some (.int (z.1 : Nat)), some (ptP z.2), some (.int (r : Nat))], by simp [nmP], by
    have h0 := ix0 z.2
    unfold rowQ
    by_cases h : z.1 = r
    · by_cases h2 : hdS z.2 = ("row" : Str)
      · rw [h2] at h0; simp [ce_names_row_1, -ixP, h0, h, h2]
      · simp [ce_names_row_1, -ixP, h0, h, h2]
    · have h' : ¬ (z.1 : Int) = (r : Int) := by omega
      simp [ce_names_row_1, -ixP, decide_eq_false h', h]⟩
theorem mem_nums {p : Pt} : ∀ {l : List Pt} {n j : Nat}, l[j]? = some p → (n + j + 1, p) ∈ numsP n l
  | [], _, _, h => by simp at h
  | q :: l, n, 0, h => by
    rw [List.getElem?_cons_zero] at h
    cases h
    exact List.mem_cons_self
  | q :: l, n, j + 1, h => by
    rw [List.getElem?_cons_succ] at h
    have := mem_nums (n := n + 1) h
    rw [show n + (j + 1) + 1 = n + 1 + j + 1 by omega]
    exact List.mem_cons_of_mem _ this
def insF : Fm → List (Nat × Pt)
  | .f0 _ => []
  | .f1 A B => numsP A.length B
  | .f2 A B lo _ _ => if lo = 0 then [] else numsP A.length B
theorem endV_f0 {A : List Pt} (h : Its A) : endV A = .non := endV_non (cl_its h)
theorem cl_f1 {A B : List Pt} (h1 : Its A) (h2 : Its B) : (A ++ .op :: B).filter isCl = [] := by
  have n1 : isCl .op = false := by decide +kernel
  rw [List.filter_append, List.filter_cons, n1, cl_its h1, cl_its h2]
  rfl
theorem cl_f2 {A B C : List Pt} {lo hi : Nat} (h1 : Its A) (h2 : Its B) (h3 : Its C) : (A ++ .op :: (B ++ .cl lo hi :: C)).filter isCl = [.cl lo hi] := by
  have n1 : isCl .op = false := by decide +kernel
  have n2 : isCl (.cl lo hi) = true := by unfold isCl; exact decide_eq_true rfl
  rw [List.filter_append, List.filter_cons, n1, List.filter_append, List.filter_cons, n2, cl_its h1, cl_its h2, cl_its h3]
  rfl
theorem ins_step {f : Fm} {x0 x1 : PV} (hf : FIts f) : sSet 4 (bIf (tA (tV (b2 isNotN (bV 3) (bC .non))) (tV (b2 eqQ (b2 ixP (bV 3) (bC (.int 1))) (bC (.int 0))))) (bLst bNil) (b2 ixP (bV 2) (bC (.int 1)))) [some x0, some x1, some (cutV f), some (endV (parts f)), none] = some (.nx [some x0, some x1, some (cutV f), some (endV (parts f)), some (.lst ((insF f).map nmP))]) := by
  obtain ⟨h1, h2, h3⟩ := hf
  have hc : cutV f = .lst [.lst (npV 0 (pA f)), .lst (npV (pA f).length (pB f)), .lst (npV ((pA f).length + (pB f).length) (pC f))] := rfl
  cases f with
  | f0 A =>
    have e : endV (parts (.f0 A)) = .non := endV_f0 h1
    have e2 : (insF (.f0 A)).map nmP = [] := rfl
    have e3 : npV (pA (.f0 A)).length (pB (.f0 A)) = [] := rfl
    rw [e3] at hc
    rw [e, e2, hc]
    generalize npV 0 (pA (.f0 A)) = N0
    generalize npV ((pA (.f0 A)).length + (pB (.f0 A)).length) (pC (.f0 A)) = N2
    simp
  | f1 A B =>
    have e : endV (parts (.f1 A B)) = .non := endV_non (cl_f1 h1 h2)
    have e2 : (insF (.f1 A B)).map nmP = npV A.length B := rfl
    have e3 : npV (pA (.f1 A B)).length (pB (.f1 A B)) = npV A.length B := rfl
    rw [e3] at hc
    rw [e, e2, hc]
    generalize npV 0 (pA (.f1 A B)) = N0
    generalize npV ((pA (.f1 A B)).length + (pB (.f1 A B)).length) (pC (.f1 A B)) = N2
    generalize npV A.length B = N1
    simp
  | f2 A B lo hi C =>
    have e : endV (parts (.f2 A B lo hi C)) = .tup [.str ")", .int (lo : Nat), .int (hi : Nat)] := by
      unfold endV
      rw [show parts (.f2 A B lo hi C) = A ++ .op :: (B ++ .cl lo hi :: C) from rfl, cl_f2 (A := A) (B := B) (C := C) (lo := lo) (hi := hi) h1 h2 h3]
      rfl
    have e3 : npV (pA (.f2 A B lo hi C)).length (pB (.f2 A B lo hi C)) = npV A.length B := rfl
    rw [e3] at hc
    rw [e, hc]
    generalize npV 0 (pA (.f2 A B lo hi C)) = N0
    generalize npV ((pA (.f2 A B lo hi C)).length + (pB (.f2 A B lo hi C)).length) (pC (.f2 A B lo hi C)) = N2
    by_cases hz : lo = 0
    · have e2 : (insF (.f2 A B lo hi C)).map nmP = [] := by show List.map nmP (if lo = 0 then [] else numsP A.length B) = _; rw [if_pos hz]; rfl
      rw [e2]
      subst hz
      simp
    · have e2 : (insF (.f2 A B lo hi C)).map nmP = npV A.length B := by show List.map nmP (if lo = 0 then [] else numsP A.length B) = _; rw [if_neg hz]; rfl
      rw [e2]
      generalize npV A.length B = N1
      have hz' : ¬ (lo : Int) = 0 := by omega
      simp [hz]
theorem mi_names {f : Fm} {r : Nat} (hf : FIts f) (hl : (parts f).length < 20) (hla : (pA f).length + (pB f).length + (pC f).length ≤ 40) : mi_names_row [rP (parts f), .int (r : Nat)] = some (.bl ((numsP 0 (pA f) ++ insF f ++ numsP ((pA f).length + (pB f).length) (pC f)).any (rowQ r))) := by
  have h1 := mi_cut hf hl
  have h2 : mi_ending_of [rP (parts f)] = some (endV (parts f)) := mi_endR (by omega)
  have s1 : sSet 2 (bCall mi_cut_form (bCons (bV 0) bNil)) [some (rP (parts f)), some (.int (r : Nat)), none, none, none] = some (.nx [some (rP (parts f)), some (.int (r : Nat)), some (cutV f), none, none]) := by
    generalize rP (parts f) = FP at *
    generalize cutV f = CV at *
    generalize mi_cut_form = m at *
    simp [h1]
  have s2 : sSet 3 (bCall mi_ending_of (bCons (bV 0) bNil)) [some (rP (parts f)), some (.int (r : Nat)), some (cutV f), none, none] = some (.nx [some (rP (parts f)), some (.int (r : Nat)), some (cutV f), some (endV (parts f)), none]) := by
    generalize rP (parts f) = FP at *
    generalize cutV f = CV at *
    generalize endV (parts f) = EV at *
    generalize mi_ending_of = m at *
    simp [h2]
  have s3 := ins_step (x0 := rP (parts f)) (x1 := .int (r : Nat)) hf
  have hi : (insF f).length ≤ (pB f).length := by
    cases f with
    | f0 A => exact Nat.le_refl _
    | f1 A B => unfold insF; rw [numsP_len]; exact Nat.le_refl _
    | f2 A B lo hi C =>
      show (if lo = 0 then [] else numsP A.length B).length ≤ B.length
      split
      · exact Nat.zero_le _
      · rw [numsP_len]; exact Nat.le_refl _
  have hcm := comp_row (r := r) (numsP 0 (pA f) ++ insF f ++ numsP ((pA f).length + (pB f).length) (pC f))
  have hbm := bools_map (rowQ r) (numsP 0 (pA f) ++ insF f ++ numsP ((pA f).length + (pB f).length) (pC f))
  have hc : cutV f = .lst [.lst (npV 0 (pA f)), .lst (npV (pA f).length (pB f)), .lst (npV ((pA f).length + (pB f).length) (pC f))] := rfl
  have l0 : (npV 0 (pA f)).length = (pA f).length := npV_len _ _
  have l2 : (npV ((pA f).length + (pB f).length) (pC f)).length = (pC f).length := npV_len _ _
  have l1 : ((insF f).map nmP).length = (insF f).length := List.length_map _
  have eN : (numsP 0 (pA f) ++ insF f ++ numsP ((pA f).length + (pB f).length) (pC f)).map nmP = npV 0 (pA f) ++ (insF f).map nmP ++ npV ((pA f).length + (pB f).length) (pC f) := by simp [npV]
  have s4 : sRet (b1 anyV (bComp [none, none, some 1] (iV (b2 catV (b2 addV (b2 ixP (bV 2) (bC (.int 0))) (bV 4)) (b2 ixP (bV 2) (bC (.int 2))))) (gT [0, 1]) tTrue ce_names_row_1)) [some (rP (parts f)), some (.int (r : Nat)), some (cutV f), some (endV (parts f)), some (.lst ((insF f).map nmP))] = some (.rt (.bl ((numsP 0 (pA f) ++ insF f ++ numsP ((pA f).length + (pB f).length) (pC f)).any (rowQ r)))) := by
    rw [eN] at hcm
    rw [hc]
    generalize numsP 0 (pA f) ++ insF f ++ numsP ((pA f).length + (pB f).length) (pC f) = ZZ at *
    generalize rP (parts f) = FP at *
    generalize endV (parts f) = EV at *
    generalize npV 0 (pA f) = N0 at *
    generalize npV ((pA f).length + (pB f).length) (pC f) = N2 at *
    generalize npV (pA f).length (pB f) = N1 at *
    generalize (insF f).map nmP = NI at *
    have k1 : N0.length + NI.length ≤ 1000000 := by omega
    have k2 : (N0 ++ NI).length + N2.length ≤ 1000000 := by rw [List.length_append]; omega
    have k3 : (N0 ++ NI ++ N2).length ≤ 1000000 := by rw [List.length_append, List.length_append]; omega
    have ha : ((ZZ.map (rowQ r)).any id) = ZZ.any (rowQ r) := by rw [List.any_map]; rfl
    have k2' : N0.length + NI.length + N2.length ≤ 1000000 := by omega
    have w1 : iV (b2 catV (b2 addV (b2 ixP (bV 2) (bC (.int 0))) (bV 4)) (b2 ixP (bV 2) (bC (.int 2)))) [some FP, some (.int (r : Nat)), some (.lst [.lst N0, .lst N1, .lst N2]), some EV, some (.lst NI)] = some (N0 ++ NI ++ N2) := by
      simp [k1, k2']
    have w2 : bComp [none, none, some 1] (iV (b2 catV (b2 addV (b2 ixP (bV 2) (bC (.int 0))) (bV 4)) (b2 ixP (bV 2) (bC (.int 2))))) (gT [0, 1]) tTrue ce_names_row_1 [some FP, some (.int (r : Nat)), some (.lst [.lst N0, .lst N1, .lst N2]), some EV, some (.lst NI)] = some (.lst (ZZ.map fun z => PV.bl (rowQ r z))) := by
      generalize iV (b2 catV (b2 addV (b2 ixP (bV 2) (bC (.int 0))) (bV 4)) (b2 ixP (bV 2) (bC (.int 2)))) = IV at *
      generalize N0 ++ NI ++ N2 = NN at *
      simp [w1, k3, hcm]
    generalize bComp [none, none, some 1] (iV (b2 catV (b2 addV (b2 ixP (bV 2) (bC (.int 0))) (bV 4)) (b2 ixP (bV 2) (bC (.int 2))))) (gT [0, 1]) tTrue ce_names_row_1 = BC at *
    simp [w2, hbm, ha]
  unfold mi_names_row
  have hb : fb_names_row [some (rP (parts f)), some (.int (r : Nat)), none, none, none] = some (.rt (.bl ((numsP 0 (pA f) ++ insF f ++ numsP ((pA f).length + (pB f).length) (pC f)).any (rowQ r)))) := by
    unfold fb_names_row
    rw [sSeq_nx s1, sSeq_nx s2, sSeq_nx s3, s4]
  generalize fb_names_row = B at *
  simp [hb]
end My
/-! ## a part may follow -/
namespace My
open PySem L2 MR
theorem app_cons {α : Type} {y q : α} : ∀ {x z d r : List α}, x ++ y :: z = d ++ q :: r → (∃ t, x = d ++ q :: t) ∨ (d = x ∧ q = y) ∨ (∃ t, d = x ++ y :: t ∧ z = t ++ q :: r)
  | [], z, [], r, h => by
    have := List.cons.inj h
    exact .inr (.inl ⟨rfl, this.1.symm⟩)
  | [], z, e :: d, r, h => by
    have := List.cons.inj h
    exact .inr (.inr ⟨d, by rw [this.1]; rfl, this.2⟩)
  | a :: x, z, [], r, h => by
    have := List.cons.inj h
    exact .inl ⟨x, by rw [this.1]; rfl⟩
  | a :: x, z, e :: d, r, h => by
    have h' := List.cons.inj h
    rcases app_cons h'.2 with ⟨t, k⟩ | ⟨k1, k2⟩ | ⟨t, k1, k2⟩
    · exact .inl ⟨t, by rw [h'.1, k]; rfl⟩
    · exact .inr (.inl ⟨by rw [h'.1, k1], k2⟩)
    · exact .inr (.inr ⟨t, by rw [h'.1, k1]; rfl, k2⟩)
theorem op_its {l : List Pt} (h : Its l) : l.any isOp = false := by
  rw [List.any_eq_false]
  intro p hp z
  have := h p hp
  cases p with
  | op => cases this
  | cl lo hi => cases z
  | as r => cases z
  | rw n b => cases z
/-- `(` -/
theorem go_op {A : List Pt} (h : Its A) (hw : ∀ p ∈ A, WOk p) : mi_goes_on [rP A, rdP .op] = some (.bl true) := by
  have h1 := in_O hw
  rw [op_its h] at h1
  have h1 : inP c_OPENING (rP A) = some false := h1
  have h2 : eqP (rdP .op) c_OPENING = some true := eq_O (p := .op) trivial
  generalize rP A = FP at *
  generalize rdP .op = QP at *
  simp [mi_goes_on, fb_goes_on, h2, h1]
/-- `)` -/
theorem go_cl {A B : List Pt} {lo hi : Nat} (h1 : Its A) (h2 : Its B) (hn : B ≠ []) (hw : ∀ p ∈ A ++ .op :: B, WOk p) (hq : WOk (.cl lo hi)) (hl : (A ++ .op :: B).length < 900) : mi_goes_on [rP (A ++ .op :: B), rdP (.cl lo hi)] = some (.bl true) := by
  have ho := mi_open hw hl (cl_f1 h1 h2)
  have ha : (A ++ .op :: B).any isOp = true := by rw [List.any_append, List.any_cons]; simp [isOp]
  rw [ha] at ho
  have he : eqP (rdP (.cl lo hi)) c_OPENING = some false := eq_O hq
  obtain ⟨i, p, hp⟩ : ∃ i p, B = i ++ [p] := by
    rcases List.eq_nil_or_concat B with z | ⟨i, p, z⟩
    · exact absurd z hn
    · exact ⟨i, p, by rw [z, List.concat_eq_append]⟩
  have hip : isIt p = true := h2 p (by rw [hp]; simp)
  have hiop : isOp p = false := by cases p <;> first | rfl | cases hip
  have hlast : eqP (rdP p) c_OPENING = some false := by rw [← hiop]; exact eq_O (hw p (by rw [hp]; simp))
  have hat : ixP (rP (A ++ .op :: B)) (.int (-1)) = some (rdP p) := by
    have e : A ++ .op :: B = (A ++ .op :: i) ++ [p] := by rw [hp]; simp
    show atI ((A ++ .op :: B).map rdP) (-1) = some (rdP p)
    rw [e, List.map_append, List.map_singleton]
    generalize (A ++ .op :: i).map rdP = L
    unfold atI ixN
    rw [if_neg (by decide), if_pos (by simp; omega), Option.bind_some]
    rw [show ((-1 : Int) + ((L ++ [rdP p]).length : Nat)).toNat = L.length by simp; omega]
    simp
  have h0 : ixP (rdP (.cl lo hi)) (.int 0) = some (.str ")") := rd_at (.cl lo hi)
  generalize rP (A ++ .op :: B) = FP at *
  generalize rdP (.cl lo hi) = QP at *
  generalize rdP p = LP at *
  unfold mi_goes_on fb_goes_on
  generalize mi_is_open = MO at *
  simp [-ixP, he, h0, ho, hat, hlast]
/-- a row or a return -/
theorem go_it {f : Fm} {q : Pt} (hf : FIts f) (hl : (parts f).length < 20) (hc : (pA f).length + (pB f).length + (pC f).length < 12) (hq : isIt q = true) (hqw : WOk q)
    (hr : ∀ r, q = .as r → ((numsP 0 (pA f) ++ insF f ++ numsP ((pA f).length + (pB f).length) (pC f)).any (rowQ r)) = true) : mi_goes_on [rP (parts f), rdP q] = some (.bl true) := by
  have h1 := mi_cut hf hl
  have he : eqP (rdP q) c_OPENING = some false := by
    rw [eq_O hqw]
    cases q <;> first | rfl | cases hq
  have h0 := rd_at q
  obtain ⟨k1, k2⟩ := hd_it hq
  have hcv : cutV f = .lst [.lst (npV 0 (pA f)), .lst (npV (pA f).length (pB f)), .lst (npV ((pA f).length + (pB f).length) (pC f))] := rfl
  have l0 : (npV 0 (pA f)).length = (pA f).length := npV_len _ _
  have l1 : (npV (pA f).length (pB f)).length = (pB f).length := npV_len _ _
  have l2 : (npV ((pA f).length + (pB f).length) (pC f)).length = (pC f).length := npV_len _ _
  have a1 : sIf (tV (b2 eqQ (bV 1) (bC c_OPENING))) (sRet (b2 notInQ (bC c_OPENING) (bV 0))) sNx [some (rP (parts f)), some (rdP q)] = some (.nx [some (rP (parts f)), some (rdP q)]) := by
    generalize rP (parts f) = FP at *
    generalize rdP q = QP at *
    simp [he]
  have a2 : sIf (tV (b2 eqQ (b2 ixP (bV 1) (bC (.int 0))) (bC (.str ")")))) (sRet (bAnd (bCall mi_is_open (bCons (bV 0) bNil)) (b2 neQ (b2 ixP (bV 0) (b1 negV (bC (.int 1)))) (bC c_OPENING)))) sNx [some (rP (parts f)), some (rdP q)] = some (.nx [some (rP (parts f)), some (rdP q)]) := by
    generalize rP (parts f) = FP at *
    generalize rdP q = QP at *
    simp [-ixP, h0, k2]
  have a3 : sIf (tV (b2 eqQ (b1 sumV (bComp [none] (iV (bCall mi_cut_form (bCons (bV 0) bNil))) (gN 0) tTrue ce_goes_on_1)) (bC (.int 12)))) (sRet (bC (.bl false))) sNx [some (rP (parts f)), some (rdP q)] = some (.nx [some (rP (parts f)), some (rdP q)]) := by
    rw [hcv] at h1
    generalize rP (parts f) = FP at *
    generalize rdP q = QP at *
    generalize npV 0 (pA f) = N0 at *
    generalize npV ((pA f).length + (pB f).length) (pC f) = N2 at *
    generalize npV (pA f).length (pB f) = N1 at *
    generalize mi_cut_form = MC at *
    have hne : ¬ ((N0.length : Int) + ((N1.length : Int) + (N2.length : Int)) = 12) := by omega
    simp [h1, compL, ce_goes_on_1, hne]
  have a4 : sRet (bOr (b2 eqQ (b2 ixP (bV 1) (bC (.int 0))) (bC (.str "row"))) (bCall mi_names_row (bCons (bV 0) (bCons (b2 ixP (bV 1) (bC (.int 1))) bNil)))) [some (rP (parts f)), some (rdP q)] = some (.rt (.bl true)) := by
    cases q with
    | op => cases hq
    | cl lo hi => cases hq
    | rw n b =>
      generalize rP (parts f) = FP at *
      have h0 : ixP (rdP (.rw n b)) (.int 0) = some (.str "row") := h0
      generalize rdP (.rw n b) = QP at *
      simp [-ixP, h0]
    | as r =>
      have hm := mi_names (r := r) hf hl (by omega)
      rw [hr r rfl] at hm
      have h0 : ixP (rdP (.as r)) (.int 0) = some (.str "as") := h0
      have h1' : ixP (rdP (.as r)) (.int 1) = some (.int (r : Nat)) := at1 _ _ _
      generalize rP (parts f) = FP at *
      generalize rdP (.as r) = QP at *
      generalize mi_names_row = MN at *
      have hz : decide (Str.ofString "as" = Str.ofString "row") = false := decide_eq_false e6
      simp [-ixP, h0, h1', hm, hz]
  have hb : fb_goes_on [some (rP (parts f)), some (rdP q)] = some (.rt (.bl true)) := by
    unfold fb_goes_on
    rw [sSeq_nx a1, sSeq_nx a2, sSeq_nx a3, a4]
  unfold mi_goes_on
  generalize fb_goes_on = B at *
  simp [hb]
theorem any_row {f : Fm} {r : Nat} {n : Str} {b : Option Str} (h1 : 1 ≤ r) (hN : (pA f ++ pB f ++ pC f)[r - 1]? = some (.rw n b)) (hins : (pA f).length ≤ r - 1 → r - 1 < (pA f).length + (pB f).length → insF f = numsP (pA f).length (pB f)) :
    ((numsP 0 (pA f) ++ insF f ++ numsP ((pA f).length + (pB f).length) (pC f)).any (rowQ r)) = true := by
  have hq : rowQ r (r, .rw n b) = true := by
    unfold rowQ
    simp [hdS]
  rw [List.any_eq_true]
  refine ⟨(r, .rw n b), ?_, hq⟩
  rcases Nat.lt_or_ge (r - 1) (pA f).length with z | z
  · rw [List.append_assoc, List.getElem?_append_left z] at hN
    have := mem_nums (n := 0) hN
    rw [show 0 + (r - 1) + 1 = r by omega] at this
    exact List.mem_append_left _ (List.mem_append_left _ this)
  · rcases Nat.lt_or_ge (r - 1) ((pA f).length + (pB f).length) with y | y
    · rw [List.getElem?_append_left (by rw [List.length_append]; exact y), List.getElem?_append_right z] at hN
      have := mem_nums (n := (pA f).length) hN
      rw [show (pA f).length + (r - 1 - (pA f).length) + 1 = r by omega] at this
      rw [hins z y]
      exact List.mem_append_left _ (List.mem_append_right _ this)
    · rw [List.getElem?_append_right (by rw [List.length_append]; exact y), List.length_append] at hN
      have := mem_nums (n := (pA f).length + (pB f).length) hN
      rw [show (pA f).length + (pB f).length + (r - 1 - ((pA f).length + (pB f).length)) + 1 = r by omega] at this
      exact List.mem_append_right _ this
theorem fil_its {l : List Pt} (h : Its l) : l.filter isIt = l := List.filter_eq_self.mpr h
theorem cnt_pre {l d r : List Pt} {q : Pt} (h : (l.filter isIt).length ≤ 12) (e : l = d ++ q :: r) (hq : isIt q = true) : (d.filter isIt).length < 12 := by
  rw [e, List.filter_append, List.filter_cons_of_pos hq] at h
  simp only [List.length_append, List.length_cons] at h
  omega
theorem fil_f1 {A B : List Pt} (h1 : Its A) (h2 : Its B) : (A ++ .op :: B).filter isIt = A ++ B := by
  rw [List.filter_append, List.filter_cons_of_neg (by decide), fil_its h1, fil_its h2]
theorem fil_f2 {A B C : List Pt} {lo hi : Nat} (h1 : Its A) (h2 : Its B) (h3 : Its C) : (A ++ .op :: (B ++ .cl lo hi :: C)).filter isIt = A ++ B ++ C := by
  have e : ¬ isIt (.cl lo hi) = true := fun z => by cases z
  rw [List.filter_append, List.filter_cons_of_neg (by decide), List.filter_append, List.filter_cons_of_neg e, fil_its h1, fil_its h2, fil_its h3, List.append_assoc]
theorem Its.pre {l d r : List Pt} (h : Its l) (e : l = d ++ r) : Its d := fun p hp => h p (by rw [e]; exact List.mem_append_left _ hp)
theorem nNil : Its [] := fun p hp => by cases hp
theorem go_ok {F : Fm} (hF : FOk F) (hW : Whole F) (hw : ∀ p ∈ parts F, WOk p) (hl : (parts F).length < 20) (hc : ((parts F).filter isIt).length ≤ 12) {d r : List Pt} {q : Pt} (e : parts F = d ++ q :: r) : mi_goes_on [rP d, rdP q] = some (.bl true) := by
  have hwd : ∀ p ∈ d, WOk p := fun p hp => hw p (by rw [e]; exact List.mem_append_left _ hp)
  have hwq : WOk q := hw q (by rw [e]; simp)
  have hld : d.length < 20 := by have := congrArg List.length e; simp at this; omega
  cases hW with
  | @w0 A hA =>
    obtain ⟨h1, h2⟩ := hF
    have e : A = d ++ q :: r := e
    have hq : isIt q = true := h1 q (by rw [e]; simp)
    have hd : Its d := h1.pre e
    have hcn := cnt_pre (l := A) hc e hq
    rw [fil_its hd] at hcn
    refine go_it (f := .f0 d) ⟨hd, nNil, nNil⟩ hld (by show d.length + 0 + 0 < 12; omega) hq hwq fun r' hr => ?_
    subst hr
    obtain ⟨k1, k2, ⟨n, b, k3⟩, _⟩ := h2 d.length r' (by rw [e, List.getElem?_append_right (Nat.le_refl _), Nat.sub_self]; rfl)
    refine any_row k1 (n := n) (b := b) ?_ (fun y1 y2 => ?_)
    · show (d ++ [] ++ [])[r' - 1]? = _
      rw [e, List.getElem?_append_left (by omega)] at k3
      rw [List.append_nil, List.append_nil]
      exact k3
    · have y1 : d.length ≤ r' - 1 := y1
      have y2 : r' - 1 < d.length + 0 := y2
      omega
  | @w2 A B lo hi C =>
    obtain ⟨h1, h2, h3, h4, h5, h6, h7, h8⟩ := hF
    have e : A ++ .op :: (B ++ .cl lo hi :: C) = d ++ q :: r := e
    have hc : ((A ++ .op :: (B ++ .cl lo hi :: C)).filter isIt).length ≤ 12 := hc
    rcases app_cons e with ⟨t, k⟩ | ⟨k1, k2⟩ | ⟨t, k1, k2⟩
    · have hq : isIt q = true := h1 q (by rw [k]; simp)
      have hd : Its d := h1.pre k
      have hcn := cnt_pre hc e hq
      rw [fil_its hd] at hcn
      refine go_it (f := .f0 d) ⟨hd, nNil, nNil⟩ hld (by show d.length + 0 + 0 < 12; omega) hq hwq fun r' hr => ?_
      subst hr
      obtain ⟨k1, k2, ⟨n, b, k3⟩, _⟩ := h4 d.length r' (by rw [k, List.append_assoc, List.append_assoc, List.getElem?_append_right (Nat.le_refl _), Nat.sub_self]; rfl)
      refine any_row k1 (n := n) (b := b) ?_ (fun y1 y2 => ?_)
      · show (d ++ [] ++ [])[r' - 1]? = _
        rw [k, List.append_assoc, List.append_assoc, List.getElem?_append_left (by omega)] at k3
        rw [List.append_nil, List.append_nil]
        exact k3
      · have y1 : d.length ≤ r' - 1 := y1
        have y2 : r' - 1 < d.length + 0 := y2
        omega
    · subst k1 k2
      exact go_op h1 hwd
    · rcases app_cons k2 with ⟨t2, m⟩ | ⟨m1, m2⟩ | ⟨t2, m1, m2⟩
      · have hq : isIt q = true := h2 q (by rw [m]; simp)
        have ht : Its t := h2.pre m
        have hcn := cnt_pre hc e hq
        rw [k1, fil_f1 h1 ht, List.length_append] at hcn
        rw [k1] at hld ⊢
        refine go_it (f := .f1 A t) ⟨h1, ht, nNil⟩ hld (by show A.length + t.length + 0 < 12; omega) hq hwq fun r' hr => ?_
        subst hr
        obtain ⟨k1, k2, ⟨n, b, k3⟩, _⟩ := h4 (A ++ t).length r' (by rw [m, ← List.append_assoc, List.append_assoc (A ++ t), List.getElem?_append_right (Nat.le_refl _), Nat.sub_self]; rfl)
        refine any_row k1 (n := n) (b := b) ?_ (fun y1 y2 => rfl)
        show (A ++ t ++ [])[r' - 1]? = _
        rw [m, ← List.append_assoc, List.append_assoc (A ++ t), List.getElem?_append_left (by omega)] at k3
        rw [List.append_nil]
        exact k3
      · subst m1 m2
        rw [k1] at hld ⊢
        exact go_cl h1 h2 h8 (by rw [← k1]; exact hwd) hwq (by omega)
      · have hq : isIt q = true := h3 q (by rw [m2]; simp)
        have ht : Its t2 := h3.pre m2
        have hcn := cnt_pre hc e hq
        rw [k1, m1, fil_f2 h1 h2 ht, List.length_append, List.length_append] at hcn
        rw [k1, m1] at hld ⊢
        refine go_it (f := .f2 A B lo hi t2) ⟨h1, h2, ht⟩ hld (by show A.length + B.length + t2.length < 12; omega) hq hwq fun r' hr => ?_
        subst hr
        obtain ⟨k1, k2, ⟨n, b, k3⟩, k4⟩ := h4 (A ++ B ++ t2).length r' (by rw [m2, ← List.append_assoc, List.getElem?_append_right (Nat.le_refl _), Nat.sub_self]; rfl)
        refine any_row k1 (n := n) (b := b) ?_ (fun y1 y2 => ?_)
        · show (A ++ B ++ t2)[r' - 1]? = _
          rw [m2, ← List.append_assoc, List.getElem?_append_left (by omega)] at k3
          exact k3
        · have y1 : A.length ≤ r' - 1 := y1
          have y2 : r' - 1 < A.length + B.length := y2
          show (if lo = 0 then [] else numsP A.length B) = numsP A.length B
          rw [if_neg]
          intro z
          rcases k4 (by simp) z with w | w <;> omega
end My
/-! ## the form is read; alike; times -/
namespace My
open PySem L2 MR
theorem rf_turn {l d r : List Pt} {q : Pt} {k : Nat} {x0 x1 : PV} (hg : mi_goes_on [rP d, rdP q] = some (.bl true)) (hq : WOk q) (hd : d.length < 900) :
    turn (gT [3, 4]) [3, 4, 5] lb_read_form_1 (.tup [.int (k : Nat), .str (wr q)]) [some x0, some x1, some (rP d), none, none, none] = some [some x0, some x1, some (rP (d ++ [q])), none, none, none] := by
  have hr := mi_rpart hq
  have e : rP (d ++ [q]) = .lst (d.map rdP ++ [rdP q]) := by simp [rP]
  have hl : (d.map rdP).length < 1000000 := by rw [List.length_map]; omega
  have hp : rP d = .lst (d.map rdP) := rfl
  have hn : isN (rdP q) .non = some (.bl false) := by cases q <;> rfl
  rw [e]
  rw [hp] at hg ⊢
  unfold lb_read_form_1
  generalize mi_read_part = mr at *
  generalize mi_goes_on = mg' at *
  generalize d.map rdP = LP at *
  generalize rdP q = QP at *
  generalize wr q = W at *
  have nl : noL (.bl true) = true := rfl
  simp [turn_ap, hr, hn, hg, hl, nl, -isN_ap]
theorem zip_fst {l : List Pt} (n : Nat) : (l.zipIdx n).map (·.1) = l := by simp
theorem mi_rform {F : Fm} (hF : FOk F) (hW : Whole F) (hw : ∀ p ∈ parts F, WOk p) (hl : (parts F).length < 20) (hc : ((parts F).filter isIt).length ≤ 12) (hne : parts F ≠ []) : mi_read_form [.str (txtF (parts F))] = some (.tup ((parts F).map rdP)) := by
  have hs := split_txt hw hne
  have htl := txtF_len hw hl
  have hsl : ¬ ("; " : Str).length = 0 := by decide +kernel
  have hen := enumV_map (fun p => PV.str (wr p)) (parts F) 0
  have e0 : (parts F).map (fun p => PV.str (wr p)) = ((parts F).map wr).map PV.str := by simp
  rw [e0] at hen
  obtain ⟨d, ⟨i1, i2⟩, lp⟩ := loopS_ex (g := gT [3, 4]) (ds := [3, 4, 5]) (body := lb_read_form_1) (fun y : Pt × Nat => PV.tup [.int (y.2 : Nat), .str (wr y.1)]) (fun d : List Pt => [some (.str (txtF (parts F))), some (.lst (((parts F).map wr).map .str)), some (rP d), none, none, none])
    (fun r d => parts F = d ++ r.map (·.1) ∧ True)
    (fun y r d ⟨i1, _⟩ => by
      rw [List.map_cons] at i1
      have hq : WOk y.1 := hw y.1 (by rw [i1]; simp)
      have hd : d.length < 900 := by have := congrArg List.length i1; simp at this; omega
      refine ⟨d ++ [y.1], ⟨by rw [i1]; simp, trivial⟩, rf_turn (l := parts F) (r := r.map (·.1)) (go_ok hF hW hw hl hc i1) hq hd⟩)
    ((parts F).zipIdx 0) [] ⟨by rw [zip_fst]; rfl, trivial⟩
  rw [List.map_nil, List.append_nil] at i1
  rw [← i1, ← hen] at lp
  have hop : mi_is_open [rP (parts F)] = some (.bl false) := by
    cases hW with
    | @w0 A hA =>
      have h1 : Its A := hF.1
      have := mi_open (l := A) hw (by have : A.length < 20 := hl; omega) (cl_its h1)
      rw [op_its h1] at this
      exact this
    | @w2 A B lo hi C =>
      obtain ⟨h1, h2, h3, _⟩ := hF
      exact mi_open2 (l := A ++ .op :: (B ++ .cl lo hi :: C)) (lo := lo) (hi := hi) hw (by have : (A ++ Pt.op :: (B ++ .cl lo hi :: C)).length < 20 := hl; omega) ⟨[], cl_f2 h1 h2 h3⟩
  have s1 : sSet 1 (b2 splitV (bV 0) (bC (.str "; "))) [some (.str (txtF (parts F))), none, none, none, none, none] = some (.nx [some (.str (txtF (parts F))), some (.lst (((parts F).map wr).map .str)), none, none, none, none]) := by
    generalize txtF (parts F) = T at *
    generalize (parts F).map wr = WS at *
    simp [hs, htl, hsl]
  have s2 : sSet 2 (bLst bNil) [some (.str (txtF (parts F))), some (.lst (((parts F).map wr).map .str)), none, none, none, none] = some (.nx [some (.str (txtF (parts F))), some (.lst (((parts F).map wr).map .str)), some (rP []), none, none, none]) := by
    generalize txtF (parts F) = T at *
    generalize ((parts F).map wr).map PV.str = WS at *
    simp [rP]
  have s3 : sFor (gT [3, 4]) (iE2 (bV 1)) [3, 4, 5] lb_read_form_1 [some (.str (txtF (parts F))), some (.lst (((parts F).map wr).map .str)), some (rP []), none, none, none] = some (.nx [some (.str (txtF (parts F))), some (.lst (((parts F).map wr).map .str)), some (rP (parts F)), none, none, none]) := by
    generalize txtF (parts F) = T at *
    generalize ((parts F).map wr).map PV.str = WS at *
    generalize rP [] = R0 at *
    generalize rP (parts F) = R1 at *
    generalize lb_read_form_1 = BB at *
    simp [lp, seqV]
  have s4 : sIf (tV (bCallB mi_is_open (bCons (bL (bV 2)) bNil))) sNo sNx [some (.str (txtF (parts F))), some (.lst (((parts F).map wr).map .str)), some (rP (parts F)), none, none, none] = some (.nx [some (.str (txtF (parts F))), some (.lst (((parts F).map wr).map .str)), some (rP (parts F)), none, none, none]) := by
    have hp : rP (parts F) = .lst ((parts F).map rdP) := rfl
    rw [hp] at hop ⊢
    generalize txtF (parts F) = T at *
    generalize ((parts F).map wr).map PV.str = WS at *
    generalize (parts F).map rdP = RP at *
    generalize mi_is_open = m at *
    have nl : noL (.bl false) = true := rfl
    simp [hop, nl]
  have s5 : sRet (b1 tupleV (bV 2)) [some (.str (txtF (parts F))), some (.lst (((parts F).map wr).map .str)), some (rP (parts F)), none, none, none] = some (.rt (.tup ((parts F).map rdP))) := by
    have hp : rP (parts F) = .lst ((parts F).map rdP) := rfl
    rw [hp]
    have hle : ((parts F).map rdP).length ≤ 1000000 := by rw [List.length_map]; omega
    generalize txtF (parts F) = T at *
    generalize ((parts F).map wr).map PV.str = WS at *
    generalize (parts F).map rdP = RP at *
    simp [hle]
  have hb : fb_read_form [some (.str (txtF (parts F))), none, none, none, none, none] = some (.rt (.tup ((parts F).map rdP))) := by
    unfold fb_read_form
    rw [sSeq_nx s1, sSeq_nx s2, sSeq_nx s3, sSeq_nx s4, s5]
  unfold mi_read_form
  generalize fb_read_form = B at *
  simp [hb]
/-! ### alike -/
inductive Leaf : PV → Prop
  | non : Leaf .non
  | int (i : Int) : Leaf (.int i)
  | str (x : Str) : Leaf (.str x)
theorem al1 {x : PV} (h : Leaf x) : mi__law_alike__1 [x, x] = some (.bl true) := by
  unfold mi__law_alike__1 fb__law_alike__1
  cases h with
  | non => simp [tyN2, tyN, tb_tuple, List.lookup]
  | int i => simp [tyN2, tyN, tb_tuple, tb_str, tb_int, tb_bool, List.lookup]
  | str x => simp [tyN2, tyN, tb_tuple, tb_str, List.lookup]
theorem comp_al {ce : MR.Env → Option PV} {F D : PV} {mi : List PV → Option PV} {xs ys : List PV} (hce : ce = bCall mi (bCons (b2 ixP (bV 1) (bV 0)) (bCons (b2 ixP (bV 2) (bV 0)) bNil)))
    (hF : ∀ k : Nat, ixP F (.int (k : Nat)) = xs[k]?) (hD : ∀ k : Nat, ixP D (.int (k : Nat)) = ys[k]?) (hl : xs.length = ys.length) (hm : ∀ (k : Nat) x y, xs[k]? = some x → ys[k]? = some y → mi [x, y] = some (.bl true)) :
    compL [none, some F, some D] (gN 0) tTrue ce (rngV 0 (ys.length : Int)) = some ((List.range ys.length).map fun _ => PV.bl true) := by
  subst hce
  rw [rngV_nat]
  refine compL_map (fun k : Nat => PV.int (k : Nat)) (fun _ => PV.bl true) (List.range ys.length) fun k hk => ⟨[some (.int (k : Nat)), some F, some D], rfl, ?_⟩
  have hk := List.mem_range.mp hk
  have e1 : xs[k]? = some xs[k] := List.getElem?_eq_getElem (by omega)
  have e2 : ys[k]? = some ys[k] := List.getElem?_eq_getElem hk
  have h1 := hF k
  have h2 := hD k
  have h3 := hm k _ _ e1 e2
  rw [e1] at h1
  rw [e2] at h2
  generalize xs[k] = x at *
  generalize ys[k] = y at *
  simp [-ixP, h1, h2, h3]
theorem atI_all {xs : List PV} (k : Nat) : atI xs (k : Int) = xs[k]? := by
  unfold atI ixN
  rw [if_pos (by omega)]
  by_cases h : (k : Int) < (xs.length : Int)
  · rw [if_pos h]; simp
  · rw [if_neg h, List.getElem?_eq_none (by omega)]; rfl
theorem al_gen {ce : MR.Env → Option PV} {F D : PV} {n : Nat} (hn : n ≤ 100) (ht : isiV2 tb_tuple F = some (.bl true)) (hD : isiV2 tb_tuple D = some (.bl true)) (hlF : lenV F = some (.int (n : Nat))) (hlD : lenV D = some (.int (n : Nat)))
    (hc : compL [none, some F, some D] (gN 0) tTrue ce (rngV 0 (n : Int)) = some ((List.range n).map fun _ => PV.bl true)) :
    sIf (tV (b1 (isiV2 tb_tuple) (bV 1))) (sSeq (sIf (tO (tN (tV (b1 (isiV2 tb_tuple) (bV 0)))) (tV (b2 neQ (b1 lenV (bV 0)) (b1 lenV (bV 1))))) (sRet (bC (.bl false))) sNx) (sRet (b1 allV (bComp [none, some 0, some 1] (iR1 (b1 lenV (bV 1))) (gN 0) tTrue ce)))) sNx [some F, some D] = some (.rt (.bl true)) := by
  have hb := bools_true (List.range n)
  have hr : rgI (n : Int) = true := rgI_of (by omega) (by omega)
  have hal : ((List.range n).map fun _ => true).all id = true := by rw [List.all_map, List.all_eq_true]; exact fun _ _ => rfl
  have hrl : (rngV 0 (n : Int)).length ≤ 1000000 := by rw [rngV_nat]; simp; omega
  generalize ((List.range n).map fun _ => PV.bl true) = BL at *
  generalize ((List.range n).map fun _ => true) = BT at *
  generalize hrr : rngV 0 (n : Int) = RR at *
  simp [-isiV2_ap, -lenV, ht, hD, hlF, hlD, hr, hrr, hc, hb, hal, hrl]
theorem tup_is (xs : List PV) : isiV2 tb_tuple (.tup xs) = some (.bl true) := by simp [tyN2, tyN, tb_tuple, List.lookup]
theorem al2 {F : PV} {xs : List PV} (hF : F = .tup xs ∨ F = .ktp xs) (hx : ∀ x ∈ xs, Leaf x) (hl : xs.length ≤ 100) : mi__law_alike__2 [F, .tup xs] = some (.bl true) := by
  have hFi : ∀ k : Nat, ixP F (.int (k : Nat)) = xs[k]? := fun k => by rcases hF with e | e <;> (subst e; exact atI_all k)
  have hc := comp_al (ce := ce__law_alike__2_1) (F := F) (D := .tup xs) (xs := xs) (ys := xs) rfl hFi (fun k => atI_all k) rfl fun k x y h1 h2 => by
    rw [h1] at h2
    cases h2
    exact al1 (hx x (List.mem_of_getElem? h1))
  have ht : isiV2 tb_tuple F = some (.bl true) := by rcases hF with e | e <;> (subst e; simp [tyN2, tyN, tb_tuple, List.lookup])
  have hln : lenV F = some (.int (xs.length : Nat)) := by rcases hF with e | e <;> (subst e; simp)
  have hg := al_gen hl ht (tup_is xs) hln (by simp) hc
  have hb : fb__law_alike__2 [some F, some (.tup xs)] = some (.rt (.bl true)) := by
    unfold fb__law_alike__2
    rw [sSeq_rt hg]
  unfold mi__law_alike__2
  generalize fb__law_alike__2 = B at *
  simp [hb]
theorem al_part (p : Pt) : mi__law_alike__2 [rdP p, ptP p] = some (.bl true) := by
  cases p with
  | op => exact al2 (xs := [.str "("]) (.inr rfl) (fun x hx => by rw [List.mem_singleton] at hx; subst hx; exact .str _) (by decide)
  | cl lo hi => exact al2 (.inl rfl) (fun x hx => by
      simp only [List.mem_cons, List.not_mem_nil, or_false] at hx
      rcases hx with e | e | e <;> subst e
      · exact .str _
      · exact .int _
      · exact .int _) (by simp)
  | as r => exact al2 (.inl rfl) (fun x hx => by
      simp only [List.mem_cons, List.not_mem_nil, or_false] at hx
      rcases hx with e | e <;> subst e
      · exact .str _
      · exact .int _) (by simp)
  | rw n b => exact al2 (.inl rfl) (fun x hx => by
      simp only [List.mem_cons, List.not_mem_nil, or_false] at hx
      rcases hx with e | e | e <;> subst e
      · exact .str _
      · exact .str _
      · cases b
        · exact .non
        · exact .str _) (by simp)
theorem al3 {l : List Pt} (hl : l.length ≤ 100) : mi__law_alike [.tup (l.map rdP), tP l] = some (.bl true) := by
  have hc := comp_al (ce := ce__law_alike_1) (F := .tup (l.map rdP)) (D := .tup (l.map ptP)) (xs := l.map rdP) (ys := l.map ptP) rfl (fun k => atI_all k) (fun k => atI_all k) (by simp) fun k x y h1 h2 => by
    rw [List.getElem?_map] at h1 h2
    obtain ⟨p, hp, rfl⟩ := Option.map_eq_some_iff.mp h1
    rw [hp] at h2
    cases h2
    exact al_part p
  rw [List.length_map] at hc
  have hg := al_gen hl (tup_is (l.map rdP)) (tup_is (l.map ptP)) (by simp) (by simp) hc
  have hb : fb__law_alike [some (.tup (l.map rdP)), some (.tup (l.map ptP))] = some (.rt (.bl true)) := by
    unfold fb__law_alike
    rw [sSeq_rt hg]
  have ht : tP l = .tup (l.map ptP) := rfl
  rw [ht]
  unfold mi__law_alike
  generalize fb__law_alike = B at *
  generalize l.map rdP = X at *
  generalize l.map ptP = Y at *
  simp [hb]
/-! ### times -/
def timesF : Fm → List Nat
  | .f2 _ _ lo hi _ => List.range' lo (hi + 1 - lo)
  | _ => [1]
theorem mi_times {f : Fm} (hf : FOk f) (hw : Whole f) (hl : (parts f).length < 20) : mi_times_of [tP (parts f)] = some (.lst ((timesF f).map fun k => .int (k : Nat))) := by
  have he := mi_endT (l := parts f) (by omega)
  unfold mi_times_of fb_times_of
  cases hw with
  | @w0 A hA =>
    have h1 : endV (parts (.f0 A)) = .non := endV_f0 hf.1
    rw [h1] at he
    generalize tP (parts (.f0 A)) = FP at *
    generalize mi_ending_of = m at *
    simp [he, timesF]
  | @w2 A B lo hi C =>
    obtain ⟨h1, h2, h3, h4, h5, h6, h7, _⟩ := hf
    have hfl : endV (parts (.f2 A B lo hi C)) = ptP (.cl lo hi) := by
      unfold endV
      rw [show parts (.f2 A B lo hi C) = A ++ .op :: (B ++ .cl lo hi :: C) from rfl, cl_f2 h1 h2 h3]
    rw [hfl] at he
    generalize tP (parts (.f2 A B lo hi C)) = FP at *
    generalize mi_ending_of = m at *
    have k1 : (lo : Int) ≤ (hi : Int) + 1 := by omega
    have k2 : (hi : Int) + 1 ≤ 1000000 := by omega
    have k3 : ((hi : Int) + 1 - (lo : Int)).toNat = hi + 1 - lo := by omega
    simp [he, timesF, ptP, k1, k2, k3]
end My
namespace My
open PySem L2 MR
theorem cut12 (ns : List Int) : cutP (ns.map PV.int) none (some 12) = (ns.take 12).map PV.int := by
  unfold cutP
  have e1 : HT.sIx (ns.map PV.int).length 0 none = 0 := rfl
  have e2 : HT.sIx (ns.map PV.int).length (ns.map PV.int).length (some 12) = min 12 ns.length := by rw [List.length_map]; exact HT.sIx_nat _ _ 12
  rw [e1, e2, List.drop_zero, Nat.sub_zero, ← List.map_take]
  congr 1
  rw [List.take_eq_take_iff]
  omega
theorem wok_of {F : Fm} (hF : FOk F) (hW : Whole F) (hp : ∀ p ∈ parts F, PtOk p) (hc : ((parts F).filter isIt).length ≤ 12) : ∀ p ∈ parts F, WOk p := by
  have hrow : ∀ n b, (.rw n b) ∈ parts F → WOk (.rw n b) := fun n b h => (hp _ h).nm n b rfl
  cases hW with
  | @w0 A hA =>
    obtain ⟨h1, h2⟩ := hF
    have hc : (A.filter isIt).length ≤ 12 := hc
    rw [fil_its h1] at hc
    intro p hp'
    have hp' : p ∈ A := hp'
    cases p with
    | op => trivial
    | cl lo hi => have := h1 _ hp'; cases this
    | as r =>
      obtain ⟨i, hi⟩ := List.getElem?_of_mem hp'
      obtain ⟨k1, k2, _⟩ := h2 i r hi
      have := (List.getElem?_eq_some_iff.mp hi).1
      exact ⟨k1, by omega⟩
    | rw n b => exact hrow n b hp'
  | @w2 A B lo hi C =>
    obtain ⟨h1, h2, h3, h4, h5, h6, h7, h8⟩ := hF
    have hc : ((A ++ .op :: (B ++ .cl lo hi :: C)).filter isIt).length ≤ 12 := hc
    rw [fil_f2 h1 h2 h3] at hc
    intro p hp'
    have hp'' : p ∈ A ++ .op :: (B ++ .cl lo hi :: C) := hp'
    cases p with
    | op => trivial
    | cl lo' hi' =>
      simp only [List.mem_append, List.mem_cons] at hp''
      rcases hp'' with z | z | z | z | z
      · have := h1 _ z; cases this
      · cases z
      · have := h2 _ z; cases this
      · cases z; exact ⟨h5, h6, h7⟩
      · have := h3 _ z; cases this
    | as r =>
      have hm : (.as r) ∈ A ++ B ++ C := by
        simp only [List.mem_append, List.mem_cons, reduceCtorEq, false_or] at hp'' ⊢
        rcases hp'' with z | z | z
        · exact .inl (.inl z)
        · exact .inl (.inr z)
        · exact .inr z
      obtain ⟨i, hi'⟩ := List.getElem?_of_mem hm
      obtain ⟨k1, k2, _⟩ := h4 i r hi'
      have := (List.getElem?_eq_some_iff.mp hi').1
      exact ⟨k1, by omega⟩
    | rw n b => exact hrow n b hp'
def timesP : Pt → List Nat
  | .cl lo hi => List.range' lo (hi + 1 - lo)
  | _ => [1]
def dueOf (d : List Pt) : List Nat := ((d.filter isCl).getLast?.map timesP).getD [1]
theorem due_snoc (d : List Pt) (q : Pt) : dueOf (d ++ [q]) = if isCl q = true then timesP q else dueOf d := by
  unfold dueOf
  rw [List.filter_append]
  by_cases h : isCl q = true
  · rw [if_pos h, List.filter_cons_of_pos h]; simp
  · rw [if_neg h, List.filter_cons_of_neg h]; simp
theorem due_all {F : Fm} (hF : FOk F) (hW : Whole F) : dueOf (parts F) = timesF F := by
  cases hW with
  | @w0 A hA =>
    unfold dueOf
    rw [show parts (.f0 A) = A from rfl, cl_its hF.1]
    rfl
  | @w2 A B lo hi C =>
    obtain ⟨h1, h2, h3, _⟩ := hF
    unfold dueOf
    rw [show parts (.f2 A B lo hi C) = A ++ .op :: (B ++ .cl lo hi :: C) from rfl, cl_f2 h1 h2 h3]
    rfl
def nP (l : List Nat) : PV := .lst (l.map fun k => .int (k : Nat))
theorem due_turn {q : Pt} (hq : WOk q) {d : List Pt} {x0 x1 x2 x3 : PV} :
    turn (gN 5) [5] lb_law_2 (ptP q) [some x0, some x1, some x2, some x3, some (nP (dueOf d)), none, none] = some [some x0, some x1, some x2, some x3, some (nP (dueOf (d ++ [q]))), none, none] := by
  rw [due_snoc]
  by_cases h : isCl q = true
  · rw [if_pos h]
    have hh : hdS q = (")" : Str) := of_decide_eq_true h
    cases q with
    | op => exact absurd hh e1
    | as r => exact absurd hh e3
    | rw n b => exact absurd hh e5
    | cl lo hi =>
      obtain ⟨h1, h2, h3⟩ := hq
      have hr : rgI ((hi : Int) - (lo : Int) + 1) = true := rgI_of (by omega) (by omega)
      have hv : rngV 0 ((hi : Int) - (lo : Int) + 1) = (List.range (hi + 1 - lo)).map fun k => PV.int (k : Nat) := by
        rw [show (hi : Int) - (lo : Int) + 1 = ((hi + 1 - lo : Nat) : Int) by omega]
        exact rngV_nat _
      have hc := compL_map (env := [none, some (ptP (.cl lo hi))]) (g := gN 0) (f := ce_law_1) (fun k : Nat => PV.int (k : Nat)) (fun k : Nat => PV.int ((lo + k : Nat) : Nat)) (List.range (hi + 1 - lo)) fun k _ => ⟨[some (.int (k : Nat)), some (ptP (.cl lo hi))], rfl, by simp [ce_law_1, ptP]⟩
      have e : nP (timesP (.cl lo hi)) = .lst ((List.range (hi + 1 - lo)).map fun k => PV.int ((lo + k : Nat) : Nat)) := by
        show PV.lst ((List.range' lo (hi + 1 - lo)).map fun k => PV.int (k : Nat)) = _
        rw [List.range'_eq_map_range, List.map_map]
        rfl
      rw [e]
      have hle : ((List.range (hi + 1 - lo)).map fun k => PV.int (k : Nat)).length ≤ 1000000 := by simp; omega
      have hp : ptP (.cl lo hi) = .tup [.str ")", .int (lo : Nat), .int (hi : Nat)] := rfl
      rw [hp] at hc ⊢
      generalize nP (dueOf d) = DD
      generalize ((List.range (hi + 1 - lo)).map fun k => PV.int ((lo + k : Nat) : Nat)) = R1 at *
      generalize ((List.range (hi + 1 - lo)).map fun k => PV.int (k : Nat)) = R0 at *
      simp [turn_ap, lb_law_2, hr, hv, hc, hle]
  · rw [if_neg h]
    have hh : ¬ hdS q = (")" : Str) := fun z => h (decide_eq_true z)
    have h0 := ix0 q
    generalize nP (dueOf d) = DD
    generalize ptP q = QP at *
    simp [turn_ap, lb_law_2, -ixP, h0, hh]
theorem eq_form {l : List Pt} (h : ∀ p ∈ l, WOk p) : eqP (.tup (l.map rdP)) (tP l) = some true := by
  obtain ⟨a1, a2, a3⟩ := pDs_ok h
  have hs : SeqAt.shaped (.tuple (l.map pD)) = true := by
    have h1 : (PyData.tuple (l.map pD)).canLay0 = true := by simp [PyData.canLay0, a1]
    have h2 : (PyData.tuple (l.map pD)).depth ≤ 64 := by simp only [PyData.depth]; omega
    simp [SeqAt.shaped, h1, h2]
  unfold tP
  simp [eqP, eqS, eqD, toD, toDs_pt, toDs_rd, hs, PyData.eqv, a3]
theorem nP_refl (l : List Nat) : eqP (nP l) (nP l) = some true := eqP_refl (n := 1) (by
  unfold nP
  simp only [okP, List.mem_map]
  rintro x ⟨k, _, rfl⟩
  simp [okP]) (by decide)
theorem law_true (ns : List Int) (hn : ns.length ≤ 63) : mi_law [.frz (ns.map PV.int)] = some (.bl true) := by
  obtain ⟨f, h1, h2, h3, h4, hcn, h5⟩ := mi_form (cs := ns.take 12) (by rw [List.length_take]; omega)
  have hw := wok_of h1 h2 h3 hcn
  have hne : parts f ≠ [] := by
    cases h2 with
    | @w0 A hA => exact hA
    | @w2 A B lo hi C => simp [parts]
  have hc := cut12 ns
  have htx := mi_text hw h4
  have hwf := mi_wform hw h4
  have hrf := mi_rform h1 h2 hw h4 hcn hne
  have hal := al3 (l := parts f) (by omega)
  have hti := mi_times h1 h2 h4
  have heq := eq_form hw
  obtain ⟨d, ⟨i1, _⟩, lp⟩ := loopS_ex (g := gN 5) (ds := [5]) (body := lb_law_2) ptP (fun d : List Pt => [some (.frz (ns.map PV.int)), some (tP (parts f)), some (.str (txtF (parts f))), some (.str (txtF (parts f))), some (nP (dueOf d)), none, none])
    (fun r d => parts f = d ++ r ∧ True)
    (fun q r d ⟨i1, _⟩ => ⟨d ++ [q], ⟨by rw [i1]; simp, trivial⟩, due_turn (hw q (by rw [i1]; simp))⟩)
    (parts f) [] ⟨rfl, trivial⟩
  rw [List.append_nil] at i1
  rw [← i1, due_all h1 h2] at lp
  have e1' : nP (dueOf []) = .lst [.int 1] := rfl
  rw [e1'] at lp
  have hti : mi_times_of [tP (parts f)] = some (nP (timesF f)) := hti
  have hnr := nP_refl (timesF f)
  have hcm := compL_filter (env := [none]) (g := gN 0) (t := cc_law_4) (f := ce_law_3) (fun k : Nat => PV.int (k : Nat)) (fun k : Nat => PV.int (k : Nat)) (fun _ => false) (timesF f) fun k _ => ⟨[some (.int (k : Nat))], rfl, by simp [cc_law_4, tyN2, tyN, tb_bool, List.lookup], fun z => by cases z⟩
  have hfn : (timesF f).filter (fun _ => false) = [] := by simp
  rw [hfn, List.map_nil] at hcm
  have htl : (timesF f).length ≤ 10 := by
    cases h2 with
    | @w0 A hA => simp [timesF]
    | @w2 A B lo hi C =>
      obtain ⟨_, _, _, _, k5, k6, k7, _⟩ := h1
      simp [timesF]
      omega
  have htp : tP (parts f) = .tup ((parts f).map ptP) := rfl
  have s1 : sSet 1 (bCall mi__law_form (bCons (bSl (bV 0) oN (oS (bC (.int 12)))) bNil)) [some (.frz (ns.map PV.int)), none, none, none, none, none, none] = some (.nx [some (.frz (ns.map PV.int)), some (tP (parts f)), none, none, none, none, none]) := by
    generalize mi__law_form = m1 at *
    generalize tP (parts f) = FP at *
    generalize (ns.take 12).map PV.int = CP at *
    generalize ns.map PV.int = NP at *
    simp [hc, h5]
  generalize PV.frz (ns.map PV.int) = P0' at *
  have s2 : sSet 2 (bCall mi__law_text (bCons (bV 1) bNil)) [some P0', some (tP (parts f)), none, none, none, none, none] = some (.nx [some P0', some (tP (parts f)), some (.str (txtF (parts f))), none, none, none, none]) := by
    generalize mi__law_text = m1 at *
    generalize tP (parts f) = FP at *
    generalize txtF (parts f) = T at *
    simp [htx]
  have s3 : sIf (tN (tV (bCall mi__law_alike (bCons (bCall mi_read_form (bCons (bV 2) bNil)) (bCons (bV 1) bNil))))) (sRet (bC (.bl false))) sNx [some P0', some (tP (parts f)), some (.str (txtF (parts f))), none, none, none, none] = some (.nx [some P0', some (tP (parts f)), some (.str (txtF (parts f))), none, none, none, none]) := by
    generalize mi__law_alike = m1 at *
    generalize mi_read_form = m2 at *
    generalize tP (parts f) = FP at *
    generalize txtF (parts f) = T at *
    generalize (parts f).map rdP = RP at *
    simp [hrf, hal]
  have s4 : sSet 3 (bCall mi_written_form (bCons (bV 1) bNil)) [some P0', some (tP (parts f)), some (.str (txtF (parts f))), none, none, none, none] = some (.nx [some P0', some (tP (parts f)), some (.str (txtF (parts f))), some (.str (txtF (parts f))), none, none, none]) := by
    generalize mi_written_form = m1 at *
    generalize tP (parts f) = FP at *
    generalize txtF (parts f) = T at *
    simp [hwf]
  have s5 : sIf (tO (tN (tV (b1 (isiV2 tb_str) (bV 3)))) (tV (b2 neQ (bV 3) (bV 2)))) (sRet (bC (.bl false))) sNx [some P0', some (tP (parts f)), some (.str (txtF (parts f))), some (.str (txtF (parts f))), none, none, none] = some (.nx [some P0', some (tP (parts f)), some (.str (txtF (parts f))), some (.str (txtF (parts f))), none, none, none]) := by
    generalize tP (parts f) = FP at *
    generalize txtF (parts f) = T at *
    simp [tyN2, tyN, tb_str, List.lookup]
  have s6 : sSet 4 (bLst (bCons (bC (.int 1)) bNil)) [some P0', some (tP (parts f)), some (.str (txtF (parts f))), some (.str (txtF (parts f))), none, none, none] = some (.nx [some P0', some (tP (parts f)), some (.str (txtF (parts f))), some (.str (txtF (parts f))), some (.lst [.int 1]), none, none]) := by
    generalize tP (parts f) = FP at *
    generalize txtF (parts f) = T at *
    simp
  have s7 : sFor (gN 5) (iV (bV 1)) [5] lb_law_2 [some P0', some (tP (parts f)), some (.str (txtF (parts f))), some (.str (txtF (parts f))), some (.lst [.int 1]), none, none] = some (.nx [some P0', some (tP (parts f)), some (.str (txtF (parts f))), some (.str (txtF (parts f))), some (nP (timesF f)), none, none]) := by
    rw [htp] at lp ⊢
    generalize (parts f).map ptP = FP at *
    generalize txtF (parts f) = T at *
    generalize nP (timesF f) = TT at *
    generalize lb_law_2 = BB at *
    simp [lp]
  have s8 : sSet 6 (bCall mi_times_of (bCons (bV 1) bNil)) [some P0', some (tP (parts f)), some (.str (txtF (parts f))), some (.str (txtF (parts f))), some (nP (timesF f)), none, none] = some (.nx [some P0', some (tP (parts f)), some (.str (txtF (parts f))), some (.str (txtF (parts f))), some (nP (timesF f)), none, some (nP (timesF f))]) := by
    generalize mi_times_of = m1 at *
    generalize tP (parts f) = FP at *
    generalize txtF (parts f) = T at *
    generalize nP (timesF f) = TT at *
    simp [hti]
  have s9 : sIf (tO (tN (tV (b1 (isiV2 tb_list) (bV 6)))) (tO (tV (b2 neQ (bV 6) (bV 4))) (tV (b2 neQ (bComp [none] (iV (bV 6)) (gN 0) cc_law_4 ce_law_3) (bLst bNil))))) (sRet (bC (.bl false))) sNx [some P0', some (tP (parts f)), some (.str (txtF (parts f))), some (.str (txtF (parts f))), some (nP (timesF f)), none, some (nP (timesF f))] = some (.nx [some P0', some (tP (parts f)), some (.str (txtF (parts f))), some (.str (txtF (parts f))), some (nP (timesF f)), none, some (nP (timesF f))]) := by
    have hle : ((timesF f).map fun k => PV.int (k : Nat)).length ≤ 1000000 := by rw [List.length_map]; omega
    unfold nP at hnr ⊢
    generalize tP (parts f) = FP at *
    generalize txtF (parts f) = T at *
    generalize ((timesF f).map fun k => PV.int (k : Nat)) = TT at *
    simp [tyN2, tyN, tb_list, List.lookup, hnr, hcm, hle]
  have s10 : sMut1 appV 6 (bC (.int 9)) [some P0', some (tP (parts f)), some (.str (txtF (parts f))), some (.str (txtF (parts f))), some (nP (timesF f)), none, some (nP (timesF f))] = some (.nx [some P0', some (tP (parts f)), some (.str (txtF (parts f))), some (.str (txtF (parts f))), some (nP (timesF f)), none, some (.lst (((timesF f).map fun k => PV.int (k : Nat)) ++ [.int 9]))]) := by
    have hle : ((timesF f).map fun k => PV.int (k : Nat)).length < 1000000 := by rw [List.length_map]; omega
    unfold nP
    generalize tP (parts f) = FP at *
    generalize txtF (parts f) = T at *
    generalize ((timesF f).map fun k => PV.int (k : Nat)) = TT at *
    simp [hle]
  have s11 : ∀ x6 : PV, sRet (bAnd (b2 eqQ (bCall mi_times_of (bCons (bV 1) bNil)) (bV 4)) (b2 eqQ (bCall mi_read_form (bCons (bCall mi_written_form (bCons (bV 1) bNil)) bNil)) (bV 1))) [some P0', some (tP (parts f)), some (.str (txtF (parts f))), some (.str (txtF (parts f))), some (nP (timesF f)), none, some x6] = some (.rt (.bl true)) := fun x6 => by
    generalize mi_times_of = m1 at *
    generalize mi_written_form = m2 at *
    generalize mi_read_form = m3 at *
    generalize tP (parts f) = FP at *
    generalize txtF (parts f) = T at *
    generalize nP (timesF f) = TT at *
    generalize (parts f).map rdP = RP at *
    simp [hti, hnr, hwf, hrf, heq]
  have hb : fb_law [some P0', none, none, none, none, none, none] = some (.rt (.bl true)) := by
    unfold fb_law
    rw [sSeq_nx s1, sSeq_nx s2, sSeq_nx s3, sSeq_nx s4, sSeq_nx s5, sSeq_nx s6, sSeq_nx s7, sSeq_nx s8, sSeq_nx s9, sSeq_nx s10, s11]
  unfold mi_law
  generalize fb_law = B at *
  simp [hb]
end My
namespace My
open PySem L2 MR
def top (i : Nat) : Stmt := PySem.Challenge.pw_lilt_k70_forms_read.main.body.getD i (.Pass ⟨0, 0, 0, 0⟩)
abbrev s__law_roots : Stmt := top 32
abbrev s__law_is_low : Stmt := top 33
abbrev s__law_name : Stmt := top 30
abbrev s__law_bond : Stmt := top 31
abbrev s__law_next : Stmt := top 34
abbrev s__law_form : Stmt := top 35
abbrev s__law_text : Stmt := top 36
abbrev s_written_part : Stmt := top 25
abbrev s_written_form : Stmt := top 26
abbrev s_ending_of : Stmt := top 20
abbrev s_times_of : Stmt := top 27
abbrev s__law_alike__0 : Stmt := top 37
abbrev s__law_alike__1 : Stmt := top 37
abbrev s__law_alike__2 : Stmt := top 37
abbrev s__law_alike : Stmt := top 37
abbrev s_is_open : Stmt := top 21
abbrev s_read_ending : Stmt := top 17
abbrev s_is_row_number : Stmt := top 16
abbrev s_is_name : Stmt := top 14
abbrev s_is_letter : Stmt := top 5
abbrev s_is_bond : Stmt := top 15
abbrev s_read_part : Stmt := top 18
abbrev s_cut_form : Stmt := top 19
abbrev s_names_row : Stmt := top 22
abbrev s_goes_on : Stmt := top 23
abbrev s_read_form : Stmt := top 24
abbrev s_law : Stmt := top 38
theorem sc__law_roots : FnScope ["_law_parts", "_law_found", "_law_number", "_law_inner", "_law_part"] ["_law_parts"] (defScope s__law_roots) := ⟨rfl, rfl, rfl, by decide +kernel, rfl, by decide +kernel, by decide +kernel⟩
theorem sc__law_is_low : FnScope ["_law_parts"] ["_law_parts"] (defScope s__law_is_low) := ⟨rfl, rfl, rfl, by decide +kernel, rfl, by decide +kernel, by decide +kernel⟩
theorem sc__law_name : FnScope ["_law_number", "_law_some"] ["_law_number"] (defScope s__law_name) := ⟨rfl, rfl, rfl, by decide +kernel, rfl, by decide +kernel, by decide +kernel⟩
theorem sc__law_bond : FnScope ["_law_number", "_law_some"] ["_law_number"] (defScope s__law_bond) := ⟨rfl, rfl, rfl, by decide +kernel, rfl, by decide +kernel, by decide +kernel⟩
theorem sc__law_next : FnScope ["_law_parts", "_law_cell", "_law_heads", "_law_number", "_law_inner", "_law_low", "_law_roots_here"] ["_law_parts", "_law_cell"] (defScope s__law_next) := ⟨rfl, rfl, rfl, by decide +kernel, rfl, by decide +kernel, by decide +kernel⟩
theorem sc__law_form : FnScope ["_law_cells", "_law_parts", "_law_cell", "_law_heads"] ["_law_cells"] (defScope s__law_form) := ⟨rfl, rfl, rfl, by decide +kernel, rfl, by decide +kernel, by decide +kernel⟩
theorem sc__law_text : FnScope ["_law_form_here", "_law_words", "_law_part"] ["_law_form_here"] (defScope s__law_text) := ⟨rfl, rfl, rfl, by decide +kernel, rfl, by decide +kernel, by decide +kernel⟩
theorem sc_written_part : FnScope ["part"] ["part"] (defScope s_written_part) := ⟨rfl, rfl, rfl, by decide +kernel, rfl, by decide +kernel, by decide +kernel⟩
theorem sc_written_form : FnScope ["form"] ["form"] (defScope s_written_form) := ⟨rfl, rfl, rfl, by decide +kernel, rfl, by decide +kernel, by decide +kernel⟩
theorem sc_ending_of : FnScope ["form", "endings"] ["form"] (defScope s_ending_of) := ⟨rfl, rfl, rfl, by decide +kernel, rfl, by decide +kernel, by decide +kernel⟩
theorem sc_times_of : FnScope ["form", "ending"] ["form"] (defScope s_times_of) := ⟨rfl, rfl, rfl, by decide +kernel, rfl, by decide +kernel, by decide +kernel⟩
theorem sc__law_alike__1 : FnScope ["_law_found", "_law_due"] ["_law_found", "_law_due"] (defScope s__law_alike__1) := ⟨rfl, rfl, rfl, by decide +kernel, rfl, by decide +kernel, by decide +kernel⟩
theorem sc__law_alike__2 : FnScope ["_law_found", "_law_due"] ["_law_found", "_law_due"] (defScope s__law_alike__2) := ⟨rfl, rfl, rfl, by decide +kernel, rfl, by decide +kernel, by decide +kernel⟩
theorem sc__law_alike : FnScope ["_law_found", "_law_due"] ["_law_found", "_law_due"] (defScope s__law_alike) := ⟨rfl, rfl, rfl, by decide +kernel, rfl, by decide +kernel, by decide +kernel⟩
theorem sc_is_open : FnScope ["form"] ["form"] (defScope s_is_open) := ⟨rfl, rfl, rfl, by decide +kernel, rfl, by decide +kernel, by decide +kernel⟩
theorem sc_read_ending : FnScope ["low", "high"] ["low", "high"] (defScope s_read_ending) := ⟨rfl, rfl, rfl, by decide +kernel, rfl, by decide +kernel, by decide +kernel⟩
theorem sc_is_row_number : FnScope ["text"] ["text"] (defScope s_is_row_number) := ⟨rfl, rfl, rfl, by decide +kernel, rfl, by decide +kernel, by decide +kernel⟩
theorem sc_is_name : FnScope ["text"] ["text"] (defScope s_is_name) := ⟨rfl, rfl, rfl, by decide +kernel, rfl, by decide +kernel, by decide +kernel⟩
theorem sc_is_letter : FnScope ["text"] ["text"] (defScope s_is_letter) := ⟨rfl, rfl, rfl, by decide +kernel, rfl, by decide +kernel, by decide +kernel⟩
theorem sc_is_bond : FnScope ["text"] ["text"] (defScope s_is_bond) := ⟨rfl, rfl, rfl, by decide +kernel, rfl, by decide +kernel, by decide +kernel⟩
theorem sc_read_part : FnScope ["text", "words"] ["text"] (defScope s_read_part) := ⟨rfl, rfl, rfl, by decide +kernel, rfl, by decide +kernel, by decide +kernel⟩
theorem sc_cut_form : FnScope ["form", "lists", "where", "number", "part"] ["form"] (defScope s_cut_form) := ⟨rfl, rfl, rfl, by decide +kernel, rfl, by decide +kernel, by decide +kernel⟩
theorem sc_names_row : FnScope ["form", "number", "cut", "ending", "inside"] ["form", "number"] (defScope s_names_row) := ⟨rfl, rfl, rfl, by decide +kernel, rfl, by decide +kernel, by decide +kernel⟩
theorem sc_goes_on : FnScope ["form", "part"] ["form", "part"] (defScope s_goes_on) := ⟨rfl, rfl, rfl, by decide +kernel, rfl, by decide +kernel, by decide +kernel⟩
theorem sc_read_form : FnScope ["text", "texts", "form", "at", "written", "part"] ["text"] (defScope s_read_form) := ⟨rfl, rfl, rfl, by decide +kernel, rfl, by decide +kernel, by decide +kernel⟩
theorem sc_law : FnScope ["_law_script", "_law_form_here", "_law_line", "_law_told", "_law_due", "_law_part", "_law_found"] ["_law_script"] (defScope s_law) := ⟨rfl, rfl, rfl, by decide +kernel, rfl, by decide +kernel, by decide +kernel⟩
structure Adr where
  a0 : Nat := 0
  a_HIGHS : Addr
  t_LETTERS : Tok
  a_LOWS : Addr
  t_MOST_ROWS : Tok
  t_MOST_SIGNS : Tok
  t_NO_BOND : Tok
  a_OPENING : Addr
  t_PARTING : Tok
section
variable {P : Program} {w : World} {K : PySem.W.Frag} {mg : Str → Option Value} {base : Heap} {cl : Nat → Addr} {A : Adr}
structure Tx__law_roots (P : Program) (w : World) (K : PySem.W.Frag) (mg : Str → Option Value) (base : Heap) (cl : Nat → Addr) (A : Adr) : Prop where
  ok : True
theorem ok__law_roots {f : Addr} {fd : FuncData} (F : Fun K "_law_roots" "_law_roots" s__law_roots f fd) (T : Tx__law_roots P w K mg base cl A) : FnOk P w K mg base CX0 1 f fd ["_law_parts"] (spM ⟨K, cl⟩ mi__law_roots false) := by
  refine F.ok sc__law_roots (fun vs H Q E h => spM_len h) (fun cdv A' outer s H vs Q E hr h => body_ok (G := [1]) (G' := []) (L := []) (N := ["_law_parts", "_law_found", "_law_number", "_law_inner", "_law_part"]) rfl (by decide) (by decide) (fun B H' => ?_) h)
  exact (ss_cons (s_setO 1 sc__law_roots.nd (se_lst sa_nil)) (ss_cons (s_set 2 sc__law_roots.nd se_int) (ss_cons (s_set 3 sc__law_roots.nd se_bl) (ss_cons (s_for [4] (si_v (se_v 0) (fun _ => by intro z; cases z)) (sg_n 4 sc__law_roots.nd) (ss_one (s_if (st_cmp (sc_in hr (se_ix hr (se_v 4) se_int) (se_tup (sa_cons se_str (sa_cons se_str sa_nil))))) (ss_one (s_set 3 sc__law_roots.nd (se_cmp (sc_eq hr (se_ix hr (se_v 4) se_int) se_str)))) (ss_cons (s_set 2 sc__law_roots.nd (se_add (se_v 2) se_int)) (ss_one (s_if (st_cmp (sc_eq hr (se_ix hr (se_v 4) se_int) se_str)) (ss_one (s_app 1 (se_tup (sa_cons (se_v 2) (sa_cons (se_v 3) sa_nil))))) ss_nil))))) PassesOwn.never) (ss_frz (G1 := []) (ss_one (s_ret (se_v 1))))))))
structure Tx__law_is_low (P : Program) (w : World) (K : PySem.W.Frag) (mg : Str → Option Value) (base : Heap) (cl : Nat → Addr) (A : Adr) : Prop where
  ok : True
theorem ok__law_is_low {f : Addr} {fd : FuncData} (F : Fun K "_law_is_low" "_law_is_low" s__law_is_low f fd) (T : Tx__law_is_low P w K mg base cl A) : FnOk P w K mg base CX0 1 f fd ["_law_parts"] (spM ⟨K, cl⟩ mi__law_is_low false) := by
  refine F.ok sc__law_is_low (fun vs H Q E h => spM_len h) (fun cdv A' outer s H vs Q E hr h => body_ok (G := []) (G' := []) (L := []) (N := ["_law_parts"]) rfl (by decide) (by decide) (fun B H' => ?_) h)
  exact (ss_one (s_ret (se_cmp (sc_ne hr (se_comp (osc := (defScope s__law_is_low)) (ON := ["_law_parts"]) (N := ["_law_part"]) (cap := [none]) ⟨rfl, by decide +kernel, by decide +kernel, by decide +kernel, by decide +kernel⟩ (tg_n 0) (si_v (se_v 0) (fun z => by cases z)) (fun _ _ _ _ => pg_name (i := 0) (show (["_law_part"] : List Str).Nodup by decide +kernel) rfl (Or.inl rfl)) (fun _ _ _ _ => pifs_one (SW.st (sw_and (st_cmp (sc_eq hr (se_ix hr (se_v 0) se_int) se_str)) (sw_and1 (st_cmp (sc_eq hr (se_ix hr (se_v 0) se_int) se_int)))))) (fun _ _ _ _ => (se_v 0))) (se_lst sa_nil)))))
structure Tx__law_name (P : Program) (w : World) (K : PySem.W.Frag) (mg : Str → Option Value) (base : Heap) (cl : Nat → Addr) (A : Adr) : Prop where
  ok : True
theorem ok__law_name {f : Addr} {fd : FuncData} (F : Fun K "_law_name" "_law_name" s__law_name f fd) (T : Tx__law_name P w K mg base cl A) : FnOk P w K mg base CX0 1 f fd ["_law_number"] (spM ⟨K, cl⟩ mi__law_name false) := by
  refine F.ok sc__law_name (fun vs H Q E h => spM_len h) (fun cdv A' outer s H vs Q E hr h => body_ok (G := []) (G' := []) (L := []) (N := ["_law_number", "_law_some"]) rfl (by decide) (by decide) (fun B H' => ?_) h)
  exact (ss_cons (s_set 1 sc__law_name.nd (SE.val (se_lst (sa_cons se_str (sa_cons se_str (sa_cons se_str (sa_cons se_str (sa_cons se_str (sa_cons se_str (sa_cons se_str (sa_cons se_str sa_nil))))))))))) (ss_one (s_ret (se_ix hr (se_v 1) (se_mod (se_v 0) se_int)))))
structure Tx__law_bond (P : Program) (w : World) (K : PySem.W.Frag) (mg : Str → Option Value) (base : Heap) (cl : Nat → Addr) (A : Adr) : Prop where
  ok : True
theorem ok__law_bond {f : Addr} {fd : FuncData} (F : Fun K "_law_bond" "_law_bond" s__law_bond f fd) (T : Tx__law_bond P w K mg base cl A) : FnOk P w K mg base CX0 1 f fd ["_law_number"] (spM ⟨K, cl⟩ mi__law_bond false) := by
  refine F.ok sc__law_bond (fun vs H Q E h => spM_len h) (fun cdv A' outer s H vs Q E hr h => body_ok (G := []) (G' := []) (L := []) (N := ["_law_number", "_law_some"]) rfl (by decide) (by decide) (fun B H' => ?_) h)
  exact (ss_cons (s_set 1 sc__law_bond.nd (SE.val (se_lst (sa_cons se_non (sa_cons se_str (sa_cons se_str (sa_cons se_str (sa_cons se_str (sa_cons se_str (sa_cons se_str (sa_cons se_str sa_nil))))))))))) (ss_one (s_ret (se_ix hr (se_v 1) (se_mod (se_v 0) se_int)))))
structure Tx__law_next (P : Program) (w : World) (K : PySem.W.Frag) (mg : Str → Option Value) (base : Heap) (cl : Nat → Addr) (A : Adr) : Prop where
  z_len : mg "len" = none
  z_max : mg "max" = none
  c__law_bond : Cal P w K mg base 1 "_law_bond" ["_law_number"] (spM ⟨K, cl⟩ mi__law_bond false)
  c__law_is_low : Cal P w K mg base 1 "_law_is_low" ["_law_parts"] (spM ⟨K, cl⟩ mi__law_is_low false)
  c__law_name : Cal P w K mg base 1 "_law_name" ["_law_number"] (spM ⟨K, cl⟩ mi__law_name false)
  c__law_roots : Cal P w K mg base 1 "_law_roots" ["_law_parts"] (spM ⟨K, cl⟩ mi__law_roots false)
theorem ok__law_next {f : Addr} {fd : FuncData} (F : Fun K "_law_next" "_law_next" s__law_next f fd) (T : Tx__law_next P w K mg base cl A) : FnOk P w K mg base CX0 2 f fd ["_law_parts", "_law_cell"] (spM ⟨K, cl⟩ mi__law_next false) := by
  refine F.ok sc__law_next (fun vs H Q E h => spM_len h) (fun cdv A' outer s H vs Q E hr h => body_ok (G := []) (G' := []) (L := []) (N := ["_law_parts", "_law_cell", "_law_heads", "_law_number", "_law_inner", "_law_low", "_law_roots_here"]) rfl (by decide) (by decide) (fun B H' => ?_) h)
  exact (ss_cons (s_setC 2 sc__law_next.nd (osc := (defScope s__law_next)) (ON := ["_law_parts", "_law_cell", "_law_heads", "_law_number", "_law_inner", "_law_low", "_law_roots_here"]) (N := ["_law_part"]) (cap := [none]) ⟨rfl, by decide +kernel, by decide +kernel, by decide +kernel, by decide +kernel⟩ (tg_n 0) (si_v (se_v 0) (fun z => by cases z)) (fun _ _ _ _ => pg_name (i := 0) (show (["_law_part"] : List Str).Nodup by decide +kernel) rfl (Or.inl rfl)) (fun _ _ _ _ => sifs_nil) (fun _ _ _ _ => (se_ix hr (se_v 0) se_int))) (ss_cons (s_set 3 sc__law_next.nd (se_div (se_v 1) se_int)) (ss_cons (s_set 4 sc__law_next.nd (se_and (se_cmp (sc_in hr se_str (se_v 2))) (se_one (se_cmp (sc_notin hr se_str (se_v 2)))))) (ss_cons (s_set 5 sc__law_next.nd (se_mod (se_v 3) se_int)) (ss_cons (s_if (SW.st (sw_and (st_cmp (sc_eq hr (se_mod (se_v 1) se_int) se_int)) (sw_and1 (st_cmp (sc_notin hr se_str (se_v 2)))))) (ss_one (s_ret (se_tup (sa_cons se_str sa_nil)))) ss_nil) (ss_cons (s_if (SW.st (sw_and (st_cmp (sc_eq hr (se_mod (se_v 1) se_int) se_int)) (sw_and (st_val (se_v 4)) (sw_and1 (st_cmp (sc_ne hr (se_ix hr (se_v 2) (se_neg se_int)) se_str)))))) (ss_one (s_ret (se_tup (sa_cons se_str (sa_cons (se_v 5) (sa_cons (se_add (se_max T.z_max se_int (se_v 5)) (se_mod (se_div (se_v 3) se_int) (se_sub se_int (se_max T.z_max se_int (se_v 5))))) sa_nil)))))) ss_nil) (ss_cons (s_set 6 sc__law_next.nd (se_callV T.c__law_roots hr (sa_cons (se_v 0) sa_nil))) (ss_cons (s_if (SW.st (sw_and (st_not (st_val (se_v 4))) (sw_and1 (st_val (se_callV T.c__law_is_low hr (sa_cons (se_v 0) sa_nil)))))) (ss_one (s_setC 6 sc__law_next.nd (osc := (defScope s__law_next)) (ON := ["_law_parts", "_law_cell", "_law_heads", "_law_number", "_law_inner", "_law_low", "_law_roots_here"]) (N := ["_law_one"]) (cap := [none]) ⟨rfl, by decide +kernel, by decide +kernel, by decide +kernel, by decide +kernel⟩ (tg_n 0) (si_v (se_v 6) (fun z => by cases z)) (fun _ _ _ _ => pg_name (i := 0) (show (["_law_one"] : List Str).Nodup by decide +kernel) rfl (Or.inl rfl)) (fun _ _ _ _ => pifs_one (st_not (st_val (se_ix hr (se_v 0) se_int)))) (fun _ _ _ _ => (se_v 0)))) ss_nil) (ss_cons (s_if (SW.st (sw_and (st_cmp (sc_in hr (se_mod (se_v 1) se_int) (se_tup (sa_cons se_int (sa_cons se_int sa_nil))))) (sw_and1 (st_cmp (sc_ne hr (se_v 6) (se_lst sa_nil)))))) (ss_one (s_ret (se_tup (sa_cons se_str (sa_cons (se_ix hr (se_ix hr (se_v 6) (se_mod (se_v 3) (se_len T.z_len (se_v 6)))) se_int) sa_nil))))) ss_nil) (ss_one (s_ret (se_tup (sa_cons se_str (sa_cons (se_callV T.c__law_name hr (sa_cons (se_v 3) sa_nil)) (sa_cons (se_callV T.c__law_bond hr (sa_cons (se_div (se_v 3) se_int) sa_nil)) sa_nil)))))))))))))))
structure Tx__law_form (P : Program) (w : World) (K : PySem.W.Frag) (mg : Str → Option Value) (base : Heap) (cl : Nat → Addr) (A : Adr) : Prop where
  z_tuple : mg "tuple" = none
  c__law_next : Cal P w K mg base 2 "_law_next" ["_law_parts", "_law_cell"] (spM ⟨K, cl⟩ mi__law_next false)
theorem ok__law_form {f : Addr} {fd : FuncData} (F : Fun K "_law_form" "_law_form" s__law_form f fd) (T : Tx__law_form P w K mg base cl A) : FnOk P w K mg base CX0 3 f fd ["_law_cells"] (spM ⟨K, cl⟩ mi__law_form false) := by
  refine F.ok sc__law_form (fun vs H Q E h => spM_len h) (fun cdv A' outer s H vs Q E hr h => body_ok (G := [1]) (G' := [1]) (L := []) (N := ["_law_cells", "_law_parts", "_law_cell", "_law_heads"]) rfl (by decide) (by decide) (fun B H' => ?_) h)
  exact (ss_cons (s_setO 1 sc__law_form.nd (se_lst sa_nil)) (ss_cons (s_for [2] (si_v (se_v 0) (fun _ => by intro z; cases z)) (sg_n 2 sc__law_form.nd) (ss_one (s_app 1 (se_callB T.c__law_next hr (sa_consL (se_b 1) (sa_cons (se_v 2) sa_nil))))) PassesOwn.never) (ss_cons (s_setC 3 sc__law_form.nd (osc := (defScope s__law_form)) (ON := ["_law_cells", "_law_parts", "_law_cell", "_law_heads"]) (N := ["_law_part"]) (cap := [none]) ⟨rfl, by decide +kernel, by decide +kernel, by decide +kernel, by decide +kernel⟩ (tg_n 0) (si_v (se_b 1) (fun z => by cases z)) (fun _ _ _ _ => pg_name (i := 0) (show (["_law_part"] : List Str).Nodup by decide +kernel) rfl (Or.inl rfl)) (fun _ _ _ _ => sifs_nil) (fun _ _ _ _ => (se_ix hr (se_v 0) se_int))) (ss_cons (s_if (SW.st (sw_or (st_cmp (sc_eq hr (se_v 3) (se_lst sa_nil))) (sw_or1 (st_cmp (sc_eq hr (se_ix hr (se_v 3) (se_neg se_int)) se_str))))) (ss_one (s_app 1 (se_tup (sa_cons se_str (sa_cons se_str (sa_cons se_str sa_nil)))))) ss_nil) (ss_cons (s_if (SW.st (sw_and (st_cmp (sc_in hr se_str (se_v 3))) (sw_and1 (st_cmp (sc_notin hr se_str (se_v 3)))))) (ss_one (s_app 1 (se_tup (sa_cons se_str (sa_cons se_int (sa_cons se_int sa_nil)))))) ss_nil) (ss_one (s_ret (se_tuple T.z_tuple (se_b 1)))))))))
structure Tx__law_text (P : Program) (w : World) (K : PySem.W.Frag) (mg : Str → Option Value) (base : Heap) (cl : Nat → Addr) (A : Adr) : Prop where
  z_int : mg "int" = none
  z_str : mg "str" = none
theorem ok__law_text {f : Addr} {fd : FuncData} (F : Fun K "_law_text" "_law_text" s__law_text f fd) (T : Tx__law_text P w K mg base cl A) : FnOk P w K mg base CX0 1 f fd ["_law_form_here"] (spM ⟨K, cl⟩ mi__law_text false) := by
  refine F.ok sc__law_text (fun vs H Q E h => spM_len h) (fun cdv A' outer s H vs Q E hr h => body_ok (G := [1]) (G' := []) (L := []) (N := ["_law_form_here", "_law_words", "_law_part"]) rfl (by decide) (by decide) (fun B H' => ?_) h)
  exact (ss_cons (s_setO 1 sc__law_text.nd (se_lst sa_nil)) (ss_cons (s_for [2] (si_v (se_v 0) (fun _ => by intro z; cases z)) (sg_n 2 sc__law_text.nd) (ss_one (s_if (st_cmp (sc_eq hr (se_ix hr (se_v 2) se_int) se_str)) (ss_one (s_app 1 (se_add (se_add (se_ix hr (se_v 2) se_int) se_str) (se_ix hr (se_lst (sa_cons se_str (sa_cons (se_ix hr (se_v 2) se_int) sa_nil))) (se_int2 T.z_int (se_cmp (sc_isnot (se_ix hr (se_v 2) se_int) se_non))))))) (ss_one (s_app 1 (se_join2 se_str (se_comp (osc := (defScope s__law_text)) (ON := ["_law_form_here", "_law_words", "_law_part"]) (N := ["_law_word"]) (cap := [none]) ⟨rfl, by decide +kernel, by decide +kernel, by decide +kernel, by decide +kernel⟩ (tg_n 0) (si_v (se_v 2) (fun z => by cases z)) (fun _ _ _ _ => pg_name (i := 0) (show (["_law_word"] : List Str).Nodup by decide +kernel) rfl (Or.inl rfl)) (fun _ _ _ _ => sifs_nil) (fun _ _ _ _ => (se_str1 T.z_str (se_v 0))))))))) PassesOwn.never) (ss_frz (G1 := []) (ss_one (s_ret (se_join2 se_str (se_v 1)))))))
structure Tx_written_part (P : Program) (w : World) (K : PySem.W.Frag) (mg : Str → Option Value) (base : Heap) (cl : Nat → Addr) (A : Adr) : Prop where
  z_str : mg "str" = none
  g_NO_BOND : mg "NO_BOND" = some (.str "-" A.t_NO_BOND)
theorem ok_written_part {f : Addr} {fd : FuncData} (F : Fun K "written_part" "written_part" s_written_part f fd) (T : Tx_written_part P w K mg base cl A) : FnOk P w K mg base CX0 1 f fd ["part"] (spM ⟨K, cl⟩ mi_written_part false) := by
  refine F.ok sc_written_part (fun vs H Q E h => spM_len h) (fun cdv A' outer s H vs Q E hr h => body_ok (G := []) (G' := []) (L := []) (N := ["part"]) rfl (by decide) (by decide) (fun B H' => ?_) h)
  exact (ss_cons (s_if (st_cmp (sc_eq hr (se_ix hr (se_v 0) se_int) se_str)) (ss_one (s_ret (se_add (se_add (se_ix hr (se_v 0) se_int) se_str) (se_if (st_cmp (sc_is (se_ix hr (se_v 0) se_int) se_non)) (se_gS T.g_NO_BOND) (se_ix hr (se_v 0) se_int))))) ss_nil) (ss_one (s_ret (se_join2 se_str (se_comp (osc := (defScope s_written_part)) (ON := ["part"]) (N := ["told"]) (cap := [none]) ⟨rfl, by decide +kernel, by decide +kernel, by decide +kernel, by decide +kernel⟩ (tg_n 0) (si_v (se_v 0) (fun z => by cases z)) (fun _ _ _ _ => pg_name (i := 0) (show (["told"] : List Str).Nodup by decide +kernel) rfl (Or.inl rfl)) (fun _ _ _ _ => sifs_nil) (fun _ _ _ _ => (se_str1 T.z_str (se_v 0))))))))
structure Tx_written_form (P : Program) (w : World) (K : PySem.W.Frag) (mg : Str → Option Value) (base : Heap) (cl : Nat → Addr) (A : Adr) : Prop where
  g_PARTING : mg "PARTING" = some (.str "; " A.t_PARTING)
  c_written_part : Cal P w K mg base 1 "written_part" ["part"] (spM ⟨K, cl⟩ mi_written_part false)
theorem ok_written_form {f : Addr} {fd : FuncData} (F : Fun K "written_form" "written_form" s_written_form f fd) (T : Tx_written_form P w K mg base cl A) : FnOk P w K mg base CX0 2 f fd ["form"] (spM ⟨K, cl⟩ mi_written_form false) := by
  refine F.ok sc_written_form (fun vs H Q E h => spM_len h) (fun cdv A' outer s H vs Q E hr h => body_ok (G := []) (G' := []) (L := []) (N := ["form"]) rfl (by decide) (by decide) (fun B H' => ?_) h)
  exact (ss_one (s_ret (se_join2 (se_gS T.g_PARTING) (se_comp (osc := (defScope s_written_form)) (ON := ["form"]) (N := ["part"]) (cap := [none]) ⟨rfl, by decide +kernel, by decide +kernel, by decide +kernel, by decide +kernel⟩ (tg_n 0) (si_v (se_v 0) (fun z => by cases z)) (fun _ _ _ _ => pg_name (i := 0) (show (["part"] : List Str).Nodup by decide +kernel) rfl (Or.inl rfl)) (fun _ _ _ _ => sifs_nil) (fun _ _ _ _ => (se_callV T.c_written_part hr (sa_cons (se_v 0) sa_nil)))))))
structure Tx_ending_of (P : Program) (w : World) (K : PySem.W.Frag) (mg : Str → Option Value) (base : Heap) (cl : Nat → Addr) (A : Adr) : Prop where
  z_len : mg "len" = none
theorem ok_ending_of {f : Addr} {fd : FuncData} (F : Fun K "ending_of" "ending_of" s_ending_of f fd) (T : Tx_ending_of P w K mg base cl A) : FnOk P w K mg base CX0 1 f fd ["form"] (spM ⟨K, cl⟩ mi_ending_of false) := by
  refine F.ok sc_ending_of (fun vs H Q E h => spM_len h) (fun cdv A' outer s H vs Q E hr h => body_ok (G := []) (G' := []) (L := []) (N := ["form", "endings"]) rfl (by decide) (by decide) (fun B H' => ?_) h)
  exact (ss_cons (s_setC 1 sc_ending_of.nd (osc := (defScope s_ending_of)) (ON := ["form", "endings"]) (N := ["part"]) (cap := [none]) ⟨rfl, by decide +kernel, by decide +kernel, by decide +kernel, by decide +kernel⟩ (tg_n 0) (si_v (se_v 0) (fun z => by cases z)) (fun _ _ _ _ => pg_name (i := 0) (show (["part"] : List Str).Nodup by decide +kernel) rfl (Or.inl rfl)) (fun _ _ _ _ => pifs_one (st_cmp (sc_eq hr (se_ix hr (se_v 0) se_int) se_str))) (fun _ _ _ _ => (se_v 0))) (ss_one (s_ret (se_if (st_cmp (sc_gt (se_len T.z_len (se_v 1)) se_int)) (se_ix hr (se_v 1) se_int) se_non))))
structure Tx_times_of (P : Program) (w : World) (K : PySem.W.Frag) (mg : Str → Option Value) (base : Heap) (cl : Nat → Addr) (A : Adr) : Prop where
  z_list : mg "list" = none
  z_range : mg "range" = none
  c_ending_of : Cal P w K mg base 1 "ending_of" ["form"] (spM ⟨K, cl⟩ mi_ending_of false)
theorem ok_times_of {f : Addr} {fd : FuncData} (F : Fun K "times_of" "times_of" s_times_of f fd) (T : Tx_times_of P w K mg base cl A) : FnOk P w K mg base CX0 2 f fd ["form"] (spM ⟨K, cl⟩ mi_times_of true) := by
  refine F.ok sc_times_of (fun vs H Q E h => spM_len h) (fun cdv A' outer s H vs Q E hr h => body_ok (G := []) (G' := []) (L := []) (N := ["form", "ending"]) rfl (by decide) (by decide) (fun B H' => ?_) h)
  exact (ss_cons (s_set 1 sc_times_of.nd (se_callV T.c_ending_of hr (sa_cons (se_v 0) sa_nil))) (ss_one (s_retO (se_if (st_cmp (sc_is (se_v 1) se_non)) (se_lst (sa_cons se_int sa_nil)) (se_listQ T.z_list T.z_range (se_ix hr (se_v 1) se_int) (se_add (se_ix hr (se_v 1) se_int) se_int))))))
structure Tx__law_alike__1 (P : Program) (w : World) (K : PySem.W.Frag) (mg : Str → Option Value) (base : Heap) (cl : Nat → Addr) (A : Adr) : Prop where
  z_all : mg "all" = none
  z_bool : mg "bool" = none
  z_int : mg "int" = none
  z_isinstance : mg "isinstance" = none
  z_len : mg "len" = none
  z_range : mg "range" = none
  z_str : mg "str" = none
  z_tuple : mg "tuple" = none
  is_bool : ∀ t k, (t, k) ∈ tb_bool → PySem.W.kitOne K (.type t) (.type "bool") = some k
  is_int : ∀ t k, (t, k) ∈ tb_int → PySem.W.kitOne K (.type t) (.type "int") = some k
  is_str : ∀ t k, (t, k) ∈ tb_str → PySem.W.kitOne K (.type t) (.type "str") = some k
  is_tuple : ∀ t k, (t, k) ∈ tb_tuple → PySem.W.kitOne K (.type t) (.type "tuple") = some k
  c__law_alike__0 : Cal P w K mg base 0 "_law_alike" ["_law_found", "_law_due"] (spM ⟨K, cl⟩ mi__law_alike__0 false)
theorem ok__law_alike__1 {f : Addr} {fd : FuncData} (F : Fun K "_law_alike" "_law_alike" s__law_alike__1 f fd) (T : Tx__law_alike__1 P w K mg base cl A) : FnOk P w K mg base CX0 1 f fd ["_law_found", "_law_due"] (spM ⟨K, cl⟩ mi__law_alike__1 false) := by
  refine F.ok sc__law_alike__1 (fun vs H Q E h => spM_len h) (fun cdv A' outer s H vs Q E hr h => body_ok (G := []) (G' := []) (L := []) (N := ["_law_found", "_law_due"]) rfl (by decide) (by decide) (fun B H' => ?_) h)
  exact (ss_cons (s_if (st_val (se_isi2 tb_tuple T.is_tuple T.z_isinstance T.z_tuple PyProof.Rows.boot_tuple (se_v 1))) (ss_cons (s_if (SW.st (sw_or (st_not (st_val (se_isi2 tb_tuple T.is_tuple T.z_isinstance T.z_tuple PyProof.Rows.boot_tuple (se_v 0)))) (sw_or1 (st_cmp (sc_ne hr (se_len T.z_len (se_v 0)) (se_len T.z_len (se_v 1))))))) (ss_one (s_ret se_bl)) ss_nil) (ss_one (s_ret (se_all T.z_all (se_comp (osc := (defScope s__law_alike__1)) (ON := ["_law_found", "_law_due"]) (N := ["_law_k", "_law_found", "_law_due"]) (cap := [none, some 0, some 1]) ⟨rfl, by decide +kernel, by decide +kernel, by decide +kernel, by decide +kernel⟩ (tg_n 0) (si_r1 T.z_range (se_len T.z_len (se_v 1))) (fun _ _ _ _ => pg_name (i := 0) (show (["_law_k", "_law_found", "_law_due"] : List Str).Nodup by decide +kernel) rfl (Or.inl rfl)) (fun _ _ _ _ => sifs_nil) (fun _ _ _ _ => (se_callV T.c__law_alike__0 hr (sa_cons (se_ix hr (se_v 1) (se_v 0)) (sa_cons (se_ix hr (se_v 2) (se_v 0)) sa_nil))))))))) ss_nil) (ss_cons (s_if (st_cmp (sc_is (se_v 1) se_non)) (ss_one (s_ret (se_cmp (sc_is (se_v 0) se_non)))) ss_nil) (ss_cons (s_if (st_val (se_isi2 tb_str T.is_str T.z_isinstance T.z_str PyProof.Rows.boot_str (se_v 1))) (ss_one (s_ret (se_and (se_isi2 tb_str T.is_str T.z_isinstance T.z_str PyProof.Rows.boot_str (se_v 0)) (se_one (se_cmp (sc_eq hr (se_v 0) (se_v 1))))))) ss_nil) (ss_one (s_ret (se_and (se_isi2 tb_int T.is_int T.z_isinstance T.z_int PyProof.Rows.boot_int (se_v 0)) (se_and (se_not (se_isi2 tb_bool T.is_bool T.z_isinstance T.z_bool PyProof.Rows.boot_bool (se_v 0))) (se_one (se_cmp (sc_eq hr (se_v 0) (se_v 1)))))))))))
structure Tx__law_alike__2 (P : Program) (w : World) (K : PySem.W.Frag) (mg : Str → Option Value) (base : Heap) (cl : Nat → Addr) (A : Adr) : Prop where
  z_all : mg "all" = none
  z_bool : mg "bool" = none
  z_int : mg "int" = none
  z_isinstance : mg "isinstance" = none
  z_len : mg "len" = none
  z_range : mg "range" = none
  z_str : mg "str" = none
  z_tuple : mg "tuple" = none
  is_bool : ∀ t k, (t, k) ∈ tb_bool → PySem.W.kitOne K (.type t) (.type "bool") = some k
  is_int : ∀ t k, (t, k) ∈ tb_int → PySem.W.kitOne K (.type t) (.type "int") = some k
  is_str : ∀ t k, (t, k) ∈ tb_str → PySem.W.kitOne K (.type t) (.type "str") = some k
  is_tuple : ∀ t k, (t, k) ∈ tb_tuple → PySem.W.kitOne K (.type t) (.type "tuple") = some k
  c__law_alike__1 : Cal P w K mg base 1 "_law_alike" ["_law_found", "_law_due"] (spM ⟨K, cl⟩ mi__law_alike__1 false)
theorem ok__law_alike__2 {f : Addr} {fd : FuncData} (F : Fun K "_law_alike" "_law_alike" s__law_alike__2 f fd) (T : Tx__law_alike__2 P w K mg base cl A) : FnOk P w K mg base CX0 2 f fd ["_law_found", "_law_due"] (spM ⟨K, cl⟩ mi__law_alike__2 false) := by
  refine F.ok sc__law_alike__2 (fun vs H Q E h => spM_len h) (fun cdv A' outer s H vs Q E hr h => body_ok (G := []) (G' := []) (L := []) (N := ["_law_found", "_law_due"]) rfl (by decide) (by decide) (fun B H' => ?_) h)
  exact (ss_cons (s_if (st_val (se_isi2 tb_tuple T.is_tuple T.z_isinstance T.z_tuple PyProof.Rows.boot_tuple (se_v 1))) (ss_cons (s_if (SW.st (sw_or (st_not (st_val (se_isi2 tb_tuple T.is_tuple T.z_isinstance T.z_tuple PyProof.Rows.boot_tuple (se_v 0)))) (sw_or1 (st_cmp (sc_ne hr (se_len T.z_len (se_v 0)) (se_len T.z_len (se_v 1))))))) (ss_one (s_ret se_bl)) ss_nil) (ss_one (s_ret (se_all T.z_all (se_comp (osc := (defScope s__law_alike__2)) (ON := ["_law_found", "_law_due"]) (N := ["_law_k", "_law_found", "_law_due"]) (cap := [none, some 0, some 1]) ⟨rfl, by decide +kernel, by decide +kernel, by decide +kernel, by decide +kernel⟩ (tg_n 0) (si_r1 T.z_range (se_len T.z_len (se_v 1))) (fun _ _ _ _ => pg_name (i := 0) (show (["_law_k", "_law_found", "_law_due"] : List Str).Nodup by decide +kernel) rfl (Or.inl rfl)) (fun _ _ _ _ => sifs_nil) (fun _ _ _ _ => (se_callV T.c__law_alike__1 hr (sa_cons (se_ix hr (se_v 1) (se_v 0)) (sa_cons (se_ix hr (se_v 2) (se_v 0)) sa_nil))))))))) ss_nil) (ss_cons (s_if (st_cmp (sc_is (se_v 1) se_non)) (ss_one (s_ret (se_cmp (sc_is (se_v 0) se_non)))) ss_nil) (ss_cons (s_if (st_val (se_isi2 tb_str T.is_str T.z_isinstance T.z_str PyProof.Rows.boot_str (se_v 1))) (ss_one (s_ret (se_and (se_isi2 tb_str T.is_str T.z_isinstance T.z_str PyProof.Rows.boot_str (se_v 0)) (se_one (se_cmp (sc_eq hr (se_v 0) (se_v 1))))))) ss_nil) (ss_one (s_ret (se_and (se_isi2 tb_int T.is_int T.z_isinstance T.z_int PyProof.Rows.boot_int (se_v 0)) (se_and (se_not (se_isi2 tb_bool T.is_bool T.z_isinstance T.z_bool PyProof.Rows.boot_bool (se_v 0))) (se_one (se_cmp (sc_eq hr (se_v 0) (se_v 1)))))))))))
structure Tx__law_alike (P : Program) (w : World) (K : PySem.W.Frag) (mg : Str → Option Value) (base : Heap) (cl : Nat → Addr) (A : Adr) : Prop where
  z_all : mg "all" = none
  z_bool : mg "bool" = none
  z_int : mg "int" = none
  z_isinstance : mg "isinstance" = none
  z_len : mg "len" = none
  z_range : mg "range" = none
  z_str : mg "str" = none
  z_tuple : mg "tuple" = none
  is_bool : ∀ t k, (t, k) ∈ tb_bool → PySem.W.kitOne K (.type t) (.type "bool") = some k
  is_int : ∀ t k, (t, k) ∈ tb_int → PySem.W.kitOne K (.type t) (.type "int") = some k
  is_str : ∀ t k, (t, k) ∈ tb_str → PySem.W.kitOne K (.type t) (.type "str") = some k
  is_tuple : ∀ t k, (t, k) ∈ tb_tuple → PySem.W.kitOne K (.type t) (.type "tuple") = some k
  c__law_alike__2 : Cal P w K mg base 2 "_law_alike" ["_law_found", "_law_due"] (spM ⟨K, cl⟩ mi__law_alike__2 false)
theorem ok__law_alike {f : Addr} {fd : FuncData} (F : Fun K "_law_alike" "_law_alike" s__law_alike f fd) (T : Tx__law_alike P w K mg base cl A) : FnOk P w K mg base CX0 3 f fd ["_law_found", "_law_due"] (spM ⟨K, cl⟩ mi__law_alike false) := by
  refine F.ok sc__law_alike (fun vs H Q E h => spM_len h) (fun cdv A' outer s H vs Q E hr h => body_ok (G := []) (G' := []) (L := []) (N := ["_law_found", "_law_due"]) rfl (by decide) (by decide) (fun B H' => ?_) h)
  exact (ss_cons (s_if (st_val (se_isi2 tb_tuple T.is_tuple T.z_isinstance T.z_tuple PyProof.Rows.boot_tuple (se_v 1))) (ss_cons (s_if (SW.st (sw_or (st_not (st_val (se_isi2 tb_tuple T.is_tuple T.z_isinstance T.z_tuple PyProof.Rows.boot_tuple (se_v 0)))) (sw_or1 (st_cmp (sc_ne hr (se_len T.z_len (se_v 0)) (se_len T.z_len (se_v 1))))))) (ss_one (s_ret se_bl)) ss_nil) (ss_one (s_ret (se_all T.z_all (se_comp (osc := (defScope s__law_alike)) (ON := ["_law_found", "_law_due"]) (N := ["_law_k", "_law_found", "_law_due"]) (cap := [none, some 0, some 1]) ⟨rfl, by decide +kernel, by decide +kernel, by decide +kernel, by decide +kernel⟩ (tg_n 0) (si_r1 T.z_range (se_len T.z_len (se_v 1))) (fun _ _ _ _ => pg_name (i := 0) (show (["_law_k", "_law_found", "_law_due"] : List Str).Nodup by decide +kernel) rfl (Or.inl rfl)) (fun _ _ _ _ => sifs_nil) (fun _ _ _ _ => (se_callV T.c__law_alike__2 hr (sa_cons (se_ix hr (se_v 1) (se_v 0)) (sa_cons (se_ix hr (se_v 2) (se_v 0)) sa_nil))))))))) ss_nil) (ss_cons (s_if (st_cmp (sc_is (se_v 1) se_non)) (ss_one (s_ret (se_cmp (sc_is (se_v 0) se_non)))) ss_nil) (ss_cons (s_if (st_val (se_isi2 tb_str T.is_str T.z_isinstance T.z_str PyProof.Rows.boot_str (se_v 1))) (ss_one (s_ret (se_and (se_isi2 tb_str T.is_str T.z_isinstance T.z_str PyProof.Rows.boot_str (se_v 0)) (se_one (se_cmp (sc_eq hr (se_v 0) (se_v 1))))))) ss_nil) (ss_one (s_ret (se_and (se_isi2 tb_int T.is_int T.z_isinstance T.z_int PyProof.Rows.boot_int (se_v 0)) (se_and (se_not (se_isi2 tb_bool T.is_bool T.z_isinstance T.z_bool PyProof.Rows.boot_bool (se_v 0))) (se_one (se_cmp (sc_eq hr (se_v 0) (se_v 1)))))))))))
structure Tx_is_open (P : Program) (w : World) (K : PySem.W.Frag) (mg : Str → Option Value) (base : Heap) (cl : Nat → Addr) (A : Adr) : Prop where
  g_OPENING : mg "OPENING" = some (.ref A.a_OPENING)
  r_OPENING : ∀ (B : Addr → Prop) (H : Hp), Rep ⟨K, cl⟩ B H (.ref A.a_OPENING) c_OPENING
  c_ending_of : Cal P w K mg base 1 "ending_of" ["form"] (spM ⟨K, cl⟩ mi_ending_of false)
theorem ok_is_open {f : Addr} {fd : FuncData} (F : Fun K "is_open" "is_open" s_is_open f fd) (T : Tx_is_open P w K mg base cl A) : FnOk P w K mg base CX0 2 f fd ["form"] (spM ⟨K, cl⟩ mi_is_open false) := by
  refine F.ok sc_is_open (fun vs H Q E h => spM_len h) (fun cdv A' outer s H vs Q E hr h => body_ok (G := []) (G' := []) (L := []) (N := ["form"]) rfl (by decide) (by decide) (fun B H' => ?_) h)
  exact (ss_one (s_ret (se_and (se_cmp (sc_in hr (se_gR T.g_OPENING (T.r_OPENING)) (se_v 0))) (se_one (se_cmp (sc_is (se_callV T.c_ending_of hr (sa_cons (se_v 0) sa_nil)) se_non))))))
structure Tx_read_ending (P : Program) (w : World) (K : PySem.W.Frag) (mg : Str → Option Value) (base : Heap) (cl : Nat → Addr) (A : Adr) : Prop where
  z_int : mg "int" = none
  g_HIGHS : mg "HIGHS" = some (.ref A.a_HIGHS)
  r_HIGHS : ∀ (B : Addr → Prop) (H : Hp), Rep ⟨K, cl⟩ B H (.ref A.a_HIGHS) c_HIGHS
  g_LOWS : mg "LOWS" = some (.ref A.a_LOWS)
  r_LOWS : ∀ (B : Addr → Prop) (H : Hp), Rep ⟨K, cl⟩ B H (.ref A.a_LOWS) c_LOWS
theorem ok_read_ending {f : Addr} {fd : FuncData} (F : Fun K "read_ending" "read_ending" s_read_ending f fd) (T : Tx_read_ending P w K mg base cl A) : FnOk P w K mg base CX0 1 f fd ["low", "high"] (spM ⟨K, cl⟩ mi_read_ending false) := by
  refine F.ok sc_read_ending (fun vs H Q E h => spM_len h) (fun cdv A' outer s H vs Q E hr h => body_ok (G := []) (G' := []) (L := []) (N := ["low", "high"]) rfl (by decide) (by decide) (fun B H' => ?_) h)
  exact (ss_cons (s_if (SW.st (sw_or (st_cmp (sc_notin hr (se_v 0) (se_gR T.g_LOWS (T.r_LOWS)))) (sw_or (st_cmp (sc_notin hr (se_v 1) (se_gR T.g_HIGHS (T.r_HIGHS)))) (sw_or1 (st_cmp (sc_lt2 hr (se_int2 T.z_int (se_v 1)) (se_int2 T.z_int (se_v 0)))))))) (ss_one (s_ret se_non)) ss_nil) (ss_one (s_ret (se_tup (sa_cons se_str (sa_cons (se_int2 T.z_int (se_v 0)) (sa_cons (se_int2 T.z_int (se_v 1)) sa_nil)))))))
structure Tx_is_row_number (P : Program) (w : World) (K : PySem.W.Frag) (mg : Str → Option Value) (base : Heap) (cl : Nat → Addr) (A : Adr) : Prop where
  z_range : mg "range" = none
  z_str : mg "str" = none
  g_MOST_ROWS : mg "MOST_ROWS" = some (.int 12 A.t_MOST_ROWS)
theorem ok_is_row_number {f : Addr} {fd : FuncData} (F : Fun K "is_row_number" "is_row_number" s_is_row_number f fd) (T : Tx_is_row_number P w K mg base cl A) : FnOk P w K mg base CX0 1 f fd ["text"] (spM ⟨K, cl⟩ mi_is_row_number false) := by
  refine F.ok sc_is_row_number (fun vs H Q E h => spM_len h) (fun cdv A' outer s H vs Q E hr h => body_ok (G := []) (G' := []) (L := []) (N := ["text"]) rfl (by decide) (by decide) (fun B H' => ?_) h)
  exact (ss_one (s_ret (se_cmp (sc_in hr (se_v 0) (se_comp (osc := (defScope s_is_row_number)) (ON := ["text"]) (N := ["number"]) (cap := [none]) ⟨rfl, by decide +kernel, by decide +kernel, by decide +kernel, by decide +kernel⟩ (tg_n 0) (si_r2 T.z_range se_int (se_add (se_gI T.g_MOST_ROWS) se_int)) (fun _ _ _ _ => pg_name (i := 0) (show (["number"] : List Str).Nodup by decide +kernel) rfl (Or.inl rfl)) (fun _ _ _ _ => sifs_nil) (fun _ _ _ _ => (se_str1 T.z_str (se_v 0))))))))
structure Tx_is_name (P : Program) (w : World) (K : PySem.W.Frag) (mg : Str → Option Value) (base : Heap) (cl : Nat → Addr) (A : Adr) : Prop where
  z_all : mg "all" = none
  z_len : mg "len" = none
  g_LETTERS : mg "LETTERS" = some (.str "abcdefghijklmnopqrstuvwxyz" A.t_LETTERS)
  g_MOST_SIGNS : mg "MOST_SIGNS" = some (.int 8 A.t_MOST_SIGNS)
theorem ok_is_name {f : Addr} {fd : FuncData} (F : Fun K "is_name" "is_name" s_is_name f fd) (T : Tx_is_name P w K mg base cl A) : FnOk P w K mg base CX0 1 f fd ["text"] (spM ⟨K, cl⟩ mi_is_name false) := by
  refine F.ok sc_is_name (fun vs H Q E h => spM_len h) (fun cdv A' outer s H vs Q E hr h => body_ok (G := []) (G' := []) (L := []) (N := ["text"]) rfl (by decide) (by decide) (fun B H' => ?_) h)
  exact (ss_one (s_ret (se_and (se_chain op_le op_le se_int (se_len T.z_len (se_v 0)) (se_gI T.g_MOST_SIGNS)) (se_one (se_all T.z_all (se_comp (osc := (defScope s_is_name)) (ON := ["text"]) (N := ["sign"]) (cap := [none]) ⟨rfl, by decide +kernel, by decide +kernel, by decide +kernel, by decide +kernel⟩ (tg_n 0) (si_v (se_v 0) (fun z => by cases z)) (fun _ _ _ _ => pg_name (i := 0) (show (["sign"] : List Str).Nodup by decide +kernel) rfl (Or.inl rfl)) (fun _ _ _ _ => sifs_nil) (fun _ _ _ _ => (se_cmp (sc_in hr (se_v 0) (se_gS T.g_LETTERS))))))))))
structure Tx_is_letter (P : Program) (w : World) (K : PySem.W.Frag) (mg : Str → Option Value) (base : Heap) (cl : Nat → Addr) (A : Adr) : Prop where
  z_len : mg "len" = none
  g_LETTERS : mg "LETTERS" = some (.str "abcdefghijklmnopqrstuvwxyz" A.t_LETTERS)
theorem ok_is_letter {f : Addr} {fd : FuncData} (F : Fun K "is_letter" "is_letter" s_is_letter f fd) (T : Tx_is_letter P w K mg base cl A) : FnOk P w K mg base CX0 1 f fd ["text"] (spM ⟨K, cl⟩ mi_is_letter false) := by
  refine F.ok sc_is_letter (fun vs H Q E h => spM_len h) (fun cdv A' outer s H vs Q E hr h => body_ok (G := []) (G' := []) (L := []) (N := ["text"]) rfl (by decide) (by decide) (fun B H' => ?_) h)
  exact (ss_one (s_ret (se_and (se_cmp (sc_eq hr (se_len T.z_len (se_v 0)) se_int)) (se_one (se_cmp (sc_in hr (se_v 0) (se_gS T.g_LETTERS)))))))
structure Tx_is_bond (P : Program) (w : World) (K : PySem.W.Frag) (mg : Str → Option Value) (base : Heap) (cl : Nat → Addr) (A : Adr) : Prop where
  z_len : mg "len" = none
  g_LETTERS : mg "LETTERS" = some (.str "abcdefghijklmnopqrstuvwxyz" A.t_LETTERS)
  g_NO_BOND : mg "NO_BOND" = some (.str "-" A.t_NO_BOND)
  c_is_letter : Cal P w K mg base 1 "is_letter" ["text"] (spM ⟨K, cl⟩ mi_is_letter false)
theorem ok_is_bond {f : Addr} {fd : FuncData} (F : Fun K "is_bond" "is_bond" s_is_bond f fd) (T : Tx_is_bond P w K mg base cl A) : FnOk P w K mg base CX0 2 f fd ["text"] (spM ⟨K, cl⟩ mi_is_bond false) := by
  refine F.ok sc_is_bond (fun vs H Q E h => spM_len h) (fun cdv A' outer s H vs Q E hr h => body_ok (G := []) (G' := []) (L := []) (N := ["text"]) rfl (by decide) (by decide) (fun B H' => ?_) h)
  exact (ss_one (s_ret (se_or (se_cmp (sc_eq hr (se_v 0) (se_gS T.g_NO_BOND))) (se_or (se_callV T.c_is_letter hr (sa_cons (se_v 0) sa_nil)) (se_one (se_and (se_cmp (sc_eq hr (se_len T.z_len (se_v 0)) se_int)) (se_one (se_cmp (sc_in hr (se_v 0) (se_upper (se_gS T.g_LETTERS)))))))))))
structure Tx_read_part (P : Program) (w : World) (K : PySem.W.Frag) (mg : Str → Option Value) (base : Heap) (cl : Nat → Addr) (A : Adr) : Prop where
  z_int : mg "int" = none
  z_len : mg "len" = none
  g_NO_BOND : mg "NO_BOND" = some (.str "-" A.t_NO_BOND)
  g_OPENING : mg "OPENING" = some (.ref A.a_OPENING)
  r_OPENING : ∀ (B : Addr → Prop) (H : Hp), Rep ⟨K, cl⟩ B H (.ref A.a_OPENING) c_OPENING
  c_is_bond : Cal P w K mg base 2 "is_bond" ["text"] (spM ⟨K, cl⟩ mi_is_bond false)
  c_is_name : Cal P w K mg base 1 "is_name" ["text"] (spM ⟨K, cl⟩ mi_is_name false)
  c_is_row_number : Cal P w K mg base 1 "is_row_number" ["text"] (spM ⟨K, cl⟩ mi_is_row_number false)
  c_read_ending : Cal P w K mg base 1 "read_ending" ["low", "high"] (spM ⟨K, cl⟩ mi_read_ending false)
theorem ok_read_part {f : Addr} {fd : FuncData} (F : Fun K "read_part" "read_part" s_read_part f fd) (T : Tx_read_part P w K mg base cl A) : FnOk P w K mg base CX0 3 f fd ["text"] (spM ⟨K, cl⟩ mi_read_part false) := by
  refine F.ok sc_read_part (fun vs H Q E h => spM_len h) (fun cdv A' outer s H vs Q E hr h => body_ok (G := []) (G' := []) (L := []) (N := ["text", "words"]) rfl (by decide) (by decide) (fun B H' => ?_) h)
  exact (ss_cons (s_set 1 sc_read_part.nd (SE.val (se_split (se_v 0) se_str))) (ss_cons (s_if (st_cmp (sc_eq hr (se_v 1) (se_lst (sa_cons se_str sa_nil)))) (ss_one (s_ret (se_gR T.g_OPENING (T.r_OPENING)))) ss_nil) (ss_cons (s_if (SW.st (sw_and (st_cmp (sc_eq hr (se_len T.z_len (se_v 1)) se_int)) (sw_and1 (st_cmp (sc_eq hr (se_ix hr (se_v 1) se_int) se_str))))) (ss_one (s_ret (se_callV T.c_read_ending hr (sa_cons (se_ix hr (se_v 1) se_int) (sa_cons (se_ix hr (se_v 1) se_int) sa_nil))))) ss_nil) (ss_cons (s_if (st_cmp (sc_ne hr (se_len T.z_len (se_v 1)) se_int)) (ss_one (s_ret se_non)) ss_nil) (ss_cons (s_if (SW.st (sw_and (st_cmp (sc_eq hr (se_ix hr (se_v 1) se_int) se_str)) (sw_and1 (st_val (se_callV T.c_is_row_number hr (sa_cons (se_ix hr (se_v 1) se_int) sa_nil)))))) (ss_one (s_ret (se_tup (sa_cons se_str (sa_cons (se_int2 T.z_int (se_ix hr (se_v 1) se_int)) sa_nil))))) ss_nil) (ss_cons (s_if (SW.st (sw_and (st_val (se_callV T.c_is_name hr (sa_cons (se_ix hr (se_v 1) se_int) sa_nil))) (sw_and1 (st_val (se_callV T.c_is_bond hr (sa_cons (se_ix hr (se_v 1) se_int) sa_nil)))))) (ss_one (s_ret (se_tup (sa_cons se_str (sa_cons (se_ix hr (se_v 1) se_int) (sa_cons (se_if (st_cmp (sc_eq hr (se_ix hr (se_v 1) se_int) (se_gS T.g_NO_BOND))) se_non (se_ix hr (se_v 1) se_int)) sa_nil)))))) ss_nil) (ss_one (s_ret se_non))))))))
structure Tx_cut_form (P : Program) (w : World) (K : PySem.W.Frag) (mg : Str → Option Value) (base : Heap) (cl : Nat → Addr) (A : Adr) : Prop where
  ok : True
theorem ok_cut_form {f : Addr} {fd : FuncData} (F : Fun K "cut_form" "cut_form" s_cut_form f fd) (T : Tx_cut_form P w K mg base cl A) : FnOk P w K mg base CX0 1 f fd ["form"] (spM ⟨K, cl⟩ mi_cut_form false) := by
  refine F.ok sc_cut_form (fun vs H Q E h => spM_len h) (fun cdv A' outer s H vs Q E hr h => body_ok (G := []) (G' := []) (L := []) (N := ["form", "lists", "where", "number", "part"]) rfl (by decide) (by decide) (fun B H' => ?_) h)
  exact (ni_cons (n_init 1 sc_cut_form.nd (em_cons (em_cons (em_cons em_nil)))) (nx_cons (n_lift fun _ _ _ => (s_set 2 sc_cut_form.nd se_int)) (nx_cons (n_lift fun _ _ _ => (s_set 3 sc_cut_form.nd se_int)) (nx_cons (n_for [4] (fun _ _ _ => (si_v (se_v 0) (fun _ => by intro z; cases z))) (fun _ _ _ => (sg_n 4 sc_cut_form.nd)) (n_one (n_if (fun _ _ _ => (SW.st (sw_or (st_cmp (sc_eq hr (se_ix hr (se_v 4) se_int) se_str)) (sw_or1 (st_cmp (sc_eq hr (se_ix hr (se_v 4) se_int) se_str)))))) (n_one (n_lift fun _ _ _ => (s_set 2 sc_cut_form.nd (se_add (se_v 2) se_int)))) (n_cons (n_lift fun _ _ _ => (s_set 3 sc_cut_form.nd (se_add (se_v 3) se_int))) (n_one (n_app 1 (fun _ _ _ => (se_v 2)) (fun _ _ _ => (se_tup (sa_cons (se_v 3) (sa_cons (se_v 4) sa_nil))))))))) PassesOwn.never) (nx_exit (ss_one (s_ret (se_v 1))))))))
structure Tx_names_row (P : Program) (w : World) (K : PySem.W.Frag) (mg : Str → Option Value) (base : Heap) (cl : Nat → Addr) (A : Adr) : Prop where
  z_any : mg "any" = none
  c_cut_form : Cal P w K mg base 1 "cut_form" ["form"] (spM ⟨K, cl⟩ mi_cut_form false)
  c_ending_of : Cal P w K mg base 1 "ending_of" ["form"] (spM ⟨K, cl⟩ mi_ending_of false)
theorem ok_names_row {f : Addr} {fd : FuncData} (F : Fun K "names_row" "names_row" s_names_row f fd) (T : Tx_names_row P w K mg base cl A) : FnOk P w K mg base CX0 2 f fd ["form", "number"] (spM ⟨K, cl⟩ mi_names_row false) := by
  refine F.ok sc_names_row (fun vs H Q E h => spM_len h) (fun cdv A' outer s H vs Q E hr h => body_ok (G := []) (G' := []) (L := []) (N := ["form", "number", "cut", "ending", "inside"]) rfl (by decide) (by decide) (fun B H' => ?_) h)
  exact (ss_cons (s_set 2 sc_names_row.nd (se_callV T.c_cut_form hr (sa_cons (se_v 0) sa_nil))) (ss_cons (s_set 3 sc_names_row.nd (se_callV T.c_ending_of hr (sa_cons (se_v 0) sa_nil))) (ss_cons (s_set 4 sc_names_row.nd (se_if (SW.st (sw_and (st_cmp (sc_isnot (se_v 3) se_non)) (sw_and1 (st_cmp (sc_eq hr (se_ix hr (se_v 3) se_int) se_int))))) (SE.val (se_lst sa_nil)) (se_ix hr (se_v 2) se_int))) (ss_one (s_ret (se_any T.z_any (se_comp (osc := (defScope s_names_row)) (ON := ["form", "number", "cut", "ending", "inside"]) (N := ["told", "part", "number"]) (cap := [none, none, some 1]) ⟨rfl, by decide +kernel, by decide +kernel, by decide +kernel, by decide +kernel⟩ (tg_t [0, 1]) (si_v (se_cat (se_add (se_ix hr (se_v 2) se_int) (se_v 4)) (se_ix hr (se_v 2) se_int)) (fun z => by cases z)) (fun _ _ _ _ => pg_tup rfl (pgs_cons (pg_name (i := 0) (show (["told", "part", "number"] : List Str).Nodup by decide +kernel) rfl (Or.inl rfl)) (pgs_cons (pg_name (i := 1) (show (["told", "part", "number"] : List Str).Nodup by decide +kernel) rfl (Or.inl rfl)) pgs_nil))) (fun _ _ _ _ => sifs_nil) (fun _ _ _ _ => (se_and (se_cmp (sc_eq hr (se_v 0) (se_v 2))) (se_one (se_cmp (sc_eq hr (se_ix hr (se_v 1) se_int) se_str))))))))))))
structure Tx_goes_on (P : Program) (w : World) (K : PySem.W.Frag) (mg : Str → Option Value) (base : Heap) (cl : Nat → Addr) (A : Adr) : Prop where
  z_len : mg "len" = none
  z_sum : mg "sum" = none
  g_MOST_ROWS : mg "MOST_ROWS" = some (.int 12 A.t_MOST_ROWS)
  g_OPENING : mg "OPENING" = some (.ref A.a_OPENING)
  r_OPENING : ∀ (B : Addr → Prop) (H : Hp), Rep ⟨K, cl⟩ B H (.ref A.a_OPENING) c_OPENING
  c_cut_form : Cal P w K mg base 1 "cut_form" ["form"] (spM ⟨K, cl⟩ mi_cut_form false)
  c_is_open : Cal P w K mg base 2 "is_open" ["form"] (spM ⟨K, cl⟩ mi_is_open false)
  c_names_row : Cal P w K mg base 2 "names_row" ["form", "number"] (spM ⟨K, cl⟩ mi_names_row false)
theorem ok_goes_on {f : Addr} {fd : FuncData} (F : Fun K "goes_on" "goes_on" s_goes_on f fd) (T : Tx_goes_on P w K mg base cl A) : FnOk P w K mg base CX0 3 f fd ["form", "part"] (spM ⟨K, cl⟩ mi_goes_on false) := by
  refine F.ok sc_goes_on (fun vs H Q E h => spM_len h) (fun cdv A' outer s H vs Q E hr h => body_ok (G := []) (G' := []) (L := []) (N := ["form", "part"]) rfl (by decide) (by decide) (fun B H' => ?_) h)
  exact (ss_cons (s_if (st_cmp (sc_eq hr (se_v 1) (se_gR T.g_OPENING (T.r_OPENING)))) (ss_one (s_ret (se_cmp (sc_notin hr (se_gR T.g_OPENING (T.r_OPENING)) (se_v 0))))) ss_nil) (ss_cons (s_if (st_cmp (sc_eq hr (se_ix hr (se_v 1) se_int) se_str)) (ss_one (s_ret (se_and (se_callV T.c_is_open hr (sa_cons (se_v 0) sa_nil)) (se_one (se_cmp (sc_ne hr (se_ix hr (se_v 0) (se_neg se_int)) (se_gR T.g_OPENING (T.r_OPENING)))))))) ss_nil) (ss_cons (s_if (st_cmp (sc_eq hr (se_sum T.z_sum (se_comp (osc := (defScope s_goes_on)) (ON := ["form", "part"]) (N := ["rows"]) (cap := [none]) ⟨rfl, by decide +kernel, by decide +kernel, by decide +kernel, by decide +kernel⟩ (tg_n 0) (si_v (se_callV T.c_cut_form hr (sa_cons (se_v 0) sa_nil)) (fun z => by cases z)) (fun _ _ _ _ => pg_name (i := 0) (show (["rows"] : List Str).Nodup by decide +kernel) rfl (Or.inl rfl)) (fun _ _ _ _ => sifs_nil) (fun _ _ _ _ => (se_len T.z_len (se_v 0))))) (se_gI T.g_MOST_ROWS))) (ss_one (s_ret se_bl)) ss_nil) (ss_one (s_ret (se_or (se_cmp (sc_eq hr (se_ix hr (se_v 1) se_int) se_str)) (se_one (se_callV T.c_names_row hr (sa_cons (se_v 0) (sa_cons (se_ix hr (se_v 1) se_int) sa_nil))))))))))
structure Tx_read_form (P : Program) (w : World) (K : PySem.W.Frag) (mg : Str → Option Value) (base : Heap) (cl : Nat → Addr) (A : Adr) : Prop where
  z_enumerate : mg "enumerate" = none
  z_tuple : mg "tuple" = none
  g_PARTING : mg "PARTING" = some (.str "; " A.t_PARTING)
  c_goes_on : Cal P w K mg base 3 "goes_on" ["form", "part"] (spM ⟨K, cl⟩ mi_goes_on false)
  c_is_open : Cal P w K mg base 2 "is_open" ["form"] (spM ⟨K, cl⟩ mi_is_open false)
  c_read_part : Cal P w K mg base 3 "read_part" ["text"] (spM ⟨K, cl⟩ mi_read_part false)
theorem ok_read_form {f : Addr} {fd : FuncData} (F : Fun K "read_form" "read_form" s_read_form f fd) (T : Tx_read_form P w K mg base cl A) : FnOk P w K mg base CX0 4 f fd ["text"] (spM ⟨K, cl⟩ mi_read_form false) := by
  refine F.ok sc_read_form (fun vs H Q E h => spM_len h) (fun cdv A' outer s H vs Q E hr h => body_ok (G := [2]) (G' := [2]) (L := []) (N := ["text", "texts", "form", "at", "written", "part"]) rfl (by decide) (by decide) (fun B H' => ?_) h)
  exact (ss_cons (s_set 1 sc_read_form.nd (SE.val (se_split (se_v 0) (se_gS T.g_PARTING)))) (ss_cons (s_setO 2 sc_read_form.nd (se_lst sa_nil)) (ss_cons (s_for [3, 4, 5] (si_enum2 T.z_enumerate (se_v 1) (fun _ => by intro z; cases z)) (sg_t (sgs_cons 3 sc_read_form.nd (sgs_cons 4 sc_read_form.nd sgs_nil))) (ss_cons (s_set 5 sc_read_form.nd (se_callV T.c_read_part hr (sa_cons (se_v 4) sa_nil))) (ss_cons (s_if (SW.st (sw_or (st_cmp (sc_is (se_v 5) se_non)) (sw_or1 (st_not (st_val (se_callB T.c_goes_on hr (sa_consL (se_b 2) (sa_cons (se_v 5) sa_nil)))))))) (ss_one s_no) ss_nil) (ss_one (s_app 2 (se_v 5))))) PassesOwn.never) (ss_cons (s_if (st_val (se_callB T.c_is_open hr (sa_consL (se_b 2) sa_nil))) (ss_one s_no) ss_nil) (ss_one (s_ret (se_tuple T.z_tuple (se_b 2))))))))
structure Tx_law (P : Program) (w : World) (K : PySem.W.Frag) (mg : Str → Option Value) (base : Heap) (cl : Nat → Addr) (A : Adr) : Prop where
  z_bool : mg "bool" = none
  z_isinstance : mg "isinstance" = none
  z_list : mg "list" = none
  z_range : mg "range" = none
  z_str : mg "str" = none
  is_bool : ∀ t k, (t, k) ∈ tb_bool → PySem.W.kitOne K (.type t) (.type "bool") = some k
  is_list : ∀ t k, (t, k) ∈ tb_list → PySem.W.kitOne K (.type t) (.type "list") = some k
  is_str : ∀ t k, (t, k) ∈ tb_str → PySem.W.kitOne K (.type t) (.type "str") = some k
  c__law_alike : Cal P w K mg base 3 "_law_alike" ["_law_found", "_law_due"] (spM ⟨K, cl⟩ mi__law_alike false)
  c__law_form : Cal P w K mg base 3 "_law_form" ["_law_cells"] (spM ⟨K, cl⟩ mi__law_form false)
  c__law_text : Cal P w K mg base 1 "_law_text" ["_law_form_here"] (spM ⟨K, cl⟩ mi__law_text false)
  c_read_form : Cal P w K mg base 4 "read_form" ["text"] (spM ⟨K, cl⟩ mi_read_form false)
  c_times_of : Cal P w K mg base 2 "times_of" ["form"] (spM ⟨K, cl⟩ mi_times_of true)
  c_written_form : Cal P w K mg base 2 "written_form" ["form"] (spM ⟨K, cl⟩ mi_written_form false)
theorem ok_law {f : Addr} {fd : FuncData} (F : Fun K "law" "law" s_law f fd) (T : Tx_law P w K mg base cl A) : FnOk P w K mg base CX0 5 f fd ["_law_script"] (spM ⟨K, cl⟩ mi_law false) := by
  refine F.ok sc_law (fun vs H Q E h => spM_len h) (fun cdv A' outer s H vs Q E hr h => body_ok (G := [6]) (G' := [6]) (L := []) (N := ["_law_script", "_law_form_here", "_law_line", "_law_told", "_law_due", "_law_part", "_law_found"]) rfl (by decide) (by decide) (fun B H' => ?_) h)
  exact (ss_cons (s_set 1 sc_law.nd (se_callV T.c__law_form hr (sa_cons (se_sl (se_v 0) so_none (so_some se_int)) sa_nil))) (ss_cons (s_set 2 sc_law.nd (se_callV T.c__law_text hr (sa_cons (se_v 1) sa_nil))) (ss_cons (s_if (st_not (st_val (se_callV T.c__law_alike hr (sa_cons (se_callV T.c_read_form hr (sa_cons (se_v 2) sa_nil)) (sa_cons (se_v 1) sa_nil))))) (ss_one (s_ret se_bl)) ss_nil) (ss_cons (s_set 3 sc_law.nd (se_callV T.c_written_form hr (sa_cons (se_v 1) sa_nil))) (ss_cons (s_if (SW.st (sw_or (st_not (st_val (se_isi2 tb_str T.is_str T.z_isinstance T.z_str PyProof.Rows.boot_str (se_v 3)))) (sw_or1 (st_cmp (sc_ne hr (se_v 3) (se_v 2)))))) (ss_one (s_ret se_bl)) ss_nil) (ss_cons (s_set 4 sc_law.nd (SE.val (se_lst (sa_cons se_int sa_nil)))) (ss_cons (s_for [5] (si_v (se_v 1) (fun _ => by intro z; cases z)) (sg_n 5 sc_law.nd) (ss_one (s_if (st_cmp (sc_eq hr (se_ix hr (se_v 5) se_int) se_str)) (ss_one (s_setC 4 sc_law.nd (osc := (defScope s_law)) (ON := ["_law_script", "_law_form_here", "_law_line", "_law_told", "_law_due", "_law_part", "_law_found"]) (N := ["_law_k", "_law_part"]) (cap := [none, some 5]) ⟨rfl, by decide +kernel, by decide +kernel, by decide +kernel, by decide +kernel⟩ (tg_n 0) (si_r1 T.z_range (se_add (se_sub (se_ix hr (se_v 5) se_int) (se_ix hr (se_v 5) se_int)) se_int)) (fun _ _ _ _ => pg_name (i := 0) (show (["_law_k", "_law_part"] : List Str).Nodup by decide +kernel) rfl (Or.inl rfl)) (fun _ _ _ _ => sifs_nil) (fun _ _ _ _ => (se_add (se_ix hr (se_v 1) se_int) (se_v 0))))) ss_nil)) PassesOwn.never) (ss_cons (s_setO 6 sc_law.nd (se_callO T.c_times_of hr (sa_cons (se_v 1) sa_nil))) (ss_cons (s_if (SW.st (sw_or (st_not (st_val (se_isi2 tb_list T.is_list T.z_isinstance T.z_list PyProof.Rows.boot_list (se_b 6)))) (sw_or (st_cmp (sc_ne hr (se_b 6) (se_v 4))) (sw_or1 (st_cmp (sc_ne hr (se_comp (osc := (defScope s_law)) (ON := ["_law_script", "_law_form_here", "_law_line", "_law_told", "_law_due", "_law_part", "_law_found"]) (N := ["_law_k"]) (cap := [none]) ⟨rfl, by decide +kernel, by decide +kernel, by decide +kernel, by decide +kernel⟩ (tg_n 0) (si_v (se_b 6) (fun z => by cases z)) (fun _ _ _ _ => pg_name (i := 0) (show (["_law_k"] : List Str).Nodup by decide +kernel) rfl (Or.inl rfl)) (fun _ _ _ _ => pifs_one (st_val (se_isi2 tb_bool T.is_bool T.z_isinstance T.z_bool PyProof.Rows.boot_bool (se_v 0)))) (fun _ _ _ _ => (se_v 0))) (se_lst sa_nil))))))) (ss_one (s_ret se_bl)) ss_nil) (ss_cons (s_app 6 se_int) (ss_one (s_ret (se_and (se_cmp (sc_eq hr (se_callO T.c_times_of hr (sa_cons (se_v 1) sa_nil)) (se_v 4))) (se_one (se_cmp (sc_eq hr (se_callV T.c_read_form hr (sa_cons (se_callV T.c_written_form hr (sa_cons (se_v 1) sa_nil)) sa_nil)) (se_v 1)))))))))))))))))
end
end My
namespace My
open PySem L2 MR
def spLaw (K : PySem.W.Frag) : Sp := fun vs H Q _ => ∃ (a : Addr) (ns : List Int), vs = [V.ref a] ∧ Only H ∧ SqL K H a (ns.map V.int) ∧ ns.length ≤ 63 ∧ ∀ J, Q (.bl true) J
theorem law_sp {K : PySem.W.Frag} {cl : Nat → Addr} {vs : List V} {H : Hp} {Q : VK} {E : XK} (h : spLaw K vs H Q E) : spM ⟨K, cl⟩ mi_law false vs H Q E := by
  obtain ⟨a, ns, rfl, ho, hs, hl, k⟩ := h
  have ri : Reps ⟨K, cl⟩ (fun _ => True) H (ns.map V.int) (ns.map PV.int) := reps_of _ _ (fun i => .int i) ns
  refine ⟨fun _ => True, [.frz (ns.map PV.int)], .bl true, .cons ?_ .nil, law_true ns hl, fun v H' s r => ?_⟩
  · rcases hs with (hs | ⟨o, hs⟩) | hs
    · rcases ho a with z | ⟨o, xs, z⟩
      · rw [z] at hs; cases hs
      · rw [z] at hs; cases hs
    · exact .lstF hs ri
    · exact .lstK (.inr hs) ri
  · cases r
    exact k _
theorem all_mk {l : PySem.W.OpenLaw} {w : World} {K : PySem.W.Frag} {h : Heap} {mg : Str → Option Value} {fa : Addr} (X : K.In h) (G : h.Ns mainGlobals mg) (hfa : mg "law" = some (.ref fa))
    {f_0 : Addr} {od_0 an_0 : Option Addr} {sl_0 : Array (Option Value)} {oc_0 kV_0 dc_0 pm_0 cd_0 ct_0 : Value}
    {f_1 : Addr} {od_1 an_1 : Option Addr} {sl_1 : Array (Option Value)} {oc_1 kV_1 dc_1 pm_1 cd_1 ct_1 : Value}
    {f_2 : Addr} {od_2 an_2 : Option Addr} {sl_2 : Array (Option Value)} {oc_2 kV_2 dc_2 pm_2 cd_2 ct_2 : Value}
    {f_3 : Addr} {od_3 an_3 : Option Addr} {sl_3 : Array (Option Value)} {oc_3 kV_3 dc_3 pm_3 cd_3 ct_3 : Value}
    {f_4 : Addr} {od_4 an_4 : Option Addr} {sl_4 : Array (Option Value)} {oc_4 kV_4 dc_4 pm_4 cd_4 ct_4 : Value}
    {f_5 : Addr} {od_5 an_5 : Option Addr} {sl_5 : Array (Option Value)} {oc_5 kV_5 dc_5 pm_5 cd_5 ct_5 : Value}
    {f_6 : Addr} {od_6 an_6 : Option Addr} {sl_6 : Array (Option Value)} {oc_6 kV_6 dc_6 pm_6 cd_6 ct_6 : Value}
    {f_7 : Addr} {od_7 an_7 : Option Addr} {sl_7 : Array (Option Value)} {oc_7 kV_7 dc_7 pm_7 cd_7 ct_7 : Value}
    {f_8 : Addr} {od_8 an_8 : Option Addr} {sl_8 : Array (Option Value)} {oc_8 kV_8 dc_8 pm_8 cd_8 ct_8 : Value}
    {f_9 : Addr} {od_9 an_9 : Option Addr} {sl_9 : Array (Option Value)} {oc_9 kV_9 dc_9 pm_9 cd_9 ct_9 : Value}
    {f_10 : Addr} {od_10 an_10 : Option Addr} {sl_10 : Array (Option Value)} {oc_10 kV_10 dc_10 pm_10 cd_10 ct_10 : Value}
    {f_14 : Addr} {od_14 an_14 : Option Addr} {sl_14 : Array (Option Value)} {oc_14 kV_14 dc_14 pm_14 cd_14 ct_14 : Value}
    {f_15 : Addr} {od_15 an_15 : Option Addr} {sl_15 : Array (Option Value)} {oc_15 kV_15 dc_15 pm_15 cd_15 ct_15 : Value}
    {f_16 : Addr} {od_16 an_16 : Option Addr} {sl_16 : Array (Option Value)} {oc_16 kV_16 dc_16 pm_16 cd_16 ct_16 : Value}
    {f_17 : Addr} {od_17 an_17 : Option Addr} {sl_17 : Array (Option Value)} {oc_17 kV_17 dc_17 pm_17 cd_17 ct_17 : Value}
    {f_18 : Addr} {od_18 an_18 : Option Addr} {sl_18 : Array (Option Value)} {oc_18 kV_18 dc_18 pm_18 cd_18 ct_18 : Value}
    {f_19 : Addr} {od_19 an_19 : Option Addr} {sl_19 : Array (Option Value)} {oc_19 kV_19 dc_19 pm_19 cd_19 ct_19 : Value}
    {f_20 : Addr} {od_20 an_20 : Option Addr} {sl_20 : Array (Option Value)} {oc_20 kV_20 dc_20 pm_20 cd_20 ct_20 : Value}
    {f_21 : Addr} {od_21 an_21 : Option Addr} {sl_21 : Array (Option Value)} {oc_21 kV_21 dc_21 pm_21 cd_21 ct_21 : Value}
    {f_22 : Addr} {od_22 an_22 : Option Addr} {sl_22 : Array (Option Value)} {oc_22 kV_22 dc_22 pm_22 cd_22 ct_22 : Value}
    {f_23 : Addr} {od_23 an_23 : Option Addr} {sl_23 : Array (Option Value)} {oc_23 kV_23 dc_23 pm_23 cd_23 ct_23 : Value}
    {f_24 : Addr} {od_24 an_24 : Option Addr} {sl_24 : Array (Option Value)} {oc_24 kV_24 dc_24 pm_24 cd_24 ct_24 : Value}
    {f_25 : Addr} {od_25 an_25 : Option Addr} {sl_25 : Array (Option Value)} {oc_25 kV_25 dc_25 pm_25 cd_25 ct_25 : Value}
    {f_26 : Addr} {od_26 an_26 : Option Addr} {sl_26 : Array (Option Value)} {oc_26 kV_26 dc_26 pm_26 cd_26 ct_26 : Value}
    {a_HIGHS : Addr} {o_HIGHS : Option Addr} {n_HIGHS : Nat} {sl_HIGHS : Array (Option Value)} {t_HIGHS_0 t_HIGHS_1 t_HIGHS_2 t_HIGHS_3 : Tok}
    {t_LETTERS : Tok}
    {a_LOWS : Addr} {o_LOWS : Option Addr} {n_LOWS : Nat} {sl_LOWS : Array (Option Value)} {t_LOWS_0 t_LOWS_1 t_LOWS_2 t_LOWS_3 t_LOWS_4 : Tok}
    {t_MOST_ROWS : Tok}
    {t_MOST_SIGNS : Tok}
    {t_NO_BOND : Tok}
    {a_OPENING : Addr} {o_OPENING : Option Addr} {n_OPENING : Nat} {sl_OPENING : Array (Option Value)} {t_OPENING_0 : Tok}
    {t_PARTING : Tok}
    (a_0 : PySem.W.nsIn K mainGlobals "_law_roots" = some (some (.ref f_0)))
    (l_0 : K.lookup f_0 = some ⟨oc_0, od_0, .func (PySem.W.fnOf "_law_roots" "_law_roots" (defArgs s__law_roots) (defBody s__law_roots) (defScope s__law_roots) .none kV_0 dc_0 pm_0 an_0 cd_0 ct_0), sl_0⟩)
    (c_0 : PySem.W.codeIn K cd_0 "_law_roots" = true)
    (k_0 : PySem.W.keepIn K (.ref f_0) = true)
    (a_1 : PySem.W.nsIn K mainGlobals "_law_is_low" = some (some (.ref f_1)))
    (l_1 : K.lookup f_1 = some ⟨oc_1, od_1, .func (PySem.W.fnOf "_law_is_low" "_law_is_low" (defArgs s__law_is_low) (defBody s__law_is_low) (defScope s__law_is_low) .none kV_1 dc_1 pm_1 an_1 cd_1 ct_1), sl_1⟩)
    (c_1 : PySem.W.codeIn K cd_1 "_law_is_low" = true)
    (k_1 : PySem.W.keepIn K (.ref f_1) = true)
    (a_2 : PySem.W.nsIn K mainGlobals "_law_name" = some (some (.ref f_2)))
    (l_2 : K.lookup f_2 = some ⟨oc_2, od_2, .func (PySem.W.fnOf "_law_name" "_law_name" (defArgs s__law_name) (defBody s__law_name) (defScope s__law_name) .none kV_2 dc_2 pm_2 an_2 cd_2 ct_2), sl_2⟩)
    (c_2 : PySem.W.codeIn K cd_2 "_law_name" = true)
    (k_2 : PySem.W.keepIn K (.ref f_2) = true)
    (a_3 : PySem.W.nsIn K mainGlobals "_law_bond" = some (some (.ref f_3)))
    (l_3 : K.lookup f_3 = some ⟨oc_3, od_3, .func (PySem.W.fnOf "_law_bond" "_law_bond" (defArgs s__law_bond) (defBody s__law_bond) (defScope s__law_bond) .none kV_3 dc_3 pm_3 an_3 cd_3 ct_3), sl_3⟩)
    (c_3 : PySem.W.codeIn K cd_3 "_law_bond" = true)
    (k_3 : PySem.W.keepIn K (.ref f_3) = true)
    (a_4 : PySem.W.nsIn K mainGlobals "_law_next" = some (some (.ref f_4)))
    (l_4 : K.lookup f_4 = some ⟨oc_4, od_4, .func (PySem.W.fnOf "_law_next" "_law_next" (defArgs s__law_next) (defBody s__law_next) (defScope s__law_next) .none kV_4 dc_4 pm_4 an_4 cd_4 ct_4), sl_4⟩)
    (c_4 : PySem.W.codeIn K cd_4 "_law_next" = true)
    (k_4 : PySem.W.keepIn K (.ref f_4) = true)
    (a_5 : PySem.W.nsIn K mainGlobals "_law_form" = some (some (.ref f_5)))
    (l_5 : K.lookup f_5 = some ⟨oc_5, od_5, .func (PySem.W.fnOf "_law_form" "_law_form" (defArgs s__law_form) (defBody s__law_form) (defScope s__law_form) .none kV_5 dc_5 pm_5 an_5 cd_5 ct_5), sl_5⟩)
    (c_5 : PySem.W.codeIn K cd_5 "_law_form" = true)
    (k_5 : PySem.W.keepIn K (.ref f_5) = true)
    (a_6 : PySem.W.nsIn K mainGlobals "_law_text" = some (some (.ref f_6)))
    (l_6 : K.lookup f_6 = some ⟨oc_6, od_6, .func (PySem.W.fnOf "_law_text" "_law_text" (defArgs s__law_text) (defBody s__law_text) (defScope s__law_text) .none kV_6 dc_6 pm_6 an_6 cd_6 ct_6), sl_6⟩)
    (c_6 : PySem.W.codeIn K cd_6 "_law_text" = true)
    (k_6 : PySem.W.keepIn K (.ref f_6) = true)
    (a_7 : PySem.W.nsIn K mainGlobals "written_part" = some (some (.ref f_7)))
    (l_7 : K.lookup f_7 = some ⟨oc_7, od_7, .func (PySem.W.fnOf "written_part" "written_part" (defArgs s_written_part) (defBody s_written_part) (defScope s_written_part) .none kV_7 dc_7 pm_7 an_7 cd_7 ct_7), sl_7⟩)
    (c_7 : PySem.W.codeIn K cd_7 "written_part" = true)
    (k_7 : PySem.W.keepIn K (.ref f_7) = true)
    (a_8 : PySem.W.nsIn K mainGlobals "written_form" = some (some (.ref f_8)))
    (l_8 : K.lookup f_8 = some ⟨oc_8, od_8, .func (PySem.W.fnOf "written_form" "written_form" (defArgs s_written_form) (defBody s_written_form) (defScope s_written_form) .none kV_8 dc_8 pm_8 an_8 cd_8 ct_8), sl_8⟩)
    (c_8 : PySem.W.codeIn K cd_8 "written_form" = true)
    (k_8 : PySem.W.keepIn K (.ref f_8) = true)
    (a_9 : PySem.W.nsIn K mainGlobals "ending_of" = some (some (.ref f_9)))
    (l_9 : K.lookup f_9 = some ⟨oc_9, od_9, .func (PySem.W.fnOf "ending_of" "ending_of" (defArgs s_ending_of) (defBody s_ending_of) (defScope s_ending_of) .none kV_9 dc_9 pm_9 an_9 cd_9 ct_9), sl_9⟩)
    (c_9 : PySem.W.codeIn K cd_9 "ending_of" = true)
    (k_9 : PySem.W.keepIn K (.ref f_9) = true)
    (a_10 : PySem.W.nsIn K mainGlobals "times_of" = some (some (.ref f_10)))
    (l_10 : K.lookup f_10 = some ⟨oc_10, od_10, .func (PySem.W.fnOf "times_of" "times_of" (defArgs s_times_of) (defBody s_times_of) (defScope s_times_of) .none kV_10 dc_10 pm_10 an_10 cd_10 ct_10), sl_10⟩)
    (c_10 : PySem.W.codeIn K cd_10 "times_of" = true)
    (k_10 : PySem.W.keepIn K (.ref f_10) = true)
    (a_14 : PySem.W.nsIn K mainGlobals "_law_alike" = some (some (.ref f_14)))
    (l_14 : K.lookup f_14 = some ⟨oc_14, od_14, .func (PySem.W.fnOf "_law_alike" "_law_alike" (defArgs s__law_alike) (defBody s__law_alike) (defScope s__law_alike) .none kV_14 dc_14 pm_14 an_14 cd_14 ct_14), sl_14⟩)
    (c_14 : PySem.W.codeIn K cd_14 "_law_alike" = true)
    (k_14 : PySem.W.keepIn K (.ref f_14) = true)
    (a_15 : PySem.W.nsIn K mainGlobals "is_open" = some (some (.ref f_15)))
    (l_15 : K.lookup f_15 = some ⟨oc_15, od_15, .func (PySem.W.fnOf "is_open" "is_open" (defArgs s_is_open) (defBody s_is_open) (defScope s_is_open) .none kV_15 dc_15 pm_15 an_15 cd_15 ct_15), sl_15⟩)
    (c_15 : PySem.W.codeIn K cd_15 "is_open" = true)
    (k_15 : PySem.W.keepIn K (.ref f_15) = true)
    (a_16 : PySem.W.nsIn K mainGlobals "read_ending" = some (some (.ref f_16)))
    (l_16 : K.lookup f_16 = some ⟨oc_16, od_16, .func (PySem.W.fnOf "read_ending" "read_ending" (defArgs s_read_ending) (defBody s_read_ending) (defScope s_read_ending) .none kV_16 dc_16 pm_16 an_16 cd_16 ct_16), sl_16⟩)
    (c_16 : PySem.W.codeIn K cd_16 "read_ending" = true)
    (k_16 : PySem.W.keepIn K (.ref f_16) = true)
    (a_17 : PySem.W.nsIn K mainGlobals "is_row_number" = some (some (.ref f_17)))
    (l_17 : K.lookup f_17 = some ⟨oc_17, od_17, .func (PySem.W.fnOf "is_row_number" "is_row_number" (defArgs s_is_row_number) (defBody s_is_row_number) (defScope s_is_row_number) .none kV_17 dc_17 pm_17 an_17 cd_17 ct_17), sl_17⟩)
    (c_17 : PySem.W.codeIn K cd_17 "is_row_number" = true)
    (k_17 : PySem.W.keepIn K (.ref f_17) = true)
    (a_18 : PySem.W.nsIn K mainGlobals "is_name" = some (some (.ref f_18)))
    (l_18 : K.lookup f_18 = some ⟨oc_18, od_18, .func (PySem.W.fnOf "is_name" "is_name" (defArgs s_is_name) (defBody s_is_name) (defScope s_is_name) .none kV_18 dc_18 pm_18 an_18 cd_18 ct_18), sl_18⟩)
    (c_18 : PySem.W.codeIn K cd_18 "is_name" = true)
    (k_18 : PySem.W.keepIn K (.ref f_18) = true)
    (a_19 : PySem.W.nsIn K mainGlobals "is_letter" = some (some (.ref f_19)))
    (l_19 : K.lookup f_19 = some ⟨oc_19, od_19, .func (PySem.W.fnOf "is_letter" "is_letter" (defArgs s_is_letter) (defBody s_is_letter) (defScope s_is_letter) .none kV_19 dc_19 pm_19 an_19 cd_19 ct_19), sl_19⟩)
    (c_19 : PySem.W.codeIn K cd_19 "is_letter" = true)
    (k_19 : PySem.W.keepIn K (.ref f_19) = true)
    (a_20 : PySem.W.nsIn K mainGlobals "is_bond" = some (some (.ref f_20)))
    (l_20 : K.lookup f_20 = some ⟨oc_20, od_20, .func (PySem.W.fnOf "is_bond" "is_bond" (defArgs s_is_bond) (defBody s_is_bond) (defScope s_is_bond) .none kV_20 dc_20 pm_20 an_20 cd_20 ct_20), sl_20⟩)
    (c_20 : PySem.W.codeIn K cd_20 "is_bond" = true)
    (k_20 : PySem.W.keepIn K (.ref f_20) = true)
    (a_21 : PySem.W.nsIn K mainGlobals "read_part" = some (some (.ref f_21)))
    (l_21 : K.lookup f_21 = some ⟨oc_21, od_21, .func (PySem.W.fnOf "read_part" "read_part" (defArgs s_read_part) (defBody s_read_part) (defScope s_read_part) .none kV_21 dc_21 pm_21 an_21 cd_21 ct_21), sl_21⟩)
    (c_21 : PySem.W.codeIn K cd_21 "read_part" = true)
    (k_21 : PySem.W.keepIn K (.ref f_21) = true)
    (a_22 : PySem.W.nsIn K mainGlobals "cut_form" = some (some (.ref f_22)))
    (l_22 : K.lookup f_22 = some ⟨oc_22, od_22, .func (PySem.W.fnOf "cut_form" "cut_form" (defArgs s_cut_form) (defBody s_cut_form) (defScope s_cut_form) .none kV_22 dc_22 pm_22 an_22 cd_22 ct_22), sl_22⟩)
    (c_22 : PySem.W.codeIn K cd_22 "cut_form" = true)
    (k_22 : PySem.W.keepIn K (.ref f_22) = true)
    (a_23 : PySem.W.nsIn K mainGlobals "names_row" = some (some (.ref f_23)))
    (l_23 : K.lookup f_23 = some ⟨oc_23, od_23, .func (PySem.W.fnOf "names_row" "names_row" (defArgs s_names_row) (defBody s_names_row) (defScope s_names_row) .none kV_23 dc_23 pm_23 an_23 cd_23 ct_23), sl_23⟩)
    (c_23 : PySem.W.codeIn K cd_23 "names_row" = true)
    (k_23 : PySem.W.keepIn K (.ref f_23) = true)
    (a_24 : PySem.W.nsIn K mainGlobals "goes_on" = some (some (.ref f_24)))
    (l_24 : K.lookup f_24 = some ⟨oc_24, od_24, .func (PySem.W.fnOf "goes_on" "goes_on" (defArgs s_goes_on) (defBody s_goes_on) (defScope s_goes_on) .none kV_24 dc_24 pm_24 an_24 cd_24 ct_24), sl_24⟩)
    (c_24 : PySem.W.codeIn K cd_24 "goes_on" = true)
    (k_24 : PySem.W.keepIn K (.ref f_24) = true)
    (a_25 : PySem.W.nsIn K mainGlobals "read_form" = some (some (.ref f_25)))
    (l_25 : K.lookup f_25 = some ⟨oc_25, od_25, .func (PySem.W.fnOf "read_form" "read_form" (defArgs s_read_form) (defBody s_read_form) (defScope s_read_form) .none kV_25 dc_25 pm_25 an_25 cd_25 ct_25), sl_25⟩)
    (c_25 : PySem.W.codeIn K cd_25 "read_form" = true)
    (k_25 : PySem.W.keepIn K (.ref f_25) = true)
    (a_26 : PySem.W.nsIn K mainGlobals "law" = some (some (.ref f_26)))
    (l_26 : K.lookup f_26 = some ⟨oc_26, od_26, .func (PySem.W.fnOf "law" "law" (defArgs s_law) (defBody s_law) (defScope s_law) .none kV_26 dc_26 pm_26 an_26 cd_26 ct_26), sl_26⟩)
    (c_26 : PySem.W.codeIn K cd_26 "law" = true)
    (k_26 : PySem.W.keepIn K (.ref f_26) = true)
    (z_all : PySem.W.nsIn K mainGlobals "all" = some none)
    (z_any : PySem.W.nsIn K mainGlobals "any" = some none)
    (z_bool : PySem.W.nsIn K mainGlobals "bool" = some none)
    (z_enumerate : PySem.W.nsIn K mainGlobals "enumerate" = some none)
    (z_int : PySem.W.nsIn K mainGlobals "int" = some none)
    (z_isinstance : PySem.W.nsIn K mainGlobals "isinstance" = some none)
    (z_len : PySem.W.nsIn K mainGlobals "len" = some none)
    (z_list : PySem.W.nsIn K mainGlobals "list" = some none)
    (z_max : PySem.W.nsIn K mainGlobals "max" = some none)
    (z_range : PySem.W.nsIn K mainGlobals "range" = some none)
    (z_str : PySem.W.nsIn K mainGlobals "str" = some none)
    (z_sum : PySem.W.nsIn K mainGlobals "sum" = some none)
    (z_tuple : PySem.W.nsIn K mainGlobals "tuple" = some none)
    (g_HIGHS : PySem.W.nsIn K mainGlobals "HIGHS" = some (some (.ref a_HIGHS)))
    (lk_HIGHS : K.lookup a_HIGHS = some ⟨.type "tuple", o_HIGHS, .seq #[.str "1" t_HIGHS_0, .str "2" t_HIGHS_1, .str "3" t_HIGHS_2, .str "4" t_HIGHS_3] n_HIGHS, sl_HIGHS⟩)
    (g_LETTERS : PySem.W.nsIn K mainGlobals "LETTERS" = some (some (.str "abcdefghijklmnopqrstuvwxyz" t_LETTERS)))
    (g_LOWS : PySem.W.nsIn K mainGlobals "LOWS" = some (some (.ref a_LOWS)))
    (lk_LOWS : K.lookup a_LOWS = some ⟨.type "tuple", o_LOWS, .seq #[.str "0" t_LOWS_0, .str "1" t_LOWS_1, .str "2" t_LOWS_2, .str "3" t_LOWS_3, .str "4" t_LOWS_4] n_LOWS, sl_LOWS⟩)
    (g_MOST_ROWS : PySem.W.nsIn K mainGlobals "MOST_ROWS" = some (some (.int 12 t_MOST_ROWS)))
    (g_MOST_SIGNS : PySem.W.nsIn K mainGlobals "MOST_SIGNS" = some (some (.int 8 t_MOST_SIGNS)))
    (g_NO_BOND : PySem.W.nsIn K mainGlobals "NO_BOND" = some (some (.str "-" t_NO_BOND)))
    (g_OPENING : PySem.W.nsIn K mainGlobals "OPENING" = some (some (.ref a_OPENING)))
    (lk_OPENING : K.lookup a_OPENING = some ⟨.type "tuple", o_OPENING, .seq #[.str "(" t_OPENING_0] n_OPENING, sl_OPENING⟩)
    (g_PARTING : PySem.W.nsIn K mainGlobals "PARTING" = some (some (.str "; " t_PARTING)))
    (is_bool : ∀ t k, (t, k) ∈ tb_bool → PySem.W.kitOne K (.type t) (.type "bool") = some k)
    (is_int : ∀ t k, (t, k) ∈ tb_int → PySem.W.kitOne K (.type t) (.type "int") = some k)
    (is_list : ∀ t k, (t, k) ∈ tb_list → PySem.W.kitOne K (.type t) (.type "list") = some k)
    (is_str : ∀ t k, (t, k) ∈ tb_str → PySem.W.kitOne K (.type t) (.type "str") = some k)
    (is_tuple : ∀ t k, (t, k) ∈ tb_tuple → PySem.W.kitOne K (.type t) (.type "tuple") = some k) :
    ∃ fd : FuncData, (∀ (s : Shared) (v : Value), BindsTo s fd ⟨[v], []⟩ [("_law_script", v)]) ∧ ∀ base : Heap, K.In base → base.Ns mainGlobals mg → FnOk l.prog w K mg base CX0 5 fa fd ["_law_script"] (spLaw K) := by
  have e := hfa.symm.trans (PySem.W.mg_of X G a_26)
  cases e
  have F_0 := fun_mk (st := s__law_roots) l_0 c_0 k_0
  have b_0 := F_0.binds (ps := ["_law_parts"]) fun _ _ _ _ _ _ us hl => MR.len1 us hl (fun _ => rfl)
  have F_1 := fun_mk (st := s__law_is_low) l_1 c_1 k_1
  have b_1 := F_1.binds (ps := ["_law_parts"]) fun _ _ _ _ _ _ us hl => MR.len1 us hl (fun _ => rfl)
  have F_2 := fun_mk (st := s__law_name) l_2 c_2 k_2
  have b_2 := F_2.binds (ps := ["_law_number"]) fun _ _ _ _ _ _ us hl => MR.len1 us hl (fun _ => rfl)
  have F_3 := fun_mk (st := s__law_bond) l_3 c_3 k_3
  have b_3 := F_3.binds (ps := ["_law_number"]) fun _ _ _ _ _ _ us hl => MR.len1 us hl (fun _ => rfl)
  have F_4 := fun_mk (st := s__law_next) l_4 c_4 k_4
  have b_4 := F_4.binds (ps := ["_law_parts", "_law_cell"]) fun _ _ _ _ _ _ us hl => MR.len2 us hl (fun _ _ => rfl)
  have F_5 := fun_mk (st := s__law_form) l_5 c_5 k_5
  have b_5 := F_5.binds (ps := ["_law_cells"]) fun _ _ _ _ _ _ us hl => MR.len1 us hl (fun _ => rfl)
  have F_6 := fun_mk (st := s__law_text) l_6 c_6 k_6
  have b_6 := F_6.binds (ps := ["_law_form_here"]) fun _ _ _ _ _ _ us hl => MR.len1 us hl (fun _ => rfl)
  have F_7 := fun_mk (st := s_written_part) l_7 c_7 k_7
  have b_7 := F_7.binds (ps := ["part"]) fun _ _ _ _ _ _ us hl => MR.len1 us hl (fun _ => rfl)
  have F_8 := fun_mk (st := s_written_form) l_8 c_8 k_8
  have b_8 := F_8.binds (ps := ["form"]) fun _ _ _ _ _ _ us hl => MR.len1 us hl (fun _ => rfl)
  have F_9 := fun_mk (st := s_ending_of) l_9 c_9 k_9
  have b_9 := F_9.binds (ps := ["form"]) fun _ _ _ _ _ _ us hl => MR.len1 us hl (fun _ => rfl)
  have F_10 := fun_mk (st := s_times_of) l_10 c_10 k_10
  have b_10 := F_10.binds (ps := ["form"]) fun _ _ _ _ _ _ us hl => MR.len1 us hl (fun _ => rfl)
  have F_14 := fun_mk (st := s__law_alike) l_14 c_14 k_14
  have b_14 := F_14.binds (ps := ["_law_found", "_law_due"]) fun _ _ _ _ _ _ us hl => MR.len2 us hl (fun _ _ => rfl)
  have F_15 := fun_mk (st := s_is_open) l_15 c_15 k_15
  have b_15 := F_15.binds (ps := ["form"]) fun _ _ _ _ _ _ us hl => MR.len1 us hl (fun _ => rfl)
  have F_16 := fun_mk (st := s_read_ending) l_16 c_16 k_16
  have b_16 := F_16.binds (ps := ["low", "high"]) fun _ _ _ _ _ _ us hl => MR.len2 us hl (fun _ _ => rfl)
  have F_17 := fun_mk (st := s_is_row_number) l_17 c_17 k_17
  have b_17 := F_17.binds (ps := ["text"]) fun _ _ _ _ _ _ us hl => MR.len1 us hl (fun _ => rfl)
  have F_18 := fun_mk (st := s_is_name) l_18 c_18 k_18
  have b_18 := F_18.binds (ps := ["text"]) fun _ _ _ _ _ _ us hl => MR.len1 us hl (fun _ => rfl)
  have F_19 := fun_mk (st := s_is_letter) l_19 c_19 k_19
  have b_19 := F_19.binds (ps := ["text"]) fun _ _ _ _ _ _ us hl => MR.len1 us hl (fun _ => rfl)
  have F_20 := fun_mk (st := s_is_bond) l_20 c_20 k_20
  have b_20 := F_20.binds (ps := ["text"]) fun _ _ _ _ _ _ us hl => MR.len1 us hl (fun _ => rfl)
  have F_21 := fun_mk (st := s_read_part) l_21 c_21 k_21
  have b_21 := F_21.binds (ps := ["text"]) fun _ _ _ _ _ _ us hl => MR.len1 us hl (fun _ => rfl)
  have F_22 := fun_mk (st := s_cut_form) l_22 c_22 k_22
  have b_22 := F_22.binds (ps := ["form"]) fun _ _ _ _ _ _ us hl => MR.len1 us hl (fun _ => rfl)
  have F_23 := fun_mk (st := s_names_row) l_23 c_23 k_23
  have b_23 := F_23.binds (ps := ["form", "number"]) fun _ _ _ _ _ _ us hl => MR.len2 us hl (fun _ _ => rfl)
  have F_24 := fun_mk (st := s_goes_on) l_24 c_24 k_24
  have b_24 := F_24.binds (ps := ["form", "part"]) fun _ _ _ _ _ _ us hl => MR.len2 us hl (fun _ _ => rfl)
  have F_25 := fun_mk (st := s_read_form) l_25 c_25 k_25
  have b_25 := F_25.binds (ps := ["text"]) fun _ _ _ _ _ _ us hl => MR.len1 us hl (fun _ => rfl)
  have F_26 := fun_mk (st := s_law) l_26 c_26 k_26
  have b_26 := F_26.binds (ps := ["_law_script"]) fun _ _ _ _ _ _ us hl => MR.len1 us hl (fun _ => rfl)
  refine ⟨PySem.W.fnOf "law" "law" (defArgs s_law) (defBody s_law) (defScope s_law) .none kV_26 dc_26 pm_26 an_26 cd_26 ct_26, fun s v => .of_eq rfl, fun base _ _ => ?_⟩
  let cl : Nat → Addr := fun n => match n with  | _ => 0
  let A : Adr := { a_HIGHS := a_HIGHS, t_LETTERS := t_LETTERS, a_LOWS := a_LOWS, t_MOST_ROWS := t_MOST_ROWS, t_MOST_SIGNS := t_MOST_SIGNS, t_NO_BOND := t_NO_BOND, a_OPENING := a_OPENING, t_PARTING := t_PARTING }
  have r_HIGHS : ∀ (B : Addr → Prop) (H : Hp), Rep ⟨K, cl⟩ B H (.ref a_HIGHS) c_HIGHS := fun B H => .tupK (vs := [V.str "1", V.str "2", V.str "3", V.str "4"]) (.inr ⟨_, _, _, lk_HIGHS, rfl, rfl, (by show 4 ≤ sizeLine; decide), (.cons ⟨_, rfl⟩ (.cons ⟨_, rfl⟩ (.cons ⟨_, rfl⟩ (.cons ⟨_, rfl⟩ .nil))))⟩) (.cons (.str _) (.cons (.str _) (.cons (.str _) (.cons (.str _) .nil))))
  have r_LOWS : ∀ (B : Addr → Prop) (H : Hp), Rep ⟨K, cl⟩ B H (.ref a_LOWS) c_LOWS := fun B H => .tupK (vs := [V.str "0", V.str "1", V.str "2", V.str "3", V.str "4"]) (.inr ⟨_, _, _, lk_LOWS, rfl, rfl, (by show 5 ≤ sizeLine; decide), (.cons ⟨_, rfl⟩ (.cons ⟨_, rfl⟩ (.cons ⟨_, rfl⟩ (.cons ⟨_, rfl⟩ (.cons ⟨_, rfl⟩ .nil)))))⟩) (.cons (.str _) (.cons (.str _) (.cons (.str _) (.cons (.str _) (.cons (.str _) .nil)))))
  have r_OPENING : ∀ (B : Addr → Prop) (H : Hp), Rep ⟨K, cl⟩ B H (.ref a_OPENING) c_OPENING := fun B H => .tupK (vs := [V.str "("]) (.inr ⟨_, _, _, lk_OPENING, rfl, rfl, (by show 1 ≤ sizeLine; decide), (.cons ⟨_, rfl⟩ .nil)⟩) (.cons (.str _) .nil)
  have G_0 := ok__law_roots (P := l.prog) (w := w) (mg := mg) (base := base) (cl := cl) (A := A) F_0 ⟨trivial⟩
  have k__law_roots := cal_mk F_0 (PySem.W.mg_of X G a_0) b_0 G_0
  have G_1 := ok__law_is_low (P := l.prog) (w := w) (mg := mg) (base := base) (cl := cl) (A := A) F_1 ⟨trivial⟩
  have k__law_is_low := cal_mk F_1 (PySem.W.mg_of X G a_1) b_1 G_1
  have G_2 := ok__law_name (P := l.prog) (w := w) (mg := mg) (base := base) (cl := cl) (A := A) F_2 ⟨trivial⟩
  have k__law_name := cal_mk F_2 (PySem.W.mg_of X G a_2) b_2 G_2
  have G_3 := ok__law_bond (P := l.prog) (w := w) (mg := mg) (base := base) (cl := cl) (A := A) F_3 ⟨trivial⟩
  have k__law_bond := cal_mk F_3 (PySem.W.mg_of X G a_3) b_3 G_3
  have G_4 := ok__law_next (P := l.prog) (w := w) (mg := mg) (base := base) (cl := cl) (A := A) F_4 ⟨PySem.W.mg_none_of X G z_len, PySem.W.mg_none_of X G z_max, k__law_bond, k__law_is_low, k__law_name, k__law_roots⟩
  have k__law_next := cal_mk F_4 (PySem.W.mg_of X G a_4) b_4 G_4
  have G_5 := ok__law_form (P := l.prog) (w := w) (mg := mg) (base := base) (cl := cl) (A := A) F_5 ⟨PySem.W.mg_none_of X G z_tuple, k__law_next⟩
  have k__law_form := cal_mk F_5 (PySem.W.mg_of X G a_5) b_5 G_5
  have G_6 := ok__law_text (P := l.prog) (w := w) (mg := mg) (base := base) (cl := cl) (A := A) F_6 ⟨PySem.W.mg_none_of X G z_int, PySem.W.mg_none_of X G z_str⟩
  have k__law_text := cal_mk F_6 (PySem.W.mg_of X G a_6) b_6 G_6
  have G_7 := ok_written_part (P := l.prog) (w := w) (mg := mg) (base := base) (cl := cl) (A := A) F_7 ⟨PySem.W.mg_none_of X G z_str, PySem.W.mg_of X G g_NO_BOND⟩
  have k_written_part := cal_mk F_7 (PySem.W.mg_of X G a_7) b_7 G_7
  have G_8 := ok_written_form (P := l.prog) (w := w) (mg := mg) (base := base) (cl := cl) (A := A) F_8 ⟨PySem.W.mg_of X G g_PARTING, k_written_part⟩
  have k_written_form := cal_mk F_8 (PySem.W.mg_of X G a_8) b_8 G_8
  have G_9 := ok_ending_of (P := l.prog) (w := w) (mg := mg) (base := base) (cl := cl) (A := A) F_9 ⟨PySem.W.mg_none_of X G z_len⟩
  have k_ending_of := cal_mk F_9 (PySem.W.mg_of X G a_9) b_9 G_9
  have G_10 := ok_times_of (P := l.prog) (w := w) (mg := mg) (base := base) (cl := cl) (A := A) F_10 ⟨PySem.W.mg_none_of X G z_list, PySem.W.mg_none_of X G z_range, k_ending_of⟩
  have k_times_of := cal_mk F_10 (PySem.W.mg_of X G a_10) b_10 G_10
  have k__law_alike__0 := MR.cal_zero (ro := false) (P := l.prog) (w := w) (base := base) (C := ⟨K, cl⟩) F_14 (PySem.W.mg_of X G a_14) b_14
  have G_12 := ok__law_alike__1 (P := l.prog) (w := w) (mg := mg) (base := base) (cl := cl) (A := A) F_14 ⟨PySem.W.mg_none_of X G z_all, PySem.W.mg_none_of X G z_bool, PySem.W.mg_none_of X G z_int, PySem.W.mg_none_of X G z_isinstance, PySem.W.mg_none_of X G z_len, PySem.W.mg_none_of X G z_range, PySem.W.mg_none_of X G z_str, PySem.W.mg_none_of X G z_tuple, is_bool, is_int, is_str, is_tuple, k__law_alike__0⟩
  have k__law_alike__1 := cal_mk F_14 (PySem.W.mg_of X G a_14) b_14 G_12
  have G_13 := ok__law_alike__2 (P := l.prog) (w := w) (mg := mg) (base := base) (cl := cl) (A := A) F_14 ⟨PySem.W.mg_none_of X G z_all, PySem.W.mg_none_of X G z_bool, PySem.W.mg_none_of X G z_int, PySem.W.mg_none_of X G z_isinstance, PySem.W.mg_none_of X G z_len, PySem.W.mg_none_of X G z_range, PySem.W.mg_none_of X G z_str, PySem.W.mg_none_of X G z_tuple, is_bool, is_int, is_str, is_tuple, k__law_alike__1⟩
  have k__law_alike__2 := cal_mk F_14 (PySem.W.mg_of X G a_14) b_14 G_13
  have G_14 := ok__law_alike (P := l.prog) (w := w) (mg := mg) (base := base) (cl := cl) (A := A) F_14 ⟨PySem.W.mg_none_of X G z_all, PySem.W.mg_none_of X G z_bool, PySem.W.mg_none_of X G z_int, PySem.W.mg_none_of X G z_isinstance, PySem.W.mg_none_of X G z_len, PySem.W.mg_none_of X G z_range, PySem.W.mg_none_of X G z_str, PySem.W.mg_none_of X G z_tuple, is_bool, is_int, is_str, is_tuple, k__law_alike__2⟩
  have k__law_alike := cal_mk F_14 (PySem.W.mg_of X G a_14) b_14 G_14
  have G_15 := ok_is_open (P := l.prog) (w := w) (mg := mg) (base := base) (cl := cl) (A := A) F_15 ⟨PySem.W.mg_of X G g_OPENING, r_OPENING, k_ending_of⟩
  have k_is_open := cal_mk F_15 (PySem.W.mg_of X G a_15) b_15 G_15
  have G_16 := ok_read_ending (P := l.prog) (w := w) (mg := mg) (base := base) (cl := cl) (A := A) F_16 ⟨PySem.W.mg_none_of X G z_int, PySem.W.mg_of X G g_HIGHS, r_HIGHS, PySem.W.mg_of X G g_LOWS, r_LOWS⟩
  have k_read_ending := cal_mk F_16 (PySem.W.mg_of X G a_16) b_16 G_16
  have G_17 := ok_is_row_number (P := l.prog) (w := w) (mg := mg) (base := base) (cl := cl) (A := A) F_17 ⟨PySem.W.mg_none_of X G z_range, PySem.W.mg_none_of X G z_str, PySem.W.mg_of X G g_MOST_ROWS⟩
  have k_is_row_number := cal_mk F_17 (PySem.W.mg_of X G a_17) b_17 G_17
  have G_18 := ok_is_name (P := l.prog) (w := w) (mg := mg) (base := base) (cl := cl) (A := A) F_18 ⟨PySem.W.mg_none_of X G z_all, PySem.W.mg_none_of X G z_len, PySem.W.mg_of X G g_LETTERS, PySem.W.mg_of X G g_MOST_SIGNS⟩
  have k_is_name := cal_mk F_18 (PySem.W.mg_of X G a_18) b_18 G_18
  have G_19 := ok_is_letter (P := l.prog) (w := w) (mg := mg) (base := base) (cl := cl) (A := A) F_19 ⟨PySem.W.mg_none_of X G z_len, PySem.W.mg_of X G g_LETTERS⟩
  have k_is_letter := cal_mk F_19 (PySem.W.mg_of X G a_19) b_19 G_19
  have G_20 := ok_is_bond (P := l.prog) (w := w) (mg := mg) (base := base) (cl := cl) (A := A) F_20 ⟨PySem.W.mg_none_of X G z_len, PySem.W.mg_of X G g_LETTERS, PySem.W.mg_of X G g_NO_BOND, k_is_letter⟩
  have k_is_bond := cal_mk F_20 (PySem.W.mg_of X G a_20) b_20 G_20
  have G_21 := ok_read_part (P := l.prog) (w := w) (mg := mg) (base := base) (cl := cl) (A := A) F_21 ⟨PySem.W.mg_none_of X G z_int, PySem.W.mg_none_of X G z_len, PySem.W.mg_of X G g_NO_BOND, PySem.W.mg_of X G g_OPENING, r_OPENING, k_is_bond, k_is_name, k_is_row_number, k_read_ending⟩
  have k_read_part := cal_mk F_21 (PySem.W.mg_of X G a_21) b_21 G_21
  have G_22 := ok_cut_form (P := l.prog) (w := w) (mg := mg) (base := base) (cl := cl) (A := A) F_22 ⟨trivial⟩
  have k_cut_form := cal_mk F_22 (PySem.W.mg_of X G a_22) b_22 G_22
  have G_23 := ok_names_row (P := l.prog) (w := w) (mg := mg) (base := base) (cl := cl) (A := A) F_23 ⟨PySem.W.mg_none_of X G z_any, k_cut_form, k_ending_of⟩
  have k_names_row := cal_mk F_23 (PySem.W.mg_of X G a_23) b_23 G_23
  have G_24 := ok_goes_on (P := l.prog) (w := w) (mg := mg) (base := base) (cl := cl) (A := A) F_24 ⟨PySem.W.mg_none_of X G z_len, PySem.W.mg_none_of X G z_sum, PySem.W.mg_of X G g_MOST_ROWS, PySem.W.mg_of X G g_OPENING, r_OPENING, k_cut_form, k_is_open, k_names_row⟩
  have k_goes_on := cal_mk F_24 (PySem.W.mg_of X G a_24) b_24 G_24
  have G_25 := ok_read_form (P := l.prog) (w := w) (mg := mg) (base := base) (cl := cl) (A := A) F_25 ⟨PySem.W.mg_none_of X G z_enumerate, PySem.W.mg_none_of X G z_tuple, PySem.W.mg_of X G g_PARTING, k_goes_on, k_is_open, k_read_part⟩
  have k_read_form := cal_mk F_25 (PySem.W.mg_of X G a_25) b_25 G_25
  have G_26 := ok_law (P := l.prog) (w := w) (mg := mg) (base := base) (cl := cl) (A := A) F_26 ⟨PySem.W.mg_none_of X G z_bool, PySem.W.mg_none_of X G z_isinstance, PySem.W.mg_none_of X G z_list, PySem.W.mg_none_of X G z_range, PySem.W.mg_none_of X G z_str, is_bool, is_list, is_str, k__law_alike, k__law_form, k__law_text, k_read_form, k_times_of, k_written_form⟩
  exact G_26.imp fun vs H Q E h => law_sp h
theorem walk {l : PySem.W.OpenLaw} {q : Program} {loose : List Str} {XP : (Str → Option Value) → Heap → Prop} {YP : World → Heap → Prop} {d : DefRec} {K : Params → PySem.W.Frag} (hn : l.most = some 63) (hdf : d.params.defaults = [])
    (hY : ∀ (w : World) (h : Heap), YP w h → (K w.params).In h)
    (F : ∀ (w : World) (mg : Str → Option Value) (fa : Addr) (h : Heap), (K w.params).In h → h.Ns mainGlobals mg → mg d.name = some (.ref fa) →
      ∃ fd : FuncData, (∀ (s : Shared) (u : Value), BindsTo s fd ⟨[u], []⟩ [("_law_script", u)]) ∧ ∀ base : Heap, (K w.params).In base → base.Ns mainGlobals mg → FnOk l.prog w (K w.params) mg base CX0 5 fa fd ["_law_script"] (spLaw (K w.params))) :
    PySem.W.WalkO q loose XP YP l.row.toRowW d [] (fun f vs => PySem.call f vs) :=
  L2.walk_of (n := 63) (k := 5) (x := "_law_script") (CX := fun _ => CX0) (sp := fun w => spLaw (K w.params)) hn (by decide) hdf ⟨rfl, by decide, by decide⟩ hY F (fun _ _ a ns hl hO hS => ⟨a, ns, rfl, hO, hS, hl, fun _ => rfl⟩) fun _ _ _ _ _ z => z
end My
open PySem PySem.W PyProof.Rows
set_option maxRecDepth 100000 in
set_option maxHeartbeats 0 in
theorem PySem.Challenge.cw_lilt_k70_forms_read_holds : PySem.Challenge.rw_lilt_k70_forms_read.Holds := by
  w_on; o_law; k_head; (case hw => w_witness2)
  k_fill
  refine My.walk (l := PySem.Challenge.rw_lilt_k70_forms_read) rfl rfl (fun w h Y => PySem.W.kIn_of Y) ?F
  case F =>
    intro w mg fa h KX G hmg
    refine' My.all_mk KX G hmg ?a_0 ?l_0 ?c_0 ?k_0 ?a_1 ?l_1 ?c_1 ?k_1 ?a_2 ?l_2 ?c_2 ?k_2 ?a_3 ?l_3 ?c_3 ?k_3 ?a_4 ?l_4 ?c_4 ?k_4 ?a_5 ?l_5 ?c_5 ?k_5 ?a_6 ?l_6 ?c_6 ?k_6 ?a_7 ?l_7 ?c_7 ?k_7 ?a_8 ?l_8 ?c_8 ?k_8 ?a_9 ?l_9 ?c_9 ?k_9 ?a_10 ?l_10 ?c_10 ?k_10 ?a_14 ?l_14 ?c_14 ?k_14 ?a_15 ?l_15 ?c_15 ?k_15 ?a_16 ?l_16 ?c_16 ?k_16 ?a_17 ?l_17 ?c_17 ?k_17 ?a_18 ?l_18 ?c_18 ?k_18 ?a_19 ?l_19 ?c_19 ?k_19 ?a_20 ?l_20 ?c_20 ?k_20 ?a_21 ?l_21 ?c_21 ?k_21 ?a_22 ?l_22 ?c_22 ?k_22 ?a_23 ?l_23 ?c_23 ?k_23 ?a_24 ?l_24 ?c_24 ?k_24 ?a_25 ?l_25 ?c_25 ?k_25 ?a_26 ?l_26 ?c_26 ?k_26 ?z_all ?z_any ?z_bool ?z_enumerate ?z_int ?z_isinstance ?z_len ?z_list ?z_max ?z_range ?z_str ?z_sum ?z_tuple ?g_HIGHS ?lk_HIGHS ?g_LETTERS ?g_LOWS ?lk_LOWS ?g_MOST_ROWS ?g_MOST_SIGNS ?g_NO_BOND ?g_OPENING ?lk_OPENING ?g_PARTING ?is_bool ?is_int ?is_list ?is_str ?is_tuple

    (case a_0 => k_is)
    (case l_0 => k_is)
    (case c_0 => k_is)
    (case k_0 => k_is)
    (case a_1 => k_is)
    (case l_1 => k_is)
    (case c_1 => k_is)
    (case k_1 => k_is)
    (case a_2 => k_is)
    (case l_2 => k_is)
    (case c_2 => k_is)
    (case k_2 => k_is)
    (case a_3 => k_is)
    (case l_3 => k_is)
    (case c_3 => k_is)
    (case k_3 => k_is)
    (case a_4 => k_is)
    (case l_4 => k_is)
    (case c_4 => k_is)
    (case k_4 => k_is)
    (case a_5 => k_is)
    (case l_5 => k_is)
    (case c_5 => k_is)
    (case k_5 => k_is)
    (case a_6 => k_is)
    (case l_6 => k_is)
    (case c_6 => k_is)
    (case k_6 => k_is)
    (case a_7 => k_is)
    (case l_7 => k_is)
    (case c_7 => k_is)
    (case k_7 => k_is)
    (case a_8 => k_is)
    (case l_8 => k_is)
    (case c_8 => k_is)
    (case k_8 => k_is)
    (case a_9 => k_is)
    (case l_9 => k_is)
    (case c_9 => k_is)
    (case k_9 => k_is)
    (case a_10 => k_is)
    (case l_10 => k_is)
    (case c_10 => k_is)
    (case k_10 => k_is)
    (case a_14 => k_is)
    (case l_14 => k_is)
    (case c_14 => k_is)
    (case k_14 => k_is)
    (case a_15 => k_is)
    (case l_15 => k_is)
    (case c_15 => k_is)
    (case k_15 => k_is)
    (case a_16 => k_is)
    (case l_16 => k_is)
    (case c_16 => k_is)
    (case k_16 => k_is)
    (case a_17 => k_is)
    (case l_17 => k_is)
    (case c_17 => k_is)
    (case k_17 => k_is)
    (case a_18 => k_is)
    (case l_18 => k_is)
    (case c_18 => k_is)
    (case k_18 => k_is)
    (case a_19 => k_is)
    (case l_19 => k_is)
    (case c_19 => k_is)
    (case k_19 => k_is)
    (case a_20 => k_is)
    (case l_20 => k_is)
    (case c_20 => k_is)
    (case k_20 => k_is)
    (case a_21 => k_is)
    (case l_21 => k_is)
    (case c_21 => k_is)
    (case k_21 => k_is)
    (case a_22 => k_is)
    (case l_22 => k_is)
    (case c_22 => k_is)
    (case k_22 => k_is)
    (case a_23 => k_is)
    (case l_23 => k_is)
    (case c_23 => k_is)
    (case k_23 => k_is)
    (case a_24 => k_is)
    (case l_24 => k_is)
    (case c_24 => k_is)
    (case k_24 => k_is)
    (case a_25 => k_is)
    (case l_25 => k_is)
    (case c_25 => k_is)
    (case k_25 => k_is)
    (case a_26 => k_is)
    (case l_26 => k_is)
    (case c_26 => k_is)
    (case k_26 => k_is)
    (case z_all => k_is)
    (case z_any => k_is)
    (case z_bool => k_is)
    (case z_enumerate => k_is)
    (case z_int => k_is)
    (case z_isinstance => k_is)
    (case z_len => k_is)
    (case z_list => k_is)
    (case z_max => k_is)
    (case z_range => k_is)
    (case z_str => k_is)
    (case z_sum => k_is)
    (case z_tuple => k_is)
    (case g_HIGHS => k_is)
    (case lk_HIGHS => k_is)
    (case g_LETTERS => k_is)
    (case g_LOWS => k_is)
    (case lk_LOWS => k_is)
    (case g_MOST_ROWS => k_is)
    (case g_MOST_SIGNS => k_is)
    (case g_NO_BOND => k_is)
    (case g_OPENING => k_is)
    (case lk_OPENING => k_is)
    (case g_PARTING => k_is)
    (case is_bool => intro t k hm; simp only [My.tb_bool, List.mem_cons, List.not_mem_nil, or_false, Prod.mk.injEq] at hm; rcases hm with ⟨rfl, rfl⟩ | ⟨rfl, rfl⟩ <;> first | rfl | k_is)
    (case is_int => intro t k hm; simp only [My.tb_int, List.mem_cons, List.not_mem_nil, or_false, Prod.mk.injEq] at hm; rcases hm with ⟨rfl, rfl⟩ <;> first | rfl | k_is)
    (case is_list => intro t k hm; simp only [My.tb_list, List.mem_cons, List.not_mem_nil, or_false, Prod.mk.injEq] at hm; rcases hm with ⟨rfl, rfl⟩ <;> first | rfl | k_is)
    (case is_str => intro t k hm; simp only [My.tb_str, List.mem_cons, List.not_mem_nil, or_false, Prod.mk.injEq] at hm; rcases hm with ⟨rfl, rfl⟩ | ⟨rfl, rfl⟩ <;> first | rfl | k_is)
    (case is_tuple => intro t k hm; simp only [My.tb_tuple, List.mem_cons, List.not_mem_nil, or_false, Prod.mk.injEq] at hm; rcases hm with ⟨rfl, rfl⟩ | ⟨rfl, rfl⟩ | ⟨rfl, rfl⟩ | ⟨rfl, rfl⟩ <;> first | rfl | k_is)
