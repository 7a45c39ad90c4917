import PyProof.Rows.All
import Wide.All
import OpenK.AllK
import Wide.FinOn
import Lean
import PyProof.EqAt
import PyProof.EqKinds
import PyProof.TupleCall
import KE.KRevIter
import PyProof.ListStr
import PyProof.Rows.Range3
import PyProof.WalkInts
import PyProof.AttrMissHeap
import KE.KDictOf
import PySem.Challenge.RW_lilt_k63_classes_or_broken
set_option Elab.async false
set_option linter.all false
set_option maxRecDepth 100000
set_option maxHeartbeats 4000000
namespace L2
open PySem PySem.Spec PyProof.Rows
abbrev Key := Sum Int Str
def uh : Key -> Value -> Bool
 | .inl k, v => Value.isInt k v
 | .inr x, v => Value.isStrOf x v
def Ra (w : World) : Key -> Int
 | .inl k => hashInt k
 | .inr x => hashStr w x
theorem dD : ∀ {k : Key} {v : Value}, uh k v = true -> (∃ i t, k = Sum.inl i /\ v = Value.int i t) \/ (∃ x t, k = Sum.inr x /\ v = Value.str x t)
 | .inl i, v, h => by
  obtain ⟨t, e⟩ := Value.isInt_shape (k := i) (v := v) h
  exact .inl ⟨i, t, rfl, e⟩
 | .inr x, v, h => by
  obtain ⟨t, e⟩ := Value.isStrOf_shape (x := x) (v := v) h
  exact .inr ⟨x, t, rfl, e⟩
theorem Ep (i : Int) (t : Tok) : uh (.inl i) (.int i t) = true := by simp [uh, Value.isInt]
theorem Er (x : Str) (t : Tok) : uh (.inr x) (.str x t) = true := by simp [uh, Value.isStrOf]
theorem Ls (a b : Int) : decide ((Sum.inl a : Key) = Sum.inl b) = (a == b) := by
 by_cases e : a = b
 ·subst e; simp
 ·have h : ¬ (Sum.inl a : Key) = Sum.inl b := fun q => e (Sum.inl.inj q)
  rw [decide_eq_false h]
  exact (beq_eq_false_iff_ne.mpr e).symm
theorem Lw (a b : Str) : decide ((Sum.inr a : Key) = Sum.inr b) = decide (a = b) := by
 by_cases e : a = b
 ·subst e; simp
 ·have h : ¬ (Sum.inr a : Key) = Sum.inr b := fun q => e (Sum.inr.inj q)
  rw [decide_eq_false h, decide_eq_false e]
theorem Lx (a : Int) (b : Str) : decide ((Sum.inl a : Key) = Sum.inr b) = false := decide_eq_false (fun q => nomatch q)
theorem Ly (a : Str) (b : Int) : decide ((Sum.inr a : Key) = Sum.inl b) = false := decide_eq_false (fun q => nomatch q)
def dz (prog : Program) (w : World) : PySem.KeyKind prog w Key where
 is := uh
 hash := Ra w
 inj := fun v a b ha hb => by
  rcases dD ha with ⟨i, t, rfl, rfl⟩ | ⟨x, t, rfl, rfl⟩
  ·rcases dD hb with ⟨j, u, rfl, e⟩ | ⟨y, u, rfl, e⟩
   ·injection e with e1 _; rw [e1]
   ·exact nomatch e
  ·rcases dD hb with ⟨j, u, rfl, e⟩ | ⟨y, u, rfl, e⟩
   ·exact nomatch e
   ·injection e with e1 _; rw [e1]
 byValue := fun k v h => by
  rcases dD h with ⟨i, t, rfl, rfl⟩ | ⟨x, t, rfl, rfl⟩ <;> rfl
 pyHash := fun hv h => by
  rcases dD hv with ⟨i, t, rfl, rfl⟩ | ⟨x, t, rfl, rfl⟩
  ·exact wpAny_pyHash_int h
  ·exact wpAny_pyHash_str h
 eqBool := fun hu hv h => by
  rcases dD hu with ⟨i, t, rfl, rfl⟩ | ⟨x, t, rfl, rfl⟩
  ·rcases dD hv with ⟨j, u, rfl, rfl⟩ | ⟨y, u, rfl, rfl⟩
   ·rw [Ls] at h; exact wpAny_eqBool_int h
   ·rw [Lx] at h; exact SeqAt.EqAt.int_str i t y u _ _ _ _ h
  ·rcases dD hv with ⟨j, u, rfl, rfl⟩ | ⟨y, u, rfl, rfl⟩
   ·rw [Ly] at h; exact SeqAt.EqAt.str_int x t j u _ _ _ _ h
   ·rw [Lw] at h; exact wpAny_eqBool_str h
 «strs» := fun k x t v h => by
  rcases dD h with ⟨i, u, rfl, e⟩ | ⟨y, u, rfl, e⟩
  ·exact nomatch e
  ·injection e with e1 _
   subst e1
   cases v <;> rfl
theorem uL (prog : Program) (w : World) (i : Int) (t : Tok) : (dz prog w).is (.inl i) (.int i t) = true := Ep i t
theorem uM (prog : Program) (w : World) (x : Str) (t : Tok) : (dz prog w).is (.inr x) (.str x t) = true := Er x t
end L2
namespace L2
open PySem PySem.Spec PyProof.Rows
inductive V where
 | non | bl (b : Bool) | int (i : Int) | str (x : Str) | byt (b : Array UInt8) | flt (b : UInt64) | ref (a : Addr) | ty (n : String)
 deriving DecidableEq
def RelV : V -> Value -> Prop
 | .non, u => u = Value.none
 | .bl b, u => u = Value.bool b
 | .int i, u => ∃ t, u = Value.int i t
 | .str x, u => ∃ t, u = Value.str x t
 | .byt b, u => ∃ t, u = Value.bytes b t
 | .flt b, u => ∃ t, u = Value.float b t
 | .ref a, u => u = Value.ref a
 | .ty n, u => u = Value.type n
abbrev Vals : List V -> List Value -> Prop := Paired RelV
theorem Vals.length {xs : List V} {us : List Value} (r : Vals xs us) : xs.length = us.length := Paired.length r
theorem Vals.get : ∀ {xs : List V} {us : List Value} {i : Nat} {x : V}, Vals xs us -> xs[i]? = some x -> ∃ u, us[i]? = some u /\ RelV x u
 | _, _, _, _, .nil, e => by simp at e
 | _, _, 0, _, .cons r _, e => by simp at e; subst e; exact ⟨_, rfl, r⟩
 | _, _, i + 1, x, .cons _ t, e => by
  obtain ⟨u, h1, h2⟩ := Vals.get (i := i) (x := x) t (by simpa using e)
  exact ⟨u, by simpa using h1, h2⟩
theorem Vals.set {x : V} {u : Value} (r : RelV x u) : ∀ {xs : List V} {us : List Value} (i : Nat), Vals xs us -> Vals (xs.set i x) (us.set i u)
 | _, _, _, .nil => .nil
 | _, _, 0, .cons _ t => .cons r t
 | _, _, i + 1, .cons q t => .cons q (Vals.set r i t)
theorem Vals.append : ∀ {xs ys : List V} {us ws : List Value}, Vals xs us -> Vals ys ws -> Vals (xs ++ ys) (us ++ ws)
 | _, _, _, _, .nil, s => s
 | _, _, _, _, .cons r t, s => .cons r (Vals.append t s)
theorem Vals.take : ∀ {xs : List V} {us : List Value} (n : Nat), Vals xs us -> Vals (xs.take n) (us.take n)
 | _, _, 0, _ => .nil
 | _, _, _ + 1, .nil => .nil
 | _, _, n + 1, .cons r t => .cons r (Vals.take n t)
theorem Vals.drop : ∀ {xs : List V} {us : List Value} (n : Nat), Vals xs us -> Vals (xs.drop n) (us.drop n)
 | _, _, 0, r => r
 | _, _, _ + 1, .nil => .nil
 | _, _, n + 1, .cons _ t => Vals.drop n t
theorem Vals.none_of : ∀ {xs : List V} {us : List Value} {i : Nat}, Vals xs us -> xs[i]? = none -> us[i]? = none := fun {xs us i} r e => by
 have h1 := r.length
 have h2 : xs.length <= i := List.getElem?_eq_none_iff.mp e
 exact List.getElem?_eq_none_iff.mpr (by omega)
def RelO : Option V -> Option Value -> Prop
 | some v, some u => RelV v u
 | none, none => True
 | _, _ => False
def KV {κ : Type} : List (κ × V) -> List (κ × Value) -> Prop := Paired fun (p : κ × V) (q : κ × Value) => p.1 = q.1 /\ RelV p.2 q.2
def kV : Key -> V
 | .inl i => .int i
 | .inr x => .str x
inductive HO where
 | lst (xs : List V)
 | tup (xs : List V)
 | dK (kvs : List (Key × V)) | dT (kvs : List (List Key × V))
 | set (S : Int -> Bool) (n : Nat)
 | ins (C dx : Addr) (fs : List (Str × V))
 | own (x : Addr)
 | xd (fs : List (Str × V))
 | met (f x : Addr)
 | rng (lo hi : Int)
 | frz (o : Obj) (u : HO)
 | tbl (ps : Array Value)
 | ext (φ : Heap -> Prop)
abbrev Hp := Addr -> Option HO
def upd (H : Hp) (a : Addr) (o : HO) : Hp := fun b => if b = a then some o else H b
theorem bO {H : Hp} {a : Addr} {o : HO} : upd H a o a = some o := by unfold upd; rw [if_pos rfl]
theorem aW {H : Hp} {a b : Addr} {o : HO} (h : b ≠ a) : upd H a o b = H b := by unfold upd; rw [if_neg h]
theorem Pu {H : Hp} {a b : Addr} {o u : HO} (h : H a = some o) (h' : H b = some u) (d : o ≠ u) : a ≠ b := by
 intro e; subst e; rw [h] at h'; exact d (Option.some.inj h')
theorem bh {H : Hp} {a b : Addr} {o : HO} (h : H a = some o) (h' : H b = none) : a ≠ b := by
 intro e; subst e; rw [h] at h'; cases h'
section
variable (P : Program) (w : World)
def ObjOk (H : Hp) (h : Heap) (a : Addr) : HO -> Prop
 | .lst xs => xs.length <= sizeLine /\ ∃ (its : List Value) (n : Nat), Vals xs its /\ h.get? a = some { cls := .type "list", data := .seq its.toArray n }
 | .tup xs => xs.length <= sizeLine /\ ∃ its : List Value, Vals xs its /\ IsTup h a its.toArray
 | .dK kvs => kvs.length <= sizeLine /\ (a == sysModules) = false /\ ∃ vs, KV kvs vs /\ h.DictOf (dz P w) a vs
 | .dT kvs => kvs.length <= sizeLine /\ (a == sysModules) = false /\ ∃ xs : List (List Key × Addr × Value),
   Paired (fun (p : List Key × V) (q : List Key × Addr × Value) => p.1 = q.1 /\ H q.2.1 = some (.tup (p.1.map kV)) /\ RelV p.2 q.2.2) kvs xs /\
   ∃ o es ep, h.get? a = some o /\ o.ExactDict /\ o.data = .dict es ep /\ es.toList = xs.map (entryOfKey (tupleKind (dz P w))) /\ (xs.map (·.1)).Nodup
 | .set S n => h.SetOf (intKind P w) a S n
 | .ins C dx fs => H dx = some (.own a) /\ fs.length <= 1000 /\ dx ≠ a /\ h.get? a = some (PySem.W.instObj C dx) /\
   ∃ mA, h.Ns1 dx mA /\ (∀ f, RelO (fs.lookup f) (mA f)) /\ PySem.Within mA (fs.map (·.1))
 | .own _ => ∃ o, h.get? a = some o
 | .xd fs => ∃ mA, h.Ns1 a mA /\ ∀ f, RelO (fs.lookup f) (mA f)
 | .rng lo hi => ∃ t u v, h.get? a = some { cls := .type "range", data := .fields #[.int lo t, .int hi u, .int 1 v] }
 | .frz o u => h.get? a = some o /\ ObjOk H h a u
 | .tbl ps => h.get? a = some { cls := .none, data := .fields ps }
 | .met f x => h.get? a = some (PySem.W.methodObj (.ref f) (.ref x))
 | .ext φ => φ h /\ (∃ o, h.get? a = some o) /\ ∀ h1 h2 : Heap, φ h1 -> (∀ o, h1.get? a = some o -> h2.get? a = some o) -> φ h2
def HOk (H : Hp) (h : Heap) : Prop := ∀ a o, H a = some o -> ObjOk P w H h a o
end
section
variable {P : Program} {w : World} {H H' : Hp} {h h' : Heap} {a : Addr} {o : HO}
theorem ObjOk.lt (x : ObjOk P w H h a o) : a < h.objs.size := by
 cases o with
 | lst xs => obtain ⟨_, _, _, _, e⟩ := x; exact Heap.lt_size e
 | tup xs => obtain ⟨_, _, _, p⟩ := x; exact p.lt
 | dK kvs => obtain ⟨_, _, _, _, o, _, _, e, _⟩ := x; exact Heap.lt_size e
 | dT kvs => obtain ⟨_, _, _, _, o, _, _, e, _⟩ := x; exact Heap.lt_size e
 | set S n => obtain ⟨o, _, _, _, e, _⟩ := x; exact Heap.lt_size e
 | ins C dx fs => obtain ⟨_, _, _, e, _⟩ := x; exact Heap.lt_size e
 | own y => obtain ⟨_, e⟩ := x; exact Heap.lt_size e
 | xd fs => obtain ⟨_, ⟨_, _, _, e, _⟩, _⟩ := x; exact Heap.lt_size e
 | rng lo hi => obtain ⟨_, _, _, e⟩ := x; exact Heap.lt_size e
 | frz ob u => obtain ⟨e, _⟩ := x; exact Heap.lt_size e
 | tbl ps => exact Heap.lt_size (show h.get? a = some _ from x)
 | met f y => exact Heap.lt_size (show h.get? a = some _ from x)
 | ext φ => obtain ⟨_, ⟨_, e⟩, _⟩ := x; exact Heap.lt_size e
theorem Paired.mapP {α β : Type} {F G : α -> β -> Prop} : ∀ {l₁ : List α} {l₂ : List β}, Paired F l₁ l₂ -> (∀ a b, F a b -> G a b) -> Paired G l₁ l₂
 | _, _, .nil, _ => .nil
 | _, _, .cons r t, f => .cons (f _ _ r) (Paired.mapP t f)
theorem ObjOk.stay (x : ObjOk P w H h a o) (k : ∀ b u, (b = a \/ H b = some (.own a)) -> h.get? b = some u -> h'.get? b = some u)
  (ho : ∀ b, H b = some (.own a) -> H' b = some (.own a)) (ht : ∀ b xs, H b = some (.tup xs) -> H' b = some (.tup xs)) : ObjOk P w H' h' a o := by
 induction o with
 | lst xs => obtain ⟨z, its, n, r, e⟩ := x; exact ⟨z, its, n, r, k _ _ (.inl rfl) e⟩
 | tup xs => obtain ⟨z, its, r, ob, e, c⟩ := x; exact ⟨z, its, r, ob, k _ _ (.inl rfl) e, c⟩
 | dK kvs => obtain ⟨z, y, vs, r, ob, es, ep, e, c⟩ := x; exact ⟨z, y, vs, r, ob, es, ep, k _ _ (.inl rfl) e, c⟩
 | dT kvs =>
  obtain ⟨z, y, xs, r, ob, es, ep, e, c⟩ := x
  exact ⟨z, y, xs, Paired.mapP r fun p q z => ⟨z.1, ht _ _ z.2.1, z.2.2⟩, ob, es, ep, k _ _ (.inl rfl) e, c⟩
 | set S n => obtain ⟨ob, es, ep, t, e, c⟩ := x; exact ⟨ob, es, ep, t, k _ _ (.inl rfl) e, c⟩
 | ins C dx fs =>
  obtain ⟨d, z, ne, e, mA, ⟨od, es, ep, e2, c⟩, r⟩ := x
  exact ⟨ho _ d, z, ne, k _ _ (.inl rfl) e, mA, ⟨od, es, ep, k _ _ (.inr d) e2, c⟩, r⟩
 | own y => obtain ⟨ob, e⟩ := x; exact ⟨ob, k _ _ (.inl rfl) e⟩
 | xd fs => obtain ⟨mA, ⟨od, es, ep, e, c⟩, r⟩ := x; exact ⟨mA, ⟨od, es, ep, k _ _ (.inl rfl) e, c⟩, r⟩
 | rng lo hi => obtain ⟨t, u, v, e⟩ := x; exact ⟨t, u, v, k _ _ (.inl rfl) e⟩
 | frz ob u ih => obtain ⟨e, q⟩ := x; exact ⟨k _ _ (.inl rfl) e, ih q⟩
 | tbl ps =>
  have e : h.get? a = some { cls := .none, data := .fields ps } := x
  show h'.get? a = some { cls := .none, data := .fields ps }
  exact k a _ (.inl rfl) e
 | met f y =>
  have e : h.get? a = some (PySem.W.methodObj (.ref f) (.ref y)) := x
  show h'.get? a = some (PySem.W.methodObj (.ref f) (.ref y))
  exact k a _ (.inl rfl) e
 | ext φ => obtain ⟨p, ⟨o, e⟩, st⟩ := x; exact ⟨st _ _ p fun o q => k _ _ (.inl rfl) q, ⟨o, k _ _ (.inl rfl) e⟩, st⟩
theorem HOk.lt (x : HOk P w H h) (e : H a = some o) : a < h.objs.size := (x a o e).lt
theorem HOk.fresh (x : HOk P w H h) (e : h.objs.size <= a) : H a = none := by
 cases q : H a with
 | none => rfl
 | some u => exact absurd (Nat.lt_of_lt_of_le (x.lt q) e) (Nat.lt_irrefl _)
theorem HOk.kept (x : HOk P w H h) (k : ∀ b u, h.get? b = some u -> h'.get? b = some u) : HOk P w H h' := fun a o e =>
 (x a o e).stay (fun b u _ q => k b u q) (fun _ q => q) fun _ _ q => q
theorem HOk.laid (x : HOk P w H h) (k : ∀ b u, h.get? b = some u -> h'.get? b = some u) (hp : h.objs.size <= a) (new : ObjOk P w (upd H a o) h' a o) : HOk P w (upd H a o) h' := fun b u e => by
 have hn := x.fresh hp
 by_cases hb : b = a
 ·subst hb; rw [bO] at e; cases e; exact new
 ·rw [aW hb] at e
  exact (x b u e).stay (fun c v _ q => k c v q) (fun c q => by rw [aW (bh q hn)]; exact q) fun c xs q => by rw [aW (bh q hn)]; exact q
end
def Rd (H : Hp) (a : Addr) (u : HO) : Prop := H a = some u \/ ∃ o, H a = some (.frz o u)
theorem Rd.of {H : Hp} {a : Addr} {u : HO} (h : H a = some u) : Rd H a u := .inl h
theorem Rd.ok {P : Program} {w : World} {H : Hp} {h : Heap} {a : Addr} {u : HO} (r : Rd H a u) (x : HOk P w H h) : ObjOk P w H h a u := by
 rcases r with r | ⟨o, r⟩
 ·exact x a u r
 ·obtain ⟨_, q⟩ := x a _ r
  exact q
def Mut : Option HO -> Prop
 | some (.lst _) => True
 | some (.dK _) => True
 | some (.dT _) => True
 | some (.set _ _) => True
 | some (.ins _ _ _) => True
 | some (.ext _) => True
 | _ => False
section
variable {P : Program} {w : World} {H : Hp} {h h' : Heap} {x e : Addr} {o' : HO}
theorem HOk.write (ok : HOk P w H h) (mu : Mut (H x)) (he : e = x \/ H e = some (.own x)) (k : ∀ b u, b ≠ e -> h.get? b = some u -> h'.get? b = some u) (heo : ∃ u, h'.get? e = some u)
  (new : ObjOk P w (upd H x o') h' x o') : HOk P w (upd H x o') h' := fun b u q => by
 have nown : ∀ c y, H c = some (.own y) -> c ≠ x := fun c y r z => by subst z; rw [r] at mu; exact mu
 have ntup : ∀ c xs, H c = some (.tup xs) -> c ≠ x := fun c xs r z => by subst z; rw [r] at mu; exact mu
 by_cases hb : b = x
 ·subst hb; rw [bO] at q; cases q; exact new
 ·rw [aW hb] at q
  by_cases hbe : b = e
  ·have q' : H b = some (.own x) := by
    rcases he with z | z
    ·exact absurd (hbe.trans z) hb
    ·rw [hbe]; exact z
   rw [q] at q'; cases q'
   obtain ⟨v, hv⟩ := heo
   exact ⟨v, by rw [hbe]; exact hv⟩
  ·refine (ok b u q).stay (fun c v hc r => k c v ?_ r) (fun c r => by rw [aW (nown c b r)]; exact r) fun c xs r => by rw [aW (ntup c xs r)]; exact r
   rcases hc with rfl | hc
   ·exact hbe
   ·rintro rfl
    rcases he with z | z
    ·exact nown c b hc z
    ·rw [hc] at z; cases z; exact hb rfl
end
structure Un (fs ex : List Addr) (H H' : Hp) (h h' : Heap) : Prop where
 keep : ∀ b o, h.get? b = some o -> H b = none -> b ∉ fs -> b ∉ ex -> h'.get? b = some o
 slot : ∀ b o, h.get? b = some o -> H b = none -> b ∈ fs -> b ∉ ex -> ∃ sl, h'.get? b = some { o with slots := sl }
 free : ∀ b o, h.get? b = some o -> H b = none -> b ∉ ex -> H' b = none
 there : ∀ b o, h.get? b = some o -> b ∉ ex -> ∃ o', h'.get? b = some o'
 tups : ∀ b xs, H b = some (.tup xs) -> H' b = some (.tup xs)
 frzs : ∀ b o u, H b = some (.frz o u) -> H' b = some (.frz o u)
 tbls : ∀ b ps, H b = some (.tbl ps) -> ∃ more, H' b = some (.tbl (ps ++ more))
section
variable {fs fs' ex ex' : List Addr} {H H1 H2 : Hp} {h h1 h2 h' : Heap} {a x e : Addr} {o : HO}
theorem Un.any (u : Un fs ex H H1 h h1) {b : Addr} {ob : Obj} (q : h.get? b = some ob) (n : H b = none) (hx : b ∉ ex) : ∃ sl, h1.get? b = some { ob with slots := sl } := by
 by_cases hb : b ∈ fs
 ·exact u.slot b ob q n hb hx
 ·exact ⟨ob.slots, u.keep b ob q n hb hx⟩
theorem Un.trans (a : Un fs ex H H1 h h1) (b : Un fs ex H1 H2 h1 h2) : Un fs ex H H2 h h2 where
 keep := fun c ob q n hc hx => b.keep c ob (a.keep c ob q n hc hx) (a.free c ob q n hx) hc hx
 slot := fun c ob q n hc hx => by
  obtain ⟨sl, e1⟩ := a.slot c ob q n hc hx
  obtain ⟨sl', e2⟩ := b.slot c _ e1 (a.free c ob q n hx) hc hx
  exact ⟨sl', e2⟩
 free := fun c ob q n hx => by
  obtain ⟨o', e1⟩ := a.there c ob q hx
  exact b.free c o' e1 (a.free c ob q n hx) hx
 there := fun c ob q hx => by
  obtain ⟨o', e1⟩ := a.there c ob q hx
  exact b.there c o' e1 hx
 tups := fun c xs q => b.tups c xs (a.tups c xs q)
 frzs := fun c ob xs q => b.frzs c ob xs (a.frzs c ob xs q)
 tbls := fun c ps q => by
  obtain ⟨m1, e1⟩ := a.tbls c ps q
  obtain ⟨m2, e2⟩ := b.tbls c _ e1
  exact ⟨m1 ++ m2, by rw [e2, Array.append_assoc]⟩
theorem Un.kept (k : ∀ b u, h.get? b = some u -> h'.get? b = some u) : Un fs ex H H h h' :=
 ⟨fun b ob q _ _ _ => k b ob q, fun b ob q _ _ _ => ⟨ob.slots, k b ob q⟩, fun _ _ _ n _ => n, fun b ob q _ => ⟨ob, k b ob q⟩, fun _ _ q => q, fun _ _ _ q => q, fun _ ps q => ⟨#[], by rw [q]; simp⟩⟩
theorem Un.refl : Un fs ex H H h h := Un.kept fun _ _ q => q
theorem Un.laid (k : ∀ b u, h.get? b = some u -> h'.get? b = some u) (hp : h.objs.size <= a) (hn : H a = none) : Un fs ex H (upd H a o) h h' where
 keep := fun b u q _ _ _ => k b u q
 slot := fun b u q _ _ _ => ⟨u.slots, k b u q⟩
 free := fun b u q n _ => by rw [aW (Nat.ne_of_lt (Nat.lt_of_lt_of_le (Heap.lt_size q) hp))]; exact n
 there := fun b u q _ => ⟨u, k b u q⟩
 tups := fun b xs q => by rw [aW (bh q hn)]; exact q
 frzs := fun b u xs q => by rw [aW (bh q hn)]; exact q
 tbls := fun b ps q => ⟨#[], by rw [aW (bh q hn), q]; simp⟩
theorem Un.write (mu : Mut (H x)) (he : e = x \/ H e = some (.own x)) (k : ∀ b u, b ≠ e -> h.get? b = some u -> h'.get? b = some u) (heo : ∃ u, h'.get? e = some u) : Un fs ex H (upd H x o) h h' := by
 have hx : ∀ b, H b = none -> b ≠ x := fun b n z => by subst z; rw [n] at mu; exact mu
 have hb : ∀ b, H b = none -> b ≠ e := fun b n z => by
  subst z
  rcases he with r | r
  ·exact hx b n r
  ·rw [n] at r; cases r
 have hm : ∀ b u, H b = some u -> ¬ Mut (some u) -> b ≠ x := fun b u q nm z => by subst z; rw [q] at mu; exact nm mu
 refine ⟨fun b u q n _ _ => k b u (hb b n) q, fun b u q n _ _ => ⟨u.slots, k b u (hb b n) q⟩, fun b u q n _ => by rw [aW (hx b n)]; exact n, fun b u q _ => ?_,
  fun b xs q => by rw [aW (hm b _ q fun z => z)]; exact q, fun b u xs q => by rw [aW (hm b _ q fun z => z)]; exact q, fun b ps q => ⟨#[], by rw [aW (hm b _ q fun z => z), q]; simp⟩⟩
 by_cases hbe : b = e
 ·subst hbe; exact heo
 ·exact ⟨u, k b u hbe q⟩
theorem Un.mono (u : Un fs ex H H1 h h1) (hs : ∀ b ∈ fs, b ∈ fs') (hx : ∀ b ∈ ex, b ∈ ex') : Un fs' ex' H H1 h h1 :=
 ⟨fun b ob q n hb he => u.keep b ob q n (fun z => hb (hs b z)) fun z => he (hx b z), fun _ _ q n _ he => u.any q n fun z => he (hx _ z), fun b ob q n he => u.free b ob q n fun z => he (hx b z), fun b ob q he => u.there b ob q fun z => he (hx b z), u.tups, u.frzs, u.tbls⟩
end
def trk (h : Heap) (H : Hp) : List Addr := (List.range h.objs.size).filter fun a => (H a).isSome
def qU (h : Heap) (H : Hp) : Heap := PySem.W.hideAll h (trk h H)
theorem Es (h : Heap) (H : Hp) : (qU h H).objs.size = h.objs.size := PySem.W.hideAll_size _ _
theorem Ha {h : Heap} {H : Hp} {b : Addr} {o : Obj} (e : h.get? b = some o) (n : H b = none) : (qU h H).get? b = some o :=
 PySem.W.hideAll_get _ e fun hm => by
  have q : (H b).isSome = true := (List.mem_filter.mp hm).2
  rw [n] at q; simp at q
theorem JN {h : Heap} {H : Hp} {b : Addr} {o : Obj} (e : (qU h H).get? b = some o) : h.get? b = some o /\ H b = none := by
 have e' : h.get? b = some o := PySem.W.of_hideAll (trk h H) e
 refine ⟨e', ?_⟩
 cases q : H b with
 | none => rfl
 | some x =>
  have hm : b ∈ trk h H := List.mem_filter.mpr ⟨List.mem_range.mpr (Heap.lt_size e'), by simp [q]⟩
  have z : (qU h H).get? b = none := PySem.W.hideAll_none (trk h H) hm
  rw [z] at e; cases e
def JP (g h : Heap) (L : Addr) : List (Addr × Obj) := (List.range h.objs.size).filterMap fun a => if a = L \/ (g.get? a).isSome = true then none else (h.get? a).map fun o => (a, o)
def rest (g h : Heap) (L d : Addr) : List (Addr × Obj) := (JP g h L).filter fun p => decide (p.1 ≠ d)
end L2
namespace L2
open PySem PySem.Spec PyProof.Rows
structure Mod (K : PySem.W.Frag) (mg : Str -> Option Value) (base : Heap) : Prop where
 kin : K.In base
 glob : base.Ns mainGlobals mg
 blt : ∃ mb, base.Ns builtinsNs mb /\ ∀ x : Str, x ≠ "__name__" -> mb x = bootBuiltins x
 nolimit : base.NoLimit
structure Cx where
 prog : Program
 w : World
 K : PySem.W.Frag
 mg : Str -> Option Value
 base : Heap
 A : Around
 N : List Str
 s₀ : Shared
 H₀ : Hp
 env : Env
 outer : List Env
 stack : List Env
 ex : List Addr
 fn : Str -> Bool
 calm : Bool
 pn : List (Addr × Obj)
 xe : Value -> Shared -> Prop
def frs (l : List Env) : List Addr := l.filterMap (·.frame)
abbrev Cx.fs (X : Cx) : List Addr := frs X.outer
def Vis (sc : Scope) (x : Str) : Prop := sc.names.lookup x = some .local \/ sc.names.lookup x = some .cell \/ sc.names.lookup x = some .free
def Loc (sc : Scope) (x : Str) : Prop := sc.names.lookup x = some .local \/ sc.names.lookup x = some .cell
def Look (env : Env) (h : Heap) (m : Str -> Option Value) (x : Str) (u : Value) : Prop :=
 (env.kindOf x = some .local /\ m x = some u) \/ ((env.kindOf x = some .cell \/ env.kindOf x = some .free) /\ ∃ c, env.cells.lookup x = some c /\ h.IsCell c (some u))
structure Cx.Ok (X : Cx) : Prop where
 mod : Mod X.K X.mg X.base
 kind : X.env.scope.kind = .function
 glob : X.env.globals = mainGlobals
 blt : X.env.builtins = builtinsNs
 above : X.s₀.heap.objs.size <= X.env.locals
 inj : ∀ x y c, X.env.cells.lookup x = some c -> X.env.cells.lookup y = some c -> x = y
 has : ∀ x, (X.env.kindOf x = some .cell \/ X.env.kindOf x = some .free) -> ∃ c, X.env.cells.lookup x = some c
 cab : ∀ x c, X.fn x = true -> X.env.cells.lookup x = some c -> X.s₀.heap.objs.size <= c
 hd : X.calm = true -> X.A.handled = none
 frames : X.A.frames = some X.stack
 stk : X.stack = X.outer \/ (X.stack = X.env :: X.outer /\ X.env.frame = some X.env.locals)
 exf : ∀ b ∈ X.ex, b ≠ X.env.locals /\ ∀ x c, X.env.cells.lookup x = some c -> c ≠ b
 bs : ∀ b o, X.base.get? b = some o -> X.s₀.heap.get? b = some o /\ X.H₀ b = none
 bsz : X.base.objs.size <= X.s₀.heap.objs.size
 noex : ∀ b o, X.base.get? b = some o -> b ∉ X.ex
 exfs : ∀ b ∈ X.ex, b ∉ X.fs
 funs : X.s₀.heap.FunFrames X.base X.outer
 frf : ∀ b ∈ X.fs, X.H₀ b = none
structure Inv (X : Cx) (pins : List (Addr × Obj)) (σ : List (Option V)) (H : Hp) (s : Shared) : Prop where
 ok : X.Ok
 os : s.os = X.s₀.os
 bare : AllBare s.gens
 base : Un X.fs X.ex X.H₀ H X.s₀.heap s.heap
 loc : ∃ m, s.heap.Ns X.env.locals m /\ ∀ (i : Nat) (x : Str) (v : V), X.N[i]? = some x -> σ[i]? = some (some v) -> Vis X.env.scope x -> ∃ u, RelV v u /\ Look X.env s.heap m x u
 cell : ∀ x c, X.env.cells.lookup x = some c -> ∃ v, s.heap.IsCell c v
 free : H X.env.locals = none
 freeC : ∀ x c, X.env.cells.lookup x = some c -> H c = none
 pin : ∀ p ∈ X.pn ++ pins, s.heap.get? p.1 = some p.2 /\ H p.1 = none /\ p.1 ≠ X.env.locals /\ p.1 ∉ X.fs /\ ∀ v, p.2.data ≠ .cell v
 hok : HOk X.prog X.w H s.heap
 len : σ.length = X.N.length
section
variable {X : Cx} {pins : List (Addr × Obj)} {σ : List (Option V)} {H H' : Hp} {s : Shared} {h' : Heap}
theorem Cx.Ok.nofr (ok : X.Ok) {b : Addr} {o : Obj} (e : X.base.get? b = some o) : b ∉ X.fs := fun hb => by
 have := (ok.funs.mem hb).1
 rw [e] at this; cases this
theorem Inv.bs (I : Inv X pins σ H s) : ∀ b o, X.base.get? b = some o -> s.heap.get? b = some o /\ H b = none := fun b o e =>
 ⟨I.base.keep b o (I.ok.bs b o e).1 (I.ok.bs b o e).2 (I.ok.nofr e) (I.ok.noex b o e), I.base.free b o (I.ok.bs b o e).1 (I.ok.bs b o e).2 (I.ok.noex b o e)⟩
theorem Inv.bk (I : Inv X pins σ H s) : ∀ b o, X.base.get? b = some o -> s.heap.get? b = some o := fun b o e => (I.bs b o e).1
theorem Inv.mod (I : Inv X pins σ H s) : Mod X.K X.mg X.base := I.ok.mod
theorem Inv.kIn (I : Inv X pins σ H s) : X.K.In s.heap := I.ok.mod.kin.keeps I.bk
theorem Inv.nolimit (I : Inv X pins σ H s) : s.heap.NoLimit := I.ok.mod.nolimit.keeps I.bk
theorem Inv.fr (I : Inv X pins σ H s) : ∃ m, Fr X.base X.env.locals s.heap m :=
 let ⟨m, hn, _⟩ := I.loc
 ⟨m, hn, I.bk, Nat.le_trans I.ok.bsz I.ok.above⟩
theorem Inv.lt (I : Inv X pins σ H s) : X.env.locals < s.heap.objs.size := let ⟨_, hn, _⟩ := I.loc; hn.lt
theorem Inv.sz (I : Inv X pins σ H s) : X.s₀.heap.objs.size <= s.heap.objs.size := Nat.le_trans I.ok.above (Nat.le_of_lt I.lt)
theorem Inv.nofs (I : Inv X pins σ H s) {a : Addr} (h : s.heap.objs.size <= a) : a ∉ X.fs := fun hb => by
 obtain ⟨_, o, ho, _⟩ := I.ok.funs.mem hb
 exact absurd (Nat.lt_of_lt_of_le (Heap.lt_size ho) (Nat.le_trans I.sz h)) (Nat.lt_irrefl _)
theorem Inv.cne (I : Inv X pins σ H s) : ∀ x c, X.env.cells.lookup x = some c -> c ≠ X.env.locals := fun x c e z => by
 obtain ⟨v, o, ho, hd⟩ := I.cell x c e
 obtain ⟨m, ⟨o', es, ep, ho', hd', _⟩, _⟩ := I.loc
 rw [z, ho'] at ho; cases ho; rw [hd'] at hd; cases hd
theorem Inv.funs (I : Inv X pins σ H s) : s.heap.FunFrames X.base X.outer := by
 have all : ∀ (l : List Env), (∀ b ∈ frs l, b ∈ X.fs) -> X.s₀.heap.FunFrames X.base l -> s.heap.FunFrames X.base l := by
  intro l
  induction l with
  | nil => intro _ _; trivial
  | cons env r ih =>
   intro hs hl
   obtain ⟨hk, ⟨L, o, hf, hn, ho, hd⟩, hr⟩ := hl
   have hL : L ∈ X.fs := hs L (by unfold frs; rw [List.filterMap_cons, hf]; exact List.mem_cons_self)
   obtain ⟨sl, e⟩ := I.base.slot L o ho (I.ok.frf L hL) hL fun z => I.ok.exfs L z hL
   exact ⟨hk, ⟨L, _, hf, hn, e, hd⟩, ih (fun b hb => hs b (by unfold frs; rw [List.filterMap_cons, hf]; exact List.mem_cons_of_mem _ hb)) hr⟩
 exact all X.outer (fun _ hb => hb) I.ok.funs
theorem Inv.stack (I : Inv X pins σ H s) : s.heap.FunFrames X.base X.stack := by
 rcases I.ok.stk with e | ⟨e, hf⟩
 ·rw [e]; exact I.funs
 ·rw [e]
  obtain ⟨m, hn, _⟩ := I.loc
  refine .cons (by rw [I.ok.kind]; decide) hf hn ?_ I.funs
  exact Heap.get?_none_of_le (Nat.le_trans I.ok.bsz I.ok.above)
theorem Inv.stkSub (I : Inv X pins σ H s) : ∀ b ∈ frs X.stack, b ∈ X.env.locals :: X.fs := fun b hb => by
 rcases I.ok.stk with e | ⟨e, hf⟩
 ·rw [e] at hb; exact List.mem_cons_of_mem _ hb
 ·rw [e] at hb
  unfold frs at hb
  rw [List.filterMap_cons, hf] at hb
  exact hb
theorem Inv.stkFree (I : Inv X pins σ H s) : ∀ b ∈ frs X.stack, H b = none := fun b hb => by
 rcases List.mem_cons.mp (I.stkSub b hb) with e | hb
 ·rw [e]; exact I.free
 ·obtain ⟨_, o, ho, _⟩ := I.ok.funs.mem hb
  exact I.base.free b o ho (I.ok.frf b hb) fun z => I.ok.exfs b z hb
theorem Inv.step {g' : Array GenState} {t' : Nat} {d' : Drawn} {ch : List Addr} (I : Inv X pins σ H s)
  (hch : ∀ b ∈ ch, (b ∈ X.ex \/ X.s₀.heap.objs.size <= b) /\ b ≠ X.env.locals /\ (∀ x c, X.env.cells.lookup x = some c -> c ≠ b) /\ ∀ p ∈ X.pn ++ pins, p.1 ≠ b)
  (keep : ∀ b o, b ≠ X.env.locals -> b ∉ X.fs -> b ∉ ch -> s.heap.get? b = some o -> H b = none -> h'.get? b = some o)
  (slot : ∀ b o, b ≠ X.env.locals -> b ∈ X.fs -> b ∉ ch -> s.heap.get? b = some o -> H b = none -> ∃ sl, h'.get? b = some { o with slots := sl }) (free : ∀ b o, b ∉ ch -> s.heap.get? b = some o -> H b = none -> H' b = none)
  (there : ∀ b o, b ∉ ch -> s.heap.get? b = some o -> ∃ o', h'.get? b = some o')
  (tups : ∀ b xs, H b = some (.tup xs) -> H' b = some (.tup xs)) (frzs : ∀ b o u, H b = some (.frz o u) -> H' b = some (.frz o u)) (tbls : ∀ b ps, H b = some (.tbl ps) -> ∃ more, H' b = some (.tbl (ps ++ more)))
  (ns : ∀ m, s.heap.Ns X.env.locals m -> h'.Ns X.env.locals m) (hok : HOk X.prog X.w H' h') (hg : AllBare g') :
  Inv X pins σ H' { s with heap := h', gens := g', drawn := d', toks := t' } := by
 have neL : ∀ b o, X.s₀.heap.get? b = some o -> b ≠ X.env.locals := fun b o e => Nat.ne_of_lt (Nat.lt_of_lt_of_le (Heap.lt_size e) I.ok.above)
 have neC : ∀ b o, X.s₀.heap.get? b = some o -> b ∉ X.ex -> b ∉ ch := fun b o e hx hb => by
  rcases (hch b hb).1 with z | z
  ·exact hx z
  ·exact absurd (Nat.lt_of_lt_of_le (Heap.lt_size e) z) (Nat.lt_irrefl _)
 have cellK : ∀ x c, X.env.cells.lookup x = some c -> ∀ v, s.heap.IsCell c v -> h'.IsCell c v := fun x c e v ⟨o, ho, hd⟩ => by
  have nch : c ∉ ch := fun z => (hch c z).2.2.1 x c e rfl
  by_cases hc : c ∈ X.fs
  ·obtain ⟨sl, q⟩ := slot c o (I.cne x c e) hc nch ho (I.freeC x c e)
   exact ⟨_, q, hd⟩
  ·exact ⟨o, keep c o (I.cne x c e) hc nch ho (I.freeC x c e), hd⟩
 refine ⟨I.ok, I.os, hg, ⟨fun b o e n hb hx => ?_, fun b o e n hb hx => ?_, fun b o e n hx => ?_, fun b o e hx => ?_, fun b xs e => tups b xs (I.base.tups b xs e), fun b o xs e => frzs b o xs (I.base.frzs b o xs e), fun b ps e => ?_⟩, ?_, fun x c e => ?_, ?_, fun x c e => ?_, fun p hp => ?_, hok, I.len⟩
 ·exact keep b o (neL b o e) hb (neC b o e hx) (I.base.keep b o e n hb hx) (I.base.free b o e n hx)
 ·obtain ⟨sl, e1⟩ := I.base.slot b o e n hb hx
  obtain ⟨sl', e2⟩ := slot b _ (neL b o e) hb (neC b o e hx) e1 (I.base.free b o e n hx)
  exact ⟨sl', e2⟩
 ·obtain ⟨o', e1⟩ := I.base.there b o e hx
  exact free b o' (neC b o e hx) e1 (I.base.free b o e n hx)
 ·obtain ⟨o', e1⟩ := I.base.there b o e hx
  exact there b o' (neC b o e hx) e1
 ·obtain ⟨m1, e1⟩ := I.base.tbls b ps e
  obtain ⟨m2, e2⟩ := tbls b _ e1
  exact ⟨m1 ++ m2, by rw [e2, Array.append_assoc]⟩
 ·obtain ⟨m, hn, hl⟩ := I.loc
  refine ⟨m, ns m hn, fun i x v e1 e2 e3 => ?_⟩
  obtain ⟨u, r, l⟩ := hl i x v e1 e2 e3
  refine ⟨u, r, ?_⟩
  rcases l with l | ⟨k, c, e, z⟩
  ·exact .inl l
  ·exact .inr ⟨k, c, e, cellK x c e _ z⟩
 ·obtain ⟨v, z⟩ := I.cell x c e
  exact ⟨v, cellK x c e v z⟩
 ·obtain ⟨m, ⟨o, _, _, ho, _⟩, _⟩ := I.loc
  exact free _ o (fun z => (hch _ z).2.1 rfl) ho I.free
 ·obtain ⟨v, o, ho, hd⟩ := I.cell x c e
  exact free c o (fun z => (hch c z).2.2.1 x c e rfl) ho (I.freeC x c e)
 ·obtain ⟨e, n, ne, nf, d⟩ := I.pin p hp
  have nch : p.1 ∉ ch := fun z => (hch p.1 z).2.2.2 p hp rfl
  exact ⟨keep p.1 p.2 ne nf nch e n, free p.1 p.2 nch e n, ne, nf, d⟩
theorem Inv.un {t' : Nat} (I : Inv X pins σ H s) (u : Un X.fs [] H H' s.heap h') (hok : HOk X.prog X.w H' h') : Inv X pins σ H' { s with heap := h', toks := t' } := by
 obtain ⟨m, ⟨o, es, ep, ho, r⟩, _⟩ := id I.loc
 obtain ⟨sl, hL⟩ := u.any ho I.free (by simp)
 exact I.step (g' := s.gens) (d' := s.drawn) (ch := []) (fun _ z => nomatch z) (fun b o _ hb _ e n => u.keep b o e n hb (by simp)) (fun b o _ hb _ e n => u.slot b o e n hb (by simp)) (fun b o _ e n => u.free b o e n (by simp)) (fun b o _ e => u.there b o e (by simp)) u.tups u.frzs u.tbls (fun m' hm => by
  obtain ⟨o', es', ep', ho', r'⟩ := hm
  rw [ho] at ho'; cases ho'
  exact ⟨_, es', ep', hL, r'⟩) hok I.bare
theorem Inv.call {g' : Array GenState} {t' : Nat} {d' : Drawn} {ch : List Addr} (I : Inv X pins σ H s) (u : Un (frs X.stack) ch H H' s.heap h') (hok : HOk X.prog X.w H' h') (hg : AllBare g')
  (hch : ∀ b ∈ ch, (b ∈ X.ex \/ X.s₀.heap.objs.size <= b) /\ b ≠ X.env.locals /\ (∀ x c, X.env.cells.lookup x = some c -> c ≠ b) /\ ∀ p ∈ X.pn ++ pins, p.1 ≠ b) :
  Inv X pins σ H' { s with heap := h', gens := g', drawn := d', toks := t' } := by
 obtain ⟨m, ⟨o, es, ep, ho, r⟩, _⟩ := id I.loc
 obtain ⟨sl, hL⟩ := u.any ho I.free fun z => (hch _ z).2.1 rfl
 exact I.step (ch := ch) hch (fun b o hL hb hc e n => u.keep b o e n (fun z => (List.mem_cons.mp (I.stkSub b z)).elim hL hb) hc) (fun b o _ _ hc e n => u.any e n hc) (fun b o hc e n => u.free b o e n hc) (fun b o hc e => u.there b o e hc) u.tups u.frzs u.tbls (fun m' hm => by
  obtain ⟨o', es', ep', ho', r'⟩ := hm
  rw [ho] at ho'; cases ho'
  exact ⟨_, es', ep', hL, r'⟩) hok hg
theorem Inv.turned {t' : Nat} {it : Addr} (I : Inv X pins σ H s) (k : ∀ b o, b ≠ it -> s.heap.get? b = some o -> h'.get? b = some o) (hn : H it = none) (hL : it ≠ X.env.locals)
  (h1 : it ∈ X.ex \/ X.s₀.heap.objs.size <= it) (h2 : ∀ x c, X.env.cells.lookup x = some c -> c ≠ it) (h3 : ∀ p ∈ X.pn ++ pins, p.1 ≠ it) : Inv X pins σ H { s with heap := h', toks := t' } := by
 have nit : ∀ b u, H b = some u -> b ≠ it := fun b u e z => by rw [z, hn] at e; cases e
 refine I.step (g' := s.gens) (d' := s.drawn) (ch := [it]) (fun b hb => ?_) (fun b o _ _ hc e _ => k b o (fun z => hc (by simp [z])) e) (fun b o _ _ hc e _ => ⟨o.slots, k b o (fun z => hc (by simp [z])) e⟩) (fun _ _ _ _ n => n)
  (fun b o hc e => ⟨o, k b o (fun z => hc (by simp [z])) e⟩) (fun _ _ e => e) (fun _ _ _ e => e) (fun b ps e => ⟨#[], by rw [e]; simp⟩) (fun m hm => ?_) (fun b u e => ?_) I.bare
 ·have e : b = it := by simpa using hb
  subst e
  exact ⟨h1, hL, h2, h3⟩
 ·obtain ⟨o, es, ep, ho, r⟩ := hm
  exact ⟨o, es, ep, k _ o (Ne.symm hL) ho, r⟩
 ·refine (I.hok b u e).stay (fun c v hc q => k c v ?_ q) (fun _ q => q) fun _ _ q => q
  rcases hc with z | z
  ·rw [z]; exact nit b u e
  ·exact nit c _ z
theorem Inv.tok (I : Inv X pins σ H s) (t : Nat) : Inv X pins σ H { s with toks := t } := I.un (h' := s.heap) (t' := t) Un.refl I.hok
theorem Inv.kept {t' : Nat} (I : Inv X pins σ H s) (k : ∀ b u, s.heap.get? b = some u -> h'.get? b = some u) : Inv X pins σ H { s with heap := h', toks := t' } := I.un (Un.kept k) (I.hok.kept k)
theorem Inv.laid {a : Addr} {o : HO} {t' : Nat} (I : Inv X pins σ H s) (k : ∀ b u, s.heap.get? b = some u -> h'.get? b = some u) (hp : s.heap.objs.size <= a) (new : ObjOk X.prog X.w (upd H a o) h' a o) :
  Inv X pins σ (upd H a o) { s with heap := h', toks := t' } := I.un (Un.laid k hp (I.hok.fresh hp)) (I.hok.laid k hp new)
theorem Inv.write {x e : Addr} {o : HO} {t' : Nat} (I : Inv X pins σ H s) (mu : Mut (H x)) (he : e = x \/ H e = some (.own x)) (k : ∀ b u, b ≠ e -> s.heap.get? b = some u -> h'.get? b = some u) (heo : ∃ u, h'.get? e = some u)
  (new : ObjOk X.prog X.w (upd H x o) h' x o) : Inv X pins σ (upd H x o) { s with heap := h', toks := t' } := I.un (Un.write mu he k heo) (I.hok.write mu he k heo new)
theorem Inv.weak {σ' : List (Option V)} (I : Inv X pins σ H s) (hl : σ'.length = σ.length) (w : ∀ (i : Nat) v, σ'[i]? = some (some v) -> σ[i]? = some (some v)) : Inv X pins σ' H s :=
 ⟨I.ok, I.os, I.bare, I.base, let ⟨m, hn, hl'⟩ := I.loc; ⟨m, hn, fun i x v e1 e2 e3 => hl' i x v e1 (w i v e2) e3⟩, I.cell, I.free, I.freeC, I.pin, I.hok, hl.trans I.len⟩
theorem Inv.pins_of {pins' : List (Addr × Obj)} (I : Inv X pins σ H s) (h : ∀ p ∈ pins', s.heap.get? p.1 = some p.2 /\ H p.1 = none /\ p.1 ≠ X.env.locals /\ p.1 ∉ X.fs /\ ∀ v, p.2.data ≠ .cell v) : Inv X pins' σ H s :=
 ⟨I.ok, I.os, I.bare, I.base, I.loc, I.cell, I.free, I.freeC, fun p hp => (List.mem_append.mp hp).elim (fun z => I.pin p (List.mem_append_left _ z)) (h p), I.hok, I.len⟩
theorem zj {N : List Str} (hN : N.Nodup) {i j : Nat} {x : Str} (a : N[i]? = some x) (b : N[j]? = some x) : i = j := by
 obtain ⟨h1, e1⟩ := List.getElem?_eq_some_iff.mp a
 obtain ⟨h2, e2⟩ := List.getElem?_eq_some_iff.mp b
 exact (List.getElem_inj hN).mp (e1.trans e2.symm)
theorem xH {M : Model} {A : Around} {E : Value -> Shared -> Prop} {i : Nat} {x : Str} {v : V} {u : Value} {Q : Unit -> Shared -> Prop} (I : Inv X pins σ H s) (hN : X.N.Nodup) (hi : X.N[i]? = some x) (hx : Loc X.env.scope x) (r : RelV v u)
  (h : ∀ s', Inv X pins (σ.set i (some v)) H s' -> (∃ a, Heap.SameBut a s.heap s'.heap /\ (a = X.env.locals \/ X.env.cells.lookup x = some a)) -> Q () s') (hf : X.fn x = true \/ X.env.scope.names.lookup x = some .local := by first | exact .inl rfl | exact .inr rfl | assumption) : wpAny M A (storeName X.env x u) Q E s := by
 obtain ⟨m, hn, hl⟩ := id I.loc
 have hcls : (X.env.scope.kind == .class || (X.env.scope.kind == .module && X.env.locals != X.env.globals)) = false := by rw [I.ok.kind]; rfl
 have hiσ : i < σ.length := by rw [I.len]; exact (List.getElem?_eq_some_iff.mp hi).1
 have cne := I.cne
 have tracked : ∀ {a : Addr} {h' : Heap}, (∃ o, s.heap.get? a = some o /\ H a = none) -> Heap.SameBut a s.heap h' -> HOk X.prog X.w H h' := fun {a h'} ha hs b ob e => by
  obtain ⟨_, _, hfree⟩ := ha
  refine (I.hok b ob e).stay (fun c w' hc q => (hs.2 c ?_).trans q) (fun _ q => q) fun _ _ q => q
  rintro rfl
  rcases hc with rfl | hc
  ·rw [hfree] at e; cases e
  ·rw [hfree] at hc; cases hc
 rcases hx with hk | hk
 ·refine wpAny_storeName_local hk hn (fun h' hn' hs => ?_) hcls
  obtain ⟨oL, _, _, hoL, _⟩ := id hn
  refine h _ ⟨I.ok, I.os, I.bare, ⟨fun b o e n hb hx => ?_, fun b o e n hb hx => ?_, I.base.free, fun b o e hx => ?_, I.base.tups, I.base.frzs, I.base.tbls⟩, ⟨_, hn', fun j y v' e1 e2 e3 => ?_⟩, fun y c e => ?_, I.free, I.freeC, fun p hp => ?_, tracked ⟨oL, hoL, I.free⟩ hs, by simpa using I.len⟩ ⟨_, hs, .inl rfl⟩
  ·exact (hs.2 b (Nat.ne_of_lt (Nat.lt_of_lt_of_le (Heap.lt_size e) I.ok.above))).trans (I.base.keep b o e n hb hx)
  ·obtain ⟨sl, e1⟩ := I.base.slot b o e n hb hx
   exact ⟨sl, (hs.2 b (Nat.ne_of_lt (Nat.lt_of_lt_of_le (Heap.lt_size e) I.ok.above))).trans e1⟩
  ·obtain ⟨o', e1⟩ := I.base.there b o e hx
   exact ⟨o', (hs.2 b (Nat.ne_of_lt (Nat.lt_of_lt_of_le (Heap.lt_size e) I.ok.above))).trans e1⟩
  ·by_cases hj : j = i
   ·subst hj
    rw [hi] at e1; cases e1
    rw [List.getElem?_set_self hiσ] at e2
    cases e2
    exact ⟨u, r, .inl ⟨hk, by simp⟩⟩
   ·rw [List.getElem?_set_ne (Ne.symm hj)] at e2
    obtain ⟨u', r', q⟩ := hl j y v' e1 e2 e3
    refine ⟨u', r', ?_⟩
    rcases q with ⟨k, e⟩ | ⟨k, c, e, z⟩
    ·refine .inl ⟨k, ?_⟩
     have : y ≠ x := fun e => hj (zj hN e1 (e ▸ hi))
     simp [this, e]
    ·exact .inr ⟨k, c, e, z.sameBut hs (cne y c e)⟩
  ·obtain ⟨w', z⟩ := I.cell y c e
   exact ⟨w', z.sameBut hs (cne y c e)⟩
  ·obtain ⟨e, n, ne, nf, d⟩ := I.pin p hp
   exact ⟨(hs.2 p.1 ne).trans e, n, ne, nf, d⟩
 ·have hfn : X.fn x = true := by
   rcases hf with z | z
   ·exact z
   ·rw [z] at hk; cases hk
  obtain ⟨c, hc⟩ := I.ok.has x (.inl hk)
  obtain ⟨w', z⟩ := I.cell x c hc
  refine wpAny_storeName_cell I.ok.kind hk hc z (fun h' hc' hs => ?_)
  obtain ⟨oc, hoc, hocd⟩ := id z
  refine h { s with heap := h' } ⟨I.ok, I.os, I.bare, ⟨fun b o e n hb hx => ?_, fun b o e n hb hx => ?_, I.base.free, fun b o e hx => ?_, I.base.tups, I.base.frzs, I.base.tbls⟩, ⟨m, hn.sameBut hs (Ne.symm (cne x c hc)), fun j y v' e1 e2 e3 => ?_⟩, fun y c' e => ?_, I.free, I.freeC, fun p hp => ?_, tracked ⟨oc, hoc, I.freeC x c hc⟩ hs, by simpa using I.len⟩ ⟨c, hs, .inr hc⟩
  ·exact (hs.2 b (Nat.ne_of_lt (Nat.lt_of_lt_of_le (Heap.lt_size e) (I.ok.cab x c hfn hc)))).trans (I.base.keep b o e n hb hx)
  ·obtain ⟨sl, e1⟩ := I.base.slot b o e n hb hx
   exact ⟨sl, (hs.2 b (Nat.ne_of_lt (Nat.lt_of_lt_of_le (Heap.lt_size e) (I.ok.cab x c hfn hc)))).trans e1⟩
  ·obtain ⟨o', e1⟩ := I.base.there b o e hx
   exact ⟨o', (hs.2 b (Nat.ne_of_lt (Nat.lt_of_lt_of_le (Heap.lt_size e) (I.ok.cab x c hfn hc)))).trans e1⟩
  ·by_cases hj : j = i
   ·subst hj
    rw [hi] at e1; cases e1
    rw [List.getElem?_set_self hiσ] at e2
    cases e2
    exact ⟨u, r, .inr ⟨.inl hk, c, hc, hc'⟩⟩
   ·rw [List.getElem?_set_ne (Ne.symm hj)] at e2
    obtain ⟨u', r', q⟩ := hl j y v' e1 e2 e3
    refine ⟨u', r', ?_⟩
    rcases q with q | ⟨k, c', e, z'⟩
    ·exact .inl q
    ·refine .inr ⟨k, c', e, z'.sameBut hs ?_⟩
     rintro rfl
     exact hj (zj hN e1 (I.ok.inj _ _ _ e hc ▸ hi))
  ·by_cases hcc : c' = c
   ·subst hcc; exact ⟨_, hc'⟩
   ·obtain ⟨w2, z2⟩ := I.cell y c' e
    exact ⟨w2, z2.sameBut hs hcc⟩
  ·obtain ⟨e, n, ne, nf, d⟩ := I.pin p hp
   refine ⟨(hs.2 p.1 ?_).trans e, n, ne, nf, d⟩
   intro q
   rw [q, hoc] at e
   have q' : oc = p.2 := Option.some.inj e
   exact d w' (by rw [← q']; exact hocd)
theorem zm {M : Model} {A : Around} {E : Value -> Shared -> Prop} {i : Nat} {x : Str} {v : V} {u : Value} {Q : Unit -> Shared -> Prop} (I : Inv X pins σ H s) (hN : X.N.Nodup) (hi : X.N[i]? = some x) (hx : Loc X.env.scope x) (r : RelV v u)
  (h : ∀ s', Inv X pins (σ.set i (some v)) H s' -> Q () s') (hf : X.fn x = true \/ X.env.scope.names.lookup x = some .local := by first | exact .inl rfl | exact .inr rfl | assumption) : wpAny M A (storeName X.env x u) Q E s :=
 xH I hN hi hx r (fun s' I' _ => h s' I') hf
theorem Inv.call' {s' : Shared} {ch : List Addr} (I : Inv X pins σ H s) (ho : s'.os = s.os) (u : Un (frs X.stack) ch H H' s.heap s'.heap) (hok : HOk X.prog X.w H' s'.heap) (hg : AllBare s'.gens)
  (hch : ∀ b ∈ ch, (b ∈ X.ex \/ X.s₀.heap.objs.size <= b) /\ b ≠ X.env.locals /\ (∀ x c, X.env.cells.lookup x = some c -> c ≠ b) /\ ∀ p ∈ X.pn ++ pins, p.1 ≠ b) : Inv X pins σ H' s' := by
 obtain ⟨h', g', d', t', o'⟩ := s'
 have e : o' = s.os := ho
 subst e
 exact I.call (g' := g') (t' := t') (d' := d') u hok hg hch
end
abbrev XK := Value -> Option Addr -> Hp -> Prop
abbrev St := List (Option V)
abbrev VK := V -> Hp -> Prop
abbrev TE := St -> Hp -> VK -> Prop
abbrev TT := St -> Hp -> (Bool -> Hp -> Prop) -> Prop
abbrev TA := St -> Hp -> (List V -> Hp -> Prop) -> Prop
structure Ends where
 nx : St -> Hp -> Prop
 rt : VK
 bk : St -> Hp -> Prop := fun _ _ => False
 ct : St -> Hp -> Prop := fun _ _ => False
abbrev TS := Ends -> St -> Hp -> Prop
def EP (X : Cx) (pins : List (Addr × Obj)) (σ : St) (Q : VK) (u : Value) (s' : Shared) : Prop := ∃ v H', Inv X pins σ H' s' /\ RelV v u /\ Q v H'
def TP (X : Cx) (pins : List (Addr × Obj)) (σ : St) (Q : Bool -> Hp -> Prop) (b : Bool) (s' : Shared) : Prop := ∃ H', Inv X pins σ H' s' /\ Q b H'
def AP (X : Cx) (pins : List (Addr × Obj)) (σ : St) (Q : List V -> Hp -> Prop) (us : List Value) (s' : Shared) : Prop := ∃ vs H', Inv X pins σ H' s' /\ Vals vs us /\ Q vs H'
def SP (X : Cx) (pins : List (Addr × Obj)) (D : Ends) (f : Flow) (s' : Shared) : Prop :=
 match f with
 | .next => ∃ σ' H', Inv X pins σ' H' s' /\ D.nx σ' H'
 | .brk => ∃ σ' H', Inv X pins σ' H' s' /\ D.bk σ' H'
 | .cont => ∃ σ' H', Inv X pins σ' H' s' /\ D.ct σ' H'
 | .ret u => ∃ v σ' H', Inv X pins σ' H' s' /\ RelV v u /\ D.rt v H'
def PE (X : Cx) (e : Expr) (t : TE) : Prop :=
 ∀ (pins : List (Addr × Obj)) (s : Shared) (σ : St) (H : Hp) (Q : VK), Inv X pins σ H s -> t σ H Q -> wpAny (model X.prog X.w) X.A (eval e X.env) (EP X pins σ Q) X.xe s
def PT (X : Cx) (e : Expr) (t : TT) : Prop :=
 ∀ (pins : List (Addr × Obj)) (s : Shared) (σ : St) (H : Hp) (Q : Bool -> Hp -> Prop), Inv X pins σ H s -> t σ H Q -> wpAny (model X.prog X.w) X.A (isTrue e X.env (eval e X.env)) (TP X pins σ Q) X.xe s
def PW (X : Cx) (e : Expr) (t : TT) : Prop :=
 ∀ (whole : Sem Value) (pins : List (Addr × Obj)) (s : Shared) (σ : St) (H : Hp) (Q : Bool -> Hp -> Prop), Inv X pins σ H s -> t σ H Q -> wpAny (model X.prog X.w) X.A (isTrue e X.env whole) (TP X pins σ Q) X.xe s
theorem PW.pt {X : Cx} {e : Expr} {t : TT} (h : PW X e t) : PT X e t := h _
def PA (X : Cx) (es : List Expr) (t : TA) : Prop :=
 ∀ (pos : Pos) (pins : List (Addr × Obj)) (s : Shared) (σ : St) (H : Hp) (Q : List V -> Hp -> Prop), Inv X pins σ H s -> t σ H Q -> wpAny (model X.prog X.w) X.A (spliced (backTo pos (starEach es X.env))) (AP X pins σ Q) X.xe s
def PS (X : Cx) (st : Stmt) (t : TS) : Prop :=
 ∀ (pins : List (Addr × Obj)) (s : Shared) (σ : St) (H : Hp) (D : Ends), Inv X pins σ H s -> t D σ H -> wpAny (model X.prog X.w) X.A (exec st X.env) (SP X pins D) X.xe s
def PSs (X : Cx) (st : List Stmt) (t : TS) : Prop :=
 ∀ (pins : List (Addr × Obj)) (s : Shared) (σ : St) (H : Hp) (D : Ends), Inv X pins σ H s -> t D σ H -> wpAny (model X.prog X.w) X.A (execs st X.env) (SP X pins D) X.xe s
theorem thn {α : Type} {t : Sem α} {Q Q' : α -> Shared -> Prop} {M : Model} {A : Around} {E : Value -> Shared -> Prop} {s : Shared} (h : wpAny M A t Q E s) (hQ : ∀ a s, Q a s -> Q' a s) : wpAny M A t Q' E s := wpAny_mono h hQ fun _ _ x => x
end L2
namespace L2
open PySem PySem.Spec PyProof.Rows
section
variable {X : Cx}
def Lz (i : Nat) : TE := fun σ H Q => ∃ v, σ[i]? = some (some v) /\ Q v H
def tC (v : V) : TE := fun _ H Q => Q v H
theorem oR {i : Nat} {x : Str} {pos : Pos} (hN : X.N[i]? = some x) (hv : Vis X.env.scope x) (hd : (x == ("__debug__" : Str)) = false := by decide) (hcd : (x == ("__classdict__" : Str)) = false := by decide) : PE X (.Name x pos) (Lz i) := by
 intro pins s σ H Q I h
 obtain ⟨v, e, h⟩ := h
 obtain ⟨m, hn, hl⟩ := I.loc
 obtain ⟨u, r, l⟩ := hl i x v hN e hv
 have fin : EP X pins σ Q u s := ⟨v, H, I, r, h⟩
 rcases l with ⟨hk, hm⟩ | ⟨hk, c, hc, hcell⟩
 ·exact wpAny_Name (wpAny_loadName_local I.ok.kind hk hn hm fin) hd
 ·rcases hk with hk | hk
  ·exact wpAny_Name (wpAny_loadName_cell I.ok.kind hk hc hcell fin) hd
  ·exact wpAny_Name (wpAny_loadName_free I.ok.kind hk hc hcell fin hcd) hd
theorem Et {i j pos} : PE X (.Constant (.int i) j pos) (tC (.int i)) := fun _ _ _ H _ I h => wpAny_Constant_int ⟨.int i, H, I.tok _, ⟨_, rfl⟩, h⟩
theorem Px {b j pos} : PE X (.Constant (.bool b) j pos) (tC (.bl b)) := fun _ _ _ H _ I h => Constant_bool ⟨.bl b, H, I, rfl, h⟩
theorem LC {j pos} : PE X (.Constant .none j pos) (tC .non) := fun _ _ _ H _ I h => Constant_none ⟨.non, H, I, rfl, h⟩
theorem Eu {x j pos} : PE X (.Constant (.str x) j pos) (tC (.str x)) := fun _ _ _ H _ I h => Calls.Constant_str ⟨.str x, H, I.tok _, ⟨_, rfl⟩, h⟩
def Gl (X : Cx) (x : Str) : Prop := X.env.kindOf x = some .globalImplicit
theorem wG {E : Value -> Shared -> Prop} {pins : List (Addr × Obj)} {s : Shared} {σ : St} {H : Hp} {x : Str} {u : Value} {pos : Pos} {Q : Value -> Shared -> Prop} (I : Inv X pins σ H s) (hg : Gl X x) (hm : X.mg x = some u) (h : Q u s)
  (hd : (x == ("__debug__" : Str)) = false := by decide) : wpAny (model X.prog X.w) X.A (eval (.Name x pos) X.env) Q E s :=
 Calls.Name_function_global I.ok.kind hg (Calls.loadGlobal_global (by rw [I.ok.glob]; exact I.mod.glob.keeps I.bk) hm h) hd
theorem qI {E : Value -> Shared -> Prop} {pins : List (Addr × Obj)} {s : Shared} {σ : St} {H : Hp} {x : Str} {u : Value} {pos : Pos} {Q : Value -> Shared -> Prop} (I : Inv X pins σ H s) (hg : Gl X x) (hm : X.mg x = none) (hv : bootBuiltins x = some u) (h : Q u s)
  (hn : x ≠ "__name__" := by decide) (hd : (x == ("__debug__" : Str)) = false := by decide) : wpAny (model X.prog X.w) X.A (eval (.Name x pos) X.env) Q E s := by
 obtain ⟨mb, h1, h2⟩ := I.mod.blt
 exact Calls.Name_function_global I.ok.kind hg (Calls.loadGlobal_builtin (by rw [I.ok.glob]; exact I.mod.glob.keeps I.bk) hm (by rw [I.ok.blt]; exact h1.keeps I.bk) ((h2 x hn).trans hv) h) hd
theorem wH {x : Str} {v : V} {u : Value} {pos : Pos} (hg : Gl X x) (hm : X.mg x = some u) (r : RelV v u) (hd : (x == ("__debug__" : Str)) = false := by decide) : PE X (.Name x pos) (tC v) :=
 fun _ _ _ H _ I h => wG I hg hm ⟨v, H, I, r, h⟩ hd
theorem JQ {x : Str} {v : V} {u : Value} {pos : Pos} (hg : Gl X x) (hm : X.mg x = none) (hv : bootBuiltins x = some u) (r : RelV v u) (hn : x ≠ "__name__" := by decide) (hd : (x == ("__debug__" : Str)) = false := by decide) : PE X (.Name x pos) (tC v) :=
 fun _ _ _ H _ I h => qI I hg hm hv ⟨v, H, I, r, h⟩ hn hd
variable {a b : Expr} {ta tb : TE} {pos : Pos}
def tB (t : TE) : TT := fun σ H Q => t σ H fun x H1 => ∃ c, x = .bl c /\ Q c H1
theorem LK {e : Expr} {t : TE} (h : PE X e t) (he : ∀ whole, isTrue e X.env whole = (do let v ← whole; standAt e.pos; holding [v] (truthy v)) := by intro _; rfl) : PT X e (tB t) := by
 intro pins s σ H Q I hw
 refine isTrue_plain (thn (h pins s σ H _ I hw) fun v s1 ⟨x, H1, I1, r1, q1⟩ => ?_) (he _)
 obtain ⟨d, rfl, q⟩ := q1
 cases r1
 exact wpAny_truthy_bool ⟨H1, I1, q⟩
variable {tA tB' : TT} {rest : List Expr}
def Rb (t u : TT) : TT := fun σ H Q => t σ H fun c H1 => if c = true then u σ H1 Q else Q false H1
def tOr (t u : TT) : TT := fun σ H Q => t σ H fun c H1 => if c = true then Q true H1 else u σ H1 Q
def Rf (t : TT) : TT := fun σ H Q => t σ H fun c H1 => Q (!c) H1
theorem JR (ha : PT X a tA) : PW X (.BoolOp .And [a] pos) tA := by
 intro wh pins s σ H Q I h
 refine isTrue_and (thn (ha pins s σ H Q I h) fun c s1 e => ?_)
 cases c with
 | true => exact isTrue_and_nil e
 | false => exact e
theorem LQ (ha : PT X a tA) : PW X (.BoolOp .Or [a] pos) tA := by
 intro wh pins s σ H Q I h
 refine isTrue_or (thn (ha pins s σ H Q I h) fun c s1 e => ?_)
 cases c with
 | false => exact isTrue_or_nil e
 | true => exact e
theorem LR (ha : PT X a tA) (hb : PW X (.BoolOp .And (b :: rest) pos) tB') : PW X (.BoolOp .And (a :: b :: rest) pos) (Rb tA tB') := by
 intro wh pins s σ H Q I h
 refine isTrue_and (thn (ha pins s σ H _ I h) fun c s1 ⟨H1, I1, q1⟩ => ?_)
 cases c with
 | true => exact hb wh pins s1 σ H1 Q I1 q1
 | false => exact ⟨H1, I1, q1⟩
theorem Py (ha : PT X a tA) (hb : PW X (.BoolOp .Or (b :: rest) pos) tB') : PW X (.BoolOp .Or (a :: b :: rest) pos) (tOr tA tB') := by
 intro wh pins s σ H Q I h
 refine isTrue_or (thn (ha pins s σ H _ I h) fun c s1 ⟨H1, I1, q1⟩ => ?_)
 cases c with
 | true => exact ⟨H1, I1, q1⟩
 | false => exact hb wh pins s1 σ H1 Q I1 q1
theorem L_ (ha : PT X a tA) : PT X (.UnaryOp .Not a pos) (Rf tA) := by
 intro pins s σ H Q I h
 exact isTrue_not (ha pins s σ H (fun c H1 => Q (!c) H1) I h)
def Pz (ta tb : TE) : TE := fun σ H Q => ta σ H fun x H1 => ∃ c, x = .bl c /\ if c = true then tb σ H1 Q else Q (.bl false) H1
def Rg (ta tb : TE) : TE := fun σ H Q => ta σ H fun x H1 => ∃ c, x = .bl c /\ if c = true then Q (.bl true) H1 else tb σ H1 Q
theorem Ma {op} {t : TE} (h : PE X a t) : PE X (.BoolOp op [a] pos) t := fun pins s σ H Q I hw => BoolOp_one (h pins s σ H Q I hw)
theorem Mf (ha : PE X a ta) (hb : PE X (.BoolOp .And (b :: rest) pos) tb) : PE X (.BoolOp .And (a :: b :: rest) pos) (Pz ta tb) := by
 intro pins s σ H Q I h
 refine BoolOp_and (thn (ha pins s σ H _ I h) fun v s1 ⟨x, H1, I1, r1, q1⟩ => ?_)
 obtain ⟨c, rfl, q1⟩ := q1
 cases r1
 refine wpAny_truthy_bool ?_
 cases c with
 | true => exact hb pins s1 σ H1 Q I1 q1
 | false => exact ⟨.bl false, H1, I1, rfl, q1⟩
theorem PB (ha : PE X a ta) (hb : PE X (.BoolOp .Or (b :: rest) pos) tb) : PE X (.BoolOp .Or (a :: b :: rest) pos) (Rg ta tb) := by
 intro pins s σ H Q I h
 refine BoolOp_or (thn (ha pins s σ H _ I h) fun v s1 ⟨x, H1, I1, r1, q1⟩ => ?_)
 obtain ⟨c, rfl, q1⟩ := q1
 cases r1
 refine wpAny_truthy_bool ?_
 cases c with
 | false => exact hb pins s1 σ H1 Q I1 q1
 | true => exact ⟨.bl true, H1, I1, rfl, q1⟩
def tIf (t : TT) (ta tb : TE) : TE := fun σ H Q => t σ H fun c H1 => if c = true then ta σ H1 Q else tb σ H1 Q
theorem Hb {c : Expr} (hc : PT X c tA) (ha : PE X a ta) (hb : PE X b tb) : PE X (.IfExp c a b pos) (tIf tA ta tb) := by
 intro pins s σ H Q I h
 refine wpAny_IfExp (thn (hc pins s σ H _ I h) fun d s1 ⟨H1, I1, q1⟩ => ?_)
 cases d with
 | true => exact ha pins s1 σ H1 Q I1 q1
 | false => exact hb pins s1 σ H1 Q I1 q1
end
end L2
namespace L2
open PySem PySem.Spec PyProof.Rows
def SqL (K : PySem.W.Frag) (H : Hp) (a : Addr) (xs : List V) : Prop :=
 Rd H a (.lst xs) \/
  ∃ (o : Obj) (its : Array Value) (n : Nat), K.lookup a = some o /\ o.cls = .type "list" /\ o.dict = none /\ o.data = .seq its n /\ its.size <= sizeLine /\ Vals xs its.toList
def SqT (K : PySem.W.Frag) (H : Hp) (a : Addr) (xs : List V) : Prop :=
 Rd H a (.tup xs) \/
  ∃ (o : Obj) (its : Array Value) (n : Nat), K.lookup a = some o /\ o.cls = .type "tuple" /\ o.data = .seq its n /\ its.size <= sizeLine /\ Vals xs its.toList
def Rh : Value -> Option V
 | .none => some .non
 | .bool b => some (.bl b)
 | .int i _ => some (.int i)
 | .str x _ => some (.str x)
 | .bytes b _ => some (.byt b)
 | .float b _ => some (.flt b)
 | .ref a => some (.ref a)
 | .type n => some (.ty n)
 | _ => none
theorem RelV.abs {x : V} {u : Value} (r : RelV x u) : Rh u = some x := by
 cases x with
 | non => cases r; rfl
 | bl _ => cases r; rfl
 | int _ => obtain ⟨t, rfl⟩ := r; rfl
 | str _ => obtain ⟨t, rfl⟩ := r; rfl
 | byt _ => obtain ⟨t, rfl⟩ := r; rfl
 | flt _ => obtain ⟨t, rfl⟩ := r; rfl
 | ref _ => cases r; rfl
 | ty _ => cases r; rfl
theorem RelV.inj {x y : V} {u : Value} (r : RelV x u) (q : RelV y u) : x = y := Option.some.inj (r.abs.symm.trans q.abs)
theorem Vals.inj : ∀ {xs ys : List V} {us : List Value}, Vals xs us -> Vals ys us -> xs = ys
 | _, _, _, .nil, .nil => rfl
 | _, _, _, .cons r t, .cons r' t' => by rw [r.inj r', Vals.inj t t']
section
variable {X : Cx} {pins : List (Addr × Obj)} {σ : St} {H : Hp} {s : Shared} {a : Addr} {xs ys : List V}
theorem SqL.of {K : PySem.W.Frag} (h : H a = some (.lst xs)) : SqL K H a xs := .inl (.inl h)
theorem SqT.of {K : PySem.W.Frag} (h : H a = some (.tup xs)) : SqT K H a xs := .inl (.inl h)
theorem Inv.list (I : Inv X pins σ H s) (h : SqL X.K H a xs) : ∃ its : List Value, Vals xs its /\ PlainL s.heap a its.toArray /\ xs.length <= sizeLine := by
 rcases h with h | ⟨o, its, n, hk, hc, hd, hs, hz, r⟩
 ·obtain ⟨z, its, n, r, e⟩ := h.ok I.hok
  exact ⟨its, r, ⟨_, n, e, rfl, rfl, rfl⟩, z⟩
 ·refine ⟨its.toList, r, ⟨o, n, I.kIn a o hk, hc, hd, by simpa using hs⟩, ?_⟩
  have e := r.length
  simp only [Array.length_toList] at e
  omega
theorem Inv.tuple (I : Inv X pins σ H s) (h : SqT X.K H a xs) : ∃ its : List Value, Vals xs its /\ IsTup s.heap a its.toArray /\ xs.length <= sizeLine := by
 rcases h with h | ⟨o, its, n, hk, hc, hs, hz, r⟩
 ·obtain ⟨z, its, r, p⟩ := h.ok I.hok
  exact ⟨its, r, p, z⟩
 ·refine ⟨its.toList, r, ⟨o, I.kIn a o hk, hc, n, by simpa using hs⟩, ?_⟩
  have e := r.length
  simp only [Array.length_toList] at e
  omega
theorem Inv.list_inj (I : Inv X pins σ H s) (h : SqL X.K H a xs) (h' : SqL X.K H a ys) : xs = ys := by
 obtain ⟨its, r, ⟨o, n, e, _, _, d⟩, _⟩ := I.list h
 obtain ⟨its', r', ⟨o', n', e', _, _, d'⟩, _⟩ := I.list h'
 rw [e] at e'; cases e'
 rw [d] at d'
 injection d' with d1 _
 have : its = its' := by simpa using congrArg Array.toList d1
 subst this
 exact r.inj r'
theorem Inv.tuple_inj (I : Inv X pins σ H s) (h : SqT X.K H a xs) (h' : SqT X.K H a ys) : xs = ys := by
 obtain ⟨its, r, ⟨o, e, _, n, d⟩, _⟩ := I.tuple h
 obtain ⟨its', r', ⟨o', e', _, n', d'⟩, _⟩ := I.tuple h'
 rw [e] at e'; cases e'
 rw [d] at d'
 injection d' with d1 _
 have : its = its' := by simpa using congrArg Array.toList d1
 subst this
 exact r.inj r'
end
abbrev Cx.wish (X : Cx) (E : Value -> Shared -> Prop) : Cx := { X with xe := E }
abbrev Cx.nox (X : Cx) : Cx := X.wish fun _ _ => False
theorem Cx.Ok.wish {X : Cx} (ok : X.Ok) (E : Value -> Shared -> Prop) : (X.wish E).Ok :=
 ⟨ok.mod, ok.kind, ok.glob, ok.blt, ok.above, ok.inj, ok.has, ok.cab, ok.hd, ok.frames, ok.stk, ok.exf, ok.bs, ok.bsz, ok.noex, ok.exfs, ok.funs, ok.frf⟩
theorem Cx.Ok.unwish {X : Cx} {E : Value -> Shared -> Prop} (ok : (X.wish E).Ok) : X.Ok :=
 ⟨ok.mod, ok.kind, ok.glob, ok.blt, ok.above, ok.inj, ok.has, ok.cab, ok.hd, ok.frames, ok.stk, ok.exf, ok.bs, ok.bsz, ok.noex, ok.exfs, ok.funs, ok.frf⟩
section
variable {X : Cx} {pins : List (Addr × Obj)} {σ : St} {H : Hp} {s : Shared} {E : Value -> Shared -> Prop}
theorem Inv.wish (I : Inv X pins σ H s) (E : Value -> Shared -> Prop) : Inv (X.wish E) pins σ H s := ⟨I.ok.wish E, I.os, I.bare, I.base, I.loc, I.cell, I.free, I.freeC, I.pin, I.hok, I.len⟩
theorem Inv.unwish (I : Inv (X.wish E) pins σ H s) : Inv X pins σ H s := ⟨I.ok.unwish, I.os, I.bare, I.base, I.loc, I.cell, I.free, I.freeC, I.pin, I.hok, I.len⟩
theorem SP.unwish {D : Ends} {f : Flow} {s' : Shared} (h : SP (X.wish E) pins D f s') : SP X pins D f s' := by
 cases f with
 | next => obtain ⟨σ', H', I, q⟩ := h; exact ⟨σ', H', I.unwish, q⟩
 | brk => obtain ⟨σ', H', I, q⟩ := h; exact ⟨σ', H', I.unwish, q⟩
 | cont => obtain ⟨σ', H', I, q⟩ := h; exact ⟨σ', H', I.unwish, q⟩
 | ret u => obtain ⟨v, σ', H', I, r, q⟩ := h; exact ⟨v, σ', H', I.unwish, r, q⟩
theorem PE.nox {e : Expr} {t : TE} (h : PE X.nox e t) : PE X e t := fun pins s σ H Q I hw =>
 wpAny_mono (h pins s σ H Q (I.wish _) hw) (fun _ _ ⟨v, H', I', r, q⟩ => ⟨v, H', I'.unwish, r, q⟩) fun _ _ z => False.elim z
theorem PT.nox {e : Expr} {t : TT} (h : PT X.nox e t) : PT X e t := fun pins s σ H Q I hw =>
 wpAny_mono (h pins s σ H Q (I.wish _) hw) (fun _ _ ⟨H', I', q⟩ => ⟨H', I'.unwish, q⟩) fun _ _ z => False.elim z
theorem PSs.nox {st : List Stmt} {t : TS} (h : PSs X.nox st t) : PSs X st t := fun pins s σ H D I hw =>
 wpAny_mono (h pins s σ H D (I.wish _) hw) (fun _ _ q => q.unwish) fun _ _ z => False.elim z
end
section
variable {X : Cx} {st : Stmt} {rest : List Stmt} {t u : TS} {e : Expr} {te : TE} {pos : Pos}
def PJ : TS := fun D σ H => D.nx σ H
def Ri (t u : TS) : TS := fun D σ H => t { D with nx := u D } σ H
theorem BV : PSs X [] PJ := fun _ _ σ H _ I h => wpAny_execs_nil ⟨σ, H, I, h⟩
theorem nM (h1 : PS X st t) (h2 : PSs X rest u) : PSs X (st :: rest) (Ri t u) := by
 intro pins s σ H D I h
 refine wpAny_execs_cons (thn (h1 pins s σ H { D with nx := u D } I h) fun f s1 q => ?_)
 cases f with
 | next =>
  obtain ⟨σ', H', I', q⟩ := q
  exact h2 pins s1 σ' H' D I' q
 | ret v => exact q
 | brk => exact q
 | cont => exact q
theorem wI (h1 : PS X st t) : PSs X [st] t := by
 intro pins s σ H D I h
 refine wpAny_execs_cons (thn (h1 pins s σ H D I h) fun f s1 q => ?_)
 cases f with
 | next => exact wpAny_execs_nil q
 | ret v => exact q
 | brk => exact q
 | cont => exact q
theorem Inv.quiet {pins : List (Addr × Obj)} {σ : St} {H : Hp} {s : Shared} (I : Inv X pins σ H s) : interactive X.env = false := by simp [interactive, I.ok.kind]
def PL (te : TE) : TS := fun D σ H => te σ H fun _ H1 => D.nx σ H1
theorem wJ (he : PE X e te) (hs : swapsWith e none pos.line X.env = pure false := by rfl) : PS X (.Expr e pos) (PL te) := by
 intro pins s σ H D I h
 exact wpAny_Expr_any (thn (he pins s σ H _ I h) fun v s1 ⟨x, H1, I1, r1, q1⟩ => ⟨σ, H1, I1, q1⟩) I.quiet hs
def Rj (te : TE) : TS := fun D σ H => te σ H D.rt
theorem zp (he : PE X e te) : PS X (.Return (some e) pos) (Rj te) := by
 intro pins s σ H D I h
 exact wpAny_Return_some (thn (he pins s σ H _ I h) fun v s1 ⟨x, H1, I1, r1, q1⟩ => ⟨x, σ, H1, I1, r1, q1⟩)
def Rk (c : TT) (t u : TS) : TS := fun D σ H => c σ H fun b H1 => if b = true then t D σ H1 else u D σ H1
theorem Jp {c : Expr} {a b : List Stmt} {tc : TT} (hc : PT X c tc) (ha : PSs X a t) (hb : PSs X b u) : PS X (.If c a b pos) (Rk tc t u) := by
 intro pins s σ H D I h
 refine wpAny_If (thn (hc pins s σ H _ I h) fun d s1 ⟨H1, I1, q1⟩ => ?_)
 cases d with
 | true => exact ha pins s1 σ H1 D I1 q1
 | false => exact hb pins s1 σ H1 D I1 q1
def Mg : TS := fun _ _ _ => False
theorem Hc : PS X st Mg := fun _ _ _ _ _ _ h => h.elim
end
abbrev TG := V -> St -> Hp -> (St -> Hp -> Prop) -> Prop
abbrev TGs := List V -> St -> Hp -> (St -> Hp -> Prop) -> Prop
def PG (X : Cx) (target : Expr) (t : TG) : Prop :=
 ∀ (pins : List (Addr × Obj)) (s : Shared) (σ : St) (H : Hp) (v : V) (u : Value) (Q : St -> Hp -> Prop), Inv X pins σ H s -> RelV v u -> t v σ H Q ->
  wpAny (model X.prog X.w) X.A (assign target X.env u) (fun _ s' => ∃ σ' H', Inv X pins σ' H' s' /\ Q σ' H') X.xe s
def PGs (X : Cx) (ts : List Expr) (t : TGs) : Prop :=
 ∀ (pins : List (Addr × Obj)) (s : Shared) (σ : St) (H : Hp) (vs : List V) (us : List Value) (Q : St -> Hp -> Prop), Inv X pins σ H s -> Vals vs us -> t vs σ H Q ->
  wpAny (model X.prog X.w) X.A (assignInOrder ((assignEach ts X.env).map (·.2)) us) (fun _ s' => ∃ σ' H', Inv X pins σ' H' s' /\ Q σ' H') X.xe s
abbrev Hd := V -> V -> V -> Hp -> (Hp -> Prop) -> Prop
def Mh (X : Cx) (t : Hd) : Prop :=
 ∀ (pins : List (Addr × Obj)) (s : Shared) (σ : St) (H : Hp) (o i v : V) (ov iv u : Value) (Q : Hp -> Prop), Inv X pins σ H s -> RelV o ov -> RelV i iv -> RelV v u -> t o i v H Q ->
  wpAny (model X.prog X.w) X.A (setItem ov iv u) (fun _ s' => ∃ H', Inv X pins σ H' s' /\ Q H') X.xe s
section
variable {X : Cx} {pos : Pos}
def ul (i : Nat) : TG := fun v σ H Q => Q (σ.set i (some v)) H
theorem wK {i : Nat} {x : Str} (hN : X.N.Nodup) (hi : X.N[i]? = some x) (hx : Loc X.env.scope x) (hf : X.fn x = true \/ X.env.scope.names.lookup x = some .local := by first | exact .inl rfl | exact .inr rfl | assumption) : PG X (.Name x pos) (ul i) := by
 intro pins s σ H v u Q I r h
 exact wpAny_assign_Name (zm I hN hi hx r (fun s' I' => ⟨_, H, I', h⟩) hf)
def Mi : TGs := fun vs σ H Q => vs = [] /\ Q σ H
def Jq (t : TG) (u : TGs) : TGs := fun vs σ H Q => ∃ v r, vs = v :: r /\ t v σ H fun σ' H' => u r σ' H' Q
theorem mz : PGs X [] Mi := by
 intro pins s σ H vs us Q I r h
 obtain ⟨e, h⟩ := h
 subst e
 cases r
 exact assignInOrder_nil ⟨σ, H, I, h⟩
theorem dq {e : Expr} {es : List Expr} {t : TG} {u : TGs} (h1 : PG X e t) (h2 : PGs X es u)
  (hs : (assignEach (e :: es) X.env).map (·.2) = assign e X.env :: (assignEach es X.env).map (·.2) := by rfl) : PGs X (e :: es) (Jq t u) := by
 intro pins s σ H vs us Q I r h
 obtain ⟨v, vr, e1, h⟩ := h
 subst e1
 cases r with
 | cons r rr =>
  rw [hs]
  refine assignInOrder_cons (thn (h1 pins s σ H _ _ _ I r h) fun _ s1 ⟨σ1, H1, I1, q1⟩ => ?_)
  exact h2 pins s1 σ1 H1 _ _ Q I1 rr q1
def Mj (K : PySem.W.Frag) (n : Nat) (t : TGs) : TG := fun v σ H Q => ∃ a xs, v = .ref a /\ SqT K H a xs /\ xs.length = n /\ t xs σ H Q
theorem oU {es : List Expr} {k : Nat} {t : TGs} {n : Nat} (hc : X.calm = true) (h : PGs X es t)
  (hn : (assignEach es X.env).length = n := by rfl) (hst : (assignEach es X.env).findIdx? (·.1) = none := by rfl) : PG X (.Tuple es k pos) (Mj X.K n t) := by
 intro pins s σ H v u Q I r hw
 obtain ⟨a, xs, e1, hq, hl, hw⟩ := hw
 subst e1
 cases r
 obtain ⟨its, rv, ht, hz⟩ := I.tuple hq
 refine assign_Tuple_tuple (I.ok.hd hc) ht (by simp [hn, ← hl, rv.length]) hst fun h' hx => ?_
 have I1 : Inv X pins σ H { s with heap := h' } := I.kept (t' := s.toks) fun b o e => hx b o (Nat.ne_of_lt (Heap.lt_size e)) e
 exact h pins _ σ H xs _ Q I1 (by simpa using rv) hw
def Rm (to ti : TE) (t : Hd) : TG := fun v σ H Q => to σ H fun o H1 => ti σ H1 fun i H2 => t o i v H2 fun H3 => Q σ H3
theorem Ml {o i : Expr} {to ti : TE} {t : Hd} (ho : PE X o to) (hi : PE X i ti) (hs : Mh X t)
  (ha : ∀ v, assign (.Subscript o i pos) X.env v = (do
   let ov ← holding [v] (eval o X.env)
   let iv ← holding [v, ov] (eval i X.env)
   standAt pos
   holding [v, ov, iv] (setItem ov iv v)
   release [v, ov, iv] []) := by intro _; rfl) : PG X (.Subscript o i pos) (Rm to ti t) := by
 intro pins s σ H v u Q I r h
 rw [ha]
 refine wpAny_bind (wpAny_holding (thn (ho pins s σ H _ I h) fun ov s1 ⟨x, H1, I1, r1, q1⟩ => ?_))
 refine wpAny_bind (wpAny_holding (thn (hi pins s1 σ H1 _ I1 q1) fun iv s2 ⟨y, H2, I2, r2, q2⟩ => ?_))
 refine wpAny_bind (wpAny_standAt (wpAny_bind (wpAny_holding (thn (hs pins s2 σ H2 x y v ov iv u _ I2 r1 r2 r q2) fun _ s3 ⟨H3, I3, q3⟩ => ?_))))
 exact wpAny_release ⟨σ, H3, I3, q3⟩
def Hf (te : TE) (g : TG) : TS := fun D σ H => te σ H fun x H1 => g x σ H1 D.nx
theorem Mm {tg e : Expr} {te : TE} {g : TG} (he : PE X e te) (hg : PG X tg g) (hs : swapsWithSole [tg] e pos.line X.env = pure false := by rfl) (hw : swappedStores [tg] e X.env = pure none := by rfl)
  (h1 : (assignEach [tg] X.env).map (·.2) = [assign tg X.env] := by rfl) : PS X (.Assign [tg] e pos) (Hf te g) := by
 intro pins s σ H D I h
 refine wpAny_Assign_stores (thn (he pins s σ H _ I h) fun v s1 ⟨x, H1, I1, r1, q1⟩ => ?_) hs hw
 rw [h1]
 exact thn (hg pins s1 σ H1 x v _ I1 r1 q1) fun _ s2 q => q
theorem zq {i : Nat} {x : Str} {e : Expr} {te : TE} {pos' : Pos} (hN : X.N.Nodup) (hi : X.N[i]? = some x) (hx : Loc X.env.scope x) (he : PE X e te) (hs : swapsWith e (some (.Name x pos')) pos.line X.env = pure false := by rfl) (hf : X.fn x = true \/ X.env.scope.names.lookup x = some .local := by first | exact .inl rfl | exact .inr rfl | assumption) :
  PS X (.Assign [.Name x pos'] e pos) (Hf te (ul i)) := by
 intro pins s σ H D I h
 refine wpAny_Assign_Name (thn (he pins s σ H _ I h) fun v s1 ⟨y, H1, I1, r1, q1⟩ => ?_) hs
 exact zm I1 hN hi hx r1 (fun s2 I2 => ⟨_, H1, I2, q1⟩) hf
end
section
variable {X : Cx} {pos : Pos}
def Mp (c : TT) (tb : TS) : TS := fun D σ H => ∃ W : Nat -> St -> Hp -> Prop, (∃ m, W m σ H) /\ ∀ m σ H, W m σ H ->
 c σ H fun b H1 => if b = true then ∃ N : St -> Hp -> Prop, (∀ σ' H', N σ' H' -> ∃ m', m' < m /\ W m' σ' H') /\ tb { D with nx := N, ct := N, bk := D.nx } σ H1 else D.nx σ H1
theorem Hg {c : Expr} {body : List Stmt} {tc : TT} {tb : TS} (hp : PassesOwn (model X.prog X.w) X.A X.env X.xe) (hc : PT X c tc) (hb : PSs X body tb) : PS X (.While c body [] pos) (Mp tc tb) := by
 intro pins s σ H D I h
 obtain ⟨W, ⟨m0, w0⟩, turn⟩ := h
 refine wpAny_While (codeAny_whileLoop (fun n s' => ∃ σ' H', Inv X pins σ' H' s' /\ W n σ' H') ?_ m0 ⟨σ, H, I, w0⟩)
 rintro n s1 ⟨σ1, H1, I1, w1⟩
 refine wpAny_passesOwn hp (thn (hc pins s1 σ1 H1 _ I1 (turn n σ1 H1 w1)) fun b s2 ⟨H2, I2, q2⟩ => ?_)
 cases b with
 | true =>
  obtain ⟨N, hN, q2⟩ := q2
  rw [if_pos rfl]
  refine wpAny_passesOwn hp (thn (hb pins s2 σ1 H2 _ I2 q2) fun f s3 q3 => ?_)
  cases f with
  | next =>
   obtain ⟨σ3, H3, I3, n3⟩ := q3
   obtain ⟨m', hm, w3⟩ := hN σ3 H3 n3
   exact ⟨m', hm, σ3, H3, I3, w3⟩
  | cont =>
   obtain ⟨σ3, H3, I3, n3⟩ := q3
   obtain ⟨m', hm, w3⟩ := hN σ3 H3 n3
   exact ⟨m', hm, σ3, H3, I3, w3⟩
  | brk => exact q3
  | ret v => exact q3
 | false =>
  rw [if_neg Bool.false_ne_true]
  exact wpAny_execs_nil ⟨σ1, H2, I2, q2⟩
end
structure It where
 go : Nat -> Hp -> Prop
 yld : Nat -> Hp -> V -> Hp -> Prop
 stop : Nat -> Hp -> Prop
def nO (X : Cx) (pins : List (Addr × Obj)) (H : Hp) (b : Addr) : Prop :=
 H b = none /\ b ≠ X.env.locals /\ b ∉ X.fs /\ (b ∈ X.ex \/ X.s₀.heap.objs.size <= b) /\ (∀ x c, X.env.cells.lookup x = some c -> c ≠ b) /\ ∀ p ∈ X.pn ++ pins, p.1 ≠ b
theorem Inv.fpOk {X : Cx} {pins : List (Addr × Obj)} {σ : St} {H H' : Hp} {s : Shared} {b : Addr} (I : Inv X pins σ H s) (hb : s.heap.objs.size <= b) (hn : H' b = none) : nO X pins H' b := by
 refine ⟨hn, Nat.ne_of_gt (Nat.lt_of_lt_of_le I.lt hb), I.nofs hb, .inr (Nat.le_trans I.sz hb), fun x c e z => ?_, fun p hp z => ?_⟩
 ·obtain ⟨v, q⟩ := I.cell x c e
  exact absurd (Nat.lt_of_lt_of_le q.lt (by rw [z]; exact hb)) (Nat.lt_irrefl _)
 ·exact absurd (Nat.lt_of_lt_of_le (Heap.lt_size (I.pin p hp).1) (by rw [z]; exact hb)) (Nat.lt_irrefl _)
structure Turn (P : Program) (w : World) (K : PySem.W.Frag) (tg : Expr) (J : It) (fp : List Addr) (it : Addr) (tn : Nat -> Heap -> Prop) : Prop where
 mem : it ∈ fp
 obj : ∀ i h, tn i h -> ∀ b ∈ fp, ∃ o, h.get? b = some o /\ ∀ v, o.data ≠ .cell v
 keep : ∀ i h h', tn i h -> (∀ b ∈ fp, ∀ o, h.get? b = some o -> h'.get? b = some o) -> tn i h'
 item : ∀ (X : Cx), X.prog = P -> X.w = w -> X.K = K -> X.calm = true -> ∀ (i : Nat) (pins : List (Addr × Obj)) (s : Shared) (σ : St) (H : Hp) (E : Value -> Shared -> Prop), Inv X pins σ H s -> (∀ b ∈ fp, nO X pins H b) -> tn i s.heap -> J.go i H ->
  wpAny (model P w) X.A (pyNext (.ref it)) (fun r s1 => ∃ u, r = some u /\
   wpAny (model P w) X.A (letOwnedTupleGo tg (.ref it) u) (fun _ s2 => ∃ x H', Inv X pins σ H' s2 /\ RelV x u /\ J.yld i H x H' /\ tn (i + 1) s2.heap /\ ∀ b ∈ fp, H' b = none) E s1) E s
 done : ∀ (X : Cx), X.prog = P -> X.w = w -> X.K = K -> X.calm = true -> ∀ (i : Nat) (pins : List (Addr × Obj)) (s : Shared) (σ : St) (H : Hp) (E : Value -> Shared -> Prop), Inv X pins σ H s -> (∀ b ∈ fp, nO X pins H b) -> tn i s.heap -> J.stop i H ->
  wpAny (model P w) X.A (pyNext (.ref it)) (fun r s1 => r = none /\ Inv X pins σ H s1) E s
 self : ∀ (A : Around) (i : Nat) (s : Shared) (Q : Value -> Shared -> Prop) (E : Value -> Shared -> Prop), tn i s.heap -> Q (.ref it) s -> wpAny (model P w) A (pyIter (.ref it)) Q E s
abbrev TI := St -> Hp -> (It -> Hp -> Prop) -> Prop
def PIE (X : Cx) (pins : List (Addr × Obj)) (σ : St) (tg : Expr) (R : It -> Hp -> Prop) (itv : Value) (s2 : Shared) : Prop :=
 ∃ (it : Addr) (fp : List Addr) (tn : Nat -> Heap -> Prop) (J : It) (H' : Hp), itv = .ref it /\ Inv X pins σ H' s2 /\ Turn X.prog X.w X.K tg J fp it tn /\ tn 0 s2.heap /\ (∀ b ∈ fp, nO X pins H' b) /\ R J H'
def PI (X : Cx) (tg iter : Expr) (wi : TI) : Prop :=
 ∀ (pins : List (Addr × Obj)) (s : Shared) (σ : St) (H : Hp) (R : It -> Hp -> Prop), Inv X pins σ H s -> wi σ H R ->
  wpAny (model X.prog X.w) X.A (eval iter X.env) (fun v s1 => wpAny (model X.prog X.w) X.A (pyIter v) (PIE X pins σ tg R) X.xe s1) X.xe s
theorem yR {M : Model} {A : Around} {E : Value -> Shared -> Prop} {s : Shared} {tg : Expr} {it : Addr} {u : Value} {o : Obj} {n : String} {vs : Array Value} {Q : Unit -> Shared -> Prop} (ho : s.heap.get? it = some o) (hc : o.cls = .type n) (hd : o.data = .fields vs)
    (hn : ["enumerate", "zip", "dict_itemiterator", "dict_reverseitemiterator", "odict_iterator", "itertools.zip_longest", "itertools.pairwise"].contains n = false) (hQ : Q () s) : wpAny M A (letOwnedTupleGo tg (.ref it) u) Q E s := by
  unfold letOwnedTupleGo
  cases tg <;> first
    | exact wpAny_pure hQ
    | (cases u <;> first
        | exact wpAny_pure hQ
        | (refine wpAny_bind (wpAny_load ho ?_)
           rw [hc, hd]
           show wpAny M A (if (["enumerate", "zip", "dict_itemiterator", "dict_reverseitemiterator", "odict_iterator", "itertools.zip_longest", "itertools.pairwise"].contains n && vs[0]? == some (rawInt _)) = true then _ else _) Q E s
           rw [if_neg (by intro h; rw [hn, Bool.false_and] at h; cases h)]
           exact wpAny_pure hQ))
def Itl (K : PySem.W.Frag) (a : Addr) : It :=
 ⟨fun i H => ∃ xs x, SqL K H a xs /\ xs[i]? = some x, fun i H x H' => H' = H /\ ∀ xs, SqL K H a xs -> xs[i]? = some x, fun i H => ∃ xs, SqL K H a xs /\ xs.length <= i⟩
def Itt (K : PySem.W.Frag) (a : Addr) : It :=
 ⟨fun i H => ∃ xs x, SqT K H a xs /\ xs[i]? = some x, fun i H x H' => H' = H /\ ∀ xs, SqT K H a xs -> xs[i]? = some x, fun i H => ∃ xs, SqT K H a xs /\ xs.length <= i⟩
def Itr (lo : Int) (n : Nat) : It := ⟨fun i _ => i < n, fun i H x H' => H' = H /\ x = .int (lo + i), fun i _ => n <= i⟩
theorem Ew {P : Program} {w : World} {K : PySem.W.Frag} {tg : Expr} (a it : Addr) : Turn P w K tg (Itl K a) [it] it (fun i h => h.IsListIter it a i) where
 mem := by simp
 obj := fun i h st b hb => by
  have e : b = it := by simpa using hb
  subst e
  obtain ⟨o, e, c, d⟩ := st
  exact ⟨o, e, fun v z => by rw [d] at z; cases z⟩
 keep := fun i h h' st k => st.at fun o e => k it (by simp) o e
 item := by
  intro X hP hw hK hc i pins s σ H E I hf st hg
  subst hP hw hK
  obtain ⟨xs, x, hq, hx⟩ := hg
  obtain ⟨its, rv, p, hz⟩ := I.list hq
  obtain ⟨u, hu, ru⟩ := rv.get hx
  obtain ⟨f0, f1, f2, f3, f4, f5⟩ := hf it (by simp)
  refine wpAny_pyNext_list_item st p.isList (x := u) (by simpa using hu) fun h' st' sb => ?_
  have I1 : Inv X pins σ H { s with heap := h' } := I.turned (t' := s.toks) (fun b o hb e => (sb.2 b hb).trans e) f0 f1 f3 f4 f5
  obtain ⟨o, e, c, d⟩ := id st'
  exact ⟨u, rfl, yR (s := { s with heap := h' }) e c d (by decide) ⟨x, H, I1, ru, ⟨rfl, fun ys hy => by rw [I.list_inj hy hq]; exact hx⟩, st', fun b hb => (hf b hb).1⟩⟩
 done := by
  intro X hP hw hK hc i pins s σ H E I hf st hg
  subst hP hw hK
  obtain ⟨xs, hq, hx⟩ := hg
  obtain ⟨its, rv, p, hz⟩ := I.list hq
  obtain ⟨f0, f1, f2, f3, f4, f5⟩ := hf it (by simp)
  have hl := rv.length
  exact wpAny_pyNext_list_end (I.ok.hd hc) st p.isList (by simp; omega) fun h' eb => ⟨rfl, I.turned (t' := s.toks) (fun b o hb e => eb b o hb e) f0 f1 f3 f4 f5⟩
 self := fun _ _ _ _ _ st h => wpAny_pyIter_listiter st h
theorem Dd {P : Program} {w : World} {K : PySem.W.Frag} {tg : Expr} (a it : Addr) : Turn P w K tg (Itt K a) [it] it (fun i h => h.IsTupleIter it a i) where
 mem := by simp
 obj := fun i h st b hb => by
  have e : b = it := by simpa using hb
  subst e
  obtain ⟨o, e, c, d⟩ := st
  exact ⟨o, e, fun v z => by rw [d] at z; cases z⟩
 keep := fun i h h' st k => st.at fun o e => k it (by simp) o e
 item := by
  intro X hP hw hK hc i pins s σ H E I hf st hg
  subst hP hw hK
  obtain ⟨xs, x, hq, hx⟩ := hg
  obtain ⟨its, rv, p, hz⟩ := I.tuple hq
  obtain ⟨u, hu, ru⟩ := rv.get hx
  obtain ⟨f0, f1, f2, f3, f4, f5⟩ := hf it (by simp)
  refine wpAny_pyNext_tuple_item st (show s.heap.IsTuple a its.toArray from p) (x := u) (by simpa using hu) fun h' st' sb => ?_
  have I1 : Inv X pins σ H { s with heap := h' } := I.turned (t' := s.toks) (fun b o hb e => (sb.2 b hb).trans e) f0 f1 f3 f4 f5
  obtain ⟨o, e, c, d⟩ := id st'
  exact ⟨u, rfl, yR (s := { s with heap := h' }) e c d (by decide) ⟨x, H, I1, ru, ⟨rfl, fun ys hy => by rw [I.tuple_inj hy hq]; exact hx⟩, st', fun b hb => (hf b hb).1⟩⟩
 done := by
  intro X hP hw hK hc i pins s σ H E I hf st hg
  subst hP hw hK
  obtain ⟨xs, hq, hx⟩ := hg
  obtain ⟨its, rv, p, hz⟩ := I.tuple hq
  obtain ⟨f0, f1, f2, f3, f4, f5⟩ := hf it (by simp)
  have hl := rv.length
  exact wpAny_pyNext_tuple_end (I.ok.hd hc) st (show s.heap.IsTuple a its.toArray from p) (by simp; omega) fun h' eb => ⟨rfl, I.turned (t' := s.toks) (fun b o hb e => eb b o hb e) f0 f1 f3 f4 f5⟩
 self := fun _ _ _ _ _ st h => wpAny_pyIter_tupleiter st h
theorem De {P : Program} {w : World} {K : PySem.W.Frag} {tg : Expr} (it : Addr) (lo : Int) (n : Nat) : Turn P w K tg (Itr lo n) [it] it (fun i h => IsRangeIter h it (lo + (i : Nat) * 1) ((n : Int) - (i : Nat)) 1) where
 mem := by simp
 obj := fun i h st b hb => by
  have e : b = it := by simpa using hb
  subst e
  exact ⟨_, st, fun v z => by
   have z' : Data.fields _ = Data.cell v := z
   cases z'⟩
 keep := fun i h h' st k => k it (by simp) _ st
 item := by
  intro X hP hw hK hc i pins s σ H E I hf st hg
  subst hP hw hK
  obtain ⟨f0, f1, f2, f3, f4, f5⟩ := hf it (by simp)
  have W := Walks.range (prog := X.prog) (w := X.w) (I.ok.hd hc) it lo 1 n
  refine W.item i s _ _ hg st fun v h' tk hv st' kk => ?_
  obtain ⟨t, rfl⟩ := hv
  have I1 : Inv X pins σ H { s with heap := h', toks := tk } := I.turned (fun b o hb e => kk b o (by simpa using hb) e) f0 f1 f3 f4 f5
  refine ⟨_, rfl, yR (s := { s with heap := h', toks := tk }) (n := "range_iterator") st' rfl rfl (by decide) ⟨.int (lo + i), H, I1, ⟨t, ?_⟩, ⟨rfl, rfl⟩, st', fun b hb => (hf b hb).1⟩⟩
  rw [Int.mul_one]
 done := by
  intro X hP hw hK hc i pins s σ H E I hf st hg
  subst hP hw hK
  obtain ⟨f0, f1, f2, f3, f4, f5⟩ := hf it (by simp)
  exact wpAny_pyNext_range_end (I.ok.hd hc) st (by have : n <= i := hg; omega) fun h' eb => ⟨rfl, I.turned (t' := s.toks) (fun b o hb e => eb b o hb e) f0 f1 f3 f4 f5⟩
 self := fun _ _ _ _ _ st h => wpAny_pyIter_rangeiter st h
end L2
namespace L2
open PySem PySem.Spec PyProof.Rows
section
variable {X : Cx} {tg : Expr}
def PN (K : PySem.W.Frag) (tl : TE) : TI := fun σ H R => tl σ H fun x H1 => ∃ a, x = .ref a /\ (∃ xs, SqL K H1 a xs) /\ R (Itl K a) H1
def Rn (K : PySem.W.Frag) (tl : TE) : TI := fun σ H R => tl σ H fun x H1 => ∃ a, x = .ref a /\ (∃ xs, SqT K H1 a xs) /\ R (Itt K a) H1
theorem JS {l : Expr} {tl : TE} (hl : PE X l tl) : PI X tg l (PN X.K tl) := by
 intro pins s σ H R I h
 refine thn (hl pins s σ H _ I h) fun v s1 ⟨x, H1, I1, r1, q1⟩ => ?_
 obtain ⟨a, e, ⟨xs, hq⟩, q⟩ := q1
 subst e
 cases r1
 obtain ⟨its, rv, p, hz⟩ := I1.list hq
 refine wpAny_pyIter_list p.isList ?_
 refine ⟨s1.heap.objs.size, [s1.heap.objs.size], _, _, H1, rfl, I1.kept (t' := s1.toks) fun b o e => Heap.get?_push_of_some _ e, Ew a _, ⟨_, Heap.get?_push_size _ rfl, rfl, rfl⟩, fun b hb => ?_, q⟩
 have e : b = s1.heap.objs.size := by simpa using hb
 subst e
 exact I1.fpOk (Nat.le_refl _) (I1.hok.fresh (Nat.le_refl _))
theorem Mq {l : Expr} {tl : TE} (hl : PE X l tl) : PI X tg l (Rn X.K tl) := by
 intro pins s σ H R I h
 refine thn (hl pins s σ H _ I h) fun v s1 ⟨x, H1, I1, r1, q1⟩ => ?_
 obtain ⟨a, e, ⟨xs, hq⟩, q⟩ := q1
 subst e
 cases r1
 obtain ⟨its, rv, p, hz⟩ := I1.tuple hq
 refine wpAny_pyIter_tuple (show s1.heap.IsTuple a its.toArray from p) ?_
 refine ⟨s1.heap.objs.size, [s1.heap.objs.size], _, _, H1, rfl, I1.kept (t' := s1.toks) fun b o e => Heap.get?_push_of_some _ e, Dd a _, ⟨_, Heap.get?_push_size _ rfl, rfl, rfl⟩, fun b hb => ?_, q⟩
 have e : b = s1.heap.objs.size := by simpa using hb
 subst e
 exact I1.fpOk (Nat.le_refl _) (I1.hok.fresh (Nat.le_refl _))
theorem Hh {pins : List (Addr × Obj)} {σ : St} {H : Hp} {s : Shared} {R : It -> Hp -> Prop} {E : Value -> Shared -> Prop} {lo hi : Int} {t u v : Tok} {tk : Nat} (I : Inv X pins σ H s) (h1 : -(2 ^ 62) <= lo) (h2 : lo < 2 ^ 62) (h3 : -(2 ^ 62) <= hi) (h4 : hi < 2 ^ 62)
  (q : R (Itr lo (hi - lo).toNat) H) : wpAny (model X.prog X.w) X.A (pyIter (.ref s.heap.objs.size)) (PIE X pins σ tg R) E { s with heap := s.heap.push { cls := .type "range", data := .fields #[.int lo t, .int hi u, .int 1 v] }, toks := tk } := by
 refine wpAny_pyIter_range (IsRange.new ..) (small_one h1 h2 h3 h4) ?_
 have I1 : Inv X pins σ H { s with heap := s.heap.push { cls := .type "range", data := .fields #[.int lo t, .int hi u, .int 1 v] }, toks := tk } := I.kept fun b o e => Heap.get?_push_of_some _ e
 refine ⟨(s.heap.push { cls := .type "range", data := .fields #[.int lo t, .int hi u, .int 1 v] }).objs.size, [(s.heap.push { cls := .type "range", data := .fields #[.int lo t, .int hi u, .int 1 v] }).objs.size], _, _, H, rfl,
  I1.kept (t' := tk) fun b o e => Heap.get?_push_of_some _ e, De _ lo (hi - lo).toNat, ?_, fun b hb => ?_, q⟩
 ·have e1 : lo + ((0 : Nat) : Int) * 1 = lo := by simp
  have e2 : (((hi - lo).toNat : Nat) : Int) - ((0 : Nat) : Int) = Builtin.Range.rangeSize lo hi 1 := by rw [rangeSize_one]; split <;> omega
  show IsRangeIter _ _ (lo + ((0 : Nat) : Int) * 1) ((((hi - lo).toNat : Nat) : Int) - ((0 : Nat) : Int)) 1
  rw [e1, e2]
  exact Heap.get?_push_size _ rfl
 ·have e : b = (s.heap.push { cls := .type "range", data := .fields #[.int lo t, .int hi u, .int 1 v] }).objs.size := by simpa using hb
  subst e
  exact I1.fpOk (Nat.le_refl _) (I1.hok.fresh (Nat.le_refl _))
def PP (ta : TA) : TI := fun σ H R => ta σ H fun vs H1 => ∃ j : Int, vs = [.int j] /\ -(2 ^ 62) <= j /\ j < 2 ^ 62 /\ R (Itr 0 j.toNat) H1
theorem Ey {a : Expr} {ta : TA} {p pos : Pos} (hg : Gl X "range") (hm : X.mg "range" = none) (ha : PA X [a] ta) (hs : starEach [a] X.env = [(false, eval a X.env)] := by rfl) : PI X tg (.Call (.Name "range" p) [a] [] pos) (PP ta) := by
 intro pins s σ H R I h
 refine Call_ (qI I hg hm boot_range (PyProof.Rows.callWith_type1 (thn (ha pos pins s σ H _ I h) fun us s1 ⟨vs, H1, I1, r1, q1⟩ => ?_) hs rfl))
 obtain ⟨j, e, q1, q2, q⟩ := q1
 subst e
 cases r1 with
 | cons r rr =>
  cases rr
  obtain ⟨t, rfl⟩ := r
  exact call_range_1 (Hh I1 (by omega) (by omega) q1 q2 (by simpa using q))
def Ro (wi : TI) (g : TG) (tb : TS) : TS := fun D σ H => wi σ H fun J H1 => ∃ W : Nat -> Nat -> St -> Hp -> Prop, (∃ m, W 0 m σ H1) /\ ∀ i m σ H, W i m σ H ->
 (J.stop i H /\ D.nx σ H) \/ (J.go i H /\ ∃ N : St -> Hp -> Prop, (∀ σ' H', N σ' H' -> ∃ m', m' < m /\ W (i + 1) m' σ' H') /\ ∀ x H', J.yld i H x H' -> g x σ H' fun σ2 H2 => tb { D with nx := N, ct := N, bk := D.nx } σ2 H2)
def rQ (fp : List Addr) (h : Heap) : List (Addr × Obj) := fp.filterMap fun b => (h.get? b).map fun o => (b, o)
theorem pq {fp : List Addr} {h : Heap} {b : Addr} {o : Obj} (hb : b ∈ fp) (e : h.get? b = some o) : (b, o) ∈ rQ fp h := List.mem_filterMap.mpr ⟨b, hb, by rw [e]; rfl⟩
theorem Ez {fp : List Addr} {h : Heap} {p : Addr × Obj} (hp : p ∈ rQ fp h) : p.1 ∈ fp /\ h.get? p.1 = some p.2 := by
 obtain ⟨b, hb, e⟩ := List.mem_filterMap.mp hp
 cases q : h.get? b with
 | none => rw [q] at e; cases e
 | some o =>
  rw [q] at e
  have e' : (b, o) = p := Option.some.inj e
  subst e'
  exact ⟨hb, q⟩
theorem Inv.pinned {pins : List (Addr × Obj)} {σ : St} {H : Hp} {s : Shared} {fp : List Addr} (I : Inv X pins σ H s) (hf : ∀ b ∈ fp, nO X pins H b) (ho : ∀ b ∈ fp, ∃ o, s.heap.get? b = some o /\ ∀ v, o.data ≠ .cell v) : Inv X (pins ++ rQ fp s.heap) σ H s :=
 I.pins_of fun p hp => (List.mem_append.mp hp).elim (fun z => I.pin p (List.mem_append_right _ z)) fun z => by
  obtain ⟨hb, e⟩ := Ez z
  obtain ⟨f0, f1, f2, _⟩ := hf p.1 hb
  obtain ⟨o, e', d⟩ := ho p.1 hb
  rw [e] at e'; cases e'
  exact ⟨e, f0, f1, f2, d⟩
theorem Inv.unpinned {pins pl : List (Addr × Obj)} {σ : St} {H : Hp} {s : Shared} (I : Inv X (pins ++ pl) σ H s) : Inv X pins σ H s := I.pins_of fun p hp => I.pin p (List.mem_append_right _ (List.mem_append_left _ hp))
theorem Mr {iter : Expr} {body : List Stmt} {wi : TI} {g : TG} {tb : TS} {pos : Pos} (hp : PassesOwn (model X.prog X.w) X.A X.env X.xe) (hc : X.calm = true) (hi : PI X tg iter wi) (hg : PG X tg g) (hb : PSs X body tb)
  (hs : ∀ x, foldedSetIterable iter X.env x = pure x := by intro _; rfl) : PS X (.For tg iter body [] pos) (Ro wi g tb) := by
 intro pins s σ H D I h
 refine wpAny_For (thn (hi pins s σ H _ I h) fun v s1 h1 => thn h1 fun itv s2 h2 => ?_) hs
 obtain ⟨it, fp, tn, J, H2, e, I2, T, st2, f2, W, ⟨m0, w0⟩, turn⟩ := h2
 subst e
 have stat : ∀ {H' : Hp}, (∀ b ∈ fp, H' b = none) -> ∀ b ∈ fp, nO X pins H' b := fun hn b hb => ⟨hn b hb, (f2 b hb).2⟩
 refine codeAny_forLoop_any (fun n s' => ∃ i σ' H', Inv X pins σ' H' s' /\ tn i s'.heap /\ (∀ b ∈ fp, H' b = none) /\ W i n σ' H') ?_ m0 ⟨0, σ, H2, I2, st2, fun b hb => (f2 b hb).1, w0⟩
 rintro n s3 ⟨i, σ3, H3, I3, st3, fr3, w3⟩
 rcases turn i n σ3 H3 w3 with ⟨stop, qn⟩ | ⟨go, N, hN, step⟩
 ·refine wpAny_passesOwn hp (thn (T.done X rfl rfl rfl hc i pins s3 σ3 H3 X.xe I3 (stat fr3) st3 stop) fun r s4 ⟨hr, I4⟩ => ?_)
  subst hr
  exact wpAny_execs_nil ⟨σ3, H3, I4, qn⟩
 ·refine wpAny_passesOwn hp (thn (T.item X rfl rfl rfl hc i pins s3 σ3 H3 X.xe I3 (stat fr3) st3 go) fun r s4 ⟨u, hr, h4⟩ => ?_)
  subst hr
  refine wpAny_passesOwn hp (thn h4 fun _ s5 ⟨x, H5, I5, r5, y5, st5, fr5⟩ => ?_)
  have I5' := I5.pinned (stat fr5) (T.obj _ _ st5)
  refine wpAny_passesOwn hp (thn (hg _ s5 σ3 H5 x u _ I5' r5 (step x H5 y5)) fun _ s6 ⟨σ6, H6, I6, q6⟩ => ?_)
  refine wpAny_passesOwn hp (thn (hb _ s6 σ6 H6 _ I6 q6) fun f s7 q7 => ?_)
  have again : ∀ {σ7 : St} {H7 : Hp}, Inv X (pins ++ rQ fp s5.heap) σ7 H7 s7 -> N σ7 H7 -> ∃ m, m < n /\ ∃ i σ' H', Inv X pins σ' H' s7 /\ tn i s7.heap /\ (∀ b ∈ fp, H' b = none) /\ W i m σ' H' := fun {σ7 H7} I7 n7 => by
   obtain ⟨m', hm, w7⟩ := hN σ7 H7 n7
   refine ⟨m', hm, i + 1, σ7, H7, I7.unpinned, T.keep _ _ _ st5 fun b hb o e => (I7.pin (b, o) (List.mem_append_right _ (List.mem_append_right _ (pq hb e)))).1, fun b hb => ?_, w7⟩
   obtain ⟨o, e, d⟩ := T.obj _ _ st5 b hb
   exact (I7.pin (b, o) (List.mem_append_right _ (List.mem_append_right _ (pq hb e)))).2.1
  cases f with
  | next => obtain ⟨σ7, H7, I7, n7⟩ := q7; exact again I7 n7
  | cont => obtain ⟨σ7, H7, I7, n7⟩ := q7; exact again I7 n7
  | brk => obtain ⟨σ7, H7, I7, q7⟩ := q7; exact ⟨σ7, H7, I7.unpinned, q7⟩
  | ret v => obtain ⟨x7, σ7, H7, I7, r7, q7⟩ := q7; exact ⟨x7, σ7, H7, I7.unpinned, r7, q7⟩
end
end L2
namespace L2
open PySem PySem.Spec PyProof.Rows
abbrev R2 := V -> V -> Hp -> VK -> Prop
def OpR (X : Cx) (f : Value -> Value -> Sem Value) (r : R2) : Prop :=
 ∀ (pins : List (Addr × Obj)) (s : Shared) (σ : St) (H : Hp) (x y : V) (v u : Value) (Q : VK), Inv X pins σ H s -> RelV x v -> RelV y u -> r x y H Q ->
  wpAny (model X.prog X.w) X.A (f v u) (EP X pins σ Q) X.xe s
def CallR (X : Cx) (f : Value) (r : List V -> Hp -> VK -> Prop) : Prop :=
 ∀ (pins : List (Addr × Obj)) (s : Shared) (σ : St) (H : Hp) (xs : List V) (us : List Value) (Q : VK), Inv X pins σ H s -> Vals xs us -> r xs H Q ->
  wpAny (model X.prog X.w) X.A (call f us) (EP X pins σ Q) X.xe s
def tOp (r : R2) (ta tb : TE) : TE := fun σ H Q => ta σ H fun x H1 => tb σ H1 fun y H2 => r x y H2 Q
def rI (C : Int -> Int -> Prop) (g : Int -> Int -> V) : R2 := fun x y H Q => ∃ i j, x = .int i /\ y = .int j /\ C i j /\ Q (g i j) H
def rI0 (g : Int -> Int -> V) : R2 := fun x y H Q => ∃ i j, x = .int i /\ y = .int j /\ Q (g i j) H
section
variable {X : Cx} {a b c : Expr} {ta tb tc : TE} {pos : Pos}
theorem Hi (ha : PE X a ta) (hb : PE X b tb) {pins : List (Addr × Obj)} {s : Shared} {σ : St} {H : Hp} {R : V -> V -> Hp -> Prop} (I : Inv X pins σ H s)
  (h : ta σ H fun x H1 => tb σ H1 fun y H2 => R x y H2) {Q : Value -> Shared -> Prop} {f : Value -> Value -> Sem Value}
  (hf : ∀ v u s2 x y H2, Inv X pins σ H2 s2 -> RelV x v -> RelV y u -> R x y H2 -> wpAny (model X.prog X.w) X.A (f v u) Q X.xe s2) :
  wpAny (model X.prog X.w) X.A (eval a X.env) (fun v s₁ => wpAny (model X.prog X.w) X.A (eval b X.env) (fun u s₂ => wpAny (model X.prog X.w) X.A (f v u) Q X.xe s₂) X.xe s₁) X.xe s := by
 refine thn (ha pins s σ H _ I h) fun v s1 ⟨x, H1, I1, r1, q1⟩ => ?_
 refine thn (hb pins s1 σ H1 _ I1 q1) fun u s2 ⟨y, H2, I2, r2, q2⟩ => ?_
 exact hf v u s2 x y H2 I2 r1 r2 q2
theorem PQ {op : Operator} {r : R2} (ho : OpR X (binaryOp op) r) (ha : PE X a ta) (hb : PE X b tb) : PE X (.BinOp a op b pos) (tOp r ta tb) := by
 intro pins s σ H Q I h
 exact wpAny_BinOp (Hi ha hb I h fun v u s2 x y H2 I2 rx ry q => ho pins s2 σ H2 x y v u Q I2 rx ry q)
theorem opI {f : Value -> Value -> Sem Value} {C : Int -> Int -> Prop} {g : Int -> Int -> Int}
  (rule : ∀ (i j : Int) (t u : Tok) (s : Shared) (Q : Value -> Shared -> Prop) (E : Value -> Shared -> Prop), C i j -> Q (.int (g i j) s.toks) { s with toks := s.toks + 1 } -> wpAny (model X.prog X.w) X.A (f (.int i t) (.int j u)) Q E s) :
  OpR X f (rI C fun i j => .int (g i j)) := by
 intro pins s σ H x y v u Q I rx ry h
 obtain ⟨i, j, rfl, rfl, hc, q⟩ := h
 obtain ⟨t, rfl⟩ := rx
 obtain ⟨t', rfl⟩ := ry
 exact rule i j t t' s _ _ hc ⟨.int (g i j), H, I.tok _, ⟨_, rfl⟩, q⟩
theorem Rp {f : Value -> Value -> Sem Value} {g : Int -> Int -> Int}
  (rule : ∀ (i j : Int) (t u : Tok) (s : Shared) (Q : Value -> Shared -> Prop) (E : Value -> Shared -> Prop), Q (.int (g i j) s.toks) { s with toks := s.toks + 1 } -> wpAny (model X.prog X.w) X.A (f (.int i t) (.int j u)) Q E s) :
  OpR X f (rI0 fun i j => .int (g i j)) := by
 intro pins s σ H x y v u Q I rx ry h
 obtain ⟨i, j, rfl, rfl, q⟩ := h
 obtain ⟨t, rfl⟩ := rx
 obtain ⟨t', rfl⟩ := ry
 exact rule i j t t' s _ _ ⟨.int (g i j), H, I.tok _, ⟨_, rfl⟩, q⟩
theorem Hj {f : Value -> Value -> Sem Value} {g : Int -> Int -> Bool}
  (rule : ∀ (i j : Int) (t u : Tok) (s : Shared) (Q : Value -> Shared -> Prop) (E : Value -> Shared -> Prop), Q (.bool (g i j)) s -> wpAny (model X.prog X.w) X.A (f (.int i t) (.int j u)) Q E s) :
  OpR X f (rI0 fun i j => .bl (g i j)) := by
 intro pins s σ H x y v u Q I rx ry h
 obtain ⟨i, j, rfl, rfl, q⟩ := h
 obtain ⟨t, rfl⟩ := rx
 obtain ⟨t', rfl⟩ := ry
 exact rule i j t t' s _ _ ⟨.bl (g i j), H, I, rfl, q⟩
def Ms (i j : Int) : Prop := 0 < j /\ j < 1073741824
def CMul (i j : Int) : Prop := (-(2 ^ 64) < i /\ i < 2 ^ 64) \/ (-(2 ^ 64) < j /\ j < 2 ^ 64)
theorem CMul.ok {i j : Int} (h : CMul i j) : IntMulOk i j := by
 rcases h with ⟨h1, h2⟩ | ⟨h1, h2⟩
 ·exact .of_left (intBits_le_64 h1 h2)
 ·exact .of_right (intBits_le_64 h1 h2)
theorem Mt : OpR X (binaryOp .Add) (rI0 fun i j => .int (i + j)) := Rp fun _ _ _ _ _ _ _ q => add_int q
theorem Mu : OpR X (binaryOp .Mult) (rI CMul fun i j => .int (i * j)) := opI fun _ _ _ _ _ _ _ hc q => mul_int q hc.ok
theorem JT : OpR X (binaryOp .FloorDiv) (rI Ms fun i j => .int (i / j)) := opI fun i j _ _ _ _ _ hc q => by
 have h1 : (0 : Int) < j := hc.1
 have h2 : j < 1073741824 := hc.2
 exact floordiv_int (by omega) (by rw [Int.fdiv_eq_ediv_of_nonneg i (by omega)]; exact q) (.inl (PyProof.noPylong_small (by omega)))
theorem Mv : OpR X (binaryOp .Mod) (rI (fun _ j => 0 < j) fun i j => .int (i % j)) := opI fun i j _ _ _ _ _ hc q => by
 have h1 : (0 : Int) < j := hc
 exact mod_int' (by omega) (by rw [Int.fmod_eq_emod_of_nonneg i (by omega)]; exact q)
end
def Hk : V -> V -> Bool
 | .non, .non => true | .non, .int _ => true | .int _, .non => true | .non, .bl _ => true | .bl _, .non => true | .non, .str _ => true | .str _, .non => true
 | .int _, .int _ => true | .bl _, .bl _ => true | .str _, .str _ => true | .byt _, .byt _ => true
 | .int _, .str _ => true | .str _, .int _ => true | .bl _, .str _ => true | .str _, .bl _ => true
 | _, _ => false
def rEq : R2 := fun x y H Q => Hk x y = true /\ Q (.bl (decide (x = y))) H
def rNe : R2 := fun x y H Q => Hk x y = true /\ Q (.bl (!decide (x = y))) H
theorem BW {i j : Int} : decide (V.int i = V.int j) = (i == j) := by
 rw [Bool.eq_iff_iff]
 simp
theorem EY {i j : Bool} : decide (V.bl i = V.bl j) = (i == j) := by
 rw [Bool.eq_iff_iff]
 simp
theorem BZ {i j : Str} : decide (V.str i = V.str j) = (i == j) := by
 rw [Bool.eq_iff_iff]
 simp
theorem B_ {i j : Array UInt8} : decide (V.byt i = V.byt j) = (i.toList == j.toList) := by
 rw [Bool.eq_iff_iff]
 cases i
 cases j
 simp
section
variable {X : Cx} {a b c : Expr} {ta tb tc : TE} {pos : Pos}
theorem bK {pins : List (Addr × Obj)} {σ : St} {H : Hp} {s : Shared} {Q : VK} {k k' : Bool} (I : Inv X pins σ H s) (q : Q (.bl k) H) (e : k = k') : EP X pins σ Q (.bool k') s := by
 subst e
 exact ⟨.bl k, H, I, rfl, q⟩
theorem PX : OpR X (compareOp .Eq) rEq := by
 intro pins s σ H x y v u Q I rx ry h
 obtain ⟨hs, q⟩ := h
 cases x with
 | non =>
  cases rx
  cases y with
  | non => cases ry; exact PySem.EqNone.eq_none_none (bK I q (by simp))
  | bl j => cases ry; exact PySem.EqNone.eq_none_bool (bK I q (by simp))
  | int j => obtain ⟨t', rfl⟩ := ry; exact PySem.EqNone.eq_none_int (bK I q (by simp))
  | str j => obtain ⟨t', rfl⟩ := ry; exact PySem.EqNone.eq_none_str (bK I q (by simp))
  | _ => exact absurd (show false = true from hs) Bool.false_ne_true
 | bl i =>
  cases rx
  cases y with
  | non => cases ry; exact PySem.EqNone.eq_bool_none (bK I q (by simp))
  | bl j => cases ry; exact eq_bool (bK I q EY)
  | str j => obtain ⟨t', rfl⟩ := ry; exact PySem.EqMixed.eq_bool_str (bK I q (by simp))
  | _ => exact absurd (show false = true from hs) Bool.false_ne_true
 | int i =>
  obtain ⟨t, rfl⟩ := rx
  cases y with
  | non => cases ry; exact PySem.EqNone.eq_int_none (bK I q (by simp))
  | int j => obtain ⟨t', rfl⟩ := ry; exact eq_int (bK I q BW)
  | str j => obtain ⟨t', rfl⟩ := ry; exact PySem.EqMixed.eq_int_str (bK I q (by simp))
  | _ => exact absurd (show false = true from hs) Bool.false_ne_true
 | str i =>
  obtain ⟨t, rfl⟩ := rx
  cases y with
  | non => cases ry; exact PySem.EqNone.eq_str_none (bK I q (by simp))
  | bl j => cases ry; exact PySem.EqMixed.eq_str_bool (bK I q (by simp))
  | int j => obtain ⟨t', rfl⟩ := ry; exact PySem.EqMixed.eq_str_int (bK I q (by simp))
  | str j => obtain ⟨t', rfl⟩ := ry; exact eq_str (bK I q BZ)
  | _ => exact absurd (show false = true from hs) Bool.false_ne_true
 | byt i =>
  obtain ⟨t, rfl⟩ := rx
  cases y with
  | byt j => obtain ⟨t', rfl⟩ := ry; exact PySem.W.eq_bytes (bK I q B_)
  | _ => exact absurd (show false = true from hs) Bool.false_ne_true
 | _ => cases y <;> exact absurd (show false = true from hs) Bool.false_ne_true
theorem P0 : OpR X (compareOp .NotEq) rNe := by
 intro pins s σ H x y v u Q I rx ry h
 obtain ⟨hs, q⟩ := h
 cases x with
 | non =>
  cases rx
  cases y with
  | non => cases ry; exact PySem.EqNone.ne_none_none (bK I q (by simp))
  | bl j => cases ry; exact PySem.EqNone.ne_none_bool (bK I q (by simp))
  | int j => obtain ⟨t', rfl⟩ := ry; exact PySem.EqNone.ne_none_int (bK I q (by simp))
  | str j => obtain ⟨t', rfl⟩ := ry; exact PySem.EqNone.ne_none_str (bK I q (by simp))
  | _ => exact absurd (show false = true from hs) Bool.false_ne_true
 | bl i =>
  cases rx
  cases y with
  | non => cases ry; exact PySem.EqNone.ne_bool_none (bK I q (by simp))
  | bl j => cases ry; exact ne_bool (bK I q (congrArg not EY))
  | str j => obtain ⟨t', rfl⟩ := ry; exact PySem.EqMixed.ne_bool_str (bK I q (by simp))
  | _ => exact absurd (show false = true from hs) Bool.false_ne_true
 | int i =>
  obtain ⟨t, rfl⟩ := rx
  cases y with
  | non => cases ry; exact PySem.EqNone.ne_int_none (bK I q (by simp))
  | int j => obtain ⟨t', rfl⟩ := ry; exact ne_int (bK I q (congrArg not BW))
  | str j => obtain ⟨t', rfl⟩ := ry; exact PySem.EqMixed.ne_int_str (bK I q (by simp))
  | _ => exact absurd (show false = true from hs) Bool.false_ne_true
 | str i =>
  obtain ⟨t, rfl⟩ := rx
  cases y with
  | non => cases ry; exact PySem.EqNone.ne_str_none (bK I q (by simp))
  | bl j => cases ry; exact PySem.EqMixed.ne_str_bool (bK I q (by simp))
  | int j => obtain ⟨t', rfl⟩ := ry; exact PySem.EqMixed.ne_str_int (bK I q (by simp))
  | str j => obtain ⟨t', rfl⟩ := ry; exact ne_str (bK I q (congrArg not BZ))
  | _ => exact absurd (show false = true from hs) Bool.false_ne_true
 | byt i =>
  obtain ⟨t, rfl⟩ := rx
  cases y with
  | byt j => obtain ⟨t', rfl⟩ := ry; exact PySem.W.ne_bytes (bK I q (congrArg not B_))
  | _ => exact absurd (show false = true from hs) Bool.false_ne_true
 | _ => cases y <;> exact absurd (show false = true from hs) Bool.false_ne_true
theorem P_ : OpR X (compareOp .Lt) (rI0 fun i j => .bl (decide (i < j))) := Hj fun _ _ _ _ _ _ _ q => lt_int q
theorem Jr : OpR X (compareOp .LtE) (rI0 fun i j => .bl (decide (i <= j))) := Hj fun _ _ _ _ _ _ _ q => le_int q
theorem Qa : OpR X (compareOp .Gt) (rI0 fun i j => .bl (decide (j < i))) := Hj fun _ _ _ _ _ _ _ q => gt_int q
theorem E_ : OpR X (compareOp .In) (fun x y H Q => ∃ i j, x = .str i /\ y = .str j /\ Q (.bl (!(Builtin.Str.occurrences j i 0 j.length 1).isEmpty)) H) := by
 intro pins s σ H x y v u Q I rx ry h
 obtain ⟨i, j, rfl, rfl, q⟩ := h
 obtain ⟨t, rfl⟩ := rx
 obtain ⟨t', rfl⟩ := ry
 exact in_str (bK I q rfl)
theorem JV : OpR X (compareOp .IsNot) (fun x y H Q => y = .non /\ Q (.bl (!decide (x = .non))) H) := by
 intro pins s σ H x y v u Q I rx ry h
 obtain ⟨rfl, q⟩ := h
 cases ry
 refine isnot_none_gen (bK I q ?_)
 cases x <;> first
  | (cases rx; rfl)
  | (obtain ⟨t, rfl⟩ := rx; rfl)
theorem OpR.or {f : Value -> Value -> Sem Value} {r r' : R2} (h : OpR X f r) (h' : OpR X f r') : OpR X f (fun x y H Q => r x y H Q \/ r' x y H Q) := by
 intro pins s σ H x y v u Q I rx ry q
 rcases q with q | q
 ·exact h pins s σ H x y v u Q I rx ry q
 ·exact h' pins s σ H x y v u Q I rx ry q
theorem rR (b : Expr) {op : CmpOp} (h : op ≠ .In := by decide) (h2 : op ≠ .NotIn := by decide) : behindInMarks op b = false := by
 have e1 : (op == CmpOp.In) = false := by cases op <;> first | rfl | exact absurd rfl h
 have e2 : (op == CmpOp.NotIn) = false := by cases op <;> first | rfl | exact absurd rfl h2
 cases b <;> simp [behindInMarks, e1, e2]
theorem JW {op : CmpOp} {r : R2} (ho : OpR X (compareOp op) r) (ha : PE X a ta) (hb : PE X b tb) (hm : behindInMarks op b = false) : PE X (.Compare a [op] [b] pos) (tOp r ta tb) := by
 intro pins s σ H Q I h
 exact wpAny_Compare1 (Hi ha hb I h fun v u s2 x y H2 I2 rx ry q => ho pins s2 σ H2 x y v u Q I2 rx ry q) hm
def Qc (t : TE) : TT := fun σ H Q => t σ H fun x H' => ∃ k, x = .bl k /\ Q k H'
theorem JX {op : CmpOp} {r : R2} (ho : OpR X (compareOp op) r) (ha : PE X a ta) (hb : PE X b tb) (hm : behindInMarks op b = false) : PT X (.Compare a [op] [b] pos) (Qc (tOp r ta tb)) := by
 intro pins s σ H Q I h
 refine wpAny_isTrue_Compare1 (thn (ha pins s σ H _ I h) fun v s1 ⟨x, H1, I1, r1, q1⟩ => thn (hb pins s1 σ H1 _ I1 q1) fun u s2 ⟨y, H2, I2, r2, q2⟩ =>
  thn (ho pins s2 σ H2 x y v u _ I2 r1 r2 q2) fun c s3 ⟨z, H3, I3, r3, k, e, q3⟩ => ?_) hm
 subst e
 cases r3
 exact wpAny_truthy_bool ⟨H3, I3, q3⟩
def Mw (r r' : R2) (ta tb tc : TE) : TE := fun σ H Q => ta σ H fun x H1 => tb σ H1 fun y H2 => r x y H2 fun z H3 => ∃ k, z = .bl k /\
 (if k = true then tc σ H3 fun w' H4 => r' y w' H4 Q else Q (.bl false) H3)
theorem Hl {op op' : CmpOp} {r r' : R2} (ho : OpR X (compareOp op) r) (ho' : OpR X (compareOp op') r') (ha : PE X a ta) (hb : PE X b tb) (hc : PE X c tc)
  (hm : lastMarks [op, op'] [b, c] = false := by with_unfolding_all rfl) : PE X (.Compare a [op, op'] [b, c] pos) (Mw r r' ta tb tc) := by
 intro pins s σ H Q I h
 refine Compare_chain (thn (ha pins s σ H _ I h) fun v s1 ⟨x, H1, I1, r1, q1⟩ => chain_link (thn (hb pins s1 σ H1 _ I1 q1) fun u s2 ⟨y, H2, I2, r2, q2⟩ =>
  thn (ho pins s2 σ H2 x y v u _ I2 r1 r2 q2) fun d s3 ⟨z, H3, I3, r3, k, e, q3⟩ => ?_)) hm
 subst e
 cases r3
 refine wpAny_truthy_bool ?_
 cases k with
 | false => exact ite_ff ⟨.bl false, H3, I3, rfl, q3⟩
 | true => exact ite_tt (chain_last (thn (hc pins s3 σ H3 _ I3 q3) fun w' s4 ⟨z', H4, I4, r4, q4⟩ => ho' pins s4 σ H4 y z' u w' Q I4 r2 r4 q4))
theorem qJ : (sizeLine : Nat) < 2 ^ 63 := by rw [sizeLine_eq]; decide
theorem Df : OpR X (binaryOp .Add) (fun x y H Q => ∃ i j, x = .str i /\ y = .str j /\ i.length + j.length <= sizeLine /\ Q (.str (i ++ j)) H) := by
 intro pins s σ H x y v u Q I rx ry h
 obtain ⟨i, j, rfl, rfl, hz, q⟩ := h
 obtain ⟨t, rfl⟩ := rx
 obtain ⟨t', rfl⟩ := ry
 exact add_str (fun t' tk => ⟨.str (i ++ j), H, I.tok _, ⟨_, rfl⟩, q⟩) hz
theorem vals1 {x : V} {us : List Value} (r : Vals [x] us) : ∃ u, us = [u] /\ RelV x u := by
 cases r with
 | cons r1 r2 => cases r2; exact ⟨_, rfl, r1⟩
theorem vals2 {x y : V} {us : List Value} (r : Vals [x, y] us) : ∃ u w', us = [u, w'] /\ RelV x u /\ RelV y w' := by
 cases r with
 | cons r1 r2 =>
  cases r2 with
  | cons r3 r4 => cases r4; exact ⟨_, _, rfl, r1, r3⟩
theorem Fb : CallR X (.type "int") (fun xs H Q => (∃ i, xs = [.int i] /\ Q (.int i) H) \/ ∃ k, xs = [.bl k] /\ Q (.int (if k then 1 else 0)) H) := by
 intro pins s σ H xs us Q I r h
 rcases h with ⟨i, rfl, q⟩ | ⟨k, rfl, q⟩
 ·obtain ⟨u, rfl, t, rfl⟩ := vals1 r
  exact call_int_int ⟨.int i, H, I, ⟨_, rfl⟩, q⟩
 ·obtain ⟨u, rfl, r1⟩ := vals1 r
  cases r1
  exact call_int_bool ⟨.int (if k then 1 else 0), H, I.tok _, ⟨_, rfl⟩, q⟩
end
end L2
namespace L2
open PySem PySem.Spec PyProof.Rows
structure ObjM (h : Heap) (x dx C : Addr) (mA : Str -> Option Value) : Prop where
 obj : h.get? x = some (PySem.W.instObj C dx)
 ns : h.Ns1 dx mA
 ne : dx ≠ x
theorem Fd {h : Heap} {dx : Addr} {mA : Str -> Option Value} (n : h.Ns1 dx mA) : ∃ od, h.get? dx = some od /\ ∀ name, PySem.W.lookIn name od = some (mA name) := by
 obtain ⟨o, es, ep, ho, hd, hk, _, hm⟩ := n
 refine ⟨o, ho, fun name => ?_⟩
 have e := hm name
 unfold nsFind findBy at e
 rw [← Array.find?_toList] at e
 unfold PySem.W.lookIn
 rw [hd]
 dsimp only
 split
 ·rename_i y q
  rw [q] at e
  exact congrArg some e
 ·rename_i q
  rw [q] at e
  have a : es.toList.any (·.refKey) = false := by
   rw [List.any_eq_false]
   intro y hy
   obtain ⟨z, t, hkey⟩ := hk y (Array.mem_toList_iff.mp hy)
   simp [DictEntry.refKey, hkey]
  have a' : ¬ es.toList.any (·.refKey) = true := by rw [a]; exact Bool.false_ne_true
  rw [if_neg a']
  exact congrArg some e
theorem ObjM.look {h : Heap} {x dx C : Addr} {mA : Str -> Option Value} (I : ObjM h x dx C mA) : ∃ od, PySem.W.InstAt h x (PySem.W.instObj C dx) C (some od) /\ ∀ name, PySem.W.lookIn name od = some (mA name) :=
 let ⟨od, ho, hl⟩ := Fd I.ns
 ⟨od, ⟨I.obj, rfl, rfl, ho⟩, hl⟩
section
variable {prog : Program} {w : World} {A : Around} {E : Value -> Shared -> Prop} {s : Shared} {K : PySem.W.Frag} {x dx C f : Addr} {mA : Str -> Option Value} {name : Str} {v : Value}
theorem JZ {expr : Bool} {Q : Value -> Shared -> Prop} (X : K.In s.heap) (I : ObjM s.heap x dx C mA) (hg : PySem.W.plainGet K C name = true) (hh : PySem.W.hasDictIn K C = true)
  (ha : PySem.W.findIn K (.ref C) name = some none) (hv : mA name = some v) (hv' : PySem.W.handedIn v = true) (h : Q v { s with toks := s.toks + 1 }) :
  wpAny (model prog w) A (getAttr (.ref x) name expr) Q E s := by
 obtain ⟨od, J, hl⟩ := I.look
 exact PySem.W.get_value X J (PySem.W.plainGet_of hg).1 (PySem.W.findObj_own hh ha rfl (by rw [hl, hv])) hv' h
theorem Hm {pl : Sem Bool} {Q : Value × List Value -> Shared -> Prop} (X : K.In s.heap) (I : ObjM s.heap x dx C mA) (hg : PySem.W.plainGet K C name = true)
  (hf : PySem.W.findIn K (.ref C) name = some (some (.ref f))) (ht : PySem.W.isFn K (.ref f) = true) (hv : mA name = none) (h : Q (.ref f, [.ref x]) s) :
  wpAny (model prog w) A (getMethod (.ref x) name pl) Q E s := by
 obtain ⟨od, J, hl⟩ := I.look
 exact PySem.W.method_fn X J (PySem.W.plainGet_of hg).1 (PySem.W.plainGet_of hg).2 hf (beq_iff_eq.mp ht) (by show (PySem.W.lookIn name od).map (·.isSome) = some false; rw [hl, hv]; rfl) h
theorem J0 {ns : List Str} {Q : Unit -> Shared -> Prop} (X : K.In s.heap) (I : ObjM s.heap x dx C mA)
  (hs : PySem.W.findIn K (.ref C) "__setattr__" = some (some (.builtin "object.__setattr__"))) (hp : PySem.W.plainOver K C = true) (ht : PySem.W.takerIn K C name = some none) (hh : PySem.W.hasDictIn K C = true)
  (hw : PySem.Within mA ns) (hsz : ns.length <= sizeLine)
  (h : ∀ h', ObjM h' x dx C (fun y => if y = name then some v else mA y) -> Heap.SameBut dx s.heap h' -> Q () { s with heap := h', toks := s.toks + 2 }) :
  wpAny (model prog w) A (setAttr (.ref x) name v) Q E s := by
 obtain ⟨od, J, hl⟩ := I.look
 refine PySem.W.set_plain X J hs (PySem.W.osa_open (s := { s with toks := s.toks + 1 }) (r := none) X J hp ht fun b => ?_)
 obtain ⟨cd, hc, hd'⟩ := PySem.W.any_some hh
 have hx : s.heap.get? x = some ⟨.ref C, some dx, .plain, #[]⟩ := I.obj
 refine wpAny_bind (wpAny_pure (wpAny_bind (wpAny_bind (wpAny_loadPart hx (wpAny_bind (PySem.W.Looks.here (s := { s with toks := s.toks + 1 }) (PySem.W.looks_clsIn X hc) ?_))))))
 rw [hd']
 refine wpAny_pure (a := some dx) (wpAny_bind (wpAny_pure (wpAny_bind ?_)))
 refine wpAny_nsSet1 (s := { s with toks := s.toks + 1 }) I.ns fun h' hn2 hs2 => ?_
 obtain ⟨oD, esD, epD, hoD, hdD, hcD⟩ := hn2.count (PySem.Within.cons name v hw)
 refine wpAny_bind (wpAny_lookBehind hoD (by rw [hdD]; exact pastItsLine_dict (Nat.le_trans hcD (by rw [List.length_cons]; omega))) ?_)
 exact wpAny_pure (h _ ⟨(hs2.2 _ (Ne.symm I.ne)).trans I.obj, hn2, I.ne⟩ hs2)
theorem Hn {R : Result -> Shared -> Prop} {vs : List Value} {kw : List (Str × Value)} (X : K.In s.heap) (hm : PySem.W.makesIn K C = true)
  (hi : PySem.W.findIn K (.ref C) "__init__" = some (some (.ref f))) (hf : PySem.W.typeIn K (.ref f) = some (.type "function"))
  (h : codeAny (model prog w) (A.under (.builtin "type.__call__" ⟨.ref C :: vs, kw⟩)) (.call (.ref f) ⟨.ref (s.heap.objs.size + 1) :: vs, kw⟩) (PySem.W.InitBack (s.heap.objs.size + 1) R)
   { s with heap := (s.heap.push PySem.W.emptyDict).push (PySem.W.instObj C s.heap.objs.size) }) :
  codeAny (model prog w) A (.call (.ref C) ⟨vs, kw⟩) R s := by
 obtain ⟨hh, g, d, t, os⟩ := s
 exact PySem.W.make_core (PySem.W.makes_of X hm) (PySem.W.looks_findIn X hi) (fun self => PySem.W.bind_fn X self hf) (.inl rfl) h
end
def jr (f : Str) (v : V) : List (Str × V) -> List (Str × V)
 | [] => [(f, v)]
 | (g, x) :: r => if g = f then (g, v) :: r else (g, x) :: jr f v r
theorem uN (f g : Str) (v : V) : ∀ fs : List (Str × V), (jr f v fs).lookup g = if g = f then some v else fs.lookup g
 | [] => by
  show List.lookup g [(f, v)] = _
  by_cases h : g = f
  ·have hb : (g == f) = true := beq_iff_eq.mpr h
   simp only [List.lookup, hb, if_pos h]
  ·have hb : (g == f) = false := beq_eq_false_iff_ne.mpr h
   simp only [List.lookup, hb, if_neg h]
 | (k, x) :: r => by
  have ih := uN f g v r
  rw [show jr f v ((k, x) :: r) = (if k = f then (k, v) :: r else (k, x) :: jr f v r) from rfl]
  by_cases hk : k = f
  ·rw [if_pos hk]
   by_cases h : g = k
   ·have hb : (g == k) = true := beq_iff_eq.mpr h
    simp only [List.lookup, hb, if_pos (h.trans hk)]
   ·have hb : (g == k) = false := beq_eq_false_iff_ne.mpr h
    simp only [List.lookup, hb, if_neg (fun e : g = f => h (e.trans hk.symm))]
  ·rw [if_neg hk]
   by_cases h : g = k
   ·have hb : (g == k) = true := beq_iff_eq.mpr h
    simp only [List.lookup, hb, if_neg (fun e : g = f => hk (h.symm.trans e))]
   ·have hb : (g == k) = false := beq_eq_false_iff_ne.mpr h
    simp only [List.lookup, hb]
    exact ih
theorem rT (f : Str) (v : V) : ∀ fs : List (Str × V), f ∈ (jr f v fs).map (·.1) /\ ∀ g, g ∈ fs.map (·.1) -> g ∈ (jr f v fs).map (·.1)
 | [] => ⟨by simp [jr], fun g h => by simp at h⟩
 | (k, x) :: r => by
  obtain ⟨i1, i2⟩ := rT f v r
  rw [show jr f v ((k, x) :: r) = (if k = f then (k, v) :: r else (k, x) :: jr f v r) from rfl]
  by_cases hk : k = f
  ·rw [if_pos hk]
   subst hk
   exact ⟨by simp, fun g h => by simpa using h⟩
  ·rw [if_neg hk]
   refine ⟨?_, fun g h => ?_⟩
   ·rw [List.map_cons]
    exact List.mem_cons_of_mem _ i1
   ·rw [List.map_cons] at h ⊢
    rcases List.mem_cons.mp h with e | e
    ·exact List.mem_cons.mpr (.inl e)
    ·exact List.mem_cons_of_mem _ (i2 g e)
theorem uO (f : Str) (v : V) : ∀ fs : List (Str × V), (jr f v fs).length <= fs.length + 1
 | [] => by simp [jr]
 | (k, x) :: r => by
  have ih := uO f v r
  rw [show jr f v ((k, x) :: r) = (if k = f then (k, v) :: r else (k, x) :: jr f v r) from rfl]
  by_cases hk : k = f
  ·rw [if_pos hk, List.length_cons, List.length_cons]; omega
  ·rw [if_neg hk, List.length_cons, List.length_cons]; omega
theorem RelO.some_of {v : V} {o : Option Value} (r : RelO (some v) o) : ∃ u, o = some u /\ RelV v u := by
 cases o with
 | none => exact (show False from r).elim
 | some u => exact ⟨u, rfl, r⟩
theorem RelO.none_of {o : Option Value} (r : RelO none o) : o = none := by
 cases o with
 | none => rfl
 | some u => exact (show False from r).elim
theorem Fe {v : V} {u : Value} (r : RelV v u) : PySem.W.handedIn u = true := by
 cases v with
 | non => cases (show u = Value.none from r); rfl
 | bl b => cases (show u = Value.bool b from r); rfl
 | int i => obtain ⟨t, e⟩ := (show ∃ t, u = Value.int i t from r); cases e; rfl
 | str x => obtain ⟨t, e⟩ := (show ∃ t, u = Value.str x t from r); cases e; rfl
 | byt b => obtain ⟨t, e⟩ := (show ∃ t, u = Value.bytes b t from r); cases e; rfl
 | flt b => obtain ⟨t, e⟩ := (show ∃ t, u = Value.float b t from r); cases e; rfl
 | ref a => cases (show u = Value.ref a from r); rfl
 | ty n => cases (show u = Value.type n from r); rfl
section
variable {P : Program} {w : World} {H H' : Hp} {h h' : Heap} {a C dx : Addr} {fs fs' : List (Str × V)}
theorem um (hok : HOk P w H h) (e : H a = some (.ins C dx fs)) : ∃ mA, ObjM h a dx C mA /\ (∀ f, RelO (fs.lookup f) (mA f)) /\ PySem.Within mA (fs.map (·.1)) /\ fs.length <= 1000 /\ H dx = some (.own a) := by
 obtain ⟨d, z, ne, ob, mA, n, r, q⟩ := (show ObjOk P w H h a (.ins C dx fs) from hok a _ e)
 exact ⟨mA, ⟨ob, n, ne⟩, r, q, z, d⟩
end
structure Cls (K : PySem.W.Frag) (C : Addr) : Prop where
 pg : PySem.W.plainGet K C Str.empty = true
 hd : PySem.W.hasDictIn K C = true
 po : PySem.W.plainOver K C = true
 sa : PySem.W.findIn K (.ref C) "__setattr__" = some (some (.builtin "object.__setattr__"))
theorem Cls.get {K : PySem.W.Frag} {C : Addr} (c : Cls K C) (f : Str) : PySem.W.plainGet K C f = true := c.pg
def NoAttr (K : PySem.W.Frag) (C : Addr) (f : Str) : Prop := PySem.W.findIn K (.ref C) f = some none
theorem NoAttr.taker {K : PySem.W.Frag} {C : Addr} {f : Str} (n : NoAttr K C f) : PySem.W.takerIn K C f = some none := by
 unfold PySem.W.takerIn
 rw [show PySem.W.findIn K (.ref C) f = some none from n]
 rfl
structure Meth (K : PySem.W.Frag) (C : Addr) (m : Str) (f : Addr) : Prop where
 at_ : PySem.W.findIn K (.ref C) m = some (some (.ref f))
 fn : PySem.W.isFn K (.ref f) = true
 kp : PySem.W.keepIn K (.ref f) = true
section
variable {X : Cx} {pins : List (Addr × Obj)} {σ : St} {H : Hp} {s : Shared} {a C dx : Addr} {fs : List (Str × V)} {f : Str} {v : V} {A : Around} {E : Value -> Shared -> Prop}
theorem Dg {b : Bool} {Q : Value -> Shared -> Prop} (I : Inv X pins σ H s) (e : H a = some (.ins C dx fs)) (c : Cls X.K C) (n : NoAttr X.K C f) (l : fs.lookup f = some v)
  (h : ∀ u s', Inv X pins σ H s' -> RelV v u -> Q u s') : wpAny (model X.prog X.w) A (getAttr (.ref a) f b) Q E s := by
 obtain ⟨mA, O, r, _, _, _⟩ := um I.hok e
 obtain ⟨u, hu, ru⟩ := RelO.some_of (v := v) (o := mA f) (by rw [← l]; exact r f)
 exact JZ I.kIn O (c.get f) c.hd n hu (Fe ru) (h u _ (I.tok _) ru)
theorem Dh {m : Str} {g : Addr} {pl : Sem Bool} {Q : Value × List Value -> Shared -> Prop} (I : Inv X pins σ H s) (e : H a = some (.ins C dx fs)) (c : Cls X.K C) (k : Meth X.K C m g) (l : fs.lookup m = none)
  (h : Q (.ref g, [.ref a]) s) : wpAny (model X.prog X.w) A (getMethod (.ref a) m pl) Q E s := by
 obtain ⟨mA, O, r, _, _, _⟩ := um I.hok e
 have hn : mA m = none := RelO.none_of (by rw [← l]; exact r m)
 exact Hm I.kIn O (c.get m) k.at_ k.fn hn h
theorem Di {y : V} {u : Value} {Q : Unit -> Shared -> Prop} (I : Inv X pins σ H s) (e : H a = some (.ins C dx fs)) (c : Cls X.K C) (n : NoAttr X.K C f) (hl : fs.length < 1000) (ry : RelV y u)
  (h : ∀ s', Inv X pins σ (upd H a (.ins C dx (jr f y fs))) s' -> Q () s') : wpAny (model X.prog X.w) A (setAttr (.ref a) f u) Q E s := by
 obtain ⟨mA, O, r, wi, _, ho⟩ := um I.hok e
 have hz : (fs.map (·.1)).length <= sizeLine := by rw [List.length_map, sizeLine_eq]; omega
 refine J0 I.kIn O c.sa c.po n.taker c.hd wi hz fun h' O' sb => h _ ?_
 have hd : ∃ o, h'.get? dx = some o := let ⟨o, _, _, e', _⟩ := O'.ns; ⟨o, e'⟩
 refine I.write (x := a) (e := dx) (by rw [e]; exact True.intro) (.inr ho) (fun b q hb z => (sb.2 b hb).trans z) hd ?_
 refine ⟨by rw [aW O.ne]; exact ho, ?_, O.ne, O'.obj, _, O'.ns, fun g => ?_, fun g hg => ?_⟩
 ·have := uO f y fs; omega
 ·show RelO ((jr f y fs).lookup g) (if g = f then some u else mA g)
  rw [uN]
  by_cases q : g = f
  ·rw [if_pos q, if_pos q]; exact ry
  ·rw [if_neg q, if_neg q]; exact r g
 ·by_cases q : g = f
  ·rw [q]; exact (rT f y fs).1
  ·refine (rT f y fs).2 g (wi g fun z => hg ?_)
   show (if g = f then some u else mA g) = none
   rw [if_neg q]; exact z
theorem Inv.made (I : Inv X pins σ H s) : Inv X pins σ (upd (upd H s.heap.objs.size (.own (s.heap.objs.size + 1))) (s.heap.objs.size + 1) (.ins C s.heap.objs.size []))
  { s with heap := (s.heap.push PySem.W.emptyDict).push (PySem.W.instObj C s.heap.objs.size) } := by
 have e1 : (s.heap.push PySem.W.emptyDict).get? s.heap.objs.size = some PySem.W.emptyDict := Heap.get?_push_size s.heap rfl
 have e2 : ((s.heap.push PySem.W.emptyDict).push (PySem.W.instObj C s.heap.objs.size)).get? (s.heap.objs.size + 1) = some (PySem.W.instObj C s.heap.objs.size) := by
  have := Heap.get?_push_size (s.heap.push PySem.W.emptyDict) (o := PySem.W.instObj C s.heap.objs.size) rfl
  rwa [Heap.size_push] at this
 have e3 : (s.heap.push PySem.W.emptyDict).Ns s.heap.objs.size (fun _ => none) := ⟨PySem.W.emptyDict, #[], _, e1, rfl, (fun e he => absurd he (by simp)), fun _ => rfl⟩
 have I1 := I.laid (a := s.heap.objs.size) (o := .own (s.heap.objs.size + 1)) (h' := s.heap.push PySem.W.emptyDict) (t' := s.toks) (fun b u q => Heap.get?_push_of_some _ q) (Nat.le_refl _) ⟨_, e1⟩
 refine I1.laid (a := s.heap.objs.size + 1) (o := .ins C s.heap.objs.size []) (t' := s.toks) (fun b u q => Heap.get?_push_of_some _ q) (Nat.le_of_eq (Heap.size_push _ _)) ?_
 have ne : s.heap.objs.size ≠ s.heap.objs.size + 1 := Nat.ne_of_lt (Nat.lt_succ_self _)
 refine ⟨by rw [aW ne, bO], Nat.zero_le _, ne, e2, fun _ => none, (Heap.Ns1.of_empty e3).at fun o q => Heap.get?_push_of_some _ q, fun _ => True.intro, fun y hy => absurd rfl hy⟩
theorem J1 {prog : Program} {w : World} {env : Env} {e : Expr} {f : Str} {pos : Pos} {s : Shared} {Q : Value -> Shared -> Prop} (hb : attributeBase e f env (eval e env) = eval e env)
  (h : wpAny (model prog w) A (eval e env) (fun o s₁ => wpAny (model prog w) A (getAttr o f true) Q E s₁) E s) : wpAny (model prog w) A (eval (.Attribute e f pos) env) Q E s :=
 Attribute_any_ h (by rw [arm_eval_Attribute, hb])
end
def Rq (K : PySem.W.Frag) (ta : TE) (f : Str) : TE := fun σ H Q => ta σ H fun x H1 => ∃ a C dx fs v, x = .ref a /\ H1 a = some (.ins C dx fs) /\ Cls K C /\ NoAttr K C f /\ fs.lookup f = some v /\ Q v H1
def Rr (K : PySem.W.Frag) (ta tv : TE) (f : Str) : TS := fun D σ H => tv σ H fun y H1 => ta σ H1 fun x H2 => ∃ a C dx fs, x = .ref a /\ H2 a = some (.ins C dx fs) /\ Cls K C /\ NoAttr K C f /\ fs.length < 1000 /\
 D.nx σ (upd H2 a (.ins C dx (jr f y fs)))
section
variable {X : Cx} {o e value : Expr} {f : Str} {pos pos' tpos : Pos} {ta tv : TE}
theorem Mx (he : PE X e ta) (hb : attributeBase e f X.env (eval e X.env) = eval e X.env) : PE X (.Attribute e f pos) (Rq X.K ta f) := by
 intro pins s σ H Q I h
 refine J1 hb (thn (he pins s σ H _ I h) fun u s1 ⟨x, H1, I1, rx, a, C, dx, fs, v, ex, ea, c, n, l, q⟩ => ?_)
 subst ex
 obtain rfl : u = Value.ref a := rx
 exact Dg I1 ea c n l fun u' s2 I2 ru => ⟨v, H1, I2, ru, q⟩
theorem Mz (ha : PE X o ta) (hv : PE X value tv) (hs : swapsWith value (some (.Attribute o f pos')) pos.line X.env = pure false) : PS X (.Assign [.Attribute o f pos'] value pos) (Rr X.K ta tv f) := by
 intro pins s σ H D I h
 refine plainObj_wpAny_Assign_Attribute (thn (hv pins s σ H _ I h) fun u s1 ⟨y, H1, I1, ry, q⟩ => thn (ha pins s1 σ H1 _ I1 q) fun ov s2 ⟨x, H2, I2, rx, a, C, dx, fs, ex, ea, c, n, l, q2⟩ => ?_) hs
 subst ex
 obtain rfl : ov = Value.ref a := rx
 exact Di I2 ea c n l ry fun s3 I3 => ⟨σ, _, I3, q2⟩
end
section
variable {X : Cx} {pins : List (Addr × Obj)} {σ : St} {H : Hp} {s : Shared} {A : Around} {E : Value -> Shared -> Prop} {Q : Value -> Shared -> Prop} {c : Value} {b : Bool}
inductive TyOf (K : PySem.W.Frag) (H : Hp) : V -> Value -> Prop where
 | non : TyOf K H .non (.type "NoneType")
 | bl (x : Bool) : TyOf K H (.bl x) (.type "bool")
 | int (i : Int) : TyOf K H (.int i) (.type "int")
 | str (x : Str) : TyOf K H (.str x) (.type "str")
 | flt (x : UInt64) : TyOf K H (.flt x) (.type "float")
 | lst {a : Addr} {xs : List V} (e : H a = some (.lst xs)) : TyOf K H (.ref a) (.type "list")
 | frz {a : Addr} {o : Obj} {xs : List V} (e : H a = some (.frz o (.lst xs))) : TyOf K H (.ref a) (.type "list")
 | tup {a : Addr} {xs : List V} (e : H a = some (.tup xs)) : TyOf K H (.ref a) (.type "tuple")
 | dK {a : Addr} {kvs : List (Key × V)} (e : H a = some (.dK kvs)) : TyOf K H (.ref a) (.type "dict")
 | dT {a : Addr} {kvs : List (List Key × V)} (e : H a = some (.dT kvs)) : TyOf K H (.ref a) (.type "dict")
 | ins {a C dx : Addr} {fs : List (Str × V)} (e : H a = some (.ins C dx fs)) (cl : Cls K C) (ha : PySem.W.findIn K (.ref C) "__class__" = some (some (.builtin "object.__class__")))
   (hn : PySem.W.specialIn K (.builtin "object.__class__") "__get__" = some (some (.builtin "getset_descriptor.__get__"))) (htk : PySem.W.takesIn K (.builtin "object.__class__") = some true)
   (hm : PySem.W.mroIn K C (.type "object") = some true) : TyOf K H (.ref a) (.ref C)
theorem Ff {x : V} {u t : Value} (I : Inv X pins σ H s) (rx : RelV x u) (ty : TyOf X.K H x t) (e : PySem.W.kitOne X.K t c = some b) (h : ∀ tk, Q (.bool b) { s with toks := tk }) :
  wpAny (model X.prog X.w) A (call (.builtin "isinstance") [u, c]) Q E s := by
 cases ty with
 | non => cases (show u = Value.none from rx); exact PySem.W.kia_one PySem.W.kitx_none I.kIn True.intro e (fun z => nomatch z) h
 | bl y => cases (show u = Value.bool y from rx); exact PySem.W.kia_one PySem.W.kitx_bool I.kIn True.intro e (fun z => nomatch z) h
 | int i => obtain ⟨t, q⟩ := (show ∃ t, u = Value.int i t from rx); cases q; exact PySem.W.kia_one PySem.W.kitx_int I.kIn True.intro e (fun z => nomatch z) h
 | str y => obtain ⟨t, q⟩ := (show ∃ t, u = Value.str y t from rx); cases q; exact PySem.W.kia_one PySem.W.kitx_str I.kIn True.intro e (fun z => nomatch z) h
 | flt y => obtain ⟨t, q⟩ := (show ∃ t, u = Value.float y t from rx); cases q; exact PySem.W.kia_one PySem.W.kitx_float I.kIn True.intro e (fun z => nomatch z) h
 | @lst a xs ea =>
  cases (show u = Value.ref a from rx)
  obtain ⟨_, _, n, _, h1⟩ := (show ObjOk X.prog X.w H s.heap a (.lst xs) from I.hok a _ ea)
  exact PySem.W.kia_one PySem.W.kitx_list I.kIn ⟨_, h1, rfl⟩ e (fun z => nomatch z) h
 | @frz a ob xs ea =>
  cases (show u = Value.ref a from rx)
  obtain ⟨_, _, _, n, _, h1⟩ := (show ObjOk X.prog X.w H s.heap a (.frz ob (.lst xs)) from I.hok a _ ea)
  exact PySem.W.kia_one PySem.W.kitx_list I.kIn ⟨_, h1, rfl⟩ e (fun z => nomatch z) h
 | @tup a xs ea =>
  cases (show u = Value.ref a from rx)
  obtain ⟨_, _, _, p⟩ := (show ObjOk X.prog X.w H s.heap a (.tup xs) from I.hok a _ ea)
  obtain ⟨o, h1, h2, _⟩ := p
  exact PySem.W.kia_one PySem.W.kitx_tuple I.kIn ⟨o, h1, h2⟩ e (fun z => nomatch z) h
 | @dK a kvs ea =>
  cases (show u = Value.ref a from rx)
  obtain ⟨_, _, vs, _, p⟩ := (show ObjOk X.prog X.w H s.heap a (.dK kvs) from I.hok a _ ea)
  obtain ⟨o, es, ep, h1, h2, _⟩ := p
  exact PySem.W.kia_one PySem.W.kitx_dict I.kIn ⟨o, h1, h2.1⟩ e (fun z => nomatch z) h
 | @dT a kvs ea =>
  cases (show u = Value.ref a from rx)
  obtain ⟨_, _, xs, _, o, es, ep, h1, h2, _⟩ := (show ObjOk X.prog X.w H s.heap a (.dT kvs) from I.hok a _ ea)
  exact PySem.W.kia_one PySem.W.kitx_dict I.kIn ⟨o, h1, h2.1⟩ e (fun z => nomatch z) h
 | @ins a C dx fs ea cl ha hn htk hm =>
  cases (show u = Value.ref a from rx)
  obtain ⟨mA, O, _⟩ := um I.hok ea
  obtain ⟨od, J, _⟩ := O.look
  exact PySem.W.kia_one (PySem.W.kitx_own (cl.get _) cl.hd ha hn htk hm) I.kIn J e (fun z => nomatch z) h
end
end L2
namespace L2
open PySem PySem.Spec PyProof.Rows
structure Room (k : Nat) (A : Around) : Prop where
 hd : A.handled = none
 dp : A.depth + 3 * k + 5 < recursionLimit
 un : A.units + 16 * k + 200 < cLine
theorem Room.mono {j k : Nat} {A : Around} (r : Room k A) (h : j <= k) : Room j A := ⟨r.hd, by have := r.dp; omega, by have := r.un; omega⟩
theorem Room.deeper {k : Nat} {A : Around} (r : Room (k + 1) A) (env : Env) : Room k (A.deeper env) :=
 ⟨r.hd, by have := r.dp; show A.depth + 1 + 3 * k + 5 < _; omega, by have := r.un; show A.units + 3 + 16 * k + 200 < _; omega⟩
theorem Room.in1 {k : Nat} {A : Around} (r : Room (k + 1) A) : Room k A.in1 :=
 ⟨r.hd, by have := r.dp; show A.depth + 3 * k + 5 < _; omega, by have := r.un; show A.units + 1 + 16 * k + 200 < _; omega⟩
theorem Dj {A : Around} {C : Addr} {us : List Value} {kw : List (Str × Value)} : (A.under (.builtin "type.__call__" ⟨.ref C :: us, kw⟩)).depth = A.depth + 1 := by
 first | rfl | simp [Around.under, Code.weight, Code.isCreation, Code.isGuard, Code.isCaller, Code.frames, Code.isFrame, guardIds]
theorem Dk {A : Around} {C : Addr} {us : List Value} {kw : List (Str × Value)} : (A.under (.builtin "type.__call__" ⟨.ref C :: us, kw⟩)).units = A.units + 1 := by
 first | rfl | simp [Around.under, Code.cUnits, Code.frames, Code.isFrame]
theorem Room.make {k : Nat} {A : Around} (r : Room (k + 1) A) (C : Addr) (us : List Value) (kw : List (Str × Value)) : Room k (A.under (.builtin "type.__call__" ⟨.ref C :: us, kw⟩)) :=
 ⟨r.hd, by have := r.dp; rw [Dj]; omega, by have := r.un; rw [Dk]; omega⟩
theorem Room.depth {k : Nat} {A : Around} (r : Room k A) : A.depth < recursionLimit := by have := r.dp; omega
theorem Room.units {k : Nat} {A : Around} (r : Room k A) : A.units + 64 < cLine := by have := r.un; omega
def Rt : TA := fun _ H Q => Q [] H
def Qd (ta : TE) (tr : TA) : TA := fun σ H Q => ta σ H fun x H1 => tr σ H1 fun xs H2 => Q (x :: xs) H2
section
variable {X : Cx} {e : Expr} {es : List Expr} {te : TE} {t : TA} {pos : Pos}
theorem jJ : PA X [] Rt := fun _ _ _ _ H Q I h => Calls.spliced_nil ⟨[], H, I, .nil, h⟩
theorem fL (ha : PE X e te) (hr : PA X es t) (hs : starEach (e :: es) X.env = (false, eval e X.env) :: starEach es X.env := by rfl) : PA X (e :: es) (Qd te t) := by
 intro pos pins s σ H Q I h
 rw [hs]
 show wpAny _ _ (spliced ((false, eval e X.env) :: backTo pos (starEach es X.env))) _ _ s
 refine Calls.spliced_cons (thn (ha pins s σ H _ I h) fun u s1 ⟨x, H1, I1, r1, q1⟩ => ?_)
 exact thn (hr pos pins s1 σ H1 _ I1 q1) fun us s2 ⟨xs, H2, I2, r2, q2⟩ => ⟨x :: xs, H2, I2, .cons r1 r2, q2⟩
def Ru (t : TA) : TE := fun σ H Q => t σ H fun xs H1 => xs.length <= sizeLine /\ ∀ p, H1 p = none -> Q (.ref p) (upd H1 p (.tup xs))
def Rv (t : TA) : TE := fun σ H Q => t σ H fun xs H1 => xs.length <= sizeLine /\ ∀ p, H1 p = none -> Q (.ref p) (upd H1 p (.lst xs))
theorem Fg {x1} (h : PA X es t) : PE X (.Tuple es x1 pos) (Ru t) := by
 intro pins s σ H Q I hq
 refine wpAny_Tuple_spliced (thn (h pos pins s σ H _ I hq) fun us s1 ⟨xs, H1, I1, r, z, q⟩ => ⟨by rw [← r.length]; exact z, ?_⟩)
 have hf : H1 s1.heap.objs.size = none := I1.hok.fresh (Nat.le_refl _)
 refine ⟨.ref s1.heap.objs.size, upd H1 s1.heap.objs.size (.tup xs), I1.laid (t' := s1.toks) (fun b u e => Heap.get?_push_of_some _ e) (Nat.le_refl _) ?_, rfl, q _ hf⟩
 exact ⟨z, us, r, ⟨_, Heap.get?_push_size _ rfl, rfl, _, rfl⟩⟩
theorem Fi (h : PA X es t) : PE X (.List es pos) (Rv t) := by
 intro pins s σ H Q I hq
 refine wpAny_List_spliced (thn (h pos pins s σ H _ I hq) fun us s1 ⟨xs, H1, I1, r, z, q⟩ => ⟨by rw [← r.length]; exact z, ?_⟩)
 have hf : H1 s1.heap.objs.size = none := I1.hok.fresh (Nat.le_refl _)
 refine ⟨.ref s1.heap.objs.size, upd H1 s1.heap.objs.size (.lst xs), I1.laid (t' := s1.toks) (fun b u e => Heap.get?_push_of_some _ e) (Nat.le_refl _) ?_, rfl, q _ hf⟩
 exact ⟨z, us, 0, r, Heap.get?_push_size _ rfl⟩
end
abbrev Sp := List V -> Hp -> VK -> XK -> Prop
abbrev CXT := List Env -> Hp -> Shared -> XK -> Value -> Shared -> Prop
structure Env0 (P : Program) (w : World) (K : PySem.W.Frag) (mg : Str -> Option Value) (base : Heap) (A : Around) (outer : List Env) (s : Shared) (H : Hp) : Prop where
 frames : A.frames = some outer
 mod : Mod K mg base
 bs : ∀ b o, base.get? b = some o -> s.heap.get? b = some o /\ H b = none
 bsz : base.objs.size <= s.heap.objs.size
 funs : s.heap.FunFrames base outer
 frf : ∀ b ∈ frs outer, H b = none
 hok : HOk P w H s.heap
 bare : AllBare s.gens
def CE (outer : List Env) (P : Program) (w : World) (H : Hp) (s : Shared) (Q : VK) (u : Value) (s' : Shared) : Prop :=
 ∃ v H', s'.os = s.os /\ AllBare s'.gens /\ Un (frs outer) [] H H' s.heap s'.heap /\ HOk P w H' s'.heap /\ RelV v u /\ Q v H'
def CR (CX : CXT) (outer : List Env) (P : Program) (w : World) (H : Hp) (s : Shared) (Q : VK) (E : XK) (r : Result) (s' : Shared) : Prop :=
 match r with
 | .ok (.ret u) => CE outer P w H s Q u s'
 | .ok _ => False
 | .error e => CX outer H s E e s'
structure FnOk (P : Program) (w : World) (K : PySem.W.Frag) (mg : Str -> Option Value) (base : Heap) (CX : CXT) (k : Nat) (f : Addr) (fd : FuncData) (ps : List Str) (sp : Sp) : Prop where
 len : ∀ vs H Q E, sp vs H Q E -> vs.length = ps.length
 run : ∀ (A : Around) (outer : List Env) (s : Shared) (H : Hp) (args : Args) (us : List Value) (vs : List V) (Q : VK) (E : XK), Room k A -> Env0 P w K mg base A outer s H -> BindsTo s fd args (ps.zip us) -> Vals vs us -> sp vs H Q E ->
  codeAny (model P w) A (.call (.ref f) args) (CR CX outer P w H s Q E) s
theorem FnOk.mono {P : Program} {w : World} {K : PySem.W.Frag} {mg : Str -> Option Value} {base : Heap} {CX : CXT} {j k : Nat} {f : Addr} {fd : FuncData} {ps : List Str} {sp : Sp} (F : FnOk P w K mg base CX j f fd ps sp) (h : j <= k) :
  FnOk P w K mg base CX k f fd ps sp := ⟨F.len, fun A outer s H args us vs Q E hr => F.run A outer s H args us vs Q E (hr.mono h)⟩
theorem FnOk.imp {P : Program} {w : World} {K : PySem.W.Frag} {mg : Str -> Option Value} {base : Heap} {CX : CXT} {k : Nat} {f : Addr} {fd : FuncData} {ps : List Str} {sp sp' : Sp} (F : FnOk P w K mg base CX k f fd ps sp)
  (h : ∀ vs H Q E, sp' vs H Q E -> sp vs H Q E) : FnOk P w K mg base CX k f fd ps sp' :=
 ⟨fun vs H Q E q => F.len vs H Q E (h _ _ _ _ q), fun A outer s H args us vs Q E hr he hb hv hs => F.run A outer s H args us vs Q E hr he hb hv (h _ _ _ _ hs)⟩
theorem Env0.make {P : Program} {w : World} {K : PySem.W.Frag} {mg : Str -> Option Value} {base : Heap} {A : Around} {outer : List Env} {s : Shared} {H : Hp} (e : Env0 P w K mg base A outer s H) (C : Addr) (us : List Value) (kw : List (Str × Value)) :
  Env0 P w K mg base (A.under (.builtin "type.__call__" ⟨.ref C :: us, kw⟩)) outer s H := ⟨by first | exact e.frames | (simpa [Around.under, Code.envs, Code.isFrame, pushEnvs] using e.frames), e.mod, e.bs, e.bsz, e.funs, e.frf, e.hok, e.bare⟩
theorem Env0.in1 {P : Program} {w : World} {K : PySem.W.Frag} {mg : Str -> Option Value} {base : Heap} {A : Around} {outer : List Env} {s : Shared} {H : Hp} (e : Env0 P w K mg base A outer s H) :
  Env0 P w K mg base A.in1 outer s H := ⟨e.frames, e.mod, e.bs, e.bsz, e.funs, e.frf, e.hok, e.bare⟩
section
variable {X : Cx} {pins : List (Addr × Obj)} {σ : St} {H : Hp} {s s' : Shared}
theorem Inv.env0 (I : Inv X pins σ H s) : Env0 X.prog X.w X.K X.mg X.base X.A X.stack s H :=
 ⟨I.ok.frames, I.ok.mod, I.bs, Nat.le_trans I.ok.bsz I.sz, I.stack, I.stkFree, I.hok, I.bare⟩
theorem Inv.after {Q : VK} {u : Value} (I : Inv X pins σ H s) (h : CE X.stack X.prog X.w H s Q u s') : EP X pins σ Q u s' := by
 obtain ⟨v, H', os, bare, un, hok, r, q⟩ := h
 obtain ⟨hh, g, d, t, os'⟩ := s'
 obtain rfl : os' = s.os := os
 exact ⟨v, H', I.call (h' := hh) (g' := g) (d' := d) (t' := t) (ch := []) un hok bare (fun b z => absurd z (by simp)), r, q⟩
end
def Js (sp : Sp) (dvs : List V) (E : XK) (t : TA) : TE := fun σ H Q => t σ H fun vs H1 => sp (vs ++ dvs) H1 Q E
def Qe (C : Addr) (m : Str) (sp : Sp) (dvs : List V) (E : XK) (ta : TE) (t : TA) : TE := fun σ H Q => ta σ H fun x H1 => ∃ a dx fs, x = .ref a /\ H1 a = some (.ins C dx fs) /\ fs.lookup m = none /\
 t σ H1 fun vs H2 => sp (x :: (vs ++ dvs)) H2 Q E
def Jt (C : Addr) (sp : Sp) (dvs : List V) (E : XK) (t : TA) : TE := fun σ H Q => t σ H fun vs H1 => ∀ x dx, H1 x = none -> H1 dx = none -> dx ≠ x ->
 sp (.ref x :: (vs ++ dvs)) (upd (upd H1 dx (.own x)) x (.ins C dx [])) (fun v H2 => v = .non /\ Q (.ref x) H2) E
def Binds (K : PySem.W.Frag) (fd : FuncData) (ps : List Str) (ds : List Value) : Prop :=
 ∀ (s : Shared) (us : List Value), K.In s.heap -> (us ++ ds).length = ps.length -> BindsTo s fd ⟨us, []⟩ (ps.zip (us ++ ds))
theorem Binds.all {K : PySem.W.Frag} {fd : FuncData} {ps : List Str} (h : ∀ us : List Value, us.length = ps.length -> bindArgs fd ⟨us, []⟩ = pure (ps.zip us)) : Binds K fd ps [] := fun s us _ hl => by
 rw [List.append_nil] at hl ⊢
 exact .of_eq (h us hl)
def qK (CX : CXT) (X : Cx) (E : XK) : Prop := ∀ (pins : List (Addr × Obj)) (σ : St) (H : Hp) (s : Shared) (e : Value) (s' : Shared), Inv X pins σ H s -> CX X.stack H s E e s' -> X.xe e s'
section
variable {X : Cx} {CX : CXT} {k : Nat} {f C : Addr} {fd : FuncData} {ps : List Str} {sp : Sp} {dvs : List V} {ds : List Value} {E : XK} {x m : Str} {p pos apos : Pos} {e o : Expr} {es : List Expr} {ta : TE} {t : TA}
theorem Fj {pins : List (Addr × Obj)} {σ : St} {H : Hp} {s : Shared} {Q : VK} {us : List Value} {vs : List V} (F : FnOk X.prog X.w X.K X.mg X.base CX k f fd ps sp) (hr : Room k X.A) (hb : Binds X.K fd ps ds) (hd : Vals dvs ds) (hx : qK CX X E)
  (I : Inv X pins σ H s) (r : Vals vs us) (h : sp (vs ++ dvs) H Q E) : wpAny (model X.prog X.w) X.A (call (.ref f) us) (EP X pins σ Q) X.xe s := by
 have r2 : Vals (vs ++ dvs) (us ++ ds) := r.append hd
 have hl : (us ++ ds).length = ps.length := by rw [← r2.length]; exact F.len _ _ _ _ h
 refine wpAny_call (codeAny_mono (F.run X.A X.stack s H ⟨us, []⟩ (us ++ ds) (vs ++ dvs) Q E hr I.env0 (hb s us I.kIn hl) r2 h) fun r s' hq => ?_)
 cases r with
 | error e => exact hx pins σ H s e s' I hq
 | ok fl =>
  cases fl with
  | ret u => exact I.after hq
  | next => exact False.elim hq
  | brk => exact False.elim hq
  | cont => exact False.elim hq
theorem J2 (F : FnOk X.prog X.w X.K X.mg X.base CX k f fd ps sp) (hr : Room k X.A) (hg : Gl X x) (hm : X.mg x = some (.ref f)) (hk : PySem.W.keepIn X.K (.ref f) = true) (hb : Binds X.K fd ps ds) (hd : Vals dvs ds) (hx : qK CX X E)
  (ha : PA X (e :: es) t) (hdb : (x == ("__debug__" : Str)) = false := by decide) (he : starEach (e :: es) X.env = (false, eval e X.env) :: starEach es X.env := by rfl) (hpl : (backTo pos (starEach es X.env)).any (·.1) = false := by rfl) :
  PE X (.Call (.Name x p) (e :: es) [] pos) (Js sp dvs E t) := by
 intro pins s σ H Q I h
 refine wpAny_Call_Name_kw (wG I hg hm ?_ hdb)
 refine PySem.W.callWith_K (h₀ := X.base) I.ok.mod.kin hk (thn (ha pos pins s σ H _ I h) fun us s1 ⟨vs, H1, I1, r, q⟩ => ⟨I1.kIn, ?_⟩) he hpl
 exact Fj F hr hb hd hx I1 r q
theorem J3 {pl : Sem Bool} (he : PE X o ta) (c : Cls X.K C) (hm : Meth X.K C m f) (F : FnOk X.prog X.w X.K X.mg X.base CX k f fd ps sp) (hr : Room k X.A) (hb : Binds X.K fd ps ds) (hd : Vals dvs ds) (hx : qK CX X E) (ha : PA X (e :: es) t)
  (hst : starEach (e :: es) X.env = (false, eval e X.env) :: starEach es X.env := by rfl) (hpl : (backTo pos (starEach es X.env)).any (·.1) = false := by rfl)
  (ht : eval (.Call (.Attribute o m apos) (e :: es) [] pos) X.env = (do
   let ov ← eval o X.env
   standAt apos.atName
   let (f, first) ← holding [ov] (getMethod ov m pl)
   callWith pos f first (backTo pos (starEach (e :: es) X.env)) (backToKw pos (keywordEach [] X.env))) := by rfl) :
  PE X (.Call (.Attribute o m apos) (e :: es) [] pos) (Qe C m sp dvs E ta t) := by
 intro pins s σ H Q I h
 refine PySem.W.methodCall_KW (pl := pl) (thn (he pins s σ H _ I h) fun u s1 ⟨x, H1, I1, rx, a, dx, fs, ex, ea, l, q⟩ => ?_) ht
 subst ex
 obtain rfl : u = Value.ref a := rx
 refine Dh I1 ea c hm l ?_
 refine PySem.W.callWith_K (first := [.ref a]) (h₀ := X.base) I.ok.mod.kin hm.kp (thn (ha pos pins s1 σ H1 _ I1 q) fun us s2 ⟨vs, H2, I2, r, q2⟩ => ⟨I2.kIn, ?_⟩) hst hpl
 exact Fj (us := .ref a :: us) (vs := .ref a :: vs) F hr hb hd hx I2 (.cons rfl r) q2
structure Mk (K : PySem.W.Frag) (C f : Addr) : Prop where
 makes : PySem.W.makesIn K C = true
 init : PySem.W.findIn K (.ref C) "__init__" = some (some (.ref f))
 fn : PySem.W.isFn K (.ref f) = true
 kp : PySem.W.keepIn K (.ref C) = true
theorem Ho {pins : List (Addr × Obj)} {σ : St} {H : Hp} {s : Shared} {Q : VK} {us : List Value} {vs : List V} (M : Mk X.K C f) (F : FnOk X.prog X.w X.K X.mg X.base CX k f fd ps sp) (hr : Room (k + 1) X.A) (hb : Binds X.K fd ps ds) (hd : Vals dvs ds)
  (hx : qK CX X E) (I : Inv X pins σ H s) (r : Vals vs us)
  (h : ∀ x dx, H x = none -> H dx = none -> dx ≠ x -> sp (.ref x :: (vs ++ dvs)) (upd (upd H dx (.own x)) x (.ins C dx [])) (fun v H2 => v = .non /\ Q (.ref x) H2) E) :
  wpAny (model X.prog X.w) X.A (call (.ref C) us) (EP X pins σ Q) X.xe s := by
 have hq := h (s.heap.objs.size + 1) s.heap.objs.size (I.hok.fresh (Nat.le_succ _)) (I.hok.fresh (Nat.le_refl _)) (Nat.ne_of_lt (Nat.lt_succ_self _))
 have I2 := Inv.made (C := C) I
 have r2 : Vals (V.ref (s.heap.objs.size + 1) :: (vs ++ dvs)) (Value.ref (s.heap.objs.size + 1) :: (us ++ ds)) := .cons rfl (r.append hd)
 have hl : (Value.ref (s.heap.objs.size + 1) :: us ++ ds).length = ps.length := by
  have e := r2.length
  rw [F.len _ _ _ _ hq] at e
  exact e.symm
 refine wpAny_call (Hn (f := f) I.kIn M.makes M.init (beq_iff_eq.mp M.fn) (codeAny_mono (F.run _ X.stack _ _ ⟨Value.ref (s.heap.objs.size + 1) :: us, []⟩ (Value.ref (s.heap.objs.size + 1) :: (us ++ ds)) _ _ E (hr.make C us [])
  (I2.env0.make C us []) (hb _ (Value.ref (s.heap.objs.size + 1) :: us) I2.kIn hl) r2 hq) fun r s' hq' => ?_))
 cases r with
 | error e => exact hx pins σ _ _ e s' I2 hq'
 | ok fl =>
  cases fl with
  | ret u =>
   obtain ⟨v, H', I3, rv, ev, q3⟩ := I2.after hq'
   subst ev
   exact ⟨rv, ⟨V.ref (s.heap.objs.size + 1), H', I3, rfl, q3⟩⟩
  | next => exact False.elim hq'
  | brk => exact False.elim hq'
  | cont => exact False.elim hq'
theorem J4 (M : Mk X.K C f) (F : FnOk X.prog X.w X.K X.mg X.base CX k f fd ps sp) (hr : Room (k + 1) X.A) (hg : Gl X x) (hm : X.mg x = some (.ref C)) (hb : Binds X.K fd ps ds) (hd : Vals dvs ds) (hx : qK CX X E)
  (ha : PA X (e :: es) t) (hdb : (x == ("__debug__" : Str)) = false := by decide) (he : starEach (e :: es) X.env = (false, eval e X.env) :: starEach es X.env := by rfl) (hpl : (backTo pos (starEach es X.env)).any (·.1) = false := by rfl) :
  PE X (.Call (.Name x p) (e :: es) [] pos) (Jt C sp dvs E t) := by
 intro pins s σ H Q I h
 refine wpAny_Call_Name_kw (wG I hg hm ?_ hdb)
 refine PySem.W.callWith_K (h₀ := X.base) I.ok.mod.kin M.kp (thn (ha pos pins s σ H _ I h) fun us s1 ⟨vs, H1, I1, r, q⟩ => ⟨I1.kIn, ?_⟩) he hpl
 exact Ho M F hr hb hd hx I1 r q
end
def PK (X : Cx) (kws : List Keyword) (t : TA) : Prop :=
 ∀ (pos : Pos) (pins : List (Addr × Obj)) (s : Shared) (σ : St) (H : Hp) (Q : List V -> Hp -> Prop), Inv X pins σ H s -> t σ H Q -> wpAny (model X.prog X.w) X.A (evalAll ((backToKw pos (keywordEach kws X.env)).map (·.2))) (AP X pins σ Q) X.xe s
section
variable {X : Cx} {CX : CXT} {k : Nat} {f C : Addr} {fd : FuncData} {ps ks : List Str} {sp : Sp} {E : XK} {x m : Str} {p pos apos kpos : Pos} {e o : Expr} {es : List Expr} {kws : List Keyword} {te ta : TE} {t tk : TA} {nm : Option Str}
variable {g : List Value -> List Value -> List Value} {gV : List V -> List V -> List V}
end
structure FnScope (N P : List Str) (sc : Scope) : Prop where
 kind : sc.kind = .function
 co : sc.isCoroutine = false
 gen : sc.isGenerator = false
 nd : N.Nodup
 pre : N.take P.length = P
 par : ∀ x ∈ P, sc.names.lookup x = some .local \/ sc.names.lookup x = some .cell
 nofree : ∀ y ∈ sc.names, y.2 ≠ .free
theorem xJ {kindOf : Str -> Option NameKind} {x : Str} : ∀ {binds : List (Str × Value)} {m : Str -> Option Value}, (∀ v, (x, v) ∉ binds) -> bindL kindOf binds m x = m x
 | [], _, _ => rfl
 | (n, v) :: r, m, h => by
  unfold bindL
  rw [xJ fun w hw => h w (List.mem_cons_of_mem _ hw)]
  split
  ·have : x ≠ n := by rintro rfl; exact h v List.mem_cons_self
   simp [this]
  ·rfl
theorem xK {kindOf : Str -> Option NameKind} {x : Str} : ∀ {binds : List (Str × Value)} {m : Str -> Option Value}, (∀ v, (x, v) ∉ binds) -> bindC kindOf binds m x = m x
 | [], _, _ => rfl
 | (n, v) :: r, m, h => by
  unfold bindC
  rw [xK fun w hw => h w (List.mem_cons_of_mem _ hw)]
  split
  ·rfl
  ·have : x ≠ n := by rintro rfl; exact h v List.mem_cons_self
   simp [this]
theorem xM {kindOf : Str -> Option NameKind} {x : Str} {v : Value} : ∀ {P : List Str} {vs : List Value} {i : Nat} {m : Str -> Option Value}, P.Nodup -> P[i]? = some x -> vs[i]? = some v -> kindOf x = some .local ->
  bindL kindOf (P.zip vs) m x = some v
 | [], _, _, _, _, h, _, _ => by simp at h
 | _ :: _, [], _, _, _, _, h, _ => by simp at h
 | p :: P, w :: vs, 0, m, nd, h1, h2, hk => by
  simp at h1 h2; subst h1; subst h2
  show bindL kindOf ((p, w) :: P.zip vs) m p = _
  unfold bindL
  rw [xJ fun v hv => (List.nodup_cons.mp nd).1 (List.of_mem_zip hv).1, if_pos hk]
  simp
 | p :: P, w :: vs, i + 1, m, nd, h1, h2, hk => by
  show bindL kindOf ((p, w) :: P.zip vs) m x = _
  unfold bindL
  exact xM (i := i) (List.nodup_cons.mp nd).2 (by simpa using h1) (by simpa using h2) hk
theorem xN {kindOf : Str -> Option NameKind} {x : Str} {v : Value} : ∀ {P : List Str} {vs : List Value} {i : Nat} {m : Str -> Option Value}, P.Nodup -> P[i]? = some x -> vs[i]? = some v -> kindOf x ≠ some .local ->
  bindC kindOf (P.zip vs) m x = some v
 | [], _, _, _, _, h, _, _ => by simp at h
 | _ :: _, [], _, _, _, _, h, _ => by simp at h
 | p :: P, w :: vs, 0, m, nd, h1, h2, hk => by
  simp at h1 h2; subst h1; subst h2
  show bindC kindOf ((p, w) :: P.zip vs) m p = _
  unfold bindC
  rw [xK fun v hv => (List.nodup_cons.mp nd).1 (List.of_mem_zip hv).1, if_neg hk]
  simp
 | p :: P, w :: vs, i + 1, m, nd, h1, h2, hk => by
  show bindC kindOf ((p, w) :: P.zip vs) m x = _
  unfold bindC
  exact xN (i := i) (List.nodup_cons.mp nd).2 (by simpa using h1) (by simpa using h2) hk
def start (N : List Str) (vs : List V) : St := vs.map some ++ List.replicate (N.length - vs.length) none
def u0 (CX : CXT) (P : Program) (w : World) (K : PySem.W.Frag) (mg : Str -> Option Value) (base : Heap) (N : List Str) (qual : Str) (scope : Scope) (f : Addr) (cd : Value) (A : Around) (outer : List Env) (s : Shared) (H : Hp) (E : XK) : Cx where
 prog := P
 w := w
 K := K
 mg := mg
 base := base
 A := A.deeper (envOfC qual scope s.heap.objs.size f cd)
 N := N
 s₀ := s
 H₀ := H
 env := envOfC qual scope s.heap.objs.size f cd
 outer := outer
 stack := envOfC qual scope s.heap.objs.size f cd :: outer
 ex := []
 calm := true
 fn := fun _ => true
 pn := []
 xe := fun e s' => wpAny (model P w) (A.deeper (envOfC qual scope s.heap.objs.size f cd)) (leaving (envOfC qual scope s.heap.objs.size f cd) e) (fun _ s'' => CX outer H s E e s'') (fun e' s'' => CX outer H s E e' s'') s'
theorem zr {sc : Scope} {n : Nat} {x : Str} (h : sc.names.lookup x = some .cell) : ∃ c, (cellsFrom n sc.names []).lookup x = some c := by
 have q := PySem.W.cellsFrom_some sc.names n [] (.inl h)
 exact Option.isSome_iff_exists.mp q
theorem Fl {CX : CXT} {P : Program} {w : World} {K : PySem.W.Frag} {mg : Str -> Option Value} {base : Heap} {N ps : List Str} {qual : Str} {scope : Scope} {f : Addr} {cd : Value} {A : Around} {outer : List Env} {s s1 : Shared} {H : Hp} {E : XK} {us : List Value} {vs : List V}
  (S : FnScope N ps scope) (hd : A.handled = none) (e0 : Env0 P w K mg base A outer s H) (hl : vs.length = ps.length) (r : Vals vs us)
  (x : InCallC s s.heap.objs.size (bindL (envOfC qual scope s.heap.objs.size f cd).kindOf (ps.zip us) fun _ => none) (cellsFrom (s.heap.objs.size + 1) scope.names []) (bindC (envOfC qual scope s.heap.objs.size f cd).kindOf (ps.zip us) fun _ => none) s1) :
  Inv (u0 CX P w K mg base N qual scope f cd A outer s H E) [] (start N vs) H s1 := by
 have hpl : ps.length <= N.length := by have := congrArg List.length S.pre; rw [List.length_take] at this; omega
 obtain ⟨h1, tk, rfl, hk⟩ := x.done
 have noA : ∀ b : Addr, b ∉ (u0 CX P w K mg base N qual scope f cd A outer s H E).ex := fun b z => absurd (show b ∈ ([] : List Addr) from z) (by simp)
 refine ⟨⟨e0.mod, S.kind, rfl, rfl, Nat.le_refl _, fun y z c h1 h2 => ?_, fun y hy => ?_, fun y c _ h => ?_, fun _ => hd, Around.frames_deeper e0.frames, .inr ⟨rfl, rfl⟩, fun b z => absurd z (noA b), e0.bs, e0.bsz, fun b _ _ => noA b, fun b z => absurd z (noA b), e0.funs, e0.frf⟩,
  rfl, e0.bare, Un.kept hk, ⟨_, x.toInCall.ns, fun i y v h1 h2 h3 => ?_⟩, fun y c h => ⟨_, x.cell y c h⟩, e0.hok.fresh (Nat.le_refl _), fun y c h => ?_, fun p hp => absurd (show p ∈ ([] : List (Addr × Obj)) from hp) (by simp), e0.hok.kept hk, ?_⟩
 ·exact name_of_addr x.apart (PySem.mem_of_lookup h1) (PySem.mem_of_lookup h2)
 ·have hy : scope.names.lookup y = some .cell \/ scope.names.lookup y = some .free := hy
  rcases hy with hy | hy
  ·exact zr hy
  ·exact absurd rfl (S.nofree _ (PySem.mem_of_lookup hy))
 ·exact Nat.le_of_lt (x.above y c (PySem.mem_of_lookup h))
 ·have hi : i < vs.length := by
   unfold start at h2
   by_cases hi : i < vs.length
   ·exact hi
   ·rw [List.getElem?_append_right (by simpa using hi)] at h2
    rw [List.getElem?_replicate] at h2
    split at h2 <;> cases h2
  have ha : vs[i]? = some v := by
   unfold start at h2
   rw [List.getElem?_append_left (by simpa using hi), List.getElem?_map] at h2
   cases e : vs[i]? with
   | none => rw [e] at h2; cases h2
   | some a => rw [e] at h2; cases h2; rfl
  obtain ⟨u, hu, rv⟩ := r.get ha
  have hp : ps[i]? = some y := by
   rw [← S.pre, List.getElem?_take_of_lt (by omega)]; exact h1
  have ndP : ps.Nodup := by rw [← S.pre]; exact S.nd.sublist (List.take_sublist _ _)
  refine ⟨u, rv, ?_⟩
  rcases S.par y (List.mem_of_getElem? hp) with k | k
  ·exact .inl ⟨k, xM ndP hp hu k⟩
  ·obtain ⟨c, e⟩ := zr (n := s.heap.objs.size + 1) k
   refine .inr ⟨.inl k, c, e, ?_⟩
   have q := x.cell y c e
   rw [xN ndP hp hu (by show scope.names.lookup y ≠ _; rw [k]; decide)] at q
   exact q
 ·exact e0.hok.fresh (Nat.le_of_lt (x.above y c (PySem.mem_of_lookup h)))
 ·unfold start
  show _ = N.length
  rw [List.length_append, List.length_map, List.length_replicate]
  omega
theorem Qf {CX : CXT} {P : Program} {w : World} {K : PySem.W.Frag} {mg : Str -> Option Value} {base : Heap} {k : Nat} {f : Addr} {name qual : Str} {params : Arguments} {body : List Stmt} {scope : Scope} {dV kV doc pm cdv ct oc : Value} {an od : Option Addr}
  {osl : Array (Option Value)} {N ps : List Str} {sp : Sp} (lk : K.lookup f = some ⟨oc, od, .func (PySem.W.fnOf name qual params body scope dV kV doc pm an cdv ct), osl⟩) (hcd : PySem.W.codeIn K cdv qual = true) (S : FnScope N ps scope)
  (len : ∀ vs H Q E, sp vs H Q E -> vs.length = ps.length)
  (hbody : ∀ (A : Around) (outer : List Env) (s : Shared) (H : Hp) (vs : List V) (Q : VK) (E : XK), Room k (A.deeper (envOfC qual scope s.heap.objs.size f cdv)) -> sp vs H Q E ->
   ∃ t, PSs (u0 CX P w K mg base N qual scope f cdv A outer s H E) body t /\ t { nx := fun _ H' => Q .non H', rt := Q } (start N vs) H) :
  FnOk P w K mg base CX (k + 1) f (PySem.W.fnOf name qual params body scope dV kV doc pm an cdv ct) ps sp := by
 refine ⟨len, fun A outer s H args us vs Q E hr e0 hb r hsp => ?_⟩
 have hl := len _ _ _ _ hsp
 have KX : K.In s.heap := e0.mod.kin.keeps fun b o e => (e0.bs b o e).1
 have lim : s.heap.NoLimit := e0.mod.nolimit.keeps fun b o e => (e0.bs b o e).1
 have hkind : ∀ y ∈ ps.zip us, scope.names.lookup y.1 = some .local \/ (scope.names.lookup y.1 = some .cell /\ ((cellsFrom (s.heap.objs.size + 1) scope.names []).lookup y.1).isSome = true) := fun ⟨n, v⟩ hy => by
  rcases S.par n (List.of_mem_zip hy).1 with q | q
  ·exact .inl q
  ·exact .inr ⟨q, PySem.W.cellsFrom_some _ _ _ (.inl q)⟩
 refine codeAny_call_function hr.depth (KX _ _ lk) rfl S.co S.gen rfl (PySem.W.codeRec_of KX hcd) (hb _ _ _ _ ?_)
 refine wpAny_newFunctionEnv_cells S.kind hkind fun env he s1 x => ?_
 subst he
 refine ⟨lim.keeps x.toInCall.keep, codeAny_func ?_⟩
 obtain ⟨t, ht, hq⟩ := hbody A outer s H vs Q E (hr.deeper _) hsp
 have I : Inv (u0 CX P w K mg base N qual scope f cdv A outer s H E) [] (start N vs) H s1 := Fl S hr.hd e0 hl r x
 refine wpAny_mono (ht [] s1 (start N vs) H _ I hq) (fun fl s' hs => ?_) fun e s' hs => hs
 have fin : ∀ {σ' : St} {H' : Hp} {v : V} {u : Value}, Inv (u0 CX P w K mg base N qual scope f cdv A outer s H E) [] σ' H' s' -> RelV v u -> Q v H' -> CE outer P w H s Q u s' :=
  fun {σ' H' v u} J rv q => ⟨v, H', J.os, J.bare, J.base, J.hok, rv, q⟩
 cases fl with
 | ret u =>
  obtain ⟨v, σ', H', J, rv, q⟩ := hs
  exact fin J rv q
 | next =>
  obtain ⟨σ', H', J, q⟩ := hs
  exact fin (v := V.non) (u := Value.none) J rfl q
 | brk =>
  obtain ⟨_, _, _, q⟩ := hs
  exact False.elim q
 | cont =>
  obtain ⟨_, _, _, q⟩ := hs
  exact False.elim q
end L2
namespace L2
open PySem PySem.Spec PyProof.Rows
section
variable {X : Cx} {x : Str} {p pos : Pos} {e : Expr} {es : List Expr} {t : TA} {id T : String} {r : List V -> Hp -> VK -> Prop}
def tCB (r : List V -> Hp -> VK -> Prop) (t : TA) : TE := fun σ H Q => t σ H fun vs H1 => r vs H1 Q
theorem zu (hc : CallR X (.builtin id) r) (hg : Gl X x) (hm : X.mg x = none) (hv : bootBuiltins x = some (.builtin id)) (ha : PA X (e :: es) t) (hn : x ≠ "__name__" := by decide) (hdb : (x == ("__debug__" : Str)) = false := by decide)
  (he : starEach (e :: es) X.env = (false, eval e X.env) :: starEach es X.env := by rfl) (hpl : (backTo pos (starEach es X.env)).any (·.1) = false := by rfl) : PE X (.Call (.Name x p) (e :: es) [] pos) (tCB r t) := by
 intro pins s σ H Q I h
 refine wpAny_Call_Name_kw (qI I hg hm hv ?_ hn hdb)
 exact PyProof.Rows.callWith_builtin1 (thn (ha pos pins s σ H _ I h) fun us s1 ⟨vs, H1, I1, r1, q1⟩ => hc pins s1 σ H1 vs us Q I1 r1 q1) he hpl
theorem Fo (hc : CallR X (.type T) r) (hg : Gl X x) (hm : X.mg x = none) (hv : bootBuiltins x = some (.type T)) (ha : PA X (e :: es) t) (hn : x ≠ "__name__" := by decide) (hdb : (x == ("__debug__" : Str)) = false := by decide)
  (he : starEach (e :: es) X.env = (false, eval e X.env) :: starEach es X.env := by rfl) (hpl : (backTo pos (starEach es X.env)).any (·.1) = false := by rfl) : PE X (.Call (.Name x p) (e :: es) [] pos) (tCB r t) := by
 intro pins s σ H Q I h
 refine wpAny_Call_Name_kw (qI I hg hm hv ?_ hn hdb)
 exact PyProof.Rows.callWith_type1 (thn (ha pos pins s σ H _ I h) fun us s1 ⟨vs, H1, I1, r1, q1⟩ => hc pins s1 σ H1 vs us Q I1 r1 q1) he hpl
end
end L2
namespace L2
open PySem PySem.Spec PyProof.Rows
section
variable {κ : Type} [DecidableEq κ]
def lr (kvs : List (κ × V)) (k : κ) : Option V := (kvs.find? fun kv => decide (kv.1 = k)).map (·.2)
def putK (kvs : List (κ × V)) (k : κ) (v : V) : List (κ × V) :=
 if (kvs.any fun kv => decide (kv.1 = k)) = true then kvs.map (fun kv => if kv.1 = k then (kv.1, v) else kv) else kvs ++ [(k, v)]
def Ju (kvs : List (κ × V)) (k : κ) : List (κ × V) := kvs.filter fun kv => decide (kv.1 ≠ k)
theorem pK {p : κ × V} {r : List (κ × V)} {k : κ} (e : p.1 = k) : lr (p :: r) k = some p.2 := by simp [lr, List.find?_cons, e]
theorem pL {p : κ × V} {r : List (κ × V)} {k : κ} (e : ¬ p.1 = k) : lr (p :: r) k = lr r k := by simp [lr, List.find?_cons, e]
theorem zx (k : κ) : ∀ kvs : List (κ × V), (kvs.any fun kv => decide (kv.1 = k)) = (lr kvs k).isSome
 | [] => rfl
 | p :: r => by
  rw [List.any_cons]
  by_cases e : p.1 = k
  ·simp only [pK e, decide_eq_true e, Bool.true_or, Option.isSome_some]
  ·rw [pL e, decide_eq_false e, Bool.false_or]; exact zx k r
theorem qD (kvs : List (κ × V)) (k : κ) (v : V) : (putK kvs k v).length <= kvs.length + 1 := by
 unfold putK
 split
 ·rw [List.length_map]; omega
 ·rw [List.length_append, List.length_cons, List.length_nil]; omega
theorem RelO.isSome_eq {o : Option V} {u : Option Value} (r : RelO o u) : o.isSome = u.isSome := by
 cases o with
 | none => cases u with
  | none => rfl
  | some _ => exact (show False from r).elim
 | some _ => cases u with
  | none => exact (show False from r).elim
  | some _ => rfl
theorem RelO.getD {o : Option V} {u : Option Value} {d : V} {d' : Value} (r : RelO o u) (rd : RelV d d') : RelV (o.getD d) (u.getD d') := by
 cases o with
 | none => cases u with
  | none => exact rd
  | some _ => exact (show False from r).elim
 | some _ => cases u with
  | none => exact (show False from r).elim
  | some _ => exact r
theorem KV.val {kvs : List (κ × V)} {vs : List (κ × Value)} (r : KV kvs vs) (k : κ) : RelO (lr kvs k) (valueAt vs k) := by
 unfold KV at r
 induction r with
 | nil => exact True.intro
 | @cons p q ps qs h t ih =>
  obtain ⟨h1, h2⟩ := h
  by_cases e : p.1 = k
  ·have e' : q.1 = k := h1.symm.trans e
   have b : valueAt (q :: qs) k = some q.2 := by simp [valueAt, List.find?_cons, e']
   rw [pK e, b]; exact h2
  ·have e' : ¬ q.1 = k := fun z => e (h1.trans z)
   have b : valueAt (q :: qs) k = valueAt qs k := by simp [valueAt, List.find?_cons, e']
   rw [pL e, b]; exact ih
theorem KV.any {kvs : List (κ × V)} {vs : List (κ × Value)} (r : KV kvs vs) (k : κ) : (kvs.any fun kv => decide (kv.1 = k)) = vs.any fun kv => decide (kv.1 = k) := by
 unfold KV at r
 induction r with
 | nil => rfl
 | cons h t ih => rw [List.any_cons, List.any_cons, ih, h.1]
theorem KV.repl {kvs : List (κ × V)} {vs : List (κ × Value)} (r : KV kvs vs) (k : κ) {y : V} {u : Value} (ry : RelV y u) :
  KV (kvs.map fun kv => if kv.1 = k then (kv.1, y) else kv) (vs.map fun kv => if kv.1 = k then (kv.1, u) else kv) := by
 unfold KV at r ⊢
 induction r with
 | nil => exact .nil
 | @cons p q ps qs h t ih =>
  rw [List.map_cons, List.map_cons]
  refine .cons ?_ ih
  obtain ⟨h1, h2⟩ := h
  by_cases e : p.1 = k
  ·rw [if_pos e, if_pos (h1.symm.trans e)]; exact ⟨h1, ry⟩
  ·rw [if_neg e, if_neg (fun z => e (h1.trans z))]; exact ⟨h1, h2⟩
theorem KV.put {kvs : List (κ × V)} {vs : List (κ × Value)} (r : KV kvs vs) (k : κ) {y : V} {u : Value} (ry : RelV y u) : KV (putK kvs k y) (stored vs k u) := by
 unfold putK stored
 rw [r.any k]
 by_cases e : (vs.any fun kv => decide (kv.1 = k)) = true
 ·rw [if_pos e, if_pos e]; exact r.repl k ry
 ·rw [if_neg e, if_neg e]; exact Paired.snoc r ⟨rfl, ry⟩
theorem KV.drop {kvs : List (κ × V)} {vs : List (κ × Value)} (r : KV kvs vs) (k : κ) : KV (Ju kvs k) (without vs k) := by
 unfold KV at r ⊢
 unfold Ju without
 induction r with
 | nil => exact .nil
 | @cons p q ps qs h t ih =>
  obtain ⟨h1, h2⟩ := h
  rw [List.filter_cons, List.filter_cons]
  by_cases e : p.1 = k
  ·have a : ¬ decide (p.1 ≠ k) = true := by simp [e]
   have b : ¬ decide (q.1 ≠ k) = true := by simp [h1.symm.trans e]
   rw [if_neg a, if_neg b]; exact ih
  ·have e' : ¬ q.1 = k := fun z => e (h1.trans z)
   have a : decide (p.1 ≠ k) = true := by simp [e]
   have b : decide (q.1 ≠ k) = true := by simp [e']
   rw [if_pos a, if_pos b]; exact .cons ⟨h1, h2⟩ ih
theorem KV.keys {kvs : List (κ × V)} {vs : List (κ × Value)} (r : KV kvs vs) : kvs.map (·.1) = vs.map (·.1) := by
 unfold KV at r
 induction r with
 | nil => rfl
 | cons h t ih => rw [List.map_cons, List.map_cons, ih, h.1]
theorem KV.length {kvs : List (κ × V)} {vs : List (κ × Value)} (r : KV kvs vs) : kvs.length = vs.length := Paired.length r
end
theorem vD {P : Program} {w : World} {k : Key} {u : Value} (r : RelV (kV k) u) : (dz P w).is k u = true := by
 cases k with
 | inl i => obtain ⟨t, e⟩ := (show ∃ t, u = Value.int i t from r); subst e; exact uL P w i t
 | inr x => obtain ⟨t, e⟩ := (show ∃ t, u = Value.str x t from r); subst e; exact uM P w x t
theorem xO {P : Program} {w : World} : ∀ {ks : List Key} {us : List Value}, Vals (ks.map kV) us -> ItemsAre (dz P w) ks us
 | [], _, r => by rw [List.map_nil] at r; cases r; exact .nil
 | k :: ks, _, r => by
  rw [List.map_cons] at r
  cases r with
  | cons h t => exact .cons (vD h) (xO t)
abbrev KT (H : Hp) : List (List Key × V) -> List (List Key × Addr × Value) -> Prop := Paired fun p q => p.1 = q.1 /\ H q.2.1 = some (.tup (p.1.map kV)) /\ RelV p.2 q.2.2
theorem KT.val {H : Hp} {kvs : List (List Key × V)} {xs : List (List Key × Addr × Value)} (r : KT H kvs xs) (k : List Key) : RelO (lr kvs k) ((atKey xs k).map (·.2)) := by
 induction r with
 | nil => exact True.intro
 | @cons p q ps qs h t ih =>
  obtain ⟨h1, _, h2⟩ := h
  by_cases e : p.1 = k
  ·have e' : q.1 = k := h1.symm.trans e
   have b : atKey (q :: qs) k = some q.2 := by simp [atKey, List.find?_cons, e']
   rw [pK e, b]; exact h2
  ·have e' : ¬ q.1 = k := fun z => e (h1.trans z)
   have b : atKey (q :: qs) k = atKey qs k := by simp [atKey, List.find?_cons, e']
   rw [pL e, b]; exact ih
theorem KT.repl {H : Hp} {kvs : List (List Key × V)} {xs : List (List Key × Addr × Value)} (r : KT H kvs xs) (k : List Key) {y : V} {u : Value} (ry : RelV y u) :
  KT H (kvs.map fun kv => if kv.1 = k then (kv.1, y) else kv) (xs.map (putAt k u)) := by
 induction r with
 | nil => exact .nil
 | @cons p q ps qs h t ih =>
  rw [List.map_cons, List.map_cons]
  refine .cons ?_ ih
  obtain ⟨h1, h2, h3⟩ := h
  unfold putAt
  by_cases e : p.1 = k
  ·rw [if_pos e, if_pos (h1.symm.trans e)]; exact ⟨h1, h2, ry⟩
  ·rw [if_neg e, if_neg (fun z => e (h1.trans z))]; exact ⟨h1, h2, h3⟩
theorem KT.put {H : Hp} {kvs : List (List Key × V)} {xs : List (List Key × Addr × Value)} (r : KT H kvs xs) (k : List Key) {b : Addr} {y : V} {u : Value} (hb : H b = some (.tup (k.map kV))) (ry : RelV y u) :
  KT H (putK kvs k y) (storedH xs k b u) := by
 have e : (kvs.any fun kv => decide (kv.1 = k)) = (atKey xs k).isSome := by
  rw [zx, (r.val k).isSome_eq, Option.isSome_map]
 unfold putK storedH
 rw [e]
 by_cases q : (atKey xs k).isSome = true
 ·rw [if_pos q, if_pos q]; exact r.repl k ry
 ·rw [if_neg q, if_neg q]; exact Paired.snoc r ⟨rfl, hb, ry⟩
theorem KT.keeps {H H' : Hp} {kvs : List (List Key × V)} {xs : List (List Key × Addr × Value)} (r : KT H kvs xs) (ht : ∀ b ys, H b = some (.tup ys) -> H' b = some (.tup ys)) : KT H' kvs xs :=
 Paired.mapP r fun _ _ z => ⟨z.1, ht _ _ z.2.1, z.2.2⟩
section
variable {P : Program} {w : World} {H : Hp} {h : Heap} {a : Addr}
theorem Jv {u : HO} (ok : HOk P w H h) (e : Rd H a u) : ObjOk P w H h a u := e.ok ok
theorem uo {kvs : List (Key × V)} (ok : HOk P w H h) (e : Rd H a (.dK kvs)) : kvs.length <= sizeLine /\ (a == sysModules) = false /\ ∃ vs, KV kvs vs /\ h.DictOf (dz P w) a vs :=
 show ObjOk P w H h a (.dK kvs) from Jv ok e
theorem Jw {kvs : List (Key × V)} (ok : HOk P w H h) (e : H a = some (.dK kvs)) : kvs.length <= sizeLine /\ (a == sysModules) = false /\ ∃ vs, KV kvs vs /\ h.DictOf (dz P w) a vs := uo ok (.inl e)
theorem rU {ks : List Key} (ok : HOk P w H h) (e : H a = some (.tup (ks.map kV))) : (tupleKind (dz P w)).is h ks a := by
 obtain ⟨_, its, r, o, h1, h2, n, h3⟩ := (show ObjOk P w H h a (.tup (ks.map kV)) from ok a _ e)
 exact ⟨o, its.toArray, n, h1, h2, h3, by simpa using xO r⟩
theorem vG {kvs : List (List Key × V)} (ok : HOk P w H h) (e : Rd H a (.dT kvs)) : kvs.length <= sizeLine /\ (a == sysModules) = false /\
  ∃ xs, KT H kvs xs /\ h.DictOfH (tupleKind (dz P w)) a xs := by
 obtain ⟨z, y, xs, r, o, es, ep, h1, h2, h3, h4, h5⟩ := (show ObjOk P w H h a (.dT kvs) from Jv ok e)
 refine ⟨z, y, xs, r, o, es, ep, h1, h2, h3, h4, fun x hx => ?_, h5⟩
 have all : ∀ {l : List (List Key × V)} {m : List (List Key × Addr × Value)}, KT H l m -> ∀ x ∈ m, (tupleKind (dz P w)).is h x.1 x.2.1 := by
  intro l m q
  induction q with
  | nil => intro x hx; exact nomatch hx
  | @cons p q ps qs hq t ih =>
   intro x hx
   rcases List.mem_cons.mp hx with e | hx
   ·subst e
    exact rU ok (by rw [← hq.1]; exact hq.2.1)
   ·exact ih x hx
 exact all r x hx
theorem Qg {kvs : List (List Key × V)} (ok : HOk P w H h) (e : H a = some (.dT kvs)) : kvs.length <= sizeLine /\ (a == sysModules) = false /\
  ∃ xs, KT H kvs xs /\ h.DictOfH (tupleKind (dz P w)) a xs := vG ok (.inl e)
end
def DGet (H : Hp) (a : Addr) (y : V) (r : Option V) : Prop :=
 (∃ kvs k, Rd H a (.dK kvs) /\ y = kV k /\ r = lr kvs k) \/ ∃ kvs k b, Rd H a (.dT kvs) /\ y = .ref b /\ H b = some (.tup (k.map kV)) /\ r = lr kvs k
def DPut (H : Hp) (a : Addr) (y v : V) (H' : Hp) : Prop :=
 (∃ kvs k, H a = some (.dK kvs) /\ y = kV k /\ kvs.length < sizeLine /\ H' = upd H a (.dK (putK kvs k v))) \/
 ∃ kvs k b, H a = some (.dT kvs) /\ y = .ref b /\ H b = some (.tup (k.map kV)) /\ kvs.length < sizeLine /\ H' = upd H a (.dT (putK kvs k v))
theorem DGet.k {H : Hp} {a : Addr} {kvs : List (Key × V)} {k : Key} (e : H a = some (.dK kvs)) : DGet H a (kV k) (lr kvs k) := .inl ⟨kvs, k, .inl e, rfl, rfl⟩
theorem DGet.t {H : Hp} {a b : Addr} {kvs : List (List Key × V)} {k : List Key} (e : H a = some (.dT kvs)) (eb : H b = some (.tup (k.map kV))) : DGet H a (.ref b) (lr kvs k) := .inr ⟨kvs, k, b, .inl e, rfl, eb, rfl⟩
theorem DPut.k {H : Hp} {a : Addr} {kvs : List (Key × V)} {k : Key} {v : V} (e : H a = some (.dK kvs)) (hl : kvs.length < sizeLine) : DPut H a (kV k) v (upd H a (.dK (putK kvs k v))) := .inl ⟨kvs, k, e, rfl, hl, rfl⟩
theorem DPut.t {H : Hp} {a b : Addr} {kvs : List (List Key × V)} {k : List Key} {v : V} (e : H a = some (.dT kvs)) (eb : H b = some (.tup (k.map kV))) (hl : kvs.length < sizeLine) :
  DPut H a (.ref b) v (upd H a (.dT (putK kvs k v))) := .inr ⟨kvs, k, b, e, rfl, eb, hl, rfl⟩
section
variable {X : Cx} {pins : List (Addr × Obj)} {σ : St} {H : Hp} {s : Shared} {a : Addr} {y v : V} {u r : Value} {o : Option V} {A : Around} {E : Value -> Shared -> Prop}
theorem Inv.big (I : Inv X pins σ H s) : sysModules < s.heap.objs.size := by
 have h : mainGlobals < s.heap.objs.size := (I.mod.glob.keeps I.bk).lt
 exact Nat.lt_trans (by decide) h
theorem Fp {Q : Value -> Shared -> Prop} (hu : A.units + 1 < cLine) (I : Inv X pins σ H s) (g : DGet H a y (some v)) (ry : RelV y u) (h : ∀ w' s', Inv X pins σ H s' -> RelV v w' -> Q w' s') :
  wpAny (model X.prog X.w) A (getItem (.ref a) u) Q E s := by
 rcases g with ⟨kvs, k, e, ey, l⟩ | ⟨kvs, k, b, e, ey, eb, l⟩
 ·subst ey
  obtain ⟨z, hd, vs, rel, dd⟩ := uo I.hok e
  obtain ⟨w', hw, rw'⟩ := RelO.some_of (v := v) (o := valueAt vs k) (by rw [l]; exact rel.val k)
  exact wpAny_getItem_of (vD ry) dd.mapOf hw (h w' _ (I.tok _) rw')
 ·subst ey
  cases (show u = Value.ref b from ry)
  obtain ⟨z, hd, xs, rel, dd⟩ := vG I.hok e
  obtain ⟨w', hw, rw'⟩ := RelO.some_of (v := v) (o := (atKey xs k).map (·.2)) (by rw [l]; exact rel.val k)
  obtain ⟨p, hp, hp2⟩ := Option.map_eq_some_iff.mp hw
  refine wpAny_getItem_heap (tupleKind_room_in1 hu) (rU I.hok eb) dd hp ?_
  rw [hp2]
  exact h w' _ (I.tok _) rw'
theorem Rw {Q : Value -> Shared -> Prop} (hu : A.units + 1 < cLine) (I : Inv X pins σ H s) (g : DGet H a y o) (ry : RelV y u) (h : ∀ s', Inv X pins σ H s' -> Q (.bool o.isSome) s') :
  wpAny (model X.prog X.w) A (compareOp .In u (.ref a)) Q E s := by
 rcases g with ⟨kvs, k, e, ey, l⟩ | ⟨kvs, k, b, e, ey, eb, l⟩
 ·subst ey
  obtain ⟨z, hd, vs, rel, dd⟩ := uo I.hok e
  refine wpAny_in_of (vD ry) hd dd.mapOf ?_
  rw [← (rel.val k).isSome_eq, ← l]
  exact h _ (I.tok _)
 ·subst ey
  cases (show u = Value.ref b from ry)
  obtain ⟨z, hd, xs, rel, dd⟩ := vG I.hok e
  refine wpAny_in_heap (tupleKind_room_in1 hu) (rU I.hok eb) hd dd ?_
  have q := (rel.val k).isSome_eq
  rw [Option.isSome_map] at q
  rw [← q, ← l]
  exact h _ (I.tok _)
theorem J5 {Q : Value -> Shared -> Prop} (hu : A.units + 1 < cLine) (I : Inv X pins σ H s) (g : DGet H a y o) (ry : RelV y u) (h : ∀ s', Inv X pins σ H s' -> Q (.bool (!o.isSome)) s') :
  wpAny (model X.prog X.w) A (compareOp .NotIn u (.ref a)) Q E s := by
 rcases g with ⟨kvs, k, e, ey, l⟩ | ⟨kvs, k, b, e, ey, eb, l⟩
 ·subst ey
  obtain ⟨z, hd, vs, rel, dd⟩ := uo I.hok e
  refine wpAny_notIn_of (vD ry) hd dd.mapOf ?_
  rw [← (rel.val k).isSome_eq, ← l]
  exact h _ (I.tok _)
 ·subst ey
  cases (show u = Value.ref b from ry)
  obtain ⟨z, hd, xs, rel, dd⟩ := vG I.hok e
  refine wpAny_notIn_heap (tupleKind_room_in1 hu) (rU I.hok eb) hd dd ?_
  have q := (rel.val k).isSome_eq
  rw [Option.isSome_map] at q
  rw [← q, ← l]
  exact h _ (I.tok _)
theorem Ca {h' : Heap} {t' : Nat} {ob : HO} (I : Inv X pins σ H s) (mu : Mut (H a)) (hs : Heap.SameBut a s.heap h') (he : ∃ q, h'.get? a = some q) (new : ObjOk X.prog X.w (upd H a ob) h' a ob) :
  Inv X pins σ (upd H a ob) { s with heap := h', toks := t' } :=
 I.write (x := a) (e := a) mu (.inl rfl) (fun b q hb z => (hs.2 b hb).trans z) he new
theorem MF {P : Program} {w : World} {H' : Hp} {h' : Heap} {kvs : List (Key × V)} {vs : List (Key × Value)} (z : kvs.length <= sizeLine) (hd : (a == sysModules) = false) (rel : KV kvs vs) (dd : h'.DictOf (dz P w) a vs) :
  ObjOk P w H' h' a (.dK kvs) := ⟨z, hd, vs, rel, dd⟩
theorem Fq {H' : Hp} {Q : Unit -> Shared -> Prop} (hu : A.units + 1 < cLine) (I : Inv X pins σ H s) (g : DPut H a y v H') (ry : RelV y u) (rv : RelV v r) (h : ∀ s', Inv X pins σ H' s' -> Q () s') :
  wpAny (model X.prog X.w) A (setItem (.ref a) u r) Q E s := by
 rcases g with ⟨kvs, k, e, ey, l, eH⟩ | ⟨kvs, k, b, e, ey, eb, l, eH⟩
 ·subst ey eH
  obtain ⟨z, hd, vs, rel, dd⟩ := Jw I.hok e
  have hz : vs.length <= sizeLine := by rw [← rel.length]; exact z
  have hl : (putK kvs k v).length <= sizeLine := by have := qD kvs k v; omega
  refine wpAny_setItem_pairs (hsz := hz) (vD ry) dd fun h' dd' hs => h _ ?_
  have he : ∃ q, h'.get? a = some q := let ⟨q, _, _, hq, _⟩ := dd'; ⟨q, hq⟩
  exact Ca I (by rw [e]; exact True.intro) hs he (MF hl hd (rel.put k rv) dd')
 ·subst ey eH
  cases (show u = Value.ref b from ry)
  obtain ⟨z, hd, xs, rel, dd⟩ := Qg I.hok e
  have hz : xs.length <= sizeLine := by rw [← Paired.length rel]; exact z
  have hl : (putK kvs k v).length <= sizeLine := by have := qD kvs k v; omega
  refine wpAny_setItem_heap (hsz := hz) (tupleKind_room_in1 hu) (rU I.hok eb) dd fun h' dd' hs => h _ ?_
  obtain ⟨q, es, ep, hq, h2, h3, h4, _, h5⟩ := dd'
  refine Ca I (by rw [e]; exact True.intro) hs ⟨q, hq⟩ ⟨hl, hd, _, (rel.put k eb rv).keeps fun c ys ec => ?_, q, es, ep, hq, h2, h3, h4, h5⟩
  rw [aW (Pu ec e (fun z => nomatch z))]
  exact ec
end
section
variable {X : Cx} {pins : List (Addr × Obj)} {σ : St} {H : Hp} {s : Shared} {a : Addr} {kvs : List (Key × V)} {k : Key} {u : Value} {A : Around} {E : Value -> Shared -> Prop}
theorem Qh {Q : Value -> Shared -> Prop} (I : Inv X pins σ H s) (e : Rd H a (.dK kvs)) (h : ∀ t s', Inv X pins σ H s' -> Q (.int kvs.length t) s') : wpAny (model X.prog X.w) A (call (.builtin "len") [.ref a]) Q E s := by
 obtain ⟨z, hd, vs, rel, dd⟩ := uo I.hok e
 refine call_len_dict hd dd (by rw [← rel.length]; rw [sizeLine_eq] at z; omega) ?_
 rw [← rel.length]
 exact h _ _ (I.tok _)
end
def Hq (i : Expr) : Prop := ∀ ov iv, subscripted i false ov iv = operate [ov, iv] (getItem ov iv)
theorem J6 {prog : Program} {w : World} {A : Around} {E : Value -> Shared -> Prop} {s : Shared} {env : Env} {value slice : Expr} {pos : Pos} {T id : String} {Q : Value -> Shared -> Prop}
  (hl : typeLookup (.type T) "__getitem__" = pure (some (.builtin id))) (hs : Hq slice)
  (h : wpAny (model prog w) A (eval value env) (fun o s₁ => wpAny (model prog w) A (eval slice env) (fun i s₂ => s₂.TypeIs o T /\ wpAny (model prog w) A (getItem o i) Q E s₂) E s₁) E s) :
  wpAny (model prog w) A (eval (.Subscript value slice pos) env) Q E s := by
 refine Subscript_ (wpAny_mono h (fun o s₁ h₁ => wpAny_mono h₁ (fun i s₂ h₂ => ?_) fun _ _ x => x) fun _ _ x => x)
 obtain ⟨hT, h₂⟩ := h₂
 unfold subscriptTail
 refine wpAny_bind ?_
 rw [getitemInPython_of_ne hT.not_modules]
 refine wpAny_bind (wpAny_specialOf hT hl ?_)
 have fin : wpAny (model prog w) A (subscripted slice false o i) (fun r s₃ => wpAny (model prog w) A (letTemporaryGo value o r >>= fun _ => pure r) Q E s₃) E s₂ := by
  rw [hs o i]
  exact wpAny_operating (wpAny_mono h₂ (fun r s₃ h₃ => wpAny_bind (wpAny_letTemporaryGo (wpAny_pure h₃))) fun _ _ x => x)
 first
  | exact wpAny_pure (wpAny_bind fin)
  | exact wpAny_bind (wpAny_pure (wpAny_bind fin))
  | exact wpAny_bind fin
theorem Bp {X : Cx} {pins : List (Addr × Obj)} {σ : St} {H : Hp} {s : Shared} {a : Addr} {y : V} {o : Option V} (I : Inv X pins σ H s) (g : DGet H a y o) : s.TypeIs (.ref a) "dict" := by
 rcases g with ⟨kvs, k, e, _, _⟩ | ⟨kvs, k, b, e, _, _, _⟩
 ·obtain ⟨_, _, vs, _, dd⟩ := uo I.hok e
  exact dd.typeIs
 ·obtain ⟨_, _, xs, _, dd⟩ := vG I.hok e
  exact dd.typeIs
def Qi (td ty : TE) : TE := fun σ H Q => td σ H fun x H1 => ty σ H1 fun y H2 => ∃ a v, x = .ref a /\ DGet H2 a y (some v) /\ Q v H2
def Qj (td ty tv : TE) : TS := fun D σ H => tv σ H fun v H1 => td σ H1 fun x H2 => ty σ H2 fun y H3 => ∃ a H4, x = .ref a /\ DPut H3 a y v H4 /\ D.nx σ H4
section
variable {X : Cx} {o i e value : Expr} {pos pos' tpos : Pos} {td ty tv : TE}
theorem J7 (hu : X.A.units + 1 < cLine) (ho : PE X o td) (hi : PE X i ty) (hs : Hq i) : PE X (.Subscript o i pos) (Qi td ty) := by
 intro pins s σ H Q I h
 refine J6 PySem.F.slot_dict_getitem.lookup hs (thn (ho pins s σ H _ I h) fun u s1 ⟨x, H1, I1, rx, q1⟩ => thn (hi pins s1 σ H1 _ I1 q1) fun iv s2 ⟨y, H2, I2, ry, a, v, ex, g, q2⟩ => ?_)
 subst ex
 obtain rfl : u = Value.ref a := rx
 exact ⟨Bp I2 g, Fp hu I2 g ry fun w' s3 I3 rw' => ⟨v, H2, I3, rw', q2⟩⟩
theorem J8 (hu : X.A.units + 1 < cLine) (ho : PE X o td) (hi : PE X i ty) (hv : PE X value tv) (hs : swapsWith value (some (.Subscript o i pos')) pos.line X.env = pure false) :
  PS X (.Assign [.Subscript o i pos'] value pos) (Qj td ty tv) := by
 intro pins s σ H D I h
 refine wpAny_Assign_Subscript (thn (hv pins s σ H _ I h) fun r s1 ⟨v, H1, I1, rv, q1⟩ => thn (ho pins s1 σ H1 _ I1 q1) fun u s2 ⟨x, H2, I2, rx, q2⟩ => thn (hi pins s2 σ H2 _ I2 q2) fun iv s3 ⟨y, H3, I3, ry, a, H4, ex, g, q3⟩ => ?_) hs
 subst ex
 obtain rfl : u = Value.ref a := rx
 exact Fq hu I3 g ry rv fun s4 I4 => ⟨σ, H4, I4, q3⟩
end
theorem Hr {P : Program} {w : World} {H : Hp} (h : Heap) (hb : sysModules < h.objs.size) : ObjOk P w H (h.push { cls := .type "dict", data := .dict #[] }) h.objs.size (.dK []) :=
 ⟨Nat.zero_le _, beq_eq_false_iff_ne.mpr (Ne.symm (Nat.ne_of_lt hb)), [], .nil, Heap.DictOf.new h⟩
theorem Hs {P : Program} {w : World} {H : Hp} (h : Heap) (hb : sysModules < h.objs.size) : ObjOk P w H (h.push { cls := .type "dict", data := .dict #[] }) h.objs.size (.dT []) :=
 ⟨Nat.zero_le _, beq_eq_false_iff_ne.mpr (Ne.symm (Nat.ne_of_lt hb)), [], .nil, _, #[], 0, Heap.get?_push_size _ rfl, ⟨rfl, rfl, rfl⟩, rfl, rfl, List.nodup_nil⟩
def MJ : TE := fun _ H Q => ∀ p, H p = none -> Q (.ref p) (upd H p (.dK []))
def MK : TE := fun _ H Q => ∀ p, H p = none -> Q (.ref p) (upd H p (.dT []))
section
variable {X : Cx} {pos : Pos}
theorem Ht : PE X (.Dict [] [] pos) MJ := fun pins s σ H Q I h =>
 wpAny_Dict_empty ⟨.ref s.heap.objs.size, _, I.laid (a := s.heap.objs.size) (o := .dK []) (t' := s.toks) (fun _ _ q => Heap.get?_push_of_some _ q) (Nat.le_refl _) (Hr s.heap I.big), rfl, h _ (I.hok.fresh (Nat.le_refl _))⟩
theorem Hu : PE X (.Dict [] [] pos) MK := fun pins s σ H Q I h =>
 wpAny_Dict_empty ⟨.ref s.heap.objs.size, _, I.laid (a := s.heap.objs.size) (o := .dT []) (t' := s.toks) (fun _ _ q => Heap.get?_push_of_some _ q) (Nat.le_refl _) (Hs s.heap I.big), rfl, h _ (I.hok.fresh (Nat.le_refl _))⟩
end
def mJ (kvs more : List (Key × V)) : List (Key × V) := more.foldl (fun acc kv => putK acc kv.1 kv.2) kvs
theorem KV.merge : ∀ {more : List (Key × V)} {rs : List (Key × Value)} {kvs : List (Key × V)} {vs : List (Key × Value)}, KV more rs -> KV kvs vs -> KV (mJ kvs more) (merged vs rs) := by
 intro more rs kvs vs r
 unfold KV at r
 induction r generalizing kvs vs with
 | nil => intro q; exact q
 | @cons p q ps qs h t ih =>
  intro r0
  have e : KV (putK kvs p.1 p.2) (stored vs q.1 q.2) := by
   have := r0.put p.1 h.2
   rw [← h.1]; exact this
  exact ih e
theorem rG : ∀ (more kvs : List (Key × V)), (mJ kvs more).length <= kvs.length + more.length
 | [], kvs => by show kvs.length <= kvs.length + 0; omega
 | p :: r, kvs => by
  have h1 := rG r (putK kvs p.1 p.2)
  have h2 := qD kvs p.1 p.2
  show (mJ (putK kvs p.1 p.2) r).length <= _
  rw [List.length_cons]; omega
section
variable {X : Cx} {pins : List (Addr × Obj)} {σ : St} {H : Hp} {s : Shared} {a : Addr} {y d : V} {u r : Value} {o : Option V} {A : Around} {E : Value -> Shared -> Prop}
end
section
variable {X : Cx} {o e f : Expr} {apos cpos : Pos} {td ty tx : TE}
end
section
variable {X : Cx} {pins : List (Addr × Obj)} {σ : St} {H : Hp} {s : Shared} {a : Addr} {kvs : List (Key × V)} {A : Around} {E : Value -> Shared -> Prop}
end
section
variable {X : Cx} {pins : List (Addr × Obj)} {σ : St} {H : Hp} {s : Shared} {a : Addr} {y : V} {u : Value} {A : Around} {E : Value -> Shared -> Prop}
end
end L2
namespace HT
open PySem PyProof.Rows
section
open PySem.SeqAt
open PySem.AutoSeq1 (wpAny_loadPart')
open PySem.MeetsSeq PySem.MeetsSeq2 PySem.MeetsSeq3
end
section
variable {prog : Program} {w : World} {A : Around} {E : Value -> Shared -> Prop} {s : Shared}
def sIx (n d : Nat) : Option Int -> Nat
 | none => d
 | some v => if v < 0 then (v + (n : Int)).toNat else min v.toNat n
theorem sIx_none (n d : Nat) : sIx n d none = d := rfl
theorem sIx_nat (n d k : Nat) : sIx n d (some (k : Int)) = min k n := by
 show (if (k : Int) < 0 then ((k : Int) + (n : Int)).toNat else min (k : Int).toNat n) = min k n
 rw [if_neg (by omega), Int.toNat_natCast]
theorem sIx_le (n d : Nat) (hd : d <= n) (o : Option Int) : sIx n d o <= n := by
 cases o with
 | none => exact hd
 | some v =>
  show (if v < 0 then (v + (n : Int)).toNat else min v.toNat n) <= n
  by_cases hv : v < 0
  ·rw [if_pos hv]; omega
  ·rw [if_neg hv]; exact Nat.min_le_right _ _
end
end HT
namespace L2
open PySem PySem.Spec PyProof.Rows
abbrev TO := St -> Hp -> (Option Int -> Hp -> Prop) -> Prop
def PO (X : Cx) (e : Option Expr) (t : TO) : Prop :=
 ∀ (pins : List (Addr × Obj)) (s : Shared) (σ : St) (H : Hp) (Q : Option Int -> Hp -> Prop), Inv X pins σ H s -> t σ H Q ->
  wpAny (model X.prog X.w) X.A (evalPart e X.env) (fun u s' => ∃ o H', Inv X pins σ H' s' /\ IsPart u o /\ Q o H') X.xe s
def J9 : TO := fun _ H Q => Q none H
def Qk (t : TE) : TO := fun σ H Q => t σ H fun x H1 => ∃ i, x = .int i /\ Q (some i) H1
theorem intsAre_of {ns : List Int} : ∀ {us : List Value}, Vals (ns.map V.int) us -> IntsAre us ns := by
 induction ns with
 | nil => intro us r; rw [List.map_nil] at r; cases r; exact .nil
 | cons n ns ih =>
  intro us r
  rw [List.map_cons] at r
  cases r with
  | cons r1 r2 =>
   obtain ⟨t, e⟩ := r1
   subst e
   exact .cons n t (ih r2)
section
variable {X : Cx} {e : Expr} {te : TE} {lo hi : Option Expr} {tl th : TO} {pos p2 : Pos}
theorem J_ : PO X none J9 := by
 intro pins s σ H Q I h
 rw [evalPart_none]
 exact wpAny_pure ⟨none, H, I, .none, h⟩
theorem Ka (h : PE X e te) : PO X (some e) (Qk te) := by
 intro pins s σ H Q I hw
 rw [evalPart_some]
 refine thn (h pins s σ H _ I hw) fun u s1 ⟨x, H1, I1, r1, q1⟩ => ?_
 obtain ⟨i, rfl, q⟩ := q1
 obtain ⟨t, rfl⟩ := r1
 exact ⟨some i, H1, I1, .int i t, q⟩
def SlR (X : Cx) (r : V -> Option Int -> Option Int -> Hp -> VK -> Prop) : Prop :=
 ∀ (pins : List (Addr × Obj)) (s : Shared) (σ : St) (H : Hp) (x : V) (v vl vu : Value) (lo hi : Option Int) (sl : Addr) (Q : VK), Inv X pins σ H s -> RelV x v -> s.heap.IsSliceOf sl vl vu .none -> IsPart vl lo -> IsPart vu hi -> r x lo hi H Q ->
  ∃ T id, typeLookup (.type T) "__getitem__" = pure (some (.builtin id)) /\ s.TypeIs v T /\ wpAny (model X.prog X.w) X.A (getItem v (.ref sl)) (EP X pins σ Q) X.xe s
theorem SlR.or {r r' : V -> Option Int -> Option Int -> Hp -> VK -> Prop} (h : SlR X r) (h' : SlR X r') : SlR X (fun x lo hi H Q => r x lo hi H Q \/ r' x lo hi H Q) := by
 intro pins s σ H x v vl vu lo hi sl Q I rx hs pl pu q
 rcases q with q | q
 ·exact h pins s σ H x v vl vu lo hi sl Q I rx hs pl pu q
 ·exact h' pins s σ H x v vl vu lo hi sl Q I rx hs pl pu q
def tSl (r : V -> Option Int -> Option Int -> Hp -> VK -> Prop) (te : TE) (tl th : TO) : TE := fun σ H Q => te σ H fun x H1 => tl σ H1 fun l H2 => th σ H2 fun u H3 => r x l u H3 Q
theorem Hv {r : V -> Option Int -> Option Int -> Hp -> VK -> Prop} (hr : SlR X r) (he : PE X e te) (hl : PO X lo tl) (hu : PO X hi th) : PE X (.Subscript e (.Slice lo hi none p2) pos) (tSl r te tl th) := by
 intro pins s σ H Q I h
 refine Subscript_ (thn (he pins s σ H _ I h) fun v s1 ⟨x, H1, I1, r1, q1⟩ => ?_)
 refine wpAny_Slice (thn (hl pins s1 σ H1 _ I1 q1) fun vl s2 ⟨l, H2, I2, pl, q2⟩ => thn (hu pins s2 σ H2 _ I2 q2) fun vu s3 ⟨u, H3, I3, pu, q3⟩ => ?_)
 rw [evalPart_none]
 refine wpAny_pure ?_
 have I4 : Inv X pins σ H3 { s3 with heap := s3.heap.push { cls := .type "slice", data := .fields #[vl, vu, .none] } } := I3.kept (t' := s3.toks) fun b ob q => Heap.get?_push_of_some _ q
 obtain ⟨T, id, hT, ht, hg⟩ := hr pins { s3 with heap := s3.heap.push { cls := .type "slice", data := .fields #[vl, vu, .none] } } σ H3 x v vl vu l u s3.heap.objs.size Q I4 r1 (Heap.IsSliceOf.new ..) pl pu q3
 show wpAny (model X.prog X.w) X.A (subscriptTail e (.Slice lo hi none p2) v (.ref s3.heap.objs.size)) (EP X pins σ Q) X.xe { s3 with heap := s3.heap.push { cls := .type "slice", data := .fields #[vl, vu, .none] } }
 exact tail_any (ops := [.ref s3.heap.objs.size, v]) ht hT hg (by with_unfolding_all rfl)
def wL (xs : List V) (lo hi : Option Int) : List V := (xs.drop (HT.sIx xs.length 0 lo)).take (HT.sIx xs.length xs.length hi - HT.sIx xs.length 0 lo)
theorem Bq (xs : List V) (lo hi : Option Int) : (wL xs lo hi).length <= xs.length := by
 unfold wL
 rw [List.length_take, List.length_drop]
 omega
end
end L2
namespace L2
open PySem PySem.Spec PyProof.Rows
def ixN (n : Nat) (i : Int) : Option Nat := if 0 <= i then (if i < n then some i.toNat else none) else if -(n : Int) <= i then some (i + n).toNat else none
def atI {α : Type} (xs : List α) (i : Int) : Option α := (ixN xs.length i).bind fun j => xs[j]?
theorem Cd {n : Nat} {i : Int} {j : Nat} (h : ixN n i = some j) : seqIndex? i n = some j /\ j < n /\ -(n : Int) <= i /\ i < n := by
 unfold ixN at h
 by_cases h0 : 0 <= i
 ·rw [if_pos h0] at h
  by_cases h1 : i < n
  ·rw [if_pos h1] at h
   have e : i.toNat = j := Option.some.inj h
   exact ⟨by rw [seqIndex_of h0 h1, e], by omega, by omega, h1⟩
  ·rw [if_neg h1] at h; cases h
 ·rw [if_neg h0] at h
  by_cases h1 : -(n : Int) <= i
  ·rw [if_pos h1] at h
   have e : (i + n).toNat = j := Option.some.inj h
   exact ⟨by rw [seqIndex_neg (by omega) h1, e], by omega, h1, by omega⟩
  ·rw [if_neg h1] at h; cases h
theorem wM {α : Type} {xs : List α} {i : Int} {v : α} (h : atI xs i = some v) : ∃ j, seqIndex? i xs.length = some j /\ xs[j]? = some v /\ j < xs.length /\ -(xs.length : Int) <= i /\ i < xs.length := by
 unfold atI at h
 cases e : ixN xs.length i with
 | none => rw [e] at h; cases h
 | some j =>
  rw [e] at h
  obtain ⟨h1, h2, h3, h4⟩ := Cd e
  exact ⟨j, h1, h, h2, h3, h4⟩
theorem atI_nat {α : Type} {xs : List α} {j : Nat} {v : α} (h : xs[j]? = some v) : atI xs (j : Int) = some v := by
 have hj : j < xs.length := (List.getElem?_eq_some_iff.mp h).1
 have e : ixN xs.length (j : Int) = some j := by
  unfold ixN
  rw [if_pos (by omega), if_pos (by omega)]; simp
 unfold atI; rw [e]; exact h
def Ce (b : Expr) : Prop := ∀ o i, subscripted b false o i = operate [o, i] (getItem o i)
def IxR (X : Cx) (r : R2) : Prop :=
 ∀ (value slice : Expr) (pins : List (Addr × Obj)) (s : Shared) (σ : St) (H : Hp) (x y : V) (v u : Value) (Q : VK), Inv X pins σ H s -> RelV x v -> RelV y u -> r x y H Q ->
  subscripted slice false v u = operate [v, u] (getItem v u) -> wpAny (model X.prog X.w) X.A (subscriptTail value slice v u) (EP X pins σ Q) X.xe s
def MtR (X : Cx) (id : String) (r : V -> List V -> Hp -> VK -> Prop) : Prop :=
 ∀ (pins : List (Addr × Obj)) (s : Shared) (σ : St) (H : Hp) (x : V) (xs : List V) (v : Value) (us : List Value) (Q : VK), Inv X pins σ H s -> RelV x v -> Vals xs us -> r x xs H Q ->
  wpAny (model X.prog X.w) X.A (call (.builtin id) (v :: us)) (EP X pins σ Q) X.xe s
section
variable {X : Cx} {a b : Expr} {ta tb : TE} {pos : Pos}
theorem IxR.or {r r' : R2} (h : IxR X r) (h' : IxR X r') : IxR X (fun x y H Q => r x y H Q \/ r' x y H Q) := by
 intro value slice pins s σ H x y v u Q I rx ry q hs
 rcases q with q | q
 ·exact h value slice pins s σ H x y v u Q I rx ry q hs
 ·exact h' value slice pins s σ H x y v u Q I rx ry q hs
theorem MtR.or {id : String} {r r' : V -> List V -> Hp -> VK -> Prop} (h : MtR X id r) (h' : MtR X id r') : MtR X id (fun x xs H Q => r x xs H Q \/ r' x xs H Q) := by
 intro pins s σ H x xs v us Q I rx rs q
 rcases q with q | q
 ·exact h pins s σ H x xs v us Q I rx rs q
 ·exact h' pins s σ H x xs v us Q I rx rs q
theorem Jx {r : R2} (hr : IxR X r) (ha : PE X a ta) (hb : PE X b tb) (hs : Ce b) : PE X (.Subscript a b pos) (tOp r ta tb) := by
 intro pins s σ H Q I h
 exact Subscript_ (Hi ha hb I h fun v u s2 x y H2 I2 rx ry q => hr a b pins s2 σ H2 x y v u Q I2 rx ry q (hs _ _))
def MN (K : PySem.W.Frag) : R2 := fun x y H Q => ∃ p xs i v, x = .ref p /\ y = .int i /\ SqL K H p xs /\ atI xs i = some v /\ Q v H
def MP (K : PySem.W.Frag) : R2 := fun x y H Q => ∃ p xs i v, x = .ref p /\ y = .int i /\ SqT K H p xs /\ atI xs i = some v /\ Q v H
def MT : R2 := fun x y H Q => ∃ z i c, x = .str z /\ y = .int i /\ z.length <= sizeLine /\ atI z.cps.toList i = some c /\ Q (.str ⟨#[c]⟩) H
theorem ix_list : IxR X (MN X.K) := by
 intro value slice pins s σ H x y v u Q I rx ry h hs
 obtain ⟨p, xs, i, z, rfl, rfl, hq, he, q⟩ := h
 cases rx
 obtain ⟨t, rfl⟩ := ry
 obtain ⟨its, r, pl, hz⟩ := I.list hq
 obtain ⟨j, h1, h2, h3, h4, h5⟩ := wM he
 obtain ⟨w, ew, rw'⟩ := r.get h2
 have hl := r.length
 have hn := qJ
 have fin : EP X pins σ Q w s := ⟨z, H, I, rw', q⟩
 by_cases h0 : 0 <= i
 ·have hj : i.toNat = j := by
   rw [seqIndex_of h0 h5] at h1
   exact Option.some.inj h1
  exact item_listR pl.isList h0 (by omega) (by rw [hj]; simpa using ew) fin hs
 ·have hj : (i + (its.toArray.size : Int)).toNat = j := by
   rw [seqIndex_neg (by omega) h4] at h1
   rw [List.size_toArray, ← hl]
   exact Option.some.inj h1
  exact subscriptTail_builtinR (x := w) pl.isList.typeIs slot_list_getitem.lookup
   (wpAny_getItem_list_neg (Q := fun r s' => r = w /\ EP X pins σ Q r s') pl.isList (by omega) (by rw [List.size_toArray] <;> omega) (by omega) (by rw [hj]; simpa using ew) ⟨rfl, fin⟩) hs
theorem ix_tup : IxR X (MP X.K) := by
 intro value slice pins s σ H x y v u Q I rx ry h hs
 obtain ⟨p, xs, i, z, rfl, rfl, hq, he, q⟩ := h
 cases rx
 obtain ⟨t, rfl⟩ := ry
 obtain ⟨its, r, pl, hz⟩ := I.tuple hq
 obtain ⟨j, h1, h2, h3, h4, h5⟩ := wM he
 obtain ⟨w, ew, rw'⟩ := r.get h2
 have hl := r.length
 have hn := qJ
 have fin : EP X pins σ Q w s := ⟨z, H, I, rw', q⟩
 exact subscriptTail_builtinR (x := w) pl.typeIs slot_tuple_getitem.lookup
  (getItem_tuple (j := j) (Q := fun r s' => r = w /\ EP X pins σ Q r s') pl (by omega) (by omega) (by rw [List.size_toArray, ← hl]; exact h1) (by simpa using ew) ⟨rfl, fin⟩) hs
theorem M3 : IxR X MT := by
 intro value slice pins s σ H x y v u Q I rx ry h hs
 obtain ⟨z, i, c, rfl, rfl, hz, he, q⟩ := h
 obtain ⟨t, rfl⟩ := rx
 obtain ⟨t', rfl⟩ := ry
 obtain ⟨j, h1, h2, h3, h4, h5⟩ := wM he
 have hl : z.cps.toList.length = z.length := by simp [Str.length]
 rw [hl] at h1 h4 h5
 have hn := qJ
 exact tail_any (typeIs_str s z t) slot_str_getitem.lookup (getItem_str (c := c) (by
  have e1 : decide (i < -(2 ^ 63 : Int)) = false := decide_eq_false (by omega)
  have e2 : decide (i ≥ 2 ^ 63) = false := decide_eq_false (by omega)
  rw [e1, e2, Bool.or_false]) (by rw [h1]; simpa using h2) ⟨.str ⟨#[c]⟩, H, I.tok _, ⟨_, rfl⟩, q⟩) hs
def rIx (K : PySem.W.Frag) : R2 := fun x y H Q => MN K x y H Q \/ MP K x y H Q \/ MT x y H Q
theorem M4 : IxR X (rIx X.K) := ix_list.or (ix_tup.or M3)
theorem Dl (its : List Value) (n j : Nat) (u : Value) : Obj.mapSeq (·.setIfInBounds j u) { cls := .type "list", data := .seq its.toArray n } = { cls := .type "list", data := .seq (its.set j u).toArray n } := by
 simp [Obj.mapSeq]
theorem Inv.lst {pins : List (Addr × Obj)} {σ : St} {H : Hp} {s : Shared} {p : Addr} {xs : List V} (I : Inv X pins σ H s) (h : H p = some (.lst xs)) :
  ∃ (its : List Value) (n : Nat), Vals xs its /\ s.heap.get? p = some { cls := .type "list", data := .seq its.toArray n } /\ xs.length <= sizeLine := by
 obtain ⟨z, its, n, r, e⟩ := I.hok p _ h
 exact ⟨its, n, r, e, z⟩
theorem Inv.lstUpd {pins : List (Addr × Obj)} {σ : St} {H : Hp} {s : Shared} {p : Addr} {xs ys : List V} {its its' : List Value} {n n' : Nat} {f : Obj -> Obj} (I : Inv X pins σ H s) (h : H p = some (.lst xs))
  (ho : s.heap.get? p = some { cls := .type "list", data := .seq its.toArray n }) (hf : f { cls := .type "list", data := .seq its.toArray n } = { cls := .type "list", data := .seq its'.toArray n' }) (r : Vals ys its') (hz : ys.length <= sizeLine) (t : Nat) :
  Inv X pins σ (upd H p (.lst ys)) { s with heap := s.heap.update p f, toks := t } := by
 have e : (s.heap.update p f).get? p = some { cls := .type "list", data := .seq its'.toArray n' } := by
  rw [Heap.get?_update_self f ho (by rw [hf] <;> rfl), hf]
 refine I.write (x := p) (e := p) (by rw [h]; trivial) (.inl rfl) (fun b u hb q => (Heap.get?_update_other _ _ (Ne.symm hb)).trans q) ⟨_, e⟩ ?_
 exact ⟨hz, its', n', r, e⟩
def Ql : V -> V -> V -> Hp -> (Hp -> Prop) -> Prop := fun o i v H Q => ∃ p xs k j, o = .ref p /\ i = .int k /\ H p = some (.lst xs) /\ ixN xs.length k = some j /\ Q (upd H p (.lst (xs.set j v)))
theorem set_list : Mh X Ql := by
 intro pins s σ H o i v ov iv u Q I ro ri rv h
 obtain ⟨p, xs, k, j, rfl, rfl, hp, hj, q⟩ := h
 cases ro
 obtain ⟨t, rfl⟩ := ri
 obtain ⟨its, n, r, ho, hz⟩ := I.lst hp
 obtain ⟨h1, h2, h3, h4⟩ := Cd hj
 have hl := r.length
 have hn := qJ
 have I' : Inv X pins σ (upd H p (.lst (xs.set j v))) { s with heap := s.heap.update p (Obj.mapSeq (·.setIfInBounds j u)) } :=
  I.lstUpd hp ho (Dl its n j u) (r.set rv j) (by rw [List.length_set]; exact hz) s.toks
 by_cases h0 : 0 <= k
 ·have hk : k.toNat = j := by
   rw [seqIndex_of h0 h4] at h1
   exact Option.some.inj h1
  exact PySem.W.ki_setAt ho h0 (by omega) (by rw [List.size_toArray, ← hl]; exact h4) (by rw [hk]; exact ⟨_, I', q⟩)
 ·have hk : (k + (its.toArray.size : Int)).toNat = j := by
   rw [seqIndex_neg (by omega) h3] at h1
   rw [List.size_toArray, ← hl]
   exact Option.some.inj h1
  exact PySem.W.ki_setBack ho (by omega) (by rw [List.size_toArray, ← hl]; exact h3) (by omega) (by rw [hk]; exact ⟨_, I', q⟩)
theorem zy (lo hi : Option Int) (n : Nat) : (sliceBounds lo hi none n).1 = ((HT.sIx n 0 lo : Nat) : Int) /\ (sliceBounds lo hi none n).2.1 = ((HT.sIx n n hi : Nat) : Int) /\ (sliceBounds lo hi none n).2.2 = 1 := by
 refine ⟨?_, ?_, rfl⟩
 ·cases lo with
  | none => simp [sliceBounds, HT.sIx]
  | some i =>
   simp only [sliceBounds, HT.sIx, Option.getD_none, show (1 : Int) > 0 by decide, if_true]
   by_cases h : i < 0
   ·simp only [h, if_true] <;> omega
   ·simp only [h, if_false] <;> omega
 ·cases hi with
  | none => simp [sliceBounds, HT.sIx]
  | some i =>
   simp only [sliceBounds, HT.sIx, Option.getD_none, show (1 : Int) > 0 by decide, if_true]
   by_cases h : i < 0
   ·simp only [h, if_true] <;> omega
   ·simp only [h, if_false] <;> omega
theorem yx (its : List Value) (lo hi : Option Int) : slicePick its.toArray lo hi none = ((its.drop (HT.sIx its.length 0 lo)).take (HT.sIx its.length its.length hi - HT.sIx its.length 0 lo)).toArray := by
 obtain ⟨h1, h2, h3⟩ := zy lo hi its.toArray.size
 unfold slicePick
 rw [h1, h2, h3]
 simp only [sliceRange_one, pick_run, List.size_toArray] <;> rfl
def M5 (K : PySem.W.Frag) : V -> Option Int -> Option Int -> Hp -> VK -> Prop := fun x lo hi H Q => ∃ a xs, x = .ref a /\ SqL K H a xs /\ ∀ p, H p = none -> Q (.ref p) (upd H p (.lst (wL xs lo hi)))
theorem sl_list : SlR X (M5 X.K) := by
 intro pins s σ H x v vl vu lo hi sl Q I rx hs pl pu h
 obtain ⟨a, xs, rfl, hx, q⟩ := h
 cases rx
 obtain ⟨its, r, ht, hz⟩ := I.list hx
 have hlen := r.length
 refine ⟨"list", _, slot_list_getitem.lookup, ht.isList.typeIs, ?_⟩
 refine wpAny_getItem_list_slice ht.isList hs pl pu .none (by simp) ?_ (by rw [List.size_toArray] <;> omega)
 rw [yx, ← hlen]
 refine ⟨.ref s.heap.objs.size, _, I.laid (t' := s.toks) (o := .lst (wL xs lo hi)) (fun b ob q => Heap.get?_push_of_some _ q) (Nat.le_refl _) ?_, rfl, q _ (I.hok.fresh (Nat.le_refl _))⟩
 exact ⟨Nat.le_trans (Bq xs lo hi) hz, _, 0, (r.drop (HT.sIx xs.length 0 lo)).take (HT.sIx xs.length xs.length hi - HT.sIx xs.length 0 lo), Heap.get?_push_size _ rfl⟩
def j8 : V -> Bool
 | .non => true
 | .bl _ => true
 | .int _ => true
 | .str _ => true
 | _ => false
def eqV : V -> V -> Bool
 | .non, .non => true
 | .bl a, .bl b => a == b
 | .bl a, .int b => (if a then 1 else 0) == b
 | .int a, .bl b => a == (if b then 1 else 0)
 | .int a, .int b => a == b
 | .str a, .str b => a == b
 | _, _ => false
theorem M6 {A : Around} {s : Shared} {y x : V} {u v : Value} (ry : RelV y u) (rx : RelV x v) (fy : j8 y = true) (fx : j8 x = true) : SeqAt.EqAt A s u v (eqV y x) := by
 cases y with
 | non =>
  cases ry
  cases x with
  | non => cases rx; exact SeqAt.EqAt.same _
  | bl b => cases rx; exact SeqAt.EqAt.none_bool b
  | int b => obtain ⟨t, rfl⟩ := rx; exact SeqAt.EqAt.none_int b t
  | str b => obtain ⟨t, rfl⟩ := rx; exact SeqAt.EqAt.none_str b t
  | _ => exact absurd (show false = true from fx) Bool.false_ne_true
 | bl a =>
  cases ry
  cases x with
  | non => cases rx; exact SeqAt.EqAt.bool_none a
  | bl b => cases rx; exact SeqAt.EqAt.bool_bool a b
  | int b => obtain ⟨t, rfl⟩ := rx; exact SeqAt.EqAt.bool_int a b t
  | str b => obtain ⟨t, rfl⟩ := rx; exact SeqAt.EqAt.bool_str a b t
  | _ => exact absurd (show false = true from fx) Bool.false_ne_true
 | int a =>
  obtain ⟨t', rfl⟩ := ry
  cases x with
  | non => cases rx; exact SeqAt.EqAt.int_none a t'
  | bl b => cases rx; exact SeqAt.EqAt.int_bool a t' b
  | int b => obtain ⟨t, rfl⟩ := rx; exact SeqAt.EqAt.int_int a t' b t
  | str b => obtain ⟨t, rfl⟩ := rx; exact SeqAt.EqAt.int_str a t' b t
  | _ => exact absurd (show false = true from fx) Bool.false_ne_true
 | str a =>
  obtain ⟨t', rfl⟩ := ry
  cases x with
  | non => cases rx; exact SeqAt.EqAt.str_none a t'
  | bl b => cases rx; exact SeqAt.EqAt.str_bool a t' b
  | int b => obtain ⟨t, rfl⟩ := rx; exact SeqAt.EqAt.str_int a t' b t
  | str b => obtain ⟨t, rfl⟩ := rx; exact SeqAt.EqAt.str_str a t' b t
  | _ => exact absurd (show false = true from fx) Bool.false_ne_true
 | _ => exact absurd (show false = true from fy) Bool.false_ne_true
def eqU (x : V) (u : Value) : Bool := match u with
 | .none => eqV .non x
 | .bool b => eqV (.bl b) x
 | .int i _ => eqV (.int i) x
 | .str z _ => eqV (.str z) x
 | _ => false
theorem Ft {x y : V} {u : Value} (r : RelV y u) (f : j8 y = true) : eqU x u = eqV y x := by
 cases y with
 | non => cases r; rfl
 | bl b => cases r; rfl
 | int i => obtain ⟨t, rfl⟩ := r; rfl
 | str z => obtain ⟨t, rfl⟩ := r; rfl
 | _ => exact absurd (show false = true from f) Bool.false_ne_true
theorem qL {x : V} : ∀ {xs : List V} {us : List Value}, Vals xs us -> xs.all j8 = true -> us.any (eqU x) = xs.any fun y => eqV y x
 | _, _, .nil, _ => rfl
 | y :: xs, u :: us, .cons r t, f => by
  rw [List.all_cons, Bool.and_eq_true] at f
  rw [List.any_cons, List.any_cons, Ft r f.1, qL t f.2]
theorem pM {A : Around} {s : Shared} {x : V} {v : Value} (rx : RelV x v) (fx : j8 x = true) : ∀ {xs : List V} {us : List Value}, Vals xs us -> xs.all j8 = true -> ∀ u ∈ us, SeqAt.EqAt A s u v (eqU x u)
 | _, _, .nil, _ => fun u hu => by cases hu
 | y :: xs, u :: us, .cons r t, f => fun u' hu => by
  rw [List.all_cons, Bool.and_eq_true] at f
  rcases List.mem_cons.mp hu with rfl | hu
  ·rw [Ft r f.1]; exact M6 r rx f.1 fx
  ·exact pM rx fx t f.2 u' hu
def inV (x : V) (xs : List V) : Bool := xs.any fun y => eqV y x
def rIn (K : PySem.W.Frag) (neg : Bool) : R2 := fun x y H Q => ∃ p xs, y = .ref p /\ (SqL K H p xs \/ SqT K H p xs) /\ j8 x = true /\ xs.all j8 = true /\ Q (.bl (if neg then !inV x xs else inV x xs)) H
theorem Fv : OpR X (compareOp .In) (rIn X.K false) := by
 intro pins s σ H x y v u Q I rx ry h
 obtain ⟨p, xs, rfl, hq, fx, fs, q⟩ := h
 cases ry
 rcases hq with hq | hq
 ·obtain ⟨its, r, pl, hz⟩ := I.list hq
  refine SeqAt.in_listAt (eqU x) pl.isList (fun w hw => pM rx fx r fs w (by simpa using hw)) ⟨.bl _, H, I, rfl, ?_⟩
  rw [show its.toArray.any (eqU x) = its.any (eqU x) by simp, qL r fs]
  exact q
 ·obtain ⟨its, r, pl, hz⟩ := I.tuple hq
  refine SeqAt.in_tupleAt (eqU x) pl (fun w hw => pM rx fx r fs w (by simpa using hw)) ⟨.bl _, H, I, rfl, ?_⟩
  rw [show its.toArray.any (eqU x) = its.any (eqU x) by simp, qL r fs]
  exact q
theorem zA : OpR X (compareOp .NotIn) (rIn X.K true) := by
 intro pins s σ H x y v u Q I rx ry h
 obtain ⟨p, xs, rfl, hq, fx, fs, q⟩ := h
 cases ry
 rcases hq with hq | hq
 ·obtain ⟨its, r, pl, hz⟩ := I.list hq
  refine SeqAt.notIn_listAt (eqU x) pl.isList (fun w hw => pM rx fx r fs w (by simpa using hw)) ⟨.bl _, H, I, rfl, ?_⟩
  rw [show its.toArray.any (eqU x) = its.any (eqU x) by simp, qL r fs]
  exact q
 ·obtain ⟨its, r, pl, hz⟩ := I.tuple hq
  refine SeqAt.notIn_tupleAt (eqU x) pl (fun w hw => pM rx fx r fs w (by simpa using hw)) ⟨.bl _, H, I, rfl, ?_⟩
  rw [show its.toArray.any (eqU x) = its.any (eqU x) by simp, qL r fs]
  exact q
theorem zB : OpR X (compareOp .NotIn) (fun x y H Q => ∃ i j, x = .str i /\ y = .str j /\ Q (.bl (!(!(Builtin.Str.occurrences j i 0 j.length 1).isEmpty))) H) := by
 intro pins s σ H x y v u Q I rx ry h
 obtain ⟨i, j, rfl, rfl, q⟩ := h
 obtain ⟨t, rfl⟩ := rx
 obtain ⟨t', rfl⟩ := ry
 exact notIn_str ⟨.bl _, H, I, rfl, q⟩
theorem zE : CallR X (.builtin "len") (fun xs H Q => ∃ p ys, xs = [.ref p] /\ (SqL X.K H p ys \/ SqT X.K H p ys) /\ Q (.int ys.length) H) := by
 intro pins s σ H xs us Q I r h
 obtain ⟨p, ys, rfl, hq, q⟩ := h
 obtain ⟨u, rfl, rx⟩ := vals1 r
 cases rx
 have hn := qJ
 rcases hq with hq | hq
 ·obtain ⟨its, r', pl, hz⟩ := I.list hq
  have hlen := r'.length
  exact Calls.call_len_list pl.isList (by simp only [List.size_toArray] <;> omega) ⟨.int ys.length, H, I.tok _, ⟨s.toks + 1, by rw [List.size_toArray, hlen]⟩, q⟩
 ·obtain ⟨its, r', pl, hz⟩ := I.tuple hq
  have hlen := r'.length
  exact len_tuple pl (by simp only [List.size_toArray] <;> omega) ⟨.int ys.length, H, I.tok _, ⟨s.toks + 1, by rw [List.size_toArray, hlen]⟩, q⟩
theorem zF : CallR X (.builtin "len") (fun xs H Q => ∃ z, xs = [.str z] /\ z.length <= sizeLine /\ Q (.int z.length) H) := by
 intro pins s σ H xs us Q I r h
 obtain ⟨z, rfl, hz, q⟩ := h
 obtain ⟨u, rfl, t, rfl⟩ := vals1 r
 have hn := qJ
 exact len_str (by omega) ⟨.int z.length, H, I.tok _, ⟨_, rfl⟩, q⟩
theorem CallR.or {f : Value} {r r' : List V -> Hp -> VK -> Prop} (h : CallR X f r) (h' : CallR X f r') : CallR X f (fun xs H Q => r xs H Q \/ r' xs H Q) := by
 intro pins s σ H xs us Q I rs q
 rcases q with q | q
 ·exact h pins s σ H xs us Q I rs q
 ·exact h' pins s σ H xs us Q I rs q
theorem zG : CallR X (.type "list") (fun xs H Q => ∃ p ys, xs = [.ref p] /\ (SqL X.K H p ys \/ SqT X.K H p ys) /\ ∀ l, H l = none -> Q (.ref l) (upd H l (.lst ys))) := by
 intro pins s σ H xs us Q I r h
 obtain ⟨p, ys, rfl, hq, q⟩ := h
 obtain ⟨u, rfl, rx⟩ := vals1 r
 cases rx
 have fin : ∀ (its : List Value), Vals ys its -> ys.length <= sizeLine -> ∀ (h' : Heap) (c' : Nat), (∀ b o', s.heap.get? b = some o' -> h'.get? b = some o') ->
   h'.get? s.heap.objs.size = some { cls := .type "list", dict := none, data := .seq its.toArray c', slots := #[] } -> EP X pins σ Q (.ref s.heap.objs.size) { s with heap := h' } := fun its r' hz h' c' kp e =>
  ⟨.ref s.heap.objs.size, _, I.laid (t' := s.toks) kp (Nat.le_refl _) (show ObjOk X.prog X.w _ h' _ (.lst ys) from ⟨hz, its, c', r', e⟩), rfl, q _ (I.hok.fresh (Nat.le_refl _))⟩
 rcases hq with hq | hq
 ·obtain ⟨its, r', pl, hz⟩ := I.list hq
  have hlen := r'.length
  obtain ⟨o, ho, hc, n, hd⟩ := pl.isList
  exact call_list_seq p (.inl rfl) ho hc hd (fun h' c' kp e => fin its r' hz h' c' kp e) (by simp only [List.size_toArray] <;> omega)
 ·obtain ⟨its, r', pl, hz⟩ := I.tuple hq
  have hlen := r'.length
  obtain ⟨o, ho, hc, n, hd⟩ := pl
  exact call_list_seq p (.inr rfl) ho hc hd (fun h' c' kp e => fin its r' hz h' c' kp e) (by simp only [List.size_toArray] <;> omega)
def tyV (K : PySem.W.Frag) (T : String) (x : V) (H : Hp) : Prop := match x with
 | .str _ => T = "str"
 | .int _ => T = "int"
 | .ref p => (T = "list" /\ ∃ xs, SqL K H p xs) \/ (T = "tuple" /\ ∃ o, K.lookup p = some o /\ o.cls = .type "tuple" /\ o.dict = none) \/
   (T = "dict" /\ ((∃ kvs, H p = some (.dK kvs)) \/ ∃ kvs, H p = some (.dT kvs))) \/ (T = "set" /\ ∃ S n, H p = some (.set S n))
 | _ => False
theorem M7 {pins : List (Addr × Obj)} {σ : St} {H : Hp} {s : Shared} {T : String} {x : V} {v : Value} (I : Inv X pins σ H s) (r : RelV x v) (ty : tyV X.K T x H) :
  s.TypeIs v T /\ ∀ a, v = .ref a -> ∃ ob, s.heap.get? a = some ob /\ ob.dict = none := by
 cases x with
 | str z =>
  obtain ⟨t, rfl⟩ := r
  cases (show T = "str" from ty)
  exact ⟨typeIs_str s z t, fun _ e => nomatch e⟩
 | int i =>
  obtain ⟨t, rfl⟩ := r
  cases (show T = "int" from ty)
  exact ⟨typeIs_int s i t, fun _ e => nomatch e⟩
 | ref p =>
  cases r
  rcases ty with ⟨rfl, xs, hq⟩ | ⟨rfl, o, hk, hc, hd⟩ | ⟨rfl, hk⟩ | ⟨rfl, S, n, hk⟩
  ·obtain ⟨its, _, pl, _⟩ := I.list hq
   refine ⟨pl.isList.typeIs, fun a e => ?_⟩
   cases e
   obtain ⟨o, n, e, c, hd, _⟩ := pl
   exact ⟨o, e, hd⟩
  ·refine ⟨⟨o, I.kIn p o hk, hc⟩, fun a e => ?_⟩
   cases e
   exact ⟨o, I.kIn _ o hk, hd⟩
  ·have z : ∃ o, s.heap.get? p = some o /\ o.ExactDict := by
    rcases hk with ⟨kvs, hk⟩ | ⟨kvs, hk⟩
    ·obtain ⟨_, _, _, _, o, _, _, e, ex, _⟩ := I.hok p _ hk
     exact ⟨o, e, ex⟩
    ·obtain ⟨_, _, _, _, o, _, _, e, ex, _⟩ := I.hok p _ hk
     exact ⟨o, e, ex⟩
   obtain ⟨o, e, ex⟩ := z
   refine ⟨⟨o, e, ex.1⟩, fun a e2 => ?_⟩
   cases e2
   exact ⟨o, e, ex.2.1⟩
  ·obtain ⟨o, _, _, _, e, ex, _⟩ := I.hok p _ hk
   refine ⟨⟨o, e, ex.1⟩, fun a e2 => ?_⟩
   cases e2
   exact ⟨o, e, ex.2.1⟩
 | _ => exact False.elim ty
def tBM (K : PySem.W.Frag) (T : String) (r : V -> List V -> Hp -> VK -> Prop) (to : TE) (t : TA) : TE := fun σ H Q => to σ H fun x H1 => tyV K T x H1 /\ t σ H1 fun xs H2 => r x xs H2 Q
variable {o e : Expr} {es : List Expr} {to : TE} {t : TA} {name : Str} {apos cpos : Pos} {T id : String} {r : V -> List V -> Hp -> VK -> Prop}
theorem Dm (pa : PlainAttrs T) (slot : Slot T name id) (hty : typeOf (.builtin id) = pure (.type "method_descriptor")) (hm : MtR X id r) (ho : PE X o to) (ha : PA X (e :: es) t)
  (hbase : attributeBase o name X.env (eval o X.env) = eval o X.env := by rfl)
  (hfew : ((backTo cpos (starEach (e :: es) X.env)).all (fun x => !x.1) && (backToKw cpos (keywordEach [] X.env)).all (fun x => x.1.isSome)
   && decide ((e :: es).length + ([] : List Keyword).length + (if ([] : List Keyword).isEmpty then 0 else 1) < 30)) = true := by rfl)
  (hline : (apos.endLine == cpos.line) = true := by rfl) (hs : starEach (e :: es) X.env = (false, eval e X.env) :: starEach es X.env := by rfl) (hplain : (backTo cpos (starEach es X.env)).any (·.1) = false := by rfl) :
  PE X (.Call (.Attribute o name apos) (e :: es) [] cpos) (tBM X.K T r to t) := by
 intro pins s σ H Q I h
 refine wpAny_Call_method_late hbase hfew hline rfl (thn (ho pins s σ H _ I h) fun v s1 ⟨x, H1, I1, r1, ty, q1⟩ => ?_)
 obtain ⟨h1, h2⟩ := M7 I1 r1 ty
 refine ⟨T, id, pa, slot, hty, h1, h2, ?_⟩
 have hA := ha cpos pins s1 σ H1 _ I1 q1
 rw [hs] at hA ⊢
 refine Calls.callWith_builtin (by show (false || (backTo cpos (starEach es X.env)).any (·.1)) = false; rw [hplain] <;> rfl) (Calls.evalArgs_plain ?_)
 exact thn hA fun us s2 ⟨vs, H2, I2, r2, q2⟩ => hm pins s2 σ H2 x vs v us Q I2 r1 r2 q2
end
end L2
namespace L2
open PySem PySem.Spec PyProof.Rows
def MtM (X : Cx) (id : String) (r : V -> List V -> Hp -> VK -> Prop) : Prop :=
 ∀ (pins : List (Addr × Obj)) (s : Shared) (σ : St) (H : Hp) (x : V) (xs : List V) (v : Value) (us : List Value) (Q : VK), Inv X pins σ H s -> RelV x v -> Vals xs us -> r x xs H Q ->
  wpAny (model X.prog X.w) X.A (call (.builtin id) (v :: us)) (EP X pins σ Q) X.xe s
theorem Vals.one {x : V} {us : List Value} (h : Vals [x] us) : ∃ u, us = [u] /\ RelV x u := by
 cases h with
 | cons r t => cases t; exact ⟨_, rfl, r⟩
theorem Vals.two {x y : V} {us : List Value} (h : Vals [x, y] us) : ∃ u v, us = [u, v] /\ RelV x u /\ RelV y v := by
 cases h with
 | cons r t =>
  obtain ⟨v, rfl, q⟩ := Vals.one t
  exact ⟨_, v, rfl, r, q⟩
theorem Vals.zero {us : List Value} (h : Vals [] us) : us = [] := by cases h; rfl
theorem Vals.reverse {xs : List V} {us : List Value} (h : Vals xs us) : Vals xs.reverse us.reverse := by
 induction h with
 | nil => exact .nil
 | cons r t ih => rw [List.reverse_cons, List.reverse_cons]; exact Vals.append ih (.cons r .nil)
theorem Vals.rep {xs : List V} {us : List Value} (h : Vals xs us) : ∀ k : Nat, Vals (List.replicate k xs).flatten (List.replicate k us).flatten
 | 0 => .nil
 | k + 1 => by
  rw [List.replicate_succ, List.replicate_succ, List.flatten_cons, List.flatten_cons]
  exact Vals.append h (Vals.rep h k)
section
variable {X : Cx} {pins : List (Addr × Obj)} {σ : St} {H : Hp} {s : Shared} {l b : Addr} {xs ys zs : List V}
theorem Inv.lset {its its' : List Value} {n : Nat} {f : Array Value -> Array Value} {t' : Nat} (I : Inv X pins σ H s) (hH : H l = some (.lst xs))
  (e : s.heap.get? l = some { cls := .type "list", data := .seq its.toArray n }) (hf : f its.toArray = its'.toArray) (hv : Vals ys its') (hz : ys.length <= sizeLine) :
  Inv X pins σ (upd H l (.lst ys)) { s with heap := s.heap.update l (Obj.mapSeq f), toks := t' } := by
 have q := PySem.IsL.update e f
 rw [hf] at q
 refine I.write (x := l) (e := l) (by rw [hH]; exact trivial) (.inl rfl) (fun b' u hb hu => (Heap.get?_update_other s.heap (Obj.mapSeq f) (Ne.symm hb)).trans hu) ⟨_, q⟩ ?_
 exact ⟨hz, its', _, hv, q⟩
theorem Inv.lnew {its : List Value} {t' : Nat} (I : Inv X pins σ H s) (hv : Vals ys its) (hz : ys.length <= sizeLine) :
  Inv X pins σ (upd H s.heap.objs.size (.lst ys)) { s with heap := s.heap.push { cls := .type "list", data := .seq its.toArray }, toks := t' } :=
 I.laid (fun _ _ q => Heap.get?_push_of_some _ q) (Nat.le_refl _) ⟨hz, its, 0, hv, Heap.get?_push_size _ rfl⟩
theorem Inv.fresh (I : Inv X pins σ H s) : H s.heap.objs.size = none := I.hok.fresh (Nat.le_refl _)
theorem Inv.lstM (I : Inv X pins σ H s) (hH : H l = some (.lst xs)) : xs.length <= sizeLine /\ ∃ (its : List Value) (n : Nat), Vals xs its /\ xs.length = its.length /\ s.heap.get? l = some { cls := .type "list", data := .seq its.toArray n } := by
 obtain ⟨z, its, n, r, e⟩ := I.hok l _ hH
 exact ⟨z, its, n, r, r.length, e⟩
end
section
variable {X : Cx}
def Kc : V -> List V -> Hp -> VK -> Prop := fun x vs H Q => ∃ l xs y, x = .ref l /\ vs = [y] /\ H l = some (.lst xs) /\ xs.length < sizeLine /\ Q .non (upd H l (.lst (xs ++ [y])))
theorem rW : MtM X "list.append" Kc := by
 intro pins s σ H x vs v us Q I rx rv h
 obtain ⟨l, xs, y, rfl, rfl, hH, hz, q⟩ := h
 cases rx
 obtain ⟨u, rfl, ru⟩ := rv.one
 obtain ⟨z, its, n, r, hl, e⟩ := I.lstM hH
 refine call_meets F.slot_list_append ⟨_, e, rfl⟩ F.entry_list_append (F.args_list_append_2 _ _) (PySem.list_append l its.toArray n u (by rw [List.size_toArray]; omega)) ⟨e, ?_⟩
 refine ⟨.non, _, I.lset (its' := its ++ [u]) hH e (by simp) (r.append (.cons ru .nil)) ?_, rfl, q⟩
 rw [List.length_append, List.length_singleton]
 omega
def Hw : R2 := fun x y H Q => ∃ l b xs zs, x = .ref l /\ y = .ref b /\ H l = some (.lst xs) /\ H b = some (.lst zs) /\ xs.length + zs.length <= sizeLine /\ ∀ p, H p = none -> Q (.ref p) (upd H p (.lst (xs ++ zs)))
theorem Fw : OpR X (binaryOp .Add) Hw := by
 intro pins s σ H x y v u Q I rx ry h
 obtain ⟨l, b, xs, zs, rfl, rfl, hH, hB, hz, q⟩ := h
 cases rx
 cases ry
 obtain ⟨z, its, n, r, hl, e⟩ := I.lstM hH
 obtain ⟨z2, its2, n2, r2, hl2, e2⟩ := I.lstM hB
 refine PySem.P.add_list e e2 ?_ (by rw [List.size_toArray, List.size_toArray]; omega)
 have ea : its.toArray ++ its2.toArray = (its ++ its2).toArray := by simp
 rw [ea]
 exact ⟨.ref _, _, I.lnew (t' := s.toks) (r.append r2) (by rw [List.length_append]; omega), rfl, q _ I.fresh⟩
end
section
variable {prog : Program} {w : World} {A : Around} {E : Value -> Shared -> Prop} {s : Shared}
end
section
variable {X : Cx}
end
end L2
namespace Att
open PySem PySem.W PySem.Calls PyProof.Rows
theorem vH {P : Params} {h : Heap} : ∀ (ns : List Int) (vs : List Value), WellAll P h vs (ns.map WData.int) -> IntsAre vs ns := by
 intro ns
 induction ns with
 | nil =>
  intro vs w
  rw [List.map_nil] at w
  cases w
  exact .nil
 | cons n ns ih =>
  intro vs w
  rw [List.map_cons] at w
  cases w with
  | cons a b =>
   cases a
   exact .cons _ _ (ih _ b)
theorem Fy {l : OpenLaw} {n : Nat} (hn : l.most = some n) {P : Params} {h : Heap} {args : List WData} {vals : List Value}
  (hpre : l.row.toRowW.claim.pre args = true) (hwl : WellAll P h vals args) :
  ∃ a vs ns, vals = [Value.ref a] /\ args = [WData.list (ns.map WData.int)] /\ h.get? a = some { cls := .type "list", data := .seq vs.toArray } /\ IntsAre vs ns /\ ns.length <= n := by
 have hsh : WShape.hasAll [] args [.list .int] = true := (pre_splitW hpre).1
 have hc : l.pre.holds [] { args := args } = true := (pre_splitW hpre).2
 obtain ⟨d, r, rfl, h1, h2⟩ := hasAllW_cons hsh
 obtain rfl := hasAllW_nil h2
 obtain ⟨xs, rfl, h3⟩ := hasW_list h1
 obtain ⟨ns, rfl⟩ := items_int h3
 have hlen : ns.length <= n := by
  unfold OpenLaw.pre at hc
  have h4 : (WTm.not (.lt (.lit (.int (n : Int))) (.len (.arg 0)))).holds [] { args := [.list (ns.map .int)] } = true := by
   have h4 := (holds_andW hc).1
   rw [hn] at h4
   exact h4
  have h5 := condW_of h4 (w_not (w_lt w_lit (w_len_list (w_arg rfl))))
  rw [List.length_map] at h5
  refine Nat.le_of_not_lt fun q => ?_
  have q' : (n : Int) < ((ns.length : Nat) : Int) := by omega
  first
   | (rw [decide_eq_true q'] at h5; exact absurd h5 (by decide))
   | (simp at h5; omega)
 cases hwl with
 | cons w1 w2 =>
  cases w2
  cases w1 with
  | list ho hall => exact ⟨_, _, ns, rfl, rfl, ho, vH ns _ hall, hlen⟩
theorem Fz (l : OpenLaw) (args : List WData) : l.row.toRowW.claim.post args (.bool true) args = true :=
 postW_of (r := l.row.toRowW) (X := (true == true))
  (show WShape.has [] (.bool true) .bool = true by first | rfl | decide | simp [WShape.has, WShape.arms, WShape.armsAll])
  (show (WTm.eq .res (.lit (.bool true))).value [] { args := args, res := some (.bool true), after := args } = some (.bool (true == true)) from w_eq_bool (w_res rfl) w_lit) rfl
theorem attach_call {l : OpenLaw} {n : Nat} {q : Program} {loose : List Str} {XP : (Str -> Option Value) -> Heap -> Prop} {YP : World -> Heap -> Prop} {d : DefRec}
  (hn : l.most = some n) (hdf : d.params.defaults = [])
  (call : ∀ (w : World) (s₀ s₁ : Shared) (mg mb : Str -> Option Value) (fa : Addr) (o : Obj) (pm cd doc : Value) (a : Addr) (vs : List Value) (ns : List Int),
   Ground q loose [] XP w s₀ mg mb s₁.heap -> YP w s₁.heap ->
   s₁.heap.get? fa = some o -> o.data = .func (docDef d.name d.params d.body d.scope pm cd doc) -> s₁.heap.CodeRec cd d.name -> mg d.name = some (.ref fa) ->
   s₁.heap.get? a = some { cls := .type "list", data := .seq vs.toArray } -> IntsAre vs ns -> ns.length <= n -> s₁.gens = #[] ->
   codeAny (model l.prog w) callerA (.call (.ref fa) ⟨[.ref a], []⟩) (fun r s' => r = .ok (.ret (.bool true)) /\ OldK s₁.heap s'.heap /\ s'.os = s₁.os /\ AllBare s'.gens) s₁) :
  WalkO q loose XP YP l.row.toRowW d [] (fun f vs => PySem.call f vs) := by
 intro w s₀ s₁ mg mb G Y fa o pm cd doc dV kV ho hd hcd hD hmg hg args vals as hpre hlay hrd hwl hlo
 obtain rfl : dV = .none := Dflts.none hD hdf
 obtain rfl : kV = .none := Dflts.noKw hD
 obtain ⟨a, vs, ns, rfl, rfl, hobj, hints, hlen⟩ := Fy hn hpre hwl
 refine enter_call (codeAny_mono (call w s₀ s₁ mg mb fa o pm cd doc a vs ns G Y ho (fd_plain hd) hcd hmg hobj hints hlen hg) fun r s' hq => ?_)
 obtain ⟨rfl, h2, h3, h4⟩ := hq
 exact ⟨.inl ⟨.bool true, .bool true, [], rfl, fun _ => rfl, .bool true, Fz l _, fun _ => ⟨List.Pairwise.nil, fun _ hm => (nomatch hm)⟩⟩, h2, h3, h4⟩
section
variable {prog : Program} {w : World} {A : Around} {E : Value -> Shared -> Prop} {s : Shared} {K : Frag}
def ledger (h : Heap) (L d : Addr) : List (Addr × Obj) := (List.range h.objs.size).filterMap fun a => if a = L \/ a = d then none else (h.get? a).map fun o => (a, o)
end
end Att
namespace L2
open PySem PySem.Spec PyProof.Rows
theorem xP : ∀ {vs : List Value} {ns : List Int}, IntsAre vs ns -> Vals (ns.map V.int) vs
 | _, _, .nil => .nil
 | _, _, .cons n t h => .cons ⟨t, rfl⟩ (xP h)
def Only (H : Hp) : Prop := ∀ b, H b = none \/ ∃ o xs, H b = some (.frz o (.lst xs))
theorem Hx {P : Program} {w : World} {K : PySem.W.Frag} {mg mb : Str -> Option Value} {CX : CXT} {k : Nat} {fa a : Addr} {fd : FuncData} {x : Str} {sp : Sp} {s₁ : Shared} {vs : List Value} {ns : List Int}
  (KX : K.In s₁.heap) (hns : s₁.heap.Ns mainGlobals mg) (hb : s₁.heap.Ns builtinsNs mb) (hbb : ∀ x : Str, x ≠ "__name__" -> mb x = bootBuiltins x) (hlim : s₁.heap.NoLimit) (hg : s₁.gens = #[])
  (ha : s₁.heap.get? a = some { cls := .type "list", data := .seq vs.toArray }) (hi : IntsAre vs ns) (hl : ns.length <= sizeLine) (hr : Room k callerA)
  (F : ∀ base : Heap, K.In base -> base.Ns mainGlobals mg -> FnOk P w K mg base CX k fa fd [x] sp) (hbind : ∀ (s : Shared) (u : Value), BindsTo s fd ⟨[u], []⟩ [(x, u)])
  (hsp : ∀ H : Hp, Only H -> SqL K H a (ns.map V.int) -> sp [.ref a] H (fun v _ => v = .bl true) fun _ _ _ => False)
  (hCX : ∀ H e s', CX [] H s₁ (fun _ _ _ => False) e s' -> False) :
  codeAny (model P w) callerA (.call (.ref fa) ⟨[.ref a], []⟩) (fun r s' => r = .ok (.ret (.bool true)) /\ OldK s₁.heap s'.heap /\ s'.os = s₁.os /\ AllBare s'.gens) s₁ := by
 have rv := xP hi
 have lenV := hi.length
 have core : ∀ H : Hp, Only H -> SqL K H a (ns.map V.int) -> HOk P w H s₁.heap -> (∀ b, H b ≠ none -> b = a) -> (H a ≠ none -> K.lookup a = none) ->
   codeAny (model P w) callerA (.call (.ref fa) ⟨[.ref a], []⟩) (fun r s' => r = .ok (.ret (.bool true)) /\ OldK s₁.heap s'.heap /\ s'.os = s₁.os /\ AllBare s'.gens) s₁ := by
  intro H hO hS hok hA hK
  have base_of : ∀ {b : Addr} {o : Obj}, s₁.heap.get? b = some o -> H b = none -> (qU s₁.heap H).get? b = some o := fun e n => Ha e n
  have noA : ∀ {b : Addr} {o : Obj} {es : Array DictEntry} {ep : Nat}, s₁.heap.get? b = some o -> o.data = .dict es ep -> H b = none := fun {b o es ep} e d => by
   cases q : H b with
   | none => rfl
   | some u =>
    have e' : b = a := hA b (by rw [q]; simp)
    subst e'
    rw [ha] at e; cases e
    have d' : Data.seq vs.toArray _ = Data.dict es ep := d
    cases d'
  have nsK : ∀ {b : Addr} {m : Str -> Option Value}, s₁.heap.Ns b m -> (qU s₁.heap H).Ns b m := fun {b m} ⟨o, es, ep, e, d, r⟩ => ⟨o, es, ep, base_of e (noA e d), d, r⟩
  have hKb : K.In (qU s₁.heap H) := fun b o e => base_of (KX b o e) (by
   cases q : H b with
   | none => rfl
   | some u =>
    have e' : b = a := hA b (by rw [q]; simp)
    subst e'
    rw [hK (by rw [q]; simp)] at e; cases e)
  have hM : Mod K mg (qU s₁.heap H) := ⟨hKb, nsK hns, ⟨mb, nsK hb, hbb⟩, let ⟨mc, h1, h2⟩ := hlim; ⟨mc, nsK h1, h2⟩⟩
  have e0 : Env0 P w K mg (qU s₁.heap H) callerA [] s₁ H := ⟨rfl, hM, fun b o e => JN e, Nat.le_of_eq (Es _ _), trivial, fun b hb => absurd (show b ∈ ([] : List Addr) from hb) (by simp), hok, .of_eq hg⟩
  refine codeAny_mono ((F _ hKb (nsK hns)).run callerA [] s₁ H ⟨[.ref a], []⟩ [.ref a] [.ref a] _ _ hr e0 (hbind s₁ (.ref a)) (.cons rfl .nil) (hsp H hO hS)) fun r s' h => ?_
  cases r with
  | error e => exact (hCX H e s' h).elim
  | ok fl =>
   cases fl with
   | next => exact False.elim h
   | brk => exact False.elim h
   | cont => exact False.elim h
   | ret u =>
    obtain ⟨v, H', os, bare, un, hok', r', q⟩ := h
    have q' : v = .bl true := q
    subst q'
    obtain rfl : u = Value.bool true := r'
    refine ⟨rfl, OldK.of_keep fun b o e => ?_, os, bare⟩
    cases q : H b with
    | none => exact un.keep b o e q (by intro z; exact absurd (show b ∈ ([] : List Addr) from z) (by simp)) (by simp)
    | some u =>
     rcases hO b with z | ⟨ob, xs, z⟩
     ·rw [q] at z; cases z
     ·have z2 := un.frzs b ob _ z
      obtain ⟨e1, _⟩ := hok b _ z
      obtain ⟨e2, _⟩ := hok' b _ z2
      rw [e] at e1; cases e1
      exact e2
 cases hk : K.lookup a with
 | some o =>
  have e := KX a o hk
  rw [ha] at e
  cases e
  refine core (fun _ => none) (fun _ => .inl rfl) (.inr ⟨_, vs.toArray, _, hk, rfl, rfl, rfl, by rw [List.size_toArray, lenV]; exact hl, by simpa using rv⟩) (fun b u z => by have z' : (none : Option HO) = some u := z; cases z') (fun b z => absurd rfl z) fun z => absurd rfl z
 | none =>
  refine core (fun b => if b = a then some (.frz { cls := .type "list", data := .seq vs.toArray } (.lst (ns.map V.int))) else none) (fun b => ?_) (.inl (.inr ⟨{ cls := .type "list", data := .seq vs.toArray }, if_pos rfl⟩)) (fun b u z => ?_) (fun b z => ?_) fun _ => hk
  ·by_cases hb : b = a
   ·exact .inr ⟨_, _, if_pos hb⟩
   ·exact .inl (if_neg hb)
  ·by_cases hb : b = a
   ·have z' := (if_pos hb).symm.trans z
    cases z'
    subst hb
    exact ⟨ha, by rw [List.length_map]; exact hl, vs, _, rv, ha⟩
   ·have z' := (if_neg hb).symm.trans z
    cases z'
  ·by_cases hb : b = a
   ·exact hb
   ·exact absurd (if_neg hb) z
end L2
namespace L2
open PySem PySem.Spec PyProof.Rows
theorem walk_of {l : PySem.W.OpenLaw} {n k : Nat} {q : Program} {loose : List Str} {XP : (Str -> Option Value) -> Heap -> Prop} {YP : World -> Heap -> Prop} {d : DefRec} {K : Params -> PySem.W.Frag} {CX : World -> CXT} {sp : World -> Sp} {x : Str}
  (hn : l.most = some n) (hn2 : n <= sizeLine) (hdf : d.params.defaults = []) (hr : Room k callerA)
  (hY : ∀ (w : World) (h : Heap), YP w h -> (K w.params).In h)
  (F : ∀ (w : World) (mg : Str -> Option Value) (fa : Addr) (h : Heap), (K w.params).In h -> h.Ns mainGlobals mg -> mg d.name = some (.ref fa) ->
   ∃ fd : FuncData, (∀ (s : Shared) (u : Value), BindsTo s fd ⟨[u], []⟩ [(x, u)]) /\
    ∀ base : Heap, (K w.params).In base -> base.Ns mainGlobals mg -> FnOk l.prog w (K w.params) mg base (CX w) k fa fd [x] (sp w))
  (hsp : ∀ (w : World) (H : Hp) (a : Addr) (ns : List Int), ns.length <= n -> Only H -> SqL (K w.params) H a (ns.map V.int) -> sp w [.ref a] H (fun v _ => v = .bl true) fun _ _ _ => False)
  (hCX : ∀ (w : World) (H : Hp) (s : Shared) (e : Value) (s' : Shared), CX w [] H s (fun _ _ _ => False) e s' -> False) :
  PySem.W.WalkO q loose XP YP l.row.toRowW d [] (fun f vs => PySem.call f vs) := by
 refine Att.attach_call hn hdf fun w s₀ s₁ mg mb fa o pm cd doc a vs ns G Y ho hd hcd hmg hobj hints hlen hg => ?_
 have KX := hY w _ Y
 obtain ⟨fd, hb, hF⟩ := F w mg fa _ KX G.T.g hmg
 exact Hx KX G.T.g G.T.b G.T.builtins G.T.nolimit hg hobj hints (Nat.le_trans hlen hn2) hr hF hb (fun H hO hS => hsp w H a ns hlen hO hS) fun H e s' => hCX w H s₁ e s'
end L2
namespace L2
open PySem PySem.Spec PyProof.Rows
def inClass (s : Stmt) (j : Nat) : Stmt := match s with
 | .ClassDef _ _ _ body _ _ _ _ _ _ _ => body.getD j (.Pass ⟨0, 0, 0, 0⟩)
 | _ => .Pass ⟨0, 0, 0, 0⟩
def aP (s : Stmt) : Arguments := match s with
 | .FunctionDef _ a _ _ _ _ _ _ _ _ => a
 | _ => { posonlyargs := [], args := [], vararg := none, kwonlyargs := [], kw_defaults := [], kwarg := none, defaults := [] }
def aO (s : Stmt) : List Stmt := match s with
 | .FunctionDef _ _ b _ _ _ _ _ _ _ => b
 | _ => []
def ao (s : Stmt) : Scope := match s with
 | .FunctionDef _ _ _ _ _ _ sc _ _ _ => sc
 | _ => { kind := .function, names := [], isGenerator := false, isCoroutine := false }
abbrev CX0 : CXT := fun _ _ _ _ _ _ => False
abbrev E0 : XK := fun _ _ _ => False
theorem Dn {X : Cx} : qK CX0 X E0 := fun _ _ _ _ _ _ _ h => h.elim
structure Fun (K : PySem.W.Frag) (x qual : Str) (st : Stmt) (f : Addr) (fd : FuncData) : Prop where
 ex : ∃ (oc : Value) (od : Option Addr) (kV doc pm : Value) (an : Option Addr) (cdv ct : Value) (osl : Array (Option Value)),
  fd = PySem.W.fnOf x qual (aP st) (aO st) (ao st) .none kV doc pm an cdv ct /\ K.lookup f = some ⟨oc, od, .func fd, osl⟩ /\ PySem.W.codeIn K cdv qual = true
 kp : PySem.W.keepIn K (.ref f) = true
section
variable {P : Program} {w : World} {K : PySem.W.Frag} {mg : Str -> Option Value} {base : Heap}
theorem Fun.ok {x qual : Str} {st : Stmt} {f : Addr} {fd : FuncData} {N ps : List Str} {k : Nat} {sp : Sp} (F : Fun K x qual st f fd) (S : FnScope N ps (ao st)) (len : ∀ vs H Q E, sp vs H Q E -> vs.length = ps.length)
  (hbody : ∀ (cdv : Value) (A : Around) (outer : List Env) (s : Shared) (H : Hp) (vs : List V) (Q : VK) (E : XK), Room k (A.deeper (envOfC qual (ao st) s.heap.objs.size f cdv)) -> sp vs H Q E ->
   ∃ t, PSs (u0 CX0 P w K mg base N qual (ao st) f cdv A outer s H E).nox (aO st) t /\ t { nx := fun _ H' => Q .non H', rt := Q } (start N vs) H) : FnOk P w K mg base CX0 (k + 1) f fd ps sp := by
 obtain ⟨oc, od, kV, doc, pm, an, cdv, ct, osl, rfl, lk, hcd⟩ := F.ex
 refine Qf lk hcd S len fun A outer s H vs Q E hr hsp => ?_
 obtain ⟨t, h, q⟩ := hbody cdv A outer s H vs Q E hr hsp
 exact ⟨t, h.nox, q⟩
theorem Fun.binds {x qual : Str} {st : Stmt} {f : Addr} {fd : FuncData} {ps : List Str} (F : Fun K x qual st f fd)
  (h : ∀ (kV doc pm : Value) (an : Option Addr) (cdv ct : Value) (us : List Value), us.length = ps.length -> bindArgs (PySem.W.fnOf x qual (aP st) (aO st) (ao st) .none kV doc pm an cdv ct) ⟨us, []⟩ = pure (ps.zip us)) : Binds K fd ps [] := by
 obtain ⟨oc, od, kV, doc, pm, an, cdv, ct, osl, rfl, lk, hcd⟩ := F.ex
 exact .all (h kV doc pm an cdv ct)
theorem a_ {x qual : Str} {st : Stmt} {f : Addr} {oc : Value} {od an : Option Addr} {osl : Array (Option Value)} {kV doc pm cdv ct : Value} (l : K.lookup f = some ⟨oc, od, .func (PySem.W.fnOf x qual (aP st) (aO st) (ao st) .none kV doc pm an cdv ct), osl⟩)
  (c : PySem.W.codeIn K cdv qual = true) (k : PySem.W.keepIn K (.ref f) = true) : Fun K x qual st f (PySem.W.fnOf x qual (aP st) (aO st) (ao st) .none kV doc pm an cdv ct) := ⟨⟨oc, od, kV, doc, pm, an, cdv, ct, osl, rfl, l, c⟩, k⟩
end
theorem yS {A : Around} {k : Nat} (hr : Room k A) : A.units + 1 < cLine := Nat.lt_of_le_of_lt (Nat.add_le_add_left (by decide : 1 <= 64) _) hr.units
theorem FJ {n : Nat} (h : n <= 1000) : n < sizeLine := Nat.lt_of_le_of_lt h (by decide)
section
variable {X : Cx}
theorem pv (i : Nat) {x : Str} {pos : Pos} (hN : X.N[i]? = some x := by rfl) (hv : Vis X.env.scope x := by first | exact Or.inl rfl | exact Or.inr (Or.inl rfl) | exact Or.inr (Or.inr rfl)) (hd : (x == ("__debug__" : Str)) = false := by decide)
  (hcd : (x == ("__classdict__" : Str)) = false := by decide) : PE X (.Name x pos) (Lz i) := oR hN hv hd hcd
end
theorem Do {A B : Prop} (h : B) : if false = true then A else B := by
 rw [if_neg Bool.false_ne_true]
 exact h
theorem Dp {A B : Prop} (h : A) : if true = true then A else B := by
 rw [if_pos rfl]
 exact h
def Same (H H' : Hp) : Prop := ∀ b o, H b = some o -> H' b = some o
theorem Same.refl (H : Hp) : Same H H := fun _ _ h => h
theorem Same.trans {H H1 H2 : Hp} (a : Same H H1) (b : Same H1 H2) : Same H H2 := fun c o h => b c o (a c o h)
theorem Same.free {H H' : Hp} (e : Same H H') {l : Addr} (h : H' l = Option.none) : H l = Option.none := by
 cases q : H l with
 | none => rfl
 | some o =>
  rw [e l o q] at h
  cases h
theorem Same.seq {K : PySem.W.Frag} {H H' : Hp} {a : Addr} {xs : List V} (e : Same H H') (h : SqL K H a xs) : SqL K H' a xs := by
 rcases h with (h | ⟨o, h⟩) | h
 ·exact .inl (.inl (e _ _ h))
 ·exact .inl (.inr ⟨o, e _ _ h⟩)
 ·exact .inr h
end L2
namespace L2
open PySem PySem.Spec PyProof.Rows
section
variable {X : Cx}
theorem FN : CallR X (.builtin "len") (fun xs H Q => ∃ a kvs, xs = [V.ref a] /\ H a = some (.dK kvs) /\ Q (.int kvs.length) H) := by
 intro pins s σ H xs us Q I r h
 obtain ⟨a, kvs, rfl, ha, q⟩ := h
 obtain ⟨u, rfl, ru⟩ := vals1 r
 cases ru
 exact Qh I (.inl ha) fun t s' I' => ⟨.int kvs.length, H, I', ⟨t, rfl⟩, q⟩
end
section
variable {κ : Type} [DecidableEq κ]
end
end L2
namespace L2
open PySem PySem.Spec PyProof.Rows
theorem u5 {α β : Type} {l : List α} {f : α -> β -> Sem (ForInStep β)} (g : α -> β -> β) : ∀ (c : β), (∀ x ∈ l, ∀ c, f x c = pure (.yield (g x c))) ->
  forIn l c f = pure (l.foldl (fun c x => g x c) c) := by
 induction l with
 | nil => intro c _; rfl
 | cons x l ih =>
  intro c h
  rw [List.forIn_cons, h x List.mem_cons_self, pure_bind]
  exact ih _ fun y hy => h y (List.mem_cons_of_mem _ hy)
def jZ (env : Env) (x : Str × NameKind) (c : List (Str × Addr)) : List (Str × Addr) := if x.2 = .free then (x.1, (env.cells.lookup x.1).getD 0) :: c else c
def u6 (env : Env) (names : List (Str × NameKind)) : List (Str × Addr) := names.foldl (fun c x => jZ env x c) []
theorem yz {scope : Scope} {env : Env} (h : ∀ x ∈ scope.names, x.2 = .free -> ∃ c, env.cells.lookup x.1 = some c) : closureFor scope env = pure (u6 env scope.names) := by
 simp only [closureFor]
 rw [u5 (jZ env) [] (fun x hx c => by
  obtain ⟨n, kind⟩ := x
  by_cases e : kind = .free
  ·subst e
   obtain ⟨a, ha⟩ := h _ hx rfl
   have ha' : env.cells.lookup n = some a := ha
   simp [jZ, cellOf, ha']
  ·have : (kind == NameKind.free) = false := by simpa using e
   simp [jZ, e, this])]
 rfl
theorem vI {env : Env} : ∀ (l : List (Str × NameKind)) (cs : List (Str × Addr)), (∀ x ∈ l, x.2 = .free -> ∃ c, env.cells.lookup x.1 = some c) -> (∀ y c, cs.lookup y = some c -> env.cells.lookup y = some c) ->
  ∀ y c, (l.foldl (fun c x => jZ env x c) cs).lookup y = some c -> env.cells.lookup y = some c
 | [], cs, _, h2, y, c, e => h2 y c e
 | x :: r, cs, h1, h2, y, c, e => by
  refine vI r (jZ env x cs) (fun z hz => h1 z (List.mem_cons_of_mem _ hz)) (fun z d q => ?_) y c e
  unfold jZ at q
  by_cases k : x.2 = .free
  ·rw [if_pos k] at q
   obtain ⟨a, ha⟩ := h1 x List.mem_cons_self k
   rw [List.lookup_cons] at q
   cases hb : z == x.1 with
   | true =>
    rw [hb] at q
    have ez : z = x.1 := by simpa using hb
    rw [ha] at q
    have q' : a = d := by simpa using q
    rw [ez, ha, q']
   | false =>
    rw [hb] at q
    exact h2 z d q
  ·rw [if_neg k] at q
   exact h2 z d q
theorem pN {env : Env} {names : List (Str × NameKind)} (h : ∀ x ∈ names, x.2 = .free -> ∃ c, env.cells.lookup x.1 = some c) {y : Str} {c : Addr} (e : (u6 env names).lookup y = some c) : env.cells.lookup y = some c :=
 vI names [] h (fun y c q => by simp at q) y c e
theorem vJ {env : Env} {y : Str} : ∀ (l : List (Str × NameKind)) (cs : List (Str × Addr)), ((y, .free) ∈ l \/ ∃ c, cs.lookup y = some c) -> ∃ c, (l.foldl (fun c x => jZ env x c) cs).lookup y = some c
 | [], cs, h => by
  rcases h with h | h
  ·simp at h
  ·exact h
 | x :: r, cs, h => by
  refine vJ r (jZ env x cs) ?_
  rcases h with h | ⟨c, h⟩
  ·rcases List.mem_cons.mp h with e | e
   ·refine .inr ⟨(env.cells.lookup y).getD 0, ?_⟩
    rw [← e]
    simp [jZ]
   ·exact .inl e
  ·refine .inr ?_
   unfold jZ
   split
   ·rw [List.lookup_cons]
    split
    ·exact ⟨_, rfl⟩
    ·exact ⟨c, h⟩
   ·exact ⟨c, h⟩
theorem FP {env : Env} {names : List (Str × NameKind)} {y : Str} (h : (y, .free) ∈ names) : ∃ c, (u6 env names).lookup y = some c := vJ names [] (.inl h)
theorem mem_of_lookup {x : Str} {k : NameKind} : ∀ {l : List (Str × NameKind)}, l.lookup x = some k -> (x, k) ∈ l
 | [], h => by simp at h
 | (n, j) :: r, h => by
  rw [List.lookup_cons] at h
  cases hb : x == n with
  | true =>
   rw [hb] at h
   have e : x = n := by simpa using hb
   have e2 : j = k := by simpa using h
   rw [e, e2]
   exact List.mem_cons_self
  | false =>
   rw [hb] at h
   exact List.mem_cons_of_mem _ (mem_of_lookup h)
theorem rY {env : Env} : ∀ {names : List (Str × NameKind)} {x : Str}, names.lookup x = some .free ->
  (names.map fun (n, k) => if (k == NameKind.free && env.scope.kind == .function && env.kindOf n == some .cell) then (n, NameKind.cell) else (n, k)).lookup x = some .cell \/
  (names.map fun (n, k) => if (k == NameKind.free && env.scope.kind == .function && env.kindOf n == some .cell) then (n, NameKind.cell) else (n, k)).lookup x = some .free
 | [], _, h => by simp at h
 | (n, k) :: r, x, h => by
  have ih := @rY env r x
  cases hx : x == n with
  | true =>
   simp only [List.lookup_cons, hx] at h
   cases h
   by_cases hc : (NameKind.free == NameKind.free && env.scope.kind == .function && env.kindOf n == some .cell) = true
   ·refine .inl ?_
    simp only [List.map_cons, if_pos hc, List.lookup_cons, hx]
   ·refine .inr ?_
    simp only [List.map_cons, if_neg hc, List.lookup_cons, hx]
  | false =>
   simp only [List.lookup_cons, hx] at h
   have ih := ih h
   by_cases hc : (k == NameKind.free && env.scope.kind == .function && env.kindOf n == some .cell) = true
   ·simp only [List.map_cons, if_pos hc, List.lookup_cons, hx]
    exact ih
   ·simp only [List.map_cons, if_neg hc, List.lookup_cons, hx]
    exact ih
theorem qW {env : Env} : ∀ {names : List (Str × NameKind)} {x : Str} {j : NameKind}, (∀ y ∈ names, y.2 ≠ .cell) -> (j = .cell \/ j = .free) ->
  (names.map fun (n, k) => if (k == NameKind.free && env.scope.kind == .function && env.kindOf n == some .cell) then (n, NameKind.cell) else (n, k)).lookup x = some j -> (x, .free) ∈ names
 | [], _, _, _, _, h => by simp at h
 | (n, k) :: r, x, j, hn, hj, h => by
  have ih := @qW env r x j (fun y hy => hn y (List.mem_cons_of_mem _ hy)) hj
  cases hx : x == n with
  | true =>
   have e : x = n := by simpa using hx
   subst e
   by_cases hc : (k == NameKind.free && env.scope.kind == .function && env.kindOf x == some .cell) = true
   ·have hk : k = .free := by
     simp only [Bool.and_eq_true, beq_iff_eq] at hc
     exact hc.1.1
    subst hk
    exact List.mem_cons_self
   ·simp only [List.map_cons, if_neg hc, List.lookup_cons, hx] at h
    have hk : k = j := by simpa using h
    rcases hj with z | z
    ·exact absurd (hk.trans z) (hn (x, k) List.mem_cons_self)
    ·rw [hk, z]
     exact List.mem_cons_self
  | false =>
   by_cases hc : (k == NameKind.free && env.scope.kind == .function && env.kindOf n == some .cell) = true
   ·simp only [List.map_cons, if_pos hc, List.lookup_cons, hx] at h
    exact List.mem_cons_of_mem _ (ih h)
   ·simp only [List.map_cons, if_neg hc, List.lookup_cons, hx] at h
    exact List.mem_cons_of_mem _ (ih h)
abbrev Cx.comp (X : Cx) (N : List Str) (scope : Scope) (C : Addr) (s : Shared) (H : Hp) (fp : List Addr) : Cx where
 prog := X.prog
 w := X.w
 K := X.K
 mg := X.mg
 base := X.base
 A := X.A
 N := N
 s₀ := s
 H₀ := H
 env := compEnvC scope (u6 X.env scope.names) C X.env
 outer := X.stack
 stack := X.stack
 ex := fp
 fn := fun _ => false
 calm := X.calm
 pn := []
 xe := fun _ _ => False
def yU (scope : Scope) (ON N : List Str) (cap : List (Option Nat)) : Bool :=
 cap.length == N.length && (List.range N.length).all fun j => match cap[j]? with
  | some (some i) => (match N[j]?, ON[i]? with
   | some x, some y => x == y && (scope.names.lookup x == some NameKind.free)
   | _, _ => false)
  | _ => true
structure CSc (osc scope : Scope) (ON N : List Str) (cap : List (Option Nat)) : Prop where
 kind : scope.kind = .function
 noc : ∀ y ∈ scope.names, y.2 ≠ .cell
 loc : ∀ y ∈ scope.names, y.2 = .local -> scope.names.lookup y.1 = some .local
 fr : ∀ y ∈ scope.names, y.2 = .free -> osc.names.lookup y.1 = some .cell \/ osc.names.lookup y.1 = some .free
 cap : yU scope ON N cap = true
theorem CSc.at {osc scope : Scope} {ON N : List Str} {cap : List (Option Nat)} (S : CSc osc scope ON N cap) {j i : Nat} {x : Str} (h : cap[j]? = some (some i)) (hx : N[j]? = some x) : ON[i]? = some x /\ scope.names.lookup x = some .free := by
 have h0 := S.cap
 unfold yU at h0
 rw [Bool.and_eq_true] at h0
 have hj : j < N.length := (List.getElem?_eq_some_iff.mp hx).1
 have h1 := List.all_eq_true.mp h0.2 j (List.mem_range.mpr hj)
 rw [h] at h1
 dsimp only at h1
 rw [hx] at h1
 cases hy : ON[i]? with
 | none => rw [hy] at h1; simp at h1
 | some y =>
  rw [hy] at h1
  simp only [Bool.and_eq_true, beq_iff_eq] at h1
  exact ⟨by rw [h1.1], h1.2⟩
theorem CSc.len {osc scope : Scope} {ON N : List Str} {cap : List (Option Nat)} (S : CSc osc scope ON N cap) : cap.length = N.length := by
 have h0 := S.cap
 unfold yU at h0
 rw [Bool.and_eq_true, beq_iff_eq] at h0
 exact h0.1
def zH (σ : St) : Option Nat -> Option V
 | some i => (σ[i]?).getD none
 | none => none
def gU (cap : List (Option Nat)) (σ : St) : St := cap.map (zH σ)
def rZ (X : Cx) (ifs : List Expr) (t : TT) : Prop :=
 ∀ (pins : List (Addr × Obj)) (s : Shared) (σ : St) (H : Hp) (Q : Bool -> Hp -> Prop), Inv X pins σ H s -> t σ H Q ->
  wpAny (model X.prog X.w) X.A (forIn ifs true fun c r => if r = true then do let ok ← isTrue c X.env (eval c X.env); pure (ForInStep.yield ok) else pure (ForInStep.yield r)) (TP X pins σ Q) X.xe s
def Rx : TT := fun _ H Q => Q true H
theorem Hy {X : Cx} : rZ X [] Rx := fun _ _ _ H _ I h => wpAny_tests_nil ⟨H, I, h⟩
theorem eG {X : Cx} {c : Expr} {t : TT} (h : PT X c t) : rZ X [c] t := fun pins s σ H Q I q => wpAny_tests_one (h pins s σ H Q I q)
theorem p7 {prog : Program} {w : World} {A : Around} {R : Result -> Shared -> Prop} {s : Shared} {elt target iter : Expr} {ifs : List Expr} {scope : Scope} {pos : Pos} {it acc : Value} {env : Env} (I : Nat -> Shared -> Prop)
  (turn : ∀ n s, I n s -> wpAny (model prog w) A (pyNext it) (fun r s₁ => match r with
   | none => R (.ok .next) s₁
   | some v => wpAny (model prog w) A (letOwnedTupleGo target it v) (fun _ s₁' => wpAny (model prog w) A (assign target env v) (fun _ s₂ =>
     wpAny (model prog w) A (forIn ifs true fun c r => if r = true then do let ok ← isTrue c env (eval c env); pure (ForInStep.yield ok) else pure (ForInStep.yield r)) (fun ok s₃ =>
      if ok = true then wpAny (model prog w) A (eval elt env) (fun x s₄ =>
       wpAny (model prog w) A (call (.builtin "list.append") [acc, x]) (fun _ s₅ => ∃ m, m < n /\ I m s₅) (fun _ _ => False) s₄) (fun _ _ => False) s₃
      else ∃ m, m < n /\ I m s₃) (fun _ _ => False) s₂) (fun _ _ => False) s₁') (fun _ _ => False) s₁) (fun _ _ => False) s)
  (n : Nat) (h : I n s) :
  codeAny (model prog w) A (.compLoop (.ListComp elt [⟨target, iter, ifs, 0⟩] scope pos) 0 it acc env) R s := by
 refine codeAny_loop rfl I (fun n s hI => ?_) n h
 show wpAny _ A ((compTurn (.ListComp elt [⟨target, iter, ifs, 0⟩] scope pos) 0 it acc env).onRaise (fun x => do noteFrame x env; theTreesLotGoes x)) _ _ s
 refine wpAny_noted ?_
 rw [compTurn_list]
 refine wpAny_bind (wpAny_standAt (wpAny_bind (wpAny_mono (turn n s hI) (fun r s₁ h₁ => ?_) fun _ _ h' => h'.elim)))
 cases r with
 | none => exact wpAny_pure h₁
 | some v =>
  refine wpAny_bind (wpAny_mono h₁ (fun _ s₁' h₁' => ?_) fun _ _ h' => h'.elim)
  refine wpAny_bind (wpAny_mono h₁' (fun _ s₂ h₂ => wpAny_bind (wpAny_mono h₂ (fun ok s₃ h₃ => ?_) fun _ _ h' => h'.elim)) fun _ _ h' => h'.elim)
  cases ok with
  | false => exact wpAny_pure ⟨rfl, h₃⟩
  | true =>
   exact wpAny_bind (wpAny_bind (wpAny_mono h₃ (fun x s₄ h₄ => wpAny_bind (wpAny_mono h₄ (fun _ s₅ h₅ => wpAny_pure (wpAny_pure ⟨rfl, h₅⟩)) fun _ _ h' => h'.elim)) fun _ _ h' => h'.elim))
def Kp (σ σ2 : St) : Prop := σ.length = σ2.length /\ ∀ (i : Nat) (v : V), σ[i]? = some (some v) -> σ2[i]? = some (some v)
structure TComp (wi : TI) (cap : List (Option Nat)) (g : TG) (tt : TT) (te : TE) (σ : St) (H : Hp) (Q : VK) : Prop where
 ex : wi σ H fun J H1 => ∀ D, H1 D = none -> ∃ W : Nat -> Nat -> List V -> Hp -> Prop,
 (∃ m, W 0 m [] (upd H1 D (.lst []))) /\ ∀ i m ys H, W i m ys H -> H D = some (.lst ys) /\ ((J.stop i H /\ Q (.ref D) H) \/
  (J.go i H /\ ∃ N : List V -> Hp -> Prop, (∀ ys' H', N ys' H' -> ∃ m', m' < m /\ W (i + 1) m' ys' H') /\ ∀ x H', J.yld i H x H' -> g x (gU cap σ) H' fun σ2 H2 => Kp (gU cap σ) σ2 /\ tt σ2 H2 fun b H3 =>
   if b = true then te σ2 H3 fun y H4 => H4 D = some (.lst ys) /\ ys.length < sizeLine /\ N (ys ++ [y]) (upd H4 D (.lst (ys ++ [y]))) else N ys H3))
def yV (wi : TI) (cap : List (Option Nat)) (g : TG) (tt : TT) (te : TE) : TE := fun σ H Q => TComp wi cap g tt te σ H Q
section
variable {X : Cx} {tg iter elt : Expr} {ifs : List Expr} {scope osc : Scope} {ON N : List Str} {cap : List (Option Nat)} {wi : TI} {g : TG} {tt : TT} {te : TE} {pos : Pos}
theorem Kd {pins : List (Addr × Obj)} {σ : St} {H2 : Hp} {s2 : Shared} {fp : List Addr} {C : Addr} (I2 : Inv X pins σ H2 s2) (S : CSc osc scope ON N cap) (hsc : X.env.scope = osc) (f2 : ∀ b ∈ fp, nO X pins H2 b)
  (hfp : ∀ b ∈ fp, b < s2.heap.objs.size) (hC : s2.heap.objs.size <= C) : (X.comp N scope C s2 H2 fp).Ok := by
 have hfr : ∀ x ∈ scope.names, x.2 = .free -> ∃ c, X.env.cells.lookup x.1 = some c := fun x hx e => I2.ok.has x.1 (by
  rcases S.fr x hx e with z | z
  ·exact .inl (by rw [Env.kindOf, hsc]; exact z)
  ·exact .inr (by rw [Env.kindOf, hsc]; exact z))
 refine ⟨I2.mod, S.kind, I2.ok.glob, I2.ok.blt, hC, fun x y c h1 h2 => I2.ok.inj x y c (pN hfr h1) (pN hfr h2), fun x h => ?_, fun x c h => by simp at h, I2.ok.hd, I2.ok.frames, .inl rfl, fun b hb => ⟨?_, fun x c e => ?_⟩, fun b o e => I2.bs b o e, ?_, fun b o e hb => ?_, fun b hb hz => ?_, I2.stack, I2.stkFree⟩
 ·have hm : (x, NameKind.free) ∈ scope.names := by
   rcases h with h | h
   ·exact qW (env := X.env) S.noc (.inl rfl) h
   ·exact qW (env := X.env) S.noc (.inr rfl) h
  exact FP hm
 ·exact Nat.ne_of_lt (Nat.lt_of_lt_of_le (hfp b hb) hC)
 ·exact (f2 b hb).2.2.2.2.1 x c (pN hfr e)
 ·exact Nat.le_trans I2.ok.bsz I2.sz
 ·rcases (f2 b hb).2.2.2.1 with z | z
  ·exact I2.ok.noex b o e z
  ·exact absurd (Nat.lt_of_lt_of_le (Heap.lt_size e) (Nat.le_trans I2.ok.bsz z)) (Nat.lt_irrefl _)
 ·obtain ⟨_, f1, f3, _⟩ := f2 b hb
  rcases List.mem_cons.mp (I2.stkSub b hz) with z | z
  ·exact f1 z
  ·exact f3 z
theorem xQ {pins : List (Addr × Obj)} {s : Shared} {σ : St} {H : Hp} {Q : VK} {RR : Value -> Addr -> Result -> Shared -> Prop} {cqual : Str} (hc : X.calm = true) (S : CSc osc scope ON N cap) (hsc : X.env.scope = osc) (hN : X.N = ON)
  (hi : PI X tg iter wi) (hg : ∀ C s H fp, PG (X.comp N scope C s H fp) tg g) (ht : ∀ C s H fp, rZ (X.comp N scope C s H fp) ifs tt) (he : ∀ C s H fp, PE (X.comp N scope C s H fp) elt te)
  (I : Inv X pins σ H s) (h : yV wi cap g tt te σ H Q)
  (fin : ∀ D C H' s', Inv X pins σ H' s' -> nO X pins H' C -> (∃ m, s'.heap.Ns C m) -> Q (.ref D) H' -> RR (.ref D) C (.ok .next) s') :
  wpAny (model X.prog X.w) X.A (eval iter X.env) (fun x s₁ => wpAny (model X.prog X.w) X.A (pyIter x) (fun itv s₂ => wpAny (model X.prog X.w) X.A (newList []) (fun acc s₃ =>
   wpAny (model X.prog X.w) X.A (newFunctionEnv scope X.env.globals (u6 X.env scope.names) [] X.env.qual none .none (some X.env)) (fun cenv s₄ =>
    codeAny (model X.prog X.w) X.A (.compStart (.ListComp elt [⟨tg, iter, ifs, 0⟩] scope pos) 0 itv acc { cenv with scope := relabel scope X.env }) (RR acc cenv.locals) s₄) X.xe s₃) X.xe s₂) X.xe s₁) X.xe s := by
 refine thn (hi pins s σ H _ I h.ex) fun v s1 h1 => thn h1 fun itv s2 h2 => ?_
 obtain ⟨it, fp, tn, J, H2, e, I2, T, st2, f2, q2⟩ := h2
 subst e
 refine wpAny_newObj_type (wpAny_newFunctionEnv S.noc (by intro y hy; simp at hy) (fun h₁ hns₁ hsb₁ => ?_) S.kind)
 dsimp only at hns₁ hsb₁ ⊢
 generalize hH2 : s2.heap.push { cls := .type "list", dict := none, data := .seq ([] : List Value).toArray } = P2 at hns₁ hsb₁ ⊢
 generalize hD : s2.heap.objs.size = D
 generalize hCe : P2.objs.size = C at hns₁ hsb₁ ⊢
 have hCD : C = D + 1 := by rw [← hCe, ← hH2, Heap.size_push, hD]
 have hCle : s2.heap.objs.size <= C := by rw [hCD, hD]; exact Nat.le_succ _
 have hfp : ∀ b ∈ fp, b < s2.heap.objs.size := fun b hb => by
  obtain ⟨o, e, _⟩ := T.obj 0 _ st2 b hb
  exact Heap.lt_size e
 have below : ∀ b, b < s2.heap.objs.size -> b ≠ C := fun b hb => Nat.ne_of_lt (Nat.lt_of_lt_of_le hb hCle)
 have k1 : ∀ b o, s2.heap.get? b = some o -> h₁.get? b = some o := fun b o e => hsb₁.extBut b o (below b (Heap.lt_size e)) (Heap.get?_push_of_some _ (hH2 ▸ Heap.get?_push_of_some _ e))
 have hDC : D ≠ C := by rw [hCD]; exact Nat.ne_of_lt (Nat.lt_succ_self _)
 have gD : h₁.get? D = some { cls := .type "list", dict := none, data := .seq ([] : List Value).toArray } := by
  refine hsb₁.extBut D _ hDC (Heap.get?_push_of_some _ ?_)
  rw [← hH2, ← hD]
  exact Heap.get?_push_size _ rfl
 have nD : H2 D = none := I2.hok.fresh (by rw [hD]; exact Nat.le_refl _)
 have nC : H2 C = none := I2.hok.fresh hCle
 have hfr : ∀ x ∈ scope.names, x.2 = .free -> ∃ c, X.env.cells.lookup x.1 = some c := fun x hx e => I2.ok.has x.1 (by
  rcases S.fr x hx e with z | z
  ·exact .inl (by rw [Env.kindOf, hsc]; exact z)
  ·exact .inr (by rw [Env.kindOf, hsc]; exact z))
 obtain ⟨W, ⟨m0, w0⟩, turn⟩ := q2 D nD
 have IY : Inv (X.comp N scope C s2 H2 fp) [] (gU cap σ) (upd H2 D (.lst [])) { s2 with heap := h₁, toks := s2.toks + ([] : List (Str × Value)).length } := by
  have hp : s2.heap.objs.size <= D := by rw [hD]; exact Nat.le_refl _
  refine ⟨Kd I2 S hsc f2 hfp hCle, rfl, I2.bare, Un.laid k1 hp nD, ⟨_, hns₁, fun j x v e1 e2 e3 => ?_⟩, fun x c e => ?_, ?_, fun x c e => ?_, fun p hp => by simp at hp, I2.hok.laid k1 hp ⟨Nat.zero_le _, [], _, .nil, gD⟩, ?_⟩
  ·have e2' : (cap.map (zH σ))[j]? = some (some v) := e2
   rw [List.getElem?_map] at e2'
   cases q : cap[j]? with
   | none => rw [q] at e2'; cases e2'
   | some o =>
    rw [q] at e2'
    have e4 : zH σ o = some v := Option.some.inj e2'
    cases o with
    | none => cases e4
    | some i =>
     have hσ : σ[i]? = some (some v) := by
      have e5 : (σ[i]?).getD none = some v := e4
      cases z : σ[i]? with
      | none => rw [z] at e5; cases e5
      | some w => rw [z] at e5; exact congrArg some e5
     obtain ⟨hx1, hx2⟩ := S.at q e1
     have hk : X.env.kindOf x = some .cell \/ X.env.kindOf x = some .free := by
      rcases S.fr _ (mem_of_lookup hx2) rfl with z | z
      ·exact .inl (by rw [Env.kindOf, hsc]; exact z)
      ·exact .inr (by rw [Env.kindOf, hsc]; exact z)
     obtain ⟨m, hn, hl⟩ := I2.loc
     obtain ⟨u, r, l⟩ := hl i x v (by rw [hN]; exact hx1) hσ (by
      rcases hk with z | z
      ·exact .inr (.inl z)
      ·exact .inr (.inr z))
     refine ⟨u, r, ?_⟩
     rcases l with ⟨z, _⟩ | ⟨_, c, hc', hcell⟩
     ·rcases hk with y | y
      ·rw [y] at z; cases z
      ·rw [y] at z; cases z
     ·obtain ⟨c', hc2⟩ := FP (env := X.env) (mem_of_lookup hx2)
      have e6 := pN hfr hc2
      rw [hc'] at e6
      have e7 : c = c' := Option.some.inj e6
      subst e7
      obtain ⟨oc, ho, hd⟩ := hcell
      exact .inr ⟨rY (env := X.env) hx2, c, hc2, ⟨oc, k1 c oc ho, hd⟩⟩
  ·obtain ⟨v, oc, ho, hd⟩ := I2.cell x c (pN hfr e)
   exact ⟨v, oc, k1 c oc ho, hd⟩
  ·show upd H2 D (.lst []) C = none
   rw [aW (Ne.symm hDC)]
   exact nC
  ·have e' := pN hfr e
   obtain ⟨v, oc, ho, hd⟩ := I2.cell x c e'
   show upd H2 D (.lst []) c = none
   rw [aW (fun z => absurd (Heap.lt_size ho) (by rw [z, hD]; exact Nat.lt_irrefl _))]
   exact I2.freeC x c e'
  ·show (cap.map (zH σ)).length = N.length
   rw [List.length_map]
   exact S.len
 have stat : ∀ {H' : Hp}, (∀ b ∈ fp, H' b = none) -> ∀ b ∈ fp, nO (X.comp N scope C s2 H2 fp) [] H' b := fun hn b hb => by
  obtain ⟨_, f1, f3, f4, f5, f6⟩ := f2 b hb
  refine ⟨hn b hb, below b (hfp b hb), fun hz => ?_, .inl hb, fun x c e => f5 x c (pN hfr e), fun p hp => by simp at hp⟩
  rcases List.mem_cons.mp (I2.stkSub b hz) with z | z
  ·exact f1 z
  ·exact f3 z
 have back : ∀ {σ' : St} {H' : Hp} {s' : Shared}, Inv (X.comp N scope C s2 H2 fp) [] σ' H' s' -> Inv X pins σ H' s' := fun {σ' H' s'} I' =>
  I2.call' (ch := fp) I'.os I'.base I'.hok I'.bare fun b hb => let ⟨_, f1, _, f4, f5, f6⟩ := f2 b hb; ⟨f4, f1, f5, f6⟩
 have st1 : tn 0 h₁ := T.keep 0 _ _ st2 fun b _ o e => k1 b o e
 have fr1 : ∀ b ∈ fp, upd H2 D (.lst []) b = none := fun b hb => by
  rw [aW (fun z => absurd (hfp b hb) (by rw [z, hD]; exact Nat.lt_irrefl _))]
  exact (f2 b hb).1
 have loop : codeAny (model X.prog X.w) X.A (.compLoop (.ListComp elt [⟨tg, iter, ifs, 0⟩] scope pos) 0 (.ref it) (.ref D) (compEnvC scope (u6 X.env scope.names) C X.env)) (RR (.ref D) C) { s2 with heap := h₁, toks := s2.toks + ([] : List (Str × Value)).length } := by
  refine p7 (fun n s' => ∃ i ys H', Inv (X.comp N scope C s2 H2 fp) [] (gU cap σ) H' s' /\ tn i s'.heap /\ (∀ b ∈ fp, H' b = none) /\ W i n ys H') ?_ m0 ⟨0, [], _, IY, st1, fr1, w0⟩
  rintro n s3 ⟨i, ys, H3, I3, st3, fr3, w3⟩
  obtain ⟨hDy, hturn⟩ := turn i n ys H3 w3
  rcases hturn with ⟨stop, qn⟩ | ⟨go, Nx, hNx, step⟩
  ·refine thn (T.done (X.comp N scope C s2 H2 fp) rfl rfl rfl hc i [] s3 (gU cap σ) H3 _ I3 (stat fr3) st3 stop) fun r s4 ⟨hr, I4⟩ => ?_
   subst hr
   obtain ⟨m, hm, _⟩ := I4.loc
   exact fin D C H3 s4 (back I4) (I2.fpOk hCle I4.free) ⟨m, hm⟩ qn
  ·refine thn (T.item (X.comp N scope C s2 H2 fp) rfl rfl rfl hc i [] s3 (gU cap σ) H3 _ I3 (stat fr3) st3 go) fun r s4 ⟨u, hr, h4⟩ => ?_
   subst hr
   refine thn h4 fun _ s5 ⟨x, H5, I5, r5, y5, st5, fr5⟩ => ?_
   have I5' := I5.pinned (stat fr5) (T.obj _ _ st5)
   refine thn (hg C s2 H2 fp _ s5 (gU cap σ) H5 x u _ I5' r5 (step x H5 y5)) fun _ s6 ⟨σ6, H6, I6, kp6, q6⟩ => ?_
   refine thn (ht C s2 H2 fp _ s6 σ6 H6 _ I6 q6) fun b s7 ⟨H7, I7, q7⟩ => ?_
   have again : ∀ {ys' : List V} {H7 : Hp} {s7 : Shared}, Inv (X.comp N scope C s2 H2 fp) ([] ++ rQ fp s5.heap) σ6 H7 s7 -> Nx ys' H7 -> ∃ m, m < n /\ ∃ i ys H', Inv (X.comp N scope C s2 H2 fp) [] (gU cap σ) H' s7 /\ tn i s7.heap /\ (∀ b ∈ fp, H' b = none) /\ W i m ys H' := fun {ys' H7 s7} I7 n7 => by
    obtain ⟨m', hm, w7⟩ := hNx ys' H7 n7
    refine ⟨m', hm, i + 1, ys', H7, I7.unpinned.weak kp6.1 kp6.2, T.keep _ _ _ st5 fun b hb o e => (I7.pin (b, o) (List.mem_append_right _ (List.mem_append_right _ (pq hb e)))).1, fun b hb => ?_, w7⟩
    obtain ⟨o, e, d⟩ := T.obj _ _ st5 b hb
    exact (I7.pin (b, o) (List.mem_append_right _ (List.mem_append_right _ (pq hb e)))).2.1
   cases b with
   | false =>
    rw [if_neg Bool.false_ne_true] at q7 ⊢
    exact again I7 q7
   | true =>
    rw [if_pos rfl] at q7 ⊢
    refine thn (he C s2 H2 fp _ s7 σ6 H7 _ I7 q7) fun xv s8 ⟨y, H8, I8, r8, hD8, hl8, n8⟩ => ?_
    refine thn (rW (X := X.comp N scope C s2 H2 fp) _ s8 σ6 H8 (.ref D) [y] (.ref D) [xv] (fun _ H9 => Nx (ys ++ [y]) H9) I8 rfl (.cons r8 .nil) ⟨D, ys, y, rfl, rfl, hD8, hl8, n8⟩) fun _ s9 ⟨_, H9, I9, _, n9⟩ => ?_
    exact again I9 n9
 subst hD hCe
 exact codeAny_compStart_list loop (T.self _ 0 _ _ _ st1 loop)
theorem zJ {pins : List (Addr × Obj)} {s : Shared} {σ : St} {H : Hp} (S : CSc osc scope ON N cap) (hsc : X.env.scope = osc) (I : Inv X pins σ H s) : closureFor scope X.env = pure (u6 X.env scope.names) :=
 yz fun x hx e => I.ok.has x.1 (by
  rcases S.fr x hx e with z | z
  ·exact .inl (by rw [Env.kindOf, hsc]; exact z)
  ·exact .inr (by rw [Env.kindOf, hsc]; exact z))
theorem Inv.letgo {pins : List (Addr × Obj)} {s' : Shared} {σ : St} {H' : Hp} {C : Addr} {h' : Heap} (I : Inv X pins σ H' s') (f : nO X pins H' C) (hs : Heap.SameBut C s'.heap h') : Inv X pins σ H' { s' with heap := h' } :=
 I.turned (t' := s'.toks) (it := C) (fun b o hb e => (hs.2 b hb).trans e) f.1 f.2.1 f.2.2.2.1 f.2.2.2.2.1 f.2.2.2.2.2
theorem Ke (S : CSc osc scope ON N cap) (hi : PI X tg iter wi) (hg : ∀ C s H fp, PG (X.comp N scope C s H fp) tg g) (ht : ∀ C s H fp, rZ (X.comp N scope C s H fp) ifs tt) (he : ∀ C s H fp, PE (X.comp N scope C s H fp) elt te)
  (hc : X.calm = true := by rfl) (hsc : X.env.scope = osc := by rfl) (hN : X.N = ON := by rfl) (hs : ∀ x, foldedSetIterable iter X.env x = pure x := by intro _; rfl) : PE X (.ListComp elt [⟨tg, iter, ifs, 0⟩] scope pos) (yV wi cap g tt te) := by
 intro pins s σ H Q I h
 rw [eval_ListComp]
 refine wpAny_comprehension_free (use := none) rfl hs (zJ S hsc I) S.kind S.loc ?_
 refine xQ (RR := fun acc C => compPost (model X.prog X.w) X.A X.xe none (EP X pins σ Q) acc C) (cqual := "") hc S hsc hN hi hg ht he I h fun D C H' s' I' f hm q => ?_
 obtain ⟨m, hm⟩ := hm
 exact ⟨m, hm, fun h' hs' => ⟨.ref D, H', I'.letgo f hs', rfl, q⟩⟩
theorem Kf {i : Nat} {y : Str} {py spos : Pos} (S : CSc osc scope ON N cap) (hNd : X.N.Nodup) (hi' : X.N[i]? = some y) (hy : Loc X.env.scope y) (hi : PI X tg iter wi) (hg : ∀ C s H fp, PG (X.comp N scope C s H fp) tg g) (ht : ∀ C s H fp, rZ (X.comp N scope C s H fp) ifs tt) (he : ∀ C s H fp, PE (X.comp N scope C s H fp) elt te)
  (hsw : swapsWith (.ListComp elt [⟨tg, iter, ifs, 0⟩] scope pos) (some (.Name y py)) spos.line X.env = pure true := by rfl)
  (hc : X.calm = true := by rfl) (hsc : X.env.scope = osc := by rfl) (hN : X.N = ON := by rfl) (hs : ∀ x, foldedSetIterable iter X.env x = pure x := by intro _; rfl)
  (hf : X.fn y = true \/ X.env.scope.names.lookup y = some .local := by first | exact .inl rfl | exact .inr rfl | assumption) :
  PS X (.Assign [.Name y py] (.ListComp elt [⟨tg, iter, ifs, 0⟩] scope pos) spos) (Hf (yV wi cap g tt te) (ul i)) := by
 intro pins s σ H D0 I h
 rw [exec_Assign_Name_used _ _ _ _ hsw]
 refine wpAny_bind (wpAny_standAt (wpAny_bind ?_))
 show wpAny _ _ (do let _ ← comprehension (.ListComp elt [⟨tg, iter, ifs, 0⟩] scope pos) scope X.env _ (newList []) false (eval iter X.env) (some (assign (.Name y py) X.env))) _ _ s
 refine wpAny_bind (wpAny_mono (wpAny_comprehension_free (use := some (assign (.Name y py) X.env)) (Q := fun _ s' => SP X pins D0 .next s') rfl hs (zJ S hsc I) S.kind S.loc
  (xQ (RR := fun acc C => compPost (model X.prog X.w) X.A X.xe (some (assign (.Name y py) X.env)) (fun _ s' => SP X pins D0 .next s') acc C) (cqual := "") hc S hsc hN hi hg ht he I h fun D C H' s' I' f hm q => ?_))
  (fun _ s' hq => wpAny_pure (wpAny_pure hq)) fun _ _ e => e)
 obtain ⟨m, hm⟩ := hm
 show wpAny _ _ (assign (.Name y py) X.env (.ref D)) _ _ s'
 refine wpAny_assign_Name (xH I' hNd hi' hy (v := .ref D) rfl (fun s'' I'' hch => ?_) hf)
 obtain ⟨a, hsb, ha⟩ := hch
 have nCa : C ≠ a := by
  rintro rfl
  rcases ha with z | z
  ·exact f.2.1 z
  ·exact f.2.2.2.2.1 y C z rfl
 refine ⟨m, hm.sameBut hsb nCa, fun h' hs' => ⟨_, H', I''.letgo f hs', q⟩⟩
end
section
variable {tt : TT} {te : TE} {Q : VK} {σ0 rest : St} {H : Hp} {D : Addr}
end
end L2
namespace L2
open PySem PySem.Spec PyProof.Rows
section
variable {X : Cx} {pins : List (Addr × Obj)} {σ : St} {H H' : Hp} {s : Shared} {h' : Heap}
theorem Inv.turnedL {t' : Nat} {ch : List Addr} {a : Addr} {o : HO} (I : Inv X pins σ H s) (k : ∀ b u, b ∉ ch -> s.heap.get? b = some u -> h'.get? b = some u) (ht : ∀ b u, s.heap.get? b = some u -> ∃ u', h'.get? b = some u') (hf : ∀ b ∈ ch, nO X pins H b)
  (hp : s.heap.objs.size <= a) (new : ObjOk X.prog X.w (upd H a o) h' a o) : Inv X pins σ (upd H a o) { s with heap := h', toks := t' } := by
 have hn : H a = none := I.hok.fresh hp
 have nch : ∀ b u, H b = some u -> b ∉ ch := fun b u e hb => by
  rw [(hf b hb).1] at e; cases e
 have na : ∀ b u, s.heap.get? b = some u -> b ≠ a := fun b u e => Nat.ne_of_lt (Nat.lt_of_lt_of_le (Heap.lt_size e) hp)
 have hhok : HOk X.prog X.w (upd H a o) h' := fun b u e => by
  by_cases hb : b = a
  ·subst hb; rw [bO] at e; cases e; exact new
  ·rw [aW hb] at e
   refine (I.hok b u e).stay (fun c v hc q => k c v ?_ q) (fun c q => by rw [aW (bh q hn)]; exact q) fun c xs q => by rw [aW (bh q hn)]; exact q
   rcases hc with rfl | hc
   ·exact nch c u e
   ·exact nch c _ hc
 refine I.step (g' := s.gens) (d' := s.drawn) (ch := ch) (fun b hb => let ⟨_, f1, _, f4, f5, f6⟩ := hf b hb; ⟨f4, f1, f5, f6⟩) (fun b o _ _ hc e _ => k b o hc e) (fun b o _ _ hc e _ => ⟨o.slots, k b o hc e⟩)
  (fun b o _ e n => by rw [aW (na b o e)]; exact n) (fun b o _ e => ht b o e) (fun b xs q => by rw [aW (bh q hn)]; exact q) (fun b u xs q => by rw [aW (bh q hn)]; exact q)
  (fun b ps q => ⟨#[], by rw [aW (bh q hn), q]; simp⟩) (fun m hm => ?_) hhok I.bare
 obtain ⟨oL, es, ep, ho, r⟩ := hm
 have nL : X.env.locals ∉ ch := fun hb => (hf _ hb).2.1 rfl
 exact ⟨oL, es, ep, k _ oL nL ho, r⟩
end
def Ite (K : PySem.W.Frag) (a : Addr) : It :=
 ⟨fun i H => ∃ xs x, SqL K H a xs /\ xs[i]? = some x, fun i H v H' => ∃ t x, H t = none /\ v = .ref t /\ H' = upd H t (.tup [.int (i : Nat), x]) /\ ∀ xs, SqL K H a xs -> xs[i]? = some x, fun i H => ∃ xs, SqL K H a xs /\ xs.length <= i⟩
def M8 (e it a : Addr) (i : Nat) (h : Heap) : Prop := (∃ old, IsEnum h e it (i : Nat) old) /\ h.IsListIter it a i
theorem xR {P : Program} {w : World} {K : PySem.W.Frag} {es : List Expr} {x1 : Nat} {tpos : Pos} (a e it : Addr) (hne : e ≠ it) : Turn P w K (.Tuple es x1 tpos) (Ite K a) [it, e] e (M8 e it a) where
 mem := by simp
 obj := fun i h st b hb => by
  obtain ⟨⟨old, he⟩, o, e1, c, d⟩ := st
  rcases List.mem_cons.mp hb with z | z
  ·subst z
   exact ⟨o, e1, fun v y => by rw [d] at y; cases y⟩
  ·have z' : b = e := by simpa using z
   subst z'
   exact ⟨_, he, fun v y => by
    have y' : Data.fields _ = Data.cell v := y
    cases y'⟩
 keep := fun i h h' st k => by
  obtain ⟨⟨old, he⟩, st⟩ := st
  exact ⟨⟨old, k e (by simp) _ he⟩, st.at fun o q => k it (by simp) o q⟩
 item := by
  intro X hP hw hK hc i pins s σ H E I hf st hg
  subst hP hw hK
  obtain ⟨xs, x, hq, hx⟩ := hg
  obtain ⟨⟨old, he⟩, hit⟩ := st
  obtain ⟨its, rv, p, hz⟩ := I.list hq
  obtain ⟨u, hu, ru⟩ := rv.get hx
  refine wpAny_pyNext_enum_item he hit p.isList (x := u) (by simpa using hu) hne fun h' heo hit' htup hsz hk => ⟨_, rfl, ?_⟩
  refine wpAny_letOwnedTupleGo_enum (s := { s with heap := h', toks := s.toks + 1 }) heo fun h2 he2 hs2 => ?_
  have hel : e < s.heap.objs.size := Heap.lt_size he
  have g2 : h2.get? s.heap.objs.size = some { cls := .type "tuple", data := .seq #[.int i s.toks, u] } := (hs2.2 _ (Nat.ne_of_gt hel)).trans htup
  have k2 : ∀ b o, b ∉ [it, e] -> s.heap.get? b = some o -> h2.get? b = some o := fun b o hb q => by
   have h1 : b ≠ it := fun z => hb (by simp [z])
   have h3 : b ≠ e := fun z => hb (by simp [z])
   exact (hs2.2 b h3).trans (hk b o h3 h1 q)
  have ht2 : ∀ b o, s.heap.get? b = some o -> ∃ o', h2.get? b = some o' := fun b o q => by
   by_cases h1 : b = it
   ·subst h1
    obtain ⟨o', e', _⟩ := hit'
    exact ⟨o', (hs2.2 b (Ne.symm hne)).trans e'⟩
   ·by_cases h3 : b = e
    ·subst h3; exact ⟨_, he2⟩
    ·exact ⟨o, k2 b o (by simp [h1, h3]) q⟩
  have I2 : Inv X pins σ (upd H s.heap.objs.size (.tup [.int (i : Nat), x])) { s with heap := h2, toks := s.toks + 1 } :=
   I.turnedL (ch := [it, e]) k2 ht2 hf (Nat.le_refl _) ⟨by show 2 <= sizeLine; decide, [.int i s.toks, u], .cons ⟨_, rfl⟩ (.cons ru .nil), ⟨_, g2, rfl, _, rfl⟩⟩
  refine ⟨.ref s.heap.objs.size, _, I2, rfl, ⟨s.heap.objs.size, x, I.fresh, rfl, rfl, fun ys hy => by rw [I.list_inj hy hq]; exact hx⟩, ⟨⟨u, he2⟩, ?_⟩, fun b hb => ?_⟩
  ·exact hit'.extBut hs2.extBut (Ne.symm hne)
  ·have hb0 := (hf b hb).1
   rw [aW ?_]
   ·exact hb0
   ·rcases List.mem_cons.mp hb with z | z
    ·subst z
     obtain ⟨o, e1, _⟩ := hit
     exact Nat.ne_of_lt (Heap.lt_size e1)
    ·have z' : b = e := by simpa using z
     subst z'
     exact Nat.ne_of_lt hel
 done := by
  intro X hP hw hK hc i pins s σ H E I hf st hg
  subst hP hw hK
  obtain ⟨xs, hq, hx⟩ := hg
  obtain ⟨⟨old, he⟩, hit⟩ := st
  obtain ⟨its, rv, p, hz⟩ := I.list hq
  obtain ⟨f0, f1, f2, f3, f4, f5⟩ := hf it (by simp)
  have hl := rv.length
  exact wpAny_pyNext_enum_end (I.ok.hd hc) he hit p.isList (by simp; omega) fun h' eb => ⟨rfl, I.turned (t' := s.toks) (fun b o hb q => eb b o hb q) f0 f1 f3 f4 f5⟩
 self := fun A i s Q E st h => by
  obtain ⟨⟨old, he⟩, hit⟩ := st
  have hT : s.TypeIs (.ref e) "enumerate" := ⟨_, he, rfl⟩
  refine wpAny_pyIter_slot hT F.slot_enumerate_iter (wpAny_call_entry F.slot_enumerate_iter hT F.entry_enumerate_iter ?_ (F.args_enumerate_iter_1 _))
  show wpAny _ _ (ret (.ref e)) _ _ s
  exact wpAny_pure ⟨_, rfl, "enumerate", _, hT, F.slot_enumerate_next.lookup, h⟩
section
variable {X : Cx}
def Qm (K : PySem.W.Frag) (ta : TA) : TI := fun σ H R => ta σ H fun vs H1 => ∃ a, vs = [.ref a] /\ (∃ xs, SqL K H1 a xs) /\ R (Ite K a) H1
theorem Kg {l : Expr} {ta : TA} {es : List Expr} {x1 : Nat} {tpos p pos : Pos} (hg : Gl X "enumerate") (hm : X.mg "enumerate" = none) (ha : PA X [l] ta) (hs : starEach [l] X.env = [(false, eval l X.env)] := by rfl) :
  PI X (.Tuple es x1 tpos) (.Call (.Name "enumerate" p) [l] [] pos) (Qm X.K ta) := by
 intro pins s σ H R I h
 refine Call_ (qI I hg hm PyProof.Rows.boot_enumerate (PyProof.Rows.callWith_type1 (thn (ha pos pins s σ H _ I h) fun us s1 ⟨vs, H1, I1, r1, q1⟩ => ?_) hs rfl))
 obtain ⟨a, e, ⟨xs, hq⟩, q⟩ := q1
 subst e
 obtain ⟨u, rfl, ru⟩ := vals1 r1
 cases ru
 obtain ⟨its, rv, p, hz⟩ := I1.list hq
 refine call_enumerate_list p.isList fun h' he hit hsz hk => ?_
 have I2 : Inv X pins σ H1 { s1 with heap := h' } := I1.kept (t' := s1.toks) hk
 have hT : (⟨h', s1.gens, s1.drawn, s1.toks, s1.os⟩ : Shared).TypeIs (.ref (s1.heap.objs.size + 1)) "enumerate" := ⟨_, he, rfl⟩
 refine (xR (P := X.prog) (w := X.w) (K := X.K) (es := es) (x1 := x1) (tpos := tpos) a (s1.heap.objs.size + 1) s1.heap.objs.size (Nat.succ_ne_self _)).self X.A 0 { s1 with heap := h' } _ _ ⟨⟨.none, he⟩, hit⟩ ?_
 refine ⟨s1.heap.objs.size + 1, [s1.heap.objs.size, s1.heap.objs.size + 1], _, _, H1, rfl, I2, xR a _ _ (Nat.succ_ne_self _), ⟨⟨.none, he⟩, hit⟩, fun b hb => ?_, q⟩
 have hb' : s1.heap.objs.size <= b := by
  rcases List.mem_cons.mp hb with z | z
  ·rw [z]; exact Nat.le_refl _
  ·rw [List.mem_singleton.mp z]; exact Nat.le_succ _
 exact I1.fpOk hb' (I1.hok.fresh hb')
end
def Its (x : Str) : It := ⟨fun i _ => i < x.cps.size, fun i H v H' => H' = H /\ ∃ c, x.cps[i]? = some c /\ v = .str ⟨#[c]⟩, fun i _ => i = x.cps.size⟩
theorem zK {P : Program} {w : World} {K : PySem.W.Frag} {tg : Expr} (it : Addr) (x : Str) (t : Tok) (ty : String) (hty : ["enumerate", "zip", "dict_itemiterator", "dict_reverseitemiterator", "odict_iterator", "itertools.zip_longest", "itertools.pairwise"].contains ty = false)
  (W : ∀ A : Around, A.handled = none -> Walks P w A it [it] [it] x.cps.size (SignAt x) (fun i h => h.IsStrIter it ty x t i))
  (slf : ∀ (A : Around) (i : Nat) (s : Shared) (Q : Value -> Shared -> Prop) (E : Value -> Shared -> Prop), s.heap.IsStrIter it ty x t i -> Q (.ref it) s -> wpAny (model P w) A (pyIter (.ref it)) Q E s) :
  Turn P w K tg (Its x) [it] it (fun i h => h.IsStrIter it ty x t i) where
 mem := by simp
 obj := fun i h st b hb => by
  have e : b = it := by simpa using hb
  subst e
  obtain ⟨o, e, c, d⟩ := st
  exact ⟨o, e, fun v z => by rw [d] at z; cases z⟩
 keep := fun i h h' st k => by
  obtain ⟨o, e, r⟩ := st
  exact ⟨o, k it (by simp) o e, r⟩
 item := by
  intro X hP hw hK hc i pins s σ H E I hf st hg
  subst hP hw hK
  obtain ⟨f0, f1, f2, f3, f4, f5⟩ := hf it (by simp)
  refine (W X.A (I.ok.hd hc)).item i s _ _ hg st fun v h' tk hv st' kk => ?_
  obtain ⟨c, u, hx, rfl⟩ := hv
  have I1 : Inv X pins σ H { s with heap := h', toks := tk } := I.turned (fun b o hb e => kk b o (by simpa using hb) e) f0 f1 f3 f4 f5
  obtain ⟨o, e, cc, d⟩ := id st'
  exact ⟨_, rfl, yR (s := { s with heap := h', toks := tk }) e cc d hty ⟨.str ⟨#[c]⟩, H, I1, ⟨u, rfl⟩, ⟨rfl, c, hx, rfl⟩, st', fun b hb => (hf b hb).1⟩⟩
 done := by
  intro X hP hw hK hc i pins s σ H E I hf st hg
  subst hP hw hK
  obtain ⟨f0, f1, f2, f3, f4, f5⟩ := hf it (by simp)
  have hg' : i = x.cps.size := hg
  subst hg'
  exact (W X.A (I.ok.hd hc)).done s _ _ st fun h' tk kk => ⟨rfl, I.turned (fun b o hb e => kk b o (by simpa using hb) e) f0 f1 f3 f4 f5⟩
 self := slf
section
variable {X : Cx} {tg : Expr}
def Ry (tl : TE) : TI := fun σ H R => tl σ H fun x H1 => ∃ z, x = .str z /\ R (Its z) H1
theorem M9 {l : Expr} {tl : TE} (hl : PE X l tl) : PI X tg l (Ry tl) := by
 intro pins s σ H R I h
 refine thn (hl pins s σ H _ I h) fun v s1 ⟨x, H1, I1, r1, q1⟩ => ?_
 obtain ⟨z, e, q⟩ := q1
 subst e
 obtain ⟨t, rfl⟩ := r1
 have fp : ∀ b ∈ [s1.heap.objs.size], nO X pins H1 b := fun b hb => by
  have e : b = s1.heap.objs.size := by simpa using hb
  subst e
  exact I1.fpOk (Nat.le_refl _) (I1.hok.fresh (Nat.le_refl _))
 cases ha : z.cps.all (· < 128)
 ·exact wpAny_pyIter_wide ha ⟨s1.heap.objs.size, [s1.heap.objs.size], _, _, H1, rfl, I1.kept (t' := s1.toks) fun b o e => Heap.get?_push_of_some _ e, zK _ z t "str_iterator" (by decide) (fun A hA => Walks.strWide hA _ z t) (fun A i s Q E st h => wpAny_pyIter_striter_wide st h), ⟨_, Heap.get?_push_size _ rfl, rfl, rfl⟩, fp, q⟩
 ·exact wpAny_pyIter_ascii ha ⟨s1.heap.objs.size, [s1.heap.objs.size], _, _, H1, rfl, I1.kept (t' := s1.toks) fun b o e => Heap.get?_push_of_some _ e, zK _ z t "str_ascii_iterator" (by decide) (fun A hA => Walks.strAscii hA _ z t) (fun A i s Q E st h => wpAny_pyIter_striter_ascii st h), ⟨_, Heap.get?_push_size _ rfl, rfl, rfl⟩, fp, q⟩
end
section
variable {tt : TT} {te : TE} {Q : VK} {σ0 rest : St} {H : Hp} {D : Addr}
end
section
variable {X : Cx}
theorem xT : ∀ {l : List (Str × Tok)} {zs : List Str}, l.map (·.1) = zs -> Vals (zs.map V.str) (strValues l)
 | [], _, e => by subst e; exact .nil
 | (x, t) :: r, _, e => by subst e; exact .cons ⟨t, rfl⟩ (xT rfl)
theorem sr : ∀ {zs : List Str} {us : List Value}, Vals (zs.map V.str) us -> ∃ l : List (Str × Tok), us = strValues l /\ l.map (·.1) = zs
 | [], _, r => by cases r; exact ⟨[], rfl, rfl⟩
 | z :: zs, _, r => by
  cases r with
  | cons r1 r2 =>
   obtain ⟨t, rfl⟩ := r1
   obtain ⟨l, rfl, e⟩ := sr r2
   exact ⟨(z, t) :: l, rfl, by rw [List.map_cons, e]⟩
def FQ : V -> List V -> Hp -> VK -> Prop := fun x vs H Q => ∃ z y, x = .str z /\ vs = [.str y] /\ (y.length == 0) = false /\ z.length <= 1000000 /\ ∀ l, H l = none -> Q (.ref l) (upd H l (.lst ((Txt.split z y).map V.str)))
theorem xU (x y : Str) : (Builtin.Str.partsBetween x (Builtin.Str.occurrences x y 0 x.length (x.length + 1)) y.length).length <= x.length + 2 := by
 have h := StrLaws.occ_length_le_len x y 0 x.length (x.length + 1)
 unfold Builtin.Str.partsBetween
 simp only [List.length_map, List.length_zip, List.length_cons, List.length_append, List.length_nil]
 omega
theorem split_len {x y : Str} : (Txt.split x y).length <= x.length + 2 := by
 unfold Txt.split
 split
 ·simp
 ·split
  ·simp
  ·exact xU x y
theorem Hz : MtR X "str.split" FQ := by
 intro pins s σ H x vs v us Q I rx rv h
 obtain ⟨z, y, rfl, rfl, hy, hz, q⟩ := h
 obtain ⟨t, rfl⟩ := rx
 obtain ⟨u, rfl, u', rfl⟩ := rv.one
 have sl := @split_len z y
 have hz2 : z.length <= sizeLine := Nat.le_trans hz (by decide)
 have hz3 : z.length + 2 <= sizeLine := Nat.le_trans (Nat.add_le_add_right hz 2) (by decide)
 have e0 : ∀ (l : List (Str × Tok)) (t' : Nat), l.map (·.1) = Txt.split z y -> EP X pins σ Q (.ref s.heap.objs.size) { s with heap := s.heap.push { cls := .type "list", data := .seq (strValues l).toArray }, toks := t' } := fun l t' e =>
  ⟨.ref s.heap.objs.size, _, I.lnew (xT e) (by
   rw [List.length_map]
   exact Nat.le_trans sl hz3), rfl, q _ I.fresh⟩
 cases h1 : (decide (z.length < y.length) || decide (Builtin.Str.strKind z < Builtin.Str.strKind y))
 ·cases hf : (Builtin.Str.occurrences z y 0 z.length (z.length + 1)).isEmpty
  ·refine call_meets F.slot_str_split (typeIs_str _ _ _) F.entry_str_split (F.args_str_split_2 _ _) (meets_str_split_sep z y t u' h1 hy hf hz2 (Nat.le_trans (xU z y) hz3)) ?_
   show wants _ _ _ { s with toks := _, heap := s.heap.push { cls := .type "list", data := .seq (strsFrom s.toks (Builtin.Str.partsBetween z (Builtin.Str.occurrences z y 0 z.length (z.length + 1)) y.length)).toArray } }
   rw [strsFrom_eq]
   exact e0 (numbered s.toks _) _ ((numbered_texts _ _).trans ((if_neg (ne_true_of_eq_false h1)).trans (if_neg (ne_true_of_eq_false hf))).symm)
  ·exact call_meets F.slot_str_split (typeIs_str _ _ _) F.entry_str_split (F.args_str_split_2 _ _) (meets_str_split_not_found z y t u' h1 hy hf)
    (e0 [(z, t)] s.toks ((if_neg (ne_true_of_eq_false h1)).trans (if_pos hf)).symm)
 ·exact call_meets F.slot_str_split (typeIs_str _ _ _) F.entry_str_split (F.args_str_split_2 _ _) (meets_str_split_cannot_occur z y t u' h1) (e0 [(z, t)] s.toks (if_pos h1).symm)
def rJoin (K : PySem.W.Frag) : V -> List V -> Hp -> VK -> Prop := fun x vs H Q => ∃ z l zs, x = .str z /\ vs = [.ref l] /\ SqL K H l (zs.map V.str) /\ JoinOk z zs = true /\ Q (.str (Str.join z zs)) H
theorem Kh : MtR X "str.join" (rJoin X.K) := by
 intro pins s σ H x vs v us Q I rx rv h
 obtain ⟨z, l, zs, rfl, rfl, hl, ok, q⟩ := h
 obtain ⟨t, rfl⟩ := rx
 obtain ⟨u, rfl, ru⟩ := rv.one
 cases ru
 obtain ⟨its, r, p, _⟩ := I.list hl
 obtain ⟨l', e, e2⟩ := sr r
 subst e
 refine SC.join p.isList e2 ok fun t' k => ⟨.str (Str.join z zs), H, I.tok _, ⟨t', ?_⟩, q⟩
 unfold Txt.join
 rw [StrLaws.glued_eq_join]
theorem xV {bs : List Bool} {us : List Value} (r : Vals (bs.map V.bl) us) {i : Nat} {v : Value} (e : us[i]? = some v) : ∃ b, bs[i]? = some b /\ v = .bool b := by
 have hl := r.length
 rw [List.length_map] at hl
 have hi : i < us.length := (List.getElem?_eq_some_iff.mp e).1
 have hb : bs[i]? = some bs[i] := List.getElem?_eq_getElem (by omega)
 obtain ⟨u, h1, h2⟩ := r.get (i := i) (x := .bl bs[i]) (by rw [List.getElem?_map, hb] <;> rfl)
 rw [e] at h1
 cases h1
 exact ⟨_, hb, h2⟩
theorem range_all {bs : List Bool} {n : Nat} (hn : n = bs.length) : ((List.range n).all fun i => (bs[i]?).getD true) = bs.all id := by
 subst hn
 rw [Bool.eq_iff_iff]
 simp only [List.all_eq_true, List.mem_range, id]
 constructor
 ·intro h x hx
  obtain ⟨i, hi, e⟩ := List.mem_iff_getElem.mp hx
  have := h i hi
  rw [List.getElem?_eq_getElem hi] at this
  rw [← e]
  exact this
 ·intro h i hi
  rw [List.getElem?_eq_getElem hi]
  exact h _ (List.getElem_mem hi)
theorem range_any {bs : List Bool} {n : Nat} (hn : n = bs.length) : ((List.range n).any fun i => (bs[i]?).getD true) = bs.any id := by
 subst hn
 rw [Bool.eq_iff_iff]
 simp only [List.any_eq_true, List.mem_range, id]
 constructor
 ·rintro ⟨i, hi, h⟩
  rw [List.getElem?_eq_getElem hi] at h
  exact ⟨_, List.getElem_mem hi, h⟩
 ·rintro ⟨x, hx, h⟩
  obtain ⟨i, hi, e⟩ := List.mem_iff_getElem.mp hx
  refine ⟨i, hi, ?_⟩
  rw [List.getElem?_eq_getElem hi]
  show bs[i] = true
  rw [e]
  exact h
theorem kept_iter {h h' : Heap} {o : Obj} (hk : ∀ b x, b ∉ [h.objs.size] -> (h.push o).get? b = some x -> h'.get? b = some x) : ∀ b x, h.get? b = some x -> h'.get? b = some x :=
 fun b x e => hk b x (fun hm => by rw [List.mem_singleton.mp hm] at e; exact Nat.lt_irrefl _ (Heap.lt_size e)) (Heap.get?_push_of_some _ e)
theorem HB (hc : X.calm = true := by rfl) : CallR X (.builtin "all") (fun xs H Q => ∃ (p : Addr) (bs : List Bool), xs = [.ref p] /\ SqL X.K H p (bs.map V.bl) /\ Q (.bl (bs.all id)) H) := by
 intro pins s σ H xs us Q I r h
 obtain ⟨l, bs, rfl, hq, q⟩ := h
 obtain ⟨u, rfl, rx⟩ := vals1 r
 cases rx
 obtain ⟨its, r', pl, hz⟩ := I.list hq
 have hl := pl.isList
 have hlen := r'.length
 rw [List.length_map] at hlen
 have hlt : l < s.heap.objs.size := by obtain ⟨_, e, _⟩ := hl; exact Heap.lt_size e
 have hh := I.ok.hd hc
 refine call_all_walk (wpAny_pyIter_list hl ?_)
 refine ⟨s.heap.objs.size, [s.heap.objs.size, l], [s.heap.objs.size], its.toArray.size, _, _, fun i => (bs[i]?).getD true, rfl, Walks.list (A := X.A.in1) hh _ l (Nat.ne_of_lt hlt) its.toArray,
  ⟨⟨_, Heap.get?_push_size _ rfl, rfl, rfl⟩, hl.push _⟩, fun i v s' Q' E' hP hQ => ?_, fun h' tk hk => ?_⟩
 ·obtain ⟨b, e, rfl⟩ := xV r' (i := i) (v := v) (by simpa using hP)
  simp only [e, Option.getD_some] at hQ
  exact wpAny_truthy_bool hQ
 ·refine ⟨.bl (bs.all id), H, I.kept (kept_iter hk), ?_, q⟩
  rw [range_all (by simp [hlen])]
  rfl
theorem HD (hc : X.calm = true := by rfl) : CallR X (.builtin "any") (fun xs H Q => ∃ (p : Addr) (bs : List Bool), xs = [.ref p] /\ SqL X.K H p (bs.map V.bl) /\ Q (.bl (bs.any id)) H) := by
 intro pins s σ H xs us Q I r h
 obtain ⟨l, bs, rfl, hq, q⟩ := h
 obtain ⟨u, rfl, rx⟩ := vals1 r
 cases rx
 obtain ⟨its, r', pl, hz⟩ := I.list hq
 have hl := pl.isList
 have hlen := r'.length
 rw [List.length_map] at hlen
 have hlt : l < s.heap.objs.size := by obtain ⟨_, e, _⟩ := hl; exact Heap.lt_size e
 have hh := I.ok.hd hc
 refine call_any_walk (wpAny_pyIter_list hl ?_)
 refine ⟨s.heap.objs.size, [s.heap.objs.size, l], [s.heap.objs.size], its.toArray.size, _, _, fun i => (bs[i]?).getD true, rfl, Walks.list (A := X.A.in1) hh _ l (Nat.ne_of_lt hlt) its.toArray,
  ⟨⟨_, Heap.get?_push_size _ rfl, rfl, rfl⟩, hl.push _⟩, fun i v s' Q' E' hP hQ => ?_, fun h' tk hk => ?_⟩
 ·obtain ⟨b, e, rfl⟩ := xV r' (i := i) (v := v) (by simpa using hP)
  simp only [e, Option.getD_some] at hQ
  exact wpAny_truthy_bool hQ
 ·refine ⟨.bl (bs.any id), H, I.kept (kept_iter hk), ?_, q⟩
  rw [range_any (by simp [hlen])]
  rfl
theorem wN (hc : X.calm = true := by rfl) : CallR X (.type "list") (fun xs H Q => ∃ p kvs, xs = [.ref p] /\ H p = some (.dK kvs) /\ ∀ l, H l = none -> Q (.ref l) (upd H l (.lst (kvs.map fun kv => kV kv.1)))) := by
 intro pins s σ H xs us Q I r h
 obtain ⟨p, kvs, rfl, hp, q⟩ := h
 obtain ⟨u, rfl, rx⟩ := vals1 r
 cases rx
 obtain ⟨hz, lo, vs, rel, hD⟩ := Jw I.hok hp
 obtain ⟨o, es, ep, ho, hx, hd, hk, hpr, hn⟩ := hD
 have hlen := rel.length
 refine PySem.W.kdl_call (PySem.W.kdl_dict (knd := dz X.prog X.w) (kvs := vs) (ep := ep) lo) (I.ok.hd hc) ⟨o, es, ho, hx, hd, hk, hpr, hn⟩ (by omega) fun h' tk acc' c' kk hS hacc => ?_
 have hv : Vals (kvs.map fun kv => kV kv.1) acc'.toList := by
  have gen : ∀ (l : List (Key × V)) (l2 : List (Key × Value)) (us : List Value), KV l l2 -> us.length = l2.length -> (∀ (j : Nat) (v : Value), us[j]? = some v -> ∃ k x, l2[j]? = some (k, x) /\ (dz X.prog X.w).is k v = true) -> Vals (l.map fun kv => kV kv.1) us := by
   intro l
   induction l with
   | nil =>
    intro l2 us hr hl hu
    cases hr
    have : us = [] := List.length_eq_zero_iff.mp hl
    subst this
    exact .nil
   | cons a r ih =>
    intro l2 us hr hl hu
    cases hr with
    | @cons _ b _ r2 h1 h2 =>
     cases us with
     | nil => simp at hl
     | cons v us =>
      obtain ⟨k, x, e, hk⟩ := hu 0 v rfl
      have e' : b = (k, x) := by simpa using e
      have ek : a.1 = k := by rw [h1.1, e']
      refine .cons ?_ (ih r2 us h2 (by simpa using hl) fun j w e => by simpa using hu (j + 1) w (by simpa using e))
      show RelV (kV a.1) v
      rw [ek]
      rcases dD hk with ⟨i, t, rfl, rfl⟩ | ⟨x, t, rfl, rfl⟩
      ·exact ⟨t, rfl⟩
      ·exact ⟨t, rfl⟩
  refine gen kvs vs acc'.toList rel (by rw [Array.length_toList]; exact hacc.1) fun j v e => hacc.2 j v (by rw [← Array.getElem?_toList]; exact e)
 refine ⟨.ref s.heap.objs.size, _, I.laid kk (Nat.le_refl _) (show ObjOk X.prog X.w _ h' _ (.lst _) from ⟨?_, acc'.toList, c', hv, ?_⟩), rfl, q _ I.fresh⟩
 ·rw [List.length_map]; omega
 ·simpa using hS
mutual
inductive Dt (K : PySem.W.Frag) (H : Hp) : V -> PyData -> Prop
 | non : Dt K H .non .none
 | bl (b : Bool) : Dt K H (.bl b) (.bool b)
 | int (i : Int) : Dt K H (.int i) (.int i)
 | str (x : Str) : Dt K H (.str x) (.str x)
 | lst {a : Addr} {xs : List V} {ds : List PyData} : SqL K H a xs -> Dts K H xs ds -> Dt K H (.ref a) (.list ds)
 | tup {a : Addr} {xs : List V} {ds : List PyData} : SqT K H a xs -> Dts K H xs ds -> Dt K H (.ref a) (.tuple ds)
inductive Dts (K : PySem.W.Frag) (H : Hp) : List V -> List PyData -> Prop
 | nil : Dts K H [] []
 | cons {x : V} {xs : List V} {d : PyData} {ds : List PyData} : Dt K H x d -> Dts K H xs ds -> Dts K H (x :: xs) (d :: ds)
end
mutual
theorem Dt.reads {pins : List (Addr × Obj)} {σ : St} {H : Hp} {s : Shared} (I : Inv X pins σ H s) : ∀ {x : V} {d : PyData} {u : Value}, Dt X.K H x d -> RelV x u -> ∃ as, Reads s.heap u d as
 | _, _, _, .non, r => by cases r; exact ⟨[], .none⟩
 | _, _, _, .bl b, r => by cases r; exact ⟨[], .bool b⟩
 | _, _, _, .int i, r => by obtain ⟨t, rfl⟩ := r; exact ⟨[], .int i t⟩
 | _, _, _, .str x, r => by obtain ⟨t, rfl⟩ := r; exact ⟨[], .str x t⟩
 | _, _, _, .lst hq hs, r => by
  cases r
  obtain ⟨its, rv, pl, _⟩ := I.list hq
  obtain ⟨o, e, c, n, d⟩ := pl.isList
  obtain ⟨as, ra⟩ := Dts.reads I hs rv
  exact ⟨_, .list e c d (by simpa using ra)⟩
 | _, _, _, .tup hq hs, r => by
  cases r
  obtain ⟨its, rv, pl, _⟩ := I.tuple hq
  obtain ⟨o, e, c, n, d⟩ := pl
  obtain ⟨as, ra⟩ := Dts.reads I hs rv
  exact ⟨_, .tuple e c d (by simpa using ra)⟩
theorem Dts.reads {pins : List (Addr × Obj)} {σ : St} {H : Hp} {s : Shared} (I : Inv X pins σ H s) : ∀ {xs : List V} {ds : List PyData} {us : List Value}, Dts X.K H xs ds -> Vals xs us -> ∃ as, ReadsAll s.heap us ds as
 | _, _, _, .nil, r => by cases r; exact ⟨[], .nil⟩
 | _, _, _, .cons h hs, r => by
  cases r with
  | cons r1 r2 =>
   obtain ⟨as, ra⟩ := Dt.reads I h r1
   obtain ⟨bs, rb⟩ := Dts.reads I hs r2
   exact ⟨_, .cons ra rb⟩
end
theorem M_ (hu : X.A.units + 64 < cLine) : OpR X (compareOp .Eq) (fun x y H Q => ∃ d e, Dt X.K H x d /\ Dt X.K H y e /\ SeqAt.shaped d = true /\ SeqAt.shaped e = true /\ Q (.bl (PyData.eqv d e)) H) := by
 intro pins s σ H x y v u Q I rx ry h
 obtain ⟨d, e, h1, h2, s1, s2, q⟩ := h
 obtain ⟨as, ra⟩ := h1.reads I rx
 obtain ⟨bs, rb⟩ := h2.reads I ry
 exact eq_dataH ra rb s1 s2 hu ⟨.bl _, H, I, rfl, q⟩
theorem Nf (hu : X.A.units + 64 < cLine) : OpR X (compareOp .NotEq) (fun x y H Q => ∃ d e, Dt X.K H x d /\ Dt X.K H y e /\ SeqAt.shaped d = true /\ SeqAt.shaped e = true /\ Q (.bl (!PyData.eqv d e)) H) := by
 intro pins s σ H x y v u Q I rx ry h
 obtain ⟨d, e, h1, h2, s1, s2, q⟩ := h
 obtain ⟨as, ra⟩ := h1.reads I rx
 obtain ⟨bs, rb⟩ := h2.reads I ry
 exact ne_dataH ra rb s1 s2 hu ⟨.bl _, H, I, rfl, q⟩
theorem Br : CallR X (.builtin "isinstance") (fun xs H Q => ∃ x n t b, xs = [x, .ty n] /\ TyOf X.K H x t /\ PySem.W.kitOne X.K t (.type n) = some b /\ Q (.bl b) H) := by
 intro pins s σ H xs us Q I r h
 obtain ⟨x, n, t, b, rfl, ty, e, q⟩ := h
 obtain ⟨u, w', rfl, r1, r2⟩ := vals2 r
 cases r2
 exact Ff I r1 ty e fun tk => ⟨.bl b, H, I.tok _, rfl, q⟩
end
end L2
namespace L2
open PySem PySem.Spec PyProof.Rows
structure Cal (P : Program) (w : World) (K : PySem.W.Frag) (mg : Str -> Option Value) (base : Heap) (k : Nat) (x : Str) (ps : List Str) (sp : Sp) : Prop where
 ex : ∃ f fd, FnOk P w K mg base CX0 k f fd ps sp /\ Binds K fd ps [] /\ PySem.W.keepIn K (.ref f) = true /\ mg x = some (.ref f)
theorem bu {P : Program} {w : World} {K : PySem.W.Frag} {mg : Str -> Option Value} {base : Heap} {k : Nat} {x : Str} {ps : List Str} {sp : Sp} {st : Stmt} {f : Addr} {fd : FuncData} (F : Fun K x x st f fd)
  (hm : mg x = some (.ref f)) (hb : Binds K fd ps []) (G : FnOk P w K mg base CX0 k f fd ps sp) : Cal P w K mg base k x ps sp := ⟨f, fd, G, hb, F.kp, hm⟩
theorem FT {X : Cx} {k j : Nat} {x : Str} {ps : List Str} {sp : Sp} {p pos : Pos} {e : Expr} {es : List Expr} {t : TA} (c : Cal X.prog X.w X.K X.mg X.base k x ps sp) (hr : Room j X.A) (ha : PA X (e :: es) t) (hle : k <= j := by decide) (hg : Gl X x := by rfl)
  (hdb : (x == ("__debug__" : Str)) = false := by decide) (he : starEach (e :: es) X.env = (false, eval e X.env) :: starEach es X.env := by rfl) (hpl : (backTo pos (starEach es X.env)).any (·.1) = false := by rfl) :
  PE X (.Call (.Name x p) (e :: es) [] pos) (Js sp [] E0 t) := by
 obtain ⟨f, fd, G, hb, kp, hm⟩ := c.ex
 exact J2 G (hr.mono hle) hg hm kp hb .nil Dn ha hdb he hpl
theorem bA {H : Hp} {p : Addr} (h : H p = none) (o : HO) : Same H (upd H p o) := fun b u q => by rw [aW (bh q h)]; exact q
theorem Same.new {H H' : Hp} {p : Addr} (s : Same H H') (h : H' p = none) (o : HO) : Same H (upd H' p o) := s.trans (bA h o)
theorem Same.over {H H' : Hp} {p : Addr} (s : Same H H') (h : H p = none) (o : HO) : Same H (upd H' p o) := fun b u q => by rw [aW (bh q h)]; exact s b u q
theorem small {n : Nat} (h : n <= 1000) : n <= sizeLine := Nat.le_of_lt (FJ h)
theorem nP {n : Nat} (h : n <= 1000000) : n < sizeLine := Nat.lt_of_le_of_lt h (by decide)
abbrev PureAt (t : TE) (σ : St) (H : Hp) (v : V) : Prop := ∀ H', Same H H' -> ∀ Q : VK, (∀ H'', Same H' H'' -> Q v H'') -> t σ H' Q
abbrev PureT (t : TT) (σ : St) (H : Hp) (b : Bool) : Prop := ∀ H', Same H H' -> ∀ Q : Bool -> Hp -> Prop, (∀ H'', Same H' H'' -> Q b H'') -> t σ H' Q
section
variable {tt : TT} {te : TE} {Q : VK} {σ0 rest : St} {H : Hp} {D : Addr}
end
section
variable {K : PySem.W.Frag} {wi : TI} {cap : List (Option Nat)} {tt : TT} {te : TE} {σ rest : St} {H : Hp} {Q : VK} {xs : List V}
theorem PureAt.same {t : TE} {H1 : Hp} {v : V} (h : PureAt t σ H v) (s : Same H H1) : PureAt t σ H1 v := fun H' s' Q q => h H' (s.trans s') Q q
theorem PureT.same {t : TT} {H1 : Hp} {b : Bool} (h : PureT t σ H b) (s : Same H H1) : PureT t σ H1 b := fun H' s' Q q => h H' (s.trans s') Q q
end
def Txts (K : PySem.W.Frag) (H : Hp) (v : V) (ws : List Str) : Prop := ∃ l, v = .ref l /\ SqL K H l (ws.map V.str)
theorem Txts.mono {K : PySem.W.Frag} {H H' : Hp} {v : V} {ws : List Str} (h : Txts K H v ws) (s : Same H H') : Txts K H' v ws := let ⟨l, e, q⟩ := h; ⟨l, e, s.seq q⟩
def Rws (K : PySem.W.Frag) (H : Hp) (v : V) (rs : List (List Str)) : Prop := ∃ l ys, v = .ref l /\ SqL K H l ys /\ Paired (fun ws y => Txts K H y ws) rs ys
theorem uP {α β : Type} {F G : α -> β -> Prop} (f : ∀ a b, F a b -> G a b) : ∀ {l₁ : List α} {l₂ : List β}, Paired F l₁ l₂ -> Paired G l₁ l₂
 | _, _, .nil => .nil
 | _, _, .cons h t => .cons (f _ _ h) (uP f t)
theorem Rws.mono {K : PySem.W.Frag} {H H' : Hp} {v : V} {rs : List (List Str)} (h : Rws K H v rs) (s : Same H H') : Rws K H' v rs := let ⟨l, ys, e, q, p⟩ := h; ⟨l, ys, e, s.seq q, uP (fun _ _ t => t.mono s) p⟩
theorem Paired.get {α β : Type} {F : α -> β -> Prop} : ∀ {l₁ : List α} {l₂ : List β} {i : Nat} {y : β}, Paired F l₁ l₂ -> l₂[i]? = some y -> ∃ x, l₁[i]? = some x /\ F x y
 | _, _, _, _, .nil, e => by simp at e
 | _, _, 0, _, .cons r _, e => by simp at e; subst e; exact ⟨_, rfl, r⟩
 | _, _, i + 1, y, .cons _ t, e => by
  obtain ⟨x, h1, h2⟩ := Paired.get (i := i) (y := y) t (by simpa using e)
  exact ⟨x, by simpa using h1, h2⟩
section
variable (K : PySem.W.Frag) {X : Cx}
end
end L2
namespace L2
open PySem PySem.Spec PyProof.Rows
def cL (x : Str) (lo hi : Option Int) : Str := ⟨((x.cps.toList.drop (HT.sIx x.length 0 lo)).take (HT.sIx x.length x.length hi - HT.sIx x.length 0 lo)).toArray⟩
theorem Kl (lo hi : Option Int) (n : Nat) : Builtin.Str.strSliceIndices lo hi 1 n = (List.range (HT.sIx n n hi - HT.sIx n 0 lo)).map (HT.sIx n 0 lo + ·) := by
 rw [← sliceRange_one]
 unfold Builtin.Str.strSliceIndices
 have cl : ∀ (o : Option Int) (d : Nat), d <= n -> (match o with | none => (d : Int) | some i => let i := if i < 0 then i + (n : Int) else i; if (1 : Int) > 0 then max 0 (min i (n : Int)) else max (-1) (min i ((n : Int) - 1))) = ((HT.sIx n d o : Nat) : Int) := fun o d hd => by
  cases o with
  | none => rfl
  | some i =>
   simp only [HT.sIx, show (1 : Int) > 0 by decide, if_true]
   by_cases h : i < 0
   ·simp only [h, if_true] <;> omega
   ·simp only [h, if_false] <;> omega
 have c1 := cl lo 0 (Nat.zero_le _)
 have c2 := cl hi n (Nat.le_refl _)
 simp only [show (1 : Int) > 0 by decide, if_true] at c1 c2 ⊢
 exact congr (congrArg sliceRange c1) c2 ▸ rfl
theorem HF (x : Str) (t : Tok) (l u : Option (Int × Tok)) {Q : Value -> Shared -> Prop} {s : Shared} (hl : x.length <= sizeLine)
  (h : ∀ t' s', (s' = s \/ s' = { s with toks := s.toks + 1 }) -> Q (.str (cL x (l.map (·.1)) (u.map (·.1))) t') s') : (sliceMade x t l u none).post Q s := by
 unfold sliceMade slicePicked
 have e : Builtin.Str.strSliceIndices (l.map (·.1)) (u.map (·.1)) ((((none : Option (Int × Tok)).map (·.1)).getD 1)) x.length = _ := Kl (l.map (·.1)) (u.map (·.1)) x.length
 rw [e]
 have hp := pick_run x.cps (HT.sIx x.length 0 (l.map (·.1))) (HT.sIx x.length x.length (u.map (·.1)) - HT.sIx x.length 0 (l.map (·.1)))
 have hs : HT.sIx x.length x.length (u.map (·.1)) <= x.length := HT.sIx_le _ _ (Nat.le_refl _) _
 have hc : x.length = x.cps.toList.length := by simp [Str.length]
 by_cases hw : ((((none : Option (Int × Tok)).map (·.1)).getD 1 == 1 && ((List.range (HT.sIx x.length x.length (u.map (·.1)) - HT.sIx x.length 0 (l.map (·.1)))).map (HT.sIx x.length 0 (l.map (·.1)) + ·)).length == x.length) = true)
 ·rw [if_pos hw]
  show Q (.str x t) s
  have hn : HT.sIx x.length x.length (u.map (·.1)) - HT.sIx x.length 0 (l.map (·.1)) = x.length := by
   have := (Bool.and_eq_true _ _ ▸ hw).2
   simpa using this
  have e2 : cL x (l.map (·.1)) (u.map (·.1)) = x := by
   unfold cL
   rw [hn]
   by_cases h0 : x.length = 0
   ·have : x.cps.toList = [] := List.eq_nil_of_length_eq_zero (by omega)
    cases x with | mk c => simp at this; subst this; simp
   ·have h1 : HT.sIx x.length 0 (l.map (·.1)) = 0 := by omega
    rw [h1, List.drop_zero, hc, List.take_length]
  have := h t s (.inl rfl)
  rw [e2] at this
  exact this
 ·rw [if_neg hw, hp]
  refine ⟨?_, h _ _ (.inr rfl)⟩
  show ((x.cps.toList.drop _).take _).toArray.size <= sizeLine
  rw [List.size_toArray, List.length_take, List.length_drop, ← hc]
  omega
section
variable {X : Cx}
def Ng : V -> Option Int -> Option Int -> Hp -> VK -> Prop := fun x lo hi H Q => ∃ z, x = .str z /\ z.length <= sizeLine /\ Q (.str (cL z lo hi)) H
theorem Nh : SlR X Ng := by
 intro pins s σ H x v vl vu lo hi sl Q I rx hs pl pu h
 obtain ⟨z, rfl, hz, q⟩ := h
 obtain ⟨t, rfl⟩ := rx
 refine ⟨"str", _, slot_str_getitem.lookup, typeIs_str s z t, ?_⟩
 have part : ∀ {v : Value} {o : Option Int}, IsPart v o -> ∃ p : Option (Int × Tok), v = partValue p /\ p.map (·.1) = o := fun p => by
  cases p with
  | none => exact ⟨none, rfl, rfl⟩
  | int i t => exact ⟨some (i, t), rfl, rfl⟩
 obtain ⟨l, rfl, rfl⟩ := part pl
 obtain ⟨u, rfl, rfl⟩ := part pu
 refine wpAny_getItem_str_slice (l := l) (u := u) (st := none) hs rfl (HF z t l u hz fun t' s' hs' => ?_)
 rcases hs' with rfl | rfl
 ·exact ⟨.str (cL z (l.map (·.1)) (u.map (·.1))), H, I, ⟨t', rfl⟩, q⟩
 ·exact ⟨.str (cL z (l.map (·.1)) (u.map (·.1))), H, I.tok _, ⟨t', rfl⟩, q⟩
def Ni (K : PySem.W.Frag) : V -> Option Int -> Option Int -> Hp -> VK -> Prop := fun x lo hi H Q => M5 K x lo hi H Q \/ Ng x lo hi H Q
theorem Nj : SlR X (Ni X.K) := sl_list.or Nh
end
end L2
namespace L2
open PySem PySem.Spec PyProof.Rows
section
variable {X : Cx} {pins : List (Addr × Obj)} {σ : St} {H H' : Hp} {s : Shared} {h' : Heap}
theorem Inv.turnedM {t' : Nat} {ch : List Addr} (I : Inv X pins σ H s) (k : ∀ b u, b ∉ ch -> s.heap.get? b = some u -> h'.get? b = some u) (hf : ∀ b ∈ ch, nO X pins H b) : Inv X pins σ H { s with heap := h', toks := t' } := by
 have nch : ∀ b u, H b = some u -> b ∉ ch := fun b u e hb => by
  rw [(hf b hb).1] at e; cases e
 refine I.step (g' := s.gens) (d' := s.drawn) (ch := ch) (fun b hb => let ⟨_, f1, _, f4, f5, f6⟩ := hf b hb; ⟨f4, f1, f5, f6⟩) (fun b o _ _ hc e _ => k b o hc e) (fun b o _ _ hc e _ => ⟨o.slots, k b o hc e⟩)
  (fun _ _ _ _ n => n) (fun b o hc e => ⟨o, k b o hc e⟩) (fun _ _ e => e) (fun _ _ _ e => e) (fun b ps e => ⟨#[], by rw [e]; simp⟩) (fun m hm => ?_) (fun b u e => ?_) I.bare
 ·obtain ⟨oL, es, ep, ho, r⟩ := hm
  have nL : X.env.locals ∉ ch := fun hb => (hf _ hb).2.1 rfl
  exact ⟨oL, es, ep, k _ oL nL ho, r⟩
 ·refine (I.hok b u e).stay (fun c v hc q => k c v ?_ q) (fun _ q => q) fun _ _ q => q
  rcases hc with z | z
  ·rw [z]; exact nch b u e
  ·exact nch c _ z
end
def Itz (K : PySem.W.Frag) (a b : Addr) : It :=
  ⟨fun i H => ∃ xs x ys y, SqL K H a xs /\ xs[i]? = some x /\ SqL K H b ys /\ ys[i]? = some y,
   fun i H v H' => ∃ t x y, H t = none /\ v = .ref t /\ H' = upd H t (.tup [x, y]) /\ (∀ xs, SqL K H a xs -> xs[i]? = some x) /\ ∀ ys, SqL K H b ys -> ys[i]? = some y,
   fun i H => ∃ xs ys, SqL K H a xs /\ SqL K H b ys /\ (xs.length <= i \/ ys.length <= i)⟩
def Jy (z TI TO i1 i2 l1 l2 : Addr) (i : Nat) (h : Heap) : Prop := IsZip h z TI TO .none /\ IsPair h TI (.ref i1) (.ref i2) /\ (∃ a b, IsPair h TO a b) /\ h.IsListIter i1 l1 i /\ h.IsListIter i2 l2 i
theorem zL {P : Program} {w : World} {K : PySem.W.Frag} {es : List Expr} {x1 : Nat} {tpos : Pos} {z TI TO i1 i2 l1 l2 : Addr} (D : ZipApart z TI TO i1 i2 l1 l2) : Turn P w K (.Tuple es x1 tpos) (Itz K l1 l2) [z, TI, TO, i1, i2] z (Jy z TI TO i1 i2 l1 l2) where
 mem := by simp
 obj := fun i h st b hb => by
  obtain ⟨hz, hTI, ⟨a, c, hTO⟩, ⟨o1, e1, c1, d1⟩, ⟨o2, e2, c2, d2⟩⟩ := st
  simp only [List.mem_cons, List.not_mem_nil, or_false] at hb
  rcases hb with rfl | rfl | rfl | rfl | rfl
  ·exact ⟨_, hz, fun v y => by have y' : Data.fields _ = Data.cell v := y; cases y'⟩
  ·exact ⟨_, hTI, fun v y => by have y' : Data.seq _ _ = Data.cell v := y; cases y'⟩
  ·exact ⟨_, hTO, fun v y => by have y' : Data.seq _ _ = Data.cell v := y; cases y'⟩
  ·exact ⟨o1, e1, fun v y => by rw [d1] at y; cases y⟩
  ·exact ⟨o2, e2, fun v y => by rw [d2] at y; cases y⟩
 keep := fun i h h' st k => by
  obtain ⟨hz, hTI, ⟨a, c, hTO⟩, s1, s2⟩ := st
  exact ⟨k z (by simp) _ hz, k TI (by simp) _ hTI, ⟨a, c, k TO (by simp) _ hTO⟩, s1.at fun o q => k i1 (by simp) o q, s2.at fun o q => k i2 (by simp) o q⟩
 item := by
  intro X hP hw hK hc i pins s σ H E I hf st hg
  subst hP hw hK
  obtain ⟨xs, x, ys, y, hq1, hx, hq2, hy⟩ := hg
  obtain ⟨hz, hTI, ⟨a, b, hTO⟩, s1, s2⟩ := st
  obtain ⟨its1, rv1, p1, hz1⟩ := I.list hq1
  obtain ⟨its2, rv2, p2, hz2⟩ := I.list hq2
  obtain ⟨u, hu, ru⟩ := rv1.get hx
  obtain ⟨v, hv, rv⟩ := rv2.get hy
  refine wpAny_pyNext_zip_item D hz hTI hTO s1 s2 p1.isList p2.isList (x := u) (y := v) (by simpa using hu) (by simpa using hv) fun h' z1 t1 j1 j2 tp hsz hk => ⟨_, rfl, ?_⟩
  refine wpAny_letOwnedTupleGo_zip (s := { s with heap := h' }) z1 fun h2 z2 sb => ?_
  have lz : z < s.heap.objs.size := Heap.lt_size hz
  have g2 : h2.get? s.heap.objs.size = some { cls := .type "tuple", data := .seq #[u, v] } := (sb.2 _ (Nat.ne_of_gt lz)).trans tp
  have k2 : ∀ c o, c ∉ [z, TO, i1, i2] -> s.heap.get? c = some o -> h2.get? c = some o := fun c o hb q => by
   have n1 : c ≠ z := fun e => hb (by simp [e])
   have n2 : c ≠ TO := fun e => hb (by simp [e])
   have n3 : c ≠ i1 := fun e => hb (by simp [e])
   have n4 : c ≠ i2 := fun e => hb (by simp [e])
   exact (sb.2 c n1).trans (hk c o n1 n2 n3 n4 q)
  have gTO : IsPair h2 TO u v := (sb.2 _ D.TOz).trans t1
  have g1 : h2.IsListIter i1 l1 (i + 1) := j1.extBut sb.extBut D.i1z
  have g2' : h2.IsListIter i2 l2 (i + 1) := j2.extBut sb.extBut D.i2z
  have ht2 : ∀ c o, s.heap.get? c = some o -> ∃ o', h2.get? c = some o' := fun c o q => by
   by_cases n1 : c = z
   ·subst n1; exact ⟨_, z2⟩
   ·by_cases n2 : c = TO
    ·subst n2; exact ⟨_, gTO⟩
    ·by_cases n3 : c = i1
     ·subst n3; obtain ⟨o', e', _⟩ := g1; exact ⟨o', e'⟩
     ·by_cases n4 : c = i2
      ·subst n4; obtain ⟨o', e', _⟩ := g2'; exact ⟨o', e'⟩
      ·exact ⟨o, k2 c o (by simp [n1, n2, n3, n4]) q⟩
  have I2 : Inv X pins σ (upd H s.heap.objs.size (.tup [x, y])) { s with heap := h2, toks := s.toks } :=
   I.turnedL (ch := [z, TO, i1, i2]) k2 ht2 (fun b hb => hf b (by simp only [List.mem_cons, List.not_mem_nil, or_false] at hb ⊢; rcases hb with e | e | e | e <;> simp [e])) (Nat.le_refl _)
    ⟨by show 2 <= sizeLine; decide, [u, v], .cons ru (.cons rv .nil), ⟨_, g2, rfl, _, rfl⟩⟩
  refine ⟨.ref s.heap.objs.size, _, I2, rfl, ⟨s.heap.objs.size, x, y, I.fresh, rfl, rfl, fun zs hy => by rw [I.list_inj hy hq1]; exact hx, fun zs hy' => by rw [I.list_inj hy' hq2]; exact hy⟩, ⟨z2, ?_, ⟨u, v, gTO⟩, g1, g2'⟩, fun b hb => ?_⟩
  ·exact k2 TI _ (by simp [D.TIz, D.TITO, D.TIi1, D.TIi2]) hTI
  ·have hb0 := (hf b hb).1
   rw [aW ?_]
   ·exact hb0
   ·have hlt : b < s.heap.objs.size := by
     simp only [List.mem_cons, List.not_mem_nil, or_false] at hb
     rcases hb with rfl | rfl | rfl | rfl | rfl
     ·exact lz
     ·exact Heap.lt_size hTI
     ·exact Heap.lt_size hTO
     ·obtain ⟨o, e1, _⟩ := s1; exact Heap.lt_size e1
     ·obtain ⟨o, e1, _⟩ := s2; exact Heap.lt_size e1
    exact Nat.ne_of_lt hlt
 done := by
  intro X hP hw hK hc i pins s σ H E I hf st hg
  subst hP hw hK
  obtain ⟨xs, ys, hq1, hq2, hl⟩ := hg
  obtain ⟨hz, hTI, ⟨a, b, hTO⟩, s1, s2⟩ := st
  obtain ⟨its1, rv1, p1, hz1⟩ := I.list hq1
  obtain ⟨its2, rv2, p2, hz2⟩ := I.list hq2
  have l1' := rv1.length
  have l2' := rv2.length
  refine wpAny_pyNext_zip_end (I.ok.hd hc) D hz hTI hTO s1 s2 p1.isList p2.isList (hl.imp (fun h => by simp; omega) fun h => by simp; omega) fun h' hk => ⟨rfl, ?_⟩
  refine I.turnedM (t' := s.toks) (ch := [z, TO, i1, i2]) (fun c o hb q => ?_) (fun b hb => hf b (by simp only [List.mem_cons, List.not_mem_nil, or_false] at hb ⊢; rcases hb with e | e | e | e <;> simp [e]))
  exact hk c o (fun e => hb (by simp [e])) (fun e => hb (by simp [e])) (fun e => hb (by simp [e])) (fun e => hb (by simp [e])) q
 self := fun A i s Q E st h => wpAny_pyIter_zip st.1 h
section
variable {X : Cx}
def Rz (K : PySem.W.Frag) (ta : TA) : TI := fun σ H R => ta σ H fun vs H1 => ∃ a b, vs = [.ref a, .ref b] /\ (∃ xs, SqL K H1 a xs) /\ (∃ ys, SqL K H1 b ys) /\ R (Itz K a b) H1
theorem Nk {l r : Expr} {ta : TA} {es : List Expr} {x1 : Nat} {tpos p pos : Pos} (hg : Gl X "zip") (hm : X.mg "zip" = none) (ha : PA X [l, r] ta) (hs : starEach [l, r] X.env = (false, eval l X.env) :: starEach [r] X.env := by rfl) (hp : (backTo pos (starEach [r] X.env)).any (·.1) = false := by rfl) :
  PI X (.Tuple es x1 tpos) (.Call (.Name "zip" p) [l, r] [] pos) (Rz X.K ta) := by
 intro pins s σ H R I h
 refine Call_ (qI I hg hm PyProof.Rows.boot_zip (PyProof.Rows.callWith_type1 (thn (ha pos pins s σ H _ I h) fun us s1 ⟨vs, H1, I1, r1, q1⟩ => ?_) hs hp))
 obtain ⟨a, b, e, ⟨xs, hq1⟩, ⟨ys, hq2⟩, q⟩ := q1
 subst e
 obtain ⟨u, v, rfl, ru, rv⟩ := vals2 r1
 cases ru
 cases rv
 obtain ⟨its1, rv1, p1, hz1⟩ := I1.list hq1
 obtain ⟨its2, rv2, p2, hz2⟩ := I1.list hq2
 have a1 : a < s1.heap.objs.size := by obtain ⟨_, e, _⟩ := p1.isList; exact Heap.lt_size e
 have a2 : b < s1.heap.objs.size := by obtain ⟨_, e, _⟩ := p2.isList; exact Heap.lt_size e
 refine call_zip_2 p1.isList p2.isList fun h' hz hTI hTO hi1 hi2 hsz hk => ?_
 have I2 : Inv X pins σ H1 { s1 with heap := h' } := I1.kept (t' := s1.toks) hk
 have D := zipApart_new a1 a2
 have st : Jy (s1.heap.objs.size + 4) (s1.heap.objs.size + 2) (s1.heap.objs.size + 3) s1.heap.objs.size (s1.heap.objs.size + 1) a b 0 h' := ⟨hz, hTI, ⟨_, _, hTO⟩, hi1, hi2⟩
 refine (zL (P := X.prog) (w := X.w) (K := X.K) (es := es) (x1 := x1) (tpos := tpos) D).self X.A 0 { s1 with heap := h' } _ _ st ?_
 refine ⟨s1.heap.objs.size + 4, _, _, _, H1, rfl, I2, zL D, st, fun c hb => ?_, q⟩
 have hb' : s1.heap.objs.size <= c := by
  simp only [List.mem_cons, List.not_mem_nil, or_false] at hb
  rcases hb with e | e | e | e | e <;> rw [e] <;> omega
 exact I1.fpOk hb' (I1.hok.fresh hb')
end
end L2
namespace L2
open PySem PySem.Spec PyProof.Rows
section
variable {X : Cx}
end
end L2
namespace L2
open PySem PySem.Spec PyProof.Rows
section
variable {prog : Program} {w : World} {A : Around} {E : Value -> Shared -> Prop} {s : Shared}
end
section
variable {X : Cx} {tg : Expr}
end
end L2
namespace L2
open PySem PySem.Spec PyProof.Rows
section
variable {X : Cx} {tg : Expr}
end
end L2
namespace MR
open PySem L2
inductive PV where
 | non | bl (b : Bool) | int (i : Int) | str (x : Str)
 | lst (xs : List PV) | frz (xs : List PV) | tup (xs : List PV) | ktp (xs : List PV)
 | dK (kvs : List (Key × PV)) | dT (kvs : List (List Key × PV))
 | obj (c : Nat) (fs : List (Str × PV))
structure MC where
 K : PySem.W.Frag
 cl : Nat -> Addr
mutual
inductive Rep (C : MC) (A : Addr -> Prop) (H : Hp) : V -> PV -> Prop
 | non : Rep C A H .non .non
 | bl (b : Bool) : Rep C A H (.bl b) (.bl b)
 | int (i : Int) : Rep C A H (.int i) (.int i)
 | str (x : Str) : Rep C A H (.str x) (.str x)
 | lst {a : Addr} {vs : List V} {xs : List PV} : H a = some (.lst vs) -> A a -> Reps C A H vs xs -> Rep C A H (.ref a) (.lst xs)
 | lstF {a : Addr} {o : Obj} {vs : List V} {xs : List PV} : H a = some (.frz o (.lst vs)) -> Reps C A H vs xs -> Rep C A H (.ref a) (.frz xs)
 | lstK {a : Addr} {vs : List V} {xs : List PV} : SqL C.K (fun _ => none) a vs -> Reps C A H vs xs -> Rep C A H (.ref a) (.frz xs)
 | tup {a : Addr} {vs : List V} {xs : List PV} : H a = some (.tup vs) -> Reps C A H vs xs -> Rep C A H (.ref a) (.tup xs)
 | tupK {a : Addr} {vs : List V} {xs : List PV} : SqT C.K (fun _ => none) a vs -> Reps C A H vs xs -> Rep C A H (.ref a) (.ktp xs)
 | dK {a : Addr} {kv : List (Key × V)} {kvs : List (Key × PV)} : H a = some (.dK kv) -> A a -> RepK C A H kv kvs -> Rep C A H (.ref a) (.dK kvs)
 | dT {a : Addr} {kv : List (List Key × V)} {kvs : List (List Key × PV)} : H a = some (.dT kv) -> A a -> RepT C A H kv kvs -> Rep C A H (.ref a) (.dT kvs)
 | obj {a dx : Addr} {c : Nat} {f : List (Str × V)} {fs : List (Str × PV)} : H a = some (.ins (C.cl c) dx f) -> A a -> RepF C A H f fs -> Rep C A H (.ref a) (.obj c fs)
inductive Reps (C : MC) (A : Addr -> Prop) (H : Hp) : List V -> List PV -> Prop
 | nil : Reps C A H [] []
 | cons {v : V} {p : PV} {vs : List V} {ps : List PV} : Rep C A H v p -> Reps C A H vs ps -> Reps C A H (v :: vs) (p :: ps)
inductive RepK (C : MC) (A : Addr -> Prop) (H : Hp) : List (Key × V) -> List (Key × PV) -> Prop
 | nil : RepK C A H [] []
 | cons {k : Key} {v : V} {p : PV} {vs : List (Key × V)} {ps : List (Key × PV)} : Rep C A H v p -> RepK C A H vs ps -> RepK C A H ((k, v) :: vs) ((k, p) :: ps)
inductive RepT (C : MC) (A : Addr -> Prop) (H : Hp) : List (List Key × V) -> List (List Key × PV) -> Prop
 | nil : RepT C A H [] []
 | cons {k : List Key} {v : V} {p : PV} {vs : List (List Key × V)} {ps : List (List Key × PV)} : Rep C A H v p -> RepT C A H vs ps -> RepT C A H ((k, v) :: vs) ((k, p) :: ps)
inductive RepF (C : MC) (A : Addr -> Prop) (H : Hp) : List (Str × V) -> List (Str × PV) -> Prop
 | nil : RepF C A H [] []
 | cons {k : Str} {v : V} {p : PV} {vs : List (Str × V)} {ps : List (Str × PV)} : Rep C A H v p -> RepF C A H vs ps -> RepF C A H ((k, v) :: vs) ((k, p) :: ps)
end
def Dq : HO -> Bool
 | .lst _ => true
 | .dK _ => true
 | .dT _ => true
 | .ins _ _ _ => true
 | _ => false
def Ex (A : Addr -> Prop) (H : Hp) (A' : Addr -> Prop) (H' : Hp) : Prop := ∀ a o, H a = some o -> (A a -> H' a = some o /\ A' a) /\ (Dq o = false -> H' a = some o)
theorem Ex.refl (A : Addr -> Prop) (H : Hp) : Ex A H A H := fun a o h => ⟨fun q => ⟨h, q⟩, fun _ => h⟩
theorem Ex.trans {A B C : Addr -> Prop} {H I J : Hp} (e : Ex A H B I) (f : Ex B I C J) : Ex A H C J := fun a o h => ⟨fun q => by
 obtain ⟨h1, q1⟩ := (e a o h).1 q
 exact (f a o h1).1 q1, fun m => (f a o ((e a o h).2 m)).2 m⟩
theorem Ex.of_same {A : Addr -> Prop} {H H' : Hp} (s : Same H H') : Ex A H A H' := fun a o h => ⟨fun q => ⟨s a o h, q⟩, fun _ => s a o h⟩
mutual
theorem Rep.ex {C : MC} {A A' : Addr -> Prop} {H H' : Hp} (e : Ex A H A' H') : ∀ {v : V} {p : PV}, Rep C A H v p -> Rep C A' H' v p
 | _, _, .non => .non
 | _, _, .bl b => .bl b
 | _, _, .int i => .int i
 | _, _, .str x => .str x
 | _, _, .lst h q r => .lst ((e _ _ h).1 q).1 ((e _ _ h).1 q).2 (Reps.ex e r)
 | _, _, .lstF h r => .lstF ((e _ _ h).2 rfl) (Reps.ex e r)
 | _, _, .lstK h r => .lstK h (Reps.ex e r)
 | _, _, .tup h r => .tup ((e _ _ h).2 rfl) (Reps.ex e r)
 | _, _, .tupK h r => .tupK h (Reps.ex e r)
 | _, _, .dK h q r => .dK ((e _ _ h).1 q).1 ((e _ _ h).1 q).2 (RepK.ex e r)
 | _, _, .dT h q r => .dT ((e _ _ h).1 q).1 ((e _ _ h).1 q).2 (RepT.ex e r)
 | _, _, .obj h q r => .obj ((e _ _ h).1 q).1 ((e _ _ h).1 q).2 (RepF.ex e r)
theorem Reps.ex {C : MC} {A A' : Addr -> Prop} {H H' : Hp} (e : Ex A H A' H') : ∀ {v : List V} {p : List PV}, Reps C A H v p -> Reps C A' H' v p
 | _, _, .nil => .nil
 | _, _, .cons h t => .cons (Rep.ex e h) (Reps.ex e t)
theorem RepK.ex {C : MC} {A A' : Addr -> Prop} {H H' : Hp} (e : Ex A H A' H') : ∀ {v : List (Key × V)} {p : List (Key × PV)}, RepK C A H v p -> RepK C A' H' v p
 | _, _, .nil => .nil
 | _, _, .cons h t => .cons (Rep.ex e h) (RepK.ex e t)
theorem RepT.ex {C : MC} {A A' : Addr -> Prop} {H H' : Hp} (e : Ex A H A' H') : ∀ {v : List (List Key × V)} {p : List (List Key × PV)}, RepT C A H v p -> RepT C A' H' v p
 | _, _, .nil => .nil
 | _, _, .cons h t => .cons (Rep.ex e h) (RepT.ex e t)
theorem RepF.ex {C : MC} {A A' : Addr -> Prop} {H H' : Hp} (e : Ex A H A' H') : ∀ {v : List (Str × V)} {p : List (Str × PV)}, RepF C A H v p -> RepF C A' H' v p
 | _, _, .nil => .nil
 | _, _, .cons h t => .cons (Rep.ex e h) (RepF.ex e t)
end
theorem cU {A A' : Addr -> Prop} {H : Hp} (h : ∀ a o, H a = some o -> A a -> A' a) : Ex A H A' H := fun a o e => ⟨fun q => ⟨e, h a o e q⟩, fun _ => e⟩
theorem Reps.length {C : MC} {A : Addr -> Prop} {H : Hp} : ∀ {vs : List V} {ps : List PV}, Reps C A H vs ps -> vs.length = ps.length
 | _, _, .nil => rfl
 | _, _, .cons _ t => by simp [Reps.length t]
theorem Reps.append {C : MC} {A : Addr -> Prop} {H : Hp} : ∀ {vs us : List V} {ps qs : List PV}, Reps C A H vs ps -> Reps C A H us qs -> Reps C A H (vs ++ us) (ps ++ qs)
 | _, _, _, _, .nil, h => h
 | _, _, _, _, .cons h t, r => .cons h (Reps.append t r)
theorem Reps.get {C : MC} {A : Addr -> Prop} {H : Hp} : ∀ {vs : List V} {ps : List PV} {i : Nat} {p : PV}, Reps C A H vs ps -> ps[i]? = some p -> ∃ v, vs[i]? = some v /\ Rep C A H v p
 | _, _, _, _, .nil, e => by simp at e
 | _, _, 0, _, .cons h t, e => by simp at e; subst e; exact ⟨_, rfl, h⟩
 | _, _, i + 1, p, .cons h t, e => by
  obtain ⟨v, e1, r⟩ := Reps.get (i := i) (p := p) t (by simpa using e)
  exact ⟨v, by simpa using e1, r⟩
theorem Reps.drop {C : MC} {A : Addr -> Prop} {H : Hp} : ∀ {vs : List V} {ps : List PV} (n : Nat), Reps C A H vs ps -> Reps C A H (vs.drop n) (ps.drop n)
 | _, _, 0, h => by simpa using h
 | _, _, n + 1, .nil => by simpa using Reps.nil
 | _, _, n + 1, .cons _ t => by simpa using Reps.drop n t
theorem Reps.take {C : MC} {A : Addr -> Prop} {H : Hp} : ∀ {vs : List V} {ps : List PV} (n : Nat), Reps C A H vs ps -> Reps C A H (vs.take n) (ps.take n)
 | _, _, 0, h => by simpa using Reps.nil
 | _, _, n + 1, .nil => by simpa using Reps.nil
 | _, _, n + 1, .cons h t => by simpa using Reps.cons h (Reps.take n t)
theorem Reps.set {C : MC} {A : Addr -> Prop} {H : Hp} {v : V} {p : PV} (r : Rep C A H v p) : ∀ {vs : List V} {ps : List PV} (n : Nat), Reps C A H vs ps -> Reps C A H (vs.set n v) (ps.set n p)
 | _, _, _, .nil => .nil
 | _, _, 0, .cons _ t => .cons r t
 | _, _, n + 1, .cons h t => .cons h (Reps.set r n t)
theorem Reps.reverse {C : MC} {A : Addr -> Prop} {H : Hp} : ∀ {vs : List V} {ps : List PV}, Reps C A H vs ps -> Reps C A H vs.reverse ps.reverse
 | _, _, .nil => .nil
 | _, _, .cons h t => by
  rw [List.reverse_cons, List.reverse_cons]
  exact (Reps.reverse t).append (.cons h .nil)
theorem wO {C : MC} {A : Addr -> Prop} {H : Hp} {α : Type} (f : α -> V) (g : α -> PV) (h : ∀ x, Rep C A H (f x) (g x)) : ∀ l : List α, Reps C A H (l.map f) (l.map g)
 | [] => .nil
 | x :: l => .cons (h x) (wO f g h l)
theorem RepK.val {C : MC} {A : Addr -> Prop} {H : Hp} {k : Key} : ∀ {kv : List (Key × V)} {kvs : List (Key × PV)}, RepK C A H kv kvs -> (∃ v p, lr kv k = some v /\ (kvs.find? fun x => decide (x.1 = k)).map (·.2) = some p /\ Rep C A H v p) \/ (lr kv k = none /\ (kvs.find? fun x => decide (x.1 = k)).map (·.2) = none)
 | _, _, .nil => .inr ⟨rfl, rfl⟩
 | _, _, .cons (k := k') (v := v) (p := p) h t => by
  by_cases e : k' = k
  ·subst e
   exact .inl ⟨v, p, pK rfl, by simp, h⟩
  ·rw [pL e, List.find?_cons_of_neg (by simpa using e)]
   exact RepK.val t
theorem RepT.val {C : MC} {A : Addr -> Prop} {H : Hp} {k : List Key} : ∀ {kv : List (List Key × V)} {kvs : List (List Key × PV)}, RepT C A H kv kvs -> (∃ v p, lr kv k = some v /\ (kvs.find? fun x => decide (x.1 = k)).map (·.2) = some p /\ Rep C A H v p) \/ (lr kv k = none /\ (kvs.find? fun x => decide (x.1 = k)).map (·.2) = none)
 | _, _, .nil => .inr ⟨rfl, rfl⟩
 | _, _, .cons (k := k') (v := v) (p := p) h t => by
  by_cases e : k' = k
  ·subst e
   exact .inl ⟨v, p, pK rfl, by simp, h⟩
  ·rw [pL e, List.find?_cons_of_neg (by simpa using e)]
   exact RepT.val t
theorem RepF.look {C : MC} {A : Addr -> Prop} {H : Hp} {k : Str} {p : PV} : ∀ {f : List (Str × V)} {fs : List (Str × PV)}, RepF C A H f fs -> fs.lookup k = some p -> ∃ v, f.lookup k = some v /\ Rep C A H v p
 | _, _, .nil, e => by cases e
 | _, _, .cons (k := k') (v := v) (p := p') h t, e => by
  rw [List.lookup_cons] at e ⊢
  cases q : k == k' with
  | true => rw [q] at e; cases e; exact ⟨v, rfl, h⟩
  | false => rw [q] at e; exact RepF.look t e
theorem RepF.look0 {C : MC} {A : Addr -> Prop} {H : Hp} {k : Str} : ∀ {f : List (Str × V)} {fs : List (Str × PV)}, RepF C A H f fs -> fs.lookup k = none -> f.lookup k = none
 | _, _, .nil, e => rfl
 | _, _, .cons (k := k') (v := v) (p := p') h t, e => by
  rw [List.lookup_cons] at e ⊢
  cases q : k == k' with
  | true => rw [q] at e; cases e
  | false => rw [q] at e; exact RepF.look0 t e
def Top (C : MC) (A : Addr -> Prop) (H : Hp) (a : Addr) : PV -> Prop
 | .lst xs => ∃ vs, H a = some (.lst vs) /\ Reps C A H vs xs
 | .dK kvs => ∃ kv, H a = some (.dK kv) /\ RepK C A H kv kvs
 | .dT kvs => ∃ kv, H a = some (.dT kv) /\ RepT C A H kv kvs
 | .obj c fs => ∃ dx f, H a = some (.ins (C.cl c) dx f) /\ RepF C A H f fs
 | _ => False
theorem Top.ex {C : MC} {A A' : Addr -> Prop} {H H' : Hp} {a : Addr} {p : PV} (e : Ex A H A' H') (h : ∀ o, H a = some o -> H' a = some o) (t : Top C A H a p) : Top C A' H' a p := by
 cases p with
 | lst xs => obtain ⟨vs, q, r⟩ := t; exact ⟨vs, h _ q, r.ex e⟩
 | dK kvs => obtain ⟨vs, q, r⟩ := t; exact ⟨vs, h _ q, r.ex e⟩
 | dT kvs => obtain ⟨vs, q, r⟩ := t; exact ⟨vs, h _ q, r.ex e⟩
 | obj c fs => obtain ⟨dx, f, q, r⟩ := t; exact ⟨dx, f, h _ q, r.ex e⟩
 | _ => exact t
theorem Top.live {C : MC} {A : Addr -> Prop} {H : Hp} {a : Addr} {p : PV} (t : Top C A H a p) : ∃ o, H a = some o /\ Dq o = true := by
 cases p with
 | lst xs => obtain ⟨vs, q, r⟩ := t; exact ⟨_, q, rfl⟩
 | dK kvs => obtain ⟨vs, q, r⟩ := t; exact ⟨_, q, rfl⟩
 | dT kvs => obtain ⟨vs, q, r⟩ := t; exact ⟨_, q, rfl⟩
 | obj c fs => obtain ⟨dx, f, q, r⟩ := t; exact ⟨_, q, rfl⟩
 | _ => exact t.elim
theorem Top.rep {C : MC} {A : Addr -> Prop} {H : Hp} {a : Addr} {p : PV} (t : Top C A H a p) (h : A a) : Rep C A H (.ref a) p := by
 cases p with
 | lst xs => obtain ⟨vs, q, r⟩ := t; exact .lst q h r
 | dK kvs => obtain ⟨vs, q, r⟩ := t; exact .dK q h r
 | dT kvs => obtain ⟨vs, q, r⟩ := t; exact .dT q h r
 | obj c fs => obtain ⟨dx, f, q, r⟩ := t; exact .obj q h r
 | _ => exact t.elim
def RepB (C : MC) (A : Addr -> Prop) (H : Hp) (v : V) (p : PV) : Prop := Rep C A H v p \/ ∃ a, v = .ref a /\ Top C A H a p
theorem RepB.ex {C : MC} {A A' : Addr -> Prop} {H H' : Hp} {v : V} {p : PV} (e : Ex A H A' H') (s : Same H H') (h : RepB C A H v p) : RepB C A' H' v p := by
 rcases h with h | ⟨a, q, t⟩
 ·exact .inl (h.ex e)
 ·exact .inr ⟨a, q, t.ex e fun o z => s _ _ z⟩
section
variable {C : MC} {A : Addr -> Prop} {H : Hp} {v : V}
theorem sqK {K : PySem.W.Frag} {a : Addr} {vs : List V} (h : SqL K (fun _ => none) a vs) : SqL K H a vs := by
 rcases h with (h | ⟨o, h⟩) | h
 ·cases h
 ·cases h
 ·exact .inr h
theorem Dr {K : PySem.W.Frag} {a : Addr} {vs : List V} (h : SqT K (fun _ => none) a vs) : SqT K H a vs := by
 rcases h with (h | ⟨o, h⟩) | h
 ·cases h
 ·cases h
 ·exact .inr h
theorem RepB.lst {xs : List PV} (h : RepB C A H v (.lst xs)) : ∃ a vs, v = .ref a /\ H a = some (.lst vs) /\ Reps C A H vs xs := by
 rcases h with h | ⟨a, rfl, vs, q, r⟩
 ·cases h with
  | lst q _ r => exact ⟨_, _, rfl, q, r⟩
 ·exact ⟨a, vs, rfl, q, r⟩
theorem RepB.frz {xs : List PV} (h : RepB C A H v (.frz xs)) : ∃ a vs, v = .ref a /\ SqL C.K H a vs /\ Reps C A H vs xs := by
 rcases h with h | ⟨a, rfl, t⟩
 ·cases h with
  | lstF q r => exact ⟨_, _, rfl, .inl (.inr ⟨_, q⟩), r⟩
  | lstK q r => exact ⟨_, _, rfl, sqK q, r⟩
 ·exact t.elim
theorem RepB.tup {xs : List PV} (h : RepB C A H v (.tup xs)) : ∃ a vs, v = .ref a /\ H a = some (.tup vs) /\ Reps C A H vs xs := by
 rcases h with h | ⟨a, rfl, t⟩
 ·cases h with
  | tup q r => exact ⟨_, _, rfl, q, r⟩
 ·exact t.elim
theorem RepB.ktp {xs : List PV} (h : RepB C A H v (.ktp xs)) : ∃ a vs, v = .ref a /\ SqT C.K H a vs /\ Reps C A H vs xs := by
 rcases h with h | ⟨a, rfl, t⟩
 ·cases h with
  | tupK q r => exact ⟨_, _, rfl, Dr q, r⟩
 ·exact t.elim
theorem RepB.dK {kvs : List (Key × PV)} (h : RepB C A H v (.dK kvs)) : ∃ a kv, v = .ref a /\ H a = some (.dK kv) /\ RepK C A H kv kvs := by
 rcases h with h | ⟨a, rfl, vs, q, r⟩
 ·cases h with
  | dK q _ r => exact ⟨_, _, rfl, q, r⟩
 ·exact ⟨a, vs, rfl, q, r⟩
theorem RepB.dT {kvs : List (List Key × PV)} (h : RepB C A H v (.dT kvs)) : ∃ a kv, v = .ref a /\ H a = some (.dT kv) /\ RepT C A H kv kvs := by
 rcases h with h | ⟨a, rfl, vs, q, r⟩
 ·cases h with
  | dT q _ r => exact ⟨_, _, rfl, q, r⟩
 ·exact ⟨a, vs, rfl, q, r⟩
theorem RepB.obj {c : Nat} {fs : List (Str × PV)} (h : RepB C A H v (.obj c fs)) : ∃ a dx f, v = .ref a /\ H a = some (.ins (C.cl c) dx f) /\ RepF C A H f fs := by
 rcases h with h | ⟨a, rfl, dx, vs, q, r⟩
 ·cases h with
  | obj q _ r => exact ⟨_, _, _, rfl, q, r⟩
 ·exact ⟨a, dx, vs, rfl, q, r⟩
theorem RepB.int {i : Int} (h : RepB C A H v (.int i)) : v = .int i := by
 rcases h with h | ⟨a, rfl, t⟩
 ·cases h; rfl
 ·exact t.elim
theorem RepB.str {x : Str} (h : RepB C A H v (.str x)) : v = .str x := by
 rcases h with h | ⟨a, rfl, t⟩
 ·cases h; rfl
 ·exact t.elim
theorem RepB.bl {x : Bool} (h : RepB C A H v (.bl x)) : v = .bl x := by
 rcases h with h | ⟨a, rfl, t⟩
 ·cases h; rfl
 ·exact t.elim
theorem RepB.non (h : RepB C A H v .non) : v = .non := by
 rcases h with h | ⟨a, rfl, t⟩
 ·cases h; rfl
 ·exact t.elim
end
structure BX where
 C : MC
 A : Addr -> Prop
 H0 : Hp
 fx : Nat -> Option V
def fx0 (x : V) : Nat -> Option V
 | 0 => some x
 | _ + 1 => none
abbrev Env := List (Option PV)
def Bs (b : BX) (Ow : Addr -> Prop) (a : Addr) : Prop := ¬ Ow a /\ (b.A a \/ b.H0 a = none)
structure ER (b : BX) (Ow : Addr -> Prop) (G : List Nat) (σ : St) (env : Env) (H : Hp) : Prop where
 len : σ.length = env.length
 same : Same b.H0 H
 live : ∀ a, Ow a -> ∃ o, H a = some o
 new : ∀ a, Ow a -> b.H0 a = none
 val : ∀ i p, env[i]? = some (some p) -> i ∉ G -> ∃ v, σ[i]? = some (some v) /\ Rep b.C (Bs b Ow) H v p
 own : ∀ i p, env[i]? = some (some p) -> i ∈ G -> ∃ a, σ[i]? = some (some (.ref a)) /\ Ow a /\ Top b.C (Bs b Ow) H a p
 sep : ∀ i j a p q, env[i]? = some (some p) -> i ∈ G -> σ[i]? = some (some (.ref a)) -> env[j]? = some (some q) -> j ∈ G -> σ[j]? = some (some (.ref a)) -> i = j
 fix : ∀ i v, b.fx i = some v -> σ[i]? = some (some v)
inductive Md where | val | own | bor
def Res (b : BX) (Ow : Addr -> Prop) (H H' : Hp) (m : Md) (v : V) (p : PV) : Prop := match m with
 | .val => Rep b.C (Bs b Ow) H' v p
 | .own => ∃ a, v = .ref a /\ H a = none /\ Top b.C (fun c => Bs b Ow c /\ c ≠ a) H' a p
 | .bor => RepB b.C (Bs b Ow) H' v p
def tM (b : BX) (G : List Nat) (m : Md) (f : Env -> Option PV) : TE := fun σ H Q => ∃ Ow env p, ER b Ow G σ env H /\ f env = some p /\ ∀ v H', Same H H' -> Res b Ow H H' m v p -> Q v H'
def tMT (b : BX) (G : List Nat) (f : Env -> Option Bool) : TT := fun σ H Q => ∃ Ow env k, ER b Ow G σ env H /\ f env = some k /\ ∀ H', Same H H' -> Q k H'
section
variable {b : BX} {Ow : Addr -> Prop} {G : List Nat} {σ : St} {env : Env} {H H' : Hp}
theorem ER.up (E : ER b Ow G σ env H) (s : Same H H') : ER b Ow G σ env H' :=
 ⟨E.len, E.same.trans s, fun a h => let ⟨o, e⟩ := E.live a h; ⟨o, s _ _ e⟩, E.new, fun i p h n => let ⟨v, e, r⟩ := E.val i p h n; ⟨v, e, r.ex (.of_same s)⟩,
  fun i p h n => let ⟨a, e, w, t⟩ := E.own i p h n; ⟨a, e, w, t.ex (.of_same s) fun o z => s _ _ z⟩, E.sep, E.fix⟩
theorem ER.fresh (E : ER b Ow G σ env H) {a : Addr} (h : H a = none) : Bs b Ow a :=
 ⟨fun w => (by obtain ⟨o, e⟩ := E.live a w; rw [h] at e; cases e), .inr (E.same.free h)⟩
theorem Res.val {m : Md} {v : V} {p : PV} (E : ER b Ow G σ env H) (hm : m ≠ .bor) (r : Res b Ow H H' m v p) : Res b Ow H H' .val v p := by
 cases m with
 | val => exact r
 | bor => exact absurd rfl hm
 | own =>
  obtain ⟨a, rfl, h, t⟩ := r
  have hw : Ex (fun c => Bs b Ow c /\ c ≠ a) H' (Bs b Ow) H' := cU fun _ _ _ z => z.1
  exact (t.ex hw fun o z => z).rep (E.fresh h)
theorem Res.bor {m : Md} {v : V} {p : PV} (r : Res b Ow H H' m v p) : Res b Ow H H' .bor v p := by
 cases m with
 | val => exact .inl r
 | bor => exact r
 | own =>
  obtain ⟨a, rfl, h, t⟩ := r
  have hw : Ex (fun c => Bs b Ow c /\ c ≠ a) H' (Bs b Ow) H' := cU fun _ _ _ z => z.1
  exact .inr ⟨a, rfl, t.ex hw fun o z => z⟩
theorem Res.up {m : Md} {v : V} {p : PV} {H'' : Hp} (r : Res b Ow H H' m v p) (s : Same H' H'') : Res b Ow H H'' m v p := by
 cases m with
 | val => exact Rep.ex (.of_same s) r
 | bor => exact RepB.ex (.of_same s) s r
 | own =>
  obtain ⟨a, e, h, t⟩ := r
  exact ⟨a, e, h, t.ex (.of_same s) fun o z => s _ _ z⟩
theorem Res.down {m : Md} {v : V} {p : PV} {H'' : Hp} (s : Same H H') (r : Res b Ow H' H'' m v p) : Res b Ow H H'' m v p := by
 cases m with
 | val => exact r
 | bor => exact r
 | own =>
  obtain ⟨a, e, h, t⟩ := r
  exact ⟨a, e, s.free h, t⟩
end
theorem PE.imp {X : Cx} {e : Expr} {t u : TE} (h : PE X e t) (i : ∀ σ H Q, u σ H Q -> t σ H Q) : PE X e u := fun pins s σ H Q I q => h pins s σ H Q I (i σ H Q q)
theorem PT.imp {X : Cx} {e : Expr} {t u : TT} (h : PT X e t) (i : ∀ σ H Q, u σ H Q -> t σ H Q) : PT X e u := fun pins s σ H Q I q => h pins s σ H Q I (i σ H Q q)
theorem PS.imp {X : Cx} {e : Stmt} {t u : TS} (h : PS X e t) (i : ∀ D σ H, u D σ H -> t D σ H) : PS X e u := fun pins s σ H D I q => h pins s σ H D I (i D σ H q)
theorem PE.or {X : Cx} {e : Expr} {t u : TE} (h : PE X e t) (h' : PE X e u) : PE X e (fun σ H Q => t σ H Q \/ u σ H Q) := fun pins s σ H Q I q => q.elim (h pins s σ H Q I) (h' pins s σ H Q I)
theorem OpR.or {X : Cx} {op : Value -> Value -> Sem Value} {r r' : R2} (h : OpR X op r) (h' : OpR X op r') : OpR X op (fun x y H Q => r x y H Q \/ r' x y H Q) := fun pins s σ H x y v u Q I rx ry q => q.elim (h pins s σ H x y v u Q I rx ry) (h' pins s σ H x y v u Q I rx ry)
abbrev SE (X : Cx) (b : BX) (G : List Nat) (m : Md) (e : Expr) (f : Env -> Option PV) : Prop := PE X e (tM b G m f)
abbrev ST (X : Cx) (b : BX) (G : List Nat) (e : Expr) (f : Env -> Option Bool) : Prop := PT X e (tMT b G f)
theorem SE.bor {X : Cx} {b : BX} {G : List Nat} {m : Md} {e : Expr} {f : Env -> Option PV} (h : SE X b G m e f) : SE X b G .bor e f :=
 PE.imp h fun σ H Q ⟨Ow, env, p, E, hf, k⟩ => ⟨Ow, env, p, E, hf, fun v H' s r => k v H' s r.bor⟩
theorem SE.val {X : Cx} {b : BX} {G : List Nat} {e : Expr} {f : Env -> Option PV} (h : SE X b G .own e f) : SE X b G .val e f :=
 PE.imp h fun σ H Q ⟨Ow, env, p, E, hf, k⟩ => ⟨Ow, env, p, E, hf, fun v H' s r => k v H' s (r.val E (by intro z; cases z))⟩
end MR
namespace MR
open PySem L2
def bC (p : PV) (env : Env) : Option PV := some p
@[simp] theorem vK (p : PV) (env : Env) : bC p env = (some p) := id rfl
def bV (i : Nat) (env : Env) : Option PV := match env[i]? with | some o => o | none => none
@[simp] theorem Qn (i : Nat) (env : Env) : bV i env = (match env[i]? with | some o => o | none => none) := id rfl
def b1 (g : PV -> Option PV) (f : Env -> Option PV) (env : Env) : Option PV := (f env).bind g
@[simp] theorem yW (g : PV -> Option PV) (f : Env -> Option PV) (env : Env) : b1 g f env = ((f env).bind g) := id rfl
def b2 (g : PV -> PV -> Option PV) (f h : Env -> Option PV) (env : Env) : Option PV := (f env).bind fun x => (h env).bind fun y => g x y
@[simp] theorem mK (g : PV -> PV -> Option PV) (f h : Env -> Option PV) (env : Env) : b2 g f h env = ((f env).bind fun x => (h env).bind fun y => g x y) := id rfl
def b3 (g : PV -> PV -> PV -> Option PV) (f h k : Env -> Option PV) (env : Env) : Option PV := (f env).bind fun x => (h env).bind fun y => (k env).bind fun z => g x y z
@[simp] theorem Td (g : PV -> PV -> PV -> Option PV) (f h k : Env -> Option PV) (env : Env) : b3 g f h k env = ((f env).bind fun x => (h env).bind fun y => (k env).bind fun z => g x y z) := id rfl
def iW (f g : Env -> Option PV) (env : Env) : Option PV := (f env).bind fun x => match x with | .bl true => g env | .bl false => some (.bl false) | _ => none
@[simp] theorem wQ (f g : Env -> Option PV) (env : Env) : iW f g env = ((f env).bind fun x => match x with | .bl true => g env | .bl false => some (.bl false) | _ => none) := id rfl
def bOr (f g : Env -> Option PV) (env : Env) : Option PV := (f env).bind fun x => match x with | .bl true => some (.bl true) | .bl false => g env | _ => none
@[simp] theorem Sw (f g : Env -> Option PV) (env : Env) : bOr f g env = ((f env).bind fun x => match x with | .bl true => some (.bl true) | .bl false => g env | _ => none) := id rfl
def RB (f : Env -> Option PV) (env : Env) : Option PV := (f env).bind fun x => match x with | .bl c => some (.bl (!c)) | _ => none
@[simp] theorem R6 (f : Env -> Option PV) (env : Env) : RB f env = ((f env).bind fun x => match x with | .bl c => some (.bl (!c)) | _ => none) := id rfl
def bIf (c : Env -> Option Bool) (f g : Env -> Option PV) (env : Env) : Option PV := (c env).bind fun x => if x = true then f env else g env
@[simp] theorem Sx (c : Env -> Option Bool) (f g : Env -> Option PV) (env : Env) : bIf c f g env = ((c env).bind fun x => if x = true then f env else g env) := id rfl
def tV (f : Env -> Option PV) (env : Env) : Option Bool := (f env).bind fun x => match x with | .bl c => some c | _ => none
@[simp] theorem Jz (f : Env -> Option PV) (env : Env) : tV f env = ((f env).bind fun x => match x with | .bl c => some c | _ => none) := id rfl
def tA (f g : Env -> Option Bool) (env : Env) : Option Bool := (f env).bind fun x => if x = true then g env else some false
@[simp] theorem Qo (f g : Env -> Option Bool) (env : Env) : tA f g env = ((f env).bind fun x => if x = true then g env else some false) := id rfl
def tO (f g : Env -> Option Bool) (env : Env) : Option Bool := (f env).bind fun x => if x = true then some true else g env
@[simp] theorem Qp (f g : Env -> Option Bool) (env : Env) : tO f g env = ((f env).bind fun x => if x = true then some true else g env) := id rfl
def tN (f : Env -> Option Bool) (env : Env) : Option Bool := (f env).bind fun x => some (!x)
@[simp] theorem Te (f : Env -> Option Bool) (env : Env) : tN f env = ((f env).bind fun x => some (!x)) := id rfl
def aC (env : Env) : Option (List PV) := some []
@[simp] theorem R7 (env : Env) : aC env = (some []) := id rfl
def ak (f : Env -> Option PV) (g : Env -> Option (List PV)) (env : Env) : Option (List PV) := (f env).bind fun x => (g env).bind fun xs => some (x :: xs)
@[simp] theorem RC (f : Env -> Option PV) (g : Env -> Option (List PV)) (env : Env) : ak f g env = ((f env).bind fun x => (g env).bind fun xs => some (x :: xs)) := id rfl
def b7 (g : Env -> Option (List PV)) (env : Env) : Option PV := (g env).bind fun xs => if xs.length <= 1000000 then some (.lst xs) else none
@[simp] theorem R8 (g : Env -> Option (List PV)) (env : Env) : b7 g env = ((g env).bind fun xs => if xs.length <= 1000000 then some (.lst xs) else none) := id rfl
def gY (g : Env -> Option (List PV)) (env : Env) : Option PV := (g env).bind fun xs => if xs.length <= 1000000 then some (.tup xs) else none
@[simp] theorem R9 (g : Env -> Option (List PV)) (env : Env) : gY g env = ((g env).bind fun xs => if xs.length <= 1000000 then some (.tup xs) else none) := id rfl
def aL (m : List PV -> Option PV) (g : Env -> Option (List PV)) (env : Env) : Option PV := (g env).bind m
@[simp] theorem zM (m : List PV -> Option PV) (g : Env -> Option (List PV)) (env : Env) : aL m g env = ((g env).bind m) := id rfl
section
variable {b : BX} {G : List Nat} {m : Md} {σ : St} {H : Hp} {Q : VK}
def Op2 (b : BX) (m : Md) (r : R2) (g : PV -> PV -> Option PV) : Prop := ∀ (Ow : Addr -> Prop) (H : Hp) (v1 v2 : V) (p1 p2 p : PV) (Q : VK), (∀ a, H a = none -> Bs b Ow a) -> RepB b.C (Bs b Ow) H v1 p1 -> RepB b.C (Bs b Ow) H v2 p2 -> g p1 p2 = some p ->
 (∀ v H', Same H H' -> Res b Ow H H' m v p -> Q v H') -> r v1 v2 H Q
theorem Ds {r : R2} {g : PV -> PV -> Option PV} {f1 f2 : Env -> Option PV} (hr : Op2 b m r g) (h : tM b G m (b2 g f1 f2) σ H Q) : tOp r (tM b G .bor f1) (tM b G .bor f2) σ H Q := by
 obtain ⟨Ow, env, p, E, hf, k⟩ := h
 unfold b2 at hf
 cases h1 : f1 env with
 | none => rw [h1] at hf; cases hf
 | some p1 =>
  rw [h1] at hf
  cases h2 : f2 env with
  | none => rw [h2] at hf; cases hf
  | some p2 =>
   rw [h2] at hf
   exact ⟨Ow, env, p1, E, h1, fun v1 H1 s1 r1 => ⟨Ow, env, p2, E.up s1, h2, fun v2 H2 s2 r2 => hr Ow H2 v1 v2 p1 p2 p Q (fun a => (E.up (s1.trans s2)).fresh) (r1.up s2) r2 hf fun v H' s r => k v H' (s1.trans (s2.trans s)) (r.down (s1.trans s2))⟩⟩
def Op1 (b : BX) (m : Md) (r : V -> Hp -> VK -> Prop) (g : PV -> Option PV) : Prop := ∀ (Ow : Addr -> Prop) (H : Hp) (v1 : V) (p1 p : PV) (Q : VK), (∀ a, H a = none -> Bs b Ow a) -> RepB b.C (Bs b Ow) H v1 p1 -> g p1 = some p ->
 (∀ v H', Same H H' -> Res b Ow H H' m v p -> Q v H') -> r v1 H Q
theorem JB {r : V -> Hp -> VK -> Prop} {g : PV -> Option PV} {f1 : Env -> Option PV} (hr : Op1 b m r g) (h : tM b G m (b1 g f1) σ H Q) : tM b G .bor f1 σ H fun x H1 => r x H1 Q := by
 obtain ⟨Ow, env, p, E, hf, k⟩ := h
 unfold b1 at hf
 cases h1 : f1 env with
 | none => rw [h1] at hf; cases hf
 | some p1 =>
  rw [h1] at hf
  exact ⟨Ow, env, p1, E, h1, fun v1 H1 s1 r1 => hr Ow H1 v1 p1 p Q (fun a => (E.up s1).fresh) r1 hf fun v H' s r => k v H' (s1.trans s) (r.down s1)⟩
end
@[simp] def bR : PV -> PV -> Option PV
 | .int i, .int j => some (.int (i + j))
 | .str x, .str y => if x.length + y.length <= 1000000 then some (.str (x ++ y)) else none
 | .lst xs, .lst ys => if xs.length + ys.length <= 1000000 then some (.lst (xs ++ ys)) else none
 | _, _ => none
@[simp] def o6 : PV -> PV -> Option PV
 | .lst xs, .lst ys => if xs.length + ys.length <= 1000000 then some (.lst (xs ++ ys)) else none
 | _, _ => none
@[simp] def subV : PV -> PV -> Option PV
 | .int i, .int j => some (.int (i - j))
 | _, _ => none
noncomputable def smI (i : Int) : Bool := @decide (-18446744073709551616 < i /\ i < 18446744073709551616) (Classical.propDecidable _)
@[simp] noncomputable def su : PV -> PV -> Option PV
 | .int i, .int j => if (smI i || smI j) = true then some (.int (i * j)) else none
 | _, _ => none
@[simp] def fD : PV -> PV -> Option PV
 | .int i, .int j => if 0 < j /\ j < 1073741824 then some (.int (i / j)) else none
 | _, _ => none
@[simp] def b8 : PV -> PV -> Option PV
 | .int i, .int j => if 0 < j then some (.int (i % j)) else none
 | _, _ => none
@[simp] def Tq : PV -> PV -> Option PV
 | .int i, .int j => if 0 <= j /\ j <= 1000000 /\ i.natAbs < 2 ^ 64 then some (.int (i ^ j.toNat)) else none
 | _, _ => none
@[simp] def gZ (g : Int -> Int -> Bool) : PV -> PV -> Option PV
 | .int i, .int j => some (.bl (g i j))
 | _, _ => none
theorem j9 {n : Nat} (h : n <= 1000000) : n <= sizeLine := Nat.le_of_lt (nP h)
section
variable {b : BX}
theorem FW {g : Int -> Int -> Bool} : Op2 b .val (rI0 fun i j => .bl (g i j)) (gZ g) := by
 intro Ow H v1 v2 p1 p2 p Q hn r1 r2 e k
 unfold gZ at e
 split at e
 ·cases e
  rw [r1.int, r2.int]
  exact ⟨_, _, rfl, rfl, k _ H (Same.refl _) (.bl _)⟩
 ·cases e
theorem Nm : Op2 b .val (rI CMul fun i j => .int (i * j)) su := by
 intro Ow H v1 v2 p1 p2 p Q hn r1 r2 e k
 unfold su at e
 split at e
 ·split at e
  ·rename_i h
   cases e
   rw [r1.int, r2.int]
   refine ⟨_, _, rfl, rfl, ?_, k _ H (Same.refl _) (.int _)⟩
   simp only [smI, Bool.or_eq_true, decide_eq_true_eq] at h
   exact h
  ·cases e
 ·cases e
theorem sy {i : Int} (h : -18446744073709551616 < i) (h' : i < 18446744073709551616) : smI i = true := @decide_eq_true _ (Classical.propDecidable _) ⟨h, h'⟩
theorem Np : Op2 b .val (rI Ms fun i j => .int (i / j)) fD := by
 intro Ow H v1 v2 p1 p2 p Q hn r1 r2 e k
 unfold fD at e
 split at e
 ·split at e
  ·rename_i h
   cases e
   rw [r1.int, r2.int]
   exact ⟨_, _, rfl, rfl, h, k _ H (Same.refl _) (.int _)⟩
  ·cases e
 ·cases e
theorem Nq : Op2 b .val (rI (fun _ j => 0 < j) fun i j => .int (i % j)) b8 := by
 intro Ow H v1 v2 p1 p2 p Q hn r1 r2 e k
 unfold b8 at e
 split at e
 ·split at e
  ·rename_i h
   cases e
   rw [r1.int, r2.int]
   exact ⟨_, _, rfl, rfl, h, k _ H (Same.refl _) (.int _)⟩
  ·cases e
 ·cases e
end
theorem jO {b : BX} {Ow : Addr -> Prop} {H : Hp} {a : Addr} {vs : List V} {xs : List PV} (h : H a = none) (r : Reps b.C (Bs b Ow) H vs xs) : Res b Ow H (upd H a (.lst vs)) .own (.ref a) (.lst xs) := by
 refine ⟨a, rfl, h, vs, bO, r.ex fun c o e => ?_⟩
 have hc : c ≠ a := bh e h
 exact ⟨fun q => ⟨by rw [aW hc]; exact e, q, hc⟩, fun _ => by rw [aW hc]; exact e⟩
theorem Km {b : BX} {Ow : Addr -> Prop} {H H0 : Hp} {a : Addr} {vs : List V} {xs : List PV} (h : H a = none) (r : Reps b.C (Bs b Ow) H vs xs) : Res b Ow H0 (upd H a (.tup vs)) .val (.ref a) (.tup xs) :=
 Rep.tup bO (r.ex (.of_same (bA h _)))
section
variable {b : BX}
theorem Nr : Op2 b .val (fun x y H Q => (rI0 (fun i j => .int (i + j)) x y H Q \/ ∃ i j, x = .str i /\ y = .str j /\ i.length + j.length <= sizeLine /\ Q (.str (i ++ j)) H) \/ Hw x y H Q) bR := by
 intro Ow H v1 v2 p1 p2 p Q hn r1 r2 e k
 unfold bR at e
 split at e
 ·cases e
  rw [r1.int, r2.int]
  exact .inl (.inl ⟨_, _, rfl, rfl, k _ H (Same.refl _) (.int _)⟩)
 ·split at e
  ·rename_i h
   cases e
   rw [r1.str, r2.str]
   exact .inl (.inr ⟨_, _, rfl, rfl, j9 h, k _ H (Same.refl _) (.str _)⟩)
  ·cases e
 ·split at e
  ·rename_i h
   cases e
   obtain ⟨a, vs, rfl, ha, ra⟩ := r1.lst
   obtain ⟨c, us, rfl, hc, rc⟩ := r2.lst
   exact .inr ⟨a, c, vs, us, rfl, rfl, ha, hc, j9 (by rw [ra.length, rc.length]; exact h), fun q hq => k _ _ (bA hq _) (.lst bO (hn q hq) ((ra.append rc).ex (.of_same (bA hq _))))⟩
  ·cases e
 ·cases e
theorem Nt : Op2 b .own Hw o6 := by
 intro Ow H v1 v2 p1 p2 p Q hn r1 r2 e k
 unfold o6 at e
 split at e
 ·split at e
  ·rename_i h
   cases e
   obtain ⟨a, vs, rfl, ha, ra⟩ := r1.lst
   obtain ⟨c, us, rfl, hc, rc⟩ := r2.lst
   refine ⟨a, c, vs, us, rfl, rfl, ha, hc, j9 (by rw [ra.length, rc.length]; exact h), fun q hq => k _ _ (bA hq _) (jO hq (ra.append rc))⟩
  ·cases e
 ·cases e
end
section
variable {X : Cx} {b : BX} {G : List Nat} {m : Md} {e e1 e2 : Expr} {f f1 f2 : Env -> Option PV} {pos : Pos}
theorem aq {i j pos} : SE X b G .val (.Constant (.int i) j pos) (bC (.int i)) := PE.imp Et fun σ H Q ⟨Ow, env, p, E, hf, k⟩ => by cases hf; exact k _ H (Same.refl _) (.int i)
theorem j_ {i j pos} : SE X b G .val (.Constant (.bool i) j pos) (bC (.bl i)) := PE.imp Px fun σ H Q ⟨Ow, env, p, E, hf, k⟩ => by cases hf; exact k _ H (Same.refl _) (.bl i)
theorem aX {i j pos} : SE X b G .val (.Constant (.str i) j pos) (bC (.str i)) := PE.imp Eu fun σ H Q ⟨Ow, env, p, E, hf, k⟩ => by cases hf; exact k _ H (Same.refl _) (.str i)
theorem FZ {j pos} : SE X b G .val (.Constant .none j pos) (bC .non) := PE.imp LC fun σ H Q ⟨Ow, env, p, E, hf, k⟩ => by cases hf; exact k _ H (Same.refl _) .non
theorem kh {i : Nat} {env : Env} {p : PV} (h : bV i env = some p) : env[i]? = some (some p) := by
 unfold bV at h
 split at h
 ·rename_i o e; rw [e, h]
 ·cases h
theorem aa (i : Nat) {x : Str} {pos : Pos} (hN : X.N[i]? = some x := by rfl) (hv : Vis X.env.scope x := by first | exact Or.inl rfl | exact Or.inr (Or.inl rfl) | exact Or.inr (Or.inr rfl)) (hG : i ∉ G := by decide) (hd : (x == ("__debug__" : Str)) = false := by decide)
  (hcd : (x == ("__classdict__" : Str)) = false := by decide) : SE X b G .val (.Name x pos) (bV i) := PE.imp (oR hN hv hd hcd) fun σ H Q ⟨Ow, env, p, E, hf, k⟩ => by
 obtain ⟨v, e, r⟩ := E.val i p (kh hf) hG
 exact ⟨v, e, k v H (Same.refl _) r⟩
theorem nQ (i : Nat) {x : Str} {pos : Pos} (hN : X.N[i]? = some x := by rfl) (hv : Vis X.env.scope x := by first | exact Or.inl rfl | exact Or.inr (Or.inl rfl) | exact Or.inr (Or.inr rfl)) (hd : (x == ("__debug__" : Str)) = false := by decide)
  (hcd : (x == ("__classdict__" : Str)) = false := by decide) : SE X b G .bor (.Name x pos) (bV i) := PE.imp (oR hN hv hd hcd) fun σ H Q ⟨Ow, env, p, E, hf, k⟩ => by
 by_cases hG : i ∈ G
 ·obtain ⟨a, e, _, t⟩ := E.own i p (kh hf) hG
  exact ⟨_, e, k _ H (Same.refl _) (.inr ⟨a, rfl, t⟩)⟩
 ·obtain ⟨v, e, r⟩ := E.val i p (kh hf) hG
  exact ⟨v, e, k v H (Same.refl _) (.inl r)⟩
theorem Qq {x z : Str} {t : Tok} {pos : Pos} (hm : X.mg x = some (.str z t)) (hg : Gl X x := by rfl) (hd : (x == ("__debug__" : Str)) = false := by decide) : SE X b G .val (.Name x pos) (bC (.str z)) :=
 PE.imp (wH hg hm (v := .str z) ⟨_, rfl⟩ hd) fun σ H Q ⟨Ow, env, p, E, hf, k⟩ => by cases hf; exact k _ H (Same.refl _) (.str z)
theorem Du {x : Str} {i : Int} {t : Tok} {pos : Pos} (hm : X.mg x = some (.int i t)) (hg : Gl X x := by rfl) (hd : (x == ("__debug__" : Str)) = false := by decide) : SE X b G .val (.Name x pos) (bC (.int i)) :=
 PE.imp (wH hg hm (v := .int i) ⟨_, rfl⟩ hd) fun σ H Q ⟨Ow, env, p, E, hf, k⟩ => by cases hf; exact k _ H (Same.refl _) (.int i)
theorem Qs {x : Str} {a : Addr} {q : PV} {pos : Pos} (hm : X.mg x = some (.ref a)) (hr : ∀ A H, Rep b.C A H (.ref a) q) (hg : Gl X x := by rfl) (hd : (x == ("__debug__" : Str)) = false := by decide) : SE X b G .val (.Name x pos) (bC q) :=
 PE.imp (wH hg hm (v := .ref a) rfl hd) fun σ H Q ⟨Ow, env, p, E, hf, k⟩ => by cases hf; exact k _ H (Same.refl _) (hr _ _)
theorem vL {op : Operator} {r : R2} {g : PV -> PV -> Option PV} (ho : OpR X (binaryOp op) r) (hr : Op2 b m r g) {m1 m2 : Md} (h1 : SE X b G m1 e1 f1) (h2 : SE X b G m2 e2 f2) : SE X b G m (.BinOp e1 op e2 pos) (b2 g f1 f2) :=
 PE.imp (PQ ho h1.bor h2.bor) fun σ H Q h => Ds hr h
theorem bz {m1 m2 : Md} (h1 : SE X b G m1 e1 f1) (h2 : SE X b G m2 e2 f2) : SE X b G .val (.BinOp e1 .Add e2 pos) (b2 bR f1 f2) := vL (OpR.or (OpR.or Mt Df) Fw) Nr h1 h2
theorem sE {m1 m2 : Md} (h1 : SE X b G m1 e1 f1) (h2 : SE X b G m2 e2 f2) : SE X b G .own (.BinOp e1 .Add e2 pos) (b2 o6 f1 f2) := vL Fw Nt h1 h2
theorem sG {m1 m2 : Md} (h1 : SE X b G m1 e1 f1) (h2 : SE X b G m2 e2 f2) : SE X b G .val (.BinOp e1 .Mult e2 pos) (b2 su f1 f2) := vL Mu Nm h1 h2
theorem dF {m1 m2 : Md} (h1 : SE X b G m1 e1 f1) (h2 : SE X b G m2 e2 f2) : SE X b G .val (.BinOp e1 .FloorDiv e2 pos) (b2 fD f1 f2) := vL JT Np h1 h2
theorem bM {m1 m2 : Md} (h1 : SE X b G m1 e1 f1) (h2 : SE X b G m2 e2 f2) : SE X b G .val (.BinOp e1 .Mod e2 pos) (b2 b8 f1 f2) := vL Mv Nq h1 h2
end
end MR
namespace MR
open PySem L2
@[simp] def eqS : PV -> PV -> Option Bool
 | .non, .non => some true
 | .non, .int _ => some false | .int _, .non => some false | .non, .bl _ => some false | .bl _, .non => some false | .non, .str _ => some false | .str _, .non => some false
 | .int i, .int j => some (decide (i = j))
 | .bl i, .bl j => some (decide (i = j))
 | .str i, .str j => some (decide (i = j))
 | .int _, .str _ => some false | .str _, .int _ => some false | .bl _, .str _ => some false | .str _, .bl _ => some false
 | _, _ => none
mutual
def toD : PV -> Option PyData
 | .non => some .none
 | .bl b => some (.bool b)
 | .int i => some (.int i)
 | .str x => some (.str x)
 | .lst xs => (d_ xs).map .list
 | .frz xs => (d_ xs).map .list
 | .tup xs => (d_ xs).map .tuple
 | .ktp xs => (d_ xs).map .tuple
 | _ => none
def d_ : List PV -> Option (List PyData)
 | [] => some []
 | x :: xs => match toD x, d_ xs with
  | some d, some ds => some (d :: ds)
  | _, _ => none
end
def eqD (x y : PV) : Option Bool := match toD x, toD y with
 | some d, some e => if SeqAt.shaped d = true /\ SeqAt.shaped e = true then some (PyData.eqv d e) else none
 | _, _ => none
def eqP (x y : PV) : Option Bool := match eqS x y with
 | some k => some k
 | none => eqD x y
def eqQ (x y : PV) : Option PV := (eqP x y).map .bl
@[simp] theorem F_ (x y : PV) : eqQ x y = ((eqP x y).map .bl) := id rfl
def neQ (x y : PV) : Option PV := (eqP x y).map fun k => .bl (!k)
@[simp] theorem Ga (x y : PV) : neQ x y = ((eqP x y).map fun k => .bl (!k)) := id rfl
mutual
theorem Rep.dt {C : MC} {A : Addr -> Prop} {H : Hp} : ∀ {v : V} {p : PV} {d : PyData}, Rep C A H v p -> toD p = some d -> Dt C.K H v d
 | _, _, _, .non, e => by simp only [toD] at e; cases e; exact .non
 | _, _, _, .bl b, e => by simp only [toD] at e; cases e; exact .bl b
 | _, _, _, .int b, e => by simp only [toD] at e; cases e; exact .int b
 | _, _, _, .str b, e => by simp only [toD] at e; cases e; exact .str b
 | _, _, _, .lst (xs := xs) h _ r, e => by
  simp only [toD] at e
  cases q : d_ xs with
  | none => rw [q] at e; cases e
  | some ds => rw [q] at e; cases e; exact .lst (SqL.of h) (Reps.dt r q)
 | _, _, _, .lstF (xs := xs) h r, e => by
  simp only [toD] at e
  cases q : d_ xs with
  | none => rw [q] at e; cases e
  | some ds => rw [q] at e; cases e; exact .lst (.inl (.inr ⟨_, h⟩)) (Reps.dt r q)
 | _, _, _, .lstK (xs := xs) h r, e => by
  simp only [toD] at e
  cases q : d_ xs with
  | none => rw [q] at e; cases e
  | some ds => rw [q] at e; cases e; exact .lst (sqK h) (Reps.dt r q)
 | _, _, _, .tup (xs := xs) h r, e => by
  simp only [toD] at e
  cases q : d_ xs with
  | none => rw [q] at e; cases e
  | some ds => rw [q] at e; cases e; exact .tup (SqT.of h) (Reps.dt r q)
 | _, _, _, .tupK (xs := xs) h r, e => by
  simp only [toD] at e
  cases q : d_ xs with
  | none => rw [q] at e; cases e
  | some ds => rw [q] at e; cases e; exact .tup (Dr h) (Reps.dt r q)
 | _, _, _, .dK h _ r, e => by simp only [toD] at e; cases e
 | _, _, _, .dT h _ r, e => by simp only [toD] at e; cases e
 | _, _, _, .obj h _ r, e => by simp only [toD] at e; cases e
theorem Reps.dt {C : MC} {A : Addr -> Prop} {H : Hp} : ∀ {v : List V} {p : List PV} {d : List PyData}, Reps C A H v p -> d_ p = some d -> Dts C.K H v d
 | _, _, _, .nil, e => by simp only [d_] at e; cases e; exact .nil
 | _, _, _, .cons (p := p) (ps := ps) h t, e => by
  simp only [d_] at e
  cases q : toD p with
  | none => rw [q] at e; cases e
  | some d =>
   cases q2 : d_ ps with
   | none => rw [q, q2] at e; cases e
   | some ds => rw [q, q2] at e; cases e; exact .cons (Rep.dt h q) (Reps.dt t q2)
end
theorem RepB.dt {C : MC} {A : Addr -> Prop} {H : Hp} {v : V} {p : PV} {d : PyData} (h : RepB C A H v p) (e : toD p = some d) : Dt C.K H v d := by
 rcases h with h | ⟨a, rfl, t⟩
 ·exact h.dt e
 ·cases p with
  | lst xs =>
   obtain ⟨vs, q, r⟩ := t
   exact (Rep.lst (A := fun _ => True) q True.intro (r.ex (cU fun _ _ _ _ => True.intro))).dt e
  | dK kvs => simp only [toD] at e; cases e
  | dT kvs => simp only [toD] at e; cases e
  | obj c fs => simp only [toD] at e; cases e
  | _ => exact t.elim
theorem zN {C : MC} {A : Addr -> Prop} {H : Hp} {v u : V} {p q : PV} {k : Bool} (h : RepB C A H v p) (h' : RepB C A H u q) (e : eqS p q = some k) : Hk v u = true /\ decide (v = u) = k := by
 unfold eqS at e
 split at e <;> first | cases e | skip
 ·rw [h.non, h'.non]; exact ⟨rfl, rfl⟩
 ·rw [h.non, h'.int]; exact ⟨rfl, rfl⟩
 ·rw [h.int, h'.non]; exact ⟨rfl, rfl⟩
 ·rw [h.non, h'.bl]; exact ⟨rfl, rfl⟩
 ·rw [h.bl, h'.non]; exact ⟨rfl, rfl⟩
 ·rw [h.non, h'.str]; exact ⟨rfl, rfl⟩
 ·rw [h.str, h'.non]; exact ⟨rfl, rfl⟩
 ·rw [h.int, h'.int]; exact ⟨rfl, by simp⟩
 ·rw [h.bl, h'.bl]; exact ⟨rfl, by simp⟩
 ·rw [h.str, h'.str]; exact ⟨rfl, by simp⟩
 ·rw [h.int, h'.str]; exact ⟨rfl, rfl⟩
 ·rw [h.str, h'.int]; exact ⟨rfl, rfl⟩
 ·rw [h.bl, h'.str]; exact ⟨rfl, rfl⟩
 ·rw [h.str, h'.bl]; exact ⟨rfl, rfl⟩
def Nu (K : PySem.W.Frag) : R2 := fun x y H Q => rEq x y H Q \/ ∃ d e, Dt K H x d /\ Dt K H y e /\ SeqAt.shaped d = true /\ SeqAt.shaped e = true /\ Q (.bl (PyData.eqv d e)) H
def Nv (K : PySem.W.Frag) : R2 := fun x y H Q => rNe x y H Q \/ ∃ d e, Dt K H x d /\ Dt K H y e /\ SeqAt.shaped d = true /\ SeqAt.shaped e = true /\ Q (.bl (!PyData.eqv d e)) H
section
variable {b : BX}
theorem Qt : Op2 b .val (Nu b.C.K) eqQ := by
 intro Ow H v1 v2 p1 p2 p Q hn r1 r2 e k
 unfold eqQ eqP at e
 cases q : eqS p1 p2 with
 | some c =>
  rw [q] at e
  cases e
  obtain ⟨h1, h2⟩ := zN r1 r2 q
  exact .inl ⟨h1, by rw [h2]; exact k _ H (Same.refl _) (.bl c)⟩
 | none =>
  rw [q] at e
  simp only [eqD] at e
  cases q1 : toD p1 with
  | none => rw [q1] at e; cases e
  | some d =>
   cases q2 : toD p2 with
   | none => rw [q1, q2] at e; cases e
   | some d' =>
    rw [q1, q2] at e
    simp only at e
    split at e
    ·rename_i hs
     cases e
     exact .inr ⟨d, d', r1.dt q1, r2.dt q2, hs.1, hs.2, k _ H (Same.refl _) (.bl _)⟩
    ·cases e
theorem Qu : Op2 b .val (Nv b.C.K) neQ := by
 intro Ow H v1 v2 p1 p2 p Q hn r1 r2 e k
 unfold neQ eqP at e
 cases q : eqS p1 p2 with
 | some c =>
  rw [q] at e
  cases e
  obtain ⟨h1, h2⟩ := zN r1 r2 q
  exact .inl ⟨h1, by rw [h2]; exact k _ H (Same.refl _) (.bl _)⟩
 | none =>
  rw [q] at e
  simp only [eqD] at e
  cases q1 : toD p1 with
  | none => rw [q1] at e; cases e
  | some d =>
   cases q2 : toD p2 with
   | none => rw [q1, q2] at e; cases e
   | some d' =>
    rw [q1, q2] at e
    simp only at e
    split at e
    ·rename_i hs
     cases e
     exact .inr ⟨d, d', r1.dt q1, r2.dt q2, hs.1, hs.2, k _ H (Same.refl _) (.bl _)⟩
    ·cases e
end
@[simp] def keyOf : PV -> Option Key
 | .int i => some (.inl i)
 | .str x => some (.inr x)
 | _ => none
@[simp] def keysOf : List PV -> Option (List Key)
 | [] => some []
 | x :: xs => match keyOf x, keysOf xs with
  | some k, some ks => some (k :: ks)
  | _, _ => none
@[simp] def eE : PV -> Bool
 | .non => true
 | .bl _ => true
 | .int _ => true
 | .str _ => true
 | _ => false
def eqF : PV -> PV -> Bool
 | .non, .non => true
 | .bl a, .bl b => a == b
 | .bl a, .int b => (if a then 1 else 0) == b
 | .int a, .bl b => a == (if b then 1 else 0)
 | .int a, .int b => a == b
 | .str a, .str b => a == b
 | _, _ => false
def fM {κ : Type} [DecidableEq κ] (kvs : List (κ × PV)) (k : κ) : Option PV := (kvs.find? fun x => decide (x.1 = k)).map (·.2)
def inD (x : PV) (ys : List PV) : Option Bool := match toD x, d_ ys with
 | some d, some ds => if PyData.canLayAll0 ds = true /\ d.canLay0 = true /\ d.depth <= 32 then some (ds.any fun y => PyData.eqv y d) else none
 | _, _ => none
theorem qX {x : PV} {ys : List PV} {k : Bool} (h : inD x ys = some k) : ∃ d ds, toD x = some d /\ d_ ys = some ds /\ PyData.canLayAll0 ds = true /\ d.canLay0 = true /\ d.depth <= 32 /\ (ds.any fun y => PyData.eqv y d) = k := by
 unfold inD at h
 split at h
 ·rename_i d ds h1 h2
  split at h
  ·rename_i hc
   exact ⟨d, ds, h1, h2, hc.1, hc.2.1, hc.2.2, Option.some.inj h⟩
  ·cases h
 ·cases h
def inP : PV -> PV -> Option Bool
 | x, .lst ys => if eE x = true /\ ys.all eE = true then some (ys.any fun y => eqF y x) else inD x ys
 | x, .frz ys => if eE x = true /\ ys.all eE = true then some (ys.any fun y => eqF y x) else inD x ys
 | x, .ktp ys => if eE x = true /\ ys.all eE = true then some (ys.any fun y => eqF y x) else inD x ys
 | x, .tup ys => if eE x = true /\ ys.all eE = true then some (ys.any fun y => eqF y x) else inD x ys
 | .str x, .str y => some (!(Builtin.Str.occurrences y x 0 y.length 1).isEmpty)
 | x, .dK kvs => (keyOf x).map fun k => (fM kvs k).isSome
 | .tup xs, .dT kvs => (keysOf xs).map fun k => (fM kvs k).isSome
 | _, _ => none
theorem Reps.keys {C : MC} {A : Addr -> Prop} {H : Hp} : ∀ {vs : List V} {ps : List PV} {ks : List Key}, Reps C A H vs ps -> keysOf ps = some ks -> vs = ks.map kV
 | _, _, _, .nil, e => by cases e; rfl
 | _, _, _, .cons (p := p) (ps := ps) h t, e => by
  unfold keysOf at e
  cases q : keyOf p with
  | none => rw [q] at e; cases e
  | some k =>
   cases q2 : keysOf ps with
   | none => rw [q, q2] at e; cases e
   | some ks =>
    rw [q, q2] at e
    cases e
    have ih := Reps.keys t q2
    rw [List.map_cons, ih]
    congr 1
    unfold keyOf at q
    split at q <;> cases q <;> cases h <;> rfl
theorem RepB.key {C : MC} {A : Addr -> Prop} {H : Hp} {v : V} {p : PV} {k : Key} (h : RepB C A H v p) (e : keyOf p = some k) : v = kV k := by
 unfold keyOf at e
 split at e
 ·cases e; exact h.int
 ·cases e; exact h.str
 ·cases e
theorem RepB.flat {C : MC} {A : Addr -> Prop} {H : Hp} {v : V} {p : PV} (h : RepB C A H v p) (e : eE p = true) : j8 v = true := by
 unfold eE at e
 split at e
 ·rw [h.non]; rfl
 ·rw [h.bl]; rfl
 ·rw [h.int]; rfl
 ·rw [h.str]; rfl
 ·cases e
def fV : PV -> V
 | .bl b => .bl b
 | .int i => .int i
 | .str x => .str x
 | _ => .non
theorem RepB.fV {C : MC} {A : Addr -> Prop} {H : Hp} {v : V} {p : PV} (h : RepB C A H v p) (e : eE p = true) : v = fV p := by
 cases p with
 | non => exact h.non
 | bl b => exact h.bl
 | int i => exact h.int
 | str x => exact h.str
 | _ => cases e
theorem Qv (p q : PV) (hp : eE p = true) (hq : eE q = true) : L2.eqV (fV p) (fV q) = eqF p q := by
 cases p <;> cases q <;> first | rfl | (cases hp; done) | (cases hq; done)
theorem Reps.flat {C : MC} {A : Addr -> Prop} {H : Hp} {v : V} {p : PV} (h : RepB C A H v p) (e : eE p = true) : ∀ {vs : List V} {ps : List PV}, Reps C A H vs ps -> ps.all eE = true -> vs.all j8 = true /\ inV v vs = ps.any fun y => eqF y p
 | _, _, .nil, _ => ⟨rfl, rfl⟩
 | _, _, .cons (v := v') (p := p') (vs := vs) (ps := ps) q t, e' => by
  rw [List.all_cons, Bool.and_eq_true] at e'
  obtain ⟨h1, h2⟩ := Reps.flat h e t e'.2
  have hf : j8 v' = true := RepB.flat (.inl q) e'.1
  refine ⟨by rw [List.all_cons, hf, h1]; rfl, ?_⟩
  unfold inV at h2 ⊢
  rw [List.any_cons, List.any_cons, h2]
  have q1 := h.fV e
  have q2 := RepB.fV (.inl q) e'.1
  rw [q1, q2, Qv _ _ e'.1 e]
section
variable {X : Cx}
theorem Ny (hu : X.A.units + 1 < cLine) : OpR X (compareOp .In) (fun x y H Q => ∃ a o, y = .ref a /\ DGet H a x o /\ Q (.bl o.isSome) H) := by
 intro pins s σ H x y v u Q I rx ry h
 obtain ⟨a, o, rfl, g, q⟩ := h
 obtain rfl : u = Value.ref a := ry
 exact Rw hu I g rx fun s3 I3 => ⟨.bl o.isSome, H, I3, rfl, q⟩
def Dv (K : PySem.W.Frag) (neg : Bool) : R2 := fun x y H Q => ∃ d ds, (Dt K H y (.list ds) \/ Dt K H y (.tuple ds)) /\ Dt K H x d /\ PyData.canLayAll0 ds = true /\ d.canLay0 = true /\ d.depth <= 32 /\ Q (.bl (if neg then !(ds.any fun y => PyData.eqv y d) else ds.any fun y => PyData.eqv y d)) H
theorem Nz (hu : X.A.units + 64 < cLine) : OpR X (compareOp .In) (Dv X.K false) := by
 intro pins s σ H x y v u Q I rx ry h
 obtain ⟨d, ds, h1, h2, c1, c2, c3, q⟩ := h
 have hm : min (PyData.depthAll ds) d.depth <= d.depth := Nat.min_le_right _ _
 obtain ⟨as, ra⟩ := h2.reads I rx
 rcases h1 with h1 | h1
 ·obtain ⟨bs, rb⟩ := h1.reads I ry
  exact PySem.SeqAt.in_list_reads rb ra c1 c2 (by omega) ⟨.bl _, H, I, rfl, q⟩
 ·obtain ⟨bs, rb⟩ := h1.reads I ry
  exact PySem.SeqAt.in_tuple_reads rb ra c1 c2 (by omega) ⟨.bl _, H, I, rfl, q⟩
theorem Gb (hu : X.A.units + 64 < cLine) : OpR X (compareOp .NotIn) (Dv X.K true) := by
 intro pins s σ H x y v u Q I rx ry h
 obtain ⟨d, ds, h1, h2, c1, c2, c3, q⟩ := h
 have hm : min (PyData.depthAll ds) d.depth <= d.depth := Nat.min_le_right _ _
 obtain ⟨as, ra⟩ := h2.reads I rx
 rcases h1 with h1 | h1
 ·obtain ⟨bs, rb⟩ := h1.reads I ry
  exact PySem.SeqAt.notIn_list_reads rb ra c1 c2 (by omega) ⟨.bl _, H, I, rfl, q⟩
 ·obtain ⟨bs, rb⟩ := h1.reads I ry
  exact PySem.SeqAt.notIn_tuple_reads rb ra c1 c2 (by omega) ⟨.bl _, H, I, rfl, q⟩
theorem Gd (hu : X.A.units + 1 < cLine) : OpR X (compareOp .NotIn) (fun x y H Q => ∃ a o, y = .ref a /\ DGet H a x o /\ Q (.bl (!o.isSome)) H) := by
 intro pins s σ H x y v u Q I rx ry h
 obtain ⟨a, o, rfl, g, q⟩ := h
 obtain rfl : u = Value.ref a := ry
 exact J5 hu I g rx fun s3 I3 => ⟨.bl (!o.isSome), H, I3, rfl, q⟩
end
def NB (K : PySem.W.Frag) : R2 := fun x y H Q => (rIn K false x y H Q \/ ∃ i j, x = .str i /\ y = .str j /\ Q (.bl (!(Builtin.Str.occurrences j i 0 j.length 1).isEmpty)) H) \/ (∃ a o, y = .ref a /\ DGet H a x o /\ Q (.bl o.isSome) H) \/ Dv K false x y H Q
def Cg (K : PySem.W.Frag) : R2 := fun x y H Q => (rIn K true x y H Q \/ ∃ i j, x = .str i /\ y = .str j /\ Q (.bl (!(!(Builtin.Str.occurrences j i 0 j.length 1).isEmpty))) H) \/ (∃ a o, y = .ref a /\ DGet H a x o /\ Q (.bl (!o.isSome)) H) \/ Dv K true x y H Q
def inQ (x y : PV) : Option PV := (inP x y).map .bl
@[simp] theorem Sy (x y : PV) : inQ x y = ((inP x y).map .bl) := id rfl
def mL (x y : PV) : Option PV := (inP x y).map fun k => .bl (!k)
@[simp] theorem Q0 (x y : PV) : mL x y = ((inP x y).map fun k => .bl (!k)) := id rfl
theorem Ge {C : MC} {A : Addr -> Prop} {H : Hp} {v1 v2 : V} {p1 p2 : PV} {k : Bool} (r1 : RepB C A H v1 p1) (r2 : RepB C A H v2 p2) (e : inP p1 p2 = some k) :
  (∃ p xs, v2 = .ref p /\ (SqL C.K H p xs \/ SqT C.K H p xs) /\ j8 v1 = true /\ xs.all j8 = true /\ inV v1 xs = k) \/ (∃ i j, v1 = .str i /\ v2 = .str j /\ (!(Builtin.Str.occurrences j i 0 j.length 1).isEmpty) = k) \/ (∃ a o, v2 = .ref a /\ DGet H a v1 o /\ o.isSome = k) \/ ∃ d ds, (Dt C.K H v2 (.list ds) \/ Dt C.K H v2 (.tuple ds)) /\ Dt C.K H v1 d /\ PyData.canLayAll0 ds = true /\ d.canLay0 = true /\ d.depth <= 32 /\ (ds.any fun y => PyData.eqv y d) = k := by
 unfold inP at e
 split at e
 ·split at e
  ·rename_i h
   cases e
   obtain ⟨a, vs, rfl, ha, ra⟩ := r2.lst
   obtain ⟨h1, h2⟩ := Reps.flat r1 h.1 ra h.2
   exact .inl ⟨a, vs, rfl, .inl (SqL.of ha), r1.flat h.1, h1, h2⟩
  ·obtain ⟨d, ds, t1, t2, c1, c2, c3, c4⟩ := qX e
   exact .inr (.inr (.inr ⟨d, ds, .inl (r2.dt (by simp [toD, t2])), r1.dt t1, c1, c2, c3, c4⟩))
 ·split at e
  ·rename_i h
   cases e
   obtain ⟨a, vs, rfl, ha, ra⟩ := r2.frz
   obtain ⟨h1, h2⟩ := Reps.flat r1 h.1 ra h.2
   exact .inl ⟨a, vs, rfl, .inl ha, r1.flat h.1, h1, h2⟩
  ·obtain ⟨d, ds, t1, t2, c1, c2, c3, c4⟩ := qX e
   exact .inr (.inr (.inr ⟨d, ds, .inl (r2.dt (by simp [toD, t2])), r1.dt t1, c1, c2, c3, c4⟩))
 ·split at e
  ·rename_i h
   cases e
   obtain ⟨a, vs, rfl, ha, ra⟩ := r2.ktp
   obtain ⟨h1, h2⟩ := Reps.flat r1 h.1 ra h.2
   exact .inl ⟨a, vs, rfl, .inr ha, r1.flat h.1, h1, h2⟩
  ·obtain ⟨d, ds, t1, t2, c1, c2, c3, c4⟩ := qX e
   exact .inr (.inr (.inr ⟨d, ds, .inr (r2.dt (by simp [toD, t2])), r1.dt t1, c1, c2, c3, c4⟩))
 ·split at e
  ·rename_i h
   cases e
   obtain ⟨a, vs, rfl, ha, ra⟩ := r2.tup
   obtain ⟨h1, h2⟩ := Reps.flat r1 h.1 ra h.2
   exact .inl ⟨a, vs, rfl, .inr (SqT.of ha), r1.flat h.1, h1, h2⟩
  ·obtain ⟨d, ds, t1, t2, c1, c2, c3, c4⟩ := qX e
   exact .inr (.inr (.inr ⟨d, ds, .inr (r2.dt (by simp [toD, t2])), r1.dt t1, c1, c2, c3, c4⟩))
 ·cases e
  exact .inr (.inl ⟨_, _, r1.str, r2.str, rfl⟩)
 ·obtain ⟨a, kv, rfl, ha, ra⟩ := r2.dK
  cases q : keyOf p1 with
  | none => rw [q] at e; cases e
  | some ky =>
   rw [q] at e
   cases e
   rw [r1.key q]
   refine .inr (.inr (.inl ⟨a, _, rfl, DGet.k ha, ?_⟩))
   unfold fM
   dsimp only
   rcases RepK.val (k := ky) ra with ⟨v, p, h1, h2, _⟩ | ⟨h1, h2⟩
   ·rw [h1, h2]; rfl
   ·rw [h1, h2]; rfl
 ·rename_i xs kvs
  obtain ⟨a, kv, rfl, ha, ra⟩ := r2.dT
  obtain ⟨c, vs, rfl, hc, rc⟩ := r1.tup
  cases q : keysOf xs with
  | none => rw [q] at e; cases e
  | some ky =>
   rw [q] at e
   cases e
   have hv := rc.keys q
   subst hv
   refine .inr (.inr (.inl ⟨a, _, rfl, DGet.t ha hc, ?_⟩))
   unfold fM
   dsimp only
   rcases RepT.val (k := ky) ra with ⟨v, p, h1, h2, _⟩ | ⟨h1, h2⟩
   ·rw [h1, h2]; rfl
   ·rw [h1, h2]; rfl
 ·cases e
section
variable {b : BX}
theorem Qw : Op2 b .val (NB b.C.K) inQ := by
 intro Ow H v1 v2 p1 p2 p Q hn r1 r2 e k
 unfold inQ at e
 cases q : inP p1 p2 with
 | none => rw [q] at e; cases e
 | some c =>
  rw [q] at e
  cases e
  have fin := k (.bl c) H (Same.refl _) (.bl c)
  rcases Ge r1 r2 q with ⟨a, xs, rfl, h1, h2, h3, h4⟩ | ⟨i, j, rfl, rfl, h1⟩ | ⟨a, o, rfl, h1, h2⟩ | ⟨d, ds, h1, h2, c1, c2, c3, h4⟩
  ·subst h4; exact .inl (.inl ⟨a, xs, rfl, h1, h2, h3, fin⟩)
  ·subst h1; exact .inl (.inr ⟨i, j, rfl, rfl, fin⟩)
  ·subst h2; exact .inr (.inl ⟨a, o, rfl, h1, fin⟩)
  ·subst h4; exact .inr (.inr ⟨d, ds, h1, h2, c1, c2, c3, fin⟩)
theorem HH : Op2 b .val (Cg b.C.K) mL := by
 intro Ow H v1 v2 p1 p2 p Q hn r1 r2 e k
 unfold mL at e
 cases q : inP p1 p2 with
 | none => rw [q] at e; cases e
 | some c =>
  rw [q] at e
  cases e
  have fin := k (.bl (!c)) H (Same.refl _) (.bl _)
  rcases Ge r1 r2 q with ⟨a, xs, rfl, h1, h2, h3, h4⟩ | ⟨i, j, rfl, rfl, h1⟩ | ⟨a, o, rfl, h1, h2⟩ | ⟨d, ds, h1, h2, c1, c2, c3, h4⟩
  ·subst h4; exact .inl (.inl ⟨a, xs, rfl, h1, h2, h3, fin⟩)
  ·subst h1; exact .inl (.inr ⟨i, j, rfl, rfl, fin⟩)
  ·subst h2; exact .inr (.inl ⟨a, o, rfl, h1, fin⟩)
  ·subst h4; exact .inr (.inr ⟨d, ds, h1, h2, c1, c2, c3, fin⟩)
end
@[simp] def zO : PV -> Bool
 | .non => true
 | _ => false
def isN (x y : PV) : Option PV := match y with
 | .non => some (.bl (zO x))
 | _ => none
@[simp] theorem SJ (x y : PV) : isN x y = (match y with
 | .non => some (.bl (zO x))
 | _ => none) := id rfl
def pO (x y : PV) : Option PV := match y with
 | .non => some (.bl (!zO x))
 | _ => none
@[simp] theorem Q3 (x y : PV) : pO x y = (match y with
 | .non => some (.bl (!zO x))
 | _ => none) := id rfl
theorem RepB.isN {C : MC} {A : Addr -> Prop} {H : Hp} {v : V} {p : PV} (h : RepB C A H v p) : decide (v = .non) = zO p := by
 cases p with
 | non => rw [h.non]; rfl
 | bl b => rw [h.bl]; rfl
 | int b => rw [h.int]; rfl
 | str b => rw [h.str]; rfl
 | lst b => obtain ⟨a, _, rfl, _⟩ := h.lst; rfl
 | frz b => obtain ⟨a, _, rfl, _⟩ := h.frz; rfl
 | tup b => obtain ⟨a, _, rfl, _⟩ := h.tup; rfl
 | ktp b => obtain ⟨a, _, rfl, _⟩ := h.ktp; rfl
 | dK b => obtain ⟨a, _, rfl, _⟩ := h.dK; rfl
 | dT b => obtain ⟨a, _, rfl, _⟩ := h.dT; rfl
 | obj c b => obtain ⟨a, _, _, rfl, _⟩ := h.obj; rfl
section
variable {b : BX}
theorem Gf : Op2 b .val (fun x y H Q => y = .non /\ Q (.bl (!decide (x = .non))) H) pO := by
 intro Ow H v1 v2 p1 p2 p Q hn r1 r2 e k
 cases p2 with
 | non =>
  simp only [pO] at e
  cases e
  exact ⟨r2.non, by rw [r1.isN]; exact k _ H (Same.refl _) (.bl _)⟩
 | _ => simp only [pO] at e; cases e
end
section
variable {X : Cx} {b : BX} {G : List Nat} {m : Md} {e e1 e2 e3 : Expr} {f f1 f2 f3 : Env -> Option PV} {pos : Pos} {m1 m2 m3 : Md}
structure SC (X : Cx) (b : BX) (G : List Nat) (op : CmpOp) (e1 e2 : Expr) (f : Env -> Option PV) : Prop where
 pe : ∀ pos, SE X b G .val (.Compare e1 [op] [e2] pos) f
 pt : ∀ pos, ST X b G (.Compare e1 [op] [e2] pos) (tV f)
theorem qY {op : CmpOp} {r : R2} {g : PV -> PV -> Option PV} (ho : OpR X (compareOp op) r) (hr : Op2 b .val r g) (h1 : SE X b G m1 e1 f1) (h2 : SE X b G m2 e2 f2) (hm : behindInMarks op e2 = false) : SC X b G op e1 e2 (b2 g f1 f2) := by
 refine ⟨fun pos => PE.imp (JW ho h1.bor h2.bor hm) fun σ H Q h => Ds hr h, fun pos => PT.imp (JX ho h1.bor h2.bor hm) fun σ H Q h => ?_⟩
 obtain ⟨Ow, env, c, E, hf, k⟩ := h
 unfold tV at hf
 cases q : b2 g f1 f2 env with
 | none => rw [q] at hf; cases hf
 | some p =>
  rw [q] at hf
  refine Ds (Q := fun x H' => ∃ k, x = .bl k /\ _) hr ⟨Ow, env, p, E, q, fun v H' s r => ?_⟩
  cases p with
  | bl d =>
   cases hf
   cases r
   exact ⟨_, rfl, k H' s⟩
  | _ => cases hf
theorem cF {j : Nat} (hr : Room j X.A) (h1 : SE X b G m1 e1 f1) (h2 : SE X b G m2 e2 f2) (hK : X.K = b.C.K := by rfl) : SC X b G .Eq e1 e2 (b2 eqQ f1 f2) := qY (r := Nu b.C.K) (by rw [← hK]; exact OpR.or PX (M_ hr.units)) Qt h1 h2 (rR _)
theorem jt {j : Nat} (hr : Room j X.A) (h1 : SE X b G m1 e1 f1) (h2 : SE X b G m2 e2 f2) (hK : X.K = b.C.K := by rfl) : SC X b G .NotEq e1 e2 (b2 neQ f1 f2) := qY (r := Nv b.C.K) (by rw [← hK]; exact OpR.or P0 (Nf hr.units)) Qu h1 h2 (rR _)
theorem Dw (h1 : SE X b G m1 e1 f1) (h2 : SE X b G m2 e2 f2) : SC X b G .Lt e1 e2 (b2 (gZ fun i j => decide (i < j)) f1 f2) := qY P_ FW h1 h2 (rR _)
theorem pA (h1 : SE X b G m1 e1 f1) (h2 : SE X b G m2 e2 f2) : SC X b G .Gt e1 e2 (b2 (gZ fun i j => decide (j < i)) f1 f2) := qY Qa FW h1 h2 (rR _)
theorem jV {j : Nat} (hr : Room j X.A) (h1 : SE X b G m1 e1 f1) (h2 : SE X b G m2 e2 f2) (hm : behindInMarks .In e2 = false := by rfl) (hK : X.K = b.C.K := by rfl) : SC X b G .In e1 e2 (b2 inQ f1 f2) :=
 qY (r := NB b.C.K) (by rw [← hK]; exact OpR.or (OpR.or Fv E_) (OpR.or (Ny (yS hr)) (Nz hr.units))) Qw h1 h2 hm
theorem pP {j : Nat} (hr : Room j X.A) (h1 : SE X b G m1 e1 f1) (h2 : SE X b G m2 e2 f2) (hm : behindInMarks .NotIn e2 = false := by rfl) (hK : X.K = b.C.K := by rfl) : SC X b G .NotIn e1 e2 (b2 mL f1 f2) :=
 qY (r := Cg b.C.K) (by rw [← hK]; exact OpR.or (OpR.or zA zB) (OpR.or (Gd (yS hr)) (Gb hr.units))) HH h1 h2 hm
theorem HJ (h1 : SE X b G m1 e1 f1) (h2 : SE X b G m2 e2 f2) : SC X b G .IsNot e1 e2 (b2 pO f1 f2) := qY JV Gf h1 h2 (rR _)
theorem cC {op : CmpOp} (h : SC X b G op e1 e2 f) : SE X b G .val (.Compare e1 [op] [e2] pos) f := h.pe pos
theorem aR {op : CmpOp} (h : SC X b G op e1 e2 f) : ST X b G (.Compare e1 [op] [e2] pos) (tV f) := h.pt pos
def sH (g g' : Int -> Int -> Bool) (f1 f2 f3 : Env -> Option PV) (env : Env) : Option PV := (f1 env).bind fun x => (f2 env).bind fun y => match x, y with
 | .int i, .int j => if g i j = true then (f3 env).bind fun z => gZ g' y z else some (.bl false)
 | _, _ => none
@[simp] theorem Q4 (g g' : Int -> Int -> Bool) (f1 f2 f3 : Env -> Option PV) (env : Env) : sH g g' f1 f2 f3 env = ((f1 env).bind fun x => (f2 env).bind fun y => match x, y with
 | .int i, .int j => if g i j = true then (f3 env).bind fun z => gZ g' y z else some (.bl false)
 | _, _ => none) := id rfl
theorem Bt {g g' : Int -> Int -> Bool} {f1 f2 f3 : Env -> Option PV} {env : Env} {p : PV} (h : sH g g' f1 f2 f3 env = some p) :
  ∃ i j, f1 env = some (.int i) /\ f2 env = some (.int j) /\ ((g i j = false /\ p = .bl false) \/ (g i j = true /\ ∃ l, f3 env = some (.int l) /\ p = .bl (g' j l))) := by
 unfold sH at h
 cases q1 : f1 env with
 | none => rw [q1] at h; cases h
 | some p1 =>
  cases q2 : f2 env with
  | none => rw [q1, q2] at h; cases h
  | some p2 =>
   rw [q1, q2] at h
   simp only [Option.bind_some] at h
   split at h
   ·rename_i i j
    refine ⟨i, j, rfl, rfl, ?_⟩
    cases hg : g i j with
    | false =>
     rw [hg] at h
     cases h
     exact .inl ⟨rfl, rfl⟩
    | true =>
     rw [hg] at h
     simp only [if_true] at h
     obtain ⟨p3, q3, h⟩ := Option.bind_eq_some_iff.mp h
     cases p3 with
     | int l =>
      cases h
      exact .inr ⟨rfl, l, q3, rfl⟩
     | _ => cases h
   ·cases h
theorem HN {op op' : CmpOp} {g g' : Int -> Int -> Bool} (ho : OpR X (compareOp op) (rI0 fun i j => .bl (g i j))) (ho' : OpR X (compareOp op') (rI0 fun i j => .bl (g' i j))) (h1 : SE X b G m1 e1 f1) (h2 : SE X b G m2 e2 f2) (h3 : SE X b G m3 e3 f3)
  (hm : lastMarks [op, op'] [e2, e3] = false := by with_unfolding_all rfl) : SE X b G .val (.Compare e1 [op, op'] [e2, e3] pos) (sH g g' f1 f2 f3) :=
 PE.imp (Hl ho ho' h1.bor h2.bor h3.bor hm) fun σ H Q ⟨Ow, env, p, E, hf, k⟩ => by
  obtain ⟨i, j, q1, q2, hc⟩ := Bt hf
  refine ⟨Ow, env, _, E, q1, fun v1 H1 s1 r1 => ⟨Ow, env, _, E.up s1, q2, fun v2 H2 s2 r2 => ?_⟩⟩
  have r1' : RepB b.C (Bs b Ow) H2 v1 (.int i) := Res.up (m := .bor) r1 s2
  have r2' : RepB b.C (Bs b Ow) H2 v2 (.int j) := r2
  rw [r1'.int, r2'.int]
  refine ⟨i, j, rfl, rfl, g i j, rfl, ?_⟩
  rcases hc with ⟨hc, rfl⟩ | ⟨hc, l, q3, rfl⟩
  ·rw [hc]
   simp only [Bool.false_eq_true, if_false]
   exact k _ H2 (s1.trans s2) (.bl false)
  ·rw [hc]
   simp only [if_true]
   refine ⟨Ow, env, _, E.up (s1.trans s2), q3, fun v3 H3 s3 r3 => ?_⟩
   have r3' : RepB b.C (Bs b Ow) H3 v3 (.int l) := r3
   rw [r3'.int]
   exact ⟨_, _, rfl, rfl, k _ H3 (s1.trans (s2.trans s3)) (.bl _)⟩
theorem iC {op} (h : SE X b G m e f) : SE X b G m (.BoolOp op [e] pos) f := Ma h
theorem gG {rest : List Expr} (h1 : SE X b G .val e1 f1) (h2 : SE X b G .val (.BoolOp .And (e2 :: rest) pos) f2) : SE X b G .val (.BoolOp .And (e1 :: e2 :: rest) pos) (iW f1 f2) :=
 PE.imp (Mf h1 h2) fun σ H Q ⟨Ow, env, p, E, hf, k⟩ => by
  unfold iW at hf
  cases q1 : f1 env with
  | none => rw [q1] at hf; cases hf
  | some p1 =>
   rw [q1] at hf
   refine ⟨Ow, env, p1, E, q1, fun v1 H1 s1 r1 => ?_⟩
   cases p1 with
   | bl c =>
    cases r1
    refine ⟨c, rfl, ?_⟩
    cases c with
    | true => exact ⟨Ow, env, p, E.up s1, hf, fun v H' s r => k v H' (s1.trans s) r⟩
    | false => cases hf; exact k _ H1 s1 (.bl false)
   | _ => cases hf
theorem Dy {rest : List Expr} (h1 : SE X b G .val e1 f1) (h2 : SE X b G .val (.BoolOp .Or (e2 :: rest) pos) f2) : SE X b G .val (.BoolOp .Or (e1 :: e2 :: rest) pos) (bOr f1 f2) :=
 PE.imp (PB h1 h2) fun σ H Q ⟨Ow, env, p, E, hf, k⟩ => by
  unfold bOr at hf
  cases q1 : f1 env with
  | none => rw [q1] at hf; cases hf
  | some p1 =>
   rw [q1] at hf
   refine ⟨Ow, env, p1, E, q1, fun v1 H1 s1 r1 => ?_⟩
   cases p1 with
   | bl c =>
    cases r1
    refine ⟨c, rfl, ?_⟩
    cases c with
    | false => exact ⟨Ow, env, p, E.up s1, hf, fun v H' s r => k v H' (s1.trans s) r⟩
    | true => cases hf; exact k _ H1 s1 (.bl true)
   | _ => cases hf
@[simp] def Tr : PV -> Option PV
 | .int i => some (.int (-i))
 | _ => none
theorem dG (h : SE X b G .val e f) (he : ∀ whole, isTrue e X.env whole = (do let v ← whole; standAt e.pos; holding [v] (truthy v)) := by intro _; rfl) : ST X b G e (tV f) :=
 PT.imp (LK h he) fun σ H Q ⟨Ow, env, c, E, hf, k⟩ => by
  unfold tV at hf
  cases q1 : f env with
  | none => rw [q1] at hf; cases hf
  | some p1 =>
   rw [q1] at hf
   refine ⟨Ow, env, p1, E, q1, fun v1 H1 s1 r1 => ?_⟩
   cases p1 with
   | bl d => cases r1; cases hf; exact ⟨_, rfl, k H1 s1⟩
   | _ => cases hf
theorem lG {g : Env -> Option Bool} (h : ST X b G e g) : ST X b G (.UnaryOp .Not e pos) (tN g) :=
 PT.imp (L_ h) fun σ H Q ⟨Ow, env, c, E, hf, k⟩ => by
  unfold tN at hf
  cases q1 : g env with
  | none => rw [q1] at hf; cases hf
  | some p1 => rw [q1] at hf; cases hf; exact ⟨Ow, env, p1, E, q1, fun H' s => k H' s⟩
abbrev SW (X : Cx) (b : BX) (G : List Nat) (e : Expr) (g : Env -> Option Bool) : Prop := PW X e (tMT b G g)
theorem PW.imp {t u : TT} (h : PW X e t) (i : ∀ σ H Q, u σ H Q -> t σ H Q) : PW X e u := fun wh pins s σ H Q I q => h wh pins s σ H Q I (i σ H Q q)
variable {g1 g2 : Env -> Option Bool}
theorem pD (h : ST X b G e g1) : SW X b G (.BoolOp .And [e] pos) g1 := JR h
theorem oV (h : ST X b G e g1) : SW X b G (.BoolOp .Or [e] pos) g1 := LQ h
theorem oW {rest : List Expr} (h1 : ST X b G e1 g1) (h2 : SW X b G (.BoolOp .And (e2 :: rest) pos) g2) : SW X b G (.BoolOp .And (e1 :: e2 :: rest) pos) (tA g1 g2) :=
 PW.imp (LR h1 h2) fun σ H Q ⟨Ow, env, c, E, hf, k⟩ => by
  unfold tA at hf
  cases q1 : g1 env with
  | none => rw [q1] at hf; cases hf
  | some p1 =>
   rw [q1] at hf
   refine ⟨Ow, env, p1, E, q1, fun H1 s1 => ?_⟩
   cases p1 with
   | true => exact ⟨Ow, env, c, E.up s1, hf, fun H' s => k H' (s1.trans s)⟩
   | false => cases hf; exact k H1 s1
theorem oF {rest : List Expr} (h1 : ST X b G e1 g1) (h2 : SW X b G (.BoolOp .Or (e2 :: rest) pos) g2) : SW X b G (.BoolOp .Or (e1 :: e2 :: rest) pos) (tO g1 g2) :=
 PW.imp (Py h1 h2) fun σ H Q ⟨Ow, env, c, E, hf, k⟩ => by
  unfold tO at hf
  cases q1 : g1 env with
  | none => rw [q1] at hf; cases hf
  | some p1 =>
   rw [q1] at hf
   refine ⟨Ow, env, p1, E, q1, fun H1 s1 => ?_⟩
   cases p1 with
   | false => exact ⟨Ow, env, c, E.up s1, hf, fun H' s => k H' (s1.trans s)⟩
   | true => cases hf; exact k H1 s1
theorem SW.st (h : SW X b G e g1) : ST X b G e g1 := h _
theorem JC {c : Expr} (hc : ST X b G c g1) (h1 : SE X b G m e1 f1) (h2 : SE X b G m e2 f2) : SE X b G m (.IfExp c e1 e2 pos) (bIf g1 f1 f2) :=
 PE.imp (Hb hc h1 h2) fun σ H Q ⟨Ow, env, p, E, hf, k⟩ => by
  unfold bIf at hf
  cases q1 : g1 env with
  | none => rw [q1] at hf; cases hf
  | some c =>
   rw [q1] at hf
   refine ⟨Ow, env, c, E, q1, fun H1 s1 => ?_⟩
   cases c with
   | true => exact ⟨Ow, env, p, E.up s1, hf, fun v H' s r => k v H' (s1.trans s) (r.down s1)⟩
   | false => exact ⟨Ow, env, p, E.up s1, hf, fun v H' s r => k v H' (s1.trans s) (r.down s1)⟩
end
end MR
namespace MR
open PySem L2
def ArA (b : BX) (Ow : Addr -> Prop) (L : Bool) (H : Hp) (a : Addr) : Prop := Bs b Ow a \/ (L = true /\ ∃ vs, H a = some (.lst vs))
def tMA (b : BX) (G : List Nat) (L : Bool) (g : Env -> Option (List PV)) : TA := fun σ H Q => ∃ Ow env ps, ER b Ow G σ env H /\ g env = some ps /\ ∀ vs H', Same H H' -> Reps b.C (ArA b Ow L H') H' vs ps -> Q vs H'
abbrev SA (X : Cx) (b : BX) (G : List Nat) (L : Bool) (es : List Expr) (g : Env -> Option (List PV)) : Prop := PA X es (tMA b G L g)
theorem PA.imp {X : Cx} {es : List Expr} {t u : TA} (h : PA X es t) (i : ∀ σ H Q, u σ H Q -> t σ H Q) : PA X es u := fun pos pins s σ H Q I q => h pos pins s σ H Q I (i σ H Q q)
theorem ArA.ex {b : BX} {Ow : Addr -> Prop} {L : Bool} {H H' : Hp} (s : Same H H') : Ex (ArA b Ow L H) H (ArA b Ow L H') H' := fun a o h => ⟨fun q => ⟨s _ _ h, q.imp id fun ⟨l, vs, e⟩ => ⟨l, vs, s _ _ e⟩⟩, fun _ => s _ _ h⟩
section
variable {X : Cx} {b : BX} {G : List Nat} {m m1 m2 : Md} {L : Bool} {e e1 e2 : Expr} {es : List Expr} {f f1 f2 : Env -> Option PV} {g : Env -> Option (List PV)} {pos p : Pos}
theorem aA : SA X b G L [] aC := PA.imp jJ fun σ H Q ⟨Ow, env, ps, E, hg, k⟩ => by cases hg; exact k [] H (Same.refl _) .nil
theorem aj (h1 : SE X b G .val e f) (h2 : SA X b G L es g) (hs : starEach (e :: es) X.env = (false, eval e X.env) :: starEach es X.env := by rfl) : SA X b G L (e :: es) (ak f g) :=
 PA.imp (fL h1 h2 hs) fun σ H Q ⟨Ow, env, ps, E, hg, k⟩ => by
  unfold ak at hg
  cases q1 : f env with
  | none => rw [q1] at hg; cases hg
  | some p1 =>
   rw [q1] at hg
   cases q2 : g env with
   | none => rw [q2] at hg; cases hg
   | some ps' =>
    rw [q2] at hg
    cases hg
    exact ⟨Ow, env, p1, E, q1, fun v H1 s1 r1 => ⟨Ow, env, ps', E.up s1, q2, fun vs H2 s2 r2 => k (v :: vs) H2 (s1.trans s2) (.cons (Rep.ex (fun a o h => ⟨fun q => ⟨s2 _ _ h, .inl q⟩, fun _ => s2 _ _ h⟩) r1) r2)⟩⟩
def bL (f : Env -> Option PV) (env : Env) : Option PV := (f env).bind fun p => match p with | .lst xs => some (.lst xs) | _ => none
@[simp] theorem Tf (f : Env -> Option PV) (env : Env) : bL f env = ((f env).bind fun p => match p with | .lst xs => some (.lst xs) | _ => none) := id rfl
theorem vM {b : BX} {Ow : Addr -> Prop} {H : Hp} {vs : List V} {ps : List PV} (h : Reps b.C (ArA b Ow false H) H vs ps) : Reps b.C (Bs b Ow) H vs ps := h.ex (cU fun a o _ q => q.elim id fun z => by cases z.1)
theorem cj (h : SA X b G false es g) : SE X b G .own (.List es pos) (b7 g) := PE.imp (Fi h) fun σ H Q ⟨Ow, env, p, E, hf, k⟩ => by
 unfold b7 at hf
 cases q1 : g env with
 | none => rw [q1] at hf; cases hf
 | some ps =>
  rw [q1] at hf
  simp only [Option.bind_some] at hf
  split at hf
  ·rename_i hl
   cases hf
   refine ⟨Ow, env, ps, E, q1, fun vs H1 s1 r => ⟨j9 (by rw [r.length]; exact hl), fun q hq => k _ _ (s1.trans (bA hq _)) (Res.down s1 (jO hq (vM r)))⟩⟩
  ·cases hf
theorem iD {x1} (h : SA X b G false es g) : SE X b G .val (.Tuple es x1 pos) (gY g) := PE.imp (Fg h) fun σ H Q ⟨Ow, env, p, E, hf, k⟩ => by
 unfold gY at hf
 cases q1 : g env with
 | none => rw [q1] at hf; cases hf
 | some ps =>
  rw [q1] at hf
  simp only [Option.bind_some] at hf
  split at hf
  ·rename_i hl
   cases hf
   refine ⟨Ow, env, ps, E, q1, fun vs H1 s1 r => ⟨j9 (by rw [r.length]; exact hl), fun q hq => k _ _ (s1.trans (bA hq _)) (Km hq (vM r))⟩⟩
  ·cases hf
theorem Qx : SE X b G .own (.Dict [] [] pos) (bC (.dK [])) := PE.imp Ht fun σ H Q ⟨Ow, env, p, E, hf, k⟩ q hq => by
 cases hf
 exact k _ _ (bA hq _) ⟨q, rfl, hq, [], bO, .nil⟩
theorem Qy : SE X b G .own (.Dict [] [] pos) (bC (.dT [])) := PE.imp Hu fun σ H Q ⟨Ow, env, p, E, hf, k⟩ q hq => by
 cases hf
 exact k _ _ (bA hq _) ⟨q, rfl, hq, [], bO, .nil⟩
@[simp] def ixP : PV -> PV -> Option PV
 | .lst xs, .int i => atI xs i
 | .frz xs, .int i => atI xs i
 | .tup xs, .int i => atI xs i
 | .ktp xs, .int i => atI xs i
 | .str x, .int i => if x.length <= 1000000 then (atI x.cps.toList i).map fun c => .str ⟨#[c]⟩ else none
 | .dK kvs, y => (keyOf y).bind fun k => fM kvs k
 | .dT kvs, .tup ys => (keysOf ys).bind fun k => fM kvs k
 | _, _ => none
theorem Reps.atI {C : MC} {A : Addr -> Prop} {H : Hp} {vs : List V} {ps : List PV} {i : Int} {p : PV} (h : Reps C A H vs ps) (e : atI ps i = some p) : ∃ v, L2.atI vs i = some v /\ Rep C A H v p := by
 unfold L2.atI at e ⊢
 rw [h.length]
 cases q : ixN ps.length i with
 | none => rw [q] at e; cases e
 | some j => rw [q] at e; exact h.get e
theorem aG {j : Nat} (hr : Room j X.A) (h1 : SE X b G m1 e1 f1) (h2 : SE X b G m2 e2 f2) (hs : Ce e2 := by intro _ _; rfl) (hs' : Hq e2 := by intro _ _; rfl) (hK : X.K = b.C.K := by rfl) : SE X b G .val (.Subscript e1 e2 pos) (b2 ixP f1 f2) := by
 refine PE.imp (PE.or (Jx (r := rIx b.C.K) (by rw [← hK]; exact M4) h1.bor h2.bor hs) (J7 (yS hr) h1.bor h2.bor hs')) fun σ H Q h => ?_
 obtain ⟨Ow, env, p, E, hf, k⟩ := h
 unfold b2 at hf
 cases q1 : f1 env with
 | none => rw [q1] at hf; cases hf
 | some p1 =>
  rw [q1] at hf
  cases q2 : f2 env with
  | none => rw [q2] at hf; cases hf
  | some p2 =>
   rw [q2] at hf
   simp only [Option.bind_some] at hf
   have step : ∀ (R : V -> V -> Hp -> VK -> Prop), (∀ H2 v1 v2, RepB b.C (Bs b Ow) H2 v1 p1 -> RepB b.C (Bs b Ow) H2 v2 p2 -> Same H H2 -> R v1 v2 H2 Q) -> tM b G .bor f1 σ H fun x H1 => tM b G .bor f2 σ H1 fun y H2 => R x y H2 Q := fun R hR =>
    ⟨Ow, env, p1, E, q1, fun v1 H1 s1 r1 => ⟨Ow, env, p2, E.up s1, q2, fun v2 H2 s2 r2 => hR H2 v1 v2 (Res.up (m := .bor) r1 s2) r2 (s1.trans s2)⟩⟩
   unfold ixP at hf
   split at hf
   ·refine .inl (step _ fun H2 v1 v2 r1 r2 s => ?_)
    obtain ⟨a, vs, rfl, ha, ra⟩ := r1.lst
    obtain ⟨v, hv, rv⟩ := ra.atI hf
    rw [r2.int]
    exact .inl ⟨a, vs, _, v, rfl, rfl, SqL.of ha, hv, k v H2 s rv⟩
   ·refine .inl (step _ fun H2 v1 v2 r1 r2 s => ?_)
    obtain ⟨a, vs, rfl, ha, ra⟩ := r1.frz
    obtain ⟨v, hv, rv⟩ := ra.atI hf
    rw [r2.int]
    exact .inl ⟨a, vs, _, v, rfl, rfl, ha, hv, k v H2 s rv⟩
   ·refine .inl (step _ fun H2 v1 v2 r1 r2 s => ?_)
    obtain ⟨a, vs, rfl, ha, ra⟩ := r1.tup
    obtain ⟨v, hv, rv⟩ := ra.atI hf
    rw [r2.int]
    exact .inr (.inl ⟨a, vs, _, v, rfl, rfl, SqT.of ha, hv, k v H2 s rv⟩)
   ·refine .inl (step _ fun H2 v1 v2 r1 r2 s => ?_)
    obtain ⟨a, vs, rfl, ha, ra⟩ := r1.ktp
    obtain ⟨v, hv, rv⟩ := ra.atI hf
    rw [r2.int]
    exact .inr (.inl ⟨a, vs, _, v, rfl, rfl, ha, hv, k v H2 s rv⟩)
   ·split at hf
    ·rename_i x i hx
     cases q3 : atI x.cps.toList i with
     | none => rw [q3] at hf; cases hf
     | some c =>
      rw [q3] at hf
      cases hf
      refine .inl (step _ fun H2 v1 v2 r1 r2 s => ?_)
      rw [r1.str, r2.int]
      exact .inr (.inr ⟨x, i, c, rfl, rfl, j9 hx, q3, k _ H2 s (.str _)⟩)
    ·cases hf
   ·rename_i kvs
    cases q3 : keyOf p2 with
    | none => rw [q3] at hf; cases hf
    | some ky =>
     rw [q3] at hf
     simp only [Option.bind_some] at hf
     refine .inr (step (fun x y H2 Q => ∃ a v, x = .ref a /\ DGet H2 a y (some v) /\ Q v H2) fun H2 v1 v2 r1 r2 s => ?_)
     obtain ⟨a, kv, rfl, ha, ra⟩ := r1.dK
     rw [r2.key q3]
     unfold fM at hf
     rcases RepK.val (k := ky) ra with ⟨v, p', h1, h2, rv⟩ | ⟨h1, h2⟩
     ·rw [h2] at hf
      cases hf
      exact ⟨a, v, rfl, by rw [← h1]; exact DGet.k ha, k v H2 s rv⟩
     ·rw [h2] at hf; cases hf
   ·rename_i kvs ys
    cases q3 : keysOf ys with
    | none => rw [q3] at hf; cases hf
    | some ky =>
     rw [q3] at hf
     simp only [Option.bind_some] at hf
     refine .inr (step (fun x y H2 Q => ∃ a v, x = .ref a /\ DGet H2 a y (some v) /\ Q v H2) fun H2 v1 v2 r1 r2 s => ?_)
     obtain ⟨a, kv, rfl, ha, ra⟩ := r1.dT
     obtain ⟨c, vs, rfl, hc, rc⟩ := r2.tup
     have hv := rc.keys q3
     subst hv
     unfold fM at hf
     rcases RepT.val (k := ky) ra with ⟨v, p', h1, h2, rv⟩ | ⟨h1, h2⟩
     ·rw [h2] at hf
      cases hf
      exact ⟨a, v, rfl, by rw [← h1]; exact DGet.t ha hc, k v H2 s rv⟩
     ·rw [h2] at hf; cases hf
   ·cases hf
def g8 (xs : List PV) (lo hi : Option Int) : List PV := (xs.drop (HT.sIx xs.length 0 lo)).take (HT.sIx xs.length xs.length hi - HT.sIx xs.length 0 lo)
theorem Reps.cut {C : MC} {A : Addr -> Prop} {H : Hp} {vs : List V} {ps : List PV} (h : Reps C A H vs ps) (lo hi : Option Int) : Reps C A H (wL vs lo hi) (g8 ps lo hi) := by
 unfold wL g8
 rw [h.length]
 exact (h.drop _).take _
def oN (env : Env) : Option (Option Int) := some none
@[simp] theorem Qz (env : Env) : oN env = (some none) := id rfl
def oS (f : Env -> Option PV) (env : Env) : Option (Option Int) := (f env).bind fun p => match p with | .int i => some (some i) | _ => none
@[simp] theorem QB (f : Env -> Option PV) (env : Env) : oS f env = ((f env).bind fun p => match p with | .int i => some (some i) | _ => none) := id rfl
def tMO (b : BX) (G : List Nat) (f : Env -> Option (Option Int)) : TO := fun σ H Q => ∃ Ow env o, ER b Ow G σ env H /\ f env = some o /\ ∀ H', Same H H' -> Q o H'
theorem PO.imp {x : Option Expr} {t u : TO} (h : PO X x t) (i : ∀ σ H Q, u σ H Q -> t σ H Q) : PO X x u := by
 intro pins s σ H Q I q
 exact h pins s σ H Q I (i σ H Q q)
abbrev SO (X : Cx) (b : BX) (G : List Nat) (e : Option Expr) (f : Env -> Option (Option Int)) : Prop := PO X e (tMO b G f)
theorem g_ : SO X b G none oN := PO.imp J_ fun σ H Q ⟨Ow, env, o, E, hf, k⟩ => by cases hf; exact k H (Same.refl _)
theorem cQ (h : SE X b G m e f) : SO X b G (some e) (oS f) := PO.imp (Ka h.bor) fun σ H Q ⟨Ow, env, o, E, hf, k⟩ => by
 unfold oS at hf
 cases q1 : f env with
 | none => rw [q1] at hf; cases hf
 | some p1 =>
  rw [q1] at hf
  refine ⟨Ow, env, p1, E, q1, fun v H1 s1 r1 => ?_⟩
  have r1' : RepB b.C (Bs b Ow) H1 v p1 := r1
  cases p1 <;> simp only [Option.bind_some] at hf <;> cases hf
  exact ⟨_, r1'.int, k H1 s1⟩
def bSl (f : Env -> Option PV) (lo hi : Env -> Option (Option Int)) (env : Env) : Option PV := (f env).bind fun x => (lo env).bind fun l => (hi env).bind fun h => match x with
 | .lst xs => some (.lst (g8 xs l h))
 | .frz xs => some (.lst (g8 xs l h))
 | .str x => if x.length <= 1000000 then some (.str (cL x l h)) else none
 | _ => none
@[simp] theorem NK (f : Env -> Option PV) (lo hi : Env -> Option (Option Int)) (env : Env) : bSl f lo hi env = ((f env).bind fun x => (lo env).bind fun l => (hi env).bind fun h => match x with
 | .lst xs => some (.lst (g8 xs l h))
 | .frz xs => some (.lst (g8 xs l h))
 | .str x => if x.length <= 1000000 then some (.str (cL x l h)) else none
 | _ => none) := id rfl
theorem iK {lo hi : Option Expr} {p2 : Pos} {fl fh : Env -> Option (Option Int)} (h1 : SE X b G m e f) (hl : SO X b G lo fl) (hh : SO X b G hi fh) (hK : X.K = b.C.K := by rfl) : SE X b G .val (.Subscript e (.Slice lo hi none p2) pos) (bSl f fl fh) := by
 refine PE.imp (Hv (r := Ni b.C.K) (by rw [← hK]; exact Nj) h1.bor hl hh) fun σ H Q ⟨Ow, env, p, E, hf, k⟩ => ?_
 unfold bSl at hf
 cases q1 : f env with
 | none => rw [q1] at hf; cases hf
 | some p1 =>
  rw [q1] at hf
  cases q2 : fl env with
  | none => rw [q2] at hf; cases hf
  | some l =>
   rw [q2] at hf
   cases q3 : fh env with
   | none => rw [q3] at hf; cases hf
   | some h =>
    rw [q3] at hf
    refine ⟨Ow, env, p1, E, q1, fun v H1 s1 r1 => ⟨Ow, env, l, E.up s1, q2, fun H2 s2 => ⟨Ow, env, h, E.up (s1.trans s2), q3, fun H3 s3 => ?_⟩⟩⟩
    have r1' : RepB b.C (Bs b Ow) H3 v p1 := Res.up (m := .bor) r1 (s2.trans s3)
    cases p1 <;> simp only [Option.bind_some] at hf
    case lst xs =>
     cases hf
     obtain ⟨a, vs, rfl, ha, ra⟩ := r1'.lst
     exact .inl ⟨a, vs, rfl, SqL.of ha, fun q hq => k _ _ (s1.trans (s2.trans (s3.trans (bA hq _)))) (Res.val (m := .own) E (fun z => nomatch z) (Res.down (s1.trans (s2.trans s3)) (jO hq (ra.cut l h))))⟩
    case frz xs =>
     cases hf
     obtain ⟨a, vs, rfl, ha, ra⟩ := r1'.frz
     exact .inl ⟨a, vs, rfl, ha, fun q hq => k _ _ (s1.trans (s2.trans (s3.trans (bA hq _)))) (Res.val (m := .own) E (fun z => nomatch z) (Res.down (s1.trans (s2.trans s3)) (jO hq (ra.cut l h))))⟩
    case str x =>
     split at hf
     ·rename_i hx
      cases hf
      exact .inr ⟨x, r1'.str, j9 hx, k _ _ (s1.trans (s2.trans s3)) (.str _)⟩
     ·cases hf
    all_goals cases hf
def RD (f : Env -> Option PV) (lo hi : Env -> Option (Option Int)) (env : Env) : Option PV := (f env).bind fun x => (lo env).bind fun l => (hi env).bind fun h => match x with
 | .lst xs => some (.lst (g8 xs l h))
 | .frz xs => some (.lst (g8 xs l h))
 | _ => none
@[simp] theorem R_ (f : Env -> Option PV) (lo hi : Env -> Option (Option Int)) (env : Env) : RD f lo hi env = ((f env).bind fun x => (lo env).bind fun l => (hi env).bind fun h => match x with
 | .lst xs => some (.lst (g8 xs l h))
 | .frz xs => some (.lst (g8 xs l h))
 | _ => none) := id rfl
theorem vN {id : String} {x : Str} {r : List V -> Hp -> VK -> Prop} {g : PV -> Option PV} (hc : CallR X (.builtin id) r) (hr : Op1 b m (fun v H Q => r [v] H Q) g) (hm : X.mg x = none) (hv : bootBuiltins x = some (.builtin id)) (h : SE X b G m1 e f)
  (hg : Gl X x := by rfl) (hn : x ≠ "__name__" := by decide) (hdb : (x == ("__debug__" : Str)) = false := by decide) (he : starEach [e] X.env = (false, eval e X.env) :: starEach [] X.env := by rfl) :
  SE X b G m (.Call (.Name x p) [e] [] pos) (b1 g f) :=
 PE.imp (zu hc hg hm hv (fL h.bor jJ he) hn hdb he rfl) fun σ H Q h => JB hr h
theorem wR {id : String} {x : Str} {r : List V -> Hp -> VK -> Prop} {g : PV -> Option PV} (hc : CallR X (.type id) r) (hr : Op1 b m (fun v H Q => r [v] H Q) g) (hm : X.mg x = none) (hv : bootBuiltins x = some (.type id)) (h : SE X b G m1 e f)
  (hg : Gl X x := by rfl) (hn : x ≠ "__name__" := by decide) (hdb : (x == ("__debug__" : Str)) = false := by decide) (he : starEach [e] X.env = (false, eval e X.env) :: starEach [] X.env := by rfl) :
  SE X b G m (.Call (.Name x p) [e] [] pos) (b1 g f) :=
 PE.imp (Fo hc hg hm hv (fL h.bor jJ he) hn hdb he rfl) fun σ H Q h => JB hr h
@[simp] def lenV : PV -> Option PV
 | .lst xs => some (.int xs.length)
 | .frz xs => some (.int xs.length)
 | .tup xs => some (.int xs.length)
 | .ktp xs => some (.int xs.length)
 | .str x => if x.length <= 1000000 then some (.int x.length) else none
 | .dK kvs => some (.int kvs.length)
 | _ => none
theorem RepK.length {C : MC} {A : Addr -> Prop} {H : Hp} : ∀ {vs : List (Key × V)} {ps : List (Key × PV)}, RepK C A H vs ps -> vs.length = ps.length
 | _, _, .nil => rfl
 | _, _, .cons _ t => by simp [RepK.length t]
theorem aZ (hm : X.mg "len" = none) (h : SE X b G m1 e f) (hK : X.K = b.C.K := by rfl) (hg : Gl X "len" := by rfl) (he : starEach [e] X.env = (false, eval e X.env) :: starEach [] X.env := by rfl) : SE X b G .val (.Call (.Name "len" p) [e] [] pos) (b1 lenV f) := by
 refine vN (CallR.or (CallR.or zE zF) FN) (fun Ow H v1 p1 p Q hn r1 e k => ?_) hm PySem.boot_len h hg (by decide) (by decide) he
 rw [hK]
 cases p1 <;> simp only [lenV] at e
 case lst xs => cases e; obtain ⟨a, vs, rfl, ha, ra⟩ := r1.lst; exact .inl (.inl ⟨a, vs, rfl, .inl (SqL.of ha), by rw [ra.length]; exact k _ H (Same.refl _) (.int _)⟩)
 case frz xs => cases e; obtain ⟨a, vs, rfl, ha, ra⟩ := r1.frz; exact .inl (.inl ⟨a, vs, rfl, .inl ha, by rw [ra.length]; exact k _ H (Same.refl _) (.int _)⟩)
 case tup xs => cases e; obtain ⟨a, vs, rfl, ha, ra⟩ := r1.tup; exact .inl (.inl ⟨a, vs, rfl, .inr (SqT.of ha), by rw [ra.length]; exact k _ H (Same.refl _) (.int _)⟩)
 case ktp xs => cases e; obtain ⟨a, vs, rfl, ha, ra⟩ := r1.ktp; exact .inl (.inl ⟨a, vs, rfl, .inr ha, by rw [ra.length]; exact k _ H (Same.refl _) (.int _)⟩)
 case str x =>
  split at e
  ·rename_i hx
   cases e
   rw [r1.str]
   exact .inl (.inr ⟨x, rfl, j9 hx, k _ H (Same.refl _) (.int _)⟩)
  ·cases e
 case dK kvs => cases e; obtain ⟨a, vs, rfl, ha, ra⟩ := r1.dK; exact .inr ⟨a, vs, rfl, ha, by rw [ra.length]; exact k _ H (Same.refl _) (.int _)⟩
 all_goals cases e
def yX : Key -> PV
 | .inl i => .int i
 | .inr x => .str x
@[simp] def oG : PV -> Option PV
 | .lst xs => some (.lst xs)
 | .frz xs => some (.lst xs)
 | .tup xs => some (.lst xs)
 | .ktp xs => some (.lst xs)
 | .dK kvs => some (.lst (kvs.map fun kv => yX kv.1))
 | _ => none
theorem Ko {C : MC} {A : Addr -> Prop} {H : Hp} (k : Key) : Rep C A H (kV k) (yX k) := by cases k with | inl i => exact .int i | inr x => exact .str x
theorem RepK.keys {C : MC} {A : Addr -> Prop} {H : Hp} : ∀ {vs : List (Key × V)} {ps : List (Key × PV)}, RepK C A H vs ps -> Reps C A H (vs.map fun kv => kV kv.1) (ps.map fun kv => yX kv.1)
 | _, _, .nil => .nil
 | _, _, .cons (k := k) _ t => .cons (Ko k) (RepK.keys t)
theorem wU (hm : X.mg "list" = none) (h : SE X b G m1 e f) (hcm : X.calm = true := by rfl) (hK : X.K = b.C.K := by rfl) (hg : Gl X "list" := by rfl) (he : starEach [e] X.env = (false, eval e X.env) :: starEach [] X.env := by rfl) : SE X b G .own (.Call (.Name "list" p) [e] [] pos) (b1 oG f) := by
 refine wR (CallR.or zG (wN hcm)) (fun Ow H v1 p1 p Q hn r1 e k => ?_) hm PyProof.Rows.boot_list h hg (by decide) (by decide) he
 rw [hK]
 cases p1 <;> simp only [oG] at e <;> cases e
 case lst xs => obtain ⟨a, vs, rfl, ha, ra⟩ := r1.lst; exact .inl ⟨a, vs, rfl, .inl (SqL.of ha), fun l hl => k _ _ (bA hl _) (jO hl ra)⟩
 case frz xs => obtain ⟨a, vs, rfl, ha, ra⟩ := r1.frz; exact .inl ⟨a, vs, rfl, .inl ha, fun l hl => k _ _ (bA hl _) (jO hl ra)⟩
 case tup xs => obtain ⟨a, vs, rfl, ha, ra⟩ := r1.tup; exact .inl ⟨a, vs, rfl, .inr (SqT.of ha), fun l hl => k _ _ (bA hl _) (jO hl ra)⟩
 case ktp xs => obtain ⟨a, vs, rfl, ha, ra⟩ := r1.ktp; exact .inl ⟨a, vs, rfl, .inr ha, fun l hl => k _ _ (bA hl _) (jO hl ra)⟩
 case dK kvs => obtain ⟨a, vs, rfl, ha, ra⟩ := r1.dK; exact .inr ⟨a, vs, rfl, ha, fun l hl => k _ _ (bA hl _) (jO hl ra.keys)⟩
@[simp] def HQ : PV -> Option PV
 | .int i => some (.int i)
 | .bl k => some (.int (if k then 1 else 0))
 | _ => none
theorem Kq (hm : X.mg "int" = none) (h : SE X b G m1 e f) (hg : Gl X "int" := by rfl) (he : starEach [e] X.env = (false, eval e X.env) :: starEach [] X.env := by rfl) : SE X b G .val (.Call (.Name "int" p) [e] [] pos) (b1 HQ f) := by
 refine wR Fb (fun Ow H v1 p1 p Q hn r1 e k => ?_) hm PyProof.Rows.boot_int h hg (by decide) (by decide) he
 cases p1 <;> simp only [HQ] at e <;> cases e
 ·rw [r1.bl]; exact .inr ⟨_, rfl, k _ H (Same.refl _) (.int _)⟩
 ·rw [r1.int]; exact .inl ⟨_, rfl, k _ H (Same.refl _) (.int _)⟩
@[simp] def bools : List PV -> Option (List Bool)
 | [] => some []
 | .bl c :: r => (bools r).map (c :: ·)
 | _ :: _ => none
theorem Reps.bools {C : MC} {A : Addr -> Prop} {H : Hp} : ∀ {vs : List V} {ps : List PV} {bs : List Bool}, Reps C A H vs ps -> bools ps = some bs -> vs = bs.map V.bl
 | _, _, _, .nil, e => by cases e; rfl
 | _, _, _, .cons (p := p) (ps := ps) h t, e => by
  cases p <;> simp only [MR.bools] at e <;> first | cases e | skip
  rename_i c
  cases q : MR.bools ps with
  | none => rw [q] at e; cases e
  | some bs => rw [q] at e; cases e; cases h; rw [Reps.bools t q]; rfl
@[simp] def nR : PV -> Option PV
 | .lst xs => (bools xs).map fun bs => .bl (bs.all id)
 | _ => none
@[simp] def HR : PV -> Option PV
 | .lst xs => (bools xs).map fun bs => .bl (bs.any id)
 | _ => none
theorem mO (hm : X.mg "all" = none) (h : SE X b G m1 e f) (hcm : X.calm = true := by rfl) (hg : Gl X "all" := by rfl) (he : starEach [e] X.env = (false, eval e X.env) :: starEach [] X.env := by rfl) : SE X b G .val (.Call (.Name "all" p) [e] [] pos) (b1 nR f) := by
 refine vN (HB hcm) (fun Ow H v1 p1 p Q hn r1 e k => ?_) hm PyProof.Rows.boot_all h hg (by decide) (by decide) he
 cases p1 <;> simp only [nR] at e <;> first | cases e | skip
 rename_i xs
 cases q : bools xs with
 | none => rw [q] at e; cases e
 | some bs =>
  rw [q] at e
  cases e
  obtain ⟨a, vs, rfl, ha, ra⟩ := r1.lst
  have hv := ra.bools q
  subst hv
  exact ⟨a, bs, rfl, SqL.of ha, k _ H (Same.refl _) (.bl _)⟩
theorem NP (hm : X.mg "any" = none) (h : SE X b G m1 e f) (hcm : X.calm = true := by rfl) (hg : Gl X "any" := by rfl) (he : starEach [e] X.env = (false, eval e X.env) :: starEach [] X.env := by rfl) : SE X b G .val (.Call (.Name "any" p) [e] [] pos) (b1 HR f) := by
 refine vN (HD hcm) (fun Ow H v1 p1 p Q hn r1 e k => ?_) hm PyProof.Rows.boot_any h hg (by decide) (by decide) he
 cases p1 <;> simp only [HR] at e <;> first | cases e | skip
 rename_i xs
 cases q : bools xs with
 | none => rw [q] at e; cases e
 | some bs =>
  rw [q] at e
  cases e
  obtain ⟨a, vs, rfl, ha, ra⟩ := r1.lst
  have hv := ra.bools q
  subst hv
  exact ⟨a, bs, rfl, SqL.of ha, k _ H (Same.refl _) (.bl _)⟩
@[simp] def strsP : List PV -> Option (List Str)
 | [] => some []
 | .str c :: r => (strsP r).map (c :: ·)
 | _ :: _ => none
theorem Reps.strsP {C : MC} {A : Addr -> Prop} {H : Hp} : ∀ {vs : List V} {ps : List PV} {bs : List Str}, Reps C A H vs ps -> strsP ps = some bs -> vs = bs.map V.str
 | _, _, _, .nil, e => by cases e; rfl
 | _, _, _, .cons (p := p) (ps := ps) h t, e => by
  cases p <;> simp only [MR.strsP] at e <;> first | cases e | skip
  rename_i c
  cases q : MR.strsP ps with
  | none => rw [q] at e; cases e
  | some bs => rw [q] at e; cases e; cases h; rw [Reps.strsP t q]; rfl
@[simp] def vO : PV -> PV -> Option PV
 | .str z, .lst xs => (strsP xs).bind fun zs => if JoinOk z zs = true then some (.str (Str.join z zs)) else none
 | _, _ => none
@[simp] def sI : PV -> PV -> Option PV
 | .str z, .str y => if (y.length == 0) = false /\ z.length <= 1000000 then some (.lst ((Txt.split z y).map .str)) else none
 | _, _ => none
theorem JD {id : String} {name : Str} {apos cpos : Pos} {o : Expr} {fo : Env -> Option PV} {r : V -> List V -> Hp -> VK -> Prop} {g : PV -> PV -> Option PV} (slot : Slot "str" name id) (hty : typeOf (.builtin id) = pure (.type "method_descriptor")) (pa : PlainAttrs "str") (hm : MtR X id r)
  (hr : Op2 b m (fun x y H Q => (∃ z, x = .str z) -> r x [y] H Q) g) (hgs : ∀ x y p, g x y = some p -> ∃ z, x = .str z) (ho : SE X b G m1 o fo) (h : SE X b G m2 e f)
  (hbase : attributeBase o name X.env (eval o X.env) = eval o X.env := by rfl)
  (hfew : ((backTo cpos (starEach [e] X.env)).all (fun x => !x.1) && (backToKw cpos (keywordEach [] X.env)).all (fun x => x.1.isSome)
   && decide ([e].length + ([] : List Keyword).length + (if ([] : List Keyword).isEmpty then 0 else 1) < 30)) = true := by rfl)
  (hline : (apos.endLine == cpos.line) = true := by rfl) (hs : starEach [e] X.env = (false, eval e X.env) :: starEach [] X.env := by rfl) :
  SE X b G m (.Call (.Attribute o name apos) [e] [] cpos) (b2 g fo f) := by
 refine PE.imp (Dm pa slot hty hm ho.bor (fL h.bor jJ hs) hbase hfew hline hs rfl) fun σ H Q h => ?_
 obtain ⟨Ow, env, p, E, hf, k⟩ := h
 unfold b2 at hf
 cases q1 : fo env with
 | none => rw [q1] at hf; cases hf
 | some p1 =>
  rw [q1] at hf
  cases q2 : f env with
  | none => rw [q2] at hf; cases hf
  | some p2 =>
   rw [q2] at hf
   simp only [Option.bind_some] at hf
   obtain ⟨z, rfl⟩ := hgs _ _ _ hf
   refine ⟨Ow, env, _, E, q1, fun v1 H1 s1 r1 => ?_⟩
   have r1' : RepB b.C (Bs b Ow) H1 v1 (.str z) := r1
   have ev := r1'.str
   subst ev
   refine ⟨rfl, Ow, env, p2, E.up s1, q2, fun v2 H2 s2 r2 => ?_⟩
   exact hr Ow H2 _ v2 _ p2 p Q (fun a => (E.up (s1.trans s2)).fresh) (RepB.ex (.of_same s2) s2 r1') r2 hf (fun v H' s r => k v H' (s1.trans (s2.trans s)) (r.down (s1.trans s2))) ⟨z, rfl⟩
theorem Kr : Op2 b .val (fun x y H Q => (∃ z, x = .str z) -> rJoin b.C.K x [y] H Q) vO := by
 intro Ow H v1 v2 p1 p2 p Q hn r1 r2 e k _
 unfold vO at e
 split at e
 ·rename_i z xs
  cases q : strsP xs with
  | none => rw [q] at e; cases e
  | some zs =>
   rw [q] at e
   simp only [Option.bind_some] at e
   split at e
   ·rename_i hj
    cases e
    obtain ⟨a, vs, rfl, ha, ra⟩ := r2.lst
    have hv := ra.strsP q
    subst hv
    exact ⟨z, a, zs, r1.str, rfl, SqL.of ha, hj, k _ H (Same.refl _) (.str _)⟩
   ·cases e
 ·cases e
theorem HS : Op2 b .own (fun x y H Q => (∃ z, x = .str z) -> FQ x [y] H Q) sI := by
 intro Ow H v1 v2 p1 p2 p Q hn r1 r2 e k _
 unfold sI at e
 split at e
 ·rename_i z y
  split at e
  ·rename_i hj
   cases e
   refine ⟨z, y, r1.str, by rw [r2.str], hj.1, hj.2, fun l hl => k _ _ (bA hl _) (jO hl (wO _ _ (fun x => .str x) _))⟩
  ·cases e
 ·cases e
theorem Ks {apos cpos : Pos} {o : Expr} {fo : Env -> Option PV} (ho : SE X b G m1 o fo) (h : SE X b G m2 e f) (hK : X.K = b.C.K := by rfl) (hbase : attributeBase o "join" X.env (eval o X.env) = eval o X.env := by rfl)
  (hfew : ((backTo cpos (starEach [e] X.env)).all (fun x => !x.1) && (backToKw cpos (keywordEach [] X.env)).all (fun x => x.1.isSome)
   && decide ([e].length + ([] : List Keyword).length + (if ([] : List Keyword).isEmpty then 0 else 1) < 30)) = true := by rfl)
  (hline : (apos.endLine == cpos.line) = true := by rfl) (hs : starEach [e] X.env = (false, eval e X.env) :: starEach [] X.env := by rfl) :
  SE X b G .val (.Call (.Attribute o "join" apos) [e] [] cpos) (b2 vO fo f) :=
 JD PySem.F.slot_str_join PySem.F.type_str_join PySem.F.plainAttrs_str (r := rJoin b.C.K) (by rw [← hK]; exact Kh) Kr (fun x y p e => by
  unfold vO at e
  split at e
  ·exact ⟨_, rfl⟩
  ·cases e) ho h hbase hfew hline hs
theorem HW {apos cpos : Pos} {o : Expr} {fo : Env -> Option PV} (ho : SE X b G m1 o fo) (h : SE X b G m2 e f) (hbase : attributeBase o "split" X.env (eval o X.env) = eval o X.env := by rfl)
  (hfew : ((backTo cpos (starEach [e] X.env)).all (fun x => !x.1) && (backToKw cpos (keywordEach [] X.env)).all (fun x => x.1.isSome)
   && decide ([e].length + ([] : List Keyword).length + (if ([] : List Keyword).isEmpty then 0 else 1) < 30)) = true := by rfl)
  (hline : (apos.endLine == cpos.line) = true := by rfl) (hs : starEach [e] X.env = (false, eval e X.env) :: starEach [] X.env := by rfl) :
  SE X b G .own (.Call (.Attribute o "split" apos) [e] [] cpos) (b2 sI fo f) :=
 JD PySem.F.slot_str_split PySem.F.type_str_split PySem.F.plainAttrs_str Hz HS (fun x y p e => by
  unfold sI at e
  split at e
  ·exact ⟨_, rfl⟩
  ·cases e) ho h hbase hfew hline hs
def Ret (C : MC) (A : Addr -> Prop) (H : Hp) (ro : Bool) (H' : Hp) (v : V) (p : PV) : Prop := match ro with
 | true => ∃ a, v = .ref a /\ H a = none /\ Top C (fun c => (A c \/ H c = none) /\ c ≠ a) H' a p
 | false => Rep C (fun c => A c \/ H c = none) H' v p
def spM (C : MC) (m : List PV -> Option PV) (ro : Bool) : Sp := fun vs H Q _ => ∃ A ps p, Reps C A H vs ps /\ m ps = some p /\ ∀ v H', Same H H' -> Ret C A H ro H' v p -> Q v H'
def HX : Bool -> Md
 | true => .own
 | false => .val
theorem Ret.res {Ow : Addr -> Prop} {σ : St} {env : Env} {H H1 H' : Hp} {ro : Bool} {v : V} {q : PV} (E : ER b Ow G σ env H) (s : Same H H1) (r : Ret b.C (Bs b Ow) H1 ro H' v q) : Res b Ow H H' (HX ro) v q := by
 cases ro with
 | true =>
  obtain ⟨a, rfl, h, t⟩ := r
  exact ⟨a, rfl, s.free h, t.ex (cU fun c o _ z => ⟨z.1.elim id fun w => (E.up s).fresh w, z.2⟩) fun o z => z⟩
 | false => exact Rep.ex (cU fun c o _ z => z.elim id fun w => (E.up s).fresh w) r
theorem Ci {k j : Nat} {x : Str} {ps : List Str} {mi : List PV -> Option PV} {ro : Bool} (c : Cal X.prog X.w X.K X.mg X.base k x ps (spM b.C mi ro)) (hr : Room j X.A) (ha : SA X b G false (e :: es) g) (hle : k <= j := by decide) (hg : Gl X x := by rfl)
  (hdb : (x == ("__debug__" : Str)) = false := by decide) (he : starEach (e :: es) X.env = (false, eval e X.env) :: starEach es X.env := by rfl) (hpl : (backTo pos (starEach es X.env)).any (·.1) = false := by rfl) :
  SE X b G (HX ro) (.Call (.Name x p) (e :: es) [] pos) (aL mi g) := by
 refine PE.imp (FT c hr ha hle hg hdb he hpl) fun σ H Q ⟨Ow, env, q, E, hf, kk⟩ => ?_
 unfold aL at hf
 cases q1 : g env with
 | none => rw [q1] at hf; cases hf
 | some qs =>
  rw [q1] at hf
  refine ⟨Ow, env, qs, E, q1, fun vs H1 s1 r => ?_⟩
  dsimp only
  rw [List.append_nil]
  exact ⟨Bs b Ow, qs, q, vM r, hf, fun v H' s' rr => kk v H' (s1.trans s') (Ret.res E s1 rr)⟩
mutual
def noL : PV -> Bool
 | .lst _ => false
 | .tup xs => sJ xs
 | .ktp xs => sJ xs
 | .frz xs => sJ xs
 | .dK kvs => Dz kvs
 | .dT kvs => DG kvs
 | .obj _ fs => u9 fs
 | _ => true
def sJ : List PV -> Bool
 | [] => true
 | x :: xs => noL x && sJ xs
def Dz : List (Key × PV) -> Bool
 | [] => true
 | x :: xs => noL x.2 && Dz xs
def DG : List (List Key × PV) -> Bool
 | [] => true
 | x :: xs => noL x.2 && DG xs
def u9 : List (Str × PV) -> Bool
 | [] => true
 | x :: xs => noL x.2 && u9 xs
end
def NL (A A' : Addr -> Prop) (H : Hp) : Prop := ∀ a o, H a = some o -> A a -> A' a \/ ∃ vs, o = .lst vs
mutual
theorem Rep.nl {C : MC} {A A' : Addr -> Prop} {H : Hp} (e : NL A A' H) : ∀ {v : V} {p : PV}, Rep C A H v p -> noL p = true -> Rep C A' H v p
 | _, _, .non, _ => .non
 | _, _, .bl b, _ => .bl b
 | _, _, .int i, _ => .int i
 | _, _, .str x, _ => .str x
 | _, _, .lst h q r, n => by simp only [noL] at n; cases n
 | _, _, .lstF h r, n => .lstF h (Reps.nl e r (by simpa only [noL] using n))
 | _, _, .lstK h r, n => .lstK h (Reps.nl e r (by simpa only [noL] using n))
 | _, _, .tup h r, n => .tup h (Reps.nl e r (by simpa only [noL] using n))
 | _, _, .tupK h r, n => .tupK h (Reps.nl e r (by simpa only [noL] using n))
 | _, _, .dK h q r, n => .dK h ((e _ _ h q).elim id fun ⟨_, z⟩ => nomatch z) (RepK.nl e r (by simpa only [noL] using n))
 | _, _, .dT h q r, n => .dT h ((e _ _ h q).elim id fun ⟨_, z⟩ => nomatch z) (RepT.nl e r (by simpa only [noL] using n))
 | _, _, .obj h q r, n => .obj h ((e _ _ h q).elim id fun ⟨_, z⟩ => nomatch z) (RepF.nl e r (by simpa only [noL] using n))
theorem Reps.nl {C : MC} {A A' : Addr -> Prop} {H : Hp} (e : NL A A' H) : ∀ {v : List V} {p : List PV}, Reps C A H v p -> sJ p = true -> Reps C A' H v p
 | _, _, .nil, _ => .nil
 | _, _, .cons h t, n => by
  simp only [sJ, Bool.and_eq_true] at n
  exact .cons (Rep.nl e h n.1) (Reps.nl e t n.2)
theorem RepK.nl {C : MC} {A A' : Addr -> Prop} {H : Hp} (e : NL A A' H) : ∀ {v : List (Key × V)} {p : List (Key × PV)}, RepK C A H v p -> Dz p = true -> RepK C A' H v p
 | _, _, .nil, _ => .nil
 | _, _, .cons h t, n => by
  simp only [Dz, Bool.and_eq_true] at n
  exact .cons (Rep.nl e h n.1) (RepK.nl e t n.2)
theorem RepT.nl {C : MC} {A A' : Addr -> Prop} {H : Hp} (e : NL A A' H) : ∀ {v : List (List Key × V)} {p : List (List Key × PV)}, RepT C A H v p -> DG p = true -> RepT C A' H v p
 | _, _, .nil, _ => .nil
 | _, _, .cons h t, n => by
  simp only [DG, Bool.and_eq_true] at n
  exact .cons (Rep.nl e h n.1) (RepT.nl e t n.2)
theorem RepF.nl {C : MC} {A A' : Addr -> Prop} {H : Hp} (e : NL A A' H) : ∀ {v : List (Str × V)} {p : List (Str × PV)}, RepF C A H v p -> u9 p = true -> RepF C A' H v p
 | _, _, .nil, _ => .nil
 | _, _, .cons h t, n => by
  simp only [u9, Bool.and_eq_true] at n
  exact .cons (Rep.nl e h n.1) (RepF.nl e t n.2)
end
def NQ (mi : List PV -> Option PV) (g : Env -> Option (List PV)) (env : Env) : Option PV := ((g env).bind mi).bind fun p => if noL p = true then some p else none
@[simp] theorem Q5 (mi : List PV -> Option PV) (g : Env -> Option (List PV)) (env : Env) : NQ mi g env = (((g env).bind mi).bind fun p => if noL p = true then some p else none) := id rfl
def qF (c : Nat) (x : Str) (f : Env -> Option PV) (env : Env) : Option PV := (f env).bind fun p => match p with
 | .obj c' fs => if c' = c then fs.lookup x else none
 | _ => none
@[simp] theorem Sd (c : Nat) (x : Str) (f : Env -> Option PV) (env : Env) : qF c x f env = ((f env).bind fun p => match p with
 | .obj c' fs => if c' = c then fs.lookup x else none
 | _ => none) := id rfl
theorem pQ {c : Nat} {x : Str} (hc : Cls b.C.K (b.C.cl c)) (hn : NoAttr b.C.K (b.C.cl c) x) (h : SE X b G m e f) (hb : attributeBase e x X.env (eval e X.env) = eval e X.env := by rfl) (hK : X.K = b.C.K := by rfl) : SE X b G .val (.Attribute e x pos) (qF c x f) :=
 PE.imp (Mx h.bor hb) fun σ H Q ⟨Ow, env, p, E, hf, k⟩ => by
  unfold qF at hf
  cases q1 : f env with
  | none => rw [q1] at hf; cases hf
  | some p1 =>
   rw [q1] at hf
   refine ⟨Ow, env, p1, E, q1, fun v H1 s1 r1 => ?_⟩
   have r1' : RepB b.C (Bs b Ow) H1 v p1 := r1
   cases p1 <;> simp only [Option.bind_some] at hf <;> first | cases hf | skip
   rename_i c' fs
   split at hf
   ·rename_i hcc
    subst hcc
    obtain ⟨a, dx, fv, rfl, ha, ra⟩ := r1'.obj
    obtain ⟨v', hv, rv⟩ := ra.look hf
    rw [hK]
    exact ⟨a, _, dx, fv, v', rfl, ha, hc, hn, hv, k v' H1 s1 rv⟩
   ·cases hf
structure CalM (P : Program) (w : World) (K : PySem.W.Frag) (mg : Str -> Option Value) (base : Heap) (C : Addr) (k : Nat) (x : Str) (ps : List Str) (sp : Sp) : Prop where
 ex : ∃ f fd, FnOk P w K mg base CX0 k f fd ps sp /\ Binds K fd ps [] /\ Meth K C x f
def p8 (c : Nat) (x : Str) (mi : List PV -> Option PV) (f : Env -> Option PV) (g : Env -> Option (List PV)) (env : Env) : Option PV := (f env).bind fun p => match p with
 | .obj c' fs => if c' = c /\ fs.lookup x = none then (g env).bind fun ps => mi (p :: ps) else none
 | _ => none
@[simp] theorem RG (c : Nat) (x : Str) (mi : List PV -> Option PV) (f : Env -> Option PV) (g : Env -> Option (List PV)) (env : Env) : p8 c x mi f g env = ((f env).bind fun p => match p with
 | .obj c' fs => if c' = c /\ fs.lookup x = none then (g env).bind fun ps => mi (p :: ps) else none
 | _ => none) := id rfl
theorem Ku {c k j : Nat} {o : Expr} {fo : Env -> Option PV} {x : Str} {ps : List Str} {mi : List PV -> Option PV} {ro : Bool} {apos : Pos} (cM : CalM X.prog X.w X.K X.mg X.base (b.C.cl c) k x ps (spM b.C mi ro)) (hc : Cls X.K (b.C.cl c)) (hr : Room j X.A) (ho : SE X b G .val o fo) (ha : SA X b G false (e :: es) g) (hle : k <= j := by decide)
  (hst : starEach (e :: es) X.env = (false, eval e X.env) :: starEach es X.env := by rfl) (hpl : (backTo pos (starEach es X.env)).any (·.1) = false := by rfl) {pl : Sem Bool}
  (ht : eval (.Call (.Attribute o x apos) (e :: es) [] pos) X.env = (do
   let ov ← eval o X.env
   standAt apos.atName
   let (f, first) ← holding [ov] (getMethod ov x pl)
   callWith pos f first (backTo pos (starEach (e :: es) X.env)) (backToKw pos (keywordEach [] X.env))) := by rfl) :
  SE X b G (HX ro) (.Call (.Attribute o x apos) (e :: es) [] pos) (p8 c x mi fo g) := by
 obtain ⟨f, fd, F, hb, hM⟩ := cM.ex
 refine PE.imp (J3 (pl := pl) ho hc hM F (hr.mono hle) hb .nil Dn ha hst hpl ht) fun σ H Q ⟨Ow, env, q, E, hf, kk⟩ => ?_
 unfold p8 at hf
 cases q1 : fo env with
 | none => rw [q1] at hf; cases hf
 | some p1 =>
  rw [q1] at hf
  refine ⟨Ow, env, p1, E, q1, fun v H1 s1 r1 => ?_⟩
  have r1v : Rep b.C (Bs b Ow) H1 v p1 := r1
  cases p1 <;> simp only [Option.bind_some] at hf <;> first | cases hf | skip
  rename_i c' fs
  split at hf
  ·rename_i hcc
   obtain ⟨rfl, hno⟩ := hcc
   cases q2 : g env with
   | none => rw [q2] at hf; cases hf
   | some qs =>
    rw [q2] at hf
    obtain ⟨a, dx, fv, rfl, hha, ra⟩ := RepB.obj (.inl r1v)
    refine ⟨a, dx, fv, rfl, hha, ra.look0 hno, Ow, env, qs, E.up s1, q2, fun vs H2 s2 r2 => ?_⟩
    dsimp only
    rw [List.append_nil]
    exact ⟨Bs b Ow, _ :: qs, q, .cons (r1v.ex (.of_same s2)) (vM r2), hf, fun v' H' s' rr => kk v' H' (s1.trans (s2.trans s')) (Ret.res E (s1.trans s2) rr)⟩
  ·cases hf
theorem aJ {k j : Nat} {x : Str} {ps : List Str} {mi : List PV -> Option PV} (c : Cal X.prog X.w X.K X.mg X.base k x ps (spM b.C mi false)) (hr : Room j X.A) (ha : SA X b G false (e :: es) g) (hle : k <= j := by decide) (hg : Gl X x := by rfl)
  (hdb : (x == ("__debug__" : Str)) = false := by decide) (he : starEach (e :: es) X.env = (false, eval e X.env) :: starEach es X.env := by rfl) (hpl : (backTo pos (starEach es X.env)).any (·.1) = false := by rfl) :
  SE X b G .val (.Call (.Name x p) (e :: es) [] pos) (aL mi g) := Ci c hr ha hle hg hdb he hpl
theorem HY {k j : Nat} {x : Str} {ps : List Str} {mi : List PV -> Option PV} (c : Cal X.prog X.w X.K X.mg X.base k x ps (spM b.C mi true)) (hr : Room j X.A) (ha : SA X b G false (e :: es) g) (hle : k <= j := by decide) (hg : Gl X x := by rfl)
  (hdb : (x == ("__debug__" : Str)) = false := by decide) (he : starEach (e :: es) X.env = (false, eval e X.env) :: starEach es X.env := by rfl) (hpl : (backTo pos (starEach es X.env)).any (·.1) = false := by rfl) :
  SE X b G .own (.Call (.Name x p) (e :: es) [] pos) (aL mi g) := Ci c hr ha hle hg hdb he hpl
theorem qZ {c k j : Nat} {o : Expr} {fo : Env -> Option PV} {x : Str} {ps : List Str} {mi : List PV -> Option PV} {apos : Pos} (cM : CalM X.prog X.w X.K X.mg X.base (b.C.cl c) k x ps (spM b.C mi false)) (hc : Cls X.K (b.C.cl c)) (hr : Room j X.A) (ho : SE X b G .val o fo) (ha : SA X b G false (e :: es) g) (hle : k <= j := by decide)
  (hst : starEach (e :: es) X.env = (false, eval e X.env) :: starEach es X.env := by rfl) (hpl : (backTo pos (starEach es X.env)).any (·.1) = false := by rfl) {pl : Sem Bool}
  (ht : eval (.Call (.Attribute o x apos) (e :: es) [] pos) X.env = (do
   let ov ← eval o X.env
   standAt apos.atName
   let (f, first) ← holding [ov] (getMethod ov x pl)
   callWith pos f first (backTo pos (starEach (e :: es) X.env)) (backToKw pos (keywordEach [] X.env))) := by rfl) :
  SE X b G .val (.Call (.Attribute o x apos) (e :: es) [] pos) (p8 c x mi fo g) := Ku (pl := pl) cM hc hr ho ha hle hst hpl ht
end
end MR
namespace MR
open PySem L2
section
variable {b : BX} {Ow : Addr -> Prop} {G : List Nat} {σ : St} {env : Env} {H H' : Hp}
theorem ER.set (E : ER b Ow G σ env H) {i : Nat} {v : V} {p : PV} (hi : i ∉ G) (r : Rep b.C (Bs b Ow) H v p) (hx : b.fx i = none) : ER b Ow G (σ.set i (some v)) (env.set i (some p)) H := by
 refine ⟨by rw [List.length_set, List.length_set]; exact E.len, E.same, E.live, E.new, fun j q e n => ?_, fun j q e n => ?_, fun j k a q q' e1 n1 s1 e2 n2 s2 => ?_, fun k w hw => ?_⟩
 ·by_cases hj : i = j
  ·subst hj
   rw [List.getElem?_set] at e
   split at e
   ·split at e
    ·rename_i hl
     have := Option.some.inj (Option.some.inj e)
     subst this
     exact ⟨v, by rw [List.getElem?_set_self (by rw [E.len]; exact hl)], r⟩
    ·cases e
   ·exact absurd rfl ‹_›
  ·rw [List.getElem?_set_ne hj] at e ⊢
   exact E.val j q e n
 ·have hj : i ≠ j := fun z => hi (z ▸ n)
  rw [List.getElem?_set_ne hj] at e ⊢
  exact E.own j q e n
 ·have hj : i ≠ j := fun z => hi (z ▸ n1)
  have hk : i ≠ k := fun z => hi (z ▸ n2)
  rw [List.getElem?_set_ne hj] at e1 s1
  rw [List.getElem?_set_ne hk] at e2 s2
  exact E.sep j k a q q' e1 n1 s1 e2 n2 s2
 ·by_cases hk : i = k
  ·subst hk; rw [hx] at hw; cases hw
  ·rw [List.getElem?_set_ne hk]; exact E.fix k w hw
theorem ER.setO (E : ER b Ow G σ env H) {i : Nat} {a : Addr} {p : PV} {H0 : Hp} {G' : List Nat} (hG : ∀ j, j ∈ G' ↔ (j ∈ G \/ j = i)) (s0 : Same H0 H) (hn : H0 a = none) (hE0 : ER b Ow G σ env H0) (t : Top b.C (fun c => Bs b Ow c /\ c ≠ a) H a p) (hx : b.fx i = none) :
  ER b (fun c => Ow c \/ c = a) G' (σ.set i (some (.ref a))) (env.set i (some p)) H /\ Ex (Bs b Ow) H0 (Bs b fun c => Ow c \/ c = a) H := by
 have hx0 : Ex (Bs b Ow) H0 (Bs b fun c => Ow c \/ c = a) H := fun c o h => ⟨fun q => ⟨s0 _ _ h, fun z => z.elim q.1 (bh h hn), q.2⟩, fun _ => s0 _ _ h⟩
 have ht : Top b.C (Bs b fun c => Ow c \/ c = a) H a p := t.ex (cU fun c o _ q => ⟨fun z => z.elim q.1.1 q.2, q.1.2⟩) fun o z => z
 refine ⟨⟨by rw [List.length_set, List.length_set]; exact E.len, E.same, fun c w => w.elim (E.live c) fun z => by subst z; obtain ⟨o, h, _⟩ := t.live; exact ⟨o, h⟩, fun c w => w.elim (E.new c) fun z => by subst z; exact hE0.same.free hn, fun j q e n => ?_, fun j q e n => ?_, fun j k c q q' e1 n1 s1 e2 n2 s2 => ?_, fun k w hw => ?_⟩, hx0⟩
 ·have hj : i ≠ j := fun z => n ((hG j).mpr (.inr z.symm))
  rw [List.getElem?_set_ne hj] at e ⊢
  obtain ⟨v, h1, h2⟩ := hE0.val j q e fun z => n ((hG j).mpr (.inl z))
  exact ⟨v, h1, h2.ex hx0⟩
 ·by_cases hj : i = j
  ·subst hj
   rw [List.getElem?_set] at e
   split at e
   ·split at e
    ·rename_i hl
     have := Option.some.inj (Option.some.inj e)
     subst this
     exact ⟨a, by rw [List.getElem?_set_self (by rw [E.len]; exact hl)], .inr rfl, ht⟩
    ·cases e
   ·exact absurd rfl ‹_›
  ·rw [List.getElem?_set_ne hj] at e ⊢
   have nG : j ∈ G := ((hG j).mp n).elim id fun z => absurd z.symm hj
   obtain ⟨c, h1, h2, h3⟩ := hE0.own j q e nG
   exact ⟨c, h1, .inl h2, h3.ex hx0 fun o z => s0 _ _ z⟩
 ·have old : ∀ {j : Nat} {q : PV}, i ≠ j -> j ∈ G' -> env[j]? = some (some q) -> σ[j]? = some (some (.ref c)) -> c ≠ a := fun {j q} hj n e s => by
   have nG : j ∈ G := ((hG j).mp n).elim id fun z => absurd z.symm hj
   obtain ⟨c', h1, h2, h3⟩ := hE0.own j q e nG
   rw [s] at h1
   cases h1
   obtain ⟨o, h4, _⟩ := h3.live
   exact bh h4 hn
  by_cases hj : i = j
  ·by_cases hk : i = k
   ·exact hj.symm.trans hk
   ·subst hj
    rw [List.getElem?_set_ne hk] at e2 s2
    have hl : i < σ.length := by
     by_cases hl : i < σ.length
     ·exact hl
     ·rw [List.getElem?_eq_none (by rw [List.length_set]; omega)] at s1; cases s1
    rw [List.getElem?_set_self hl] at s1
    cases s1
    exact absurd rfl (old hk n2 e2 s2)
  ·by_cases hk : i = k
   ·subst hk
    rw [List.getElem?_set_ne hj] at e1 s1
    have hl : i < σ.length := by
     by_cases hl : i < σ.length
     ·exact hl
     ·rw [List.getElem?_eq_none (by rw [List.length_set]; omega)] at s2; cases s2
    rw [List.getElem?_set_self hl] at s2
    cases s2
    exact absurd rfl (old hj n1 e1 s1)
   ·rw [List.getElem?_set_ne hj] at e1 s1
    rw [List.getElem?_set_ne hk] at e2 s2
    have g1 : j ∈ G := ((hG j).mp n1).elim id fun z => absurd z.symm hj
    have g2 : k ∈ G := ((hG k).mp n2).elim id fun z => absurd z.symm hk
    exact E.sep j k c q q' e1 g1 s1 e2 g2 s2
 ·by_cases hk : i = k
  ·subst hk; rw [hx] at hw; cases hw
  ·rw [List.getElem?_set_ne hk]; exact E.fix k w hw
theorem ER.write (E : ER b Ow G σ env H) {i : Nat} {a : Addr} {p p' : PV} {o' : HO} (hi : i ∈ G) (hσ : σ[i]? = some (some (.ref a))) (he : env[i]? = some (some p)) (hw : Ow a) (t : Top b.C (Bs b Ow) H a p) (t' : Top b.C (Bs b Ow) (upd H a o') a p') :
  ER b Ow G σ (env.set i (some p')) (upd H a o') /\ Ex (Bs b Ow) H (Bs b Ow) (upd H a o') := by
 obtain ⟨o, ho, hm⟩ := t.live
 have hx : Ex (Bs b Ow) H (Bs b Ow) (upd H a o') := fun c u h => ⟨fun q => ⟨by rw [aW (fun z : c = a => q.1 (z ▸ hw))]; exact h, q⟩, fun m => by
  have hc : c ≠ a := fun z => by subst z; rw [ho] at h; cases h; rw [hm] at m; cases m
  rw [aW hc]; exact h⟩
 refine ⟨⟨by rw [List.length_set]; exact E.len, fun c u h => ?_, fun c w => ?_, E.new, fun j q e n => ?_, fun j q e n => ?_, fun j k c q q' e1 n1 s1 e2 n2 s2 => ?_, E.fix⟩, hx⟩
 ·have hc : c ≠ a := bh h (E.new a hw)
  rw [aW hc]; exact E.same c u h
 ·by_cases hc : c = a
  ·subst hc; exact ⟨o', bO⟩
  ·obtain ⟨u, h⟩ := E.live c w
   exact ⟨u, by rw [aW hc]; exact h⟩
 ·have hj : i ≠ j := fun z => n (z ▸ hi)
  rw [List.getElem?_set_ne hj] at e
  obtain ⟨v, h1, h2⟩ := E.val j q e n
  exact ⟨v, h1, h2.ex hx⟩
 ·by_cases hj : i = j
  ·subst hj
   rw [List.getElem?_set] at e
   split at e
   ·split at e
    ·have := Option.some.inj (Option.some.inj e)
     subst this
     exact ⟨a, hσ, hw, t'⟩
    ·cases e
   ·exact absurd rfl ‹_›
  ·rw [List.getElem?_set_ne hj] at e
   obtain ⟨c, h1, h2, h3⟩ := E.own j q e n
   have hc : c ≠ a := fun z => by subst z; exact hj (E.sep i j c p q he hi hσ e n h1)
   exact ⟨c, h1, h2, h3.ex hx fun u z => by rw [aW hc]; exact z⟩
 ·have back : ∀ {j : Nat} {q : PV}, (env.set i (some p'))[j]? = some (some q) -> ∃ q, env[j]? = some (some q) := fun {j q} e => by
   by_cases hj : i = j
   ·subst hj; exact ⟨p, he⟩
   ·rw [List.getElem?_set_ne hj] at e; exact ⟨q, e⟩
  obtain ⟨r1, e1'⟩ := back e1
  obtain ⟨r2, e2'⟩ := back e2
  exact E.sep j k c r1 r2 e1' n1 s1 e2' n2 s2
theorem ER.weak {G' : List Nat} (E : ER b Ow G σ env H) (h : ∀ j, j ∈ G' -> j ∈ G) : ∃ Ow', ER b Ow' G' σ env H /\ Ex (Bs b Ow) H (Bs b Ow') H := by
 refine ⟨fun a => Ow a /\ ∃ j q, j ∈ G' /\ env[j]? = some (some q) /\ σ[j]? = some (some (.ref a)), ?_⟩
 have hx : Ex (Bs b Ow) H (Bs b fun a => Ow a /\ ∃ j q, j ∈ G' /\ env[j]? = some (some q) /\ σ[j]? = some (some (.ref a))) H := cU fun c o _ q => ⟨fun z => q.1 z.1, q.2⟩
 refine ⟨⟨E.len, E.same, fun a w => E.live a w.1, fun a w => E.new a w.1, fun i p e n => ?_, fun i p e n => ?_, fun i j a p q e1 n1 s1 e2 n2 s2 => E.sep i j a p q e1 (h i n1) s1 e2 (h j n2) s2, E.fix⟩, hx⟩
 ·by_cases hi : i ∈ G
  ·obtain ⟨a, h1, h2, h3⟩ := E.own i p e hi
   refine ⟨_, h1, (h3.ex hx fun o z => z).rep ⟨fun z => ?_, .inr (E.new a h2)⟩⟩
   obtain ⟨_, j, q, hj, e', s'⟩ := z
   have := E.sep i j a p q e hi h1 e' (h j hj) s'
   subst this
   exact n hj
  ·obtain ⟨v, h1, h2⟩ := E.val i p e hi
   exact ⟨v, h1, h2.ex hx⟩
 ·obtain ⟨a, h1, h2, h3⟩ := E.own i p e (h i n)
  exact ⟨a, h1, ⟨h2, i, p, n, e, h1⟩, h3.ex hx fun o z => z⟩
theorem ER.forget (E : ER b Ow G σ env H) (i : Nat) : ER b Ow G σ (env.set i none) H := by
 have back : ∀ {j : Nat} {q : PV}, (env.set i none)[j]? = some (some q) -> env[j]? = some (some q) := fun {j q} e => by
  by_cases hj : i = j
  ·subst hj
   rw [List.getElem?_set] at e
   split at e
   ·split at e <;> cases e
   ·exact absurd rfl ‹_›
  ·rw [List.getElem?_set_ne hj] at e; exact e
 exact ⟨by rw [List.length_set]; exact E.len, E.same, E.live, E.new, fun j q e n => E.val j q (back e) n, fun j q e n => E.own j q (back e) n, fun j k a q q' e1 n1 s1 e2 n2 s2 => E.sep j k a q q' (back e1) n1 s1 (back e2) n2 s2, E.fix⟩
@[simp] def clr : List Nat -> Env -> Env
 | [], env => env
 | i :: r, env => clr r (env.set i none)
theorem ER.clr : ∀ {ds : List Nat} {env : Env}, ER b Ow G σ env H -> ER b Ow G σ (clr ds env) H
 | [], _, E => E
 | i :: r, env, E => ER.clr (ds := r) (E.forget i)
end
inductive Out where
 | nx (e : Env) | bk (e : Env) | ct (e : Env) | rt (p : PV)
def Post (b : BX) (Ow : Addr -> Prop) (H : Hp) (G L : List Nat) (ro : Bool) (D : Ends) : Out -> Prop
 | .nx e => ∀ Ow' σ' H', ER b Ow' G σ' e H' -> Ex (Bs b Ow) H (Bs b Ow') H' -> D.nx σ' H'
 | .bk e => ∀ Ow' σ' H', ER b Ow' L σ' e H' -> Ex (Bs b Ow) H (Bs b Ow') H' -> D.bk σ' H'
 | .ct e => ∀ Ow' σ' H', ER b Ow' L σ' e H' -> Ex (Bs b Ow) H (Bs b Ow') H' -> D.ct σ' H'
 | .rt p => ∀ v H', Same b.H0 H' -> Ret b.C b.A b.H0 ro H' v p -> D.rt v H'
def tS (b : BX) (G G' L : List Nat) (ro : Bool) (f : Env -> Option Out) : TS := fun D σ H => ∃ Ow env out, ER b Ow G σ env H /\ f env = some out /\ Post b Ow H G' L ro D out
abbrev SS (X : Cx) (b : BX) (G G' L : List Nat) (ro : Bool) (st : Stmt) (f : Env -> Option Out) : Prop := PS X st (tS b G G' L ro f)
abbrev SSs (X : Cx) (b : BX) (G G' L : List Nat) (ro : Bool) (st : List Stmt) (f : Env -> Option Out) : Prop := PSs X st (tS b G G' L ro f)
theorem PSs.imp {X : Cx} {e : List Stmt} {t u : TS} (h : PSs X e t) (i : ∀ D σ H, u D σ H -> t D σ H) : PSs X e u := fun pins s σ H D I q => h pins s σ H D I (i D σ H q)
theorem PS.or {X : Cx} {e : Stmt} {t u : TS} (h : PS X e t) (h' : PS X e u) : PS X e (fun D σ H => t D σ H \/ u D σ H) := fun pins s σ H D I q => q.elim (h pins s σ H D I) (h' pins s σ H D I)
theorem Post.ex {b : BX} {Ow Ow1 : Addr -> Prop} {H H1 : Hp} {G L : List Nat} {ro : Bool} {D : Ends} {o : Out} (e : Ex (Bs b Ow) H (Bs b Ow1) H1) (h : Post b Ow H G L ro D o) : Post b Ow1 H1 G L ro D o := by
 cases o with
 | nx e' => exact fun Ow' σ' H' E x => h Ow' σ' H' E (e.trans x)
 | bk e' => exact fun Ow' σ' H' E x => h Ow' σ' H' E (e.trans x)
 | ct e' => exact fun Ow' σ' H' E x => h Ow' σ' H' E (e.trans x)
 | rt p => exact h
def sNx (env : Env) : Option Out := some (.nx env)
@[simp] theorem SM (env : Env) : sNx env = (some (.nx env)) := id rfl
def sBk (env : Env) : Option Out := some (.bk env)
@[simp] theorem SN (env : Env) : sBk env = (some (.bk env)) := id rfl
def sCt (env : Env) : Option Out := some (.ct env)
@[simp] theorem SQ (env : Env) : sCt env = (some (.ct env)) := id rfl
def sNo (env : Env) : Option Out := none
@[simp] theorem SX (env : Env) : sNo env = (none) := id rfl
def aH (f g : Env -> Option Out) (env : Env) : Option Out := (f env).bind fun o => match o with | .nx e => g e | o => some o
@[simp] theorem Sg (f g : Env -> Option Out) (env : Env) : aH f g env = ((f env).bind fun o => match o with | .nx e => g e | o => some o) := id rfl
def aK (i : Nat) (f : Env -> Option PV) (env : Env) : Option Out := (f env).bind fun p => some (.nx (env.set i (some p)))
@[simp] theorem Cj (i : Nat) (f : Env -> Option PV) (env : Env) : aK i f env = ((f env).bind fun p => some (.nx (env.set i (some p)))) := id rfl
def aQ (f : Env -> Option PV) (env : Env) : Option Out := (f env).bind fun p => some (.rt p)
@[simp] theorem Ck (f : Env -> Option PV) (env : Env) : aQ f env = ((f env).bind fun p => some (.rt p)) := id rfl
def sIf (c : Env -> Option Bool) (f g : Env -> Option Out) (env : Env) : Option Out := (c env).bind fun k => if k = true then f env else g env
@[simp] theorem NT (c : Env -> Option Bool) (f g : Env -> Option Out) (env : Env) : sIf c f g env = ((c env).bind fun k => if k = true then f env else g env) := id rfl
def yZ (f : Env -> Option PV) (env : Env) : Option Out := (f env).bind fun _ => some (.nx env)
@[simp] theorem RJ (f : Env -> Option PV) (env : Env) : yZ f env = ((f env).bind fun _ => some (.nx env)) := id rfl
def dH (g : PV -> PV -> Option PV) (i : Nat) (f : Env -> Option PV) (env : Env) : Option Out := (bV i env).bind fun x => (f env).bind fun p => (g x p).bind fun y => some (.nx (env.set i (some y)))
@[simp] theorem RK (g : PV -> PV -> Option PV) (i : Nat) (f : Env -> Option PV) (env : Env) : dH g i f env = ((bV i env).bind fun x => (f env).bind fun p => (g x p).bind fun y => some (.nx (env.set i (some y)))) := id rfl
def QC (g : PV -> Option PV) (i : Nat) (env : Env) : Option Out := (bV i env).bind fun x => (g x).bind fun y => some (.nx (env.set i (some y)))
@[simp] theorem RL (g : PV -> Option PV) (i : Nat) (env : Env) : QC g i env = ((bV i env).bind fun x => (g x).bind fun y => some (.nx (env.set i (some y)))) := id rfl
def y_ (g : PV -> PV -> PV -> Option PV) (i : Nat) (f h : Env -> Option PV) (env : Env) : Option Out := (bV i env).bind fun x => (f env).bind fun p => (h env).bind fun q => (g x p q).bind fun y => some (.nx (env.set i (some y)))
@[simp] theorem RM (g : PV -> PV -> PV -> Option PV) (i : Nat) (f h : Env -> Option PV) (env : Env) : y_ g i f h env = ((bV i env).bind fun x => (f env).bind fun p => (h env).bind fun q => (g x p q).bind fun y => some (.nx (env.set i (some y)))) := id rfl
@[simp] def mQ : PV -> PV -> Option PV
 | .lst xs, p => if xs.length < 1000000 then some (.lst (xs ++ [p])) else none
 | _, _ => none
@[simp] def S5 : PV -> Option PV
 | .lst _ => some (.lst [])
 | _ => none
@[simp] def Tt : PV -> Option PV
 | .lst xs => some (.lst xs.reverse)
 | _ => none
def lu {κ : Type} [DecidableEq κ] (kvs : List (κ × PV)) (k : κ) (v : PV) : List (κ × PV) :=
 if (kvs.any fun kv => decide (kv.1 = k)) = true then kvs.map (fun kv => if kv.1 = k then (kv.1, v) else kv) else kvs ++ [(k, v)]
@[simp] def DK : PV -> PV -> PV -> Option PV
 | .dK kvs, k, v => (keyOf k).bind fun k => if kvs.length < 1000000 then some (.dK (lu kvs k v)) else none
 | .dT kvs, .tup ks, v => (keysOf ks).bind fun k => if kvs.length < 1000000 then some (.dT (lu kvs k v)) else none
 | .lst xs, .int i, v => (ixN xs.length i).map fun j => .lst (xs.set j v)
 | _, _, _ => none
def pF (f : Str) (v : PV) : List (Str × PV) -> List (Str × PV)
 | [] => [(f, v)]
 | (g, x) :: r => if g = f then (g, v) :: r else (g, x) :: pF f v r
@[simp] def fsV (c : Nat) (x : Str) : PV -> PV -> Option PV
 | .obj c' fs, v => if c' = c /\ fs.length < 1000 then some (.obj c' (pF x v fs)) else none
 | _, _ => none
section
variable {X : Cx} {b : BX} {G G' G1 L : List Nat} {ro : Bool} {st : Stmt} {rest : List Stmt} {f g : Env -> Option Out} {e e1 e2 : Expr} {h h1 h2 : Env -> Option PV} {m m1 m2 : Md} {pos : Pos}
theorem bH : SSs X b G G L ro [] sNx := PSs.imp BV fun D σ H ⟨Ow, env, o, E, hf, k⟩ => by cases hf; exact k Ow σ H E (Ex.refl _ _)
theorem az (a : SS X b G G1 L ro st f) (c : SSs X b G1 G' L ro rest g) : SSs X b G G' L ro (st :: rest) (aH f g) := PSs.imp (nM a c) fun D σ H ⟨Ow, env, o, E, hf, k⟩ => by
 unfold aH at hf
 cases q : f env with
 | none => rw [q] at hf; cases hf
 | some o1 =>
  rw [q] at hf
  refine ⟨Ow, env, o1, E, q, ?_⟩
  cases o1 with
  | nx e' => exact fun Ow' σ' H' E' x => ⟨Ow', e', o, E', hf, k.ex x⟩
  | bk e' => cases hf; exact k
  | ct e' => cases hf; exact k
  | rt p => cases hf; exact k
theorem aB (a : SS X b G G' L ro st f) : SSs X b G G' L ro [st] f := wI a
theorem lH (c : SSs X b G1 G' L ro rest g) (hs : ∀ j, j ∈ G1 -> j ∈ G := by decide) : SSs X b G G' L ro rest g := PSs.imp c fun D σ H ⟨Ow, env, o, E, hf, k⟩ => by
 obtain ⟨Ow', E', x⟩ := E.weak hs
 exact ⟨Ow', env, o, E', hf, k.ex x⟩
theorem NZ : SS X b G G' L ro st sNo := PS.imp Hc fun D σ H ⟨Ow, env, o, E, hf, k⟩ => by cases hf
theorem aD {α β : Type} {x : Option α} {k : α -> Option β} {y : β} (h : x.bind k = some y) : ∃ a, x = some a /\ k a = some y := by
 cases x with
 | none => cases h
 | some a => exact ⟨a, rfl, h⟩
theorem N5 {i : Nat} {D : Ends} {σ : St} {H : Hp} (hi : i ∉ G) (hx : b.fx i = none) (q : tS b G G L ro (aK i h) D σ H) : tM b G .val h σ H fun v H1 => D.nx (σ.set i (some v)) H1 := by
 obtain ⟨Ow, env, o, E, hf, k⟩ := q
 obtain ⟨p, hp, e⟩ := aD hf
 cases e
 exact ⟨Ow, env, p, E, hp, fun v H' s r => k Ow _ H' ((E.up s).set hi r hx) (.of_same s)⟩
theorem QD {i : Nat} {D : Ends} {σ : St} {H : Hp} (hG : ∀ j, j ∈ G' ↔ (j ∈ G \/ j = i)) (hx : b.fx i = none) (q : tS b G G' L ro (aK i h) D σ H) : tM b G .own h σ H fun v H1 => D.nx (σ.set i (some v)) H1 := by
 obtain ⟨Ow, env, o, E, hf, k⟩ := q
 obtain ⟨p, hp, e⟩ := aD hf
 cases e
 refine ⟨Ow, env, p, E, hp, fun v H' s ⟨a, ev, hn, t⟩ => ?_⟩
 subst ev
 obtain ⟨E', x⟩ := (E.up s).setO hG s hn E t hx
 exact k _ _ H' E' x
theorem bc (i : Nat) {x : Str} {pos' : Pos} (nd : X.N.Nodup) (he : SE X b G .val e h) (hG : i ∉ G := by decide) (hx : b.fx i = none := by first | rfl | assumption) (hi : X.N[i]? = some x := by rfl) (hl : Loc X.env.scope x := by first | exact Or.inl rfl | exact Or.inr rfl)
  (hs : swapsWith e (some (.Name x pos')) pos.line X.env = pure false := by rfl) (hf : X.fn x = true \/ X.env.scope.names.lookup x = some .local := by first | exact .inl rfl | exact .inr rfl | assumption) : SS X b G G L ro (.Assign [.Name x pos'] e pos) (aK i h) :=
 PS.imp (zq nd hi hl he hs hf) fun D σ H q => N5 hG hx q
theorem iY (i : Nat) {x : Str} {pos' : Pos} (nd : X.N.Nodup) (he : SE X b G .own e h) (hG : i ∈ G := by decide) (hx : b.fx i = none := by first | rfl | assumption) (hi : X.N[i]? = some x := by rfl) (hl : Loc X.env.scope x := by first | exact Or.inl rfl | exact Or.inr rfl)
  (hs : swapsWith e (some (.Name x pos')) pos.line X.env = pure false := by rfl) (hf : X.fn x = true \/ X.env.scope.names.lookup x = some .local := by first | exact .inl rfl | exact .inr rfl | assumption) : SS X b G G L ro (.Assign [.Name x pos'] e pos) (aK i h) :=
 PS.imp (zq nd hi hl he hs hf) fun D σ H q => QD (fun j => ⟨.inl, fun z => z.elim id fun y => y ▸ hG⟩) hx q
theorem aU (he : SE X b G .val e h) : SS X b G G' L false (.Return (some e) pos) (aQ h) := PS.imp (zp he) fun D σ H ⟨Ow, env, o, E, hf, k⟩ => by
 obtain ⟨p, hp, z1⟩ := aD hf
 clear hf
 cases z1
 exact ⟨Ow, env, p, E, hp, fun v H' s r => k v H' (E.same.trans s) (Rep.ex (cU fun c o _ q => q.2) r)⟩
theorem N6 (he : SE X b G .own e h) : SS X b G G' L true (.Return (some e) pos) (aQ h) := PS.imp (zp he) fun D σ H ⟨Ow, env, o, E, hf, k⟩ => by
 obtain ⟨p, hp, z1⟩ := aD hf
 clear hf
 cases z1
 exact ⟨Ow, env, p, E, hp, fun v H' s ⟨a, ev, hn, t⟩ => k v H' (E.same.trans s) ⟨a, ev, E.same.free hn, t.ex (cU fun c o _ q => ⟨q.1.2, q.2⟩) fun o z => z⟩⟩
theorem cR {c : Expr} {k : Env -> Option Bool} {sa sb : List Stmt} (hc : ST X b G c k) (ha : SSs X b G G' L ro sa f) (hb : SSs X b G G' L ro sb g) : SS X b G G' L ro (.If c sa sb pos) (sIf k f g) := PS.imp (Jp hc ha hb) fun D σ H ⟨Ow, env, o, E, hf, kk⟩ => by
 obtain ⟨p, hp, z1⟩ := aD hf
 clear hf
 refine ⟨Ow, env, p, E, hp, fun H' s => ?_⟩
 cases p with
 | true => exact Dp ⟨Ow, env, o, E.up s, z1, kk.ex (.of_same s)⟩
 | false => exact Do ⟨Ow, env, o, E.up s, z1, kk.ex (.of_same s)⟩
theorem N7 (he : SE X b G m e h) (hs : swapsWith e none pos.line X.env = pure false := by rfl) : SS X b G G L ro (.Expr e pos) (yZ h) := PS.imp (wJ he.bor hs) fun D σ H ⟨Ow, env, o, E, hf, k⟩ => by
 obtain ⟨p, hp, z1⟩ := aD hf
 clear hf
 cases z1
 exact ⟨Ow, env, p, E, hp, fun v H' s r => k Ow σ H' (E.up s) (.of_same s)⟩
theorem mR (i : Nat) {x : Str} {p1 apos cpos : Pos} (he : SE X b G .val e h) (hi : i ∈ G := by decide) (hN : X.N[i]? = some x := by rfl) (hv : Vis X.env.scope x := by first | exact Or.inl rfl | exact Or.inr (Or.inl rfl) | exact Or.inr (Or.inr rfl)) (hd : (x == ("__debug__" : Str)) = false := by decide)
  (hcd : (x == ("__classdict__" : Str)) = false := by decide) (hbase : attributeBase (.Name x p1) "append" X.env (eval (.Name x p1) X.env) = eval (.Name x p1) X.env := by rfl)
  (hfew : ((backTo cpos (starEach [e] X.env)).all (fun x => !x.1) && (backToKw cpos (keywordEach [] X.env)).all (fun x => x.1.isSome)
   && decide ([e].length + ([] : List Keyword).length + (if ([] : List Keyword).isEmpty then 0 else 1) < 30)) = true := by rfl)
  (hline : (apos.endLine == cpos.line) = true := by rfl) (hs : starEach [e] X.env = (false, eval e X.env) :: starEach [] X.env := by rfl) :
  SS X b G G L ro (.Expr (.Call (.Attribute (.Name x p1) "append" apos) [e] [] cpos) pos) (dH mQ i h) :=
 PS.imp (wJ (Dm PySem.F.plainAttrs_list PySem.F.slot_list_append PySem.F.type_list_append rW (oR hN hv hd hcd) (fL he jJ hs) hbase hfew hline hs rfl)) fun D σ H ⟨Ow, env, o, E, hf, k⟩ => by
  obtain ⟨px, hpx, z1⟩ := aD hf
  clear hf
  obtain ⟨p, hp, z2⟩ := aD z1
  clear z1
  obtain ⟨y, hy, z3⟩ := aD z2
  clear z2
  cases z3
  obtain ⟨a, ea, w, t⟩ := E.own i px (kh hpx) hi
  cases px <;> simp only [mQ] at hy <;> first | cases hy | skip
  rename_i xs
  split at hy
  ·rename_i hl
   cases hy
   obtain ⟨vs, ha, ra⟩ := id t
   refine ⟨_, ea, .inl ⟨rfl, _, SqL.of ha⟩, Ow, env, p, E, hp, fun v H' s r => ?_⟩
   refine ⟨a, vs, v, rfl, rfl, s _ _ ha, nP (by rw [ra.length]; omega), ?_⟩
   have ra' : Reps b.C (Bs b Ow) (upd H' a (.lst (vs ++ [v]))) (vs ++ [v]) (xs ++ [p]) := by
    refine (ra.ex (.of_same s)).append (.cons r .nil) |>.ex fun c o h => ⟨fun q => ⟨by rw [aW (fun z : c = a => q.1 (z ▸ w))]; exact h, q⟩, fun m => ?_⟩
    have hc : c ≠ a := fun z => by subst z; rw [s _ _ ha] at h; cases h; cases m
    rw [aW hc]; exact h
   obtain ⟨E', x⟩ := (E.up s).write hi ea (kh hpx) w (t.ex (.of_same s) fun o z => s _ _ z) (o' := .lst (vs ++ [v])) (p' := .lst (xs ++ [p])) ⟨_, bO, ra'⟩
   exact k Ow σ _ E' ((Ex.of_same s).trans x)
  ·cases hy
theorem RepK.put {C : MC} {A : Addr -> Prop} {H : Hp} {k : Key} {v : V} {p : PV} (r : Rep C A H v p) {kv : List (Key × V)} {kvs : List (Key × PV)} (t : RepK C A H kv kvs) : RepK C A H (putK kv k v) (lu kvs k p) := by
 have hany : ∀ {kv : List (Key × V)} {kvs : List (Key × PV)}, RepK C A H kv kvs -> (kv.any fun x => decide (x.1 = k)) = (kvs.any fun x => decide (x.1 = k)) := by
  intro kv kvs t
  induction kv generalizing kvs with
  | nil => cases t; rfl
  | cons x l ih => cases t with | cons h t => rw [List.any_cons, List.any_cons, ih t]
 have hmap : ∀ {kv : List (Key × V)} {kvs : List (Key × PV)}, RepK C A H kv kvs -> RepK C A H (kv.map fun x => if x.1 = k then (x.1, v) else x) (kvs.map fun x => if x.1 = k then (x.1, p) else x) := by
  intro kv kvs t
  induction kv generalizing kvs with
  | nil => cases t; exact .nil
  | cons x l ih =>
   cases t with
   | cons h t =>
    rw [List.map_cons, List.map_cons]
    rename_i k' v' p' ps'
    by_cases e : k' = k
    ·simp only [e, if_true]; exact .cons r (ih t)
    ·simp only [e, if_false]; exact .cons h (ih t)
 have happ : ∀ {kv : List (Key × V)} {kvs : List (Key × PV)}, RepK C A H kv kvs -> RepK C A H (kv ++ [(k, v)]) (kvs ++ [(k, p)]) := by
  intro kv kvs t
  induction kv generalizing kvs with
  | nil => cases t; exact .cons r .nil
  | cons x l ih => cases t with | cons h t => exact .cons h (ih t)
 unfold putK lu
 rw [hany t]
 split
 ·exact hmap t
 ·exact happ t
theorem RepT.put {C : MC} {A : Addr -> Prop} {H : Hp} {k : List Key} {v : V} {p : PV} (r : Rep C A H v p) {kv : List (List Key × V)} {kvs : List (List Key × PV)} (t : RepT C A H kv kvs) : RepT C A H (putK kv k v) (lu kvs k p) := by
 have hany : ∀ {kv : List (List Key × V)} {kvs : List (List Key × PV)}, RepT C A H kv kvs -> (kv.any fun x => decide (x.1 = k)) = (kvs.any fun x => decide (x.1 = k)) := by
  intro kv kvs t
  induction kv generalizing kvs with
  | nil => cases t; rfl
  | cons x l ih => cases t with | cons h t => rw [List.any_cons, List.any_cons, ih t]
 have hmap : ∀ {kv : List (List Key × V)} {kvs : List (List Key × PV)}, RepT C A H kv kvs -> RepT C A H (kv.map fun x => if x.1 = k then (x.1, v) else x) (kvs.map fun x => if x.1 = k then (x.1, p) else x) := by
  intro kv kvs t
  induction kv generalizing kvs with
  | nil => cases t; exact .nil
  | cons x l ih =>
   cases t with
   | cons h t =>
    rw [List.map_cons, List.map_cons]
    rename_i k' v' p' ps'
    by_cases e : k' = k
    ·simp only [e, if_true]; exact .cons r (ih t)
    ·simp only [e, if_false]; exact .cons h (ih t)
 have happ : ∀ {kv : List (List Key × V)} {kvs : List (List Key × PV)}, RepT C A H kv kvs -> RepT C A H (kv ++ [(k, v)]) (kvs ++ [(k, p)]) := by
  intro kv kvs t
  induction kv generalizing kvs with
  | nil => cases t; exact .cons r .nil
  | cons x l ih => cases t with | cons h t => exact .cons h (ih t)
 unfold putK lu
 rw [hany t]
 split
 ·exact hmap t
 ·exact happ t
theorem RepT.length {C : MC} {A : Addr -> Prop} {H : Hp} : ∀ {vs : List (List Key × V)} {ps : List (List Key × PV)}, RepT C A H vs ps -> vs.length = ps.length
 | _, _, .nil => rfl
 | _, _, .cons _ t => by simp [RepT.length t]
theorem RepF.length {C : MC} {A : Addr -> Prop} {H : Hp} : ∀ {vs : List (Str × V)} {ps : List (Str × PV)}, RepF C A H vs ps -> vs.length = ps.length
 | _, _, .nil => rfl
 | _, _, .cons _ t => by simp [RepF.length t]
theorem RepF.put {C : MC} {A : Addr -> Prop} {H : Hp} {k : Str} {v : V} {p : PV} (r : Rep C A H v p) : ∀ {kv : List (Str × V)} {kvs : List (Str × PV)}, RepF C A H kv kvs -> RepF C A H (jr k v kv) (pF k p kvs)
 | _, _, .nil => .cons r .nil
 | _, _, .cons (k := k') h t => by
  unfold jr pF
  split
  ·exact .cons r t
  ·exact .cons h (RepF.put r t)
theorem pR {Ow : Addr -> Prop} {H : Hp} {a : Addr} {o o' : HO} (w : Ow a) (ha : H a = some o) (hm : Dq o = true) : Ex (Bs b Ow) H (Bs b Ow) (upd H a o') := fun c u h => ⟨fun q => ⟨by rw [aW (fun z : c = a => q.1 (z ▸ w))]; exact h, q⟩, fun m => by
 have hc : c ≠ a := fun z => by subst z; rw [ha] at h; cases h; rw [hm] at m; cases m
 rw [aW hc]; exact h⟩
theorem JF (i : Nat) {x : Str} {p1 p2 : Pos} {j : Nat} (hr : Room j X.A) (hk : SE X b G .val e1 h1) (hv' : SE X b G .val e2 h2) (hi : i ∈ G := by decide) (hN : X.N[i]? = some x := by rfl) (hv : Vis X.env.scope x := by first | exact Or.inl rfl | exact Or.inr (Or.inl rfl) | exact Or.inr (Or.inr rfl)) (hd : (x == ("__debug__" : Str)) = false := by decide)
  (hcd : (x == ("__classdict__" : Str)) = false := by decide) (hs : swapsWith e2 (some (.Subscript (.Name x p1) e1 p2)) pos.line X.env = pure false := by rfl) (hs2 : swapsWithSole [.Subscript (.Name x p1) e1 p2] e2 pos.line X.env = pure false := by rfl) (hw : swappedStores [.Subscript (.Name x p1) e1 p2] e2 X.env = pure none := by rfl)
  (ha1 : (assignEach [.Subscript (.Name x p1) e1 p2] X.env).map (·.2) = [assign (.Subscript (.Name x p1) e1 p2) X.env] := by rfl)
  (ha : ∀ v, assign (.Subscript (.Name x p1) e1 p2) X.env v = (do
   let ov ← holding [v] (eval (.Name x p1) X.env)
   let iv ← holding [v, ov] (eval e1 X.env)
   standAt p2
   holding [v, ov, iv] (setItem ov iv v)
   release [v, ov, iv] []) := by intro _; rfl) : SS X b G G L ro (.Assign [.Subscript (.Name x p1) e1 p2] e2 pos) (y_ DK i h1 h2) := by
 refine PS.imp (PS.or (J8 (yS hr) (oR hN hv hd hcd) hk hv' hs) (Mm hv' (Ml (oR hN hv hd hcd) hk set_list ha) hs2 hw ha1)) fun D σ H ⟨Ow, env, o, E, hf, k⟩ => ?_
 obtain ⟨px, hpx, z1⟩ := aD hf
 clear hf
 obtain ⟨pk, hpk, z2⟩ := aD z1
 clear z1
 obtain ⟨pv, hpv, z3⟩ := aD z2
 clear z2
 obtain ⟨y, hy, z4⟩ := aD z3
 clear z3
 cases z4
 obtain ⟨a, ea, w, t⟩ := E.own i px (kh hpx) hi
 have fin : ∀ {H2 : Hp} {o' : HO}, Same H H2 -> Top b.C (Bs b Ow) (upd H2 a o') a y -> D.nx σ (upd H2 a o') := fun {H2 o'} s t' => by
  obtain ⟨E', x⟩ := (E.up s).write hi ea (kh hpx) w (t.ex (.of_same s) fun o z => s _ _ z) t'
  exact k Ow σ _ E' ((Ex.of_same s).trans x)
 unfold DK at hy
 split at hy
 ·obtain ⟨ky, hky, hy⟩ := aD hy
  split at hy
  ·rename_i hl
   cases hy
   obtain ⟨kv, ha, ra⟩ := id t
   refine .inl ⟨Ow, env, pv, E, hpv, fun v H1 s1 r1 => ⟨_, ea, Ow, env, pk, E.up s1, hpk, fun u H2 s2 r2 => ?_⟩⟩
   have s := s1.trans s2
   have eu := RepB.key (.inl r2) hky
   subst eu
   refine ⟨a, _, rfl, DPut.k (s _ _ ha) (nP (by rw [ra.length]; omega)), fin s ⟨_, bO, ?_⟩⟩
   exact (RepK.put (k := ky) (Rep.ex (.of_same s2) r1) (ra.ex (.of_same s))).ex (pR w (s _ _ ha) rfl)
  ·cases hy
 ·obtain ⟨ky, hky, hy⟩ := aD hy
  split at hy
  ·rename_i hl
   cases hy
   obtain ⟨kv, ha, ra⟩ := id t
   refine .inl ⟨Ow, env, pv, E, hpv, fun v H1 s1 r1 => ⟨_, ea, Ow, env, _, E.up s1, hpk, fun u H2 s2 r2 => ?_⟩⟩
   have s := s1.trans s2
   obtain ⟨c, us, rfl, hc, rc⟩ := RepB.tup (.inl r2)
   have hv := rc.keys hky
   subst hv
   refine ⟨a, _, rfl, DPut.t (s _ _ ha) hc (nP (by rw [ra.length]; omega)), fin s ⟨_, bO, ?_⟩⟩
   exact (RepT.put (k := ky) (Rep.ex (.of_same s2) r1) (ra.ex (.of_same s))).ex (pR w (s _ _ ha) rfl)
  ·cases hy
 ·rename_i xs n
  cases q : ixN xs.length n with
  | none => rw [q] at hy; cases hy
  | some jj =>
   rw [q] at hy
   cases hy
   obtain ⟨vs, ha, ra⟩ := id t
   refine .inr ⟨Ow, env, pv, E, hpv, fun v H1 s1 r1 => ⟨_, ea, Ow, env, _, E.up s1, hpk, fun u H2 s2 r2 => ?_⟩⟩
   have s := s1.trans s2
   have eu := RepB.int (.inl r2)
   subst eu
   refine ⟨a, vs, n, jj, rfl, rfl, s _ _ ha, by rw [ra.length]; exact q, fin s ⟨_, bO, ?_⟩⟩
   exact (Reps.set (Rep.ex (.of_same s2) r1) jj (ra.ex (.of_same s))).ex (pR w (s _ _ ha) rfl)
 ·cases hy
theorem p_ (i : Nat) {x y : Str} {p1 p2 : Pos} {c : Nat} (hc : Cls X.K (b.C.cl c)) (hn : NoAttr X.K (b.C.cl c) y) (he : SE X b G .val e h) (hi : i ∈ G := by decide) (hN : X.N[i]? = some x := by rfl) (hv : Vis X.env.scope x := by first | exact Or.inl rfl | exact Or.inr (Or.inl rfl) | exact Or.inr (Or.inr rfl)) (hd : (x == ("__debug__" : Str)) = false := by decide)
  (hcd : (x == ("__classdict__" : Str)) = false := by decide) (hs : swapsWith e (some (.Attribute (.Name x p1) y p2)) pos.line X.env = pure false := by rfl) : SS X b G G L ro (.Assign [.Attribute (.Name x p1) y p2] e pos) (dH (fsV c y) i h) :=
 PS.imp (Mz (oR hN hv hd hcd) he hs) fun D σ H ⟨Ow, env, o, E, hf, k⟩ => by
  obtain ⟨px, hpx, z1⟩ := aD hf
  clear hf
  obtain ⟨p, hp, z2⟩ := aD z1
  clear z1
  obtain ⟨y', hy, z3⟩ := aD z2
  clear z2
  cases z3
  obtain ⟨a, ea, w, t⟩ := E.own i px (kh hpx) hi
  cases px <;> simp only [fsV] at hy <;> first | cases hy | skip
  rename_i c' fs
  split at hy
  ·rename_i hcc
   obtain ⟨rfl, hl⟩ := hcc
   cases hy
   obtain ⟨dx, fv, ha, ra⟩ := id t
   refine ⟨Ow, env, p, E, hp, fun v H1 s r => ⟨_, ea, a, _, dx, fv, rfl, s _ _ ha, hc, hn, by rw [ra.length]; exact hl, ?_⟩⟩
   obtain ⟨E', x⟩ := (E.up s).write hi ea (kh hpx) w (t.ex (.of_same s) fun o z => s _ _ z) (o' := .ins (b.C.cl c') dx (jr y v fv)) (p' := .obj c' (pF y p fs)) ⟨dx, _, bO, (RepF.put r (ra.ex (.of_same s))).ex (pR w (s _ _ ha) rfl)⟩
   exact k Ow σ _ E' ((Ex.of_same s).trans x)
  ·cases hy
def IW (b : BX) (Ow : Addr -> Prop) (fr : Bool) (H1 : Hp) (J : It) (ps : List PV) : Prop := ∀ Ow' H, (fr = false -> Same H1 H) -> Ex (Bs b Ow) H1 (Bs b Ow') H -> (∀ a, H a = none -> Bs b Ow' a) ->
 (∀ i p, ps[i]? = some p -> J.go i H /\ ∀ x H', J.yld i H x H' -> Same H H' /\ Rep b.C (Bs b Ow') H' x p) /\ J.stop ps.length H
def tMI (b : BX) (G : List Nat) (fr : Bool) (g : Env -> Option (List PV)) : TI := fun σ H R => ∃ Ow env ps, ER b Ow G σ env H /\ g env = some ps /\ ∀ J H1, Same H H1 -> IW b Ow fr H1 J ps -> R J H1
abbrev SI (X : Cx) (b : BX) (G : List Nat) (fr : Bool) (tg it : Expr) (g : Env -> Option (List PV)) : Prop := PI X tg it (tMI b G fr g)
theorem PI.imp {tg it : Expr} {t u : TI} (h : PI X tg it t) (i : ∀ σ H R, u σ H R -> t σ H R) : PI X tg it u := fun pins s σ H R I q => h pins s σ H R I (i σ H R q)
theorem PI.or {tg it : Expr} {t u : TI} (h : PI X tg it t) (h' : PI X tg it u) : PI X tg it (fun σ H R => t σ H R \/ u σ H R) := fun pins s σ H R I q => q.elim (h pins s σ H R I) (h' pins s σ H R I)
def chV (x : Str) : List PV := x.cps.toList.map fun c => .str ⟨#[c]⟩
@[simp] def itV : PV -> Option (List PV)
 | .lst xs => some xs
 | .frz xs => some xs
 | .tup xs => some xs
 | .ktp xs => some xs
 | .str x => some (chV x)
 | _ => none
def iV (f : Env -> Option PV) (env : Env) : Option (List PV) := (f env).bind itV
@[simp] theorem QF (f : Env -> Option PV) (env : Env) : iV f env = ((f env).bind itV) := id rfl
theorem wV {Ow : Addr -> Prop} {fr : Bool} {H1 : Hp} {a : Addr} {vs : List V} {xs : List PV} (hq : ∀ Ow' H, (fr = false -> Same H1 H) -> Ex (Bs b Ow) H1 (Bs b Ow') H -> SqL b.C.K H a vs /\ Reps b.C (Bs b Ow') H vs xs) : IW b Ow fr H1 (Itl b.C.K a) xs := by
 intro Ow' H h0 h1 hn
 obtain ⟨q, r⟩ := hq Ow' H h0 h1
 refine ⟨fun i p hp => ?_, ⟨vs, q, by rw [r.length]; exact Nat.le_refl _⟩⟩
 obtain ⟨v, hv, rv⟩ := r.get hp
 refine ⟨⟨vs, v, q, hv⟩, fun x H' y => ?_⟩
 obtain ⟨e, y⟩ := y
 subst e
 have e2 := y vs q
 rw [hv] at e2
 cases e2
 exact ⟨Same.refl _, rv⟩
theorem Gg {Ow : Addr -> Prop} {fr : Bool} {H1 : Hp} {a : Addr} {vs : List V} {xs : List PV} (hq : ∀ Ow' H, (fr = false -> Same H1 H) -> Ex (Bs b Ow) H1 (Bs b Ow') H -> SqT b.C.K H a vs /\ Reps b.C (Bs b Ow') H vs xs) : IW b Ow fr H1 (Itt b.C.K a) xs := by
 intro Ow' H h0 h1 hn
 obtain ⟨q, r⟩ := hq Ow' H h0 h1
 refine ⟨fun i p hp => ?_, ⟨vs, q, by rw [r.length]; exact Nat.le_refl _⟩⟩
 obtain ⟨v, hv, rv⟩ := r.get hp
 refine ⟨⟨vs, v, q, hv⟩, fun x H' y => ?_⟩
 obtain ⟨e, y⟩ := y
 subst e
 have e2 := y vs q
 rw [hv] at e2
 cases e2
 exact ⟨Same.refl _, rv⟩
theorem N8 {Ow : Addr -> Prop} {fr : Bool} {H1 : Hp} {x : Str} : IW b Ow fr H1 (Its x) (chV x) := by
 intro Ow' H h0 h1 hn
 refine ⟨fun i p hp => ?_, by show (chV x).length = x.cps.size; unfold chV; rw [List.length_map, Array.length_toList]⟩
 unfold chV at hp
 rw [List.getElem?_map] at hp
 cases q : x.cps.toList[i]? with
 | none => rw [q] at hp; cases hp
 | some c =>
  rw [q] at hp
  cases hp
  have hc : x.cps[i]? = some c := by rw [← Array.getElem?_toList]; exact q
  refine ⟨(Array.getElem?_eq_some_iff.mp hc).1, fun v H' y => ?_⟩
  obtain ⟨e, c', h', ev⟩ := y
  subst e
  rw [hc] at h'
  cases h'
  subst ev
  exact ⟨Same.refl _, .str _⟩
theorem cV {tg : Expr} {fr : Bool} (he : SE X b G m e h) (hm : fr = true -> m ≠ .bor) (hK : X.K = b.C.K := by rfl) : SI X b G fr tg e (iV h) := by
 have hPI := PI.or (tg := tg) (PI.or (JS he) (Mq he)) (M9 he)
 refine PI.imp hPI fun σ H R ⟨Ow, env, ps, E, hg, k⟩ => ?_
 rw [hK]
 obtain ⟨p, hp, hps⟩ := aD hg
 have keep : ∀ {H1 Ow' H2} {v : V}, Same H H1 -> Res b Ow H H1 m v p -> (fr = false -> Same H1 H2) -> Ex (Bs b Ow) H1 (Bs b Ow') H2 -> RepB b.C (Bs b Ow') H2 v p := fun {H1 Ow' H2 v} s r h0 h1 => by
  cases fr with
  | false => exact RepB.ex h1 (h0 rfl) r.bor
  | true => exact .inl (Rep.ex h1 (r.val E (hm rfl)))
 unfold itV at hps
 split at hps
 ·cases hps
  refine .inl (.inl ⟨Ow, env, _, E, hp, fun v H1 s r => ?_⟩)
  have r1 : RepB b.C (Bs b Ow) H1 v (.lst _) := r.bor
  obtain ⟨a, vs, rfl, ha, ra⟩ := r1.lst
  refine ⟨a, rfl, ⟨vs, SqL.of ha⟩, k _ _ s (wV (vs := vs) fun Ow' H2 h0 h1 => ?_)⟩
  obtain ⟨a', vs', e', ha', ra'⟩ := (keep s r h0 h1).lst
  cases e'
  have : H2 a = some (.lst vs) := by
   cases fr with
   | false => exact h0 rfl _ _ ha
   | true =>
    have rv : Rep b.C (Bs b Ow) H1 (.ref a) (.lst _) := r.val E (hm rfl)
    cases rv with
    | lst q1 q2 q3 => rw [ha] at q1; cases q1; exact ((h1 _ _ ha).1 q2).1
  rw [ha'] at this
  cases this
  exact ⟨SqL.of ha', ra'⟩
 ·cases hps
  refine .inl (.inl ⟨Ow, env, _, E, hp, fun v H1 s r => ?_⟩)
  have r1 : Rep b.C (Bs b Ow) H1 v (.frz _) := (by rcases r.bor with z | ⟨_, _, z⟩; exact z; exact z.elim)
  cases r1 with
  | lstF q1 q3 => exact ⟨_, rfl, ⟨_, .inl (.inr ⟨_, q1⟩)⟩, k _ _ s (wV fun Ow' H2 h0 h1 => ⟨.inl (.inr ⟨_, (h1 _ _ q1).2 rfl⟩), q3.ex h1⟩)⟩
  | lstK q1 q3 => exact ⟨_, rfl, ⟨_, sqK q1⟩, k _ _ s (wV fun Ow' H2 h0 h1 => ⟨sqK q1, q3.ex h1⟩)⟩
 ·cases hps
  refine .inl (.inr ⟨Ow, env, _, E, hp, fun v H1 s r => ?_⟩)
  have r1 : RepB b.C (Bs b Ow) H1 v (.tup _) := r.bor
  obtain ⟨a, vs, rfl, ha, ra⟩ := r1.tup
  exact ⟨a, rfl, ⟨vs, SqT.of ha⟩, k _ _ s (Gg (vs := vs) fun Ow' H2 h0 h1 => ⟨SqT.of ((h1 _ _ ha).2 rfl), ra.ex h1⟩)⟩
 ·cases hps
  refine .inl (.inr ⟨Ow, env, _, E, hp, fun v H1 s r => ?_⟩)
  have r1 : RepB b.C (Bs b Ow) H1 v (.ktp _) := r.bor
  rcases r1 with r1 | ⟨_, _, t⟩
  ·cases r1 with
   | tupK q1 q3 => exact ⟨_, rfl, ⟨_, Dr q1⟩, k _ _ s (Gg fun Ow' H2 h0 h1 => ⟨Dr q1, q3.ex h1⟩)⟩
  ·exact t.elim
 ·cases hps
  refine .inr ⟨Ow, env, _, E, hp, fun v H1 s r => ?_⟩
  have r1 : RepB b.C (Bs b Ow) H1 v (.str _) := r.bor
  exact ⟨_, r1.str, k _ _ s N8⟩
 ·cases hps
noncomputable def rgI (i : Int) : Bool := @decide (-4611686018427387904 <= i /\ i < 4611686018427387904) (Classical.propDecidable _)
theorem sO {i : Int} (h : -4611686018427387904 <= i) (h' : i < 4611686018427387904) : rgI i = true := @decide_eq_true _ (Classical.propDecidable _) ⟨h, h'⟩
theorem Gh {i : Int} (h : rgI i = true) : -(2 ^ 62) <= i /\ i < 2 ^ 62 := by
 simp only [rgI, decide_eq_true_eq] at h
 exact h
def cW (lo hi : Int) : List PV := (List.range (hi - lo).toNat).map fun i => .int (lo + (i : Nat))
noncomputable def iR1 (f : Env -> Option PV) (env : Env) : Option (List PV) := (f env).bind fun p => match p with
 | .int j => if rgI j = true then some (cW 0 j) else none
 | _ => none
@[simp] theorem N_ (f : Env -> Option PV) (env : Env) : iR1 f env = ((f env).bind fun p => match p with
 | .int j => if rgI j = true then some (cW 0 j) else none
 | _ => none) := id rfl
noncomputable def iR2 (f g : Env -> Option PV) (env : Env) : Option (List PV) := (f env).bind fun p => (g env).bind fun q => match p, q with
 | .int i, .int j => if (rgI i && rgI j) = true then some (cW i j) else none
 | _, _ => none
@[simp] theorem S6 (f g : Env -> Option PV) (env : Env) : iR2 f g env = ((f env).bind fun p => (g env).bind fun q => match p, q with
 | .int i, .int j => if (rgI i && rgI j) = true then some (cW i j) else none
 | _, _ => none) := id rfl
theorem Oa {Ow : Addr -> Prop} {fr : Bool} {H1 : Hp} {lo hi : Int} : IW b Ow fr H1 (Itr lo (hi - lo).toNat) (cW lo hi) := by
 intro Ow' H h0 h1 hn
 have hl : (cW lo hi).length = (hi - lo).toNat := by unfold cW; rw [List.length_map, List.length_range]
 refine ⟨fun i p hp => ?_, by show (hi - lo).toNat <= (cW lo hi).length; rw [hl]; exact Nat.le_refl _⟩
 have hi' : i < (hi - lo).toNat := by rw [← hl]; exact (List.getElem?_eq_some_iff.mp hp).1
 refine ⟨hi', fun x H' y => ?_⟩
 obtain ⟨e, ex⟩ := y
 subst e ex
 unfold cW at hp
 rw [List.getElem?_map, List.getElem?_range hi'] at hp
 cases hp
 exact ⟨Same.refl _, .int _⟩
theorem gW {tg : Expr} {fr : Bool} {p pos : Pos} (hm : X.mg "range" = none) (he : SE X b G m e h) (hg : Gl X "range" := by rfl) (hs : starEach [e] X.env = [(false, eval e X.env)] := by rfl) (hs' : starEach [e] X.env = (false, eval e X.env) :: starEach [] X.env := by rfl) : SI X b G fr tg (.Call (.Name "range" p) [e] [] pos) (iR1 h) := by
 refine PI.imp (Ey hg hm (fL he.bor jJ hs') hs) fun σ H R ⟨Ow, env, ps, E, hf, k⟩ => ?_
 obtain ⟨p1, hp, hps⟩ := aD hf
 refine ⟨Ow, env, p1, E, hp, fun v H1 s r => ?_⟩
 have r1 : RepB b.C (Bs b Ow) H1 v p1 := r
 cases p1 <;> simp only at hps <;> first | cases hps | skip
 rename_i j
 split at hps
 ·rename_i hj
  cases hps
  have hw : IW b Ow fr H1 (Itr 0 (j - 0).toNat) (cW 0 j) := Oa
  rw [Int.sub_zero] at hw
  exact ⟨j, by rw [r1.int], (Gh hj).1, (Gh hj).2, k _ _ s hw⟩
 ·cases hps
def fu (n : Nat) : List PV -> List PV
 | [] => []
 | x :: xs => .tup [.int (n : Nat), x] :: fu (n + 1) xs
theorem xW {p : PV} : ∀ {xs : List PV} {n i : Nat}, (fu n xs)[i]? = some p -> ∃ x, xs[i]? = some x /\ p = .tup [.int ((n + i : Nat) : Int), x]
 | [], n, i, e => by simp [fu] at e
 | x :: xs, n, 0, e => by
  simp [fu] at e
  exact ⟨x, rfl, by rw [← e]; rfl⟩
 | x :: xs, n, i + 1, e => by
  simp only [fu, List.getElem?_cons_succ] at e
  obtain ⟨y, h1, h2⟩ := xW e
  exact ⟨y, by simpa using h1, by rw [h2, Nat.add_right_comm, Nat.add_assoc]⟩
theorem sS : ∀ {xs : List PV} {n : Nat}, (fu n xs).length = xs.length
 | [], _ => rfl
 | x :: xs, n => by simp [fu, sS (xs := xs)]
def iE (f : Env -> Option PV) (env : Env) : Option (List PV) := (f env).bind fun p => match p with
 | .lst xs => some (fu 0 xs)
 | _ => none
@[simp] theorem Tg (f : Env -> Option PV) (env : Env) : iE f env = ((f env).bind fun p => match p with
 | .lst xs => some (fu 0 xs)
 | _ => none) := id rfl
theorem pG {fr : Bool} {es : List Expr} {x1 : Nat} {tpos p pos : Pos} (hm : X.mg "enumerate" = none) (he : SE X b G m e h) (hmd : fr = true -> m ≠ .bor) (hK : X.K = b.C.K := by rfl) (hg : Gl X "enumerate" := by rfl) (hs : starEach [e] X.env = [(false, eval e X.env)] := by rfl) (hs' : starEach [e] X.env = (false, eval e X.env) :: starEach [] X.env := by rfl) :
  SI X b G fr (.Tuple es x1 tpos) (.Call (.Name "enumerate" p) [e] [] pos) (iE h) := by
 refine PI.imp (Kg hg hm (fL he jJ hs') hs) fun σ H R ⟨Ow, env, ps, E, hf, k⟩ => ?_
 rw [hK]
 obtain ⟨p1, hp, hps⟩ := aD hf
 refine ⟨Ow, env, p1, E, hp, fun v H1 s r => ?_⟩
 have r1 : RepB b.C (Bs b Ow) H1 v p1 := r.bor
 cases p1 <;> simp only at hps <;> cases hps
 rename_i xs
 obtain ⟨a, vs, rfl, ha, ra⟩ := r1.lst
 refine ⟨a, rfl, ⟨vs, SqL.of ha⟩, k _ _ s fun Ow' H2 h0 h1 hn => ?_⟩
 have hq : H2 a = some (.lst vs) /\ Reps b.C (Bs b Ow') H2 vs xs := by
  refine ⟨?_, ra.ex h1⟩
  cases fr with
  | false => exact h0 rfl _ _ ha
  | true =>
   have rv : Rep b.C (Bs b Ow) H1 (.ref a) (.lst _) := r.val E (hmd rfl)
   cases rv with
   | lst q1 q2 q3 => rw [ha] at q1; cases q1; exact ((h1 _ _ ha).1 q2).1
 refine ⟨fun i p hp' => ?_, ⟨vs, SqL.of hq.1, by rw [sS, hq.2.length]; exact Nat.le_refl _⟩⟩
 obtain ⟨x, hx, rfl⟩ := xW hp'
 obtain ⟨v, hv, rv⟩ := hq.2.get hx
 refine ⟨⟨vs, v, SqL.of hq.1, hv⟩, fun y H' yl => ?_⟩
 obtain ⟨t, x', ht, e1, e2, yl⟩ := yl
 subst e1 e2
 have e3 := yl vs (SqL.of hq.1)
 rw [hv] at e3
 cases e3
 refine ⟨bA ht _, .tup bO (.cons ?_ (.cons (rv.ex (.of_same (bA ht _))) .nil))⟩
 rw [Nat.zero_add]
 exact .int _
end
end MR
namespace MR
open PySem L2
def gN (i : Nat) (p : PV) (env : Env) : Option Env := some (env.set i (some p))
@[simp] theorem Th (i : Nat) (p : PV) (env : Env) : gN i p env = (some (env.set i (some p))) := id rfl
@[simp] def gNs : List Nat -> List PV -> Env -> Option Env
 | [], [], env => some env
 | i :: is, p :: ps, env => gNs is ps (env.set i (some p))
 | _, _, _ => none
def gT (is : List Nat) (p : PV) (env : Env) : Option Env := match p with
 | .tup xs => gNs is xs env
 | _ => none
@[simp] theorem za (is : List Nat) (p : PV) (env : Env) : gT is p env = (match p with
 | .tup xs => gNs is xs env
 | _ => none) := id rfl
def tMG (b : BX) (G : List Nat) (g : PV -> Env -> Option Env) : TG := fun v σ H Q => ∃ Ow env p env', ER b Ow G σ env H /\ Rep b.C (Bs b Ow) H v p /\ g p env = some env' /\ ∀ σ', ER b Ow G σ' env' H -> Q σ' H
def RN (b : BX) (G : List Nat) (is : List Nat) : TGs := fun vs σ H Q => ∃ Ow env ps env', ER b Ow G σ env H /\ Reps b.C (Bs b Ow) H vs ps /\ gNs is ps env = some env' /\ ∀ σ', ER b Ow G σ' env' H -> Q σ' H
abbrev SG (X : Cx) (b : BX) (G : List Nat) (tg : Expr) (g : PV -> Env -> Option Env) : Prop := PG X tg (tMG b G g)
abbrev SGs (X : Cx) (b : BX) (G : List Nat) (tgs : List Expr) (is : List Nat) : Prop := PGs X tgs (RN b G is)
theorem PG.imp {X : Cx} {tg : Expr} {t u : TG} (h : PG X tg t) (i : ∀ v σ H Q, u v σ H Q -> t v σ H Q) : PG X tg u := fun pins s σ H v w Q I r q => h pins s σ H v w Q I r (i v σ H Q q)
theorem PGs.imp {X : Cx} {tg : List Expr} {t u : TGs} (h : PGs X tg t) (i : ∀ v σ H Q, u v σ H Q -> t v σ H Q) : PGs X tg u := fun pins s σ H v w Q I r q => h pins s σ H v w Q I r (i v σ H Q q)
section
variable {X : Cx} {b : BX} {G G' L : List Nat} {ro : Bool} {pos : Pos}
theorem ju (i : Nat) {x : Str} (nd : X.N.Nodup) (hG : i ∉ G := by decide) (hx : b.fx i = none := by first | rfl | assumption) (hi : X.N[i]? = some x := by rfl) (hl : Loc X.env.scope x := by first | exact Or.inl rfl | exact Or.inr rfl)
  (hf : X.fn x = true \/ X.env.scope.names.lookup x = some .local := by first | exact .inl rfl | exact .inr rfl | assumption) : SG X b G (.Name x pos) (gN i) :=
 PG.imp (wK nd hi hl hf) fun v σ H Q ⟨Ow, env, p, env', E, r, e, k⟩ => by cases e; exact k _ (E.set hG r hx)
theorem wW : SGs X b G [] [] := PGs.imp mz fun vs σ H Q ⟨Ow, env, ps, env', E, r, e, k⟩ => by
 cases ps with
 | nil => cases r; cases e; exact ⟨rfl, k σ E⟩
 | cons p ps => cases e
theorem nT (i : Nat) {x : Str} {es : List Expr} {is : List Nat} {p1 : Pos} (nd : X.N.Nodup) (h2 : SGs X b G es is) (hG : i ∉ G := by decide) (hx : b.fx i = none := by first | rfl | assumption) (hi : X.N[i]? = some x := by rfl) (hl : Loc X.env.scope x := by first | exact Or.inl rfl | exact Or.inr rfl)
  (hf : X.fn x = true \/ X.env.scope.names.lookup x = some .local := by first | exact .inl rfl | exact .inr rfl | assumption) (hs : (assignEach (.Name x p1 :: es) X.env).map (·.2) = assign (.Name x p1) X.env :: (assignEach es X.env).map (·.2) := by rfl) : SGs X b G (.Name x p1 :: es) (i :: is) :=
 PGs.imp (dq (wK nd hi hl hf) h2 hs) fun vs σ H Q ⟨Ow, env, ps, env', E, r, e, k⟩ => by
  cases ps with
  | nil => cases e
  | cons p ps =>
   cases r with
   | cons r1 r2 => exact ⟨_, _, rfl, Ow, env.set i (some p), ps, env', E.set hG r1 hx, r2, e, k⟩
theorem wX : ∀ {is : List Nat} {ps : List PV} {env env' : Env}, gNs is ps env = some env' -> ps.length = is.length
 | [], [], _, _, _ => rfl
 | i :: is, p :: ps, env, env', e => by simp [wX (is := is) (ps := ps) e]
 | [], _ :: _, _, _, e => by cases e
 | _ :: _, [], _, _, e => by cases e
theorem H_ {es : List Expr} {k : Nat} {is : List Nat} (h : SGs X b G es is) (hc : X.calm = true := by rfl) (hn : (assignEach es X.env).length = is.length := by rfl) (hst : (assignEach es X.env).findIdx? (·.1) = none := by rfl) (hK : X.K = b.C.K := by rfl) : SG X b G (.Tuple es k pos) (gT is) :=
 PG.imp (oU hc h hn hst) fun v σ H Q ⟨Ow, env, p, env', E, r, e, k⟩ => by
  cases p <;> simp only [gT] at e <;> first | cases e | skip
  rename_i xs
  obtain ⟨a, vs, rfl, ha, ra⟩ := RepB.tup (.inl r)
  rw [hK]
  exact ⟨a, vs, rfl, SqT.of ha, by rw [ra.length]; exact wX e, Ow, env, xs, env', E, ra, e, k⟩
def bF (g : PV -> Env -> Option Env) (ds : List Nat) (body : Env -> Option Out) : List PV -> Env -> Option Out
 | [], env => some (.nx env)
 | x :: xs, env => (g x env).bind fun e1 => (body e1).bind fun o => match o with
  | .nx e => bF g ds body xs (clr ds e)
  | .ct e => bF g ds body xs (clr ds e)
  | .bk e => some (.nx (clr ds e))
  | .rt p => some (.rt p)
def cN (g : PV -> Env -> Option Env) (src : Env -> Option (List PV)) (ds : List Nat) (body : Env -> Option Out) (env : Env) : Option Out := (src env).bind fun xs => bF g ds body xs (clr ds env)
@[simp] theorem Kv (g : PV -> Env -> Option Env) (src : Env -> Option (List PV)) (ds : List Nat) (body : Env -> Option Out) (env : Env) : cN g src ds body env = ((src env).bind fun xs => bF g ds body xs (clr ds env)) := id rfl
theorem eF {tg it : Expr} {body : List Stmt} {g : PV -> Env -> Option Env} {src : Env -> Option (List PV)} {f : Env -> Option Out} (ds : List Nat) (hi : SI X b G true tg it src) (hg : SG X b G tg g) (hb : SSs X b G G G ro body f) (hp : PassesOwn (model X.prog X.w) X.A X.env X.xe) (hc : X.calm = true := by rfl)
  (hs : ∀ x, foldedSetIterable it X.env x = pure x := by intro _; rfl) : SS X b G G L ro (.For tg it body [] pos) (cN g src ds f) := by
 refine PS.imp (Mr hp hc hi hg hb hs) fun D σ H ⟨Ow, env, out, E, hf, k⟩ => ?_
 obtain ⟨ps, hps, hl⟩ := aD hf
 refine ⟨Ow, env, ps, E, hps, fun J H1 s1 iw => ?_⟩
 refine ⟨fun i m σ2 H2 => m = ps.length - i /\ i <= ps.length /\ ∃ Ow2 env2, ER b Ow2 G σ2 env2 H2 /\ Ex (Bs b Ow) H1 (Bs b Ow2) H2 /\ bF g ds f (ps.drop i) env2 = some out, ⟨ps.length, by simp, Nat.zero_le _, Ow, clr ds env, (E.up s1).clr, Ex.refl _ _, by simpa using hl⟩, ?_⟩
 rintro i m σ2 H2 ⟨rfl, hi, Ow2, env2, E2, x2, l2⟩
 obtain ⟨w1, w2⟩ := iw Ow2 H2 (fun z => by cases z) x2 fun a => E2.fresh
 have xk : Ex (Bs b Ow) H (Bs b Ow2) H2 := (Ex.of_same s1).trans x2
 by_cases hlt : i < ps.length
 ·rw [List.drop_eq_getElem_cons hlt] at l2
  obtain ⟨e1, he1, l2⟩ := aD l2
  obtain ⟨o, ho, l2⟩ := aD l2
  obtain ⟨g1, g2⟩ := w1 i ps[i] (List.getElem?_eq_getElem hlt)
  refine .inr ⟨g1, fun σ' H' => i + 1 <= ps.length /\ ∃ Ow2 env2, ER b Ow2 G σ' env2 H' /\ Ex (Bs b Ow) H1 (Bs b Ow2) H' /\ bF g ds f (ps.drop (i + 1)) env2 = some out, fun σ' H' q => ⟨ps.length - (i + 1), by omega, rfl, q⟩, fun x H' y => ?_⟩
  obtain ⟨s3, r3⟩ := g2 x H' y
  refine ⟨Ow2, env2, _, e1, E2.up s3, r3, he1, fun σ3 E3 => ⟨Ow2, e1, o, E3, ho, ?_⟩⟩
  cases o with
  | nx e' => exact fun Ow' σ' H'' E' x' => ⟨hlt, Ow', _, E'.clr, x2.trans ((Ex.of_same s3).trans x'), l2⟩
  | ct e' => exact fun Ow' σ' H'' E' x' => ⟨hlt, Ow', _, E'.clr, x2.trans ((Ex.of_same s3).trans x'), l2⟩
  | bk e' => cases l2; exact fun Ow' σ' H'' E' x' => k Ow' σ' H'' E'.clr (xk.trans ((Ex.of_same s3).trans x'))
  | rt p => cases l2; exact k
 ·have e : i = ps.length := by omega
  subst e
  rw [List.drop_length] at l2
  cases l2
  exact .inl ⟨w2, k Ow2 σ2 H2 E2 xk⟩
def kj (c : Env -> Option Bool) (ds : List Nat) (body : Env -> Option Out) : Nat -> Env -> Option Out
 | 0, _ => none
 | n + 1, env => (c env).bind fun k => if k = true then (body env).bind fun o => match o with
   | .nx e => kj c ds body n (clr ds e)
   | .ct e => kj c ds body n (clr ds e)
   | .bk e => some (.nx (clr ds e))
   | .rt p => some (.rt p)
  else some (.nx env)
def qM (n : Nat) (c : Env -> Option Bool) (ds : List Nat) (body : Env -> Option Out) (env : Env) : Option Out := kj c ds body n (clr ds env)
@[simp] theorem xX (n : Nat) (c : Env -> Option Bool) (ds : List Nat) (body : Env -> Option Out) (env : Env) : qM n c ds body env = (kj c ds body n (clr ds env)) := id rfl
theorem Cm {c : Expr} {body : List Stmt} {t : Env -> Option Bool} {f : Env -> Option Out} (n : Nat) (ds : List Nat) (hc : ST X b G c t) (hb : SSs X b G G G ro body f) (hp : PassesOwn (model X.prog X.w) X.A X.env X.xe) : SS X b G G L ro (.While c body [] pos) (qM n t ds f) := by
 refine PS.imp (Hg hp hc hb) fun D σ H ⟨Ow, env, out, E, hf, k⟩ => ?_
 refine ⟨fun m σ2 H2 => ∃ Ow2 env2, ER b Ow2 G σ2 env2 H2 /\ Ex (Bs b Ow) H (Bs b Ow2) H2 /\ kj t ds f m env2 = some out, ⟨n, Ow, clr ds env, E.clr, Ex.refl _ _, hf⟩, ?_⟩
 rintro m σ2 H2 ⟨Ow2, env2, E2, x2, l2⟩
 cases m with
 | zero => cases l2
 | succ m =>
  obtain ⟨kk, hk, l2⟩ := aD l2
  refine ⟨Ow2, env2, kk, E2, hk, fun H3 s3 => ?_⟩
  cases kk with
  | false => cases l2; exact Do (k Ow2 σ2 H3 (E2.up s3) (x2.trans (.of_same s3)))
  | true =>
   refine Dp ⟨fun σ' H' => ∃ Ow2 env2, ER b Ow2 G σ' env2 H' /\ Ex (Bs b Ow) H (Bs b Ow2) H' /\ kj t ds f m env2 = some out, fun σ' H' q => ⟨m, Nat.lt_succ_self m, q⟩, ?_⟩
   obtain ⟨o, ho, l2⟩ := aD l2
   refine ⟨Ow2, env2, o, E2.up s3, ho, ?_⟩
   cases o with
   | nx e' => exact fun Ow' σ' H'' E' x' => ⟨Ow', _, E'.clr, x2.trans ((Ex.of_same s3).trans x'), l2⟩
   | ct e' => exact fun Ow' σ' H'' E' x' => ⟨Ow', _, E'.clr, x2.trans ((Ex.of_same s3).trans x'), l2⟩
   | bk e' => cases l2; exact fun Ow' σ' H'' E' x' => k Ow' σ' H'' E'.clr (x2.trans ((Ex.of_same s3).trans x'))
   | rt p => cases l2; exact k
end
def o7 (cap : List (Option Nat)) (env : Env) : Env := cap.map fun o => match o with | some i => (env[i]?).getD none | none => none
@[simp] theorem Sh (cap : List (Option Nat)) (env : Env) : o7 cap env = (cap.map fun o => match o with | some i => (env[i]?).getD none | none => none) := id rfl
def nU (cap : List (Option Nat)) (G : List Nat) : List Nat := (List.range cap.length).filter fun j => match cap[j]? with | some (some i) => decide (i ∈ G) | _ => false
def BX.in (b : BX) : BX := { b with fx := fun _ => none }
def bJ (env : Env) (g : PV -> Env -> Option Env) (t : Env -> Option Bool) (f : Env -> Option PV) : List PV -> Option (List PV)
 | [] => some []
 | x :: xs => (g x env).bind fun e => (t e).bind fun k => if k = true then (f e).bind fun y => (bJ env g t f xs).bind fun ys => some (y :: ys) else bJ env g t f xs
def aV (cap : List (Option Nat)) (src : Env -> Option (List PV)) (g : PV -> Env -> Option Env) (t : Env -> Option Bool) (f : Env -> Option PV) (env : Env) : Option PV := (src env).bind fun xs => if xs.length <= 1000000 then (bJ (o7 cap env) g t f xs).bind fun ys => some (.lst ys) else none
@[simp] theorem q8 (cap : List (Option Nat)) (src : Env -> Option (List PV)) (g : PV -> Env -> Option Env) (t : Env -> Option Bool) (f : Env -> Option PV) (env : Env) : aV cap src g t f env = ((src env).bind fun xs => if xs.length <= 1000000 then (bJ (o7 cap env) g t f xs).bind fun ys => some (.lst ys) else none) := id rfl
def aY (env : Env) : Option Bool := some true
@[simp] theorem RQ (env : Env) : aY env = (some true) := id rfl
theorem capG_mem {cap : List (Option Nat)} {G : List Nat} {j : Nat} : j ∈ nU cap G ↔ ∃ i, cap[j]? = some (some i) /\ i ∈ G := by
 unfold nU
 rw [List.mem_filter, List.mem_range]
 constructor
 ·rintro ⟨h1, h2⟩
  split at h2
  ·rename_i i e; exact ⟨i, e, by simpa using h2⟩
  ·cases h2
 ·rintro ⟨i, e, h⟩
  refine ⟨(List.getElem?_eq_some_iff.mp e).1, ?_⟩
  rw [e]; simpa using h
theorem q9 {cap : List (Option Nat)} {env : Env} {j : Nat} {p : PV} (h : (o7 cap env)[j]? = some (some p)) : ∃ i, cap[j]? = some (some i) /\ env[i]? = some (some p) := by
 unfold o7 at h
 rw [List.getElem?_map] at h
 cases q : cap[j]? with
 | none => rw [q] at h; cases h
 | some o =>
  rw [q] at h
  cases o with
  | none => cases h
  | some i =>
   refine ⟨i, rfl, ?_⟩
   have h' : (env[i]?).getD none = some p := by simpa using h
   cases q2 : env[i]? with
   | none => rw [q2] at h'; cases h'
   | some o => rw [q2] at h'; simp at h'; rw [h']
theorem qd {cap : List (Option Nat)} {σ : St} {j i : Nat} {v : V} (h : cap[j]? = some (some i)) (e : σ[i]? = some (some v)) : (gU cap σ)[j]? = some (some v) := by
 unfold gU
 rw [List.getElem?_map, h]
 simp [zH, e]
def sU (cap : List (Option Nat)) : Bool := (List.range cap.length).all fun j => (List.range cap.length).all fun k => match cap[j]?, cap[k]? with
 | some (some i), some (some i') => decide (i = i' -> j = k)
 | _, _ => true
theorem Gi {cap : List (Option Nat)} (h : sU cap = true) {j k i : Nat} (h1 : cap[j]? = some (some i)) (h2 : cap[k]? = some (some i)) : j = k := by
 have a := List.all_eq_true.mp h j (List.mem_range.mpr (List.getElem?_eq_some_iff.mp h1).1)
 have c := List.all_eq_true.mp a k (List.mem_range.mpr (List.getElem?_eq_some_iff.mp h2).1)
 rw [h1, h2] at c
 simpa using c
theorem ER.cap {b : BX} {Ow : Addr -> Prop} {G : List Nat} {σ : St} {env : Env} {H : Hp} {cap : List (Option Nat)} (E : ER b Ow G σ env H) (hc : sU cap = true) : ER b.in Ow (nU cap G) (gU cap σ) (o7 cap env) H := by
 refine ⟨by unfold gU o7; rw [List.length_map, List.length_map], E.same, E.live, E.new, fun j p e n => ?_, fun j p e n => ?_, fun j k a p q e1 n1 s1 e2 n2 s2 => ?_, fun k v z => by cases z⟩
 ·obtain ⟨i, h1, h2⟩ := q9 e
  obtain ⟨v, h3, h4⟩ := E.val i p h2 fun z => n (capG_mem.mpr ⟨i, h1, z⟩)
  exact ⟨v, qd h1 h3, h4⟩
 ·obtain ⟨i, h1, h2⟩ := q9 e
  obtain ⟨i', h1', hG⟩ := capG_mem.mp n
  rw [h1] at h1'; cases h1'
  obtain ⟨a, h3, h4, h5⟩ := E.own i p h2 hG
  exact ⟨a, qd h1 h3, h4, h5⟩
 ·obtain ⟨i, h1, h2⟩ := q9 e1
  obtain ⟨i', h1', hG⟩ := capG_mem.mp n1
  rw [h1] at h1'; cases h1'
  obtain ⟨k', h3, h4⟩ := q9 e2
  obtain ⟨k'', h3', hG2⟩ := capG_mem.mp n2
  rw [h3] at h3'; cases h3'
  obtain ⟨c, g1, _, _⟩ := E.own i p h2 hG
  obtain ⟨c2, g2, _, _⟩ := E.own k' q h4 hG2
  have t1 := qd (cap := cap) h1 g1
  have t2 := qd (cap := cap) h3 g2
  rw [s1] at t1; cases t1
  rw [s2] at t2; cases t2
  have := E.sep i k' _ p q h2 hG g1 h4 hG2 g2
  subst this
  exact Gi hc h1 h3
theorem ER.more {b : BX} {Ow : Addr -> Prop} {G : List Nat} {σ : St} {env : Env} {H H' : Hp} {D : Addr} (E : ER b Ow G σ env H) (hD : H D = none) (s : Same H H') (hl : ∃ o, H' D = some o) : ER b (fun c => Ow c \/ c = D) G σ env H' /\ Ex (Bs b Ow) H (Bs b fun c => Ow c \/ c = D) H' := by
 have hx : Ex (Bs b Ow) H (Bs b fun c => Ow c \/ c = D) H' := fun c o h => ⟨fun q => ⟨s _ _ h, fun z => z.elim q.1 (bh h hD), q.2⟩, fun _ => s _ _ h⟩
 exact ⟨⟨E.len, E.same.trans s, fun c w => w.elim (fun z => let ⟨o, h⟩ := E.live c z; ⟨o, s _ _ h⟩) fun z => by subst z; exact hl, fun c w => w.elim (E.new c) fun z => by subst z; exact E.same.free hD, fun i p e n => let ⟨v, h1, h2⟩ := E.val i p e n; ⟨v, h1, h2.ex hx⟩,
  fun i p e n => let ⟨a, h1, h2, h3⟩ := E.own i p e n; ⟨a, h1, .inl h2, h3.ex hx fun o z => s _ _ z⟩, E.sep, E.fix⟩, hx⟩
structure TgOk (K : PySem.W.Frag) (cap : List (Option Nat)) (g : TG) (gm : PV -> Env -> Option Env) : Prop where
 go : ∀ (b : BX) (Ow : Addr -> Prop) (G : List Nat) (σ : St) (env e : Env) (H : Hp) (v : V) (p : PV) (Q : St -> Hp -> Prop), b.C.K = K -> (∀ i, b.fx i = none) -> ER b Ow (nU cap G) (gU cap σ) (o7 cap env) H -> Rep b.C (Bs b Ow) H v p -> gm p (o7 cap env) = some e ->
  (∀ σ', Kp (gU cap σ) σ' -> ER b Ow (nU cap G) σ' e H -> Q σ' H) -> g v (gU cap σ) H Q
theorem Gj {σ σ' : St} {i : Nat} {v : V} (h : Kp σ σ') (hn : ∀ w, σ[i]? ≠ some (some w)) : Kp σ (σ'.set i (some v)) := by
 refine ⟨by rw [List.length_set]; exact h.1, fun j w e => ?_⟩
 by_cases hj : i = j
 ·subst hj; exact absurd e (hn w)
 ·rw [List.getElem?_set_ne hj]; exact h.2 j w e
theorem Cp (σ : St) : Kp σ σ := ⟨rfl, fun _ _ e => e⟩
theorem vP {cap : List (Option Nat)} {σ : St} {i : Nat} (h : cap[i]? = some none) (w : V) : (gU cap σ)[i]? ≠ some (some w) := by
 unfold gU
 rw [List.getElem?_map, h]
 intro z; cases z
theorem xY {cap : List (Option Nat)} {G : List Nat} {i : Nat} (h : cap[i]? = some none) : i ∉ nU cap G := fun z => by
 obtain ⟨k, e, _⟩ := capG_mem.mp z
 rw [h] at e; cases e
theorem dI {K : PySem.W.Frag} {cap : List (Option Nat)} (i : Nat) (h : cap[i]? = some none := by rfl) : TgOk K cap (ul i) (gN i) :=
 ⟨fun b Ow G σ env e H v p Q hK hx E r he k => by
  cases he
  exact k _ (Gj (Cp _) (vP h)) (E.set (xY h) r (hx _))⟩
def zP : List Nat -> TGs
 | [] => Mi
 | i :: is => Jq (ul i) (zP is)
theorem u_ {K : PySem.W.Frag} {cap : List (Option Nat)} (is : List Nat) (h : (is.all fun i => decide (cap[i]? = some none)) = true := by rfl) : TgOk K cap (Mj K is.length (zP is)) (gT is) :=
 ⟨fun b Ow G σ env e H v p Q hK hx E r he k => by
  subst hK
  cases p <;> simp only [gT] at he <;> first | cases he | skip
  rename_i xs
  obtain ⟨a, vs, rfl, ha, ra⟩ := RepB.tup (.inl r)
  refine ⟨a, vs, rfl, SqT.of ha, by rw [ra.length]; exact wX he, ?_⟩
  have gen : ∀ (is : List Nat) (vs : List V) (xs : List PV) (σ1 : St) (env1 : Env), (is.all fun i => decide (cap[i]? = some none)) = true -> Kp (gU cap σ) σ1 -> ER b Ow (nU cap G) σ1 env1 H -> Reps b.C (Bs b Ow) H vs xs -> gNs is xs env1 = some e -> zP is vs σ1 H Q := by
   intro is
   induction is with
   | nil =>
    intro vs xs σ1 env1 _ kp E1 r1 e1
    cases xs with
    | nil => cases r1; cases e1; exact ⟨rfl, k σ1 kp E1⟩
    | cons x xs => cases e1
   | cons i is ih =>
    intro vs xs σ1 env1 hall kp E1 r1 e1
    cases xs with
    | nil => cases e1
    | cons x xs =>
     cases r1 with
     | cons r2 r3 =>
      rw [List.all_cons, Bool.and_eq_true] at hall
      have hi : cap[i]? = some none := by simpa using hall.1
      exact ⟨_, _, rfl, ih _ xs _ _ hall.2 (Gj kp (vP hi)) (E1.set (xY hi) r2 (hx _)) r3 e1⟩
  exact gen is vs xs _ _ h (Cp _) E ra he⟩
section
variable {X : Cx} {b : BX} {G L : List Nat} {ro : Bool} {pos : Pos} {tg iter elt : Expr} {ifs : List Expr} {scope osc : Scope} {ON N : List Str} {cap : List (Option Nat)} {src : Env -> Option (List PV)} {g : TG} {gm : PV -> Env -> Option Env} {t : Env -> Option Bool} {f : Env -> Option PV}
theorem JG {σ : St} {H : Hp} {Q : VK} (tgo : TgOk b.C.K cap g gm) (hc : sU cap = true) (h : tM b G .own (aV cap src gm t f) σ H Q) :
  yV (tMI b G false src) cap g (tMT b.in (nU cap G) t) (tM b.in (nU cap G) .val f) σ H Q := by
 obtain ⟨Ow, env, p, E, hf, k⟩ := h
 obtain ⟨xs, hxs, hf⟩ := aD hf
 split at hf
 ·rename_i hlen
  obtain ⟨ys, hys, hf⟩ := aD hf
  cases hf
  refine ⟨Ow, env, xs, E, hxs, fun J H1 s1 iw D hD => ?_⟩
  have E1 := E.up s1
  have nD : H D = none := s1.free hD
  refine ⟨fun i m vs H2 => m = xs.length - i /\ i <= xs.length /\ Same H1 H2 /\ H2 D = some (.lst vs) /\ vs.length <= i /\ ∃ done rest, Reps b.C (Bs b fun c => Ow c \/ c = D) H2 vs done /\ bJ (o7 cap env) gm t f (xs.drop i) = some rest /\ done ++ rest = ys,
   ⟨xs.length, by simp, Nat.zero_le _, bA hD _, bO, Nat.le_refl _, [], ys, .nil, by simpa using hys, rfl⟩, ?_⟩
  rintro i m vs H2 ⟨rfl, hi, s2, d2, hv, done, rest, rd, cl, hdone⟩
  refine ⟨d2, ?_⟩
  obtain ⟨E2, x2⟩ := E1.more hD s2 ⟨_, d2⟩
  obtain ⟨w1, w2⟩ := iw _ H2 (fun _ => s2) x2 fun a => E2.fresh
  by_cases hlt : i < xs.length
  ·rw [List.drop_eq_getElem_cons hlt] at cl
   obtain ⟨e1, he1, cl⟩ := aD cl
   obtain ⟨kk, hk, cl⟩ := aD cl
   obtain ⟨g1, g2⟩ := w1 i xs[i] (List.getElem?_eq_getElem hlt)
   refine .inr ⟨g1, fun vs' H' => i + 1 <= xs.length /\ Same H1 H' /\ H' D = some (.lst vs') /\ vs'.length <= i + 1 /\ ∃ done rest, Reps b.C (Bs b fun c => Ow c \/ c = D) H' vs' done /\ bJ (o7 cap env) gm t f (xs.drop (i + 1)) = some rest /\ done ++ rest = ys, fun vs' H' q => ⟨xs.length - (i + 1), by omega, rfl, q⟩, fun x H' y => ?_⟩
   obtain ⟨s3, r3⟩ := g2 x H' y
   have E3 := (E2.up s3).cap hc
   refine tgo.go b.in _ G σ env e1 H' x _ _ rfl (fun _ => rfl) E3 r3 he1 fun σ3 kp E4 => ⟨kp, _, e1, kk, E4, hk, fun H4 s4 => ?_⟩
   have d4 : H4 D = some (.lst vs) := s4 _ _ (s3 _ _ d2)
   have s24 : Same H2 H4 := s3.trans s4
   cases kk with
   | false =>
    refine Do ⟨hlt, s2.trans s24, d4, Nat.le_succ_of_le hv, done, rest, rd.ex (.of_same s24), ?_, hdone⟩
    simpa using cl
   | true =>
    simp only [if_true] at cl
    obtain ⟨y1, hy1, cl⟩ := aD cl
    obtain ⟨ys1, hys1, cl⟩ := aD cl
    cases cl
    refine Dp ⟨_, e1, y1, E4.up s4, hy1, fun v5 H5 s5 r5 => ⟨s5 _ _ d4, nP (by omega), hlt, ?_, bO, by rw [List.length_append]; show vs.length + 1 <= i + 1; omega, done ++ [y1], ys1, ?_, hys1, by rw [List.append_assoc]; exact hdone⟩⟩
    ·exact fun c o h => by rw [aW (bh h hD)]; exact s5 _ _ (s24 _ _ (s2 _ _ h))
    ·have r5' : Rep b.C (Bs b fun c => Ow c \/ c = D) H5 v5 y1 := r5
     refine ((rd.ex (.of_same (s24.trans s5))).append (.cons r5' .nil)).ex ?_
     exact pR (b := b) (Ow := fun c => Ow c \/ c = D) (.inr rfl) (s5 _ _ d4) rfl
  ·have e : i = xs.length := by omega
   subst e
   rw [List.drop_length] at cl
   cases cl
   rw [List.append_nil] at hdone
   subst hdone
   refine .inl ⟨w2, k _ H2 (s1.trans s2) ⟨D, rfl, nD, vs, d2, rd.ex (cU fun c o _ q => ⟨⟨fun z => q.1 (.inl z), q.2⟩, fun z => q.1 (.inr z)⟩)⟩⟩
 ·cases hf
theorem bQ {X : Cx} : rZ X [] (tMT b G aY) := fun pins s σ H Q I ⟨Ow, env, k, E, hf, kk⟩ => by cases hf; exact Hy pins s σ H Q I (kk H (Same.refl _))
theorem bN (S : CSc osc scope ON N cap) (tgo : TgOk b.C.K cap g gm) (hi : SI X b G false tg iter src) (hg : ∀ C s H fp, PG (X.comp N scope C s H fp) tg g) (ht : ∀ C s H fp, rZ (X.comp N scope C s H fp) ifs (tMT b.in (nU cap G) t)) (he : ∀ C s H fp, SE (X.comp N scope C s H fp) b.in (nU cap G) .val elt f)
  (hci : sU cap = true := by rfl) (hc : X.calm = true := by rfl) (hsc : X.env.scope = osc := by rfl) (hN : X.N = ON := by rfl) (hs : ∀ x, foldedSetIterable iter X.env x = pure x := by intro _; rfl) : SE X b G .own (.ListComp elt [⟨tg, iter, ifs, 0⟩] scope pos) (aV cap src gm t f) :=
 PE.imp (Ke S hi hg ht he hc hsc hN hs) fun σ H Q h => JG tgo hci h
theorem mU (i : Nat) {y : Str} {py spos : Pos} (nd : X.N.Nodup) (S : CSc osc scope ON N cap) (tgo : TgOk b.C.K cap g gm) (hi : SI X b G false tg iter src) (hg : ∀ C s H fp, PG (X.comp N scope C s H fp) tg g) (ht : ∀ C s H fp, rZ (X.comp N scope C s H fp) ifs (tMT b.in (nU cap G) t)) (he : ∀ C s H fp, SE (X.comp N scope C s H fp) b.in (nU cap G) .val elt f)
  (hG : i ∉ G := by decide) (hx : b.fx i = none := by first | rfl | assumption) (hi' : X.N[i]? = some y := by rfl) (hy : Loc X.env.scope y := by first | exact Or.inl rfl | exact Or.inr rfl) (hci : sU cap = true := by rfl)
  (hsw : swapsWith (.ListComp elt [⟨tg, iter, ifs, 0⟩] scope pos) (some (.Name y py)) spos.line X.env = pure true := by rfl)
  (hc : X.calm = true := by rfl) (hsc : X.env.scope = osc := by rfl) (hN : X.N = ON := by rfl) (hs : ∀ x, foldedSetIterable iter X.env x = pure x := by intro _; rfl)
  (hf : X.fn y = true \/ X.env.scope.names.lookup y = some .local := by first | exact .inl rfl | exact .inr rfl | assumption) :
  SS X b G G L ro (.Assign [.Name y py] (.ListComp elt [⟨tg, iter, ifs, 0⟩] scope pos) spos) (aK i (aV cap src gm t f)) :=
 PS.imp (Kf S nd hi' hy hi hg ht he hsw hc hsc hN hs hf) fun D σ H q => JG tgo hci (by
  obtain ⟨Ow, env, p, E, hf, k⟩ := N5 hG hx q
  exact ⟨Ow, env, p, E, hf, fun v H' s r => k v H' s (r.val E (by intro z; cases z))⟩)
end
def bB (n k : Nat) (ro : Bool) (f : Env -> Option Out) (ps : List PV) : Option PV := if ps.length = k then (f (ps.map some ++ List.replicate (n - k) none)).bind fun o => match o with
 | .nx _ => if ro = true then none else some .non
 | .rt p => some p
 | _ => none
 else none
@[simp] theorem Sq (n k : Nat) (ro : Bool) (f : Env -> Option Out) (ps : List PV) : bB n k ro f ps = (if ps.length = k then (f (ps.map some ++ List.replicate (n - k) none)).bind fun o => match o with
 | .nx _ => if ro = true then none else some .non
 | .rt p => some p
 | _ => none
 else none) := id rfl
theorem zQ {C : MC} {A : Addr -> Prop} {H : Hp} {N : List Str} {vs : List V} {ps : List PV} {G : List Nat} (r : Reps C A H vs ps) (hG : ∀ i, i ∈ G -> ps.length <= i) (hn : ps.length <= N.length) : ER ⟨C, A, H, fun _ => none⟩ (fun _ => False) G (L2.start N vs) (ps.map some ++ List.replicate (N.length - ps.length) none) H := by
 have hl := r.length
 have old : ∀ i p, (ps.map some ++ List.replicate (N.length - ps.length) none)[i]? = some (some p) -> ps[i]? = some p := fun i p e => by
  by_cases hi : i < ps.length
  ·rw [List.getElem?_append_left (by rw [List.length_map]; exact hi), List.getElem?_map] at e
   cases q : ps[i]? with
   | none => rw [q] at e; cases e
   | some p' => rw [q] at e; cases e; rfl
  ·rw [List.getElem?_append_right (by rw [List.length_map]; omega), List.getElem?_replicate] at e
   split at e <;> cases e
 refine ⟨?_, Same.refl _, fun a w => w.elim, fun a w => w.elim, fun i p e n => ?_, fun i p e n => ?_, fun i j a p q e1 n1 s1 e2 n2 s2 => ?_, fun k v z => by cases z⟩
 ·unfold L2.start
  simp only [List.length_append, List.length_map, List.length_replicate]
  omega
 ·obtain ⟨v, hv, rv⟩ := r.get (old i p e)
  refine ⟨v, ?_, rv.ex (cU fun a o _ q => ⟨fun z => z, .inl q⟩)⟩
  unfold L2.start
  have hi : i < vs.length := (List.getElem?_eq_some_iff.mp hv).1
  rw [List.getElem?_append_left (by rw [List.length_map]; exact hi), List.getElem?_map, hv]
  rfl
 ·have h1 := (List.getElem?_eq_some_iff.mp (old i p e)).1
  have h2 := hG i n
  omega
 ·have h1 := (List.getElem?_eq_some_iff.mp (old i p e1)).1
  have h2 := hG i n1
  omega
theorem Kw {X : Cx} {C : MC} {N : List Str} {n k : Nat} {G G' L : List Nat} {ro : Bool} {body : List Stmt} {f : Env -> Option Out} (hN : N.length = n) (hk : k <= n) (hG : (G.all fun i => decide (k <= i)) = true) (hb : ∀ A H, SSs X ⟨C, A, H, fun _ => none⟩ G G' L ro body f)
  {vs : List V} {H : Hp} {Q : VK} {E : XK} (h : spM C (bB n k ro f) ro vs H Q E) : ∃ t, PSs X body t /\ t { nx := fun _ H' => Q .non H', rt := Q } (L2.start N vs) H := by
 obtain ⟨A, ps, p, r, hm, kk⟩ := h
 refine ⟨_, hb A H, ?_⟩
 unfold bB at hm
 split at hm
 ·rename_i hl
  obtain ⟨o, ho, hm⟩ := aD hm
  refine ⟨_, _, o, zQ (N := N) (G := G) r (fun i hi => by rw [hl]; simpa using List.all_eq_true.mp hG i hi) (by omega), by rw [hN, hl]; exact ho, ?_⟩
  cases o with
  | nx e =>
   cases ro with
   | true => cases hm
   | false => cases hm; exact fun Ow' σ' H' E' _ => kk .non H' E'.same .non
  | rt q => cases hm; exact fun v H' s rr => kk v H' s rr
  | bk e => cases hm
  | ct e => cases hm
 ·cases hm
theorem Ky {C : MC} {n k : Nat} {f : Env -> Option Out} {ro ro' : Bool} {vs : List V} {H : Hp} {Q : VK} {E : XK} (h : spM C (bB n k ro' f) ro vs H Q E) : vs.length = k := by
 obtain ⟨A, ps, p, r, hm, kk⟩ := h
 unfold bB at hm
 split at hm
 ·rename_i hl; rw [r.length]; exact hl
 ·cases hm
def uq (n k c : Nat) (f : Env -> Option Out) (ps : List PV) : Option (List (Str × PV)) := if ps.length + 1 = k then (f (some (.obj c []) :: (ps.map some ++ List.replicate (n - k) none))).bind fun o => match o with
 | .nx (some (.obj c' fs) :: _) => if c' = c then some fs else none
 | _ => none
 else none
@[simp] theorem RV (n k c : Nat) (f : Env -> Option Out) (ps : List PV) : uq n k c f ps = (if ps.length + 1 = k then (f (some (.obj c []) :: (ps.map some ++ List.replicate (n - k) none))).bind fun o => match o with
 | .nx (some (.obj c' fs) :: _) => if c' = c then some fs else none
 | _ => none
 else none) := id rfl
def spI (C : MC) (c : Nat) (m : List PV -> Option (List (Str × PV))) : Sp := fun vs H Q _ => ∃ A ps fs x dx us, vs = .ref x :: us /\ H x = some (.ins (C.cl c) dx []) /\ ¬ A x /\ Reps C A H us ps /\ m ps = some fs /\
 ∀ H', (∀ a o, a ≠ x -> H a = some o -> H' a = some o) -> Top C (fun z => (A z \/ H z = none) /\ z ≠ x) H' x (.obj c fs) -> Q .non H'
theorem Kz {X : Cx} {C : MC} {N : List Str} {n k c : Nat} {G G' L : List Nat} {body : List Stmt} {f : Env -> Option Out} (hN : N.length = n) (hk : k <= n) (hG0 : 0 ∈ G) (hG1 : 0 ∈ G') (hG : (G.all fun i => decide (i = 0 \/ k <= i)) = true) (hb : ∀ A H x, SSs X ⟨C, A, H, fx0 x⟩ G G' L false body f)
  {vs : List V} {H : Hp} {Q : VK} {E : XK} (h : spI C c (uq n k c f) vs H Q E) : ∃ t, PSs X body t /\ t { nx := fun _ H' => Q .non H', rt := Q } (L2.start N vs) H := by
 obtain ⟨A, ps, fs, x, dx, us, rfl, hx, nA, r, hm, kk⟩ := h
 refine ⟨_, hb A (fun a => if a = x then none else H a) (.ref x), ?_⟩
 unfold uq at hm
 split at hm
 ·rename_i hl
  obtain ⟨o, ho, hm2⟩ := aD hm
  clear hm
  have hus := r.length
  have old : ∀ i p, (ps.map some ++ List.replicate (n - k) none)[i]? = some (some p) -> ps[i]? = some p := fun i p e => by
   by_cases hi : i < ps.length
   ·rw [List.getElem?_append_left (by rw [List.length_map]; exact hi), List.getElem?_map] at e
    cases q : ps[i]? with
    | none => rw [q] at e; cases e
    | some p' => rw [q] at e; cases e; rfl
   ·rw [List.getElem?_append_right (by rw [List.length_map]; omega), List.getElem?_replicate] at e
    split at e <;> cases e
  have low : ∀ i, i + 1 ∈ G -> ∀ p, (ps.map some ++ List.replicate (n - k) none)[i]? = some (some p) -> False := fun i hi p e => by
   have h1 := (List.getElem?_eq_some_iff.mp (old i p e)).1
   have h2 : i + 1 = 0 \/ k <= i + 1 := by simpa using List.all_eq_true.mp hG (i + 1) hi
   omega
  have E0 : ER ⟨C, A, fun a => if a = x then none else H a, fx0 (.ref x)⟩ (fun a => a = x) G (L2.start N (.ref x :: us)) (some (.obj c []) :: (ps.map some ++ List.replicate (n - k) none)) H := by
   refine ⟨?_, fun a o e => ?_, fun a w => ?_, fun a w => ?_, fun i p e n => ?_, fun i p e n => ?_, fun i j a p q e1 n1 s1 e2 n2 s2 => ?_, fun k v z => ?_⟩
   ·unfold L2.start
    simp only [List.length_append, List.length_map, List.length_replicate, List.length_cons]
    omega
   ·have e' : (if a = x then none else H a) = some o := e
    split at e'
    ·cases e'
    ·exact e'
   ·subst w; exact ⟨_, hx⟩
   ·subst w; show (if a = a then none else H a) = none; rw [if_pos rfl]
   ·cases i with
    | zero => exact absurd hG0 n
    | succ i =>
     rw [List.getElem?_cons_succ] at e
     obtain ⟨v, hv, rv⟩ := r.get (old i p e)
     refine ⟨v, ?_, rv.ex (cU fun a o _ q => ⟨fun z => nA (z ▸ q), .inl q⟩)⟩
     have hi : i < us.length := (List.getElem?_eq_some_iff.mp hv).1
     show ((V.ref x :: us).map some ++ _)[i + 1]? = _
     rw [List.map_cons, List.cons_append, List.getElem?_cons_succ, List.getElem?_append_left (by rw [List.length_map]; exact hi), List.getElem?_map, hv]
     rfl
   ·cases i with
    | zero => cases e; exact ⟨x, rfl, rfl, dx, [], hx, .nil⟩
    | succ i => exact (low i n p e).elim
   ·cases i with
    | zero =>
     cases j with
     | zero => rfl
     | succ j => exact (low j n2 q e2).elim
    | succ i => exact (low i n1 p e1).elim
   ·cases k with
    | zero => cases z; rfl
    | succ k => cases z
  refine ⟨_, _, o, E0, ho, ?_⟩
  cases o with
  | nx e =>
   cases e with
   | nil => cases hm2
   | cons s0 rest =>
    cases s0 with
    | none => cases hm2
    | some p0 =>
     cases p0 <;> simp only at hm2 <;> first | cases hm2 | skip
     rename_i c' fs'
     split at hm2
     ·rename_i hcc
      subst hcc
      cases hm2
      intro Ow' σ' H' E' _
      obtain ⟨a, h1, h2, h3⟩ := E'.own 0 _ rfl hG1
      have h4 := E'.fix 0 (.ref x) rfl
      rw [h1] at h4
      cases h4
      refine kk H' (fun a o na e => E'.same a o (by show (if a = x then none else H a) = some o; rw [if_neg na]; exact e)) (h3.ex (cU fun z o _ q => ?_) fun o z => z)
      have nz : z ≠ x := fun y => q.1 (y ▸ h2)
      refine ⟨q.2.imp id fun y => ?_, nz⟩
      have y' : (if z = x then none else H z) = none := y
      rwa [if_neg nz] at y'
     ·cases hm2
  | rt q => cases hm2
  | bk e => cases hm2
  | ct e => cases hm2
 ·cases hm
theorem KC {C : MC} {n k c c' : Nat} {f : Env -> Option Out} {vs : List V} {H : Hp} {Q : VK} {E : XK} (h : spI C c' (uq n k c f) vs H Q E) : vs.length = k := by
 obtain ⟨A, ps, fs, x, dx, us, rfl, hx, nA, r, hm, kk⟩ := h
 unfold uq at hm
 split at hm
 ·rename_i hl; rw [List.length_cons, r.length]; exact hl
 ·cases hm
structure CalI (P : Program) (w : World) (K : PySem.W.Frag) (mg : Str -> Option Value) (base : Heap) (C : Addr) (k : Nat) (x : Str) (ps : List Str) (sp : Sp) : Prop where
 ex : ∃ f fd, FnOk P w K mg base CX0 k f fd ps sp /\ Binds K fd ps [] /\ Mk K C f /\ mg x = some (.ref C)
def DN (c : Nat) (m : List PV -> Option (List (Str × PV))) (g : Env -> Option (List PV)) (env : Env) : Option PV := (g env).bind fun ps => (m ps).bind fun fs => some (.obj c fs)
@[simp] theorem RX (c : Nat) (m : List PV -> Option (List (Str × PV))) (g : Env -> Option (List PV)) (env : Env) : DN c m g env = ((g env).bind fun ps => (m ps).bind fun fs => some (.obj c fs)) := id rfl
def Ob (c : Nat) (m : List PV -> Option (List (Str × PV))) (g : Env -> Option (List PV)) (env : Env) : Option PV := (g env).bind fun ps => (m ps).bind fun fs => if u9 fs = true then some (.obj c fs) else none
@[simp] theorem Q6 (c : Nat) (m : List PV -> Option (List (Str × PV))) (g : Env -> Option (List PV)) (env : Env) : Ob c m g env = ((g env).bind fun ps => (m ps).bind fun fs => if u9 fs = true then some (.obj c fs) else none) := id rfl
section
variable {X : Cx} {b : BX} {G : List Nat} {pos p : Pos} {e : Expr} {es : List Expr} {g : Env -> Option (List PV)}
theorem Ia {c : Nat} {mi : List PV -> Option (List (Str × PV))} {L : Bool} {σ : St} {H : Hp} {Q : VK} {Ow : Addr -> Prop} {env : Env} {qs : List PV} {fs : List (Str × PV)} (E : ER b Ow G σ env H) (q1 : g env = some qs) (q2 : mi qs = some fs) (hl : L = true -> u9 fs = true)
  (kk : ∀ v H', Same H H' -> Res b Ow H H' .own v (.obj c fs) -> Q v H') : Jt (b.C.cl c) (spI b.C c mi) [] E0 (tMA b G L g) σ H Q := by
 refine ⟨Ow, env, qs, E, q1, fun vs H1 s1 r x dx hx hdx hne => ?_⟩
 rw [List.append_nil]
 have s2 : Same H1 (upd (upd H1 dx (.own x)) x (.ins (b.C.cl c) dx [])) := fun a o h => by rw [aW (bh h hx), aW (bh h hdx)]; exact h
 have nw : (upd (upd H1 dx (.own x)) x (.ins (b.C.cl c) dx [])) x = some (.ins (b.C.cl c) dx []) := bO
 refine ⟨fun a => ArA b Ow L H1 a /\ a ≠ x, qs, fs, x, dx, vs, rfl, nw, fun z => z.2 rfl, r.ex fun a o h => ⟨fun q => ⟨s2 _ _ h, q, bh h hx⟩, fun _ => s2 _ _ h⟩, q2, fun H' hH t => ⟨rfl, kk _ H' ?_ ⟨x, rfl, s1.free hx, ?_⟩⟩⟩
 ·exact fun a o h => hH a o (bh (s1 _ _ h) hx) (s2 _ _ (s1 _ _ h))
 ·obtain ⟨dx', f, h1, h2⟩ := t
  refine ⟨dx', f, h1, ?_⟩
  have keep : ∀ a o, H1 a = some o -> H' a = some o := fun a o h => hH a o (bh h hx) (s2 _ _ h)
  have old : ∀ a, (upd (upd H1 dx (.own x)) x (.ins (b.C.cl c) dx [])) a = none -> H1 a = none := fun a h => s2.free h
  cases L with
  | false => exact h2.ex (cU fun z o _ q => ⟨q.1.elim (fun y => y.1.elim id fun y' => by cases y'.1) fun y => (E.up s1).fresh (old z y), q.2⟩)
  | true =>
   refine h2.nl (fun a o ha z => ?_) (hl rfl)
   rcases z with ⟨(⟨z | ⟨_, us, z⟩, _⟩ | z), nz⟩
   ·exact .inl ⟨z, nz⟩
   ·have := keep _ _ z
    rw [this] at ha
    exact .inr ⟨us, (Option.some.inj ha).symm⟩
   ·exact .inl ⟨(E.up s1).fresh (old a z), nz⟩
theorem KD {c k j : Nat} {x : Str} {ps : List Str} {mi : List PV -> Option (List (Str × PV))} (cI : CalI X.prog X.w X.K X.mg X.base (b.C.cl c) k x ps (spI b.C c mi)) (hr : Room j X.A) (ha : SA X b G false (e :: es) g) (hle : k + 1 <= j := by decide) (hg : Gl X x := by rfl)
  (hdb : (x == ("__debug__" : Str)) = false := by decide) (he : starEach (e :: es) X.env = (false, eval e X.env) :: starEach es X.env := by rfl) (hpl : (backTo pos (starEach es X.env)).any (·.1) = false := by rfl) :
  SE X b G .own (.Call (.Name x p) (e :: es) [] pos) (DN c mi g) := by
 obtain ⟨f, fd, F, hb, hM, hm⟩ := cI.ex
 refine PE.imp (J4 hM F (hr.mono hle) hg hm hb .nil Dn ha hdb he hpl) fun σ H Q ⟨Ow, env, q, E, hf, kk⟩ => ?_
 obtain ⟨qs, q1, hf⟩ := aD hf
 obtain ⟨fs, q2, hf⟩ := aD hf
 cases hf
 exact Ia E q1 q2 (fun z => by cases z) kk
@[simp] def tyN : PV -> Option String
 | .non => some "NoneType"
 | .bl _ => some "bool"
 | .int _ => some "int"
 | .str _ => some "str"
 | .lst _ => some "list"
 | .tup _ => some "tuple"
 | .dK _ => some "dict"
 | .dT _ => some "dict"
 | _ => none
def nW (tb : List (String × Bool)) (p : PV) : Option PV := (tyN p).bind fun t => (tb.lookup t).bind fun k => some (.bl k)
@[simp] theorem KH (tb : List (String × Bool)) (p : PV) : nW tb p = ((tyN p).bind fun t => (tb.lookup t).bind fun k => some (.bl k)) := id rfl
theorem RepB.ty {C : MC} {A : Addr -> Prop} {H : Hp} {v : V} {p : PV} {t : String} (r : RepB C A H v p) (h : tyN p = some t) : TyOf C.K H v (.type t) := by
 cases p <;> simp only [tyN] at h <;> cases h
 ·rw [r.non]; exact .non
 ·rw [r.bl]; exact .bl _
 ·rw [r.int]; exact .int _
 ·rw [r.str]; exact .str _
 ·obtain ⟨a, vs, rfl, ha, _⟩ := r.lst; exact .lst ha
 ·obtain ⟨a, vs, rfl, ha, _⟩ := r.tup; exact .tup ha
 ·obtain ⟨a, vs, rfl, ha, _⟩ := r.dK; exact .dK ha
 ·obtain ⟨a, vs, rfl, ha, _⟩ := r.dT; exact .dT ha
theorem zR {α β : Type} [BEq α] [LawfulBEq α] {x : α} {y : β} : ∀ {l : List (α × β)}, l.lookup x = some y -> (x, y) ∈ l
 | [], h => by cases h
 | (a, c) :: r, h => by
  rw [List.lookup_cons] at h
  cases q : x == a with
  | true => rw [q] at h; cases h; have := eq_of_beq q; subst this; exact List.mem_cons_self
  | false => rw [q] at h; exact List.mem_cons_of_mem _ (zR h)
theorem oX {m : Md} {f : Env -> Option PV} {n : Str} {n' : String} {p1 : Pos} (tb : List (String × Bool)) (hk : ∀ t k, (t, k) ∈ tb -> PySem.W.kitOne X.K (.type t) (.type n') = some k) (hm : X.mg "isinstance" = none) (hmn : X.mg n = none) (hbn : bootBuiltins n = some (.type n')) (h : SE X b G m e f) (hK : X.K = b.C.K := by rfl) (hg : Gl X "isinstance" := by rfl) (hgn : Gl X n := by rfl)
  (hbi : bootBuiltins "isinstance" = some (.builtin "isinstance") := by decide +kernel) (hn1 : n ≠ "__name__" := by decide) (hd : (n == ("__debug__" : Str)) = false := by decide)
  (he : starEach [e, .Name n p1] X.env = (false, eval e X.env) :: starEach [.Name n p1] X.env := by rfl) (he2 : starEach [.Name n p1] X.env = (false, eval (.Name n p1) X.env) :: starEach [] X.env := by rfl) (hpl : (backTo pos (starEach [.Name n p1] X.env)).any (·.1) = false := by rfl) :
  SE X b G .val (.Call (.Name "isinstance" p) [e, .Name n p1] [] pos) (b1 (nW tb) f) := by
 refine PE.imp (zu Br hg hm hbi (fL h.bor (fL (JQ (v := .ty n') hgn hmn hbn rfl hn1 hd) jJ he2) he) (by decide) (by decide) he hpl) fun σ H Q ⟨Ow, env, q, E, hf, kk⟩ => ?_
 obtain ⟨p1, hp1, hf⟩ := aD hf
 obtain ⟨t, ht, hf⟩ := aD hf
 obtain ⟨k, hk', hf⟩ := aD hf
 cases hf
 refine ⟨Ow, env, p1, E, hp1, fun v H1 s r => ?_⟩
 have r1 : RepB b.C (Bs b Ow) H1 v p1 := r
 exact ⟨v, n', .type t, k, rfl, by rw [hK]; exact r1.ty ht, hk t k (zR hk'), kk _ H1 s (.bl k)⟩
end
end MR
namespace MR
open PySem L2
def BX.fixed (b : BX) (j : Nat) (v : V) : BX := { b with fx := fun i => if i = j then some v else b.fx i }
def zb (j : Nat) (g : PV -> Env -> Option Env) (ds : List Nat) (body : Env -> Option Out) : Nat -> Nat -> Env -> Option Out
 | 0, _, _ => none
 | n + 1, k, env => match bV j env with
  | some (.lst ys) => match ys[k]? with
   | none => some (.nx env)
   | some y => (g y env).bind fun e1 => (body e1).bind fun o => match o with
    | .nx e => zb j g ds body n (k + 1) (clr ds e)
    | .ct e => zb j g ds body n (k + 1) (clr ds e)
    | .bk e => some (.nx (clr ds e))
    | .rt p => some (.rt p)
  | _ => none
def QG (j n : Nat) (g : PV -> Env -> Option Env) (ds : List Nat) (body : Env -> Option Out) (env : Env) : Option Out := zb j g ds body n 0 (clr ds env)
@[simp] theorem RZ (j n : Nat) (g : PV -> Env -> Option Env) (ds : List Nat) (body : Env -> Option Out) (env : Env) : QG j n g ds body env = zb j g ds body n 0 (clr ds env) := id rfl
theorem DP {X : Cx} {α : Type} {st : Stmt} {t : α -> TS} (h : ∀ a, PS X st (t a)) : PS X st (fun D σ H => ∃ a, t a D σ H) := fun pins s σ H D I ⟨a, q⟩ => h a pins s σ H D I q
section
variable {X : Cx} {b : BX} {G G' L : List Nat} {ro : Bool} {pos : Pos}
theorem ER.free {Ow Ow' : Addr -> Prop} {σ σ' : St} {env env' : Env} {H H' : Hp} {j : Nat} {v : V} (E0 : ER b Ow G σ env H) (h : σ[j]? = some (some v)) (E : ER (b.fixed j v) Ow' G' σ' env' H') : ER b Ow' G' σ' env' H' :=
 ⟨E.len, E.same, E.live, E.new, E.val, E.own, E.sep, fun i w e => by
  by_cases hi : i = j
  ·subst hi
   have h1 := E0.fix i w e
   rw [h] at h1
   cases h1
   exact E.fix i v (if_pos rfl)
  ·exact E.fix i w ((if_neg hi).trans e)⟩
def vd (xs ys : List PV) : List PV := List.zipWith (fun x y => .tup [x, y]) xs ys
def iZ (f g : Env -> Option PV) (env : Env) : Option (List PV) := (f env).bind fun p => (g env).bind fun q => match p, q with
 | .lst xs, .lst ys => some (vd xs ys)
 | _, _ => none
@[simp] theorem Ti (f g : Env -> Option PV) (env : Env) : iZ f g env = ((f env).bind fun p => (g env).bind fun q => match p, q with
 | .lst xs, .lst ys => some (vd xs ys)
 | _, _ => none) := id rfl
theorem Oc {fr : Bool} {m1 m2 : Md} {e1 e2 : Expr} {h1 h2 : Env -> Option PV} {es : List Expr} {x1 : Nat} {tpos p pos : Pos} (hm : X.mg "zip" = none) (he : SE X b G m1 e1 h1) (he2 : SE X b G m2 e2 h2) (hmd : fr = true -> m1 ≠ .bor) (hmd2 : fr = true -> m2 ≠ .bor) (hK : X.K = b.C.K := by rfl) (hg : Gl X "zip" := by rfl)
  (hs : starEach [e1, e2] X.env = (false, eval e1 X.env) :: starEach [e2] X.env := by rfl) (hs2 : starEach [e2] X.env = (false, eval e2 X.env) :: starEach [] X.env := by rfl) (hp : (backTo pos (starEach [e2] X.env)).any (·.1) = false := by rfl) :
  SI X b G fr (.Tuple es x1 tpos) (.Call (.Name "zip" p) [e1, e2] [] pos) (iZ h1 h2) := by
 refine PI.imp (Nk hg hm (fL he (fL he2 jJ hs2) hs) hs hp) fun σ H R ⟨Ow, env, ps, E, hf, k⟩ => ?_
 rw [hK]
 obtain ⟨p1, hp1, hps1⟩ := aD hf
 clear hf
 obtain ⟨p2, hp2, hps⟩ := aD hps1
 clear hps1
 refine ⟨Ow, env, p1, E, hp1, fun v H1 s r => ⟨Ow, env, p2, E.up s, hp2, fun v2 H2 s2 r2 => ?_⟩⟩
 have r' : Res b Ow H H2 m1 v p1 := Res.up r s2
 have b1 : RepB b.C (Bs b Ow) H2 v p1 := r'.bor
 have b2 : RepB b.C (Bs b Ow) H2 v2 p2 := r2.bor
 cases p1 <;> cases p2 <;> simp only at hps <;> cases hps
 rename_i xs ys
 obtain ⟨a, vs, rfl, ha, ra⟩ := b1.lst
 obtain ⟨c, us, rfl, hc, rc⟩ := b2.lst
 refine ⟨a, c, rfl, ⟨vs, SqL.of ha⟩, ⟨us, SqL.of hc⟩, k _ _ (s.trans s2) fun Ow' H3 h0 hx hn => ?_⟩
 have hq : H3 a = some (.lst vs) /\ Reps b.C (Bs b Ow') H3 vs xs := by
  refine ⟨?_, ra.ex hx⟩
  cases fr with
  | false => exact h0 rfl _ _ ha
  | true =>
   have rv : Rep b.C (Bs b Ow) H2 (.ref a) (.lst _) := r'.val E (hmd rfl)
   cases rv with
   | lst q1 q2 q3 => rw [ha] at q1; cases q1; exact ((hx _ _ ha).1 q2).1
 have hq2 : H3 c = some (.lst us) /\ Reps b.C (Bs b Ow') H3 us ys := by
  refine ⟨?_, rc.ex hx⟩
  cases fr with
  | false => exact h0 rfl _ _ hc
  | true =>
   have rv : Rep b.C (Bs b Ow) H2 (.ref c) (.lst _) := r2.val (E.up s) (hmd2 rfl)
   cases rv with
   | lst q1 q2 q3 => rw [hc] at q1; cases q1; exact ((hx _ _ hc).1 q2).1
 refine ⟨fun i p hp' => ?_, ⟨vs, us, SqL.of hq.1, SqL.of hq2.1, ?_⟩⟩
 ·unfold vd at hp'
  rw [List.getElem?_zipWith] at hp'
  cases qx : xs[i]? with
  | none => rw [qx] at hp'; simp at hp'
  | some x =>
   cases qy : ys[i]? with
   | none => rw [qx, qy] at hp'; simp at hp'
   | some y =>
    rw [qx, qy] at hp'
    cases hp'
    obtain ⟨v, hv, rv⟩ := hq.2.get qx
    obtain ⟨u, hu, ru⟩ := hq2.2.get qy
    refine ⟨⟨vs, v, us, u, SqL.of hq.1, hv, SqL.of hq2.1, hu⟩, fun z H' yl => ?_⟩
    obtain ⟨t, x', y', ht, e1, e2, y1, y2⟩ := yl
    subst e1 e2
    have e3 := y1 vs (SqL.of hq.1)
    have e4 := y2 us (SqL.of hq2.1)
    rw [hv] at e3
    rw [hu] at e4
    cases e3
    cases e4
    exact ⟨bA ht _, .tup bO (.cons (rv.ex (.of_same (bA ht _))) (.cons (ru.ex (.of_same (bA ht _))) .nil))⟩
 ·have l1 := hq.2.length
  have l2 := hq2.2.length
  unfold vd
  rw [List.length_zipWith]
  omega
end
end MR
namespace L2
open PySem PySem.Spec PyProof.Rows
section
variable {X : Cx}
end
end L2
namespace MR
open PySem L2
section
variable {X : Cx} {b : BX} {G G' L : List Nat} {ro : Bool} {pos p : Pos} {m m1 m2 : Md} {e e1 e2 : Expr} {f f1 f2 : Env -> Option PV}
@[simp] def Tu : PV -> PV -> Option PV
 | .int i, .int j => some (.int (if j < i then j else i))
 | _, _ => none
@[simp] def maxV : PV -> PV -> Option PV
 | .int i, .int j => some (.int (if j > i then j else i))
 | _, _ => none
@[simp] def Q8 : PV -> PV -> Option PV
 | .str x, .str y => some (.bl (Txt.endswith x y))
 | _, _ => none
end
end MR
namespace MR
open PySem L2
section
variable {X : Cx} {b : BX} {G G' L : List Nat} {ro : Bool} {pos p : Pos} {m m1 m2 : Md} {e e1 e2 : Expr} {f f1 f2 h : Env -> Option PV}
@[simp] def Tv : PV -> PV -> Option PV
 | .lst xs, .lst ys => if xs.length + ys.length <= 1000000 then some (.lst (xs ++ ys)) else none
 | _, _ => none
@[simp] def Tw : PV -> PV -> Option PV
 | .lst xs, .int k => if -1000000 <= k /\ k <= 1000000 /\ xs.length * k.toNat <= 1000000 then some (.lst (List.replicate k.toNat xs).flatten) else none
 | _, _ => none
@[simp] def S7 : PV -> Option PV
 | .lst xs => some (.tup xs)
 | .frz xs => some (.tup xs)
 | .tup xs => some (.tup xs)
 | _ => none
@[simp] def Tj : PV -> Option PV
 | .int j => if 0 <= j /\ j <= 1000000 then some (.lst (cW 0 j)) else none
 | _ => none
@[simp] def Tn : PV -> Option PV
 | .lst xs => some (.lst xs.reverse)
 | _ => none
def iRv (f : Env -> Option PV) (env : Env) : Option (List PV) := (f env).bind fun p => match p with
 | .lst xs => some xs.reverse
 | _ => none
@[simp] theorem S8 (f : Env -> Option PV) (env : Env) : iRv f env = ((f env).bind fun p => match p with
 | .lst xs => some xs.reverse
 | _ => none) := id rfl
def dnV (n : Int) : List PV := (List.range (n + 1).toNat).reverse.map fun i => .int (i : Nat)
def iDn (f : Env -> Option PV) (env : Env) : Option (List PV) := (f env).bind fun p => match p with
 | .int n => if -1 <= n /\ n <= 1000000 then some (dnV n) else none
 | _ => none
@[simp] theorem S9 (f : Env -> Option PV) (env : Env) : iDn f env = ((f env).bind fun p => match p with
 | .int n => if -1 <= n /\ n <= 1000000 then some (dnV n) else none
 | _ => none) := id rfl
@[simp] def Tp : PV -> Option PV
 | .lst xs => some (.lst xs.reverse)
 | _ => none
def Gk (d : PyData) : List PyData -> Nat -> Option Nat
 | [], _ => none
 | e :: es, n => if PyData.eqv e d = true then some n else Gk d es (n + 1)
def idxV (xs : List PV) (y : PV) : Option Nat := match toD y, d_ xs with
 | some d, some ds => if d.canLay0 = true /\ PyData.canLayAll0 ds = true /\ d.depth <= 32 /\ ds.length <= 1000000 then Gk d ds 0 else none
 | _, _ => none
@[simp] def S_ : PV -> PV -> Option PV
 | .lst xs, y => (idxV xs y).map fun n => .int (n : Nat)
 | _, _ => none
def R0 (g : PV -> Env -> Option Env) (f : Env -> Option PV) (env : Env) : Option Out := (f env).bind fun p => (g p env).bind fun e => some (.nx e)
@[simp] theorem Ss (g : PV -> Env -> Option Env) (f : Env -> Option PV) (env : Env) : R0 g f env = ((f env).bind fun p => (g p env).bind fun e => some (.nx e)) := id rfl
end
end MR
namespace MR
open PySem L2
section
variable {X : Cx} {b : BX} {G G' L : List Nat} {ro : Bool} {pos p p2 pos2 : Pos} {m m1 m2 : Md} {e e1 e2 : Expr} {f f1 f2 h : Env -> Option PV}
end
end MR
namespace MR
theorem DQ {α : Type} {n : Nat} {us : List α} (hl : us.length = n + 1) : ∃ a r, us = a :: r /\ r.length = n := by
 cases us with
 | nil => cases hl
 | cons a r => exact ⟨a, r, rfl, Nat.succ.inj hl⟩
@[elab_as_elim] theorem len0 {α : Type} {P : List α -> Prop} (us : List α) (hl : us.length = 0) (h : P []) : P us := by
 cases us with
 | nil => exact h
 | cons a r => cases hl
@[elab_as_elim] theorem len1 {α : Type} {P : List α -> Prop} (us : List α) (hl : us.length = 1) (h : ∀ a, P [a]) : P us := by
 obtain ⟨a, r, rfl, hr⟩ := DQ hl
 exact len0 (P := fun r => P (a :: r)) r hr (h a)
@[elab_as_elim] theorem len2 {α : Type} {P : List α -> Prop} (us : List α) (hl : us.length = 2) (h : ∀ a b, P [a, b]) : P us := by
 obtain ⟨a, r, rfl, hr⟩ := DQ hl
 exact len1 (P := fun r => P (a :: r)) r hr (h a)
@[elab_as_elim] theorem len3 {α : Type} {P : List α -> Prop} (us : List α) (hl : us.length = 3) (h : ∀ a b c, P [a, b, c]) : P us := by
 obtain ⟨a, r, rfl, hr⟩ := DQ hl
 exact len2 (P := fun r => P (a :: r)) r hr (h a)
@[elab_as_elim] theorem len4 {α : Type} {P : List α -> Prop} (us : List α) (hl : us.length = 4) (h : ∀ a b c d, P [a, b, c, d]) : P us := by
 obtain ⟨a, r, rfl, hr⟩ := DQ hl
 exact len3 (P := fun r => P (a :: r)) r hr (h a)
end MR
namespace L2
open PySem PySem.Spec PyProof PyProof.Rows
section
variable {X : Cx}
end
end L2
namespace MR
open PySem L2
section
variable {X : Cx} {b : BX} {G G' L : List Nat} {pos p p2 pos2 : Pos} {m m1 m2 : Md} {e : Expr} {f : Env -> Option PV}
@[simp] def intsP : List PV -> Option (List Int)
 | [] => some []
 | .int c :: r => (intsP r).map (c :: ·)
 | _ :: _ => none
theorem Reps.intsP {C : MC} {A : Addr -> Prop} {H : Hp} : ∀ {vs : List V} {ps : List PV} {bs : List Int}, Reps C A H vs ps -> intsP ps = some bs -> vs = bs.map V.int
 | _, _, _, .nil, e => by cases e; rfl
 | _, _, _, .cons (p := p) (ps := ps) h t, e => by
  cases p <;> simp only [MR.intsP] at e <;> first | cases e | skip
  rename_i c
  cases q : MR.intsP ps with
  | none => rw [q] at e; cases e
  | some bs => rw [q] at e; cases e; cases h; rw [Reps.intsP t q]; rfl
@[simp] def Tz : PV -> Option PV
 | .lst xs => (intsP xs).map fun ns => .int ns.sum
 | _ => none
end
end MR
namespace L2
open PySem PySem.Spec PyProof PyProof.Rows
def sV : List Int -> Int
 | [] => 0
 | a :: l => l.foldl (fun m x => if m < x then x else m) a
theorem vQ : ∀ (l : List Int) (a : Int), a <= l.foldl (fun m x => if m < x then x else m) a /\ ∀ x ∈ l, x <= l.foldl (fun m x => if m < x then x else m) a
 | [], a => ⟨Int.le_refl _, fun x hx => by cases hx⟩
 | b :: l, a => by
  obtain ⟨h1, h2⟩ := vQ l (if a < b then b else a)
  have hg : a <= (if a < b then b else a) /\ b <= (if a < b then b else a) := by split <;> omega
  rw [List.foldl_cons]
  generalize (if a < b then b else a) = g at *
  refine ⟨Int.le_trans hg.1 h1, fun x hx => ?_⟩
  rcases List.mem_cons.mp hx with e | e
  ·subst e; exact Int.le_trans hg.2 h1
  ·exact h2 x e
theorem uQ : ∀ (l : List Int) (a : Int), l.foldl (fun m x => if m < x then x else m) a = a \/ l.foldl (fun m x => if m < x then x else m) a ∈ l
 | [], a => .inl rfl
 | b :: l, a => by
  rw [List.foldl_cons]
  rcases uQ l (if a < b then b else a) with h | h
  ·rw [h]
   split
   ·exact .inr (by simp)
   ·exact .inl rfl
  ·exact .inr (List.mem_cons_of_mem _ h)
theorem xZ {l : List Int} {M : Int} (hm : M ∈ l) (hg : ∀ a ∈ l, a <= M) : sV l = M := by
 cases l with
 | nil => cases hm
 | cons a l =>
  obtain ⟨h1, h2⟩ := vQ l a
  have h3 : sV (a :: l) = l.foldl (fun m x => if m < x then x else m) a := rfl
  rw [h3]
  have h4 : M <= l.foldl (fun m x => if m < x then x else m) a := by
   rcases List.mem_cons.mp hm with e | e
   ·subst e; exact h1
   ·exact h2 M e
  have h5 : l.foldl (fun m x => if m < x then x else m) a <= M := by
   rcases uQ l a with e | e
   ·rw [e]; exact hg a (by simp)
   ·exact hg _ (List.mem_cons_of_mem _ e)
  omega
section
variable {X : Cx}
theorem Gm (hc : X.calm = true := by rfl) : CallR X (.builtin "max") (fun xs H Q => ∃ (p : Addr) (ns : List Int), xs = [.ref p] /\ SqL X.K H p (ns.map V.int) /\ ns ≠ [] /\ Q (.int (sV ns)) H) := by
 intro pins s σ H xs us Q I r h
 obtain ⟨l, ns, rfl, hq, hne, q⟩ := h
 obtain ⟨u, rfl, rx⟩ := vals1 r
 cases rx
 obtain ⟨its, r', pl, hz⟩ := I.list hq
 have hi := intsAre_of r'
 obtain ⟨ys, hy⟩ := hi.allInts.items
 have hl : s.heap.IsList l (intItems ys) := hy ▸ pl.isList
 have e1 : ns = ys.toList.map (·.1) := by
  rw [← nums_intItems, ← hy]
  exact (show numsOf its.toArray.toList = ns from hi.numsOf).symm
 have hsz : 0 < ys.size := by
  rcases Nat.eq_zero_or_pos ys.size with z | z
  ·exfalso
   apply hne
   rw [e1]
   have : ys.toList = [] := List.length_eq_zero_iff.mp (by rw [Array.length_toList]; exact z)
   rw [this]
   rfl
  ·exact z
 refine max_intList (I.ok.hd hc) hl hsz fun v h' tk hv hk => ?_
 obtain ⟨t, rfl⟩ := intItems_at hv
 obtain ⟨h1, h2⟩ := argBest_gt (numAt ys) (ys.size - 1)
 have hmx : sV ns = numAt ys (argBest (fun i j => decide (numAt ys i > numAt ys j)) (ys.size - 1)) := by
  refine xZ ?_ fun a ha => ?_
  ·rw [e1, numAt_eq]; exact getD_mem (by rw [List.length_map, Array.length_toList]; omega)
  ·rw [e1] at ha
   obtain ⟨j, hj, rfl⟩ := mem_getD ha
   rw [List.length_map, Array.length_toList] at hj
   rw [← numAt_eq]; exact h2 j (by omega)
 exact ⟨.int (sV ns), H, I.kept hk, ⟨t, by rw [hmx]⟩, q⟩
end
end L2
namespace MR
open PySem L2
section
variable {X : Cx} {b : BX} {G : List Nat} {pos p : Pos} {m1 : Md} {e : Expr} {f : Env -> Option PV}
@[simp] def ur : PV -> Option PV
 | .lst (x :: xs) => (intsP (x :: xs)).map fun ns => .int (sV ns)
 | _ => none
theorem KJ (hm : X.mg "max" = none) (h : SE X b G m1 e f) (hcm : X.calm = true := by rfl) (hK : X.K = b.C.K := by rfl) (hg : Gl X "max" := by rfl) (he : starEach [e] X.env = (false, eval e X.env) :: starEach [] X.env := by rfl) : SE X b G .val (.Call (.Name "max" p) [e] [] pos) (b1 ur f) := by
 refine vN (Gm hcm) (fun Ow H v1 p1 p Q hn r1 e k => ?_) hm PyProof.Rows.boot_max h hg (by decide) (by decide) he
 rw [hK]
 unfold ur at e
 split at e
 ·rename_i x xs
  obtain ⟨a, vs, rfl, ha, ra⟩ := r1.lst
  obtain ⟨ns, h1, h2⟩ := Option.map_eq_some_iff.mp e
  subst h2
  have hv := ra.intsP h1
  subst hv
  refine ⟨a, ns, rfl, SqL.of ha, fun z => ?_, k _ H (Same.refl _) (.int _)⟩
  subst z
  have := ra.length
  simp at this
 ·cases e
end
end MR
namespace My
open PySem L2 MR
@[simp] theorem Su (i j : Int) : eqP (.int i) (.int j) = some (decide (i = j)) := rfl
@[simp] theorem Cq (i j : Str) : eqP (.str i) (.str j) = some (decide (i = j)) := rfl
@[simp] theorem Tc (i j : Bool) : eqP (.bl i) (.bl j) = some (decide (i = j)) := rfl
theorem ut {α : Type} {xs : List α} {i : Int} (h0 : 0 <= i) (h1 : i < xs.length) : atI xs i = xs[i.toNat]? := by
 unfold atI ixN
 rw [if_pos h0, if_pos h1]
 rfl
theorem cu {α : Type} {xs : List α} {k : Nat} {x : α} (h : xs[k]? = some x) : atI xs (k : Int) = some x := atI_nat h
section
variable {α : Type} {env : MR.Env} {g : PV -> MR.Env -> Option MR.Env} {t : MR.Env -> Option Bool} {f : MR.Env -> Option PV}
theorem bw (c h : α -> PV) : ∀ (ys : List α), (∀ y ∈ ys, ∃ e, g (c y) env = some e /\ f e = some (h y)) -> bJ env g aY f (ys.map c) = some (ys.map h)
 | [], _ => rfl
 | y :: ys, hh => by
  obtain ⟨e, h1, h2⟩ := hh y List.mem_cons_self
  have ih := bw c h ys fun z hz => hh z (List.mem_cons_of_mem _ hz)
  simp [bJ, h1, h2, ih]
theorem bW (c h : α -> PV) (p : α -> Bool) : ∀ (ys : List α), (∀ y ∈ ys, ∃ e, g (c y) env = some e /\ t e = some (p y) /\ (p y = true -> f e = some (h y))) -> bJ env g t f (ys.map c) = some ((ys.filter p).map h)
 | [], _ => rfl
 | y :: ys, hh => by
  obtain ⟨e, h1, h2, h3⟩ := hh y List.mem_cons_self
  have ih := bW c h p ys fun z hz => hh z (List.mem_cons_of_mem _ hz)
  cases hp : p y with
  | true => simp [bJ, h1, h2, h3 hp, ih, hp]
  | false => simp [bJ, h1, h2, ih, hp]
theorem vR {S : Type} {ds : List Nat} {body : MR.Env -> Option Out} (c : α -> PV) (E : S -> MR.Env) (step : S -> α -> S) : ∀ (ys : List α) (s : S), (∀ y ∈ ys, ∀ s, ∃ e1 e2, g (c y) (E s) = some e1 /\ body e1 = some (.nx e2) /\ clr ds e2 = E (step s y)) ->
  bF g ds body (ys.map c) (E s) = some (.nx (E (ys.foldl step s)))
 | [], s, _ => rfl
 | y :: ys, s, hh => by
  obtain ⟨e1, e2, h1, h2, h3⟩ := hh y List.mem_cons_self s
  have ih := vR c E step ys (step s y) fun z hz => hh z (List.mem_cons_of_mem _ hz)
  simp [bF, h1, h2, h3, ih]
theorem vU {ds : List Nat} {body : MR.Env -> Option Out} (c : α -> PV) : ∀ (ys : List α), (∀ y ∈ ys, ∃ e1 e2, g (c y) env = some e1 /\ body e1 = some (.nx e2) /\ clr ds e2 = env) -> bF g ds body (ys.map c) env = some (.nx env)
 | [], _ => rfl
 | y :: ys, hh => by
  obtain ⟨e1, e2, h1, h2, h3⟩ := hh y List.mem_cons_self
  have ih := vU c ys fun z hz => hh z (List.mem_cons_of_mem _ hz)
  simp [bF, h1, h2, h3, ih]
end
theorem sW {α : Type} (c : α -> PV) : ∀ (ys : List α) (n : Nat), fu n (ys.map c) = (ys.zipIdx n).map fun y => .tup [.int (y.2 : Nat), c y.1]
 | [], _ => rfl
 | y :: ys, n => by simp [fu, sW c ys]
def sdP (ks : List Str) : List (Key × PV) := ks.map fun x => ((Sum.inr x : Key), PV.bl true)
theorem vV (ks : List Str) : (sdP ks).length = ks.length := by simp [sdP]
theorem zT (x : Str) : ∀ ks : List Str, fM (sdP ks) (Sum.inr x : Key) = if x ∈ ks then some (.bl true) else none
 | [] => rfl
 | k :: r => by
  have ih := zT x r
  unfold fM at ih ⊢
  show ((((Sum.inr k : Key), PV.bl true) :: sdP r).find? _).map _ = _
  by_cases h : k = x
  ·subst h; simp
  ·have h' : ¬ x = k := fun e => h e.symm
   have hk : ¬ (Sum.inr k : Key) = Sum.inr x := fun e => h (Sum.inr.inj e)
   rw [List.find?_cons_of_neg (by simpa using hk), ih]
   simp [h']
theorem vW (x : Str) (ks : List Str) : inP (.str x) (.dK (sdP ks)) = some (decide (x ∈ ks)) := by
 simp only [inP, keyOf, Option.map_some, zT]
 by_cases h : x ∈ ks <;> simp [h]
def o8 (ks : List Str) (x : Str) : List Str := if x ∈ ks then ks else ks ++ [x]
theorem KN (ks : List Str) (x : Str) : lu (sdP ks) (Sum.inr x : Key) (.bl true) = sdP (o8 ks x) := by
 have hany : ((sdP ks).any fun kv => decide (kv.1 = (Sum.inr x : Key))) = decide (x ∈ ks) := by
  unfold sdP
  rw [List.any_map]
  induction ks with
  | nil => simp
  | cons k r ih =>
   rw [List.any_cons, ih]
   by_cases h : k = x
   ·subst h; simp
   ·have h' : ¬ x = k := fun e => h e.symm
    simp [h, h']
 unfold lu o8
 rw [hany]
 by_cases h : x ∈ ks
 ·rw [if_pos (by simpa using h), if_pos h]
  unfold sdP
  rw [List.map_map]
  refine List.map_congr_left fun y _ => ?_
  by_cases e : y = x
  ·subst e; simp
  ·have : ¬ (Sum.inr y : Key) = Sum.inr x := fun z => e (Sum.inr.inj z)
   simp [this]
 ·rw [if_neg (by simpa using h), if_neg h]
  unfold sdP
  simp
def lJ (ks ws : List Str) : List Str := ws.foldl o8 ks
def gb (kind : Str) (ks : List Str) : List Str -> List Str
 | c :: r => if c = kind then lJ ks r else ks
 | [] => ks
def tell (kind : Str) (rs : List (List Str)) : List Str := rs.foldl (gb kind) []
theorem zU (ks : List Str) (x : Str) : (o8 ks x).length <= ks.length + 1 := by
 unfold o8; split <;> simp
theorem sX : ∀ (ws ks : List Str), (lJ ks ws).length <= ks.length + ws.length
 | [], ks => Nat.le_refl _
 | x :: r, ks => by
  have h1 := sX r (o8 ks x)
  have h2 := zU ks x
  show (lJ (o8 ks x) r).length <= ks.length + (r.length + 1)
  omega
theorem Ib {ks : List Str} {x y : Str} : y ∈ o8 ks x ↔ y ∈ ks \/ y = x := by
 unfold o8
 by_cases h : x ∈ ks
 ·rw [if_pos h]
  constructor
  ·exact .inl
  ·rintro (z | z)
   ·exact z
   ·rw [z]; exact h
 ·rw [if_neg h]; simp
theorem x_ {y : Str} : ∀ {ws ks : List Str}, y ∈ lJ ks ws ↔ y ∈ ks \/ y ∈ ws
 | [], ks => by simp [lJ]
 | x :: r, ks => by
  show y ∈ lJ (o8 ks x) r ↔ _
  rw [x_, Ib, List.mem_cons, or_assoc]
theorem yc {kind y : Str} : ∀ {rs : List (List Str)} {ks : List Str}, y ∈ rs.foldl (gb kind) ks ↔ y ∈ ks \/ ∃ r, (kind :: r) ∈ rs /\ y ∈ r
 | [], ks => by simp
 | ws :: rs, ks => by
  rw [List.foldl_cons, yc]
  cases ws with
  | nil => simp [gb]
  | cons c r =>
   show (y ∈ (if c = kind then lJ ks r else ks) \/ _) ↔ _
   by_cases h : c = kind
   ·subst h
    rw [if_pos rfl, x_]
    constructor
    ·rintro ((z | z) | ⟨r', h1, h2⟩)
     ·exact .inl z
     ·exact .inr ⟨r, List.mem_cons_self, z⟩
     ·exact .inr ⟨r', List.mem_cons_of_mem _ h1, h2⟩
    ·rintro (z | ⟨r', h1, h2⟩)
     ·exact .inl (.inl z)
     ·rcases List.mem_cons.mp h1 with e | e
      ·obtain ⟨_, rfl⟩ := List.cons.inj e
       exact .inl (.inr h2)
      ·exact .inr ⟨r', e, h2⟩
   ·rw [if_neg h]
    constructor
    ·rintro (z | ⟨r', h1, h2⟩)
     ·exact .inl z
     ·exact .inr ⟨r', List.mem_cons_of_mem _ h1, h2⟩
    ·rintro (z | ⟨r', h1, h2⟩)
     ·exact .inl z
     ·rcases List.mem_cons.mp h1 with e | e
      ·exact absurd (List.cons.inj e).1.symm h
      ·exact .inr ⟨r', e, h2⟩
theorem zV {kind y : Str} {rs : List (List Str)} : y ∈ tell kind rs ↔ ∃ r, (kind :: r) ∈ rs /\ y ∈ r := by
 unfold tell
 rw [yc]
 simp
def total (rs : List (List Str)) : Nat := (rs.map List.length).sum
theorem yd {kind : Str} : ∀ (rs : List (List Str)) (ks : List Str), (rs.foldl (gb kind) ks).length <= ks.length + total rs
 | [], ks => Nat.le_add_right _ _
 | ws :: rs, ks => by
  have h1 := yd (kind := kind) rs (gb kind ks ws)
  have h2 : (gb kind ks ws).length <= ks.length + ws.length := by
   cases ws with
   | nil => exact Nat.le_add_right _ _
   | cons c r =>
    show (if c = kind then lJ ks r else ks).length <= _
    split
    ·have h4 := sX r ks
     simp
     omega
    ·exact Nat.le_add_right _ _
  rw [List.foldl_cons]
  unfold total at *
  simp
  omega
end My
namespace L2
open PySem PySem.Spec PyProof.Rows
theorem zW : typeLookup (.type "list") "keys" = pure none := by rw [typeLookup_type, builtinLookup_eq_fast]; kernel_rfl
section
variable {prog : Program} {w : World} {A : Around} {E : Value -> Shared -> Prop} {s : Shared} {a : Addr}
theorem Od {xs : Array Value} {k : Nat} {Q : Option Value -> Shared -> Prop} (hx : s.heap.get? a = some { cls := .type "list", data := .seq xs k }) (hA : A.handled = none)
  (hq : ∀ h' tk, (∀ b o, s.heap.get? b = some o -> h'.get? b = some o) -> Q none { s with heap := h', toks := tk }) : wpAny (model prog w) A (getAttr? (.ref a) "keys") Q E s := by
 obtain ⟨hp, g, d, tk, os⟩ := s
 have hT : ∀ tk', (⟨hp, g, d, tk', os⟩ : Shared).TypeIs (.ref a) "list" := fun _ => ⟨_, hx, rfl⟩
 have f1 := sub_AttributeError
 have f3 := F.slot_list_getattribute.lookup
 have f4 := F.slot_list_getattribute.bind (.ref a)
 have f5 := am_list_getattr_none
 unfold getAttr? getAttrBy? getAttrBy
 repeat (any_goals (first | assumption | exact hT _ | ((with_reducible show wpAny _ _ (call (Value.builtin "list.__getattribute__") _ _) _ _ _); refine call_meets F.slot_list_getattribute (hT _) am_entry_list_getattribute (F.args_list_getattribute_2 _ _) (meets_getattribute_miss_list a xs k #[] "keys" _ zW (by decide)) ⟨hx, hA, fun h' tk' e hx' => ?_⟩) | wp_step))
 obtain ⟨t', u', he⟩ := hx'.there
 show wpAny _ _ (getattributeRaised _ _ _ _ _ _ _) _ _ _
 unfold getattributeRaised
 repeat (any_goals (first | assumption | wp_step))
 exact hq _ _ hx'.keeps
theorem zX : entryFor table "dict.update.loop" = some Builtin.«dict.update.loop» := entryFor_of_tree (by kernel_rfl)
def oY (knd : KeyKind prog w Key) (h : Heap) (p : Key × Value) (u : Value) : Prop := ∃ t key, u = .ref t /\ IsTup h t #[key, p.2] /\ knd.is p.1 key = true
theorem JH {knd : KeyKind prog w Key} {R : Result -> Shared -> Prop} {dd it l : Addr} {items : Array Value} (hA : A.handled = none) (nd : it ≠ dd) (nl : l ≠ dd) (nil' : l ≠ it) : ∀ (L : List (Key × Value)) (rest : List Value) (i : Nat) (kvs : List (Key × Value)) (s : Shared),
  items.toList.drop i = rest -> Paired (oY knd s.heap) L rest -> s.heap.IsListIter it l i -> s.heap.IsList l items -> s.heap.DictOf knd dd kvs -> (∀ u ∈ rest, u ≠ .ref dd /\ u ≠ .ref it) -> kvs.length + L.length <= sizeLine ->
  (∀ h' tk, h'.DictOf knd dd (L.foldl (fun acc kv => stored acc kv.1 kv.2) kvs) -> (∀ b o, b ≠ dd -> b ≠ it -> s.heap.get? b = some o -> h'.get? b = some o) -> R (.ok (.ret .none)) { s with heap := h', toks := tk }) ->
  codeAny (model prog w) A (.builtin "dict.update.loop" ⟨[.ref dd, .ref it, rawInt i, .none], []⟩) R s
 | [], rest, i, kvs, s, hr, hp, hit, hl, hd, hu, hz, hR => by
  cases hp
  refine codeAny_builtin zX ?_
  unfold Builtin.«dict.update.loop»
  have hx : items[i]? = none := by
   rw [Array.getElem?_eq_none_iff]
   have := List.drop_eq_nil_iff.mp hr
   simpa using this
  show wpAny _ _ (pyNext (.ref it) >>= _) _ _ _
  refine wpAny_bind (wpAny_pyNext_list_end (A := A.under _) hA hit hl hx fun h1 x1 => ?_)
  show wpAny _ _ (Builtin.Dict.addKeywords dd [] >>= _) _ _ _
  refine wpAny_bind (wpAny_pure (wpAny_pure ?_))
  obtain ⟨o, es, ep, ho, hrest⟩ := hd
  exact hR h1 s.toks ⟨o, es, ep, x1 _ _ (Ne.symm nd) ho, hrest⟩ fun b o' _ n2 e => x1 b o' n2 e
 | p :: L, rest, i, kvs, s, hr, hp, hit, hl, hd, hu, hz, hR => by
  cases hp with
  | @cons _ u _ us hpu hp =>
   obtain ⟨t, key, rfl, htup, hk⟩ := hpu
   have hx : items[i]? = some (.ref t) := by
    have e : items.toList[i]? = some (.ref t) := by rw [← List.head?_drop, hr]; rfl
    rw [← e]; simp
   refine codeAny_builtin zX ?_
   unfold Builtin.«dict.update.loop»
   show wpAny _ _ (pyNext (.ref it) >>= _) _ _ _
   refine wpAny_bind (wpAny_pyNext_list_item hit hl hx fun h1 hit1 sb1 => ?_)
   obtain ⟨ot, hot, hct, nt, hdt⟩ := id htup
   have nti : t ≠ it := fun z => (hu (.ref t) List.mem_cons_self).2 (by rw [z])
   have hot1 : h1.get? t = some ot := (sb1.2 t nti).trans hot
   have hT : ({ s with heap := h1 } : Shared).TypeIs (.ref t) "tuple" := ⟨_, hot1, hct⟩
   show wpAny _ _ (holding [.ref t] _ >>= _) _ _ _
   refine wpAny_bind (wpAny_holding ?_)
   refine wpAny_bind (wpAny_tryCatch ?_)
   unfold Builtin.Dict.pairItems
   refine wpAny_bind (wpAny_typeOf hT ?_)
   rw [if_pos (by decide)]
   refine wpAny_bind (wpAny_seqItems hot1 hdt (wpAny_pure ?_))
   show wpAny _ _ (holding [key, p.2] (dictSet dd key p.2)) _ _ _
   obtain ⟨od, es, ep, hod, hrest⟩ := hd
   have hd1 : Heap.DictOf knd h1 dd kvs := ⟨od, es, ep, (sb1.2 dd (Ne.symm nd)).trans hod, hrest⟩
   have hzl : kvs.length <= sizeLine := by simp only [List.length_cons] at hz; omega
   refine wpAny_holding (wpAny_dictSet_pairs (hsz := hzl) hk hd1 fun h2 hd2 sb2 => ?_)
   refine wpAny_pure ⟨Code.quiet_builtin _ (by decide +kernel), ?_⟩
   have keep : ∀ b o, b ≠ dd -> b ≠ it -> s.heap.get? b = some o -> h2.get? b = some o := fun b o n1 n2 e => (sb2.2 b n1).trans ((sb1.2 b n2).trans e)
   have hls : (stored kvs p.1 p.2).length <= kvs.length + 1 := by
    unfold stored
    split <;> simp
   refine JH (items := items) hA nd nl nil' L us (i + 1) (stored kvs p.1 p.2) _ ?_ ?_ ?_ ?_ hd2 (fun u hu' => hu u (List.mem_cons_of_mem _ hu')) ?_ fun h3 tk hd3 k3 => ?_
   ·rw [← List.drop_drop, hr]; rfl
   ·have go : ∀ {L : List (Key × Value)} {us : List Value}, Paired (oY knd s.heap) L us -> (∀ u ∈ us, u ≠ .ref dd /\ u ≠ .ref it) -> Paired (oY knd h2) L us := by
     intro L us hp
     induction hp with
     | nil => intro _; exact .nil
     | cons a _ ih =>
      intro hu
      obtain ⟨t1, key1, e1, ⟨o1, q1, q2⟩, q3⟩ := a
      have hn := hu _ List.mem_cons_self
      refine .cons ⟨t1, key1, e1, ⟨o1, keep t1 o1 (fun z => hn.1 (by rw [e1, z])) (fun z => hn.2 (by rw [e1, z])) q1, q2⟩, q3⟩ (ih fun u h => hu u (List.mem_cons_of_mem _ h))
    exact go hp fun u h => hu u (List.mem_cons_of_mem _ h)
   ·obtain ⟨oi, hoi, hci, hdi⟩ := hit1
    exact ⟨oi, (sb2.2 it nd).trans hoi, hci, hdi⟩
   ·obtain ⟨ol, hol, hcl, nl', hdl⟩ := hl
    exact ⟨ol, keep l ol nl nil' hol, hcl, nl', hdl⟩
   ·simp only [List.length_cons] at hz; omega
   ·exact hR h3 tk hd3 fun b o n1 n2 e => k3 b o n1 n2 (keep b o n1 n2 e)
theorem DR {knd : KeyKind prog w Key} {l : Addr} {its : List Value} {n : Nat} {L : List (Key × Value)} {Q : Value -> Shared -> Prop} (hA : A.handled = none) (hl : s.heap.get? l = some { cls := .type "list", data := .seq its.toArray n }) (hp : Paired (oY knd s.heap) L its) (hz : L.length <= sizeLine)
  (hq : ∀ h' tk, h'.DictOf knd s.heap.objs.size (L.foldl (fun acc kv => stored acc kv.1 kv.2) []) -> (∀ b o, s.heap.get? b = some o -> h'.get? b = some o) -> Q (.ref s.heap.objs.size) { s with heap := h', toks := tk }) :
  wpAny (model prog w) A (call (.type "dict") [.ref l]) Q E s := by
 refine callType_codes (Q₁ := fun obj s₁ => obj = .ref s.heap.objs.size /\ s₁ = { s with heap := s.heap.push { cls := .type "dict", data := .dict #[] } }) F.kt_called_dict (F.kt_typeCall_dict_1 _) F.entry_dict_init (kt_code_dict_new _ ⟨rfl, rfl⟩) ?_
 rintro obj s₁ ⟨rfl, rfl⟩
 have hnew : (s.heap.push { cls := .type "dict", data := .dict #[] }).DictOf knd s.heap.objs.size [] := Heap.DictOf.new s.heap
 refine ⟨hnew.typeIs, F.args_dict_init_2 _ _, ?_⟩
 have hl1 : (s.heap.push { cls := .type "dict", data := .dict #[] }).get? l = some { cls := .type "list", data := .seq its.toArray n } := Heap.get?_push_of_some _ hl
 unfold Builtin.«dict.__init__»
 refine wpAny_bind ?_
 unfold Builtin.Dict.selfAndRest
 refine wpAny_bind (wpAny_notOrdered_dict hnew.typeIs ?_)
 show wpAny _ _ (pure (s.heap.objs.size, [Value.ref l])) _ _ _
 refine wpAny_pure ?_
 show wpAny _ _ (Builtin.Dict.updateFrom "dict.__init__" s.heap.objs.size (.ref l) [] .none) _ _ _
 unfold Builtin.Dict.updateFrom
 refine wpAny_bind (wpAny_typeOf (T := "list") ⟨_, hl1, rfl⟩ ?_)
 rw [if_pos (by decide)]
 refine wpAny_bind (Od hl1 hA fun h2 tk2 k2 => ?_)
 rw [if_pos (show (none : Option Value).isNone = true from rfl)]
 refine wpAny_bind (wpAny_rule ?_)
 have hl2 : h2.IsList l its.toArray := ⟨_, k2 _ _ hl1, rfl, n, rfl⟩
 refine wpAny_bind (wpAny_pyIter_list hl2 ?_)
 refine wpAny_pure ⟨Code.quiet_builtin _ (by decide +kernel), ?_⟩
 have lt1 : s.heap.objs.size < h2.objs.size := by
  obtain ⟨o, es, ep, ho, _⟩ := hnew
  exact Heap.lt_size (k2 _ _ ho)
 have k3 : ∀ b o, h2.get? b = some o -> (h2.push { cls := .type "list_iterator", data := .fields #[.ref l, .int 0 0] }).get? b = some o := fun b o e => Heap.get?_push_of_some _ e
 have k0 : ∀ b o, s.heap.get? b = some o -> (h2.push { cls := .type "list_iterator", data := .fields #[.ref l, .int 0 0] }).get? b = some o := fun b o e => k3 b o (k2 b o (Heap.get?_push_of_some _ e))
 have old : ∀ b o, s.heap.get? b = some o -> b ≠ s.heap.objs.size /\ b ≠ h2.objs.size := fun b o e => by
  have := Heap.lt_size e
  exact ⟨Nat.ne_of_lt this, Nat.ne_of_lt (Nat.lt_trans this lt1)⟩
 refine JH (A := A.in1) (items := its.toArray) (knd := knd) (show A.in1.handled = none from hA) (Nat.ne_of_gt lt1) (old l _ hl).1 (old l _ hl).2 L its 0 [] _ (by simp) ?_ ?_ ?_ ?_ ?_ (by simpa using hz) fun h4 tk hd4 k4 => ?_
 ·have go : ∀ {L : List (Key × Value)} {us : List Value}, Paired (oY knd s.heap) L us -> Paired (oY knd (h2.push { cls := .type "list_iterator", data := .fields #[.ref l, .int 0 0] })) L us := by
   intro L us hp
   induction hp with
   | nil => exact .nil
   | cons a _ ih =>
    obtain ⟨t1, key1, e1, ⟨o1, q1, q2⟩, q3⟩ := a
    exact .cons ⟨t1, key1, e1, ⟨o1, k0 t1 o1 q1, q2⟩, q3⟩ ih
  exact go hp
 ·exact ⟨_, Heap.get?_push_size _ rfl, rfl, rfl⟩
 ·obtain ⟨ol, hol, r⟩ := hl2
  exact ⟨ol, k3 _ _ hol, r⟩
 ·obtain ⟨o, es, ep, ho, r⟩ := hnew
  exact ⟨o, es, ep, k3 _ _ (k2 _ _ ho), r⟩
 ·intro u hu
  have go : ∀ {L : List (Key × Value)} {us : List Value}, Paired (oY knd s.heap) L us -> ∀ u ∈ us, ∃ t o, u = .ref t /\ s.heap.get? t = some o := by
   intro L us hp
   induction hp with
   | nil => intro u hu; cases hu
   | cons a _ ih =>
    intro u hu
    rcases List.mem_cons.mp hu with e | hu
    ·obtain ⟨t1, key1, e1, ⟨o1, q1, q2⟩, q3⟩ := a
     exact ⟨t1, o1, e.trans e1, q1⟩
    ·exact ih u hu
  obtain ⟨t, o, e, ho⟩ := go hp u hu
  subst e
  exact ⟨fun z => (old t o ho).1 (Value.ref.inj z), fun z => (old t o ho).2 (Value.ref.inj z)⟩
 ·exact ⟨rfl, hq h4 tk hd4 fun b o e => k4 b o (old b o e).1 (old b o e).2 (k0 b o e)⟩
end
end L2
namespace L2
open PySem PySem.Spec PyProof.Rows
inductive PairsH (H : Hp) : List V -> List (Key × V) -> Prop where
 | nil : PairsH H [] []
 | cons {t : Addr} {k : Key} {v : V} {ts : List V} {kvs : List (Key × V)} (h : H t = some (.tup [kV k, v])) (r : PairsH H ts kvs) : PairsH H (.ref t :: ts) ((k, v) :: kvs)
theorem Oe {P : Program} {w : World} {k : Key} {u : Value} (r : RelV (kV k) u) : (dz P w).is k u = true := by
 cases k with
 | inl i => obtain ⟨t, rfl⟩ := (show ∃ t, u = Value.int i t from r); exact uL P w i t
 | inr x => obtain ⟨t, rfl⟩ := (show ∃ t, u = Value.str x t from r); exact uM P w x t
theorem ye {P : Program} {w : World} {H : Hp} {h : Heap} (ok : HOk P w H h) : ∀ {ts : List V} {kvs : List (Key × V)} {its : List Value}, PairsH H ts kvs -> Vals ts its -> ∃ rs : List (Key × Value), KV kvs rs /\ Paired (oY (dz P w) h) rs its
 | _, _, _, .nil, r => by cases r; exact ⟨[], .nil, .nil⟩
 | _, _, _, .cons (t := t) (k := k) (v := v) e q, r => by
  cases r with
  | cons r1 r2 =>
   cases r1
   obtain ⟨rs, h1, h2⟩ := ye ok q r2
   obtain ⟨_, us, hv, ht⟩ := (show ObjOk P w H h t (.tup [kV k, v]) from ok t _ e)
   obtain ⟨ku, vu, rfl, rk, rv⟩ := vals2 hv
   exact ⟨(k, vu) :: rs, .cons ⟨rfl, rv⟩ h1, .cons ⟨t, ku, rfl, ht, Oe rk⟩ h2⟩
theorem zY {X : Cx} (hc : X.calm = true := by rfl) : CallR X (.type "dict") (fun xs H Q => ∃ p ts kvs, xs = [.ref p] /\ H p = some (.lst ts) /\ PairsH H ts kvs /\ kvs.length <= 1000000 /\ ∀ l, H l = none -> Q (.ref l) (upd H l (.dK (mJ [] kvs)))) := by
 intro pins s σ H xs us Q I r h
 obtain ⟨p, ts, kvs, rfl, hp, hps, hz, q⟩ := h
 obtain ⟨u, rfl, rx⟩ := vals1 r
 cases rx
 obtain ⟨_, its, n, hv, ho⟩ := (show ObjOk X.prog X.w H s.heap p (.lst ts) from I.hok p _ hp)
 obtain ⟨rs, h1, h2⟩ := ye I.hok hps hv
 have hl : rs.length <= sizeLine := by rw [← KV.length h1]; exact Nat.le_of_lt (nP hz)
 refine DR (I.ok.hd hc) ho h2 hl fun h' tk hd hk => ?_
 have low : (s.heap.objs.size == sysModules) = false := by
  have := modules_low I.nolimit
  rw [beq_eq_false_iff_ne]
  exact Nat.ne_of_gt this
 have kv : KV (mJ [] kvs) (merged [] rs) := KV.merge h1 .nil
 have lm := rG kvs []
 refine ⟨.ref s.heap.objs.size, _, I.laid (t' := tk) hk (Nat.le_refl _) (show ObjOk X.prog X.w _ h' _ (.dK (mJ [] kvs)) from ⟨?_, low, merged [] rs, kv, hd⟩), rfl, q _ (I.hok.fresh (Nat.le_refl _))⟩
 have : (1000000 : Nat) <= sizeLine := by decide
 simp only [List.length_nil] at lm
 omega
end L2
namespace MR
open PySem L2
def prs : List PV -> Option (List (Key × PV))
 | [] => some []
 | .tup [k, v] :: r => (keyOf k).bind fun k => (prs r).bind fun l => some ((k, v) :: l)
 | _ :: _ => none
def qe (l : List (Key × PV)) (acc : List (Key × PV)) : List (Key × PV) := l.foldl (fun acc kv => lu acc kv.1 kv.2) acc
def zZ : PV -> Option PV
 | .lst xs => (prs xs).bind fun l => if l.length <= 1000000 then some (.dK (qe l [])) else none
 | _ => none
theorem z6 {C : MC} {A : Addr -> Prop} {H : Hp} : ∀ {vs : List V} {xs : List PV} {l : List (Key × PV)}, Reps C A H vs xs -> prs xs = some l -> ∃ kvs, PairsH H vs kvs /\ RepK C A H kvs l
 | _, _, _, .nil, h => by cases h; exact ⟨[], .nil, .nil⟩
 | _, x :: xs, l, .cons r1 r2, h => by
  cases x with
  | tup ys =>
   cases r1 with
   | tup ht rs =>
    match ys, h, rs with
    | [k, v], h, rs =>
     rw [prs] at h
     obtain ⟨k', hk, h⟩ := aD h
     obtain ⟨l', hl', h⟩ := aD h
     cases h
     obtain ⟨kvs, h1, h2⟩ := z6 r2 hl'
     cases rs with
     | cons rk rv =>
      cases rv with
      | cons rv rn =>
       cases rn
       cases k with
       | int i => cases hk; cases rk; exact ⟨_, .cons (k := .inl i) ht h1, .cons rv h2⟩
       | str y => cases hk; cases rk; exact ⟨_, .cons (k := .inr y) ht h1, .cons rv h2⟩
       | _ => cases hk
    | [], h, _ => cases h
    | [_], h, _ => cases h
    | _ :: _ :: _ :: _, h, _ => cases h
  | _ => cases h
theorem yf {C : MC} {A : Addr -> Prop} {H : Hp} : ∀ {kvs : List (Key × V)} {l : List (Key × PV)} {a : List (Key × V)} {b : List (Key × PV)}, RepK C A H kvs l -> RepK C A H a b -> RepK C A H (mJ a kvs) (qe l b)
 | _, _, _, _, .nil, r => r
 | (k, v) :: kvs, (_, p) :: l, a, b, .cons h t, r => by
  show RepK C A H (mJ (putK a k v) kvs) (qe l (lu b k p))
  exact yf t (RepK.put h r)
theorem RepK.len {C : MC} {A : Addr -> Prop} {H : Hp} : ∀ {kvs : List (Key × V)} {l : List (Key × PV)}, RepK C A H kvs l -> kvs.length = l.length
 | _, _, .nil => rfl
 | _, _, .cons _ t => by simp [RepK.len t]
section
variable {X : Cx} {b : BX} {G : List Nat} {m1 : Md} {e : Expr} {f : Env -> Option PV} {p pos : Pos}
theorem Ie (hm : X.mg "dict" = none) (h : SE X b G m1 e f) (hcm : X.calm = true := by rfl) (hg : Gl X "dict" := by rfl) (hb : bootBuiltins "dict" = some (.type "dict") := by decide +kernel) (he : starEach [e] X.env = (false, eval e X.env) :: starEach [] X.env := by rfl) : SE X b G .own (.Call (.Name "dict" p) [e] [] pos) (b1 zZ f) := by
 refine wR (zY hcm) (fun Ow H v1 p1 p Q hn r1 e k => ?_) hm hb h hg (by decide) (by decide) he
 cases p1 with
 | lst xs =>
  unfold zZ at e
  obtain ⟨l, hl, e⟩ := aD e
  split at e
  ·rename_i hz
   cases e
   obtain ⟨a, vs, rfl, ha, ra⟩ := r1.lst
   obtain ⟨kvs, h1, h2⟩ := z6 ra hl
   refine ⟨a, vs, kvs, rfl, ha, h1, by rw [h2.len]; exact hz, fun d hd => k _ _ (bA hd _) ⟨d, rfl, hd, mJ [] kvs, bO, (yf h2 .nil).ex fun c o e => ?_⟩⟩
   have hc : c ≠ d := bh e hd
   exact ⟨fun q => ⟨by rw [aW hc]; exact e, q, hc⟩, fun _ => by rw [aW hc]; exact e⟩
  ·cases e
 | _ => cases e
end
end MR
namespace MR
open PySem L2
def JK : PV -> Bool
 | .non => true
 | .bl _ => true
 | .int _ => true
 | .str _ => true
 | _ => false
def flB : PV -> Bool
 | .tup xs => xs.all JK
 | p => JK p
def flL : PV -> Bool
 | .lst xs => xs.all flB
 | _ => false
section
variable {b : BX} {G : List Nat} {cap : List (Option Nat)} {g : TG} {gm : PV -> Env -> Option Env} {src : Env -> Option (List PV)} {t : Env -> Option Bool} {f : Env -> Option PV}
end
end MR
namespace MR
open PySem L2
def shL : PV -> Bool
 | .lst (.lst xs :: q) => xs.all flB && decide (xs.length < 1000) && decide (q.length < 1000)
 | _ => false
def Og : PV -> Bool
 | .lst ys => ys.all flL
 | _ => false
def outD (o : Out) (k : Env -> Option Out) : Option Out := match o with
 | .rt v => some (.rt v)
 | .nx e => k e
 | _ => none
@[simp] theorem Sv (v : PV) (k : Env -> Option Out) : outD (.rt v) k = some (.rt v) := rfl
@[simp] theorem Cr (e : Env) (k : Env -> Option Out) : outD (.nx e) k = k e := rfl
def Oh (i j d : Nat) (ga : Env -> Option (List PV)) (mi : List PV -> Option PV) (m1 m2 : Env -> Option Out) (cp : Env -> Option PV) (g : Env -> Option Out) (env : Env) : Option Out :=
 (ga env).bind fun qs => (mi qs).bind fun p => if (sJ qs && shL p && decide (i < env.length)) = true then
  (m1 (env.set i (some p))).bind fun o => outD o fun e1 => (m2 e1).bind fun o => outD o fun e2 => (cp e2).bind fun q =>
   if (Og q && decide (e2.length = env.length)) = true then g (((env.set i none).set d none).set j (some q)) else none
 else none
@[simp] theorem Q9 (i j d : Nat) (ga : Env -> Option (List PV)) (mi : List PV -> Option PV) (m1 m2 : Env -> Option Out) (cp : Env -> Option PV) (g : Env -> Option Out) (env : Env) : Oh i j d ga mi m1 m2 cp g env =
 ((ga env).bind fun qs => (mi qs).bind fun p => if (sJ qs && shL p && decide (i < env.length)) = true then
  (m1 (env.set i (some p))).bind fun o => outD o fun e1 => (m2 e1).bind fun o => outD o fun e2 => (cp e2).bind fun q =>
   if (Og q && decide (e2.length = env.length)) = true then g (((env.set i none).set d none).set j (some q)) else none
 else none) := id rfl
def bx (b : BX) (fx' : Nat -> Option V) : BX := ⟨b.C, b.A, b.H0, fx'⟩
section
variable {b : BX} {Ow : Addr -> Prop} {σ σ' : St} {env env' : Env} {H H' : Hp}
theorem ER.bare (E : ER b Ow [] σ env H) : ER b (fun _ => False) [] σ env H :=
 ⟨E.len, E.same, fun a h => h.elim, fun a h => h.elim, fun i p h n => let ⟨v, e, r⟩ := E.val i p h n; ⟨v, e, r.ex (cU fun c o _ q => ⟨id, q.2⟩)⟩, fun i p h n => absurd n List.not_mem_nil, fun i j a p q e1 n1 _ _ _ _ => absurd n1 List.not_mem_nil, E.fix⟩
theorem ER.re (E : ER b Ow [] σ env H) (hl : σ'.length = env'.length) (hv : ∀ (k : Nat) (p : PV), env'[k]? = some (some p) -> env[k]? = some (some p) /\ ∀ (v : V), σ[k]? = some (some v) -> σ'[k]? = some (some v)) (hf : ∀ (k : Nat) (v : V), b.fx k = some v -> σ'[k]? = some (some v)) : ER b Ow [] σ' env' H := by
 refine ⟨hl, E.same, E.live, E.new, fun i p h n => ?_, fun i p h n => absurd n List.not_mem_nil, fun i j a p q e1 n1 _ _ _ _ => absurd n1 List.not_mem_nil, hf⟩
 obtain ⟨h1, h2⟩ := hv i p h
 obtain ⟨v, e, r⟩ := E.val i p h1 n
 exact ⟨v, h2 v e, r⟩
theorem ER.fxp {G : List Nat} {fx' : Nat -> Option V} (E : ER b Ow G σ env H) (hf : ∀ (k : Nat) (v : V), fx' k = some v -> σ[k]? = some (some v)) : ER (bx b fx') Ow G σ env H := ⟨E.len, E.same, E.live, E.new, E.val, E.own, E.sep, hf⟩
theorem DW {Ow' : Addr -> Prop} (h1 : Same b.H0 H) (h2 : Same b.H0 H') (x : Ex (Bs b fun _ => False) H (Bs b Ow') H') : Same H H' := fun c o h => by
 cases q : b.H0 c with
 | none => exact ((x c o h).1 ⟨id, .inr q⟩).1
 | some o' =>
  have e1 := h1 _ _ q
  rw [h] at e1
  cases e1
  exact h2 _ _ q
end
section
variable {X : Cx} {b : BX} {G' L : List Nat} {ro : Bool} {rest : List Stmt} {g : Env -> Option Out}
abbrev Fx (d j : Nat) := {f : Nat -> Option V // f d = none /\ f j = none}
end
end MR
namespace MR
open PySem L2
def Oi (s : Str) (C : MC) (A : Addr -> Prop) (H H' : Hp) (v : V) (p : PV) : Prop := Rep C (fun c => A c \/ H c = none) H' v p /\ ∀ xs, p = .tup [.str s, .lst xs] -> ∃ t u a, v = .ref t /\ H' t = some (.tup [u, .ref a]) /\ H a = none
def spN (s : Str) (C : MC) (m : List PV -> Option PV) : Sp := fun vs H Q _ => ∃ A ps p, Reps C A H vs ps /\ m ps = some p /\ ∀ v H', Same H H' -> Oi s C A H H' v p -> Q v H'
theorem Oj {s : Str} {C : MC} {m : List PV -> Option PV} {vs : List V} {H : Hp} {Q : VK} {E : XK} (h : spM C m false vs H Q E) : spN s C m vs H Q E :=
 let ⟨A, ps, p, r, hm, k⟩ := h
 ⟨A, ps, p, r, hm, fun v H' z r => k v H' z r.1⟩
theorem KQ {P : Program} {w : World} {K : PySem.W.Frag} {mg : Str -> Option Value} {base : Heap} {k : Nat} {x s : Str} {ps : List Str} {C : MC} {mi : List PV -> Option PV} (c : Cal P w K mg base k x ps (spN s C mi)) : Cal P w K mg base k x ps (spM C mi false) := by
 obtain ⟨f, fd, F, hb, kp, hm⟩ := c.ex
 exact ⟨f, fd, F.imp fun vs H Q E h => Oj h, hb, kp, hm⟩
def QH (s : Str) (b : BX) (D : Ends) : Out -> Prop
 | .nx e => ∀ Ow' σ' H', ER b Ow' [] σ' e H' -> D.nx σ' H'
 | .rt p => ∀ v H', Same b.H0 H' -> Oi s b.C b.A b.H0 H' v p -> D.rt v H'
 | _ => False
def tRN (s : Str) (b : BX) (f : Env -> Option Out) : TS := fun D σ H => ∃ Ow env out, ER b Ow [] σ env H /\ f env = some out /\ QH s b D out
section
variable {X : Cx} {b : BX} {s : Str} {st : Stmt} {rest : List Stmt} {f g : Env -> Option Out}
theorem q_ (a : SS X b [] [] [] false st f) (c : PSs X rest (tRN s b g)) (hn : ∀ env p, f env = some (.rt p) -> ∀ xs, p ≠ .tup [.str s, .lst xs]) : PSs X (st :: rest) (tRN s b (aH f g)) := PSs.imp (nM a c) fun D σ H ⟨Ow, env, o, E, hf, k⟩ => by
 unfold aH at hf
 cases q : f env with
 | none => rw [q] at hf; cases hf
 | some o1 =>
  rw [q] at hf
  refine ⟨Ow, env, o1, E, q, ?_⟩
  cases o1 with
  | nx e' => exact fun Ow' σ' H' E' x => ⟨Ow', e', o, E', hf, k⟩
  | bk e' => cases hf; exact k.elim
  | ct e' => cases hf; exact k.elim
  | rt p => cases hf; exact fun v H' z rr => k v H' z ⟨rr, fun xs e => absurd e (hn env p q xs)⟩
theorem z7 {i : Nat} {h : Env -> Option PV} : ∀ env p, aK i h env = some (.rt p) -> ∀ xs, p ≠ .tup [.str s, .lst xs] := fun env p e => by
 obtain ⟨q, _, e⟩ := aD e
 cases e
theorem QJ {c : Env -> Option Bool} {s1 : Str} {h : Env -> Option PV} (hs : (s1 == s) = false) : ∀ env p, sIf c (aQ (gY (ak (bC (.str s1)) (ak h aC)))) sNx env = some (.rt p) -> ∀ xs, p ≠ .tup [.str s, .lst xs] := fun env p e xs z => by
 obtain ⟨k, _, e⟩ := aD e
 cases k with
 | false => cases e
 | true =>
  simp only [if_true] at e
  obtain ⟨q, e1, e⟩ := aD e
  cases e
  obtain ⟨qs, e2, e1⟩ := aD e1
  split at e1
  ·cases e1
   cases z
   cases hh : h env with
   | none => simp [ak, bC, hh] at e2
   | some y =>
    simp [ak, bC, hh, aC] at e2
    rw [e2.1] at hs
    simp at hs
  ·cases e1
theorem Ol {e : Expr} {h : Env -> Option PV} {j} {p1 p2 pos : Pos} {x1} (he : SE X b [] .own e h) (hs1 : starEach [e] X.env = (false, eval e X.env) :: starEach [] X.env := by rfl) (hs2 : starEach [.Constant (.str s) j p1, e] X.env = (false, eval (.Constant (.str s) j p1) X.env) :: starEach [e] X.env := by rfl) :
  PS X (.Return (some (.Tuple [.Constant (.str s) j p1, e] x1 p2)) pos) (tRN s b (aQ (gY (ak (bC (.str s)) (ak h aC))))) := PS.imp (zp (Fg (fL Eu (fL he jJ hs1) hs2))) fun D σ H ⟨Ow, env, o, E, hf, k⟩ => by
 obtain ⟨q, e1, e2⟩ := aD hf
 clear hf
 cases e2
 obtain ⟨qs, e2, e1⟩ := aD e1
 split at e1
 ·cases e1
  cases hh : h env with
  | none => simp [ak, bC, hh] at e2
  | some y =>
   simp [ak, bC, hh, aC] at e2
   subst e2
   refine ⟨Ow, env, y, E, hh, fun v H' z r => ⟨j9 (by simp), fun t ht => ?_⟩⟩
   have rv := r.val E (by intro z; cases z)
   obtain ⟨a, ev, hn, _⟩ := r
   subst ev
   have s2 := bA ht (.tup [.str s, .ref a])
   refine k _ _ (E.same.trans (z.trans s2)) ⟨.tup bO (.cons (.str s) (.cons ?_ .nil)), fun xs _ => ⟨t, _, a, rfl, bO, E.same.free hn⟩⟩
   exact (Rep.ex (.of_same s2) rv).ex (cU fun c o _ q => q.2)
 ·cases e1
theorem Ig {C : MC} {N : List Str} {n k : Nat} {body : List Stmt} (hN : N.length = n) (hk : k <= n) (hb : ∀ A H, PSs X body (tRN s ⟨C, A, H, fun _ => none⟩ f))
  {vs : List V} {H : Hp} {Q : VK} {E : XK} (h : spN s C (bB n k false f) vs H Q E) : ∃ t, PSs X body t /\ t { nx := fun _ H' => Q .non H', rt := Q } (L2.start N vs) H := by
 obtain ⟨A, ps, p, r, hm, kk⟩ := h
 refine ⟨_, hb A H, ?_⟩
 unfold bB at hm
 split at hm
 ·rename_i hl
  obtain ⟨o, ho, hm⟩ := aD hm
  refine ⟨_, _, o, zQ (N := N) (G := []) r (fun i hi => by cases hi) (by omega), by rw [hN, hl]; exact ho, ?_⟩
  cases o with
  | nx e => cases hm; exact fun Ow' σ' H' E' => kk .non H' E'.same ⟨.non, fun xs z => by cases z⟩
  | rt q => cases hm; exact fun v H' s rr => kk v H' s rr
  | bk e => cases hm
  | ct e => cases hm
 ·cases hm
theorem KR {C : MC} {n k : Nat} {ro' : Bool} {vs : List V} {H : Hp} {Q : VK} {E : XK} (h : spN s C (bB n k ro' f) vs H Q E) : vs.length = k := by
 obtain ⟨A, ps, p, r, hm, kk⟩ := h
 unfold bB at hm
 split at hm
 ·rename_i hl; rw [r.length]; exact hl
 ·cases hm
end
def shT (s : Str) : PV -> Bool
 | .tup [.str y, .lst xs] => (y == s) && decide (xs.length < 1000)
 | _ => false
theorem Ih {s : Str} {p : PV} (h : shT s p = true) : ∃ xs, p = .tup [.str s, .lst xs] /\ xs.length < 1000 := by
 unfold shT at h
 split at h
 ·rename_i y xs
  rw [Bool.and_eq_true] at h
  exact ⟨xs, by rw [eq_of_beq h.1], of_decide_eq_true h.2⟩
 ·cases h
def z8 (s : Str) (i d : Nat) (ga : Env -> Option (List PV)) (mi : List PV -> Option PV) (m1 m2 : Env -> Option Out) (cc : Env -> Option Bool) (g : Env -> Option Out) (env : Env) : Option Out :=
 (ga env).bind fun qs => (mi qs).bind fun p => if i < env.length then
  (m1 (env.set i (some p))).bind fun o => outD o fun e1 => (m2 e1).bind fun o => outD o fun e2 => (cc e2).bind fun k =>
   if ((!k || shT s p) && decide (e2.length = env.length)) = true then g ((env.set i none).set d none) else none
 else none
@[simp] theorem Q_ (s : Str) (i d : Nat) (ga : Env -> Option (List PV)) (mi : List PV -> Option PV) (m1 m2 : Env -> Option Out) (cc : Env -> Option Bool) (g : Env -> Option Out) (env : Env) : z8 s i d ga mi m1 m2 cc g env =
 ((ga env).bind fun qs => (mi qs).bind fun p => if i < env.length then
  (m1 (env.set i (some p))).bind fun o => outD o fun e1 => (m2 e1).bind fun o => outD o fun e2 => (cc e2).bind fun k =>
   if ((!k || shT s p) && decide (e2.length = env.length)) = true then g ((env.set i none).set d none) else none
 else none) := id rfl
section
variable {X : Cx} {b : BX} {G' L : List Nat} {ro : Bool} {rest : List Stmt} {g : Env -> Option Out}
theorem Ii (s : Str) (i d : Nat) {x fx : Str} {k n : Nat} {ps : List Str} {mi : List PV -> Option PV} {ga : Env -> Option (List PV)} {e : Expr} {es : List Expr} {st1 st2 : Stmt} {m1 m2 : Env -> Option Out} {ce : Expr} {cc : Env -> Option Bool}
  {pf pc pos1 pos1' pos3 pos4 pn4 pi1 ps1 ap3 cp3 pv3 : Pos} {j1 : Nat}
  (nd : X.N.Nodup) (c : Cal X.prog X.w X.K X.mg X.base k fx ps (spN s b.C mi)) (hr : Room n X.A) (ha : SA X b [] false (e :: es) ga)
  (hm1 : ∀ fx' : Nat -> Option V, fx' d = none -> SS X (bx b fx') [] [] L ro st1 m1) (hm2 : ∀ fx' : Nat -> Option V, fx' d = none -> SS X (bx b fx') [] [] L ro st2 m2)
  (hce : ∀ fx' : Nat -> Option V, fx' d = none -> ST X (bx b fx') [] ce cc) (hg : SSs X b [] G' L ro rest g)
  (hx : b.fx i = none := by first | rfl | assumption) (hxd : b.fx d = none := by first | rfl | assumption) (hid : (i == d) = false := by rfl)
  (hi : X.N[i]? = some x := by rfl) (hl : Loc X.env.scope x := by first | exact Or.inl rfl | exact Or.inr rfl)
  (hv : Vis X.env.scope x := by first | exact Or.inl rfl | exact Or.inr (Or.inl rfl) | exact Or.inr (Or.inr rfl)) (hd : (x == ("__debug__" : Str)) = false := by decide) (hcd : (x == ("__classdict__" : Str)) = false := by decide)
  (hle : k <= n := by decide) (hgl : Gl X fx := by rfl) (hdb : (fx == ("__debug__" : Str)) = false := by decide) (he : starEach (e :: es) X.env = (false, eval e X.env) :: starEach es X.env := by rfl) (hpl : (backTo pc (starEach es X.env)).any (·.1) = false := by rfl)
  (hs : swapsWith (.Call (.Name fx pf) (e :: es) [] pc) (some (.Name x pos1')) pos1.line X.env = pure false := by rfl) (hfn : X.fn x = true \/ X.env.scope.names.lookup x = some .local := by first | exact .inl rfl | exact .inr rfl | assumption)
  (hs0' : starEach [(Expr.List [] pn4)] X.env = (false, eval (.List [] pn4) X.env) :: starEach [] X.env := by rfl)
  (hbase3 : attributeBase (.Subscript (.Name x pv3) (.Constant (.int 1) j1 pi1) ps1) "append" X.env (eval (.Subscript (.Name x pv3) (.Constant (.int 1) j1 pi1) ps1) X.env) = eval (.Subscript (.Name x pv3) (.Constant (.int 1) j1 pi1) ps1) X.env := by rfl)
  (hfew3 : ((backTo cp3 (starEach [(Expr.List [] pn4)] X.env)).all (fun x => !x.1) && (backToKw cp3 (keywordEach [] X.env)).all (fun x => x.1.isSome) && decide ([(Expr.List [] pn4)].length + ([] : List Keyword).length + (if ([] : List Keyword).isEmpty then 0 else 1) < 30)) = true := by rfl)
  (hline3 : (ap3.endLine == cp3.line) = true := by rfl)
  (hsw3 : swapsWith (.Call (.Attribute (.Subscript (.Name x pv3) (.Constant (.int 1) j1 pi1) ps1) "append" ap3) [.List [] pn4] [] cp3) none pos3.line X.env = pure false := by rfl) :
  SSs X b [] G' L ro (.Assign [.Name x pos1'] (.Call (.Name fx pf) (e :: es) [] pc) pos1 :: st1 :: st2 :: .If ce [.Expr (.Call (.Attribute (.Subscript (.Name x pv3) (.Constant (.int 1) j1 pi1) ps1) "append" ap3) [.List [] pn4] [] cp3) pos3] [] pos4 :: rest) (z8 s i d ga mi m1 m2 cc g) := by
 refine PSs.imp (nM (zq nd hi hl (FT c hr ha hle hgl hdb he hpl) hs hfn) (nM (DP fun F : Fx d d => hm1 F.1 F.2.1) (nM (DP fun F : Fx d d => hm2 F.1 F.2.1) (nM (DP fun F : Fx d d => Jp (hce F.1 F.2.1)
  (wI (wJ (Dm PySem.F.plainAttrs_list PySem.F.slot_list_append PySem.F.type_list_append rW (Jx ix_tup (oR hi hv hd hcd) Et fun _ _ => rfl) (fL (Fi jJ) jJ hs0') hbase3 hfew3 hline3 hs0' rfl) hsw3)) BV) hg)))) fun D σ H ⟨Ow, env, o, E, hq, kk⟩ => ?_
 replace kk := kk.ex (Ow1 := fun _ => False) (H1 := H) (cU fun c o _ q => ⟨id, q.2⟩)
 replace E := E.bare
 obtain ⟨qs, h1, hq⟩ := aD hq
 obtain ⟨p, h2, hq⟩ := aD hq
 split at hq
 ·rename_i hil
  refine ⟨_, env, qs, E, h1, fun vs H1 s1 rr => ?_⟩
  dsimp only
  rw [List.append_nil]
  refine ⟨Bs b (fun _ => False), qs, p, vM rr, h2, fun v H' s' rt => ?_⟩
  obtain ⟨rt0, rtN⟩ := rt
  have rep0 : Rep b.C (Bs b fun _ => False) H' v p := rt0.ex (cU fun c o _ z => z.elim id fun w => (E.up s1).fresh w)
  have hiL : i < σ.length := by rw [E.len]; exact hil
  have E1 := (E.up (s1.trans s')).set (List.not_mem_nil) rep0 hx
  obtain ⟨o1, g1, hq⟩ := aD hq
  let F : Fx d d := ⟨fun k => if k = d then none else ((σ.set i (some v))[k]?).join, if_pos rfl, if_pos rfl⟩
  have hF : ∀ k u, F.1 k = some u -> (σ.set i (some v))[k]? = some (some u) := fun k u h => by
   have h' : (if k = d then none else ((σ.set i (some v))[k]?).join) = some u := h
   split at h'
   ·cases h'
   ·cases z : (σ.set i (some v))[k]? with
    | none => rw [z] at h'; cases h'
    | some w => rw [z] at h'; cases w with
     | none => cases h'
     | some w => cases h'; rfl
  have hF' : ∀ k u, k ≠ d -> (σ.set i (some v))[k]? = some (some u) -> F.1 k = some u := fun k u n1 h => by
   show (if k = d then none else ((σ.set i (some v))[k]?).join) = some u
   rw [if_neg n1, h]
   rfl
  have E1' : ER (bx b F.1) (fun _ => False) [] (σ.set i (some v)) (env.set i (some p)) H' := E1.fxp hF
  refine ⟨F, _, _, o1, E1', g1, ?_⟩
  cases o1 with
  | rt v1 => cases hq; exact kk
  | bk e1 => cases hq
  | ct e1 => cases hq
  | nx e1 =>
   rw [Cr] at hq
   obtain ⟨o2, g2, hq⟩ := aD hq
   intro Ow2 σ2 H2 E2 x2
   refine ⟨F, _, _, o2, E2, g2, ?_⟩
   cases o2 with
   | rt v1 => cases hq; exact kk
   | bk e1 => cases hq
   | ct e1 => cases hq
   | nx e2 =>
    rw [Cr] at hq
    obtain ⟨kb, g3, hq⟩ := aD hq
    intro Ow3 σ3 H3 E3 x3
    split at hq
    ·rename_i hok3
     have hgo := hq
     rw [Bool.and_eq_true] at hok3
     have hlen := of_decide_eq_true hok3.2
     refine ⟨F, _, _, kb, E3, g3, fun H4 s4 => ?_⟩
     have s03 : Same H' H3 := DW (b := bx b F.1) E1'.same E3.same (x2.trans x3)
     have nid : i ≠ d := fun z => by subst z; simp at hid
     have hσ3 : σ3[i]? = some (some v) := E3.fix i _ (hF' i _ nid (List.getElem?_set_self hiL))
     have s14 : Same H H4 := s1.trans (s'.trans (s03.trans s4))
     have back : ∀ {k i : Nat} {p : PV} {en : Env}, (en.set i none)[k]? = some (some p) -> i ≠ k /\ en[k]? = some (some p) := fun {k i p en} h => by
      by_cases hj : i = k
      ·subst hj
       rw [List.getElem?_set] at h
       split at h
       ·split at h <;> cases h
       ·exact absurd rfl ‹¬ i = i›
      ·rw [List.getElem?_set_ne hj] at h; exact ⟨hj, h⟩
     have fin : ∀ H7, Same H H7 -> ER b (fun _ => False) [] σ3 ((env.set i none).set d none) H7 := fun H7 s7 => by
      refine (E.up s7).re ?_ (fun k p h => ?_) fun k v h => ?_
      ·rw [E3.len, List.length_set, List.length_set]; exact hlen
      ·obtain ⟨n2, h⟩ := back h
       obtain ⟨n3, h⟩ := back h
       exact ⟨h, fun v hv' => E3.fix k v (hF' k v (Ne.symm n2) (by rw [List.getElem?_set_ne n3]; exact hv'))⟩
      ·have n1 : k ≠ d := fun z => by subst z; rw [hxd] at h; cases h
       have n3 : i ≠ k := fun z => by subst z; rw [hx] at h; cases h
       exact E3.fix k v (hF' k v n1 (by rw [List.getElem?_set_ne n3]; exact E.fix k v h))
     cases kb with
     | false =>
      exact Do ⟨_, _, _, fin H4 s14, hgo, kk.ex (Ex.of_same s14)⟩
     | true =>
      refine Dp ?_
      obtain ⟨xs, hp, hxs⟩ := Ih (by simpa using hok3.1)
      obtain ⟨t0, u, a, ev, ht, na⟩ := rtN xs hp
      subst hp ev
      obtain ⟨zs, hz, lz⟩ : ∃ zs, H' a = some (.lst zs) /\ zs.length = xs.length := by
       cases rt0 with
       | tup h r =>
        rw [ht] at h
        cases h
        cases r with
        | cons _ r2 =>
         cases r2 with
         | cons r3 _ =>
          cases r3 with
          | lst h4 _ r4 => exact ⟨_, h4, r4.length⟩
      have m1' : H4 t0 = some (.tup [u, .ref a]) := s4 _ _ (s03 _ _ ht)
      have m0' : H4 a = some (.lst zs) := s4 _ _ (s03 _ _ hz)
      have at1 : L2.atI [u, V.ref a] 1 = some (.ref a) := by
       have := L2.atI_nat (xs := [u, V.ref a]) (show [u, V.ref a][1]? = some (V.ref a) from rfl)
       exact this
      refine ⟨.ref t0, hσ3, t0, _, 1, .ref a, rfl, rfl, SqT.of m1', at1, .inl ⟨rfl, _, SqL.of m0'⟩, Nat.zero_le _, fun an han4 => ?_⟩
      have nan : a ≠ an := fun z => by subst z; rw [m0'] at han4; cases han4
      refine ⟨a, zs, .ref an, rfl, rfl, by rw [aW nan]; exact m0', nP (by omega), ?_⟩
      have s7 : Same H (upd (upd H4 an (.lst [])) a (.lst (zs ++ [.ref an]))) := fun c o hc' => by
       have c1 : c ≠ a := fun z => by subst z; have := s1.free na; rw [hc'] at this; cases this
       have c3 : c ≠ an := fun z => by subst z; have := s14 _ _ hc'; rw [han4] at this; cases this
       rw [aW c1, aW c3]
       exact s14 _ _ hc'
      exact ⟨_, _, _, fin _ s7, hgo, kk.ex (Ex.of_same s7)⟩
    ·cases hq
 ·cases hq
end
end MR
namespace MR
open PySem L2 PyProof.Rows PySem.Spec
theorem csc {osc scope : Scope} {ON N : List Str} {cap : List (Option Nat)} (h1 : scope.kind = .function := by rfl) (h2 : ∀ y ∈ scope.names, y.2 ≠ .cell := by decide +kernel) (h3 : ∀ y ∈ scope.names, y.2 = .local -> scope.names.lookup y.1 = some .local := by decide +kernel)
  (h4 : ∀ y ∈ scope.names, y.2 = .free -> osc.names.lookup y.1 = some .cell \/ osc.names.lookup y.1 = some .free := by decide +kernel) (h5 : yU scope ON N cap = true := by decide +kernel) : CSc osc scope ON N cap := ⟨h1, h2, h3, h4, h5⟩
theorem fsc {N P : List Str} {sc : Scope} (h1 : sc.kind = .function := by rfl) (h2 : sc.isCoroutine = false := by rfl) (h3 : sc.isGenerator = false := by rfl) (h4 : N.Nodup := by decide +kernel) (h5 : N.take P.length = P := by rfl)
  (h6 : ∀ x ∈ P, sc.names.lookup x = some .local \/ sc.names.lookup x = some .cell := by decide +kernel) (h7 : ∀ y ∈ sc.names, y.2 ≠ .free := by decide +kernel) : FnScope N P sc := ⟨h1, h2, h3, h4, h5, h6, h7⟩
theorem b_ {X : Cx} {N : List Str} {scope : Scope} {C s H fp} {x : Str} {pos : Pos} (i : Nat) (hN : N.Nodup := by decide +kernel) (hi : N[i]? = some x := by rfl) (hx : Loc (X.comp N scope C s H fp).env.scope x := by exact Or.inl rfl)
  (hf : (X.comp N scope C s H fp).fn x = true \/ (X.comp N scope C s H fp).env.scope.names.lookup x = some .local := by first | exact .inl rfl | exact .inr rfl | assumption) : PG (X.comp N scope C s H fp) (.Name x pos) (ul i) := wK hN hi hx hf
section
variable {P : Program} {w : World} {K : PySem.W.Frag} {mg : Str -> Option Value} {base : Heap}
theorem fok {x qual : Str} {st : Stmt} {f : Addr} {fd : FuncData} {N ps : List Str} {k n kk : Nat} {C : MC} {G G' L : List Nat} {ro : Bool} {g : Env -> Option Out} (F : Fun K x qual st f fd) (S : FnScope N ps (ao st))
  (hb : ∀ (cdv : Value) (A : Around) (outer : List PySem.Env) (s : Shared) (H : Hp) (E : XK), Room k (A.deeper (envOfC qual (ao st) s.heap.objs.size f cdv)) -> ∀ B H', SSs (u0 CX0 P w K mg base N qual (ao st) f cdv A outer s H E).nox ⟨C, B, H', fun _ => none⟩ G G' L ro (aO st) g)
  (hp : kk = ps.length := by rfl) (hN : N.length = n := by rfl) (hk : kk <= n := by decide) (hG : (G.all fun i => decide (kk <= i)) = true := by decide) : FnOk P w K mg base CX0 (k + 1) f fd ps (spM C (bB n kk ro g) ro) :=
 F.ok S (fun vs H Q E h => (Ky h).trans hp) fun cdv A outer s H vs Q E hr h => Kw hN hk hG (fun B H' => hb cdv A outer s H E hr B H') h
end
end MR
namespace My
open PySem L2 MR
noncomputable section
def qN : PV := .ktp [.str "never", .str "may", .str "must"]
def tb_bool : List (String × Bool) := [("bool", true), ("int", false)]
def tb_int : List (String × Bool) := [("int", true)]
def tb_list : List (String × Bool) := [("list", true)]
def tb_str : List (String × Bool) := [("str", true)]
def tb_tuple : List (String × Bool) := [("tuple", true)]
def mV := (aH (sIf (tV (b2 (gZ fun i j => decide (i < j)) (bV 1) (b1 lenV (bV 0)))) (aQ (b2 ixP (bV 0) (bV 1))) sNx) (aQ (bC (.int 0))))
def cA := bB 2 2 false mV
def qO := (aH (aK 2 (b2 ixP (b7 (ak (bC (.int 1)) (ak (bC (.int 3)) (ak (bC (.int 5)) (ak (bC (.int 7)) (ak (bC (.int 9)) (ak (bC (.int 11)) (ak (bC (.int 15)) (ak (bC (.int 17)) aC))))))))) (b2 b8 (b2 fD (bV 0) (bC (.int 26))) (bC (.int 8))))) (aQ (b2 ixP (bC (.str "abcdefghijklmnopqrstuvwxyz")) (b2 b8 (b2 bR (bV 0) (b2 su (bV 1) (bV 2))) (bC (.int 26))))))
def bf := bB 3 2 false qO
def uR := (aQ (b2 b8 (b2 bR (b2 su (b2 b8 (bV 0) (bC (.int 1000003))) (b2 bR (bC (.int 48271)) (b2 su (b2 su (bC (.int 15838)) (bV 1)) (bV 1)))) (b2 su (bC (.int 69621)) (bV 1))) (bC (.int 2147483647))))
def cG := bB 2 2 false uR
def lC := (aK 3 (b2 bR (bV 3) (aL bf (ak (bV 0) (ak (b2 bR (bV 1) (b2 b8 (b2 fD (bV 2) (b2 ixP (b7 (ak (bC (.int 4)) (ak (bC (.int 8)) (ak (bC (.int 28)) (ak (bC (.int 128)) aC))))) (bV 4))) (b2 ixP (b7 (ak (bC (.int 2)) (ak (bC (.int 5)) aC))) (b2 b8 (b2 fD (bV 2) (bC (.int 3))) (bC (.int 2)))))) aC)))))
def qg := (aH (aK 3 (bC (.str ""))) (aH (cN (gN 4) (iR1 (b2 bR (bC (.int 2)) (b2 b8 (bV 2) (bC (.int 3))))) [4] lC) (aQ (bV 3))))
def fO := bB 5 3 false qg
def jw := (aL cA (ak (bV 1) (ak (b2 bR (bV 2) (bV 0)) aC)))
def jx := (aL bf (ak (bV 1) (ak (bV 0) aC)))
def jy := (aH (aK 8 (aL cG (ak (b2 ixP (bV 2) (bC (.int 2))) (ak (bV 7) aC)))) (dH mQ 6 (b2 bR (b2 ixP (bV 5) (b2 b8 (bV 8) (bV 4))) (b2 ixP (bV 5) (b2 b8 (b2 fD (bV 8) (bC (.int 8))) (bV 4))))))
def lU := (b2 b8 (aL cG (ak (b2 ixP (bV 1) (bC (.int 3))) (ak (bV 0) aC))) (bC (.int 4)))
def lV := (b2 ixP (bV 1) (bV 0))
def lW := (tV (b2 inQ (b2 ixP (bV 2) (bV 0)) (gY (ak (bC (.int 1)) (ak (bC (.int 3)) aC)))))
def lX := (b2 ixP (bV 1) (bV 0))
def lY := (tV (b2 (gZ fun i j => decide (j < i)) (b2 ixP (bV 2) (bV 0)) (bC (.int 1))))
def l_ := (aL fO (ak (bV 1) (ak (bV 2) (ak (aL cG (ak (b2 ixP (bV 3) (bC (.int 4))) (ak (bV 0) aC))) aC))))
def lD := (aL fO (ak (bV 1) (ak (bV 2) (ak (aL cG (ak (b2 ixP (bV 3) (bC (.int 5))) (ak (bV 0) aC))) aC))))
def qP := (aH (aK 2 (aV [none, some 0, some 1] (iR1 (bC (.int 6))) (gN 0) aY jw)) (aH (aK 3 (b2 ixP (bV 2) (bC (.int 0)))) (aH (aK 4 (b2 bR (bC (.int 1)) (b2 b8 (b2 ixP (bV 2) (bC (.int 1))) (bC (.int 7))))) (aH (aK 5 (aV [none, some 3] (iR1 (bV 4)) (gN 0) aY jx)) (aH (aK 6 (b7 aC)) (aH (cN (gN 7) (iR1 (b2 b8 (b2 fD (b2 ixP (bV 2) (bC (.int 1))) (bC (.int 7))) (bC (.int 4)))) [7, 8] jy) (aH (aK 9 (aV [none, some 2] (iR1 (b2 bR (bV 4) (b1 lenV (bV 6)))) (gN 0) aY lU)) (aH (aK 10 (b2 bR (bV 5) (bV 6))) (aH (aK 11 (aV [none, some 10, some 9] (iR1 (b1 lenV (bV 10))) (gN 0) lW lV)) (aH (aK 12 (aV [none, some 10, some 9] (iR1 (b1 lenV (bV 10))) (gN 0) lY lX)) (aH (aK 13 (aV [none, some 3, some 4, some 2] (iR1 (b2 b8 (b2 fD (b2 ixP (bV 2) (bC (.int 4))) (bC (.int 7))) (bC (.int 5)))) (gN 0) aY l_)) (aH (aK 14 (aV [none, some 3, some 4, some 2] (iR1 (b2 b8 (b2 fD (b2 ixP (bV 2) (bC (.int 5))) (bC (.int 7))) (bC (.int 4)))) (gN 0) aY lD)) (aH (aK 15 (b2 ixP (b7 (ak (bC (.str "")) (ak (bC (.str "never")) (ak (bC (.str "may")) (ak (bC (.str "must")) aC))))) (b2 b8 (b2 fD (b2 ixP (bV 2) (bC (.int 1))) (bC (.int 28))) (bC (.int 4))))) (aQ (gY (ak (bV 5) (ak (bV 6) (ak (bV 11) (ak (bV 12) (ak (bV 13) (ak (bV 14) (ak (bV 15) (ak (bV 3) aC)))))))))))))))))))))))
def eN := bB 16 2 false qP
def jW := (aL bf (ak (b2 ixP (bV 1) (bC (.int 7))) (ak (b2 bR (b1 lenV (b2 ixP (bV 1) (bC (.int 0)))) (bV 0)) aC)))
def fP := (aH (aK 6 (b2 ixP (b7 (ak (bV 2) (ak (bV 3) aC))) (b2 b8 (bV 5) (bC (.int 2))))) (dH mQ 4 (gY (ak (b2 ixP (bV 6) (b2 b8 (b2 fD (bV 5) (bC (.int 2))) (b1 lenV (bV 6)))) (ak (b2 ixP (bV 6) (b2 b8 (b2 fD (bV 5) (bC (.int 64))) (b1 lenV (bV 6)))) aC)))))
def jK := (aH (aK 2 (b2 bR (b2 ixP (bV 0) (bC (.int 0))) (b2 ixP (bV 0) (bC (.int 1))))) (aH (aK 3 (aV [none, some 0] (iR1 (bC (.int 5))) (gN 0) aY jW)) (aH (aK 4 (b7 aC)) (aH (cN (gN 5) (iV (bV 1)) [5, 6] fP) (aQ (bV 4))))))
def h_ := bB 7 2 false jK
def nY := (b2 bR (b2 bR (bV 1) (bC (.str " "))) (bV 0))
def eO := (aH (aK 5 (b2 ixP (bV 0) (bV 3))) (sIf (tV (b2 eqQ (b2 b8 (b2 fD (bV 1) (b2 ixP (b7 (ak (bC (.int 1)) (ak (bC (.int 2)) (ak (bC (.int 4)) (ak (bC (.int 8)) (ak (bC (.int 16)) (ak (bC (.int 32)) aC))))))) (bV 3))) (bC (.int 2))) (bC (.int 1)))) (aK 2 (b2 o6 (bV 2) (aV [none, some 4] (iV (bV 5)) (gN 0) aY nY))) (sIf (tV (b2 neQ (bV 5) (b7 aC))) (dH mQ 2 (b2 bR (b2 bR (bV 4) (bC (.str " "))) (b2 vO (bC (.str " ")) (bV 5)))) sNx)))
def pU := (aH (aK 2 (b7 aC)) (aH (cN (gT [3, 4]) (iE (b7 (ak (bC (.str "carry")) (ak (bC (.str "one")) (ak (bC (.str "long")) (ak (bC (.str "either")) (ak (bC (.str "begin")) (ak (bC (.str "split")) aC)))))))) [3, 4, 5] eO) (aH (sIf (tV (b2 neQ (b2 ixP (bV 0) (bC (.int 6))) (bC (.str "")))) (dH mQ 2 (b2 bR (bC (.str "run ")) (b2 ixP (bV 0) (bC (.int 6))))) sNx) (aH (aK 6 (b2 b8 (b2 fD (bV 1) (bC (.int 64))) (b2 bR (b1 lenV (bV 2)) (bC (.int 1))))) (aQ (b2 o6 (bSl (bV 2) (oS (bV 6)) oN) (bSl (bV 2) oN (oS (bV 6)))))))))
def gH := bB 7 2 true pU
def mj := (y_ DK 2 (bV 4) (bC (.bl true)))
def eQ := (sIf (tV (b2 eqQ (b2 ixP (bV 3) (bC (.int 0))) (bV 0))) (cN (gN 4) (iV (bSl (bV 3) (oS (bC (.int 1))) oN)) [4] mj) sNx)
def qQ := (aH (aK 2 (bC (.dK []))) (aH (cN (gN 3) (iV (bV 1)) [3, 4] eQ) (aQ (bV 2))))
def bj := bB 5 2 false qQ
def lK := (sIf (tV (b2 eqQ (b2 ixP (bV 2) (bC (.int 0))) (bC (.str "run")))) (aK 1 (b2 ixP (bV 2) (bC (.int 1)))) sNx)
def uT := (aH (aK 1 (bC (.str "never"))) (aH (cN (gN 2) (iV (bV 0)) [2] lK) (aQ (bV 1))))
def jP := bB 3 1 false uT
def fQ := (sIf (tV (b2 eqQ (b2 ixP (bV 2) (bC (.int 0))) (bC (.str "alike")))) (y_ DK 1 (gY (ak (b2 ixP (bV 2) (bC (.int 1))) (ak (b2 ixP (bV 2) (bC (.int 2))) aC))) (bC (.bl true))) sNx)
def rH := (aH (aK 1 (bC (.dT []))) (aH (cN (gN 2) (iV (bV 0)) [2] fQ) (aQ (bV 1))))
def ie := bB 3 1 false rH
def sY := (aQ (iW (b2 eqQ (b1 lenV (bV 0)) (bC (.int 1))) (b2 inQ (bV 0) (bC (.str "abcdefghijklmnopqrstuvwxyz")))))
def dJ := bB 1 1 false sY
def lE := (aL dJ (ak (bV 0) aC))
def qi := (aQ (iW (b2 eqQ (b2 ixP (bV 0) (bC (.int 0))) (bC (.str "carry"))) (iW (b2 (gZ fun i j => decide (j < i)) (b1 lenV (bV 0)) (bC (.int 1))) (b1 nR (aV [none] (iV (bSl (bV 0) (oS (bC (.int 1))) oN)) (gN 0) aY lE)))))
def cY := bB 1 1 false qi
def rJ := (aQ (iW (b2 eqQ (b1 lenV (bV 1)) (bC (.int 2))) (iW (b2 inQ (b2 ixP (bV 1) (bC (.int 0))) (bV 0)) (b2 inQ (b2 ixP (bV 1) (bC (.int 1))) (bV 0)))))
def jL := bB 2 2 false rJ
def mW := (aL jL (ak (bV 1) (ak (bV 0) aC)))
def rK := (aQ (iW (b2 eqQ (b2 ixP (bV 1) (bC (.int 0))) (bC (.str "one"))) (iW (b2 (gZ fun i j => decide (j < i)) (b1 lenV (bV 1)) (bC (.int 1))) (b1 nR (aV [none, some 0] (iV (bSl (bV 1) (oS (bC (.int 1))) oN)) (gN 0) aY mW)))))
def dY := bB 2 2 false rK
def vX := (aQ (iW (aL dJ (ak (bV 1) aC)) (b2 mL (bV 1) (bV 0))))
def jz := bB 2 2 false vX
def jA := (b2 inQ (bV 0) (bV 1))
def jB := (aL jz (ak (bV 1) (ak (bV 0) aC)))
def oZ := (aH (sIf (tV (b2 neQ (b1 lenV (bV 2)) (bC (.int 2)))) (aQ (bC (.bl false))) sNx) (aQ (bOr (b1 nR (aV [none, some 1] (iV (bV 2)) (gN 0) aY jA)) (b1 nR (aV [none, some 0] (iV (bV 2)) (gN 0) aY jB)))))
def fG := bB 3 3 false oZ
def mX := (aL jz (ak (bV 1) (ak (bV 0) aC)))
def rM := (aQ (iW (sH (fun i j => decide (i <= j)) (fun i j => decide (i <= j)) (bC (.int 2)) (b1 lenV (bV 1)) (bC (.int 4))) (b1 nR (aV [none, some 0] (iV (bV 1)) (gN 0) aY mX))))
def jM := bB 2 2 false rM
def pW := (b2 inQ (bV 0) (bV 1))
def pX := (aL jM (ak (bV 1) (ak (bV 0) aC)))
def rz := (aH (aK 3 (b2 ixP (bV 2) (bC (.int 0)))) (aH (aK 4 (bSl (bV 2) (oS (bC (.int 1))) oN)) (aH (aK 5 (b2 bR (b1 oG (bV 0)) (b1 oG (bV 1)))) (aH (sIf (tV (b2 eqQ (bV 3) (bC (.str "carry")))) (aQ (aL cY (ak (bV 2) aC))) sNx) (aH (sIf (tV (b2 eqQ (bV 3) (bC (.str "one")))) (aQ (aL dY (ak (bV 0) (ak (bV 2) aC)))) sNx) (aH (sIf (tO (tV (b2 eqQ (bV 3) (bC (.str "long")))) (tV (b2 eqQ (bV 3) (bC (.str "either"))))) (aQ (iW (b2 (gZ fun i j => decide (j < i)) (b1 lenV (bV 4)) (bC (.int 0))) (b1 nR (aV [none, some 5] (iV (bV 4)) (gN 0) aY pW)))) sNx) (aH (sIf (tO (tV (b2 eqQ (bV 3) (bC (.str "begin")))) (tV (b2 eqQ (bV 3) (bC (.str "split"))))) (aQ (iW (b2 (gZ fun i j => decide (j < i)) (b1 lenV (bV 4)) (bC (.int 0))) (b1 nR (aV [none, some 0] (iV (bV 4)) (gN 0) aY pX)))) sNx) (aH (sIf (tV (b2 eqQ (bV 3) (bC (.str "run")))) (aQ (iW (b2 eqQ (b1 lenV (bV 4)) (bC (.int 1))) (b2 inQ (b2 ixP (bV 4) (bC (.int 0))) (bC qN)))) sNx) (aQ (iW (b2 eqQ (bV 3) (bC (.str "alike"))) (aL fG (ak (bV 0) (ak (bV 5) (ak (bV 4) aC))))))))))))))
def mY := bB 6 3 false rz
def fU := (b2 sI (bV 0) (bC (.str " ")))
def i_ := (bV 0)
def jb := (tV (aL cY (ak (bV 0) aC)))
def jc := (bV 0)
def jd := (tV (aL dY (ak (qF 0 "carrying" (bV 1)) (ak (bV 0) aC))))
def je := (sIf (tN (tV (aL mY (ak (qF 0 "carrying" (bV 0)) (ak (qF 0 "pairs" (bV 0)) (ak (bV 4) aC)))))) sNo sNx)
def nJ := (aH (aK 2 (aV [none] (iV (bV 1)) (gN 0) aY fU)) (aH (dH (fsV 0 "carrying") 0 (aL bj (ak (bC (.str "carry")) (ak (aV [none] (iV (bV 2)) (gN 0) jb i_) aC)))) (aH (dH (fsV 0 "pairs") 0 (aL bj (ak (bC (.str "one")) (ak (aV [none, some 0] (iV (bV 2)) (gN 0) jd jc) aC)))) (aH (cN (gT [3, 4]) (iE (bV 2)) [3, 4] je) (aH (dH (fsV 0 "longs") 0 (aL bj (ak (bC (.str "long")) (ak (bV 2) aC)))) (aH (dH (fsV 0 "eithers") 0 (aL bj (ak (bC (.str "either")) (ak (bV 2) aC)))) (aH (dH (fsV 0 "beginnings") 0 (aL bj (ak (bC (.str "begin")) (ak (bV 2) aC)))) (aH (dH (fsV 0 "splittings") 0 (aL bj (ak (bC (.str "split")) (ak (bV 2) aC)))) (aH (dH (fsV 0 "running") 0 (aL jP (ak (bV 2) aC))) (dH (fsV 0 "likes") 0 (aL ie (ak (bV 2) aC))))))))))))
def cO : List PV -> Option (List (Str × PV)) := uq 5 2 0 nJ
def jC := (b2 bR (b2 bR (b2 bR (bC (.str "alike ")) (bV 0)) (bC (.str " "))) (bV 1))
def km := (aH (aK 3 (aL gH (ak (bV 1) (ak (aL cA (ak (bV 0) (ak (bC (.int 0)) aC))) aC)))) (aQ (DN 0 cO (ak (b2 o6 (bV 3) (aV [none, none] (iV (bV 2)) (gT [0, 1]) aY jC)) aC))))
def gB := bB 4 3 false km
def fW := (aH (aK 3 (b2 bR (bC (.int 1)) (b1 HQ (b2 inQ (bSl (bV 1) oN (oS (bC (.int 2)))) (b2 ixP (bV 0) (bC (.int 1))))))) (aH (dH mQ 2 (bSl (bV 1) oN (oS (bV 3)))) (aK 1 (bSl (bV 1) (oS (bV 3)) oN))))
def fX := (tV (b2 neQ (bV 1) (bC (.str ""))))
def lL := (aH (aK 2 (b7 aC)) (aH (qM 1000000 fX [3] fW) (aQ (bV 2))))
def ig := bB 4 2 false lL
def gf := (aH (sIf (tO (tV (b2 eqQ (b1 lenV (bV 3)) (bC (.int 2)))) (tV (b2 inQ (bV 3) (b2 ixP (bV 0) (bC (.int 0)))))) (aK 2 (b7 aC)) sNx) (dH mQ 2 (bV 3)))
def oH := (aH (aK 2 (b7 aC)) (aH (cN (gN 3) (iV (aL ig (ak (bV 0) (ak (bV 1) aC)))) [3] gf) (aQ (bV 2))))
def cg := bB 4 2 false oH
def iM := (bV 1)
def iQ := (tV (b2 eqQ (bV 0) (bV 2)))
def iR := (bV 0)
def iT := (tV (b2 eqQ (bV 1) (bV 2)))
def jX := (aH (aK 3 (b2 o6 (b2 o6 (b7 (ak (bV 1) aC)) (aV [none, none, some 1] (iV (bV 0)) (gT [0, 1]) iQ iM)) (aV [none, none, some 1] (iV (bV 0)) (gT [0, 1]) iT iR))) (aQ (b2 ixP (bV 3) (b2 b8 (bV 2) (b1 lenV (bV 3))))))
def fY := bB 4 3 false jX
def kE := (aK 6 (b2 bR (bV 6) (aL fY (ak (bV 1) (ak (b2 ixP (bV 4) (bV 7)) (ak (aL cG (ak (b2 fD (bV 3) (bC (.int 3))) (ak (bV 7) aC))) aC))))))
def gJ := (aH (aK 4 (aL cg (ak (bV 0) (ak (bV 2) aC)))) (aH (aK 5 (b7 (ak (bC (.str "")) (ak (aL bf (ak (b2 ixP (bV 0) (bC (.int 7))) (ak (b1 lenV (b2 ixP (bV 0) (bC (.int 0)))) aC))) (ak (b2 bR (b2 ixP (b2 ixP (bV 0) (bC (.int 0))) (bC (.int 0))) (aL bf (ak (b2 ixP (bV 0) (bC (.int 7))) (ak (b2 bR (b1 lenV (b2 ixP (bV 0) (bC (.int 0)))) (bC (.int 1))) aC)))) aC))))) (aH (aK 6 (b2 ixP (bV 5) (b2 b8 (bV 3) (bC (.int 3))))) (aH (cN (gN 7) (iR1 (b1 lenV (bV 4))) [7] kE) (aH (sIf (tV (b2 (gZ fun i j => decide (j < i)) (b1 lenV (bV 6)) (bC (.int 24)))) (aQ (bV 2)) sNx) (aQ (bV 6)))))))
def fH := bB 8 4 false gJ
def di := (aH (aK 2 (b1 lenV (b2 ixP (bV 0) (bC (.int 0))))) (aH (aK 3 (b2 b8 (bV 1) (bC (.int 7)))) (aH (aK 4 (b2 fD (bV 1) (bC (.int 7)))) (aH (sIf (tA (tV (b2 eqQ (bV 3) (bC (.int 4)))) (tV (b2 neQ (b2 ixP (bV 0) (bC (.int 4))) (b7 aC)))) (aQ (b2 ixP (b2 ixP (bV 0) (bC (.int 4))) (b2 b8 (bV 4) (b1 lenV (b2 ixP (bV 0) (bC (.int 4))))))) sNx) (aH (sIf (tA (tV (b2 eqQ (bV 3) (bC (.int 5)))) (tV (b2 neQ (b2 ixP (bV 0) (bC (.int 5))) (b7 aC)))) (aQ (b2 ixP (b2 ixP (bV 0) (bC (.int 5))) (b2 b8 (bV 4) (b1 lenV (b2 ixP (bV 0) (bC (.int 5))))))) sNx) (aH (sIf (tA (tV (b2 eqQ (bV 3) (bC (.int 6)))) (tV (b2 neQ (b2 ixP (bV 0) (bC (.int 1))) (b7 aC)))) (aQ (b2 ixP (b2 ixP (bV 0) (bC (.int 1))) (b2 b8 (bV 4) (b1 lenV (b2 ixP (bV 0) (bC (.int 1))))))) sNx) (aH (sIf (tV (b2 (gZ fun i j => decide (i < j)) (bV 3) (bC (.int 3)))) (aQ (b2 ixP (b2 ixP (bV 0) (bC (.int 0))) (b2 b8 (bV 4) (bV 2)))) sNx) (aQ (aL bf (ak (b2 ixP (bV 0) (bC (.int 7))) (ak (b2 bR (bV 2) (b2 b8 (bV 4) (bC (.int 5)))) aC)))))))))))
def dj := bB 5 2 false di
def kI := (aK 2 (bSl (b2 bR (bV 2) (aL dj (ak (bV 0) (ak (aL cG (ak (b2 fD (bV 1) (bC (.int 9))) (ak (bV 3) aC))) aC)))) oN (oS (bC (.int 24)))))
def eU := (bV 0)
def eV := (tV (b2 inQ (bV 0) (b2 ixP (bV 1) (bC (.int 0)))))
def j0 := (aH (aK 2 (bC (.str ""))) (aH (cN (gN 3) (iR1 (b2 bR (bC (.int 1)) (b2 b8 (bV 1) (bC (.int 9))))) [3] kI) (aH (sIf (tV (b2 eqQ (aV [none, some 0] (iV (bV 2)) (gN 0) eV eU) (b7 aC))) (aK 2 (b2 bR (bSl (bV 2) oN (oS (bC (.int 23)))) (b2 ixP (b2 ixP (bV 0) (bC (.int 0))) (b2 b8 (b2 fD (bV 1) (bC (.int 9))) (b1 lenV (b2 ixP (bV 0) (bC (.int 0)))))))) sNx) (aQ (bV 2)))))
def fJ := bB 4 2 false j0
def iG := (sIf (tA (tV (b2 (gZ fun i j => decide (j < i)) (b2 b8 (bV 4) (bC (.int 4))) (bC (.int 0)))) (tV (b2 neQ (bV 3) (b7 aC)))) (dH mQ 3 (aL fH (ak (bV 0) (ak (bV 1) (ak (b2 ixP (bV 3) (b2 b8 (b2 fD (bV 4) (bC (.int 4))) (b1 lenV (bV 3)))) (ak (b2 fD (bV 4) (bC (.int 8))) aC)))))) (dH mQ 3 (aL fJ (ak (bV 0) (ak (b2 fD (bV 4) (bC (.int 4))) aC)))))
def lM := (aH (aK 3 (b7 aC)) (aH (cN (gN 4) (iV (bV 2)) [4] iG) (aQ (bV 3))))
def ik := bB 5 3 false lM
def iU := (gY (ak (bV 0) (ak (bC (.bl true)) aC)))
def gq := (bV 0)
def gr := (tV (b2 mL (bV 0) (bV 1)))
def cH := (aH (aK 5 (bIf (tV (b2 eqQ (b2 ixP (bV 0) (bV 4)) (bV 2))) (b7 aC) (aV [none, some 3] (iV (b2 ixP (bV 0) (bV 4))) (gN 0) gr gq))) (sIf (tV (b2 (gZ fun i j => decide (j < i)) (b1 lenV (bV 5)) (bC (.int 0)))) (aQ (gY (ak (bV 1) (ak (bV 4) (ak (b2 ixP (bV 5) (bC (.int 0))) aC))))) sNx))
def bI := (aH (aK 3 (b1 zZ (aV [none] (iV (bV 2)) (gN 0) aY iU))) (cN (gN 4) (iV (bV 2)) [4, 5] cH))
def qj := (aH (cN (gT [1, 2]) (iE (bV 0)) [1, 2, 3, 4, 5] bI) (aQ (bC .non)))
def dM := bB 6 1 false qj
def o4 := (aQ (b2 inQ (bV 1) (qF 0 "carrying" (bV 0))))
def cT := bB 2 2 false o4
def mZ := (aL dJ (ak (bV 0) aC))
def m8 := (p8 0 "carries" cT (bV 1) (ak (bV 0) aC))
def vY := (aH (sIf (tO (tN (tV (b1 (nW tb_str) (bV 1)))) (tV (b2 (gZ fun i j => decide (j < i)) (b1 lenV (bV 1)) (bC (.int 24))))) (aQ (bC (.bl false))) sNx) (aQ (iW (b1 nR (aV [none] (iV (bV 1)) (gN 0) aY mZ)) (b1 HR (aV [none, some 0] (iV (bV 1)) (gN 0) aY m8)))))
def m9 := bB 2 2 false vY
def ph := (sIf (tN (tV (aL m9 (ak (bV 0) (ak (bV 1) aC))))) sNo sNx)
def dU := bB 2 2 false ph
def o5 := (aQ (b2 inQ (bV 1) (qF 0 "pairs" (bV 0))))
def fK := bB 2 2 false o5
def il := (aH (aK 4 (bIf (tV (p8 0 "is_pair" fK (bV 0) (ak (bSl (bV 1) (oS (bV 3)) (oS (b2 bR (bV 3) (bC (.int 2))))) aC))) (bC (.int 2)) (bC (.int 1)))) (aH (dH mQ 2 (bSl (bV 1) (oS (bV 3)) (oS (b2 bR (bV 3) (bV 4))))) (aK 3 (b2 bR (bV 3) (bV 4)))))
def ir := (tV (b2 (gZ fun i j => decide (i < j)) (bV 3) (b1 lenV (bV 1))))
def qG := (aH (yZ (aL dU (ak (bV 0) (ak (bV 1) aC)))) (aH (aK 2 (b7 aC)) (aH (aK 3 (bC (.int 0))) (aH (qM 1000000 ir [4] il) (aQ (bV 2))))))
def jQ := bB 5 2 false qG
def oJ := (bV 0)
def oK := (tV (p8 0 "carries" cT (bV 2) (ak (b2 ixP (bV 1) (bC (.int 0))) aC)))
def qp := (aH (aK 2 (aL jQ (ak (bV 0) (ak (bV 1) aC)))) (aH (aK 3 (b1 ur (aV [none, none, some 0] (iE (bV 2)) (gT [0, 1]) oK oJ))) (aQ (bSl (bV 2) (oS (bV 3)) oN))))
def gw := bB 4 2 false qp
def jD := (aQ (bOr (b2 eqQ (bV 1) (bV 2)) (bOr (b2 inQ (gY (ak (bV 1) (ak (bV 2) aC))) (qF 0 "likes" (bV 0))) (b2 inQ (gY (ak (bV 2) (ak (bV 1) aC))) (qF 0 "likes" (bV 0))))))
def dw := bB 3 3 false jD
def iH := (p8 0 "alike" dw (bV 2) (ak (bV 0) (ak (bV 1) aC)))
def rN := (aQ (iW (b2 eqQ (b1 lenV (bV 1)) (b1 lenV (bV 2))) (b1 nR (aV [none, none, some 0] (iZ (bV 1) (bV 2)) (gT [0, 1]) aY iH))))
def dm := bB 3 3 false rN
def iu := (bV 0)
def iy := (tV (aL dm (ak (bV 2) (ak (bV 3) (ak (bV 1) aC)))))
def uU := (aQ (aV [none, none, some 0, some 2] (iE (bV 1)) (gT [0, 1]) iy iu))
def jR := bB 3 3 false uU
def kJ := (aL gw (ak (bV 1) (ak (bV 0) aC)))
def kO := (aL jR (ak (bV 1) (ak (bV 2) (ak (bV 0) aC))))
def eX := (bV 1)
def eY := (tV (b2 eqQ (b2 ixP (bV 1) (bC (.int 0))) (bV 0)))
def m_ := (aH (aK 2 (aV [none, some 0] (iV (bV 1)) (gN 0) aY kJ)) (aH (aK 3 (aV [none, some 0, some 2] (iV (bV 2)) (gN 0) aY kO)) (aH (aK 4 (aL dM (ak (bV 3) aC))) (aH (sIf (tV (b2 pO (bV 4) (bC .non))) (aQ (gY (ak (bC (.str "broken")) (ak (bV 4) aC)))) sNx) (aQ (gY (ak (bC (.str "classes")) (ak (aV [none, none] (iE (bV 3)) (gT [0, 1]) eY eX) aC))))))))
def dN := bB 5 2 false m_
def dZ := (sIf (tA (tV (b2 ixP (b2 ixP (bV 0) (bV 1)) (bV 2))) (tA (tV (b2 ixP (b2 ixP (bV 0) (bV 2)) (bV 3))) (tN (tV (b2 ixP (b2 ixP (bV 0) (bV 1)) (bV 3)))))) (aQ (gY (ak (bC (.str "broken")) (ak (gY (ak (bV 1) (ak (bV 2) (ak (bV 3) aC)))) aC)))) sNx)
def gh := (cN (gN 3) (iR1 (b1 lenV (bV 0))) [3] dZ)
def d7 := (cN (gN 2) (iR1 (b1 lenV (bV 0))) [2, 3] gh)
def lN := (bV 0)
def lO := (tV (b2 ixP (b2 ixP (bV 1) (bV 2)) (bV 0)))
def d8 := (aH (aK 5 (aV [none, some 0, some 1] (iR1 (b1 lenV (bV 0))) (gN 0) lO lN)) (sIf (tV (b2 mL (bV 5) (bV 4))) (dH mQ 4 (bV 5)) sNx))
def uV := (aH (cN (gN 1) (iR1 (b1 lenV (bV 0))) [1, 2, 3] d7) (aH (aK 4 (b7 aC)) (aH (cN (gN 1) (iR1 (b1 lenV (bV 0))) [1, 5] d8) (aQ (gY (ak (bC (.str "classes")) (ak (bV 4) aC)))))))
def gA := bB 6 1 false uV
def ni := (bV 0)
def jY := (tO (tN (tV (b1 (nW tb_int) (bV 0)))) (tV (b1 (nW tb_bool) (bV 0))))
def fZ := (sIf (tO (tN (tV (b1 (nW tb_list) (bV 1)))) (tV (b2 neQ (aV [none] (iV (bV 1)) (gN 0) jY ni) (b7 aC)))) (aQ (bC (.bl false))) sNx)
def o9 := (aH (sIf (tO (tN (tV (b1 (nW tb_tuple) (bV 0)))) (tO (tV (b2 neQ (b1 lenV (bV 0)) (bC (.int 2)))) (tN (tV (b1 (nW tb_str) (b2 ixP (bV 0) (bC (.int 0)))))))) (aQ (bC (.bl false))) sNx) (aH (sIf (tV (b2 neQ (b2 ixP (bV 0) (bC (.int 0))) (bC (.str "classes")))) (aQ (b1 (nW tb_tuple) (b2 ixP (bV 0) (bC (.int 1))))) sNx) (aH (sIf (tN (tV (b1 (nW tb_list) (b2 ixP (bV 0) (bC (.int 1)))))) (aQ (bC (.bl false))) sNx) (aH (cN (gN 1) (iV (b2 ixP (bV 0) (bC (.int 1)))) [1] fZ) (aQ (bC (.bl true)))))))
def d9 := bB 2 1 false o9
def cZ := (sIf (tA (tV (b2 neQ (b2 ixP (bV 4) (bV 6)) (b2 ixP (bV 5) (bV 6)))) (tA (tV (b2 mL (gY (ak (b2 ixP (bV 4) (bV 6)) (ak (b2 ixP (bV 5) (bV 6)) aC))) (bV 1))) (tV (b2 mL (gY (ak (b2 ixP (bV 5) (bV 6)) (ak (b2 ixP (bV 4) (bV 6)) aC))) (bV 1))))) (aQ (bC (.bl false))) sNx)
def lQ := (aH (aK 4 (aL cg (ak (bV 0) (ak (bV 2) aC)))) (aH (aK 5 (aL cg (ak (bV 0) (ak (bV 3) aC)))) (aH (sIf (tV (b2 neQ (b1 lenV (bV 4)) (b1 lenV (bV 5)))) (aQ (bC (.bl false))) sNx) (aH (cN (gN 6) (iR1 (b1 lenV (bV 4))) [6] cZ) (aQ (bC (.bl true)))))))
def gj := bB 7 4 false lQ
def pY := (aL gj (ak (bV 1) (ak (bV 2) (ak (bV 3) (ak (bV 0) aC)))))
def mq := (dH mQ 6 (aV [none, some 1, some 2, some 7] (iV (bV 4)) (gN 0) aY pY))
def vZ := (aH (aK 1 (aL eN (ak (bV 0) (ak (bC (.int 1)) aC)))) (aH (aK 2 (aL h_ (ak (bV 1) (ak (bSl (bV 0) (oS (bC (.int 7))) (oS (bC (.int 13)))) aC)))) (aH (aK 3 (aL gB (ak (bV 0) (ak (bV 1) (ak (bV 2) aC))))) (aH (aK 4 (aL ik (ak (bV 1) (ak (bV 2) (ak (bSl (bV 0) (oS (bC (.int 13))) (oS (bC (.int 22)))) aC))))) (aH (aK 5 (b1 oG (bV 4))) (aH (aK 6 (b7 aC)) (aH (cN (gN 7) (iV (bV 4)) [7] mq) (z8 "classes" 8 9 (ak (bV 3) (ak (bV 4) aC)) dN (aK 9 (aL gA (ak (bV 6) aC))) (sIf (tO (tN (tV (aL d9 (ak (bV 8) aC)))) (tO (tV (b2 neQ (bV 8) (bV 9))) (tV (b2 neQ (bV 4) (bV 5))))) (aQ (bC (.bl false))) sNx) (tV (b2 eqQ (b2 ixP (bV 8) (bC (.int 0))) (bC (.str "classes")))) (aQ (b2 eqQ (aL dN (ak (bV 3) (ak (bV 5) aC))) (aL gA (ak (bV 6) aC))))))))))))
def v4 := bB 10 1 false vZ
end
end My
namespace My
open PySem L2 MR
abbrev LET : Str := "abcdefghijklmnopqrstuvwxyz"
def isLetter (x : Str) : Bool := decide (x.length = 1) && !(Builtin.Str.occurrences LET x 0 LET.length 1).isEmpty
def gK : List Str -> Bool
 | w :: r => decide (w = ("carry" : Str)) && decide (0 < r.length) && r.all isLetter
 | [] => false
def pairOf (C : Str -> Bool) (x : Str) : Bool := match x.cps.toList with
 | [a, b] => C ⟨#[a]⟩ && C ⟨#[b]⟩
 | _ => false
def j4 (C : Str -> Bool) : List Str -> Bool
 | w :: r => decide (w = ("one" : Str)) && decide (0 < r.length) && r.all (pairOf C)
 | [] => false
def nj (C : Str -> Bool) (x : Str) : Bool := isLetter x && !C x
def j5 (C : Str -> Bool) (x : Str) : Bool := decide (2 <= x.length) && decide (x.length <= 4) && x.cps.toList.all fun c => nj C ⟨#[c]⟩
def kW (C : Str -> Bool) (cs ws : List Str) : Bool := decide (ws.length = 2) && (ws.all (fun w => decide (w ∈ cs)) || ws.all (nj C))
def cP (C : Str -> Bool) (cs : List Str) : List Str -> Bool
 | w :: r =>
  if w = ("carry" : Str) then gK (w :: r)
  else if w = ("one" : Str) then j4 C (w :: r)
  else if w = ("long" : Str) \/ w = ("either" : Str) then decide (0 < r.length) && r.all fun x => decide (x ∈ cs)
  else if w = ("begin" : Str) \/ w = ("split" : Str) then decide (0 < r.length) && r.all (j5 C)
  else if w = ("run" : Str) then decide (r.length = 1) && r.all fun x => decide (x = ("never" : Str) \/ x = ("may" : Str) \/ x = ("must" : Str))
  else decide (w = ("alike" : Str)) && kW C cs r
 | [] => false
def Few (ws : List Str) : Prop := ws.length <= 1000 /\ ∀ x ∈ ws, x.length <= 1000
def inS (ks : List Str) (x : Str) : Bool := decide (x ∈ ks)
theorem sZ {x : Str} (h : x.length <= 1000) : dJ [.str x] = some (.bl (isLetter x)) := by
 have h' : x.length <= 1000000 := by omega
 simp [dJ, sY, eqQ, eqP, h', isLetter, inP]
 by_cases e : (x.length : Int) = 1
 ·have e' : x.length = 1 := by omega
  simp [e, e']
 ·have e' : ¬ x.length = 1 := by omega
  simp [e, e']
theorem qu {α : Type} (f : α -> PV) (w : α) (r : List α) : g8 ((w :: r).map f) (some 1) none = r.map f := by
 unfold g8
 have h1 : HT.sIx ((w :: r).map f).length 0 (some ((1 : Nat) : Int)) = 1 := by
  rw [HT.sIx_nat]; simp
 have h1' : HT.sIx ((w :: r).map f).length 0 (some 1) = 1 := h1
 rw [h1', HT.sIx_none]
 simp only [List.map_cons, List.drop_succ_cons, List.drop_zero]
 exact List.take_of_length_le (by simp)
theorem mC {α : Type} (p : α -> Bool) : ∀ l : List α, bools (l.map fun x => PV.bl (p x)) = some (l.map p)
 | [] => rfl
 | x :: l => by simp [mC p l]
theorem z9 {w : Str} {r : List Str} (hf : Few (w :: r)) : cY [.lst ((w :: r).map .str)] = some (.bl (gK (w :: r))) := by
 have hl : r.length <= 1000 := by have := hf.1; simp at this; omega
 have hc : bJ [none] (gN 0) aY lE (r.map .str) = some (r.map fun x => .bl (isLetter x)) :=
  bw _ _ r fun y hy => ⟨_, rfl, by simp [lE, sZ (hf.2 y (List.mem_cons_of_mem _ hy))]⟩
 have h0 : atI ((w :: r).map PV.str) 0 = some (.str w) := cu (k := 0) rfl
 have ht := qu PV.str w r
 simp only [List.map_cons] at h0 ht
 simp [cY, qi, h0, ht, eqQ, eqP, gK]
 by_cases e : w = ("carry" : Str)
 ·subst e
  simp
  by_cases e2 : (1 : Int) < (r.length : Int) + 1
  ·have e3 : 0 < r.length := by omega
   have hl' : r.length <= 1000000 := by omega
   simp [e2, e3, hc, hl', mC]
  ·have e3 : ¬ 0 < r.length := by omega
   simp [e2, e3]
 ·simp [e]
end My
namespace My
open PySem L2 MR
theorem Gn {x : Str} (h : x.length = 2) : ∃ a b, x.cps.toList = [a, b] := by
 have h' : x.cps.toList.length = 2 := by rw [Array.length_toList]; exact h
 match hx : x.cps.toList, h' with
 | [a, b], _ => exact ⟨a, b, rfl⟩
theorem KY {ks : List Str} {x : Str} (h : x.length <= 1000) : jL [.dK (sdP ks), .str x] = some (.bl (pairOf (inS ks) x)) := by
 have h' : x.length <= 1000000 := by omega
 simp [jL, rJ, h']
 by_cases e : (x.length : Int) = 2
 ·obtain ⟨a, c, hs⟩ := Gn (x := x) (by omega)
  have a0 : atI x.cps.toList 0 = some a := by rw [hs]; exact cu (k := 0) rfl
  have a1 : atI x.cps.toList 1 = some c := by rw [hs]; exact cu (k := 1) rfl
  have ep : pairOf (inS ks) x = (inS ks ⟨#[a]⟩ && inS ks ⟨#[c]⟩) := by unfold pairOf; rw [hs]
  rw [ep]
  simp [e, a0, a1, vW, inS]
  by_cases m : (⟨#[a]⟩ : Str) ∈ ks <;> simp [m]
 ·have e1 : pairOf (inS ks) x = false := by
   unfold pairOf
   split
   ·rename_i a c hs
    have : x.cps.toList.length = 2 := by rw [hs]; rfl
    rw [Array.length_toList] at this
    exact absurd (show ((x.length : Nat) : Int) = 2 by unfold Str.length; omega) e
   ·rfl
  simp [e, e1]
theorem Gp {ks : List Str} {w : Str} {r : List Str} (hf : Few (w :: r)) : dY [.dK (sdP ks), .lst ((w :: r).map .str)] = some (.bl (j4 (inS ks) (w :: r))) := by
 have hl : r.length <= 1000 := by have := hf.1; simp at this; omega
 have hc : bJ [none, some (.dK (sdP ks))] (gN 0) aY mW (r.map .str) = some (r.map fun x => .bl (pairOf (inS ks) x)) :=
  bw _ _ r fun y hy => ⟨_, rfl, by simp [mW, KY (hf.2 y (List.mem_cons_of_mem _ hy))]⟩
 have h0 : atI ((w :: r).map PV.str) 0 = some (.str w) := cu (k := 0) rfl
 have ht := qu PV.str w r
 simp only [List.map_cons] at h0 ht
 simp [dY, rK, h0, ht, j4]
 by_cases e : w = ("one" : Str)
 ·subst e
  simp
  by_cases e2 : (1 : Int) < (r.length : Int) + 1
  ·have e3 : 0 < r.length := by omega
   have hl' : r.length <= 1000000 := by omega
   simp [e2, e3, hc, hl', mC]
  ·have e3 : ¬ 0 < r.length := by omega
   simp [e2, e3]
 ·simp [e]
theorem Cu {ks : List Str} {x : Str} (h : x.length <= 1000) : jz [.dK (sdP ks), .str x] = some (.bl (nj (inS ks) x)) := by
 simp [jz, vX, sZ h, nj, vW, inS]
 cases isLetter x <;> simp
theorem uv (x : Str) : chV x = x.cps.toList.map fun c => PV.str ⟨#[c]⟩ := rfl
theorem DX {ks : List Str} {x : Str} (h : x.length <= 1000) : jM [.dK (sdP ks), .str x] = some (.bl (j5 (inS ks) x)) := by
 have h' : x.length <= 1000000 := by omega
 have hl : x.cps.toList.length = x.length := Array.length_toList
 have hc : bJ [none, some (.dK (sdP ks))] (gN 0) aY mX (chV x) = some (x.cps.toList.map fun c => .bl (nj (inS ks) ⟨#[c]⟩)) := by
  rw [uv]
  exact bw _ _ _ fun y hy => ⟨_, rfl, by simp [mX, Cu (ks := ks) (x := ⟨#[y]⟩) (by show 1 <= 1000; decide)]⟩
 have hcl : (chV x).length <= 1000000 := by unfold chV; rw [List.length_map, hl]; exact h'
 simp [jM, rM, h', j5]
 by_cases e : (2 : Int) <= x.length
 ·have e1 : 2 <= x.length := by omega
  simp [e, e1]
  by_cases e2 : (x.length : Int) <= 4
  ·have e3 : x.length <= 4 := by omega
   simp [e2, e3, hc, hcl, mC]
  ·have e3 : ¬ x.length <= 4 := by omega
   simp [e2, e3]
 ·have e1 : ¬ 2 <= x.length := by omega
  simp [e, e1]
theorem vf (x : Str) : ∀ cs : List Str, ((cs.map PV.str).any fun y => eqF y (.str x)) = decide (x ∈ cs)
 | [] => by simp
 | c :: r => by
  have ih := vf x r
  rw [List.map_cons, List.any_cons, ih]
  by_cases h : c = x
  ·subst h; simp [eqF]
  ·have h' : ¬ x = c := fun e => h e.symm
   simp [eqF, h, h']
theorem yg : ∀ cs : List Str, (cs.map PV.str).all eE = true
 | [] => rfl
 | _ :: r => by simp [yg r]
theorem pZ (x : Str) (cs : List Str) : inP (.str x) (.lst (cs.map .str)) = some (decide (x ∈ cs)) := by
 have h := vf x cs
 have hf := yg cs
 unfold inP
 simp only [hf, h, eE, and_self, if_true]
theorem Ij {ks cs ws : List Str} (hf : Few ws) : fG [.dK (sdP ks), .lst (cs.map .str), .lst (ws.map .str)] = some (.bl (kW (inS ks) cs ws)) := by
 have hl : ws.length <= 1000000 := by have := hf.1; omega
 have h1 : bJ [none, some (.lst (cs.map .str))] (gN 0) aY jA (ws.map .str) = some (ws.map fun x => .bl (decide (x ∈ cs))) :=
  bw _ _ ws fun y hy => ⟨_, rfl, by simp [jA, pZ]⟩
 have h2 : bJ [none, some (.dK (sdP ks))] (gN 0) aY jB (ws.map .str) = some (ws.map fun x => .bl (nj (inS ks) x)) :=
  bw _ _ ws fun y hy => ⟨_, rfl, by simp [jB, Cu (hf.2 y hy)]⟩
 simp [fG, oZ, kW]
 by_cases e : (ws.length : Int) = 2
 ·have e' : ws.length = 2 := by omega
  simp [e, e', h1, h2, hl, mC]
  cases (ws.all fun x => decide (x ∈ cs)) <;> simp
 ·have e' : ¬ ws.length = 2 := by omega
  simp [e, e']
theorem Ik (ks : List Str) : (sdP ks).map (fun kv => yX kv.1) = ks.map PV.str := by
 unfold sdP; rw [List.map_map]; rfl
theorem vg {f g : MR.Env -> Option Out} {env e : MR.Env} (h : f env = some (.nx e)) : aH f g env = g e := by simp [h]
theorem tu {c : MR.Env -> Option Bool} {f g : MR.Env -> Option Out} {env : MR.Env} (h : c env = some false) : aH (sIf c f sNx) g env = g env := by simp [h]
theorem tD {c : MR.Env -> Option Bool} {f g : MR.Env -> Option Out} {env : MR.Env} {p : PV} (h : c env = some true) (h' : f env = some (.rt p)) : aH (sIf c f sNx) g env = some (.rt p) := by simp [h, h']
theorem mD {env : MR.Env} {w : Str} (h : bV 3 env = some (.str w)) (s : Str) : tV (b2 eqQ (bV 3) (bC (.str s))) env = some (decide (w = s)) := by
 simp only [Jz, mK, h, Option.bind_some, vK, F_, Cq, Option.map_some]
theorem uw {env : MR.Env} {w : Str} (h : bV 3 env = some (.str w)) (s t : Str) : tO (tV (b2 eqQ (bV 3) (bC (.str s)))) (tV (b2 eqQ (bV 3) (bC (.str t)))) env = some (decide (w = s \/ w = t)) := by
 rw [Qp, mD h, mD h]
 by_cases q : w = s <;> simp [q]
theorem nZ {f : MR.Env -> Option PV} {env : MR.Env} {p : PV} (h : f env = some p) : aQ f env = some (.rt p) := by simp [h]
theorem Gq {env : MR.Env} {cap : List (Option Nat)} {ce : MR.Env -> Option PV} {r : List Str} {q : Str -> Bool} (h4 : bV 4 env = some (.lst (r.map .str))) (hl : r.length <= 1000000) (hc : bJ (o7 cap env) (gN 0) aY ce (r.map .str) = some (r.map fun x => .bl (q x))) :
  iW (b2 (gZ fun i j => decide (j < i)) (b1 lenV (bV 4)) (bC (.int 0))) (b1 nR (aV cap (iV (bV 4)) (gN 0) aY ce)) env = some (.bl (decide (0 < r.length) && r.all q)) := by
 have hbl := mC q r
 rw [wQ, mK, yW, h4, yW, q8, QF, h4]
 simp only [Option.bind_some, lenV, vK, gZ, itV, List.length_map, hl, if_true, hc, nR, hbl, Option.map_some]
 cases r with
 | nil => rfl
 | cons x r =>
  have h1 : (0 : Int) < ((x :: r).length : Int) := by simp
  simp only [h1, decide_true]
  simp
theorem KZ {ks ps : List Str} {w : Str} {r : List Str} (hf : Few (w :: r)) (hk : ks.length <= 100000) (hp : ps.length <= 100000) :
  mY [.dK (sdP ks), .dK (sdP ps), .lst ((w :: r).map .str)] = some (.bl (cP (inS ks) (ks ++ ps) (w :: r))) := by
 have hl : r.length <= 1000 := by have := hf.1; simp at this; omega
 have hl' : r.length <= 1000000 := by omega
 have rf : Few r := ⟨hl, fun x hx => hf.2 x (List.mem_cons_of_mem _ hx)⟩
 have h0 : atI ((w :: r).map PV.str) 0 = some (.str w) := cu (k := 0) rfl
 have ht := qu PV.str w r
 have hC := z9 hf
 have hO := Gp (ks := ks) hf
 have hU := Ij (ks := ks) (cs := ks ++ ps) rf
 have c1 : bJ [none, some (.lst ((ks ++ ps).map .str))] (gN 0) aY pW (r.map .str) = some (r.map fun x => .bl (decide (x ∈ ks ++ ps))) :=
  bw _ _ r fun y hy => ⟨_, rfl, by simp only [pW, b2, bV, inQ]; simp only [List.set, List.getElem?_cons_zero, List.getElem?_cons_succ, Option.bind_some, pZ, Option.map_some]⟩
 have c2 : bJ [none, some (.dK (sdP ks))] (gN 0) aY pX (r.map .str) = some (r.map fun x => .bl (j5 (inS ks) x)) :=
  bw _ _ r fun y hy => ⟨_, rfl, by simp [pX, DX (rf.2 y hy)]⟩
 have hz : ks.length + ps.length <= 1000000 := by omega
 generalize hrow : PV.lst ((w :: r).map .str) = row at hC hO
 generalize hcs : ks ++ ps = cs at c1 hU
 have s1 : aK 3 (b2 ixP (bV 2) (bC (.int 0))) [some (.dK (sdP ks)), some (.dK (sdP ps)), some row, none, none, none] = some (.nx [some (.dK (sdP ks)), some (.dK (sdP ps)), some row, some (.str w), none, none]) := by
  subst hrow
  simp only [Cj, mK, bV, List.getElem?_cons_succ, List.getElem?_cons_zero, Option.bind_some, vK, ixP, h0, List.set]
 have s2 : aK 4 (bSl (bV 2) (oS (bC (.int 1))) oN) [some (.dK (sdP ks)), some (.dK (sdP ps)), some row, some (.str w), none, none] = some (.nx [some (.dK (sdP ks)), some (.dK (sdP ps)), some row, some (.str w), some (.lst (r.map .str)), none]) := by
  subst hrow
  simp [-List.map_cons, ht]
 have s3 : aK 5 (b2 bR (b1 oG (bV 0)) (b1 oG (bV 1))) [some (.dK (sdP ks)), some (.dK (sdP ps)), some row, some (.str w), some (.lst (r.map .str)), none] = some (.nx [some (.dK (sdP ks)), some (.dK (sdP ps)), some row, some (.str w), some (.lst (r.map .str)), some (.lst (cs.map .str))]) := by
  subst hcs
  simp [Ik, vV, hz]
 have g3 : bV 3 [some (.dK (sdP ks)), some (.dK (sdP ps)), some row, some (.str w), some (.lst (r.map .str)), some (.lst (cs.map .str))] = some (.str w) := rfl
 have g4 : bV 4 [some (.dK (sdP ks)), some (.dK (sdP ps)), some row, some (.str w), some (.lst (r.map .str)), some (.lst (cs.map .str))] = some (.lst (r.map .str)) := rfl
 have fb : rz [some (.dK (sdP ks)), some (.dK (sdP ps)), some row, none, none, none] = some (.rt (.bl (cP (inS ks) cs (w :: r)))) := by
  have hC' : aQ (aL cY (ak (bV 2) aC)) [some (.dK (sdP ks)), some (.dK (sdP ps)), some row, some (.str w), some (.lst (r.map .str)), some (.lst (cs.map .str))] = _ := nZ (by rw [zM]; exact hC)
  have hO' : aQ (aL dY (ak (bV 0) (ak (bV 2) aC))) [some (.dK (sdP ks)), some (.dK (sdP ps)), some row, some (.str w), some (.lst (r.map .str)), some (.lst (cs.map .str))] = _ := nZ (by rw [zM]; exact hO)
  have a1 := Gq (cap := [none, some 5]) (q := fun x => decide (x ∈ cs)) g4 hl' c1
  have a2 := Gq (cap := [none, some 0]) (q := fun x => j5 (inS ks) x) g4 hl' c2
  generalize hE : [some (PV.dK (sdP ks)), some (.dK (sdP ps)), some row, some (.str w), some (.lst (r.map .str)), some (.lst (cs.map .str))] = E at s3 g3 g4 hC' hO' a1 a2
  unfold rz
  rw [vg s1, vg s2, vg s3]
  by_cases n1 : w = ("carry" : Str)
  ·rw [tD (by rw [mD g3, decide_eq_true n1]) hC']
   simp only [cP, if_pos n1]
  rw [tu (by rw [mD g3, decide_eq_false n1])]
  by_cases n2 : w = ("one" : Str)
  ·rw [tD (by rw [mD g3, decide_eq_true n2]) hO']
   simp only [cP, if_neg n1, if_pos n2]
  rw [tu (by rw [mD g3, decide_eq_false n2])]
  by_cases n3 : w = ("long" : Str) \/ w = ("either" : Str)
  ·rw [tD (by rw [uw g3, decide_eq_true n3]) (nZ a1)]
   simp only [cP, if_neg n1, if_neg n2, if_pos n3]
  rw [tu (by rw [uw g3, decide_eq_false n3])]
  by_cases n4 : w = ("begin" : Str) \/ w = ("split" : Str)
  ·rw [tD (by rw [uw g3, decide_eq_true n4]) (nZ a2)]
   simp only [cP, if_neg n1, if_neg n2, if_neg n3, if_pos n4]
  rw [tu (by rw [uw g3, decide_eq_false n4])]
  by_cases n5 : w = ("run" : Str)
  ·have a3 : iW (b2 eqQ (b1 lenV (bV 4)) (bC (.int 1))) (b2 inQ (b2 ixP (bV 4) (bC (.int 0))) (bC qN)) E = some (.bl (decide (r.length = 1) && r.all fun x => decide (x = ("never" : Str) \/ x = ("may" : Str) \/ x = ("must" : Str)))) := by
    rw [wQ, mK, yW, g4, mK, mK, g4]
    clear hE
    match r with
    | [] => rfl
    | [x] =>
     have h8 : inP (.str x) qN = some (decide (x = ("never" : Str) \/ x = ("may" : Str) \/ x = ("must" : Str))) := by
      have q := vf x ["never", "may", "must"]
      simp only [List.map_cons, List.map_nil] at q
      unfold qN inP
      simp only [eE, List.all_cons, List.all_nil, Bool.and_self, and_self, if_true, q]
      simp
     have h9 : atI [PV.str x] 0 = some (.str x) := cu (k := 0) rfl
     simp [h9, h8]
    | x :: y :: r' =>
     have : ¬ ((r'.length : Int) + 1 + 1 = 1) := by omega
     simp [this]
   rw [tD (by rw [mD g3, decide_eq_true n5]) (nZ a3)]
   simp only [cP, if_neg n1, if_neg n2, if_neg n3, if_neg n4, if_pos n5]
  rw [tu (by rw [mD g3, decide_eq_false n5])]
  refine nZ ?_
  have e : cP (inS ks) cs (w :: r) = (decide (w = ("alike" : Str)) && kW (inS ks) cs r) := by
   simp only [cP, if_neg n1, if_neg n2, if_neg n3, if_neg n4, if_neg n5]
  rw [e, wQ, mK, g3]
  simp only [Option.bind_some, vK, F_, Cq, Option.map_some]
  by_cases n6 : w = ("alike" : Str)
  ·subst hE
   simp [n6, hU]
  ·simp [n6]
 subst hcs
 simp [mY, fb]
end My
namespace My
open PySem L2 MR
def bY (ws : List Str) : PV := .lst (ws.map .str)
def cB (rs : List (List Str)) : List PV := rs.map bY
theorem Cv {kind : Str} {q : PV} {row : PV} : ∀ (ws ks : List Str), ks.length + ws.length < 1000000 ->
  bF (gN 4) [4] mj (ws.map .str) [some (.str kind), some q, some (.dK (sdP ks)), some row, none] = some (.nx [some (.str kind), some q, some (.dK (sdP (lJ ks ws))), some row, none])
 | [], ks, _ => rfl
 | w :: ws, ks, h => by
  have h1 : (sdP ks).length < 1000000 := by rw [vV]; simp at h; omega
  have h2 := zU ks w
  have ih := Cv (kind := kind) (q := q) (row := row) ws (o8 ks w) (by simp at h; omega)
  have e : lJ ks (w :: ws) = lJ (o8 ks w) ws := rfl
  rw [e, ← ih]
  simp [bF, mj, h1, KN]
theorem z_ {kind : Str} {q : PV} : ∀ (rs : List (List Str)) (ks : List Str), (∀ ws ∈ rs, ws ≠ []) -> ks.length + total rs < 1000000 ->
  bF (gN 3) [3, 4] eQ (cB rs) [some (.str kind), some q, some (.dK (sdP ks)), none, none] = some (.nx [some (.str kind), some q, some (.dK (sdP (rs.foldl (gb kind) ks))), none, none])
 | [], ks, _, _ => rfl
 | [] :: rs, ks, hne, _ => absurd rfl (hne [] List.mem_cons_self)
 | (c :: r) :: rs, ks, hne, h => by
  have ht : ks.length + (r.length + 1) + total rs < 1000000 := by unfold total at h ⊢; simp at h; omega
  have h0 : atI ((c :: r).map PV.str) 0 = some (.str c) := cu (k := 0) rfl
  have hc := qu PV.str c r
  simp only [List.map_cons] at h0 hc
  have key : eQ [some (.str kind), some q, some (.dK (sdP ks)), some (bY (c :: r)), none] = some (.nx [some (.str kind), some q, some (.dK (sdP (gb kind ks (c :: r)))), some (bY (c :: r)), none]) := by
   by_cases e : c = kind
   ·subst e
    have hi := Cv (kind := c) (q := q) (row := bY (c :: r)) r ks (by omega)
    simp only [bY, List.map_cons] at hi
    simp [eQ, bY, h0, hc, gb, hi]
   ·simp [eQ, bY, h0, hc, gb, e]
  have hl : (gb kind ks (c :: r)).length <= ks.length + (r.length + 1) := by
   show (if c = kind then lJ ks r else ks).length <= _
   split
   ·have := sX r ks; omega
   ·omega
  have ih := z_ (kind := kind) (q := q) rs (gb kind ks (c :: r)) (fun ws hws => hne ws (List.mem_cons_of_mem _ hws)) (by omega)
  rw [List.foldl_cons, ← ih]
  show bF (gN 3) [3, 4] eQ (bY (c :: r) :: cB rs) _ = _
  simp [bF, key]
theorem pH {kind : Str} {rs : List (List Str)} (hne : ∀ ws ∈ rs, ws ≠ []) (h : total rs < 1000000) : bj [.str kind, .lst (cB rs)] = some (.dK (sdP (tell kind rs))) := by
 have hl := z_ (kind := kind) (q := .lst (cB rs)) rs [] hne (by simpa using h)
 have e : ([] : List (Key × PV)) = sdP [] := rfl
 simp [bj, qQ, e, hl, tell]
def ux (t : Str) : List Str -> Str
 | c :: x :: _ => if c = ("run" : Str) then x else t
 | _ => t
def uy (rs : List (List Str)) : Str := rs.foldl ux ("never" : Str)
theorem Om {rs : List (List Str)} (hne : ∀ ws ∈ rs, ws ≠ []) (hrun : ∀ r, (("run" : Str) :: r) ∈ rs -> r ≠ []) : jP [.lst (cB rs)] = some (.str (uy rs)) := by
 have hl := vR (g := gN 2) (ds := [2]) (body := lK) bY (fun s : Str => [some (.lst (cB rs)), some (.str s), none]) ux rs ("never" : Str) (fun ws hws s => by
  cases ws with
  | nil => exact absurd rfl (hne _ hws)
  | cons c r =>
   have h0 : atI ((c :: r).map PV.str) 0 = some (.str c) := cu (k := 0) rfl
   simp only [List.map_cons] at h0
   by_cases e : c = ("run" : Str)
   ·cases r with
    | nil => subst e; exact absurd rfl (hrun _ hws)
    | cons x r =>
     subst e
     have h1 : atI (((("run" : Str) :: x :: r)).map PV.str) 1 = some (.str x) := cu (k := 1) rfl
     simp only [List.map_cons] at h0 h1
     exact ⟨_, _, rfl, by simp [lK, bY, h0, h1]; rfl, by simp [ux]⟩
   ·refine ⟨_, _, rfl, by simp [lK, bY, h0, e]; rfl, ?_⟩
    cases r <;> simp [ux, e])
 simp [jP, uT, uy]
 unfold cB at hl ⊢
 simp [hl]
def tE (ks : List (Str × Str)) (x : Str × Str) : List (Str × Str) := if x ∈ ks then ks else ks ++ [x]
def eZ (ks : List (Str × Str)) : List Str -> List (Str × Str)
 | c :: x :: y :: _ => if c = ("alike" : Str) then tE ks (x, y) else ks
 | _ => ks
def likes (rs : List (List Str)) : List (Str × Str) := rs.foldl eZ []
def pk (x : Str × Str) : List Key := [Sum.inr x.1, Sum.inr x.2]
theorem Aa {x y : Str × Str} (h : pk x = pk y) : x = y := by
 obtain ⟨a, b⟩ := x
 obtain ⟨c, d⟩ := y
 simp [pk] at h
 rw [h.1, h.2]
def sdT (ks : List (Str × Str)) : List (List Key × PV) := ks.map fun x => (pk x, PV.bl true)
theorem DY (ks : List (Str × Str)) : (sdT ks).length = ks.length := by simp [sdT]
theorem Ab (x : Str × Str) : ∀ ks : List (Str × Str), fM (sdT ks) (pk x) = if x ∈ ks then some (.bl true) else none
 | [] => rfl
 | k :: r => by
  have ih := Ab x r
  unfold fM at ih ⊢
  show (((pk k, PV.bl true) :: sdT r).find? _).map _ = _
  by_cases h : k = x
  ·subst h; simp
  ·have h' : ¬ x = k := fun e => h e.symm
   have hk : ¬ pk k = pk x := fun e => h (Aa e)
   rw [List.find?_cons_of_neg (by simpa using hk), ih]
   simp [h']
theorem K1 (ks : List (Str × Str)) (x : Str × Str) : lu (sdT ks) (pk x) (.bl true) = sdT (tE ks x) := by
 have hany : ((sdT ks).any fun kv => decide (kv.1 = pk x)) = decide (x ∈ ks) := by
  unfold sdT
  rw [List.any_map]
  induction ks with
  | nil => simp
  | cons k r ih =>
   rw [List.any_cons, ih]
   by_cases h : k = x
   ·subst h; simp
   ·have h' : ¬ x = k := fun e => h e.symm
    have hk : ¬ pk k = pk x := fun e => h (Aa e)
    simp [hk, h']
 unfold lu tE
 rw [hany]
 by_cases h : x ∈ ks
 ·rw [if_pos (by simpa using h), if_pos h]
  unfold sdT
  rw [List.map_map]
  refine List.map_congr_left fun y _ => ?_
  by_cases e : y = x
  ·subst e; simp
  ·have : ¬ pk y = pk x := fun z => e (Aa z)
   simp [this]
 ·rw [if_neg (by simpa using h), if_neg h]
  unfold sdT
  simp
theorem Il (ks : List (Str × Str)) (x : Str × Str) : (tE ks x).length <= ks.length + 1 := by
 unfold tE; split <;> simp
theorem Ac (ks : List (Str × Str)) (ws : List Str) : (eZ ks ws).length <= ks.length + 1 := by
 unfold eZ
 split
 ·split
  ·exact Il _ _
  ·exact Nat.le_add_right _ _
 ·exact Nat.le_add_right _ _
theorem uW {ks : List (Str × Str)} {c : Str} {r : List Str} (e : ¬ c = ("alike" : Str)) : eZ ks (c :: r) = ks := by
 cases r with
 | nil => rfl
 | cons x r =>
  cases r with
  | nil => rfl
  | cons y r => simp [eZ, e]
theorem Ad {q : PV} : ∀ (rs : List (List Str)) (ks : List (Str × Str)), (∀ ws ∈ rs, ws ≠ []) -> (∀ r, (("alike" : Str) :: r) ∈ rs -> 2 <= r.length) -> ks.length + rs.length < 1000000 ->
  bF (gN 2) [2] fQ (cB rs) [some q, some (.dT (sdT ks)), none] = some (.nx [some q, some (.dT (sdT (rs.foldl eZ ks))), none])
 | [], ks, _, _, _ => rfl
 | [] :: rs, ks, hne, _, _ => absurd rfl (hne [] List.mem_cons_self)
 | (c :: r) :: rs, ks, hne, hal, h => by
  have hk : (sdT ks).length < 1000000 := by rw [DY]; omega
  have key : fQ [some q, some (.dT (sdT ks)), some (bY (c :: r))] = some (.nx [some q, some (.dT (sdT (eZ ks (c :: r)))), some (bY (c :: r))]) := by
   by_cases e : c = ("alike" : Str)
   ·subst e
    have h2 := hal r List.mem_cons_self
    match r, h2 with
    | x :: y :: r, _ =>
     have h0 : atI (((("alike" : Str) :: x :: y :: r)).map PV.str) 0 = some (.str "alike") := cu (k := 0) rfl
     have h1 : atI (((("alike" : Str) :: x :: y :: r)).map PV.str) 1 = some (.str x) := cu (k := 1) rfl
     have h2 : atI (((("alike" : Str) :: x :: y :: r)).map PV.str) 2 = some (.str y) := cu (k := 2) rfl
     have hp := K1 ks (x, y)
     simp only [List.map_cons] at h0 h1 h2
     simp only [pk] at hp
     simp [fQ, bY, h0, h1, h2, hk, eZ, hp]
   ·have h0 : atI ((c :: r).map PV.str) 0 = some (.str c) := cu (k := 0) rfl
    simp only [List.map_cons] at h0
    simp [fQ, bY, h0, e, uW e]
  have hl := Ac ks (c :: r)
  have ih := Ad (q := q) rs (eZ ks (c :: r)) (fun ws hws => hne ws (List.mem_cons_of_mem _ hws)) (fun r hr => hal r (List.mem_cons_of_mem _ hr)) (by simp at h; omega)
  rw [List.foldl_cons, ← ih]
  show bF (gN 2) [2] fQ (bY (c :: r) :: cB rs) _ = _
  simp [bF, key]
theorem Im {rs : List (List Str)} (hne : ∀ ws ∈ rs, ws ≠ []) (hal : ∀ r, (("alike" : Str) :: r) ∈ rs -> 2 <= r.length) (h : rs.length < 1000000) : ie [.lst (cB rs)] = some (.dT (sdT (likes rs))) := by
 have hl := Ad (q := .lst (cB rs)) rs [] hne hal (by simpa using h)
 have e : ([] : List (List Key × PV)) = sdT [] := rfl
 simp [ie, rH, e, hl, likes]
end My
namespace My
open PySem
def isAt (x : Str) (c i : Nat) : Bool := decide (x.cps.toList[i]? = some c)
theorem wY (x : Str) (c limit : Nat) : ∀ (n a : Nat) (st : Array Nat × Nat), st.2 <= a -> st.1.size + n <= limit ->
  (forIn (List.range' a n) st (StrLaws.occBody x ⟨#[c]⟩ x.length limit)).run.fst.toList = st.1.toList ++ (List.range' a n).filter (isAt x c)
 | 0, a, st, _, _ => by simp
 | n + 1, a, st, h1, h2 => by
  rw [List.range'_succ, List.forIn_cons]
  unfold StrLaws.occBody
  have hs := StrLaws.subAt_one x c a
  by_cases h : x.cps.toList[a]? = some c
  ·obtain ⟨h3, h4⟩ := hs.mpr h
   rw [if_pos ⟨⟨⟨by omega, h1⟩, h3⟩, h4⟩]
   have ih := wY x c limit n (a + 1) (st.1.push a, a + (⟨#[c]⟩ : Str).length) (by show a + 1 <= a + 1; omega) (by simp; omega)
   show (forIn (List.range' (a + 1) n) (st.1.push a, a + (⟨#[c]⟩ : Str).length) (StrLaws.occBody x ⟨#[c]⟩ x.length limit)).run.fst.toList = _
   rw [ih, List.filter_cons]
   have hi : isAt x c a = true := by simp [isAt, h]
   rw [if_pos hi]
   simp
  ·rw [if_neg (fun z => h (hs.mp ⟨z.1.2, z.2⟩))]
   have ih := wY x c limit n (a + 1) (st.1, st.2) (by show st.2 <= a + 1; omega) (by show st.1.size + n <= limit; omega)
   show (forIn (List.range' (a + 1) n) (st.1, st.2) (StrLaws.occBody x ⟨#[c]⟩ x.length limit)).run.fst.toList = _
   rw [ih, List.filter_cons]
   have hi : isAt x c a = false := decide_eq_false h
   rw [if_neg (by rw [hi]; exact Bool.false_ne_true)]
theorem K3 (x : Str) (c : Nat) : Builtin.Str.occurrences x ⟨#[c]⟩ 0 x.length (x.length + 1) = (List.range' 0 (x.length + 1)).filter (isAt x c) := by
 rw [StrLaws.occ_eq, wY x c (x.length + 1) (x.length + 1 - 0) 0 (#[], 0) (Nat.le_refl _) (by simp)]
 simp
def spl (c : Nat) : List Nat -> List (List Nat)
 | [] => [[]]
 | a :: l => if a = c then [] :: spl c l else match spl c l with
  | p :: ps => (a :: p) :: ps
  | [] => [[a]]
theorem v6 (c : Nat) : ∀ l : List Nat, ∃ p ps, spl c l = p :: ps
 | [] => ⟨_, _, rfl⟩
 | a :: l => by
  obtain ⟨p, ps, e⟩ := v6 c l
  unfold spl
  split
  ·exact ⟨_, _, rfl⟩
  ·rw [e]; exact ⟨_, _, rfl⟩
def glue (w : List Nat) : List (List Nat) -> List (List Nat)
 | p :: ps => (w ++ p) :: ps
 | [] => [w]
theorem o_ (x : Str) (c : Nat) : ∀ (n a b : Nat), b + n = x.length -> a <= b -> (StrLaws.partsFrom x 1 a ((List.range' b (n + 1)).filter (isAt x c))).map (fun p => p.cps.toList) = glue ((x.cps.toList.drop a).take (b - a)) (spl c (x.cps.toList.drop b))
 | 0, a, b, h, hab => by
  have hl : x.cps.toList.length = x.length := Array.length_toList
  have hi : isAt x c b = false := by
   unfold isAt
   rw [List.getElem?_eq_none (by omega)]
   simp
  rw [List.range'_succ, List.filter_cons, if_neg (by rw [hi]; exact Bool.false_ne_true)]
  simp only [List.range'_zero, List.filter_nil, StrLaws.partsFrom, List.map_cons, List.map_nil]
  rw [StrLaws.strSub_toList, List.drop_eq_nil_of_le (by omega : x.cps.toList.length <= b)]
  simp only [spl, glue, List.append_nil]
  rw [show x.length - a = b - a by omega]
 | n + 1, a, b, h, hab => by
  have hl : x.cps.toList.length = x.length := Array.length_toList
  have hb : b < x.cps.toList.length := by omega
  rw [List.range'_succ, List.filter_cons]
  have ed : x.cps.toList.drop b = x.cps.toList[b] :: x.cps.toList.drop (b + 1) := List.drop_eq_getElem_cons hb
  by_cases hc : x.cps.toList[b] = c
  ·have hi : isAt x c b = true := by
    unfold isAt
    rw [List.getElem?_eq_getElem hb, hc]
    simp
   rw [if_pos hi]
   have ih := o_ x c n (b + 1) (b + 1) (by omega) (Nat.le_refl _)
   simp only [StrLaws.partsFrom, List.map_cons]
   rw [ih, StrLaws.strSub_toList, ed]
   obtain ⟨p, ps, e⟩ := v6 c (x.cps.toList.drop (b + 1))
   simp only [spl, if_pos hc, e, glue, Nat.sub_self, List.take_zero, List.nil_append, List.append_nil]
  ·have hi : isAt x c b = false := by
    unfold isAt
    rw [List.getElem?_eq_getElem hb]
    exact decide_eq_false fun z => hc (Option.some.inj z)
   rw [if_neg (by rw [hi]; exact Bool.false_ne_true)]
   have ih := o_ x c n a (b + 1) (by omega) (by omega)
   rw [ih, ed]
   obtain ⟨p, ps, e⟩ := v6 c (x.cps.toList.drop (b + 1))
   simp only [spl, if_neg hc, e, glue]
   have e2 : (x.cps.toList.drop a).take (b + 1 - a) = (x.cps.toList.drop a).take (b - a) ++ [x.cps.toList[b]] := by
    rw [show b + 1 - a = (b - a) + 1 by omega, List.take_add_one, List.getElem?_drop, show a + (b - a) = b by omega, List.getElem?_eq_getElem hb]
    rfl
   rw [e2]
   simp
theorem Ae {c : Nat} : ∀ {l : List Nat}, c ∉ l -> spl c l = [l]
 | [], _ => rfl
 | a :: l, h => by
  have h1 : ¬ a = c := fun e => h (by simp [e])
  have h2 : c ∉ l := fun e => h (List.mem_cons_of_mem _ e)
  unfold spl
  rw [if_neg h1, Ae h2]
theorem Cw {c : Nat} {r : List Nat} : ∀ {l : List Nat}, c ∉ l -> spl c (l ++ c :: r) = l :: spl c r
 | [], _ => by simp [spl]
 | a :: l, h => by
  have h1 : ¬ a = c := fun e => h (by simp [e])
  have h2 : c ∉ l := fun e => h (List.mem_cons_of_mem _ e)
  rw [List.cons_append]
  have e := Cw (r := r) h2
  show (if a = c then [] :: spl c (l ++ c :: r) else match spl c (l ++ c :: r) with | p :: ps => (a :: p) :: ps | [] => [[a]]) = _
  rw [if_neg h1, e]
def mkS (l : List Nat) : Str := ⟨l.toArray⟩
theorem pB (x : Str) : mkS x.cps.toList = x := by
 unfold mkS
 simp
theorem blank_eq : (" " : Str) = ⟨#[32]⟩ := by decide +kernel
theorem D_ (x : Str) : (decide (x.length < (⟨#[32]⟩ : Str).length) || decide (Builtin.Str.strKind x < Builtin.Str.strKind ⟨#[32]⟩)) = true -> x.length = 0 := by
 intro h
 rw [Bool.or_eq_true] at h
 rcases h with h | h
 ·have h' := of_decide_eq_true h
  have : (⟨#[32]⟩ : Str).length = 1 := rfl
  omega
 ·exfalso
  have h' := of_decide_eq_true h
  have e : Builtin.Str.strKind ⟨#[32]⟩ = Builtin.Str.strKind ⟨#[32]⟩ := rfl
  revert h'
  unfold Builtin.Str.strKind
  simp
  split
  ·simp
  ·split <;> simp
theorem tG (x : Str) : Txt.split x (" " : Str) = (spl 32 x.cps.toList).map mkS := by
 rw [blank_eq]
 have hl : x.cps.toList.length = x.length := Array.length_toList
 have key : (StrLaws.partsFrom x 1 0 (Builtin.Str.occurrences x ⟨#[32]⟩ 0 x.length (x.length + 1))).map (fun p => p.cps.toList) = spl 32 x.cps.toList := by
  rw [K3]
  have h := o_ x 32 x.length 0 0 (by omega) (Nat.le_refl _)
  rw [h]
  obtain ⟨p, ps, e⟩ := v6 32 x.cps.toList
  simp [glue, e]
 have key2 : StrLaws.partsFrom x 1 0 (Builtin.Str.occurrences x ⟨#[32]⟩ 0 x.length (x.length + 1)) = (spl 32 x.cps.toList).map mkS := by
  rw [← key, List.map_map]
  have : (mkS ∘ fun (p : Str) => p.cps.toList) = id := by
   funext p
   exact pB p
  rw [this, List.map_id]
 unfold Txt.split
 split
 ·rename_i h
  have h0 := D_ x h
  have : x.cps.toList = [] := List.length_eq_zero_iff.mp (by omega)
  rw [this]
  simp only [spl, List.map_cons, List.map_nil]
  rw [← this, pB]
 ·split
  ·rename_i h2
   have e0 : Builtin.Str.occurrences x ⟨#[32]⟩ 0 x.length (x.length + 1) = [] := List.isEmpty_iff.mp h2
   rw [← key2, e0]
   simp only [StrLaws.partsFrom]
   rw [StrLaws.sub_whole]
  ·rw [StrLaws.partsBetween_eq]
   exact key2
def dO (x : Str) : Prop := 32 ∉ x.cps.toList
theorem Ea {x : Str} (h : dO x) : Txt.split x (" " : Str) = [x] := by
 rw [tG, Ae h]
 simp [pB]
theorem v7 {w r : Str} (h : dO w) : Txt.split (w ++ (" " : Str) ++ r) (" " : Str) = w :: Txt.split r (" " : Str) := by
 rw [tG, tG, blank_eq]
 have e : (w ++ (⟨#[32]⟩ : Str) ++ r).cps.toList = w.cps.toList ++ 32 :: r.cps.toList := by
  rw [Str.cps_append, Str.cps_append]
  simp
 rw [e, Cw h, List.map_cons, pB]
theorem v8 : ∀ {zs : List Str}, zs ≠ [] -> (∀ z ∈ zs, dO z) -> Txt.split (Str.join (" " : Str) zs) (" " : Str) = zs
 | [], h, _ => absurd rfl h
 | [z], _, h => Ea (h z (by simp))
 | z :: y :: r, _, h => by
  show Txt.split (z ++ (" " : Str) ++ Str.join (" " : Str) (y :: r)) (" " : Str) = _
  rw [v7 (h z (by simp)), v8 (by simp) fun x hx => h x (List.mem_cons_of_mem _ hx)]
end My
namespace My
open PySem L2 MR
def nq (z : Str) : List Str := Txt.split z (" " : Str)
def aM (cut : List (List Str)) : List Str := tell ("carry" : Str) (cut.filter gK)
def pairsOf (cut : List (List Str)) : List Str := tell ("one" : Str) (cut.filter (j4 (inS (aM cut))))
def aN (cut : List (List Str)) : List (Str × PV) := [("carrying", .dK (sdP (aM cut))), ("pairs", .dK (sdP (pairsOf cut))), ("longs", .dK (sdP (tell ("long" : Str) cut))), ("eithers", .dK (sdP (tell ("either" : Str) cut))),
 ("beginnings", .dK (sdP (tell ("begin" : Str) cut))), ("splittings", .dK (sdP (tell ("split" : Str) cut))), ("running", .str (uy cut)), ("likes", .dT (sdT (likes cut)))]
theorem QK (a : PV) : List.lookup ("carrying" : Str) (pF "carrying" a []) = some a := rfl
theorem QL (a b : PV) : List.lookup ("carrying" : Str) (pF "pairs" b (pF "carrying" a [])) = some a := rfl
theorem QM (a b : PV) : List.lookup ("pairs" : Str) (pF "pairs" b (pF "carrying" a [])) = some b := rfl
theorem Oo {C : Str -> Bool} {cs r : List Str} (h : cP C cs (("run" : Str) :: r) = true) : r ≠ [] := by
 intro e
 subst e
 have : cP C cs [("run" : Str)] = false := by
  dsimp only [cP]
  rw [if_neg (by decide +kernel), if_neg (by decide +kernel), if_neg (by decide +kernel), if_neg (by decide +kernel), if_pos rfl]
  rfl
 rw [this] at h; cases h
theorem Io {C : Str -> Bool} {cs r : List Str} (h : cP C cs (("alike" : Str) :: r) = true) : 2 <= r.length := by
 dsimp only [cP] at h
 rw [if_neg (by decide +kernel), if_neg (by decide +kernel), if_neg (by decide +kernel), if_neg (by decide +kernel), if_neg (by decide +kernel)] at h
 simp [kW] at h
 omega
theorem nu (p : List Str -> Bool) : ∀ rs : List (List Str), total (rs.filter p) <= total rs
 | [] => Nat.le_refl _
 | ws :: rs => by
  have ih := nu p rs
  unfold total at *
  rw [List.filter_cons]
  split <;> simp <;> omega
theorem Af (kind : Str) (rs : List (List Str)) : (tell kind rs).length <= total rs := by
 have := yd (kind := kind) rs []
 simpa [tell] using this
structure RowsOk (cut : List (List Str)) : Prop where
 n : cut.length <= 1000
 few : ∀ ws ∈ cut, ws ≠ [] /\ Few ws
 tot : total cut <= 100000
 good : ∀ ws ∈ cut, cP (inS (aM cut)) (aM cut ++ pairsOf cut) ws = true
theorem K4 {zs : List Str} (hz : ∀ z ∈ zs, z.length <= 1000) (R : RowsOk (zs.map nq)) : cO [.lst (zs.map .str)] = some (aN (zs.map nq)) := by
 have c1 : bJ [none] (gN 0) aY fU (zs.map .str) = some (cB (zs.map nq)) := by
  have h := bw (env := [none]) (g := gN 0) (f := fU) PV.str (fun z => bY (nq z)) zs fun y hy => ⟨_, rfl, by
   have h1 : y.length <= 1000000 := by have := hz y hy; omega
   have h2 : ¬ (Str.ofString " ").length = 0 := by decide +kernel
   simp [fU, h1, h2, bY, nq]⟩
  rw [h]
  unfold cB
  rw [List.map_map]
  rfl
 have hlz : zs.length <= 1000000 := by have := R.n; rw [List.length_map] at this; omega
 generalize hcut : zs.map nq = cut at *
 have hlc : (cB cut).length <= 1000000 := by unfold cB; rw [List.length_map]; have := R.n; omega
 have c2 : bJ [none] (gN 0) jb i_ (cB cut) = some (cB (cut.filter gK)) :=
  bW bY bY gK cut fun ws hws => by
   obtain ⟨hne, hf⟩ := R.few ws hws
   cases ws with
   | nil => exact absurd rfl hne
   | cons w r =>
    have := z9 hf
    exact ⟨_, rfl, by simp [jb, bY] at this ⊢; simp [this], fun _ => by simp [i_]⟩
 have ne : ∀ ws ∈ cut, ws ≠ [] := fun ws h => (R.few ws h).1
 have nef : ∀ p : List Str -> Bool, ∀ ws ∈ cut.filter p, ws ≠ [] := fun p ws h => ne ws (List.mem_filter.mp h).1
 have tf : ∀ p : List Str -> Bool, total (cut.filter p) < 1000000 := fun p => by have := nu p cut; have := R.tot; omega
 have t0 : total cut < 1000000 := by have := R.tot; omega
 have k1 : bj [.str "carry", .lst (cB (cut.filter gK))] = some (.dK (sdP (aM cut))) := pH (nef _) (tf _)
 have hC : (aM cut).length <= 100000 := by have h1 := Af ("carry" : Str) (cut.filter gK); have h2 := nu gK cut; have := R.tot; unfold aM; omega
 have hP : (pairsOf cut).length <= 100000 := by have h1 := Af ("one" : Str) (cut.filter (j4 (inS (aM cut)))); have h2 := nu (j4 (inS (aM cut))) cut; have := R.tot; unfold pairsOf; omega
 have c3 : bJ [none, some (.obj 0 (pF "carrying" (.dK (sdP (aM cut))) []))] (gN 0) jd jc (cB cut) = some (cB (cut.filter (j4 (inS (aM cut))))) :=
  bW bY bY (j4 (inS (aM cut))) cut fun ws hws => by
   obtain ⟨hne, hf⟩ := R.few ws hws
   cases ws with
   | nil => exact absurd rfl hne
   | cons w r =>
    have := Gp (ks := aM cut) hf
    exact ⟨_, rfl, by simp [jd, bY, QK] at this ⊢; simp [this], fun _ => by simp [jc]⟩
 have k2 : bj [.str "one", .lst (cB (cut.filter (j4 (inS (aM cut)))))] = some (.dK (sdP (pairsOf cut))) := pH (nef _) (tf _)
 have l6 : ∀ q : PV, bF (gT [3, 4]) [3, 4] je (fu 0 (cB cut)) [some (.obj 0 (pF "pairs" (.dK (sdP (pairsOf cut))) (pF "carrying" (.dK (sdP (aM cut))) []))), some q, some (.lst (cB cut)), none, none] =
   some (.nx [some (.obj 0 (pF "pairs" (.dK (sdP (pairsOf cut))) (pF "carrying" (.dK (sdP (aM cut))) []))), some q, some (.lst (cB cut)), none, none]) := fun q => by
  unfold cB
  rw [sW]
  refine vU _ _ fun y hy => ?_
  have hm : y.1 ∈ cut := by
   have := List.mem_zipIdx' hy
   rw [this.2]
   exact List.getElem_mem _
  obtain ⟨hne, hf⟩ := R.few _ hm
  have hg := R.good _ hm
  obtain ⟨ws, i⟩ := y
  cases ws with
  | nil => exact absurd rfl hne
  | cons w r =>
   have := KZ (ks := aM cut) (ps := pairsOf cut) hf hC hP
   rw [hg] at this
   simp only [List.map_cons] at this
   exact ⟨_, _, rfl, by simp [je, bY, QL, QM, this]; rfl, by simp⟩
 have k3 : bj [.str "long", .lst (cB cut)] = some (.dK (sdP (tell ("long" : Str) cut))) := pH ne t0
 have k4 : bj [.str "either", .lst (cB cut)] = some (.dK (sdP (tell ("either" : Str) cut))) := pH ne t0
 have k5 : bj [.str "begin", .lst (cB cut)] = some (.dK (sdP (tell ("begin" : Str) cut))) := pH ne t0
 have k6 : bj [.str "split", .lst (cB cut)] = some (.dK (sdP (tell ("split" : Str) cut))) := pH ne t0
 have k7 : jP [.lst (cB cut)] = some (.str (uy cut)) := Om ne fun r h => Oo (R.good _ h)
 have k8 : ie [.lst (cB cut)] = some (.dT (sdT (likes cut))) := Im ne (fun r h => Io (R.good _ h)) (by have := R.n; omega)
 have m1 : ∀ a : PV, (pF "carrying" a []).length < 1000 := fun a => by show 1 < 1000; decide
 have m2 : ∀ a b : PV, (pF "pairs" b (pF "carrying" a [])).length < 1000 := fun a b => by show 2 < 1000; decide
 have m3 : ∀ a b c : PV, (pF "longs" c (pF "pairs" b (pF "carrying" a []))).length < 1000 := fun a b c => by show 3 < 1000; decide
 have m4 : ∀ a b c d : PV, (pF "eithers" d (pF "longs" c (pF "pairs" b (pF "carrying" a [])))).length < 1000 := fun a b c d => by show 4 < 1000; decide
 have m5 : ∀ a b c d e : PV, (pF "beginnings" e (pF "eithers" d (pF "longs" c (pF "pairs" b (pF "carrying" a []))))).length < 1000 := fun a b c d e => by show 5 < 1000; decide
 have m6 : ∀ a b c d e f : PV, (pF "splittings" f (pF "beginnings" e (pF "eithers" d (pF "longs" c (pF "pairs" b (pF "carrying" a [])))))).length < 1000 := fun a b c d e f => by show 6 < 1000; decide
 have m7 : ∀ a b c d e f g : PV, (pF "running" g (pF "splittings" f (pF "beginnings" e (pF "eithers" d (pF "longs" c (pF "pairs" b (pF "carrying" a []))))))).length < 1000 := fun a b c d e f g => by show 7 < 1000; decide
 have fin : ∀ a b c d e f g h : PV, pF "likes" h (pF "running" g (pF "splittings" f (pF "beginnings" e (pF "eithers" d (pF "longs" c (pF "pairs" b (pF "carrying" a []))))))) = ([("carrying", a), ("pairs", b), ("longs", c), ("eithers", d), ("beginnings", e), ("splittings", f), ("running", g), ("likes", h)] : List (Str × PV)) := fun a b c d e f g h => rfl
 unfold aN
 simp [cO, nJ, c1, hlz, c2, hlc, k1, m1, c3, k2, m2, l6, k3, m3, k4, m4, k5, m5, k6, m6, k7, m7, k8, fin]
theorem Eb (cut : List (List Str)) : List.lookup ("carrying" : Str) (aN cut) = some (.dK (sdP (aM cut))) := rfl
theorem K5 (cut : List (List Str)) : List.lookup ("pairs" : Str) (aN cut) = some (.dK (sdP (pairsOf cut))) := rfl
theorem Cy (cut : List (List Str)) : List.lookup ("likes" : Str) (aN cut) = some (.dT (sdT (likes cut))) := rfl
end My
namespace My
open PySem L2 MR
def cell (ns : List Int) (k : Nat) : Int := ns.getD k 0
theorem Cz (ns : List Int) (k : Nat) : cA [.frz (ns.map PV.int), .int k] = some (.int (cell ns k)) := by
 by_cases h : k < ns.length
 ·have h1 : atI (ns.map PV.int) (k : Int) = some (.int ns[k]) := cu (by simp [h])
  simp [cA, mV, h, h1, cell]
 ·simp [cA, mV, h, cell]
def stp (c : Int) : Int := [1, 3, 5, 7, 9, 11, 15, 17].getD (c / 26 % 8).toNat 0
def ltn (c k : Int) : Nat := 97 + ((c + k * stp c) % 26).toNat
def letter (c k : Int) : Str := ⟨#[ltn c k]⟩
theorem Ec (a : Int) : 0 <= a % 8 /\ a % 8 < 8 /\ (a % 8).toNat < 8 := ⟨by omega, by omega, by omega⟩
theorem K6 : ∀ n : Fin 8, ∃ s ∈ [1, 3, 5, 7, 9, 11, 15, 17], ([1, 3, 5, 7, 9, 11, 15, 17] : List Int).getD n.val 0 = ((s : Nat) : Int) := by decide +kernel
theorem CG (c : Int) : ∃ s : Nat, s ∈ [1, 3, 5, 7, 9, 11, 15, 17] /\ stp c = (s : Int) := K6 ⟨_, (Ec (c / 26)).2.2⟩
theorem Oq (c : Int) : atI [PV.int 1, .int 3, .int 5, .int 7, .int 9, .int 11, .int 15, .int 17] (c / 26 % 8) = some (.int (stp c)) := by
 rw [ut (Ec _).1 (Ec _).2.1]
 have h := (Ec (c / 26)).2.2
 unfold stp
 generalize (c / 26 % 8).toNat = n at h
 have e : ([PV.int 1, .int 3, .int 5, .int 7, .int 9, .int 11, .int 15, .int 17] : List PV) = ([1, 3, 5, 7, 9, 11, 15, 17] : List Int).map .int := rfl
 rw [e, List.getElem?_map, List.getD_eq_getElem?_getD, List.getElem?_eq_getElem (l := ([1, 3, 5, 7, 9, 11, 15, 17] : List Int)) h]
 rfl
theorem Ot (c : Int) : smI (stp c) = true := by
 obtain ⟨s, hs, e⟩ := CG c
 have h17 : ∀ s ∈ [1, 3, 5, 7, 9, 11, 15, 17], s <= 17 := by decide
 have := h17 s hs
 rw [e]
 exact sy (by omega) (by omega)
theorem Ou {i : Int} (h0 : 0 <= i) (h1 : i < 26) : atI (LET : Str).cps.toList i = some (97 + i.toNat) := by
 have hl : (LET : Str).cps.toList.length = 26 := by decide +kernel
 rw [ut h0 (by rw [hl]; exact h1)]
 have h : i.toNat < 26 := by omega
 generalize i.toNat = n at h
 have key : ∀ n : Fin 26, (LET : Str).cps.toList[n.val]? = some (97 + n.val) := by decide +kernel
 exact key ⟨n, h⟩
theorem pI (c k : Int) : bf [.int c, .int k] = some (.str (letter c k)) := by
 have h1 := Oq c
 have hs := Ot c
 have h2 : atI (Str.ofString "abcdefghijklmnopqrstuvwxyz").cps.toList ((c + k * stp c) % 26) = some (ltn c k) := Ou (by omega) (by omega)
 have h3 : (Str.ofString "abcdefghijklmnopqrstuvwxyz").length <= 1000000 := by decide +kernel
 simp [bf, qO, h1, hs, h2, h3, letter]
theorem Ed (c k : Int) : (letter c k).length = 1 := rfl
theorem qw (c k : Int) : 97 <= ltn c k /\ ltn c k < 123 := by unfold ltn; omega
theorem K7 : ∀ s ∈ [1, 3, 5, 7, 9, 11, 15, 17], ∀ j k : Fin 26, (j.val * s) % 26 = (k.val * s) % 26 -> j = k := by decide +kernel
theorem Ag {c a b : Int} (h : (c + a) % 26 = (c + b) % 26) : a % 26 = b % 26 := by omega
theorem Gr {a b : Nat} (h : (a : Int) % 26 = (b : Int) % 26) : a % 26 = b % 26 := by omega
theorem QQ {a b : Int} (h : 97 + (a % 26).toNat = 97 + (b % 26).toNat) : a % 26 = b % 26 := by omega
theorem K8 {c j k : Int} (h0 : 0 <= j) (h1 : j < 26) (h2 : 0 <= k) (h3 : k < 26) (h : ltn c j = ltn c k) : j = k := by
 unfold ltn at h
 have h' := Ag (QQ h)
 obtain ⟨s, hs, e⟩ := CG c
 rw [e] at h'
 obtain ⟨a, rfl⟩ := Int.eq_ofNat_of_zero_le h0
 obtain ⟨b, rfl⟩ := Int.eq_ofNat_of_zero_le h2
 have h5 := K7 s hs ⟨a, Int.ofNat_lt.mp h1⟩ ⟨b, Int.ofNat_lt.mp h3⟩ (Gr (by exact_mod_cast h'))
 exact congrArg Int.ofNat (Fin.mk.inj h5)
theorem rA {c j k : Int} (h0 : 0 <= j) (h1 : j < 26) (h2 : 0 <= k) (h3 : k < 26) (h : letter c j = letter c k) : j = k := by
 refine K8 (c := c) h0 h1 h2 h3 ?_
 unfold letter at h
 have := congrArg (fun s : Str => s.cps.toList) h
 simpa using this
theorem rO {n : Nat} (h : 97 <= n) (h' : n < 123) : isLetter ⟨#[n]⟩ = true := by
 have key : ∀ m : Fin 26, isLetter ⟨#[97 + m.val]⟩ = true := by decide +kernel
 have := key ⟨n - 97, by omega⟩
 rwa [show 97 + (n - 97) = n by omega] at this
theorem nF (c k : Int) : isLetter (letter c k) = true := rO (qw c k).1 (qw c k).2
def mx (c : Int) (k : Nat) : Int := (c % 1000003 * (48271 + 15838 * k * k) + 69621 * k) % 2147483647
theorem QR (c : Int) (k : Nat) : 0 <= mx c k := by unfold mx; omega
theorem qR (c : Int) {k : Nat} (h : k <= 1000) : cG [.int c, .int k] = some (.int (mx c k)) := by
 have h1 : smI 15838 = true := sy (by decide) (by decide)
 have h2 : smI (k : Int) = true := sy (by omega) (by omega)
 have h3 : smI (c % 1000003) = true := sy (by omega) (by omega)
 have h4 : smI 69621 = true := sy (by decide) (by decide)
 simp [cG, uR, h1, h2, h3, h4, mx]
def dg (n : Int) (k : Nat) : Int := n / ([4, 8, 28, 128].getD k 1) % ([2, 5].getD (n / 3 % 2).toNat 1)
theorem Ip (n : Int) (k : Nat) : 0 <= dg n k /\ dg n k < 5 := by
 unfold dg
 have h : (n / 3 % 2).toNat < 2 := by omega
 generalize (n / 3 % 2).toNat = m at h
 match m, h with
 | 0, _ => constructor <;> simp <;> omega
 | 1, _ => constructor <;> simp <;> omega
def n_ (b : Int) (many : Int) (n : Int) : Str := (List.range (2 + n % 3).toNat).foldl (fun s k => s ++ letter b (many + dg n k)) ⟨#[]⟩
theorem yh (b many n : Int) : ∀ (l : List Nat) (s : Str), (l.foldl (fun s k => s ++ letter b (many + dg n k)) s).cps.toList = s.cps.toList ++ l.map fun k => ltn b (many + dg n k)
 | [], s => by simp
 | k :: l, s => by
  rw [List.foldl_cons, yh b many n l, List.map_cons]
  have : (s ++ letter b (many + dg n k)).cps.toList = s.cps.toList ++ [ltn b (many + dg n k)] := by
   rw [Str.cps_append]
   simp [letter]
  rw [this]; simp
theorem rB (b many n : Int) : (n_ b many n).cps.toList = (List.range (2 + n % 3).toNat).map fun k => ltn b (many + dg n k) := by
 unfold n_
 rw [yh]
 simp
theorem vh (b many n : Int) : (n_ b many n).length = (2 + n % 3).toNat := by
 have h := congrArg List.length (rB b many n)
 rw [Array.length_toList, List.length_map, List.length_range] at h
 exact h
theorem CJ (b many n : Int) : fO [.int b, .int many, .int n] = some (.str (n_ b many n)) := by
 have hr : rgI (2 + n % 3) = true := sO (by omega) (by omega)
 have gen : ∀ (l : List Nat) (s : Str), (∀ k ∈ l, k < 4) -> s.length + l.length <= 1000 -> bF (gN 4) [4] lC (l.map fun k => PV.int (k : Nat)) [some (.int b), some (.int many), some (.int n), some (.str s), none] =
   some (.nx [some (.int b), some (.int many), some (.int n), some (.str (l.foldl (fun s k => s ++ letter b (many + dg n k)) s)), none]) := by
  intro l
  induction l with
  | nil => intro s _ _; rfl
  | cons k l ih =>
   intro s hk hl
   have hk4 : k < 4 := hk k List.mem_cons_self
   have e1 : atI [PV.int 4, .int 8, .int 28, .int 128] (k : Int) = some (.int ([4, 8, 28, 128].getD k 1)) := by
    match k, hk4 with
    | 0, _ => rfl
    | 1, _ => rfl
    | 2, _ => rfl
    | 3, _ => rfl
   have e2 : 0 < ([4, 8, 28, 128] : List Int).getD k 1 /\ ([4, 8, 28, 128] : List Int).getD k 1 < 1073741824 := by
    match k, hk4 with
    | 0, _ => decide
    | 1, _ => decide
    | 2, _ => decide
    | 3, _ => decide
   have e3 : atI [PV.int 2, .int 5] (n / 3 % 2) = some (.int ([2, 5].getD (n / 3 % 2).toNat 1)) := by
    rw [ut (by omega) (by show n / 3 % 2 < 2; omega)]
    have h : (n / 3 % 2).toNat < 2 := by omega
    generalize (n / 3 % 2).toNat = m at h
    match m, h with
    | 0, _ => rfl
    | 1, _ => rfl
   have e4 : 0 < ([2, 5] : List Int).getD (n / 3 % 2).toNat 1 := by
    have h : (n / 3 % 2).toNat < 2 := by omega
    generalize (n / 3 % 2).toNat = m at h
    match m, h with
    | 0, _ => decide
    | 1, _ => decide
   have e5 := pI b (many + dg n k)
   have e6 : s.length + (letter b (many + dg n k)).length <= 1000000 := by rw [Ed]; simp at hl; omega
   have ih' := ih (s ++ letter b (many + dg n k)) (fun j hj => hk j (List.mem_cons_of_mem _ hj)) (by
    have : (s ++ letter b (many + dg n k)).length = s.length + 1 := by
     unfold Str.length
     rw [Str.cps_append]
     simp [letter]
    rw [this]; simp at hl; omega)
   rw [List.foldl_cons, ← ih']
   have ed : dg n k = n / ([4, 8, 28, 128].getD k 1) % ([2, 5].getD (n / 3 % 2).toNat 1) := rfl
   generalize ([4, 8, 28, 128] : List Int).getD k 1 = u at e1 e2 ed
   generalize ([2, 5] : List Int).getD (n / 3 % 2).toNat 1 = v at e3 e4 ed
   rw [ed] at e5 e6 ⊢
   simp [bF, lC, e1, e2, e3, e4, e5, e6]
 have hl : (List.range (2 + n % 3).toNat).length = (2 + n % 3).toNat := List.length_range
 have g := gen (List.range (2 + n % 3).toNat) ⟨#[]⟩ (fun k hk => by have := List.mem_range.mp hk; omega) (by rw [hl]; show 0 + _ <= 1000; omega)
 have er : cW 0 (2 + n % 3) = (List.range (2 + n % 3).toNat).map fun k => PV.int (k : Nat) := by
  unfold cW
  simp
 have ee : (Str.ofString "") = ⟨#[]⟩ := by decide +kernel
 simp [fO, qg, hr, er, ee, g, n_]
end My
namespace My
open PySem L2 MR
section
variable {α : Type} (a b c d e f g h : α) (l : List α)
@[simp] theorem at0 : atI (a :: l) 0 = some a := cu (k := 0) rfl
@[simp] theorem at1 : atI (a :: b :: l) 1 = some b := cu (k := 1) rfl
@[simp] theorem at2 : atI (a :: b :: c :: l) 2 = some c := cu (k := 2) rfl
@[simp] theorem at3 : atI (a :: b :: c :: d :: l) 3 = some d := cu (k := 3) rfl
@[simp] theorem at4 : atI (a :: b :: c :: d :: e :: l) 4 = some e := cu (k := 4) rfl
@[simp] theorem at5 : atI (a :: b :: c :: d :: e :: f :: l) 5 = some f := cu (k := 5) rfl
@[simp] theorem at6 : atI (a :: b :: c :: d :: e :: f :: g :: l) 6 = some g := cu (k := 6) rfl
@[simp] theorem at7 : atI (a :: b :: c :: d :: e :: f :: g :: h :: l) 7 = some h := cu (k := 7) rfl
end
@[simp] def nxt (ds : List Nat) : Option Out -> Option MR.Env
 | some (.nx e) => some (clr ds e)
 | some (.ct e) => some (clr ds e)
 | _ => none
def turn (g : PV -> MR.Env -> Option MR.Env) (ds : List Nat) (body : MR.Env -> Option Out) (x : PV) (env : MR.Env) : Option MR.Env := (g x env).bind fun e => nxt ds (body e)
theorem cz (g : PV -> MR.Env -> Option MR.Env) (ds : List Nat) (body : MR.Env -> Option Out) (x : PV) (env : MR.Env) : turn g ds body x env = (g x env).bind fun e => nxt ds (body e) := id rfl
theorem fB {g : PV -> MR.Env -> Option MR.Env} {ds : List Nat} {body : MR.Env -> Option Out} {x : PV} {xs : List PV} {env env' : MR.Env} (h : turn g ds body x env = some env') : bF g ds body (x :: xs) env = bF g ds body xs env' := by
 unfold turn at h
 obtain ⟨e, h1, h2⟩ := aD h
 unfold nxt at h2
 split at h2
 ·rename_i q; cases h2; simp [bF, h1, q]
 ·rename_i q; cases h2; simp [bF, h1, q]
 ·cases h2
theorem j6 {α S : Type} {g : PV -> MR.Env -> Option MR.Env} {ds : List Nat} {body : MR.Env -> Option Out} (c : α -> PV) (E : S -> MR.Env) (step : S -> α -> S) (sz : S -> Nat) (wt : α -> Nat) (B : Nat) (I : S -> Prop) : ∀ (ys : List α) (s : S), I s -> sz s + (ys.map wt).sum <= B ->
  (∀ y ∈ ys, ∀ s, I s -> sz s + wt y <= B -> sz (step s y) <= sz s + wt y /\ I (step s y) /\ turn g ds body (c y) (E s) = some (E (step s y))) ->
  bF g ds body (ys.map c) (E s) = some (.nx (E (ys.foldl step s)))
 | [], s, _, _, _ => rfl
 | y :: ys, s, i, hb, hh => by
  simp at hb
  obtain ⟨h0, hI, h1⟩ := hh y List.mem_cons_self s i (by omega)
  have ih := j6 c E step sz wt B I ys (step s y) hI (by omega) fun z hz => hh z (List.mem_cons_of_mem _ hz)
  rw [List.map_cons, fB h1, ih, List.foldl_cons]
theorem oh {α : Type} : ∀ ys : List α, (ys.map fun _ => 1).sum = ys.length
 | [] => rfl
 | _ :: ys => by simp [oh ys]; omega
def pick (l : List Str) (i : Int) : Str := l.getD i.toNat ⟨#[]⟩
theorem ou {l : List Str} {i : Int} (h0 : 0 <= i) (h1 : i < l.length) : atI (l.map PV.str) i = some (.str (pick l i)) := by
 have h : i.toNat < l.length := by omega
 rw [ut h0 (by rw [List.length_map]; exact h1), List.getElem?_map]
 unfold pick
 rw [List.getD_eq_getElem?_getD, List.getElem?_eq_getElem h]
 rfl
theorem jE {l : List Str} {i : Int} (h0 : 0 <= i) (h1 : i < l.length) : pick l i ∈ l := by
 have h : i.toNat < l.length := by omega
 unfold pick
 rw [List.getD_eq_getElem?_getD, List.getElem?_eq_getElem h]
 exact List.getElem_mem h
theorem cX (n : Nat) : cW 0 (n : Int) = (List.range n).map fun k => PV.int (k : Nat) := by
 unfold cW
 simp
theorem vm (n : Nat) : (cW 0 (n : Int)).length = n := by rw [cX]; simp
structure Rc where
 carriers : List Str
 pairs : List Str
 longs : List Str
 eithers : List Str
 begins : List Str
 splits : List Str
 run : Str
 base : Int
 many : Nat
def au (R : Rc) : PV := .tup [bY R.carriers, bY R.pairs, bY R.longs, bY R.eithers, bY R.begins, bY R.splits, .str R.run, .int R.base]
structure Rc.Good (R : Rc) : Prop where
 m1 : 1 <= R.many
 m7 : R.many <= 7
 car : R.carriers = (List.range R.many).map fun k => letter R.base (k : Nat)
 prs : ∀ w ∈ R.pairs, ∃ a ∈ R.carriers, ∃ b ∈ R.carriers, w = a ++ b
 lng : ∀ w ∈ R.longs, w ∈ R.carriers ++ R.pairs
 eth : ∀ w ∈ R.eithers, w ∈ R.carriers ++ R.pairs
 beg : ∀ w ∈ R.begins, ∃ n, w = n_ R.base R.many n
 spl : ∀ w ∈ R.splits, ∃ n, w = n_ R.base R.many n
 run : R.run = ("" : Str) \/ R.run = ("never" : Str) \/ R.run = ("may" : Str) \/ R.run = ("must" : Str)
 l1 : R.pairs.length <= 3
 l2 : R.longs.length <= 10
 l3 : R.eithers.length <= 10
 l4 : R.begins.length <= 4
 l5 : R.splits.length <= 3
theorem jN {k : Nat} (h : k <= 1000) : rgI (k : Int) = true := sO (by omega) (by omega)
theorem K9 (a : Int) : ∃ k : Nat, 1 + a % 7 = (k : Int) /\ 1 <= k /\ k <= 7 := ⟨(1 + a % 7).toNat, by omega, by omega, by omega⟩
theorem Ah (a : Int) : ∃ k : Nat, a % 4 = (k : Int) /\ k <= 3 := ⟨(a % 4).toNat, by omega, by omega⟩
theorem Ir (a : Int) : ∃ k : Nat, a % 5 = (k : Int) /\ k <= 4 := ⟨(a % 5).toNat, by omega, by omega⟩
theorem uz (a : Int) : 0 <= a % 4 /\ a % 4 < 4 := ⟨by omega, by omega⟩
theorem oA {a b : Nat} (h : a <= b) (hb : b <= 1000) : a <= 1000000 := by omega
theorem Ov {a b : Nat} (h : a + 1 <= b) (hb : b <= 1000) : a < 1000000 := by omega
theorem Iu {m : Nat} (h : 1 <= m) : (0 : Int) < (m : Int) := by omega
theorem wZ (k : Nat) : (0 : Int) <= (k : Int) := Int.natCast_nonneg k
theorem w5 {k m n : Nat} (h : k < m + n) : (k : Int) < ((m + n : Nat) : Int) := Int.ofNat_lt.mpr h
theorem Ox {a b : Nat} (h : a <= 7) (h' : b <= 3) : a + b <= 10 := by omega
theorem uA {k n : Nat} (h : k < n) (h' : n <= 10) : k <= 1000 := by omega
theorem Gs (ns : List Int) (a : Nat) : ∃ R : Rc, R.Good /\ eN [.frz (ns.map PV.int), .int a] = some (au R) := by
 generalize hx : (fun k : Nat => cell ns (a + k)) = x
 have ex : ∀ k, cell ns (a + k) = x k := fun k => by rw [← hx]
 have c1 : bJ [none, some (.frz (ns.map PV.int)), some (.int a)] (gN 0) aY jw (cW 0 6) = some [.int (x 0), .int (x 1), .int (x 2), .int (x 3), .int (x 4), .int (x 5)] := by
  have h := bw (env := [none, some (.frz (ns.map PV.int)), some (.int (a : Int))]) (g := gN 0) (f := jw) (fun k : Nat => PV.int (k : Nat)) (fun k => .int (x k)) (List.range 6) fun k hk => ⟨_, rfl, by
   have h2 := Cz ns (a + k)
   rw [Int.natCast_add, ex] at h2
   simp [jw, h2]⟩
  rw [show (6 : Int) = ((6 : Nat) : Int) from rfl, cX]
  exact h
 have r6 : rgI 6 = true := sO (by decide) (by decide)
 have q6 : (cW 0 6).length <= 1000000 := by decide
 obtain ⟨many, hmany, hm1, hm7⟩ := K9 (x 1)
 have hmp := Iu hm1
 have hmn : (many : Int) ≠ 0 := Int.ne_of_gt hmp
 have rm : rgI (many : Int) = true := jN (Nat.le_trans hm7 (by decide))
 have qm : (cW 0 (many : Int)).length <= 1000000 := by rw [vm]; exact oA hm7 (by decide)
 generalize hcar : (List.range many).map (fun k => letter (x 0) (k : Nat)) = car
 have lcar : car.length = many := by rw [← hcar]; simp
 have c2 : bJ [none, some (.int (x 0))] (gN 0) aY jx (cW 0 (many : Int)) = some (car.map .str) := by
  have h := bw (env := [none, some (.int (x 0))]) (g := gN 0) (f := jx) (fun k : Nat => PV.int (k : Nat)) (fun k => .str (letter (x 0) (k : Nat))) (List.range many) fun k hk => ⟨_, rfl, by
   simp [jx, pI]⟩
  rw [cX, h, ← hcar, List.map_map]
  rfl
 obtain ⟨np, hnp, hnp3⟩ := Ah (x 1 / 7)
 have rp : rgI (np : Int) = true := jN (Nat.le_trans hnp3 (by decide))
 have hmp10 := Ox hm7 hnp3
 have carl : ∀ i : Int, 0 <= i -> i < many -> (pick car i).length = 1 := fun i h0 h1 => by
  have := jE (l := car) h0 (by rw [lcar]; exact h1)
  rw [← hcar] at this
  obtain ⟨k, _, e⟩ := List.mem_map.mp this
  rw [hcar] at e
  rw [← e]; rfl
 generalize hpr : (fun k : Nat => pick car (mx (x 2) k % many) ++ pick car (mx (x 2) k / 8 % many)) = pr
 have epr : ∀ k : Nat, pr k = pick car (mx (x 2) k % many) ++ pick car (mx (x 2) k / 8 % many) := fun k => by rw [← hpr]
 have l3 : bF (gN 7) [7, 8] jy (cW 0 (np : Int)) [some (.frz (ns.map PV.int)), some (.int a), some (.lst [.int (x 0), .int (x 1), .int (x 2), .int (x 3), .int (x 4), .int (x 5)]), some (.int (x 0)), some (.int many), some (.lst (car.map .str)), some (.lst []), none, none, none, none, none, none, none, none, none] =
   some (.nx [some (.frz (ns.map PV.int)), some (.int a), some (.lst [.int (x 0), .int (x 1), .int (x 2), .int (x 3), .int (x 4), .int (x 5)]), some (.int (x 0)), some (.int many), some (.lst (car.map .str)), some (.lst (((List.range np).map pr).map .str)), none, none, none, none, none, none, none, none, none]) := by
  rw [cX]
  have h := j6 (g := gN 7) (ds := [7, 8]) (body := jy) (fun k : Nat => PV.int (k : Nat)) (fun s : List Str => [some (.frz (ns.map PV.int)), some (.int a), some (.lst [.int (x 0), .int (x 1), .int (x 2), .int (x 3), .int (x 4), .int (x 5)]), some (.int (x 0)), some (.int many), some (.lst (car.map .str)), some (.lst (s.map .str)), none, none, none, none, none, none, none, none, none])
   (fun s k => s ++ [pr k]) List.length (fun _ => 1) 1000 (fun _ => True) (List.range np) [] trivial (by rw [oh, List.length_range, List.length_nil, Nat.zero_add]; exact Nat.le_trans hnp3 (by decide)) (fun k hk s _ hb => by
    have hk2 := List.mem_range.mp hk
    refine ⟨by simp, trivial, ?_⟩
    have e1 := qR (x 2) (k := k) (uA hk2 (Nat.le_trans hnp3 (by decide)))
    have e2 := QR (x 2) k
    have e3 : (0 : Int) < many := hmp
    have e4 := ou (l := car) (i := mx (x 2) k % many) (Int.emod_nonneg _ hmn) (by rw [lcar]; exact Int.emod_lt_of_pos _ hmp)
    have e5 := ou (l := car) (i := mx (x 2) k / 8 % many) (Int.emod_nonneg _ hmn) (by rw [lcar]; exact Int.emod_lt_of_pos _ hmp)
    have e6 := carl (mx (x 2) k % many) (Int.emod_nonneg _ hmn) (Int.emod_lt_of_pos _ hmp)
    have e7 := carl (mx (x 2) k / 8 % many) (Int.emod_nonneg _ hmn) (Int.emod_lt_of_pos _ hmp)
    have e8 : s.length < 1000000 := Ov hb (by decide)
    have e9 : 0 < many := hm1
    simp [cz, jy, e1, e3, e4, e5, e6, e7, e8, e9, epr])
  have hf : ∀ (l : List Nat) (s : List Str), l.foldl (fun s k => s ++ [pr k]) s = s ++ l.map pr := by
   intro l
   induction l with
   | nil => intro s; simp
   | cons k l ih => intro s; rw [List.foldl_cons, ih]; simp
  rw [hf, List.nil_append] at h
  exact h
 generalize hprs : (List.range np).map pr = prs at l3
 have lprs : prs.length = np := by rw [← hprs]; simp
 have rt : rgI ((many : Int) + np) = true := by rw [← Int.natCast_add]; exact jN (Nat.le_trans hmp10 (by decide))
 have ert : cW 0 ((many : Int) + np) = (List.range (many + np)).map fun k => PV.int (k : Nat) := by
  rw [← Int.natCast_add, cX]
 have c4 : bJ [none, some (.lst [.int (x 0), .int (x 1), .int (x 2), .int (x 3), .int (x 4), .int (x 5)])] (gN 0) aY lU ((List.range (many + np)).map fun k => PV.int (k : Nat)) = some ((List.range (many + np)).map fun k => .int (mx (x 3) k % 4)) :=
  bw _ _ _ fun k hk => ⟨_, rfl, by
   have := List.mem_range.mp hk
   have e1 := qR (x 3) (k := k) (uA this hmp10)
   simp [lU, e1]⟩
 have qt : ((List.range (many + np)).map fun k => PV.int (k : Nat)).length <= 1000000 := by rw [List.length_map, List.length_range]; exact oA hmp10 (by decide)
 generalize hsm : car ++ prs = sm
 have lsm : sm.length = many + np := by rw [← hsm, List.length_append, lcar, lprs]
 have esm : car.map PV.str ++ prs.map PV.str = sm.map PV.str := by rw [← hsm, List.map_append]
 have ql : car.length + prs.length <= 1000000 := by rw [lcar, lprs]; exact oA hmp10 (by decide)
 have esz : ((sm.map PV.str).length : Int) = (many : Int) + np := by rw [List.length_map, lsm, Int.natCast_add]
 have watI : ∀ k : Nat, k < many + np -> atI ((List.range (many + np)).map fun k => PV.int (mx (x 3) k % 4)) (k : Int) = some (.int (mx (x 3) k % 4)) := fun k hk => cu (by simp [hk])
 have satI : ∀ k : Nat, k < many + np -> atI (sm.map PV.str) (k : Int) = some (.str (pick sm k)) := fun k hk => ou (wZ k) (by rw [lsm]; exact w5 hk)
 have c5 : bJ [none, some (.lst (sm.map .str)), some (.lst ((List.range (many + np)).map fun k => PV.int (mx (x 3) k % 4)))] (gN 0) lW lV ((List.range (many + np)).map fun k => PV.int (k : Nat)) =
   some (((List.range (many + np)).filter fun k => (1 == mx (x 3) k % 4 || 3 == mx (x 3) k % 4)).map fun (k : Nat) => PV.str (pick sm k)) :=
  bW _ _ _ _ fun k hk => ⟨_, rfl, by
   have h1 := watI k (List.mem_range.mp hk)
   simp [lW, h1, inP, eqF], fun _ => by
   have h1 := satI k (List.mem_range.mp hk)
   simp [lV, h1]⟩
 have c7 : bJ [none, some (.lst (sm.map .str)), some (.lst ((List.range (many + np)).map fun k => PV.int (mx (x 3) k % 4)))] (gN 0) lY lX ((List.range (many + np)).map fun k => PV.int (k : Nat)) =
   some (((List.range (many + np)).filter fun k => decide (1 < mx (x 3) k % 4)).map fun (k : Nat) => PV.str (pick sm k)) :=
  bW _ _ _ _ fun k hk => ⟨_, rfl, by
   have h1 := watI k (List.mem_range.mp hk)
   simp [lY, h1], fun _ => by
   have h1 := satI k (List.mem_range.mp hk)
   simp [lX, h1]⟩
 obtain ⟨nb, hnb, hnb4⟩ := Ir (x 4 / 7)
 have rb : rgI (nb : Int) = true := jN (Nat.le_trans hnb4 (by decide))
 have qb : (cW 0 (nb : Int)).length <= 1000000 := by rw [vm]; exact oA hnb4 (by decide)
 have c9 : bJ [none, some (.int (x 0)), some (.int many), some (.lst [.int (x 0), .int (x 1), .int (x 2), .int (x 3), .int (x 4), .int (x 5)])] (gN 0) aY l_ (cW 0 (nb : Int)) = some ((List.range nb).map fun k => .str (n_ (x 0) many (mx (x 4) k))) := by
  rw [cX]
  exact bw _ _ _ fun k hk => ⟨_, rfl, by
   have := List.mem_range.mp hk
   have e1 := qR (x 4) (k := k) (uA this (Nat.le_trans hnb4 (by decide)))
   simp [l_, e1, CJ]⟩
 obtain ⟨nc, hnc, hnc3⟩ := Ah (x 5 / 7)
 have rc : rgI (nc : Int) = true := jN (Nat.le_trans hnc3 (by decide))
 have qc : (cW 0 (nc : Int)).length <= 1000000 := by rw [vm]; exact oA hnc3 (by decide)
 have c10 : bJ [none, some (.int (x 0)), some (.int many), some (.lst [.int (x 0), .int (x 1), .int (x 2), .int (x 3), .int (x 4), .int (x 5)])] (gN 0) aY lD (cW 0 (nc : Int)) = some ((List.range nc).map fun k => .str (n_ (x 0) many (mx (x 5) k))) := by
  rw [cX]
  exact bw _ _ _ fun k hk => ⟨_, rfl, by
   have := List.mem_range.mp hk
   have e1 := qR (x 5) (k := k) (uA this (Nat.le_trans hnc3 (by decide)))
   simp [lD, e1, CJ]⟩
 have hrun : atI [PV.str ("" : Str), .str ("never" : Str), .str ("may" : Str), .str ("must" : Str)] (x 1 / 28 % 4) = some (.str (pick [("" : Str), ("never" : Str), ("may" : Str), ("must" : Str)] (x 1 / 28 % 4))) :=
  ou (l := [("" : Str), ("never" : Str), ("may" : Str), ("must" : Str)]) (uz _).1 (uz _).2
 have mrun := jE (l := [("" : Str), ("never" : Str), ("may" : Str), ("must" : Str)]) (i := x 1 / 28 % 4) (uz _).1 (uz _).2
 generalize pick [("" : Str), ("never" : Str), ("may" : Str), ("must" : Str)] (x 1 / 28 % 4) = run at hrun mrun
 refine ⟨⟨car, prs, ((List.range (many + np)).filter fun k => (1 == mx (x 3) k % 4 || 3 == mx (x 3) k % 4)).map fun (k : Nat) => pick sm k, ((List.range (many + np)).filter fun k => decide (1 < mx (x 3) k % 4)).map fun (k : Nat) => pick sm k,
  (List.range nb).map fun k => n_ (x 0) many (mx (x 4) k), (List.range nc).map fun k => n_ (x 0) many (mx (x 5) k), run, x 0, many⟩, ⟨hm1, hm7, hcar.symm, ?_, ?_, ?_, ?_, ?_, ?_, ?_, ?_, ?_, ?_, ?_⟩, ?_⟩
 ·intro w hw
  rw [← hprs] at hw
  obtain ⟨k, _, e⟩ := List.mem_map.mp hw
  rw [← hpr] at e
  exact ⟨_, jE (Int.emod_nonneg _ hmn) (by rw [lcar]; exact Int.emod_lt_of_pos _ hmp), _, jE (Int.emod_nonneg _ hmn) (by rw [lcar]; exact Int.emod_lt_of_pos _ hmp), e.symm⟩
 ·intro w hw
  obtain ⟨k, hk, e⟩ := List.mem_map.mp hw
  have := List.mem_range.mp (List.mem_filter.mp hk).1
  rw [hsm, ← e]
  exact jE (wZ k) (by rw [lsm]; exact w5 this)
 ·intro w hw
  obtain ⟨k, hk, e⟩ := List.mem_map.mp hw
  have := List.mem_range.mp (List.mem_filter.mp hk).1
  rw [hsm, ← e]
  exact jE (wZ k) (by rw [lsm]; exact w5 this)
 ·intro w hw
  obtain ⟨k, hk, e⟩ := List.mem_map.mp hw
  exact ⟨_, e.symm⟩
 ·intro w hw
  obtain ⟨k, hk, e⟩ := List.mem_map.mp hw
  exact ⟨_, e.symm⟩
 ·simpa using mrun
 ·show prs.length <= 3; rw [lprs]; exact hnp3
 ·rw [List.length_map]
  have := List.length_filter_le (fun k => (1 == mx (x 3) k % 4 || 3 == mx (x 3) k % 4)) (List.range (many + np))
  rw [List.length_range] at this; exact Nat.le_trans this hmp10
 ·rw [List.length_map]
  have := List.length_filter_le (fun k => decide (1 < mx (x 3) k % 4)) (List.range (many + np))
  rw [List.length_range] at this; exact Nat.le_trans this hmp10
 ·simp; omega
 ·simp; omega
 ·have ln : (prs.map PV.str).length = np := by rw [List.length_map, lprs]
  have ls : (sm.map PV.str).length = many + np := by rw [List.length_map, lsm]
  have qz : many + np <= 1000000 := oA hmp10 (by decide)
  simp [eN, qP, r6, c1, q6, qz, lcar, hmany, rm, c2, qm, hnp, rp, l3, lprs, rt, ert, c4, qt, ql, esm, lsm, c5, c7, hnb, rb, c9, qb, hnc, rc, c10, qc, hrun]
  simp [au, bY, List.map_map, Function.comp_def]
end My
namespace My
open PySem L2 MR
theorem dR (a b : Str) : (a ++ b).length = a.length + b.length := by
 unfold Str.length
 rw [Str.cps_append]
 simp
theorem qC (a b : Str) : (a ++ b).cps.toList = a.cps.toList ++ b.cps.toList := by
 rw [Str.cps_append]
 simp
structure Low (w : Str) : Prop where
 codes : ∀ c ∈ w.cps.toList, 97 <= c /\ c < 123
 l1 : 1 <= w.length
 l4 : w.length <= 4
theorem Low.noBl {w : Str} (h : Low w) : dO w := fun z => by have := h.codes _ z; omega
theorem nH (b k : Int) : Low (letter b k) := ⟨fun c hc => by
 have : c = ltn b k := by simpa [letter] using hc
 rw [this]; exact qw b k, by show 1 <= 1; decide, by show 1 <= 4; decide⟩
theorem Ai (b m n : Int) : Low (n_ b m n) := ⟨fun c hc => by
 rw [rB] at hc
 obtain ⟨k, _, e⟩ := List.mem_map.mp hc
 rw [← e]; exact qw b _, by rw [vh]; omega, by rw [vh]; omega⟩
structure Rc.Lo (R : Rc) : Prop where
 c : ∀ w ∈ R.carriers, Low w
 p : ∀ w ∈ R.pairs, Low w
 l : ∀ w ∈ R.longs, Low w
 e : ∀ w ∈ R.eithers, Low w
 b : ∀ w ∈ R.begins, Low w
 s : ∀ w ∈ R.splits, Low w
theorem Rc.Good.lo {R : Rc} (G : R.Good) : R.Lo := by
 have c : ∀ w ∈ R.carriers, Low w /\ w.length = 1 := fun w hw => by
  rw [G.car] at hw
  obtain ⟨k, _, e⟩ := List.mem_map.mp hw
  rw [← e]; exact ⟨nH _ _, rfl⟩
 have p : ∀ w ∈ R.pairs, Low w := fun w hw => by
  obtain ⟨a, ha, b, hb, e⟩ := G.prs w hw
  obtain ⟨la, a1⟩ := c a ha
  obtain ⟨lb, b1⟩ := c b hb
  rw [e]
  exact ⟨fun x hx => by
   rw [qC] at hx
   exact (List.mem_append.mp hx).elim (la.codes x) (lb.codes x), by rw [dR]; omega, by rw [dR]; omega⟩
 have cp : ∀ w ∈ R.carriers ++ R.pairs, Low w := fun w hw => (List.mem_append.mp hw).elim (fun h => (c w h).1) (p w)
 exact ⟨fun w h => (c w h).1, p, fun w h => cp w (G.lng w h), fun w h => cp w (G.eth w h), fun w h => by obtain ⟨n, e⟩ := G.beg w h; rw [e]; exact Ai _ _ _, fun w h => by obtain ⟨n, e⟩ := G.spl w h; rw [e]; exact Ai _ _ _⟩
def txt (x : Str × List Str) : Str := x.1 ++ (" " : Str) ++ Str.join (" " : Str) x.2
def bT (b : Bool) (k : Str) (ws : List Str) : List (Str × List Str) := if b = true then ws.map fun w => (k, [w]) else if ws = [] then [] else [(k, ws)]
theorem tH : (Str.ofString " ").length = 1 := by decide +kernel
theorem Oz {ws : List Str} (h : ∀ w ∈ ws, w.length <= 4) (hn : ws.length <= 20) : JoinOk (Str.ofString " ") ws = true := by
 have gen : ∀ (l : List Str) (n : Nat), (∀ w ∈ l, w.length <= 4) -> l.foldl (fun x1 x2 => x1 + x2.length + (Str.ofString " ").length) n <= n + 5 * l.length := by
  intro l
  induction l with
  | nil => intro n _; simp
  | cons w l ih =>
   intro n hw
   have h1 := ih (n + w.length + (Str.ofString " ").length) fun x hx => hw x (List.mem_cons_of_mem _ hx)
   have h2 := hw w List.mem_cons_self
   rw [tH] at h1 ⊢
   simp only [List.foldl_cons, List.length_cons]
   rw [tH] at *
   omega
 have g := gen ws 0 h
 unfold JoinOk Builtin.Str.tooLong
 rw [List.foldl_toArray]
 simp
 have : (10000 : Nat) <= sizeLine := by decide
 omega
theorem Iv {ws : List Str} (h : ∀ w ∈ ws, w.length <= 4) (hn : ws.length <= 20) : (Str.join (Str.ofString " ") ws).length <= 100 := by
 have h1 := StrLaws.join_length_le (Str.ofString " ") ws
 have h2 : (ws.map (·.length)).sum <= 4 * ws.length := by
  clear h1 hn
  induction ws with
  | nil => simp
  | cons w l ih =>
   have := ih fun x hx => h x (List.mem_cons_of_mem _ hx)
   have := h w List.mem_cons_self
   simp; omega
 rw [tH] at h1
 omega
theorem yj : ∀ ws : List Str, strsP (ws.map PV.str) = some ws
 | [] => rfl
 | w :: ws => by simp [yj ws]
theorem ym : ∀ ws : List Str, d_ (ws.map PV.str) = some (ws.map PyData.str)
 | [] => rfl
 | w :: ws => by simp [d_, toD, ym ws]
theorem Aj : ∀ {ws : List Str}, (∀ w ∈ ws, PyData.strOk w = true) -> PyData.canLayAll0 (ws.map PyData.str) = true
 | [], _ => rfl
 | w :: ws, h => by
  simp [PyData.canLayAll0, PyData.canLay0, h w List.mem_cons_self, Aj fun x hx => h x (List.mem_cons_of_mem _ hx)]
theorem v9 : ∀ ws : List Str, PyData.depthAll (ws.map PyData.str) <= 1
 | [] => by simp [PyData.depthAll]
 | w :: ws => by
  have := v9 ws
  simp [PyData.depthAll, PyData.depth]
  omega
theorem Ak : ∀ xs ys : List Str, PyData.eqvAll (xs.map PyData.str) (ys.map PyData.str) = decide (xs = ys)
 | [], [] => rfl
 | [], _ :: _ => by simp [PyData.eqvAll]
 | _ :: _, [] => by simp [PyData.eqvAll]
 | x :: xs, y :: ys => by
  simp only [List.map_cons, PyData.eqvAll, PyData.eqv, Ak xs ys]
  by_cases h : x = y
  ·subst h; simp
  ·simp [h]
theorem uX {ws : List Str} (h : ∀ w ∈ ws, PyData.strOk w = true) : SeqAt.shaped (.list (ws.map PyData.str)) = true := by
 have h1 := Aj h
 have h2 := v9 ws
 simp [SeqAt.shaped, PyData.canLay0, h1, PyData.depth]
 omega
theorem rC {xs ys : List Str} (hx : ∀ w ∈ xs, PyData.strOk w = true) (hy : ∀ w ∈ ys, PyData.strOk w = true) : eqP (.lst (xs.map .str)) (.lst (ys.map .str)) = some (decide (xs = ys)) := by
 have h1 := uX hx
 have h2 := uX hy
 simp [eqP, eqS, eqD, toD, ym, h1, h2, PyData.eqv, Ak]
theorem Low.ok {w : Str} (h : Low w) : PyData.strOk w = true := by
 unfold PyData.strOk
 rw [← Array.all_toList, List.all_eq_true]
 intro c hc
 have := h.codes c hc
 simp; omega
theorem mF {R : Rc} {c : Int} {k : Nat} {kind : Str} {ws L : List Str} {p : Int} (hr : atI [bY R.carriers, bY R.pairs, bY R.longs, bY R.eithers, bY R.begins, bY R.splits, .str R.run, .int R.base] (k : Int) = some (.lst (ws.map .str)))
  (hp : atI [PV.int 1, .int 2, .int 4, .int 8, .int 16, .int 32] (k : Int) = some (.int p)) (h0 : 0 < p /\ p < 1073741824) (hk : kind.length <= 10) (hw : ∀ w ∈ ws, Low w) (hn : ws.length <= 20) (hL : L.length <= 1000) :
  turn (gT [3, 4]) [3, 4, 5] eO (.tup [.int k, .str kind]) [some (au R), some (.int c), some (.lst (L.map .str)), none, none, none, none] =
   some [some (au R), some (.int c), some (.lst ((L ++ (bT (decide (c / p % 2 = 1)) kind ws).map txt).map .str)), none, none, none, none] := by
 have hc : bJ [none, some (.str kind)] (gN 0) aY nY (ws.map .str) = some (ws.map fun w => .str (txt (kind, [w]))) :=
  bw _ _ ws fun w h => ⟨_, rfl, by
   have h1 : kind.length + (Str.ofString " ").length <= 1000000 := by rw [tH]; omega
   have h2 : (kind ++ Str.ofString " ").length + w.length <= 1000000 := by rw [dR, tH]; have := (hw w h).l4; omega
   simp [nY, h1, h2, txt, Str.join]⟩
 have hl2 : ws.length <= 1000000 := by omega
 have hl3 : L.length + ws.length <= 1000000 := by omega
 have hl4 : L.length < 1000000 := by omega
 by_cases hb : c / p % 2 = 1
 ·simp [cz, eO, au, hr, hp, h0, hb, hc, hl2, hl3, bT, List.map_map, Function.comp_def]
 ·have hj := Oz (fun w h => (hw w h).l4) hn
  have hj2 := Iv (fun w h => (hw w h).l4) hn
  have h1 : kind.length + (Str.ofString " ").length <= 1000000 := by rw [tH]; omega
  have h2 : (kind ++ Str.ofString " ").length + (Str.join (Str.ofString " ") ws).length <= 1000000 := by rw [dR, tH]; omega
  have he := rC (xs := ws) (ys := []) (fun w h => (hw w h).ok) (fun w h => by cases h)
  simp only [List.map_nil] at he
  have he0 : eqP (.lst []) (.lst []) = some true := rC (xs := []) (ys := []) (fun w h => by cases h) (fun w h => by cases h)
  by_cases hz : ws = []
  ·subst hz
   simp [cz, eO, au, hr, hp, h0, hb, bT, Ga, he0]
  ·simp [cz, eO, au, hr, hp, h0, hb, bT, hz, yj, hj, h1, h2, hl4, txt, Ga, he]
end My
namespace My
open PySem L2 MR
theorem aF {f g : MR.Env -> Option Out} {env e : MR.Env} (h : f env = some (.nx e)) : aH f g env = g e := by simp [h]
theorem Gu {α : Type} (f : α -> PV) (l : List α) (m : Nat) (h : m <= l.length) : g8 (l.map f) (some (m : Int)) none = (l.drop m).map f := by
 unfold g8
 rw [HT.sIx_nat, HT.sIx_none]
 simp only [List.length_map]
 rw [Nat.min_eq_left h, ← List.map_drop, List.take_of_length_le (by simp)]
theorem Gv {α : Type} (f : α -> PV) (l : List α) (m : Nat) (h : m <= l.length) : g8 (l.map f) none (some (m : Int)) = (l.take m).map f := by
 unfold g8
 rw [HT.sIx_nat, HT.sIx_none]
 simp only [List.length_map]
 rw [Nat.min_eq_left h]
 simp
def kY (run : Str) : List (Str × List Str) := if run = ("" : Str) then [] else [(("run" : Str), [run])]
def e_ (c : Int) (R : Rc) : List (Str × List Str) := bT (decide (c / 1 % 2 = 1)) ("carry" : Str) R.carriers ++ bT (decide (c / 2 % 2 = 1)) ("one" : Str) R.pairs ++ bT (decide (c / 4 % 2 = 1)) ("long" : Str) R.longs ++
 bT (decide (c / 8 % 2 = 1)) ("either" : Str) R.eithers ++ bT (decide (c / 16 % 2 = 1)) ("begin" : Str) R.begins ++ bT (decide (c / 32 % 2 = 1)) ("split" : Str) R.splits ++ kY R.run
theorem jf (b : Bool) (k : Str) (ws : List Str) : (bT b k ws).length <= ws.length + 1 := by
 unfold bT
 split
 ·simp
 ·split <;> simp
theorem v_ {A : List (Str × List Str)} {L : List Str} {a b : Nat} (h : L.length <= a) (h' : A.length <= b) : (L ++ A.map txt).length <= a + b := by
 rw [List.length_append, List.length_map]
 exact Nat.add_le_add h h'
theorem uB {α : Type} {A B : List α} {a b : Nat} (h : A.length <= a) (h' : B.length <= b) : (A ++ B).length <= a + b := by
 rw [List.length_append]
 exact Nat.add_le_add h h'
theorem Bu (r : Str) : (kY r).length <= 1 := by unfold kY; split <;> simp
theorem K_ (a : Int) (n : Nat) : ∃ m : Nat, a % ((n : Int) + 1) = (m : Int) /\ m <= n := ⟨(a % ((n : Int) + 1)).toNat, by have := Int.emod_nonneg a (b := (n : Int) + 1) (by omega); omega, by have := Int.emod_lt_of_pos a (b := (n : Int) + 1) (by omega); have := Int.emod_nonneg a (b := (n : Int) + 1) (by omega); omega⟩
theorem Gw (n : Nat) : (0 : Int) < (n : Int) + 1 := by omega
theorem OD {n : Nat} (h : n <= 1000) : n < 1000000 := by omega
theorem La {R : Rc} (G : R.Good) (c : Int) : ∃ rs : List (Str × List Str), (∀ x, x ∈ rs ↔ x ∈ e_ c R) /\ rs.length <= 100 /\ gH [au R, .int c] = some (.lst ((rs.map txt).map .str)) := by
 have Lo := G.lo
 have lc : R.carriers.length <= 7 := by rw [G.car]; simp; exact G.m7
 have k1 := jf (decide (c / 1 % 2 = 1)) ("carry" : Str) R.carriers
 have k2 := jf (decide (c / 2 % 2 = 1)) ("one" : Str) R.pairs
 have k3 := jf (decide (c / 4 % 2 = 1)) ("long" : Str) R.longs
 have k4 := jf (decide (c / 8 % 2 = 1)) ("either" : Str) R.eithers
 have k5 := jf (decide (c / 16 % 2 = 1)) ("begin" : Str) R.begins
 have k6 := jf (decide (c / 32 % 2 = 1)) ("split" : Str) R.splits
 have g1 := G.l1; have g2 := G.l2; have g3 := G.l3; have g4 := G.l4; have g5 := G.l5
 have dd1 := Nat.le_trans k1 (Nat.succ_le_succ lc)
 have dd2 := Nat.le_trans k2 (Nat.succ_le_succ g1)
 have dd3 := Nat.le_trans k3 (Nat.succ_le_succ g2)
 have dd4 := Nat.le_trans k4 (Nat.succ_le_succ g3)
 have dd5 := Nat.le_trans k5 (Nat.succ_le_succ g4)
 have dd6 := Nat.le_trans k6 (Nat.succ_le_succ g5)
 have t1 := mF (R := R) (c := c) (k := 0) (kind := "carry") (ws := R.carriers) (L := []) (p := 1) rfl rfl (by decide) (by decide +kernel) Lo.c (Nat.le_trans lc (by decide)) (by simp)
 generalize hA1 : bT (decide (c / 1 % 2 = 1)) ("carry" : Str) R.carriers = A1 at t1 dd1
 have l1 := v_ (L := []) (a := 0) (Nat.le_refl 0) dd1
 have t2 := mF (R := R) (c := c) (k := 1) (kind := "one") (ws := R.pairs) (L := [] ++ A1.map txt) (p := 2) rfl rfl (by decide) (by decide +kernel) Lo.p (Nat.le_trans g1 (by decide)) (Nat.le_trans l1 (by decide))
 generalize hA2 : bT (decide (c / 2 % 2 = 1)) ("one" : Str) R.pairs = A2 at t2 dd2
 have l2 := v_ l1 dd2
 have t3 := mF (R := R) (c := c) (k := 2) (kind := "long") (ws := R.longs) (L := [] ++ A1.map txt ++ A2.map txt) (p := 4) rfl rfl (by decide) (by decide +kernel) Lo.l (Nat.le_trans g2 (by decide)) (Nat.le_trans l2 (by decide))
 generalize hA3 : bT (decide (c / 4 % 2 = 1)) ("long" : Str) R.longs = A3 at t3 dd3
 have l3 := v_ l2 dd3
 have t4 := mF (R := R) (c := c) (k := 3) (kind := "either") (ws := R.eithers) (L := [] ++ A1.map txt ++ A2.map txt ++ A3.map txt) (p := 8) rfl rfl (by decide) (by decide +kernel) Lo.e (Nat.le_trans g3 (by decide)) (Nat.le_trans l3 (by decide))
 generalize hA4 : bT (decide (c / 8 % 2 = 1)) ("either" : Str) R.eithers = A4 at t4 dd4
 have l4 := v_ l3 dd4
 have t5 := mF (R := R) (c := c) (k := 4) (kind := "begin") (ws := R.begins) (L := [] ++ A1.map txt ++ A2.map txt ++ A3.map txt ++ A4.map txt) (p := 16) rfl rfl (by decide) (by decide +kernel) Lo.b (Nat.le_trans g4 (by decide)) (Nat.le_trans l4 (by decide))
 generalize hA5 : bT (decide (c / 16 % 2 = 1)) ("begin" : Str) R.begins = A5 at t5 dd5
 have l5 := v_ l4 dd5
 have t6 := mF (R := R) (c := c) (k := 5) (kind := "split") (ws := R.splits) (L := [] ++ A1.map txt ++ A2.map txt ++ A3.map txt ++ A4.map txt ++ A5.map txt) (p := 32) rfl rfl (by decide) (by decide +kernel) Lo.s (Nat.le_trans g5 (by decide)) (Nat.le_trans l5 (by decide))
 generalize hA6 : bT (decide (c / 32 % 2 = 1)) ("split" : Str) R.splits = A6 at t6 dd6
 have eL : ∃ B : List (Str × List Str), B = A1 ++ A2 ++ A3 ++ A4 ++ A5 ++ A6 := ⟨_, rfl⟩
 obtain ⟨B, hB⟩ := eL
 have lB : B.length <= 80 := by rw [hB]; exact Nat.le_trans (uB (uB (uB (uB (uB dd1 dd2) dd3) dd4) dd5) dd6) (by decide)
 have loop : bF (gT [3, 4]) [3, 4, 5] eO (fu 0 [.str "carry", .str "one", .str "long", .str "either", .str "begin", .str "split"]) [some (au R), some (.int c), some (.lst []), none, none, none, none] =
   some (.nx [some (au R), some (.int c), some (.lst ((B.map txt).map .str)), none, none, none, none]) := by
  refine (fB t1).trans ?_
  refine (fB t2).trans ?_
  refine (fB t3).trans ?_
  refine (fB t4).trans ?_
  refine (fB t5).trans ?_
  refine (fB t6).trans ?_
  rw [hB]
  simp [fu, bF]
 obtain ⟨Z, hZ⟩ : ∃ Z, Z = B ++ kY R.run := ⟨_, rfl⟩
 have lZ : Z.length <= 90 := by
  rw [hZ]; exact Nat.le_trans (uB lB (Bu _)) (by decide)
 have hrun : sIf (tV (b2 neQ (b2 ixP (bV 0) (bC (.int 6))) (bC (.str "")))) (dH mQ 2 (b2 bR (bC (.str "run ")) (b2 ixP (bV 0) (bC (.int 6))))) sNx [some (au R), some (.int c), some (.lst ((B.map txt).map .str)), none, none, none, none] =
   some (.nx [some (au R), some (.int c), some (.lst ((Z.map txt).map .str)), none, none, none, none]) := by
  rw [hZ]
  by_cases e : R.run = ("" : Str)
  ·simp [au, e, kY]
  ·have e1 : (Str.ofString "run ").length + R.run.length <= 1000000 := by
    have h1 : (Str.ofString "run ").length = 4 := by decide +kernel
    have h2 : R.run.length <= 10 := by
     rcases G.run with h | h | h | h <;> rw [h] <;> decide +kernel
    omega
   have e2 : (Str.ofString "run ") ++ R.run = txt (("run" : Str), [R.run]) := by
    unfold txt
    have : (Str.ofString "run ") = ("run" : Str) ++ (" " : Str) := by decide +kernel
    rw [this]; rfl
   have e3 : B.length < 1000000 := OD (Nat.le_trans lB (by decide))
   simp [au, e, e1, e2, e3, kY]
 have hZ0 : (0 : Int) < (Z.length : Int) + 1 := Gw _
 obtain ⟨m, hm, hmZ⟩ := K_ (c / 64) Z.length
 refine ⟨Z.drop m ++ Z.take m, fun x => ?_, by simp; omega, ?_⟩
 ·have : e_ c R = Z := by unfold e_; rw [hA1, hA2, hA3, hA4, hA5, hA6, hZ, hB]
  rw [this, List.mem_append, or_comm, ← List.mem_append, List.take_append_drop]
 ·have d1 := Gu (fun x : Str => PV.str x) (Z.map txt) m (by simp; exact hmZ)
  have d2 := Gv (fun x : Str => PV.str x) (Z.map txt) m (by simp; exact hmZ)
  have d3 : ((Z.map txt).drop m).length + ((Z.map txt).take m).length <= 1000000 := by simp; omega
  have d4 : Z.length - m + min m Z.length <= 1000000 := by omega
  have s1 : aK 2 (b7 aC) [some (au R), some (.int c), none, none, none, none, none] = some (.nx [some (au R), some (.int c), some (.lst []), none, none, none, none]) := by simp
  have s2 : cN (gT [3, 4]) (iE (b7 (ak (bC (.str "carry")) (ak (bC (.str "one")) (ak (bC (.str "long")) (ak (bC (.str "either")) (ak (bC (.str "begin")) (ak (bC (.str "split")) aC)))))))) [3, 4, 5] eO [some (au R), some (.int c), some (.lst []), none, none, none, none] =
    some (.nx [some (au R), some (.int c), some (.lst ((B.map txt).map .str)), none, none, none, none]) := by
   simp [-za, loop]
  have s4 : aK 6 (b2 b8 (b2 fD (bV 1) (bC (.int 64))) (b2 bR (b1 lenV (bV 2)) (bC (.int 1)))) [some (au R), some (.int c), some (.lst ((Z.map txt).map .str)), none, none, none, none] = some (.nx [some (au R), some (.int c), some (.lst ((Z.map txt).map .str)), none, none, none, some (.int m)]) := by
   simp [hZ0, hm]
  have s5 : aQ (b2 o6 (bSl (bV 2) (oS (bV 6)) oN) (bSl (bV 2) oN (oS (bV 6)))) [some (au R), some (.int c), some (.lst ((Z.map txt).map .str)), none, none, none, some (.int m)] = some (.rt (.lst (((Z.drop m ++ Z.take m).map txt).map .str))) := by
   simp only [Ck, mK, NK, Qn, QB, Qz, List.getElem?_cons_succ, List.getElem?_cons_zero, Option.bind_some, d1, d2, o6, List.length_map]
   rw [if_pos (by simp; omega)]
   simp
  have e : pU [some (au R), some (.int c), none, none, none, none, none] = some (.rt (.lst (((Z.drop m ++ Z.take m).map txt).map .str))) := by
   unfold pU
   rw [aF s1, aF s2, aF hrun, aF s4, s5]
  simp [gH, e]
end My
namespace My
open PySem L2 MR
theorem cD {b : Bool} {k : Str} {ws : List Str} {x : Str × List Str} (h : x ∈ bT b k ws) : x.1 = k /\ x.2 ≠ [] /\ (∀ w ∈ x.2, w ∈ ws) /\ x.2.length <= ws.length := by
 unfold bT at h
 split at h
 ·obtain ⟨w, hw, e⟩ := List.mem_map.mp h
  subst e
  refine ⟨rfl, by simp, fun z hz => by simp at hz; rw [hz]; exact hw, ?_⟩
  have := List.length_pos_of_mem hw
  show 1 <= ws.length
  omega
 ·split at h
  ·cases h
  ·rename_i hne
   have e : x = (k, ws) := by simpa using h
   subst e
   exact ⟨rfl, hne, fun _ z => z, Nat.le_refl _⟩
theorem cover {b : Bool} {k : Str} {ws : List Str} {w : Str} (h : w ∈ ws) : ∃ r, (k, r) ∈ bT b k ws /\ w ∈ r := by
 unfold bT
 split
 ·exact ⟨[w], List.mem_map.mpr ⟨w, h, rfl⟩, by simp⟩
 ·rw [if_neg (by intro z; rw [z] at h; cases h)]
  exact ⟨ws, by simp, h⟩
def StopW (R : Rc) (a : Str) : Prop := ∃ i : Nat, i < 12 /\ a = letter R.base ((R.many : Int) + (i : Nat))
def tK (R : Rc) (a b : Str) : Prop := (a ∈ R.carriers ++ R.pairs /\ b ∈ R.carriers ++ R.pairs) \/ (StopW R a /\ StopW R b)
inductive RowIs (R : Rc) : Str × List Str -> Prop
 | carry {r} : r ≠ [] -> (∀ w ∈ r, w ∈ R.carriers) -> RowIs R (("carry" : Str), r)
 | one {r} : r ≠ [] -> (∀ w ∈ r, w ∈ R.pairs) -> RowIs R (("one" : Str), r)
 | long {r} : r ≠ [] -> (∀ w ∈ r, w ∈ R.longs) -> RowIs R (("long" : Str), r)
 | either {r} : r ≠ [] -> (∀ w ∈ r, w ∈ R.eithers) -> RowIs R (("either" : Str), r)
 | begin {r} : r ≠ [] -> (∀ w ∈ r, w ∈ R.begins) -> RowIs R (("begin" : Str), r)
 | split {r} : r ≠ [] -> (∀ w ∈ r, w ∈ R.splits) -> RowIs R (("split" : Str), r)
 | run : R.run ≠ ("" : Str) -> RowIs R (("run" : Str), [R.run])
 | alike {a b} : tK R a b -> RowIs R (("alike" : Str), [a, b])
structure Tells (R : Rc) (rs : List (Str × List Str)) : Prop where
 is : ∀ x ∈ rs, RowIs R x
 len : ∀ x ∈ rs, x.2.length <= 20
 n : rs.length <= 150
 carry : ∀ w ∈ R.carriers, ∃ r, (("carry" : Str), r) ∈ rs /\ w ∈ r
 one : ∀ w ∈ R.pairs, ∃ r, (("one" : Str), r) ∈ rs /\ w ∈ r
 long : ∀ w ∈ R.longs, ∃ r, (("long" : Str), r) ∈ rs /\ w ∈ r
 either : ∀ w ∈ R.eithers, ∃ r, (("either" : Str), r) ∈ rs /\ w ∈ r
 begin : ∀ w ∈ R.begins, ∃ r, (("begin" : Str), r) ∈ rs /\ w ∈ r
 split : ∀ w ∈ R.splits, ∃ r, (("split" : Str), r) ∈ rs /\ w ∈ r
 run : R.run ≠ ("" : Str) -> (("run" : Str), [R.run]) ∈ rs
theorem tells_of {R : Rc} (G : R.Good) {c : Int} {rs : List (Str × List Str)} (h : ∀ x, x ∈ rs ↔ x ∈ e_ c R) (hn : rs.length <= 100) : Tells R rs := by
 have lc : R.carriers.length <= 7 := by rw [G.car]; simp; exact G.m7
 have g1 := G.l1; have g2 := G.l2; have g3 := G.l3; have g4 := G.l4; have g5 := G.l5
 have cs : ∀ x ∈ rs, RowIs R x /\ x.2.length <= 20 := fun x hx => by
  have hx := (h x).mp hx
  unfold e_ at hx
  simp only [List.mem_append] at hx
  obtain ⟨k, r⟩ := x
  rcases hx with (((((hx | hx) | hx) | hx) | hx) | hx) | hx
  ·obtain ⟨e, h1, h2, h3⟩ := cD hx; cases e; exact ⟨.carry h1 h2, by omega⟩
  ·obtain ⟨e, h1, h2, h3⟩ := cD hx; cases e; exact ⟨.one h1 h2, by omega⟩
  ·obtain ⟨e, h1, h2, h3⟩ := cD hx; cases e; exact ⟨.long h1 h2, by omega⟩
  ·obtain ⟨e, h1, h2, h3⟩ := cD hx; cases e; exact ⟨.either h1 h2, by omega⟩
  ·obtain ⟨e, h1, h2, h3⟩ := cD hx; cases e; exact ⟨.begin h1 h2, by omega⟩
  ·obtain ⟨e, h1, h2, h3⟩ := cD hx; cases e; exact ⟨.split h1 h2, by omega⟩
  ·unfold kY at hx
   split at hx
   ·cases hx
   ·rename_i hr
    have e : (k, r) = (("run" : Str), [R.run]) := by simpa using hx
    cases e
    exact ⟨.run hr, by simp⟩
 refine ⟨fun x hx => (cs x hx).1, fun x hx => (cs x hx).2, by omega, fun w hw => ?_, fun w hw => ?_, fun w hw => ?_, fun w hw => ?_, fun w hw => ?_, fun w hw => ?_, fun hr => ?_⟩
 ·obtain ⟨r, h1, h2⟩ := cover (b := decide (c / 1 % 2 = 1)) (k := ("carry" : Str)) hw
  exact ⟨r, (h _).mpr (by unfold e_; simp only [List.mem_append]; exact .inl (.inl (.inl (.inl (.inl (.inl h1)))))), h2⟩
 ·obtain ⟨r, h1, h2⟩ := cover (b := decide (c / 2 % 2 = 1)) (k := ("one" : Str)) hw
  exact ⟨r, (h _).mpr (by unfold e_; simp only [List.mem_append]; exact .inl (.inl (.inl (.inl (.inl (.inr h1)))))), h2⟩
 ·obtain ⟨r, h1, h2⟩ := cover (b := decide (c / 4 % 2 = 1)) (k := ("long" : Str)) hw
  exact ⟨r, (h _).mpr (by unfold e_; simp only [List.mem_append]; exact .inl (.inl (.inl (.inl (.inr h1))))), h2⟩
 ·obtain ⟨r, h1, h2⟩ := cover (b := decide (c / 8 % 2 = 1)) (k := ("either" : Str)) hw
  exact ⟨r, (h _).mpr (by unfold e_; simp only [List.mem_append]; exact .inl (.inl (.inl (.inr h1)))), h2⟩
 ·obtain ⟨r, h1, h2⟩ := cover (b := decide (c / 16 % 2 = 1)) (k := ("begin" : Str)) hw
  exact ⟨r, (h _).mpr (by unfold e_; simp only [List.mem_append]; exact .inl (.inl (.inr h1))), h2⟩
 ·obtain ⟨r, h1, h2⟩ := cover (b := decide (c / 32 % 2 = 1)) (k := ("split" : Str)) hw
  exact ⟨r, (h _).mpr (by unfold e_; simp only [List.mem_append]; exact .inl (.inr h1)), h2⟩
 ·exact (h _).mpr (by unfold e_ kY; simp [hr])
theorem vo : dO ("carry" : Str) /\ ("carry" : Str).length <= 10 /\ PyData.strOk ("carry" : Str) = true := by unfold dO; decide +kernel
theorem Al : dO ("one" : Str) /\ ("one" : Str).length <= 10 /\ PyData.strOk ("one" : Str) = true := by unfold dO; decide +kernel
theorem w6 : dO ("long" : Str) /\ ("long" : Str).length <= 10 /\ PyData.strOk ("long" : Str) = true := by unfold dO; decide +kernel
theorem tL : dO ("either" : Str) /\ ("either" : Str).length <= 10 /\ PyData.strOk ("either" : Str) = true := by unfold dO; decide +kernel
theorem vp : dO ("begin" : Str) /\ ("begin" : Str).length <= 10 /\ PyData.strOk ("begin" : Str) = true := by unfold dO; decide +kernel
theorem kd_split : dO ("split" : Str) /\ ("split" : Str).length <= 10 /\ PyData.strOk ("split" : Str) = true := by unfold dO; decide +kernel
theorem Am : dO ("run" : Str) /\ ("run" : Str).length <= 10 /\ PyData.strOk ("run" : Str) = true := by unfold dO; decide +kernel
theorem Iw : dO ("never" : Str) /\ ("never" : Str).length <= 10 /\ PyData.strOk ("never" : Str) = true := by unfold dO; decide +kernel
theorem OJ : dO ("may" : Str) /\ ("may" : Str).length <= 10 /\ PyData.strOk ("may" : Str) = true := by unfold dO; decide +kernel
theorem Lb : dO ("must" : Str) /\ ("must" : Str).length <= 10 /\ PyData.strOk ("must" : Str) = true := by unfold dO; decide +kernel
theorem vq : dO ("alike" : Str) /\ ("alike" : Str).length <= 10 /\ PyData.strOk ("alike" : Str) = true := by unfold dO; decide +kernel
def dh (rs : List (Str × List Str)) : List (List Str) := rs.map fun x => x.1 :: x.2
section
variable {R : Rc} {rs : List (Str × List Str)} (G : R.Good) (T : Tells R rs)
include G
theorem uC {x : Str × List Str} (h : RowIs R x) : (∀ w ∈ x.2, dO w /\ w.length <= 10 /\ PyData.strOk w = true) /\ dO x.1 /\ x.1.length <= 10 /\ x.2 ≠ [] /\ PyData.strOk x.1 = true := by
 have Lo := G.lo
 have ok : ∀ {w : Str}, Low w -> dO w /\ w.length <= 10 /\ PyData.strOk w = true := fun h => ⟨h.noBl, by have := h.l4; omega, h.ok⟩
 cases h with
 | carry h1 h2 => exact ⟨fun w hw => ok (Lo.c w (h2 w hw)), vo.1, vo.2.1, h1, vo.2.2⟩
 | one h1 h2 => exact ⟨fun w hw => ok (Lo.p w (h2 w hw)), Al.1, Al.2.1, h1, Al.2.2⟩
 | long h1 h2 => exact ⟨fun w hw => ok (Lo.l w (h2 w hw)), w6.1, w6.2.1, h1, w6.2.2⟩
 | either h1 h2 => exact ⟨fun w hw => ok (Lo.e w (h2 w hw)), tL.1, tL.2.1, h1, tL.2.2⟩
 | begin h1 h2 => exact ⟨fun w hw => ok (Lo.b w (h2 w hw)), vp.1, vp.2.1, h1, vp.2.2⟩
 | split h1 h2 => exact ⟨fun w hw => ok (Lo.s w (h2 w hw)), kd_split.1, kd_split.2.1, h1, kd_split.2.2⟩
 | run hr =>
  refine ⟨fun w hw => ?_, Am.1, Am.2.1, by simp, Am.2.2⟩
  have e : w = R.run := by simpa using hw
  rw [e]
  rcases G.run with h | h | h | h
  ·exact absurd h hr
  ·rw [h]; exact Iw
  ·rw [h]; exact OJ
  ·rw [h]; exact Lb
 | @alike a b h =>
  have hw : ∀ w, (w ∈ R.carriers ++ R.pairs \/ StopW R w) -> Low w := fun w h => by
   rcases h with h | ⟨i, _, e⟩
   ·rcases List.mem_append.mp h with h | h
    ·exact Lo.c w h
    ·exact Lo.p w h
   ·rw [e]; exact nH _ _
  refine ⟨fun w hw' => ?_, vq.1, vq.2.1, by simp, vq.2.2⟩
  have e : w = a \/ w = b := by simpa using hw'
  rcases h with h | h
  ·rcases e with e | e
   ·rw [e]; exact ok (hw _ (.inl h.1))
   ·rw [e]; exact ok (hw _ (.inl h.2))
  ·rcases e with e | e
   ·rw [e]; exact ok (hw _ (.inr h.1))
   ·rw [e]; exact ok (hw _ (.inr h.2))
include T
theorem Gx : (rs.map txt).map nq = dh rs := by
 unfold dh
 rw [List.map_map]
 refine List.map_congr_left fun x hx => ?_
 obtain ⟨h1, h2, _, h3, _⟩ := uC G (T.is x hx)
 show nq (x.1 ++ (" " : Str) ++ Str.join (" " : Str) x.2) = _
 unfold nq
 rw [v7 h2, v8 h3 fun w hw => (h1 w hw).1]
theorem An {w : Str} (h : w ∈ R.carriers) : isLetter w = true := by
 rw [G.car] at h
 obtain ⟨k, _, e⟩ := List.mem_map.mp h
 rw [← e]; exact nF _ _
theorem uD {k : Str} {r : List Str} : (k :: r) ∈ dh rs ↔ (k, r) ∈ rs := by
 unfold dh
 rw [List.mem_map]
 constructor
 ·rintro ⟨⟨k', r'⟩, h, e⟩
  cases e; exact h
 ·intro h; exact ⟨_, h, rfl⟩
theorem qH {r : List Str} (h : (("carry" : Str), r) ∈ rs) : gK (("carry" : Str) :: r) = true /\ ∀ w ∈ r, w ∈ R.carriers := by
 have hi := T.is _ h
 generalize hx : ((("carry" : Str), r) : Str × List Str) = x at hi
 cases hi with
 | carry h1 h2 =>
  cases hx
  refine ⟨?_, h2⟩
  simp [gK]
  exact ⟨List.length_pos_iff.mpr h1, fun w hw => An G T (h2 w hw)⟩
 | _ => exact absurd (Prod.mk.inj hx).1 (by decide +kernel)
theorem pJ (y : Str) : y ∈ aM (dh rs) ↔ y ∈ R.carriers := by
 unfold aM
 rw [zV]
 constructor
 ·rintro ⟨r, h1, h2⟩
  have h1 := (uD G T).mp (List.mem_filter.mp h1).1
  exact (qH G T h1).2 y h2
 ·intro h
  obtain ⟨r, h1, h2⟩ := T.carry y h
  exact ⟨r, List.mem_filter.mpr ⟨(uD G T).mpr h1, (qH G T h1).1⟩, h2⟩
theorem Gy {w : Str} (h : w ∈ R.pairs) : pairOf (inS (aM (dh rs))) w = true := by
 obtain ⟨a, ha, b, hb, e⟩ := G.prs w h
 have ca := ha; have cb := hb
 rw [G.car] at ha hb
 obtain ⟨i, _, ea⟩ := List.mem_map.mp ha
 obtain ⟨j, _, eb⟩ := List.mem_map.mp hb
 have ec : w.cps.toList = [ltn R.base i, ltn R.base j] := by
  rw [e, ← ea, ← eb, qC]; rfl
 unfold pairOf
 rw [ec]
 simp only [inS, Bool.and_eq_true, decide_eq_true_eq]
 rw [pJ G T, pJ G T]
 exact ⟨by rw [← ea] at ca; exact ca, by rw [← eb] at cb; exact cb⟩
theorem tQ {r : List Str} (h : (("one" : Str), r) ∈ rs) : j4 (inS (aM (dh rs))) (("one" : Str) :: r) = true /\ ∀ w ∈ r, w ∈ R.pairs := by
 have hi := T.is _ h
 generalize hx : ((("one" : Str), r) : Str × List Str) = x at hi
 cases hi with
 | one h1 h2 =>
  cases hx
  refine ⟨?_, h2⟩
  simp [j4]
  exact ⟨List.length_pos_iff.mpr h1, fun w hw => Gy G T (h2 w hw)⟩
 | _ => exact absurd (Prod.mk.inj hx).1 (by decide +kernel)
theorem Ao (y : Str) : y ∈ pairsOf (dh rs) ↔ y ∈ R.pairs := by
 unfold pairsOf
 rw [zV]
 constructor
 ·rintro ⟨r, h1, h2⟩
  have h1 := (uD G T).mp (List.mem_filter.mp h1).1
  exact (tQ G T h1).2 y h2
 ·intro h
  obtain ⟨r, h1, h2⟩ := T.one y h
  exact ⟨r, List.mem_filter.mpr ⟨(uD G T).mpr h1, (tQ G T h1).1⟩, h2⟩
theorem zc {w : Str} (h : w ∈ R.carriers ++ R.pairs) : w ∈ aM (dh rs) ++ pairsOf (dh rs) := by
 rw [List.mem_append] at h ⊢
 exact h.imp (pJ G T w).mpr (Ao G T w).mpr
theorem CK (n : Int) : j5 (inS (aM (dh rs))) (n_ R.base R.many n) = true := by
 have hl := vh R.base R.many n
 have m1 := G.m1; have m7 := G.m7
 simp only [j5, Bool.and_eq_true, decide_eq_true_eq]
 refine ⟨⟨by omega, by omega⟩, ?_⟩
 rw [List.all_eq_true]
 intro c hc
 rw [rB] at hc
 obtain ⟨k, _, e⟩ := List.mem_map.mp hc
 have hd := Ip n k
 simp only [nj, Bool.and_eq_true, Bool.not_eq_true', inS, decide_eq_false_iff_not]
 rw [← e]
 refine ⟨nF _ _, fun hm => ?_⟩
 rw [pJ G T, G.car] at hm
 obtain ⟨j, hj, ej⟩ := List.mem_map.mp hm
 have hj := List.mem_range.mp hj
 have := rA (c := R.base) (j := (j : Nat)) (k := (R.many : Int) + dg n k) (by omega) (by omega) (by omega) (by omega) ej
 omega
theorem Aq {w : Str} (h : StopW R w) : nj (inS (aM (dh rs))) w = true := by
 obtain ⟨i, hi, e⟩ := h
 have m1 := G.m1; have m7 := G.m7
 simp only [nj, Bool.and_eq_true, Bool.not_eq_true', inS, decide_eq_false_iff_not]
 rw [e]
 refine ⟨nF _ _, fun hm => ?_⟩
 rw [pJ G T, G.car] at hm
 obtain ⟨j, hj, ej⟩ := List.mem_map.mp hm
 have hj := List.mem_range.mp hj
 have := rA (c := R.base) (j := (j : Nat)) (k := (R.many : Int) + (i : Nat)) (by omega) (by omega) (by omega) (by omega) ej
 omega
theorem Ld {x : Str × List Str} (hx : x ∈ rs) : cP (inS (aM (dh rs))) (aM (dh rs) ++ pairsOf (dh rs)) (x.1 :: x.2) = true := by
 have hi := T.is x hx
 have lo := uC G hi
 cases hi with
 | carry h1 h2 => simp [cP]; exact (qH G T hx).1
 | one h1 h2 =>
  dsimp only [cP]
  rw [if_neg (by decide +kernel), if_pos rfl]
  exact (tQ G T hx).1
 | long h1 h2 =>
  dsimp only [cP]
  rw [if_neg (by decide +kernel), if_neg (by decide +kernel), if_pos (.inl rfl)]
  simp only [Bool.and_eq_true, decide_eq_true_eq, List.all_eq_true]
  exact ⟨List.length_pos_iff.mpr h1, fun w hw => zc G T (G.lng w (h2 w hw))⟩
 | either h1 h2 =>
  dsimp only [cP]
  rw [if_neg (by decide +kernel), if_neg (by decide +kernel), if_pos (.inr rfl)]
  simp only [Bool.and_eq_true, decide_eq_true_eq, List.all_eq_true]
  exact ⟨List.length_pos_iff.mpr h1, fun w hw => zc G T (G.eth w (h2 w hw))⟩
 | begin h1 h2 =>
  dsimp only [cP]
  rw [if_neg (by decide +kernel), if_neg (by decide +kernel), if_neg (by decide +kernel), if_pos (.inl rfl)]
  simp only [Bool.and_eq_true, decide_eq_true_eq, List.all_eq_true]
  exact ⟨List.length_pos_iff.mpr h1, fun w hw => by obtain ⟨n, e⟩ := G.beg w (h2 w hw); rw [e]; exact CK G T n⟩
 | split h1 h2 =>
  dsimp only [cP]
  rw [if_neg (by decide +kernel), if_neg (by decide +kernel), if_neg (by decide +kernel), if_pos (.inr rfl)]
  simp only [Bool.and_eq_true, decide_eq_true_eq, List.all_eq_true]
  exact ⟨List.length_pos_iff.mpr h1, fun w hw => by obtain ⟨n, e⟩ := G.spl w (h2 w hw); rw [e]; exact CK G T n⟩
 | run hr =>
  dsimp only [cP]
  rw [if_neg (by decide +kernel), if_neg (by decide +kernel), if_neg (by decide +kernel), if_neg (by decide +kernel), if_pos rfl]
  rcases G.run with h | h
  ·exact absurd h hr
  ·simp; exact h
 | @alike a b h =>
  dsimp only [cP]
  rw [if_neg (by decide +kernel), if_neg (by decide +kernel), if_neg (by decide +kernel), if_neg (by decide +kernel), if_neg (by decide +kernel)]
  simp only [kW, Bool.and_eq_true, Bool.or_eq_true, decide_eq_true_eq, List.all_eq_true]
  refine ⟨trivial, rfl, ?_⟩
  rcases h with h | h
  ·refine .inl fun w hw => ?_
   have e : w = a \/ w = b := by simpa using hw
   rcases e with e | e
   ·rw [e]; exact zc G T h.1
   ·rw [e]; exact zc G T h.2
  ·refine .inr fun w hw => ?_
   have e : w = a \/ w = b := by simpa using hw
   rcases e with e | e
   ·rw [e]; exact Aq G T h.1
   ·rw [e]; exact Aq G T h.2
theorem O1 : RowsOk (dh rs) := by
 have hn := T.n
 have hlen : (dh rs).length <= 150 := by unfold dh; rw [List.length_map]; exact hn
 refine ⟨by omega, fun ws hws => ?_, ?_, fun ws hws => ?_⟩
 ·obtain ⟨x, hx, e⟩ := List.mem_map.mp hws
  obtain ⟨h1, h2, h3, h4, _⟩ := uC G (T.is x hx)
  have := T.len x hx
  rw [← e]
  exact ⟨by simp, by simp; omega, fun w hw => by
   rcases List.mem_cons.mp hw with z | z
   ·rw [z]; omega
   ·have := (h1 w z).2.1; omega⟩
 ·have gen : ∀ l : List (List Str), (∀ ws ∈ l, ws.length <= 21) -> total l <= 21 * l.length := by
   intro l
   induction l with
   | nil => intro _; simp [total]
   | cons ws l ih =>
    intro h
    have h1 := ih fun y hy => h y (List.mem_cons_of_mem _ hy)
    have h2 := h ws List.mem_cons_self
    unfold total at *
    simp; omega
  have := gen (dh rs) fun ws hws => by
   obtain ⟨x, hx, e⟩ := List.mem_map.mp hws
   have := T.len x hx
   rw [← e]; simp; omega
  omega
 ·obtain ⟨x, hx, e⟩ := List.mem_map.mp hws
  rw [← e]; exact Ld G T hx
theorem Le {x : Str × List Str} (hx : x ∈ rs) : (txt x).length <= 1000 := by
 obtain ⟨h1, h2, h3, h4, _⟩ := uC G (T.is x hx)
 have hl := T.len x hx
 unfold txt
 rw [dR, dR]
 have hj := StrLaws.join_length_le (" " : Str) x.2
 have hs : (x.2.map (·.length)).sum <= 10 * x.2.length := by
  have gen : ∀ l : List Str, (∀ w ∈ l, w.length <= 10) -> (l.map (·.length)).sum <= 10 * l.length := by
   intro l
   induction l with
   | nil => intro _; simp
   | cons w l ih =>
    intro h
    have := ih fun y hy => h y (List.mem_cons_of_mem _ hy)
    have := h w List.mem_cons_self
    simp; omega
  exact gen x.2 fun w hw => (h1 w hw).2.1
 have hb : (" " : Str).length = 1 := tH
 rw [hb] at hj ⊢
 omega
theorem made : cO [.lst ((rs.map txt).map .str)] = some (aN (dh rs)) := by
 have h := K4 (zs := rs.map txt) (fun z hz => by obtain ⟨x, hx, e⟩ := List.mem_map.mp hz; rw [← e]; exact Le G T hx) (by rw [Gx G T]; exact O1 G T)
 rw [Gx G T] at h
 exact h
end
end My
namespace My
open PySem L2 MR
section
variable {R : Rc} {rs : List (Str × List Str)} (G : R.Good) (T : Tells R rs)
include G T
end
end My
namespace My
open PySem L2 MR
theorem CN (a b : Str) (ks : List (Str × Str)) : inP (.tup [.str a, .str b]) (.dT (sdT ks)) = some (decide ((a, b) ∈ ks)) := by
 have h := Ab (a, b) ks
 unfold pk at h
 simp only [inP, keysOf, keyOf, Option.map_some, h]
 by_cases h : (a, b) ∈ ks <;> simp [h]
theorem Iz {ks : List (Str × Str)} {x y : Str × Str} : y ∈ tE ks x ↔ y ∈ ks \/ y = x := by
 unfold tE
 split
 ·rename_i h
  constructor
  ·exact .inl
  ·rintro (h' | h')
   ·exact h'
   ·rw [h']; exact h
 ·simp
theorem Gz (rs : List (Str × List Str)) (h : ∀ r, (("alike" : Str), r) ∈ rs -> r.length = 2) (a b : Str) : (a, b) ∈ likes (rs.map fun x => x.1 :: x.2) ↔ (("alike" : Str), [a, b]) ∈ rs := by
 have gen : ∀ (l : List (Str × List Str)) (ks : List (Str × Str)), (∀ r, (("alike" : Str), r) ∈ l -> r.length = 2) -> ((a, b) ∈ (l.map fun x => x.1 :: x.2).foldl eZ ks ↔ (a, b) ∈ ks \/ (("alike" : Str), [a, b]) ∈ l) := by
  intro l
  induction l with
  | nil => intro ks _; simp
  | cons x l ih =>
   intro ks h
   rw [List.map_cons, List.foldl_cons, ih _ fun r hr => h r (List.mem_cons_of_mem _ hr)]
   obtain ⟨k, r⟩ := x
   by_cases e : k = ("alike" : Str)
   ·subst e
    have hl := h r List.mem_cons_self
    match r, hl with
    | [u, v], _ =>
     have : eZ ks (("alike" : Str) :: [u, v]) = tE ks (u, v) := by simp [eZ]
     rw [this, Iz]
     simp [or_assoc]
   ·have : eZ ks (k :: r) = ks := uW e
    have e' : ¬ ("alike" : Str) = k := fun z => e z.symm
    rw [this]
    simp [e']
 unfold likes
 rw [gen rs [] h]
 simp
section
variable {R : Rc} {rs : List (Str × List Str)} (G : R.Good) (T : Tells R rs)
include G T
theorem IK (a b : Str) : (a, b) ∈ likes (dh rs) ↔ (("alike" : Str), [a, b]) ∈ rs := by
 unfold dh
 refine Gz rs (fun r hr => ?_) a b
 have hi := T.is _ hr
 generalize hx : ((("alike" : Str), r) : Str × List Str) = x at hi
 cases hi with
 | alike _ => cases hx; rfl
 | _ => exact absurd (Prod.mk.inj hx).1 (by decide +kernel)
theorem Ef {als : List (Str × Str)} (ha : ∀ x ∈ als, tK R x.1 x.2) {rs' : List (Str × List Str)} (h : ∀ x, x ∈ rs' ↔ x ∈ rs \/ ∃ y ∈ als, x = (("alike" : Str), [y.1, y.2])) (hn : rs'.length <= 150) : Tells R rs' := by
 refine ⟨fun x hx => ?_, fun x hx => ?_, hn, fun w hw => ?_, fun w hw => ?_, fun w hw => ?_, fun w hw => ?_, fun w hw => ?_, fun w hw => ?_, fun hr => ?_⟩
 ·rcases (h x).mp hx with h | ⟨y, hy, e⟩
  ·exact T.is x h
  ·rw [e]; exact .alike (ha y hy)
 ·rcases (h x).mp hx with h | ⟨y, hy, e⟩
  ·exact T.len x h
  ·rw [e]; simp
 ·obtain ⟨r, h1, h2⟩ := T.carry w hw; exact ⟨r, (h _).mpr (.inl h1), h2⟩
 ·obtain ⟨r, h1, h2⟩ := T.one w hw; exact ⟨r, (h _).mpr (.inl h1), h2⟩
 ·obtain ⟨r, h1, h2⟩ := T.long w hw; exact ⟨r, (h _).mpr (.inl h1), h2⟩
 ·obtain ⟨r, h1, h2⟩ := T.either w hw; exact ⟨r, (h _).mpr (.inl h1), h2⟩
 ·obtain ⟨r, h1, h2⟩ := T.begin w hw; exact ⟨r, (h _).mpr (.inl h1), h2⟩
 ·obtain ⟨r, h1, h2⟩ := T.split w hw; exact ⟨r, (h _).mpr (.inl h1), h2⟩
 ·exact (h _).mpr (.inl (T.run hr))
end
theorem IV {R : Rc} {c : Int} {rs : List (Str × List Str)} (h : ∀ x, x ∈ rs ↔ x ∈ e_ c R) (r : List Str) : ¬ (("alike" : Str), r) ∈ rs := by
 intro hx
 have hx := (h _).mp hx
 unfold e_ at hx
 simp only [List.mem_append] at hx
 rcases hx with (((((hx | hx) | hx) | hx) | hx) | hx) | hx
 ·exact absurd (show ("alike" : Str) = ("carry" : Str) from (cD hx).1) (by decide +kernel)
 ·exact absurd (show ("alike" : Str) = ("one" : Str) from (cD hx).1) (by decide +kernel)
 ·exact absurd (show ("alike" : Str) = ("long" : Str) from (cD hx).1) (by decide +kernel)
 ·exact absurd (show ("alike" : Str) = ("either" : Str) from (cD hx).1) (by decide +kernel)
 ·exact absurd (show ("alike" : Str) = ("begin" : Str) from (cD hx).1) (by decide +kernel)
 ·exact absurd (show ("alike" : Str) = ("split" : Str) from (cD hx).1) (by decide +kernel)
 ·unfold kY at hx
  split at hx
  ·cases hx
  ·have e : (("alike" : Str), r) = (("run" : Str), [R.run]) := by simpa using hx
   exact absurd (Prod.mk.inj e).1 (by decide +kernel)
end My
namespace My
open PySem L2 MR
theorem uE {ws : List Str} (h : ∀ w ∈ ws, PyData.strOk w = true) : eqP (.lst (ws.map .str)) (.lst []) = some (decide (ws = [])) := by
 have := rC (xs := ws) (ys := []) h (by simp)
 exact this
theorem mG {l : List Str} (h : l ≠ []) (n : Int) : atI (l.map PV.str) (n % (l.length : Int)) = some (.str (pick l (n % (l.length : Int)))) /\ pick l (n % (l.length : Int)) ∈ l /\ (0 : Int) < (l.length : Int) /\ 0 < l.length := by
 have h0 : 0 < l.length := List.length_pos_iff.mpr h
 have h1 : (0 : Int) < (l.length : Int) := by omega
 exact ⟨ou (Int.emod_nonneg _ (by omega)) (Int.emod_lt_of_pos _ h1), jE (Int.emod_nonneg _ (by omega)) (Int.emod_lt_of_pos _ h1), h1, h0⟩
theorem uF {f g : MR.Env -> Option Out} {env : MR.Env} {p : PV} (h : f env = some (.rt p)) : aH f g env = some (.rt p) := by simp [h]
theorem tR {R : Rc} {n a i : Int} {m : PV} {ws : List Str} (hws : ∀ w ∈ ws, PyData.strOk w = true) (hb : ixP (au R) (.int i) = some (.lst (ws.map .str))) :
  sIf (tA (tV (b2 eqQ (bV 3) (bC (.int a)))) (tV (b2 neQ (b2 ixP (bV 0) (bC (.int i))) (b7 aC)))) (aQ (b2 ixP (b2 ixP (bV 0) (bC (.int i))) (b2 b8 (bV 4) (b1 lenV (b2 ixP (bV 0) (bC (.int i))))))) sNx [some (au R), some (.int n), some m, some (.int (n % 7)), some (.int (n / 7))] =
   if n % 7 = a /\ ws ≠ [] then some (.rt (.str (pick ws (n / 7 % (ws.length : Int))))) else some (.nx [some (au R), some (.int n), some m, some (.int (n % 7)), some (.int (n / 7))]) := by
 have e1 := uE hws
 have g0 : b2 ixP (bV 0) (bC (.int i)) [some (au R), some (.int n), some m, some (.int (n % 7)), some (.int (n / 7))] = some (.lst (ws.map .str)) := hb
 have g3 : tV (b2 eqQ (bV 3) (bC (.int a))) [some (au R), some (.int n), some m, some (.int (n % 7)), some (.int (n / 7))] = some (decide (n % 7 = a)) := by simp
 have g4 : tV (b2 neQ (b2 ixP (bV 0) (bC (.int i))) (b7 aC)) [some (au R), some (.int n), some m, some (.int (n % 7)), some (.int (n / 7))] = some (!decide (ws = [])) := by
  rw [Jz, mK, g0]
  simp [e1]
 rw [NT, Qo, g3]
 by_cases h : n % 7 = a
 ·by_cases hw : ws = []
  ·simp only [h, hw, decide_true, Option.bind_some, if_true, ne_eq, not_true, and_false, if_false]
   rw [← h, g4]
   simp [hw]
  ·obtain ⟨a1, _, _, a4⟩ := mG hw (n / 7)
   rw [if_pos ⟨h, hw⟩, decide_eq_true h]
   simp only [Option.bind_some, if_true]
   rw [g4, decide_eq_false hw]
   simp only [Bool.not_false, Option.bind_some, if_true]
   rw [Ck, mK, g0, mK, yW, g0]
   simp [a1, a4]
 ·rw [decide_eq_false h, if_neg (fun z => h z.1)]
  simp
theorem Ar {R : Rc} (G : R.Good) (n : Int) : ∃ w, dj [au R, .int n] = some (.str w) /\ Low w := by
 have Lo := G.lo
 have m1 := G.m1
 have lc : R.carriers.length = R.many := by rw [G.car]; simp
 have nc : R.carriers ≠ [] := fun e => by rw [e] at lc; simp at lc; omega
 obtain ⟨c1, c2, c3, c4⟩ := mG nc (n / 7)
 have p1 := tR (R := R) (n := n) (a := 4) (i := 4) (m := .int R.many) (fun w hw => (Lo.b w hw).ok) rfl
 have p2 := tR (R := R) (n := n) (a := 5) (i := 5) (m := .int R.many) (fun w hw => (Lo.s w hw).ok) rfl
 have p3 := tR (R := R) (n := n) (a := 6) (i := 1) (m := .int R.many) (fun w hw => (Lo.p w hw).ok) rfl
 have z1 : aK 2 (b1 lenV (b2 ixP (bV 0) (bC (.int 0)))) [some (au R), some (.int n), none, none, none] = some (.nx [some (au R), some (.int n), some (.int R.many), none, none]) := by simp [au, bY, lc]
 have z2 : aK 3 (b2 b8 (bV 1) (bC (.int 7))) [some (au R), some (.int n), some (.int R.many), none, none] = some (.nx [some (au R), some (.int n), some (.int R.many), some (.int (n % 7)), none]) := by simp
 have z3 : aK 4 (b2 fD (bV 1) (bC (.int 7))) [some (au R), some (.int n), some (.int R.many), some (.int (n % 7)), none] = some (.nx [some (au R), some (.int n), some (.int R.many), some (.int (n % 7)), some (.int (n / 7))]) := by simp
 have out : ∀ {w : Str}, di [some (au R), some (.int n), none, none, none] = some (.rt (.str w)) -> dj [au R, .int n] = some (.str w) := fun {w} e => by simp [dj, e]
 by_cases h4 : n % 7 = 4 /\ R.begins ≠ []
 ·rw [if_pos h4] at p1
  refine ⟨_, out ?_, Lo.b _ (mG h4.2 (n / 7)).2.1⟩
  unfold di
  rw [aF z1, aF z2, aF z3, uF p1]
 rw [if_neg h4] at p1
 by_cases h5 : n % 7 = 5 /\ R.splits ≠ []
 ·rw [if_pos h5] at p2
  refine ⟨_, out ?_, Lo.s _ (mG h5.2 (n / 7)).2.1⟩
  unfold di
  rw [aF z1, aF z2, aF z3, aF p1, uF p2]
 rw [if_neg h5] at p2
 by_cases h6 : n % 7 = 6 /\ R.pairs ≠ []
 ·rw [if_pos h6] at p3
  refine ⟨_, out ?_, Lo.p _ (mG h6.2 (n / 7)).2.1⟩
  unfold di
  rw [aF z1, aF z2, aF z3, aF p1, aF p2, uF p3]
 rw [if_neg h6] at p3
 rw [lc] at c1 c2 c3 c4
 by_cases h3 : n % 7 < 3
 ·refine ⟨_, ?_, Lo.c _ c2⟩
  have e : di [some (au R), some (.int n), none, none, none] = some (.rt (.str (pick R.carriers (n / 7 % (R.many : Int))))) := by
   unfold di
   rw [aF z1, aF z2, aF z3, aF p1, aF p2, aF p3]
   simp [h3, au, bY, c1, c4]
  simp [dj, e]
 ·refine ⟨letter R.base ((R.many : Int) + n / 7 % 5), ?_, nH _ _⟩
  have e : di [some (au R), some (.int n), none, none, none] = some (.rt (.str (letter R.base ((R.many : Int) + n / 7 % 5)))) := by
   unfold di
   rw [aF z1, aF z2, aF z3, aF p1, aF p2, aF p3]
   simp [h3, au, pI]
  simp [dj, e]
def LowT (w : Str) : Prop := ∀ c ∈ w.cps.toList, 97 <= c /\ c < 123
theorem LowT.ok {w : Str} (h : LowT w) : PyData.strOk w = true := by
 unfold PyData.strOk
 rw [← Array.all_toList, List.all_eq_true]
 intro c hc
 have := h c hc
 simp; omega
theorem jF (x : Str) (lo hi : Option Int) : (cL x lo hi).cps.toList = (x.cps.toList.drop (HT.sIx x.length 0 lo)).take (HT.sIx x.length x.length hi - HT.sIx x.length 0 lo) := by simp [cL]
theorem LowT.cut {w : Str} (h : LowT w) (lo hi : Option Int) : LowT (cL w lo hi) := fun c hc => by
 rw [jF] at hc
 exact h c (List.mem_of_mem_drop (List.mem_of_mem_take hc))
theorem I_ (x : Str) (lo hi : Option Int) : (cL x lo hi).length <= x.length := by
 have h := congrArg List.length (jF x lo hi)
 have h1 : (cL x lo hi).cps.toList.length = (cL x lo hi).length := Array.length_toList
 have h2 : x.cps.toList.length = x.length := Array.length_toList
 rw [h1, List.length_take, List.length_drop, h2] at h
 omega
theorem rD (x : Str) (k : Nat) : (cL x none (some (k : Int))).length <= k := by
 have h := congrArg List.length (jF x none (some (k : Int)))
 have h1 : (cL x none (some (k : Int))).cps.toList.length = (cL x none (some (k : Int))).length := Array.length_toList
 rw [h1, List.length_take, HT.sIx_nat, HT.sIx_none] at h
 omega
theorem LowT.app {a b : Str} (ha : LowT a) (hb : LowT b) : LowT (a ++ b) := fun c hc => by
 rw [qC] at hc
 exact (List.mem_append.mp hc).elim (ha c) (hb c)
theorem Low.t {w : Str} (h : Low w) : LowT w := h.codes
theorem vy : LowT ("" : Str) := fun c hc => by
 have : ("" : Str).cps.toList = [] := by decide +kernel
 rw [this] at hc; cases hc
theorem yo {α : Type} : ∀ ys : List α, (ys.map fun _ => 0).sum = 0
 | [] => rfl
 | _ :: ys => by simp [yo ys]
theorem GC : eqP (.lst []) (.lst []) = some true := by
 have := uE (ws := []) (by simp)
 simpa using this
structure WordR (R : Rc) (w : Str) : Prop where
 t : LowT w
 l : w.length <= 24
 c : ∃ s ∈ w.cps.toList, (⟨#[s]⟩ : Str) ∈ R.carriers
theorem Lf {R : Rc} (G : R.Good) (c : Int) : ∃ w, fJ [au R, .int c] = some (.str w) /\ WordR R w := by
 have Lo := G.lo
 have m1 := G.m1
 have lc : R.carriers.length = R.many := by rw [G.car]; simp
 have nc : R.carriers ≠ [] := fun e => by rw [e] at lc; simp at lc; omega
 obtain ⟨c1, c2, c3, c4⟩ := mG nc (c / 9)
 let pc : Int -> Str := fun n => Classical.choose (Ar G n)
 have hpc : ∀ n, dj [au R, .int n] = some (.str (pc n)) /\ Low (pc n) := fun n => Classical.choose_spec (Ar G n)
 obtain ⟨m, hm⟩ : ∃ m : Nat, 1 + c % 9 = (m : Int) := ⟨(1 + c % 9).toNat, by omega⟩
 have hm9 : m <= 9 := by omega
 have hr : rgI (m : Int) = true := sO (by omega) (by omega)
 let stp' : Str -> Nat -> Str := fun w k => cL (w ++ pc (mx (c / 9) k)) none (some 24)
 have inv : ∀ (l : List Nat) (w : Str), (LowT w /\ w.length <= 24) -> LowT (l.foldl stp' w) /\ (l.foldl stp' w).length <= 24 := by
  intro l
  induction l with
  | nil => intro w h; exact h
  | cons k l ih => intro w h; exact ih _ ⟨(h.1.app (hpc _).2.t).cut _ _, rD _ 24⟩
 have hl := j6 (g := gN 3) (ds := [3]) (body := kI) (fun k : Nat => PV.int (k : Nat)) (fun w : Str => [some (au R), some (.int c), some (.str w), none]) stp' (fun _ => 0) (fun _ => 0) 0 (fun w => LowT w /\ w.length <= 24) (List.range m) ("" : Str)
  ⟨vy, by decide +kernel⟩ (by rw [yo]; exact Nat.le_refl _) fun k hk w hw _ => ⟨Nat.zero_le _, ⟨(hw.1.app (hpc _).2.t).cut _ _, rD _ 24⟩, by
   have hk := List.mem_range.mp hk
   have hmx := qR (c / 9) (k := k) (by omega)
   have hp := (hpc (mx (c / 9) k)).1
   have l4 := (hpc (mx (c / 9) k)).2.l4
   have a1 : w.length + (pc (mx (c / 9) k)).length <= 1000000 := by have := hw.2; omega
   have a2 : (w ++ pc (mx (c / 9) k)).length <= 1000000 := by rw [dR]; exact a1
   simp [cz, kI, hmx, hp, a1, a2, stp']⟩
 obtain ⟨hT, h24⟩ := inv (List.range m) ("" : Str) ⟨vy, by decide +kernel⟩
 generalize (List.range m).foldl stp' ("" : Str) = w at hl hT h24
 have s1 : aK 2 (bC (.str "")) [some (au R), some (.int c), none, none] = some (.nx [some (au R), some (.int c), some (.str ""), none]) := by simp
 have s2 : cN (gN 3) (iR1 (b2 bR (bC (.int 1)) (b2 b8 (bV 1) (bC (.int 9))))) [3] kI [some (au R), some (.int c), some (.str ""), none] = some (.nx [some (au R), some (.int c), some (.str w), none]) := by
  rw [← cX] at hl
  simp [hm, hr]
  exact hl
 let cr : List Nat := w.cps.toList.filter fun s => decide ((⟨#[s]⟩ : Str) ∈ R.carriers)
 have hc : bJ [none, some (au R)] (gN 0) eV eU (chV w) = some ((cr.map fun s => (⟨#[s]⟩ : Str)).map .str) := by
  rw [uv]
  have h := bW (env := [none, some (au R)]) (g := gN 0) (t := eV) (f := eU) (fun s : Nat => PV.str ⟨#[s]⟩) (fun s => PV.str ⟨#[s]⟩) (fun s => decide ((⟨#[s]⟩ : Str) ∈ R.carriers)) w.cps.toList fun s hs => ⟨_, rfl, by
   have i1 := pZ ⟨#[s]⟩ R.carriers
   simp [eV, au, bY, i1], fun _ => by simp [eU]⟩
  rw [h, List.map_map]; rfl
 have hwl : w.cps.toList.length = w.length := Array.length_toList
 have hcl : (chV w).length <= 1000000 := by unfold chV; rw [List.length_map, hwl]; omega
 have okc : ∀ x ∈ cr.map (fun s => (⟨#[s]⟩ : Str)), PyData.strOk x = true := fun x hx => by
  obtain ⟨s, hs, e⟩ := List.mem_map.mp hx
  have hs := (List.mem_filter.mp hs).1
  rw [← e]
  exact LowT.ok (w := ⟨#[s]⟩) fun c hc => by
   have : c = s := by simpa using hc
   rw [this]; exact hT s hs
 have en := uE okc
 by_cases hcr : cr = []
 ·let w2 : Str := cL w none (some 23) ++ pick R.carriers (c / 9 % (R.carriers.length : Int))
  have k1 : (pick R.carriers (c / 9 % (R.carriers.length : Int))).length = 1 := by
   have := c2; rw [G.car] at this; obtain ⟨k, _, e⟩ := List.mem_map.mp this
   rw [← G.car] at e
   rw [← e]; rfl
  have s3 : sIf (tV (b2 eqQ (aV [none, some 0] (iV (bV 2)) (gN 0) eV eU) (b7 aC))) (aK 2 (b2 bR (bSl (bV 2) oN (oS (bC (.int 23)))) (b2 ixP (b2 ixP (bV 0) (bC (.int 0))) (b2 b8 (b2 fD (bV 1) (bC (.int 9))) (b1 lenV (b2 ixP (bV 0) (bC (.int 0)))))))) sNx [some (au R), some (.int c), some (.str w), none] =
    some (.nx [some (au R), some (.int c), some (.str w2), none]) := by
   have a1 : w.length <= 1000000 := by omega
   have a2 : (cL w none (some 23)).length + (pick R.carriers (c / 9 % (R.carriers.length : Int))).length <= 1000000 := by have := I_ w none (some 23); omega
   rw [hcr] at hc en
   have hc' : bJ [none, some (au R)] (gN 0) eV eU (chV w) = some [] := hc
   simp [hc', hcl, GC]
   simp [au, bY, c1, c4, a1, a2, w2]
  refine ⟨w2, ?_, ⟨(hT.cut _ _).app (Lo.c _ c2).t, ?_, ?_⟩⟩
  ·have e : j0 [some (au R), some (.int c), none, none] = some (.rt (.str w2)) := by
    unfold j0
    rw [aF s1, aF s2, aF s3]; simp
   simp [fJ, e]
  ·have := rD w 23
   show (cL w none (some 23) ++ _).length <= 24
   rw [dR]
   have h23 : (cL w none (some 23)).length <= 23 := this
   omega
  ·have hc2 := c2
   rw [G.car] at hc2
   obtain ⟨k, _, e⟩ := List.mem_map.mp hc2
   rw [← G.car] at e
   refine ⟨ltn R.base k, ?_, ?_⟩
   ·show ltn R.base k ∈ (cL w none (some 23) ++ pick R.carriers (c / 9 % (R.carriers.length : Int))).cps.toList
    rw [qC, ← e]
    simp [letter]
   ·have : (⟨#[ltn R.base k]⟩ : Str) = letter R.base k := rfl
    rw [this, e]; exact c2
 ·have s3 : sIf (tV (b2 eqQ (aV [none, some 0] (iV (bV 2)) (gN 0) eV eU) (b7 aC))) (aK 2 (b2 bR (bSl (bV 2) oN (oS (bC (.int 23)))) (b2 ixP (b2 ixP (bV 0) (bC (.int 0))) (b2 b8 (b2 fD (bV 1) (bC (.int 9))) (b1 lenV (b2 ixP (bV 0) (bC (.int 0)))))))) sNx [some (au R), some (.int c), some (.str w), none] =
    some (.nx [some (au R), some (.int c), some (.str w), none]) := by
   have hne : ¬ (cr.map fun s => (⟨#[s]⟩ : Str)) = [] := by simpa using hcr
   rw [decide_eq_false hne] at en
   generalize (cr.map fun s => (⟨#[s]⟩ : Str)) = zz at hc en
   simp [hc, hcl, en]
  refine ⟨w, ?_, ⟨hT, h24, ?_⟩⟩
  ·have e : j0 [some (au R), some (.int c), none, none] = some (.rt (.str w)) := by
    unfold j0
    rw [aF s1, aF s2, aF s3]; simp
   simp [fJ, e]
  ·obtain ⟨s, hs⟩ := List.exists_mem_of_ne_nil _ hcr
   have hs := List.mem_filter.mp hs
   exact ⟨s, hs.1, by simpa using hs.2⟩
end My
namespace My
open PySem L2 MR
theorem wg (cut : List (List Str)) (x : Str) : cT [.obj 0 (aN cut), .str x] = some (.bl (decide (x ∈ aM cut))) := by
 simp [cT, o4, Eb, vW]
theorem yp (cut : List (List Str)) (x : Str) : fK [.obj 0 (aN cut), .str x] = some (.bl (decide (x ∈ pairsOf cut))) := by
 simp [fK, o5, K5, vW]
theorem wj (cut : List (List Str)) : List.lookup ("carries" : Str) (aN cut) = none := rfl
theorem yq (cut : List (List Str)) : List.lookup ("is_pair" : Str) (aN cut) = none := rfl
theorem wk {c : MR.Env -> Option Bool} {ds : List Nat} {body : MR.Env -> Option Out} {n : Nat} {env e : MR.Env} (h : c env = some true) (h' : body env = some (.nx e)) : kj c ds body (n + 1) env = kj c ds body n (clr ds e) := by simp [kj, h, h']
theorem pC {c : MR.Env -> Option Bool} {ds : List Nat} {body : MR.Env -> Option Out} {n : Nat} {env : MR.Env} (h : c env = some false) : kj c ds body (n + 1) env = some (.nx env) := by simp [kj, h]
section
variable {R : Rc} (G : R.Good)
def ctU (w : Str) (a : Nat) (k : Nat) : Str := cL w (some (a : Int)) (some ((a : Int) + (k : Int)))
def szU (R : Rc) (w : Str) (a : Nat) : Nat := if ctU w a 2 ∈ R.pairs then 2 else 1
def un (R : Rc) (w : Str) : Nat -> Nat -> List Str
 | 0, _ => []
 | n + 1, a => if a < w.length then ctU w a (szU R w a) :: un R w n (a + szU R w a) else []
theorem xf (w : Str) (a : Nat) : 1 <= szU R w a := by unfold szU; split <;> omega
include G
theorem rE {x : Str} (h : x ∈ R.pairs) : x.length = 2 := by
 obtain ⟨a, ha, b, hb, e⟩ := G.prs x h
 rw [G.car] at ha hb
 obtain ⟨i, _, ea⟩ := List.mem_map.mp ha
 obtain ⟨j, _, eb⟩ := List.mem_map.mp hb
 rw [e, dR, ← ea, ← eb]; rfl
theorem Av {w : Str} {a : Nat} (h : a < w.length) : a + szU R w a <= w.length := by
 unfold szU
 split
 ·rename_i hm
  have h2 := rE G hm
  have hl := congrArg List.length (jF w (some (a : Int)) (some ((a : Int) + 2)))
  have h1 : (cL w (some (a : Int)) (some ((a : Int) + 2))).cps.toList.length = (cL w (some (a : Int)) (some ((a : Int) + 2))).length := Array.length_toList
  have h3 : (cL w (some (a : Int)) (some ((a : Int) + 2))).length = 2 := h2
  have e2 : (some ((a : Int) + 2)) = some (((a + 2 : Nat)) : Int) := rfl
  rw [h1, h3, List.length_take, e2, HT.sIx_nat, HT.sIx_nat] at hl
  omega
 ·omega
theorem Eg {w : Str} (hw : LowT w) : ∀ (n a : Nat), ∀ u ∈ un R w n a, LowT u
 | 0, _, u, h => by cases h
 | n + 1, a, u, h => by
  unfold un at h
  split at h
  ·rcases List.mem_cons.mp h with e | h
   ·rw [e]; exact hw.cut _ _
   ·exact Eg hw n _ u h
  ·cases h
variable {cut : List (List Str)} (hc : ∀ y, y ∈ aM cut ↔ y ∈ R.carriers) (hp : ∀ y, y ∈ pairsOf cut ↔ y ∈ R.pairs)
include hc
theorem GD {w : Str} (W : WordR R w) : m9 [.obj 0 (aN cut), .str w] = some (.bl true) := by
 have hl := W.l
 have h6 : w.length <= 1000000 := by omega
 have hwl : w.cps.toList.length = w.length := Array.length_toList
 have hcl : (chV w).length <= 1000000 := by unfold chV; rw [List.length_map, hwl]; omega
 have h24 : ¬ (24 : Int) < (w.length : Int) := by omega
 have h24' : ¬ 24 < w.length := by omega
 have k1 : bJ [none] (gN 0) aY mZ (chV w) = some ((w.cps.toList.map fun _ => true).map .bl) := by
  rw [uv]
  have h := bw (env := [none]) (g := gN 0) (f := mZ) (fun s : Nat => PV.str ⟨#[s]⟩) (fun _ => .bl true) w.cps.toList fun s hs => ⟨_, rfl, by
   have h1 := sZ (x := ⟨#[s]⟩) (by show 1 <= 1000; decide)
   rw [rO (W.t s hs).1 (W.t s hs).2] at h1
   simp [mZ, h1]⟩
  rw [h, List.map_map]; rfl
 have k2 : bJ [none, some (.obj 0 (aN cut))] (gN 0) aY m8 (chV w) = some ((w.cps.toList.map fun s => decide ((⟨#[s]⟩ : Str) ∈ aM cut)).map .bl) := by
  rw [uv]
  have h := bw (env := [none, some (.obj 0 (aN cut))]) (g := gN 0) (f := m8) (fun s : Nat => PV.str ⟨#[s]⟩) (fun s => .bl (decide ((⟨#[s]⟩ : Str) ∈ aM cut))) w.cps.toList fun s hs => ⟨_, rfl, by
   simp [m8, wj, wg]⟩
  rw [h, List.map_map]; rfl
 have hany : ((w.cps.toList.map fun s => decide ((⟨#[s]⟩ : Str) ∈ aM cut)).any id) = true := by
  obtain ⟨s, hs, hm⟩ := W.c
  rw [List.any_eq_true]
  exact ⟨true, List.mem_map.mpr ⟨s, hs, decide_eq_true ((hc _).mpr hm)⟩, rfl⟩
 have hall : ((w.cps.toList.map fun _ => true).all id) = true := by
  rw [List.all_eq_true]
  intro b hb
  obtain ⟨_, _, e⟩ := List.mem_map.mp hb
  rw [← e]; rfl
 have bb : ∀ bs : List Bool, bools (bs.map PV.bl) = some bs := by
  intro bs
  induction bs with
  | nil => rfl
  | cons b bs ih => simp [bools, ih]
 generalize (w.cps.toList.map fun _ => true) = b1' at k1 hall
 generalize (w.cps.toList.map fun s => decide ((⟨#[s]⟩ : Str) ∈ aM cut)) = b2' at k2 hany
 simp [m9, vY, tb_str, h6, h24, h24', k1, k2, hcl, bb, hall, hany]
include hp
theorem Eh {w : Str} (W : WordR R w) : jQ [.obj 0 (aN cut), .str w] = some (.lst ((un R w 24 0).map .str)) := by
 have hl := W.l
 have h6 : w.length <= 1000000 := by omega
 have hr : dU [.obj 0 (aN cut), .str w] = some .non := by
  have := GD G hc W
  simp [dU, ph, this]
 have loop : ∀ (n a : Nat) (us : List Str) (N : Nat), a <= w.length -> w.length - a <= n -> n < N -> us.length + n <= 1000 ->
   kj ir [4] il N [some (.obj 0 (aN cut)), some (.str w), some (.lst (us.map .str)), some (.int a), none] = some (.nx [some (.obj 0 (aN cut)), some (.str w), some (.lst ((us ++ un R w n a).map .str)), some (.int w.length), none]) := by
  intro n
  induction n with
  | zero =>
   intro a us N ha hn hN hu
   obtain ⟨N, rfl⟩ : ∃ M, N = M + 1 := ⟨N - 1, by omega⟩
   have e : a = w.length := by omega
   rw [pC (by simp [ir, h6, e]), e]
   simp [un]
  | succ n ih =>
   intro a us N ha hn hN hu
   obtain ⟨N, rfl⟩ : ∃ M, N = M + 1 := ⟨N - 1, by omega⟩
   by_cases h : a < w.length
   ·have hsz := Av G h
    have hs1 := xf (R := R) w a
    have hb : il [some (.obj 0 (aN cut)), some (.str w), some (.lst (us.map .str)), some (.int a), none] = some (.nx [some (.obj 0 (aN cut)), some (.str w), some (.lst ((us ++ [ctU w a (szU R w a)]).map .str)), some (.int ((a + szU R w a : Nat) : Int)), some (.int (szU R w a : Nat))]) := by
     have hu' : us.length < 1000000 := by omega
     by_cases hm : ctU w a 2 ∈ R.pairs
     ·have hq : cL w (some (a : Int)) (some ((a : Int) + 2)) ∈ pairsOf cut := (hp _).mpr hm
      have hz : szU R w a = 2 := if_pos hm
      rw [hz]
      simp [il, yq, yp, h6, hq, hu', ctU]
     ·have hq : ¬ cL w (some (a : Int)) (some ((a : Int) + 2)) ∈ pairsOf cut := fun z => hm ((hp _).mp z)
      have hz : szU R w a = 1 := if_neg hm
      rw [hz]
      simp [il, yq, yp, h6, hq, hu', ctU]
    have hi : (a : Int) < (w.length : Int) := by omega
    rw [wk (by simp [ir, h6, hi, h]) hb]
    have := ih (a + szU R w a) (us ++ [ctU w a (szU R w a)]) N hsz (by omega) (by omega) (by simp; omega)
    have e : un R w (n + 1) a = ctU w a (szU R w a) :: un R w n (a + szU R w a) := by
     rw [un, if_pos h]
    rw [e]
    rw [List.append_assoc, List.singleton_append] at this
    exact this
   ·have e : a = w.length := by omega
    have e2 : un R w (n + 1) a = [] := by rw [un, if_neg h]
    rw [pC (by simp [ir, h6, e]), e2, e]
    simp
 have l0 := loop 24 0 [] 1000000 (by omega) (by omega) (by omega) (by simp)
 have s1 : yZ (aL dU (ak (bV 0) (ak (bV 1) aC))) [some (.obj 0 (aN cut)), some (.str w), none, none, none] = some (.nx [some (.obj 0 (aN cut)), some (.str w), none, none, none]) := by simp [hr]
 have s2 : aK 2 (b7 aC) [some (.obj 0 (aN cut)), some (.str w), none, none, none] = some (.nx [some (.obj 0 (aN cut)), some (.str w), some (.lst []), none, none]) := by simp
 have s3 : aK 3 (bC (.int 0)) [some (.obj 0 (aN cut)), some (.str w), some (.lst []), none, none] = some (.nx [some (.obj 0 (aN cut)), some (.str w), some (.lst []), some (.int 0), none]) := by simp
 have s4 : qM 1000000 ir [4] il [some (.obj 0 (aN cut)), some (.str w), some (.lst []), some (.int 0), none] = some (.nx [some (.obj 0 (aN cut)), some (.str w), some (.lst ((un R w 24 0).map .str)), some (.int w.length), none]) := by
  rw [xX]
  exact l0
 have e : qG [some (.obj 0 (aN cut)), some (.str w), none, none, none] = some (.rt (.lst ((un R w 24 0).map .str))) := by
  unfold qG
  rw [aF s1, aF s2, aF s3, aF s4]
  simp
 simp [jQ, e]
end
end My
namespace My
open PySem L2 MR
def rF (u : Str) : Str := ⟨#[u.cps.toList.headD 0]⟩
def gk (R : Rc) (u : Str) : Bool := decide (rF u ∈ R.carriers)
section
variable {R : Rc} (G : R.Good)
theorem tU (w : Str) (a k : Nat) : (ctU w a k).cps.toList = (w.cps.toList.drop a).take k := by
 have hl : w.cps.toList.length = w.length := Array.length_toList
 unfold ctU
 rw [jF, show ((a : Int) + (k : Int)) = ((a + k : Nat) : Int) from rfl, HT.sIx_nat, HT.sIx_nat]
 by_cases h : a <= w.length
 ·rw [Nat.min_eq_left h]
  by_cases h2 : a + k <= w.length
  ·rw [Nat.min_eq_left h2, Nat.add_sub_cancel_left]
  ·rw [Nat.min_eq_right (by omega)]
   rw [List.take_of_length_le (by rw [List.length_drop, hl]; omega), List.take_of_length_le (by rw [List.length_drop, hl]; omega)]
 ·have e1 : w.cps.toList.drop a = [] := List.drop_eq_nil_of_le (by omega)
  have e2 : w.cps.toList.drop (min a w.length) = [] := List.drop_eq_nil_of_le (by omega)
  rw [e1, e2]
  simp
def flat (us : List Str) : List Nat := (us.map fun u => u.cps.toList).flatten
include G
theorem CQ {w : Str} : ∀ (n a : Nat), w.length - a <= n -> a <= w.length -> flat (un R w n a) = w.cps.toList.drop a
 | 0, a, h1, h2 => by
  have hl : w.cps.toList.length = w.length := Array.length_toList
  rw [List.drop_eq_nil_of_le (by omega)]
  rfl
 | n + 1, a, h1, h2 => by
  have hl : w.cps.toList.length = w.length := Array.length_toList
  by_cases h : a < w.length
  ·have hsz := Av G h
   have hs1 := xf (R := R) w a
   have e : un R w (n + 1) a = ctU w a (szU R w a) :: un R w n (a + szU R w a) := by rw [un, if_pos h]
   have ih := CQ (w := w) n (a + szU R w a) (by omega) hsz
   have ef : flat (ctU w a (szU R w a) :: un R w n (a + szU R w a)) = (ctU w a (szU R w a)).cps.toList ++ flat (un R w n (a + szU R w a)) := rfl
   rw [e, ef, ih, tU, ← List.drop_drop, List.take_append_drop]
  ·have e : un R w (n + 1) a = [] := by rw [un, if_neg h]
   rw [e, List.drop_eq_nil_of_le (by omega)]
   rfl
theorem j7 {w : Str} : ∀ (n a : Nat), ∀ u ∈ un R w n a, u ∈ R.pairs \/ ∃ c, u = ⟨#[c]⟩
 | 0, _, u, h => by cases h
 | n + 1, a, u, h => by
  unfold un at h
  split at h
  ·rename_i hlt
   rcases List.mem_cons.mp h with e | h
   ·by_cases hm : ctU w a 2 ∈ R.pairs
    ·have hz : szU R w a = 2 := if_pos hm
     rw [hz] at e
     rw [e]
     exact .inl hm
    ·have hz : szU R w a = 1 := if_neg hm
     rw [hz] at e
     have hl : w.cps.toList.length = w.length := Array.length_toList
     have hc := tU w a 1
     rw [List.drop_eq_getElem_cons (by omega : a < w.cps.toList.length), List.take_succ_cons, List.take_zero] at hc
     refine .inr ⟨w.cps.toList[a], ?_⟩
     rw [e]
     generalize ctU w a 1 = z at hc
     cases z with
     | mk cps =>
      congr 1
      exact Array.toList_inj.mp hc
   ·exact j7 n _ u h
  ·cases h
theorem p6 {u : Str} (h : u ∈ R.pairs) : gk R u = true /\ u.length = 2 := by
 refine ⟨?_, rE G h⟩
 obtain ⟨a, ha, b, hb, e⟩ := G.prs u h
 have ha' := ha
 rw [G.car] at ha'
 obtain ⟨i, _, ea⟩ := List.mem_map.mp ha'
 have hf : rF u = a := by
  rw [e, ← ea]
  unfold rF
  rw [Str.cps_append, Array.toList_append]
  rfl
 unfold gk
 rw [hf]
 exact decide_eq_true ha
theorem vz {w : Str} (W : WordR R w) : ∃ u ∈ un R w 24 0, gk R u = true := by
 obtain ⟨s, hs, hm⟩ := W.c
 have hj := CQ G (w := w) 24 0 (by have := W.l; omega) (by omega)
 rw [List.drop_zero] at hj
 rw [← hj] at hs
 obtain ⟨l, hl, hs'⟩ := List.mem_flatten.mp hs
 obtain ⟨u, hu, rfl⟩ := List.mem_map.mp hl
 refine ⟨u, hu, ?_⟩
 rcases j7 G 24 0 u hu with z | ⟨c, z⟩
 ·exact (p6 G z).1
 ·rw [z] at hs' ⊢
  have : s = c := by simpa using hs'
  subst this
  exact decide_eq_true hm
end
theorem uG {α : Type} {p : α -> Bool} : ∀ {l : List α}, (∃ x ∈ l, p x = true) -> ∃ pre x post, l = pre ++ x :: post /\ p x = true /\ ∀ y ∈ post, p y = false
 | [], h => by obtain ⟨x, hx, _⟩ := h; cases hx
 | a :: l, h => by
  by_cases h2 : ∃ x ∈ l, p x = true
  ·obtain ⟨pre, x, post, e, h3, h4⟩ := uG h2
   exact ⟨a :: pre, x, post, by rw [e]; rfl, h3, h4⟩
  ·obtain ⟨x, hx, hp⟩ := h
   rcases List.mem_cons.mp hx with e | e
   ·subst e
    refine ⟨[], x, l, rfl, hp, fun y hy => ?_⟩
    cases q : p y with
    | false => rfl
    | true => exact absurd ⟨y, hy, q⟩ h2
   ·exact absurd ⟨x, e, hp⟩ h2
theorem yr : ∀ l : List Nat, intsP (l.map fun k => PV.int (k : Nat)) = some (l.map fun k : Nat => (k : Int))
 | [] => rfl
 | k :: l => by simp [yr l]
def xg (p : Str -> Bool) (us : List Str) : List Nat := (us.zipIdx.filter fun y => p y.1).map (·.2)
theorem Ja {p : Str -> Bool} {pre post : List Str} {u : Str} (hu : p u = true) (hp : ∀ y ∈ post, p y = false) : ∃ k ks, xg p (pre ++ u :: post) = k :: ks /\ sV ((xg p (pre ++ u :: post)).map fun k : Nat => (k : Int)) = (pre.length : Int) := by
 have e : xg p (pre ++ u :: post) = ((pre.zipIdx.filter fun y => p y.1).map (·.2)) ++ [pre.length] := by
  unfold xg
  rw [List.zipIdx_append, List.filter_append, List.zipIdx_cons, List.filter_cons_of_pos (by simpa using hu)]
  have : (post.zipIdx (0 + pre.length + 1)).filter (fun y => p y.1) = [] := by
   rw [List.filter_eq_nil_iff]
   intro y hy
   have := List.fst_mem_of_mem_zipIdx hy
   rw [hp _ this]
   decide
  rw [this]
  simp
 have hlt : ∀ k ∈ (pre.zipIdx.filter fun y => p y.1).map (·.2), k < pre.length := fun k hk => by
  obtain ⟨y, hy, rfl⟩ := List.mem_map.mp hk
  have := List.snd_lt_of_mem_zipIdx (List.mem_filter.mp hy).1
  simpa using this
 refine ?_
 obtain ⟨k, ks, hk⟩ : ∃ k ks, xg p (pre ++ u :: post) = k :: ks := by
  rw [e]
  cases ((pre.zipIdx.filter fun y => p y.1).map (·.2)) with
  | nil => exact ⟨_, _, rfl⟩
  | cons a b => exact ⟨_, _, rfl⟩
 refine ⟨k, ks, hk, xZ ?_ fun a ha => ?_⟩
 ·rw [e]; simp
 ·rw [e, List.map_append] at ha
  rcases List.mem_append.mp ha with z | z
  ·obtain ⟨j, hj, rfl⟩ := List.mem_map.mp z
   have := hlt j hj
   omega
  ·have : a = (pre.length : Int) := by simpa using z
   omega
section
variable {R : Rc} (G : R.Good) {cut : List (List Str)} (hc : ∀ y, y ∈ aM cut ↔ y ∈ R.carriers) (hp : ∀ y, y ∈ pairsOf cut ↔ y ∈ R.pairs)
include G hc hp
theorem O2 {w : Str} (W : WordR R w) : ∃ pre u post, un R w 24 0 = pre ++ u :: post /\ gk R u = true /\ (∀ y ∈ post, gk R y = false) /\ gw [.obj 0 (aN cut), .str w] = some (.lst ((u :: post).map .str)) := by
 obtain ⟨pre, u, post, e, h1, h2⟩ := uG (vz G W)
 refine ⟨pre, u, post, e, h1, h2, ?_⟩
 have hu := Eh G hc hp W
 have hlu : (un R w 24 0).length <= 24 := by
  have gen : ∀ n a, (un R w n a).length <= n := by
   intro n
   induction n with
   | zero => intro a; simp [un]
   | succ n ih =>
    intro a
    unfold un
    split
    ·simp; exact ih _
    ·simp
  exact gen 24 0
 have hen := sW PV.str (un R w 24 0) 0
 have hcm := bW (env := [none, none, some (.obj 0 (aN cut))]) (g := gT [0, 1]) (t := oK) (f := oJ) (fun y : Str × Nat => PV.tup [.int (y.2 : Nat), .str y.1]) (fun y : Str × Nat => PV.int (y.2 : Nat)) (fun y => gk R y.1) ((un R w 24 0).zipIdx 0) fun y hy => ⟨[some (.int (y.2 : Nat)), some (.str y.1), some (.obj 0 (aN cut))], by simp, by
  have hm : y.1 ∈ un R w 24 0 := List.fst_mem_of_mem_zipIdx hy
  have hix : ixP (.str y.1) (.int 0) = some (.str (rF y.1)) := by
   have hlen : y.1.length <= 1000000 := by
    rcases j7 G 24 0 y.1 hm with z | ⟨c, z⟩
    ·have := (p6 G z).2; omega
    ·rw [z]; show 1 <= 1000000; decide
   have hne : ∃ c cs, y.1.cps.toList = c :: cs := by
    rcases j7 G 24 0 y.1 hm with z | ⟨c, z⟩
    ·have h2 := (p6 G z).2
     have hl : y.1.cps.toList.length = y.1.length := Array.length_toList
     cases q : y.1.cps.toList with
     | nil => rw [q] at hl; simp at hl; omega
     | cons c cs => exact ⟨c, cs, rfl⟩
    ·rw [z]; exact ⟨c, [], rfl⟩
   obtain ⟨c, cs, hcs⟩ := hne
   unfold rF
   simp [hlen, hcs]
  have hcar := wg cut (rF y.1)
  have hd : decide (rF y.1 ∈ aM cut) = gk R y.1 := by
   unfold gk
   exact decide_eq_decide.mpr (hc _)
  rw [hd] at hcar
  simp [oK, -ixP, hix, wj, hcar], fun _ => by simp [oJ]⟩
 obtain ⟨k, ks, hk, hmx⟩ := Ja (p := gk R) (pre := pre) (post := post) h1 h2
 have hidx : ((un R w 24 0).zipIdx 0 |>.filter fun y => gk R y.1).map (fun y : Str × Nat => PV.int (y.2 : Nat)) = (k :: ks).map fun k => PV.int (k : Nat) := by
  rw [← hk, e]
  unfold xg
  rw [List.map_map]
  rfl
 rw [hidx] at hcm
 have hii := yr (k :: ks)
 rw [hk] at hmx
 have hlen : (fu 0 ((un R w 24 0).map PV.str)).length <= 1000000 := by rw [hen]; simp; omega
 rw [← hen] at hcm
 have hcut : g8 ((un R w 24 0).map PV.str) (some (pre.length : Int)) none = (u :: post).map PV.str := by
  unfold g8
  rw [HT.sIx_nat, HT.sIx_none, e]
  have hmin : min pre.length ((pre ++ u :: post).map PV.str).length = pre.length := by simp
  rw [hmin, List.map_append, List.drop_left' (by simp), List.take_of_length_le (by simp)]
 have s1 : aK 2 (aL jQ (ak (bV 0) (ak (bV 1) aC))) [some (.obj 0 (aN cut)), some (.str w), none, none] = some (.nx [some (.obj 0 (aN cut)), some (.str w), some (.lst ((un R w 24 0).map .str)), none]) := by simp [hu]
 have s2 : aK 3 (b1 ur (aV [none, none, some 0] (iE (bV 2)) (gT [0, 1]) oK oJ)) [some (.obj 0 (aN cut)), some (.str w), some (.lst ((un R w 24 0).map .str)), none] = some (.nx [some (.obj 0 (aN cut)), some (.str w), some (.lst ((un R w 24 0).map .str)), some (.int (pre.length : Nat))]) := by
  have hmv : ur (.lst ((k :: ks).map fun k => PV.int (k : Nat))) = some (.int (pre.length : Nat)) := by
   rw [List.map_cons]
   show (intsP (PV.int (k : Nat) :: ks.map fun k => PV.int (k : Nat))).map (fun ns => PV.int (sV ns)) = _
   rw [← List.map_cons (f := fun k => PV.int (k : Nat)), hii, Option.map_some, hmx]
  generalize (un R w 24 0).map PV.str = US at *
  generalize aN cut = TF at *
  generalize ((k :: ks).map fun k => PV.int (k : Nat)) = KS at *
  simp [-ur, hlen, hcm, hmv]
 have s3 : aQ (bSl (bV 2) (oS (bV 3)) oN) [some (.obj 0 (aN cut)), some (.str w), some (.lst ((un R w 24 0).map .str)), some (.int (pre.length : Nat))] = some (.rt (.lst ((u :: post).map .str))) := by
  generalize (un R w 24 0).map PV.str = US at *
  generalize (u :: post).map PV.str = EP at *
  simp [hcut]
 have hb : qp [some (.obj 0 (aN cut)), some (.str w), none, none] = some (.rt (.lst ((u :: post).map .str))) := by
  unfold qp
  rw [aF s1, aF s2, s3]
 unfold gw
 generalize qp = B at *
 generalize (u :: post).map PV.str = EP at *
 simp [hb]
end
end My
namespace My
open PySem L2 MR
theorem uY {α : Type} {g : PV -> MR.Env -> Option MR.Env} {ds : List Nat} {body : MR.Env -> Option Out} {env : MR.Env} (c : α -> PV) : ∀ (ys : List α), (∀ y ∈ ys, turn g ds body (c y) env = some env) -> bF g ds body (ys.map c) env = some (.nx env)
 | [], _ => rfl
 | y :: ys, h => by
  rw [List.map_cons, fB (h y List.mem_cons_self)]
  exact uY c ys fun z hz => h z (List.mem_cons_of_mem _ hz)
def tp (x : Str × Str) : PV := .tup [.str x.1, .str x.2]
def td (x : Str × Str) : PyData := .tuple [.str x.1, .str x.2]
theorem CT : ∀ ts : List (Str × Str), d_ (ts.map tp) = some (ts.map td)
 | [] => rfl
 | x :: ts => by simp [d_, tp, toD, CT ts, td]
theorem GF {x : Str × Str} (h1 : PyData.strOk x.1 = true) (h2 : PyData.strOk x.2 = true) : (td x).canLay0 = true := by
 simp [td, PyData.canLay0, PyData.canLayAll0, h1, h2]
theorem CV : ∀ {ts : List (Str × Str)}, (∀ x ∈ ts, PyData.strOk x.1 = true /\ PyData.strOk x.2 = true) -> PyData.canLayAll0 (ts.map td) = true
 | [], _ => rfl
 | x :: ts, h => by
  have h1 := h x List.mem_cons_self
  simp [PyData.canLayAll0, GF h1.1 h1.2, CV fun y hy => h y (List.mem_cons_of_mem _ hy)]
theorem O3 (x y : Str × Str) : PyData.eqv (td x) (td y) = decide (x = y) := by
 obtain ⟨a, b⟩ := x
 obtain ⟨c, d⟩ := y
 simp only [td, PyData.eqv, PyData.eqvAll]
 by_cases h1 : a = c
 ·by_cases h2 : b = d
  ·subst h1; subst h2; simp
  ·simp [h1, h2]
 ·simp [h1]
theorem GJ (x : Str × Str) : ∀ ts : List (Str × Str), ((ts.map td).any fun y => PyData.eqv y (td x)) = decide (x ∈ ts)
 | [] => by simp
 | y :: ts => by
  rw [List.map_cons, List.any_cons, GJ x ts, O3]
  by_cases h : y = x
  ·subst h; simp
  ·have h' : ¬ x = y := fun e => h e.symm
   simp [h, h']
theorem GK {ts : List (Str × Str)} (h : ∀ x ∈ ts, PyData.strOk x.1 = true /\ PyData.strOk x.2 = true) {a b : Str} (ha : PyData.strOk a = true) (hb : PyData.strOk b = true) : inP (.tup [.str a, .str b]) (.lst (ts.map tp)) = some (decide ((a, b) ∈ ts)) := by
 have h1 : eE (.tup [.str a, .str b]) = false := rfl
 have h2 := CT ts
 have h3 := CV h
 have h4 := GF (x := (a, b)) ha hb
 have h5 := GJ (a, b) ts
 have h6 : toD (.tup [.str a, .str b]) = some (td (a, b)) := by simp [toD, d_, td]
 have h7 : (td (a, b)).depth <= 32 := by simp [td, PyData.depth, PyData.depthAll]
 simp only [inP]
 rw [if_neg (by simp [h1])]
 unfold inD
 rw [h6, h2]
 show (if _ then _ else _) = _
 rw [if_pos ⟨h3, h4, h7⟩, h5]
theorem GP {ts : List (Str × Str)} {cut : List (List Str)} (hl : ∀ a b, (a, b) ∈ likes cut ↔ (a, b) ∈ ts) (a b : Str) : dw [.obj 0 (aN cut), .str a, .str b] = some (.bl (decide (a = b \/ (a, b) ∈ ts \/ (b, a) ∈ ts))) := by
 have d1 : decide ((a, b) ∈ likes cut) = decide ((a, b) ∈ ts) := decide_eq_decide.mpr (hl a b)
 have d2 : decide ((b, a) ∈ likes cut) = decide ((b, a) ∈ ts) := decide_eq_decide.mpr (hl b a)
 have i1 := CN a b (likes cut)
 have i2 := CN b a (likes cut)
 rw [d1] at i1
 rw [d2] at i2
 by_cases h1 : a = b
 ·simp [dw, jD, h1]
 ·by_cases h2 : (a, b) ∈ ts
  ·simp [dw, jD, Cy, h1, i1, h2]
  ·by_cases h3 : (b, a) ∈ ts <;> simp [dw, jD, Cy, h1, i1, h2, i2, h3]
theorem GQ (cut : List (List Str)) : List.lookup ("alike" : Str) (aN cut) = none := rfl
theorem GR (a b : Str) : (("alike " : Str) ++ a) ++ (" " : Str) ++ b = txt (("alike" : Str), [a, b]) := by
 have e1 : ("alike " : Str) = ("alike" : Str) ++ (" " : Str) := by decide +kernel
 have as : ∀ x y z : Str, (x ++ y) ++ z = x ++ (y ++ z) := fun x y z => by
  cases x; cases y; cases z
  show Str.mk _ = Str.mk _
  simp [Str.cps_append, Array.append_assoc]
 unfold txt
 rw [e1]
 show (("alike" : Str) ++ (" " : Str) ++ a) ++ (" " : Str) ++ b = ("alike" : Str) ++ (" " : Str) ++ (a ++ (" " : Str) ++ b)
 rw [as (("alike" : Str) ++ (" " : Str)) a, as (("alike" : Str) ++ (" " : Str))]
end My
namespace My
open PySem L2 MR
theorem uH {x y : Str} (h : x.cps.toList = y.cps.toList) : x = y := by
 cases x; cases y
 congr 1
 exact Array.toList_inj.mp h
def sfx (w : Str) (a : Nat) : Str := cL w (some (a : Int)) none
theorem jn (w : Str) (a : Nat) : (sfx w a).cps.toList = w.cps.toList.drop a := by
 have hl : w.cps.toList.length = w.length := Array.length_toList
 unfold sfx
 rw [jF, HT.sIx_nat, HT.sIx_none]
 by_cases h : a <= w.length
 ·rw [Nat.min_eq_left h, List.take_of_length_le (by rw [List.length_drop, hl]; omega)]
 ·rw [List.drop_eq_nil_of_le (by omega : w.cps.toList.length <= a), Nat.min_eq_right (by omega)]
  simp
theorem CW (w : Str) (a : Nat) : (sfx w a).length = w.length - a := by
 have hl : w.cps.toList.length = w.length := Array.length_toList
 have h2 : (sfx w a).cps.toList.length = (sfx w a).length := Array.length_toList
 rw [← h2, jn, List.length_drop, hl]
theorem R1 (w : Str) : sfx w 0 = w := uH (by rw [jn]; rfl)
theorem Aw (w : Str) (a k : Nat) : cL (sfx w a) none (some (k : Int)) = ctU w a k := by
 apply uH
 have hl : (sfx w a).cps.toList.length = (sfx w a).length := Array.length_toList
 rw [tU, jF, HT.sIx_none, HT.sIx_nat, List.drop_zero, Nat.sub_zero, jn]
 rw [List.take_eq_take_iff]
 rw [jn] at hl
 omega
theorem Ax (w : Str) (a k : Nat) : cL (sfx w a) (some (k : Int)) none = sfx w (a + k) := by
 apply uH
 have h1 : cL (sfx w a) (some (k : Int)) none = sfx (sfx w a) k := rfl
 rw [h1, jn, jn, jn, List.drop_drop]
theorem sfx_nil {w : Str} {a : Nat} : (sfx w a = ("" : Str)) ↔ w.length <= a := by
 have e0 : ("" : Str).length = 0 := by decide +kernel
 constructor
 ·intro h
  have := congrArg Str.length h
  rw [CW, e0] at this
  omega
 ·intro h
  apply uH
  have hl : w.cps.toList.length = w.length := Array.length_toList
  rw [jn, List.drop_eq_nil_of_le (by omega)]
  decide +kernel
section
variable {R : Rc} (G : R.Good)
include G
theorem GX {w : Str} (hl : w.length <= 24) : ig [au R, .str w] = some (.lst ((un R w 24 0).map .str)) := by
 have loop : ∀ (n a : Nat) (us : List Str) (N : Nat), a <= w.length -> w.length - a <= n -> n < N -> us.length + n <= 1000 ->
   kj fX [3] fW N [some (au R), some (.str (sfx w a)), some (.lst (us.map .str)), none] = some (.nx [some (au R), some (.str (sfx w w.length)), some (.lst ((us ++ un R w n a).map .str)), none]) := by
  intro n
  induction n with
  | zero =>
   intro a us N ha hn hN hu
   obtain ⟨N, rfl⟩ : ∃ M, N = M + 1 := ⟨N - 1, by omega⟩
   have e : a = w.length := by omega
   have hz : sfx w w.length = ("" : Str) := sfx_nil.mpr (Nat.le_refl _)
   rw [e, pC (by generalize au R = RP; simp [fX, hz])]
   simp [un]
  | succ n ih =>
   intro a us N ha hn hN hu
   obtain ⟨N, rfl⟩ : ∃ M, N = M + 1 := ⟨N - 1, by omega⟩
   by_cases h : a < w.length
   ·have hsz := Av G h
    have hs1 := xf (R := R) w a
    have hne : ¬ sfx w a = ("" : Str) := fun z => by have := sfx_nil.mp z; omega
    have h6 : (sfx w a).length <= 1000000 := by rw [CW]; omega
    have h1 : ixP (au R) (.int 1) = some (.lst (R.pairs.map .str)) := at1 _ _ _
    have hi := pZ (ctU w a 2) R.pairs
    have c2 : cL (sfx w a) none (some 2) = ctU w a 2 := Aw w a 2
    have hu' : us.length < 1000000 := by omega
    have hb : fW [some (au R), some (.str (sfx w a)), some (.lst (us.map .str)), none] = some (.nx [some (au R), some (.str (sfx w (a + szU R w a))), some (.lst ((us ++ [ctU w a (szU R w a)]).map .str)), some (.int (szU R w a : Nat))]) := by
     by_cases hm : ctU w a 2 ∈ R.pairs
     ·have hz : szU R w a = 2 := if_pos hm
      have d1 : cL (sfx w a) (some 2) none = sfx w (a + 2) := Ax w a 2
      rw [hz]
      rw [decide_eq_true hm] at hi
      generalize au R = RP at *
      generalize sfx w a = X at *
      simp [fW, -ixP, h6, h1, c2, hi, hu', d1]
     ·have hz : szU R w a = 1 := if_neg hm
      have d1 : cL (sfx w a) (some 1) none = sfx w (a + 1) := Ax w a 1
      have d2 : cL (sfx w a) none (some 1) = ctU w a 1 := Aw w a 1
      rw [hz]
      rw [decide_eq_false hm] at hi
      generalize au R = RP at *
      generalize sfx w a = X at *
      simp [fW, -ixP, h6, h1, c2, hi, hu', d1, d2]
    rw [wk (by generalize au R = RP at *; generalize sfx w a = X at *; simp [fX, hne]) hb]
    have := ih (a + szU R w a) (us ++ [ctU w a (szU R w a)]) N hsz (by omega) (by omega) (by simp; omega)
    have e : un R w (n + 1) a = ctU w a (szU R w a) :: un R w n (a + szU R w a) := by
     rw [un, if_pos h]
    rw [e]
    rw [List.append_assoc, List.singleton_append] at this
    exact this
   ·have e : a = w.length := by omega
    have e2 : un R w (n + 1) a = [] := by rw [un, if_neg h]
    have hz : sfx w w.length = ("" : Str) := sfx_nil.mpr (Nat.le_refl _)
    rw [e2, e, pC (by generalize au R = RP; simp [fX, hz])]
    simp
 have l0 := loop 24 0 [] 1000000 (by omega) (by omega) (by omega) (by simp)
 rw [R1] at l0
 have s1 : aK 2 (b7 aC) [some (au R), some (.str w), none, none] = some (.nx [some (au R), some (.str w), some (.lst []), none]) := by
  generalize au R = RP
  simp
 have s2 : qM 1000000 fX [3] fW [some (au R), some (.str w), some (.lst []), none] = some (.nx [some (au R), some (.str (sfx w w.length)), some (.lst ((un R w 24 0).map .str)), none]) := by
  rw [xX]
  exact l0
 have hb : lL [some (au R), some (.str w), none, none] = some (.rt (.lst ((un R w 24 0).map .str))) := by
  unfold lL
  rw [aF s1, aF s2]
  generalize au R = RP
  simp
 unfold ig
 generalize lL = B at *
 generalize au R = RP at *
 simp [hb]
theorem Jb {w : Str} {u : Str} (h : u ∈ un R w 24 0) : (if u.length = 2 then true else decide (u ∈ R.carriers)) = gk R u := by
 rcases j7 G 24 0 u h with z | ⟨c, z⟩
 ·obtain ⟨k1, k2⟩ := p6 G z
  rw [if_pos k2, k1]
 ·have k2 : ¬ u.length = 2 := by rw [z]; show ¬ (1 = 2); decide
  rw [if_neg k2, z]
  rfl
theorem Jc {w : Str} {v : Str} (h : v ∈ un R w 24 0) {x : PV} {acc : List Str} (ha : acc.length < 900) :
  turn (gN 3) [3] gf (.str v) [some (au R), some x, some (.lst (acc.map .str)), none] = some [some (au R), some x, some (.lst ((if gk R v = true then [v] else acc ++ [v]).map .str)), none] := by
 have hk := Jb G h
 have h0 : ixP (au R) (.int 0) = some (.lst (R.carriers.map .str)) := at0 _ _
 have hi := pZ v R.carriers
 have hl : v.length <= 1000000 := by
  rcases j7 G 24 0 v h with z | ⟨c, z⟩
  ·have := (p6 G z).2; omega
  ·rw [z]; show 1 <= 1000000; decide
 have ha' : acc.length < 1000000 := by omega
 generalize au R = RP at *
 by_cases h2 : v.length = 2
 ·rw [if_pos h2] at hk
  rw [← hk, if_pos rfl]
  simp [cz, gf, -ixP, h2]
 ·rw [if_neg h2] at hk
  have h2' : ¬ ((v.length : Int) = 2) := by omega
  by_cases h3 : v ∈ R.carriers
  ·rw [decide_eq_true h3] at hk hi
   rw [← hk, if_pos rfl]
   simp [cz, gf, -ixP, hl, h2, h2', h0, hi]
  ·rw [decide_eq_false h3] at hk hi
   rw [← hk, if_neg (by decide)]
   simp [cz, gf, -ixP, hl, h2, h2', h0, hi, ha']
theorem CZ {w : Str} (hl : w.length <= 24) {pre post : List Str} {u : Str} (e : un R w 24 0 = pre ++ u :: post) (h1 : gk R u = true) (h2 : ∀ y ∈ post, gk R y = false) : cg [au R, .str w] = some (.lst ((u :: post).map .str)) := by
 have hu := GX G hl
 have hlu : (un R w 24 0).length <= 24 := by
  have gen : ∀ n a, (un R w n a).length <= n := by
   intro n
   induction n with
   | zero => intro a; simp [un]
   | succ n ih =>
    intro a
    unfold un
    split
    ·simp; exact ih _
    ·simp
  exact gen 24 0
 have hf := j6 (g := gN 3) (ds := [3]) (body := gf) PV.str (fun acc : List Str => [some (au R), some (.str w), some (.lst (acc.map .str)), none]) (fun acc v => if gk R v = true then [v] else acc ++ [v]) List.length (fun _ => 1) 800 (fun _ => True) (un R w 24 0) [] trivial
  (by rw [oh]; simp; omega) fun v hv acc _ ha => ⟨by split <;> simp, trivial, Jc G hv (by omega)⟩
 have hfold : ∀ (l acc : List Str), (∀ y ∈ l, gk R y = false) -> l.foldl (fun acc v => if gk R v = true then [v] else acc ++ [v]) acc = acc ++ l := by
  intro l
  induction l with
  | nil => intro acc _; simp
  | cons v l ih =>
   intro acc hv
   rw [List.foldl_cons, if_neg (by rw [hv v (by simp)]; decide), ih _ fun y hy => hv y (List.mem_cons_of_mem _ hy)]
   simp
 have hend : (un R w 24 0).foldl (fun acc v => if gk R v = true then [v] else acc ++ [v]) [] = u :: post := by
  rw [e, List.foldl_append, List.foldl_cons, if_pos h1, hfold _ _ h2]
  rfl
 rw [hend] at hf
 simp only [List.map_nil] at hf
 have hb : oH [some (au R), some (.str w), none, none] = some (.rt (.lst ((u :: post).map .str))) := by
  unfold oH
  generalize au R = RP at *
  generalize ig = mu at *
  generalize gf = BB at *
  generalize (u :: post).map PV.str = EP at *
  simp [hu, hf]
 unfold cg
 generalize oH = B at *
 generalize au R = RP at *
 generalize (u :: post).map PV.str = EP at *
 simp [hb]
end
end My
namespace My
open PySem L2 MR
structure Ts (R : Rc) (ts : List (Str × Str)) : Prop where
 al : ∀ x ∈ ts, tK R x.1 x.2
 lo : ∀ x ∈ ts, Low x.1 /\ Low x.2
 n : ts.length <= 12
theorem GZ {ts : List (Str × Str)} (hn : ts.length <= 12) (u : Str) (k : Int) : ∃ x, fY [.lst (ts.map tp), .str u, .int k] = some (.str x) /\ (x = u \/ (u, x) ∈ ts \/ (x, u) ∈ ts) := by
 have c1 := bW (env := [none, none, some (.str u)]) (g := gT [0, 1]) (t := iQ) (f := iM) tp (fun x => PV.str x.2) (fun x => decide (x.1 = u)) ts fun x _ => ⟨[some (.str x.1), some (.str x.2), some (.str u)], by simp [tp], by simp [iQ], fun _ => by simp [iM]⟩
 have c2 := bW (env := [none, none, some (.str u)]) (g := gT [0, 1]) (t := iT) (f := iR) tp (fun x => PV.str x.1) (fun x => decide (x.2 = u)) ts fun x _ => ⟨[some (.str x.1), some (.str x.2), some (.str u)], by simp [tp], by simp [iT], fun _ => by simp [iR]⟩
 obtain ⟨l, hl⟩ : ∃ l : List Str, l = u :: ((ts.filter fun x => decide (x.1 = u)).map (·.2) ++ (ts.filter fun x => decide (x.2 = u)).map (·.1)) := ⟨_, rfl⟩
 have hmem : ∀ x ∈ l, x = u \/ (u, x) ∈ ts \/ (x, u) ∈ ts := fun x hx => by
  rw [hl] at hx
  rcases List.mem_cons.mp hx with z | z
  ·exact .inl z
  ·rcases List.mem_append.mp z with y | y
   ·obtain ⟨q, hq, rfl⟩ := List.mem_map.mp y
    obtain ⟨h1, h2⟩ := List.mem_filter.mp hq
    have h2 : q.1 = u := of_decide_eq_true h2
    refine .inr (.inl ?_)
    rw [← h2]
    exact h1
   ·obtain ⟨q, hq, rfl⟩ := List.mem_map.mp y
    obtain ⟨h1, h2⟩ := List.mem_filter.mp hq
    have h2 : q.2 = u := of_decide_eq_true h2
    refine .inr (.inr ?_)
    rw [← h2]
    exact h1
 have hne : l ≠ [] := by rw [hl]; simp
 obtain ⟨p1, p2, p3, p4⟩ := mG hne k
 refine ⟨pick l (k % (l.length : Int)), ?_, hmem _ p2⟩
 have q1 : (ts.map tp).length <= 1000000 := by rw [List.length_map]; omega
 have l1 : ((ts.filter fun x => decide (x.1 = u)).map fun x => PV.str x.2).length <= 12 := by
  rw [List.length_map]; exact Nat.le_trans (List.length_filter_le _ _) hn
 have l2 : ((ts.filter fun x => decide (x.2 = u)).map fun x => PV.str x.1).length <= 12 := by
  rw [List.length_map]; exact Nat.le_trans (List.length_filter_le _ _) hn
 have hL : l.map PV.str = PV.str u :: (((ts.filter fun x => decide (x.1 = u)).map fun x => PV.str x.2) ++ ((ts.filter fun x => decide (x.2 = u)).map fun x => PV.str x.1)) := by
  rw [hl, List.map_cons, List.map_append, List.map_map, List.map_map]
  rfl
 have hll : (l.map PV.str).length = l.length := List.length_map _
 have s1 : aK 3 (b2 o6 (b2 o6 (b7 (ak (bV 1) aC)) (aV [none, none, some 1] (iV (bV 0)) (gT [0, 1]) iQ iM)) (aV [none, none, some 1] (iV (bV 0)) (gT [0, 1]) iT iR)) [some (.lst (ts.map tp)), some (.str u), some (.int k), none] = some (.nx [some (.lst (ts.map tp)), some (.str u), some (.int k), some (.lst (l.map .str))]) := by
  rw [hL]
  generalize ts.map tp = TP at *
  generalize ((ts.filter fun x => decide (x.1 = u)).map fun x => PV.str x.2) = A1 at *
  generalize ((ts.filter fun x => decide (x.2 = u)).map fun x => PV.str x.1) = A2 at *
  have a1 : 1 + A1.length <= 1000000 := by omega
  have a2 : 1 + A1.length + A2.length <= 1000000 := by omega
  have a3 : A1.length + 1 <= 1000000 := by omega
  have a4 : A1.length + 1 + A2.length <= 1000000 := by omega
  simp [-za, q1, c1, c2, a1, a2, a3, a4]
 have s2 : aQ (b2 ixP (bV 3) (b2 b8 (bV 2) (b1 lenV (bV 3)))) [some (.lst (ts.map tp)), some (.str u), some (.int k), some (.lst (l.map .str))] = some (.rt (.str (pick l (k % (l.length : Int))))) := by
  have l3 : lenV (.lst (l.map PV.str)) = some (.int (l.length : Nat)) := by simp
  generalize ts.map tp = TP at *
  generalize l.map PV.str = LP at *
  generalize pick l (k % (l.length : Int)) = PK at *
  simp [-lenV, l3, p1, p3, p4]
 have hb : jX [some (.lst (ts.map tp)), some (.str u), some (.int k), none] = some (.rt (.str (pick l (k % (l.length : Int))))) := by
  unfold jX
  rw [aF s1, s2]
 unfold fY
 generalize jX = B at *
 generalize ts.map tp = TP at *
 simp [hb]
section
variable {R : Rc} (G : R.Good)
include G
theorem Ay {x : Str} (h : x ∈ R.carriers ++ R.pairs) : ∃ s ∈ x.cps.toList, (⟨#[s]⟩ : Str) ∈ R.carriers := by
 have one : ∀ a ∈ R.carriers, ∃ s, a = ⟨#[s]⟩ := fun a ha => by
  rw [G.car] at ha
  obtain ⟨i, _, e⟩ := List.mem_map.mp ha
  exact ⟨_, e.symm⟩
 rcases List.mem_append.mp h with z | z
 ·obtain ⟨s, e⟩ := one x z
  refine ⟨s, by rw [e]; simp, ?_⟩
  rw [← e]; exact z
 ·obtain ⟨a, ha, b, hb, e⟩ := G.prs x z
  obtain ⟨s, es⟩ := one a ha
  refine ⟨s, ?_, by rw [← es]; exact ha⟩
  rw [e, es, Str.cps_append]
  simp
theorem Az {w u : Str} (h : u ∈ un R w 24 0) (hc : gk R u = true) : u ∈ R.carriers ++ R.pairs := by
 rcases j7 G 24 0 u h with z | ⟨c, z⟩
 ·exact List.mem_append_right _ z
 ·refine List.mem_append_left _ ?_
  have : rF u = u := by rw [z]; rfl
  have := of_decide_eq_true hc
  rw [show rF u = u by rw [z]; rfl] at this
  exact this
end
def G3 (R : Rc) : Prop := ∀ a, StopW R a -> a ∉ R.carriers ++ R.pairs
theorem A_ {R : Rc} (hS : G3 R) {a b : Str} (h : tK R a b) : (a ∈ R.carriers ++ R.pairs -> b ∈ R.carriers ++ R.pairs) /\ (b ∈ R.carriers ++ R.pairs -> a ∈ R.carriers ++ R.pairs) := by
 rcases h with ⟨h1, h2⟩ | ⟨h1, h2⟩
 ·exact ⟨fun _ => h2, fun _ => h1⟩
 ·exact ⟨fun z => absurd z (hS a h1), fun z => absurd z (hS b h2)⟩
end My
namespace My
open PySem L2 MR
theorem vA {α S : Type} {g : PV -> MR.Env -> Option MR.Env} {ds : List Nat} {body : MR.Env -> Option Out} (c : α -> PV) (E : S -> MR.Env) (I : List α -> S -> Prop) (hh : ∀ y ys s, I (y :: ys) s -> ∃ s', I ys s' /\ turn g ds body (c y) (E s) = some (E s')) : ∀ (ys : List α) (s : S), I ys s ->
  ∃ s', I [] s' /\ bF g ds body (ys.map c) (E s) = some (.nx (E s'))
 | [], s, i => ⟨s, i, rfl⟩
 | y :: ys, s, i => by
  obtain ⟨s1, i1, h1⟩ := hh y ys s i
  obtain ⟨s2, i2, h2⟩ := vA c E I hh ys s1 i1
  exact ⟨s2, i2, by rw [List.map_cons, fB h1, h2]⟩
section
variable {R : Rc} (G : R.Good)
include G
theorem Lg : G3 R := fun a h hm => by
 obtain ⟨i, hi, e⟩ := h
 have m1 := G.m1; have m7 := G.m7
 rcases List.mem_append.mp hm with z | z
 ·rw [G.car] at z
  obtain ⟨j, hj, ej⟩ := List.mem_map.mp z
  have hj := List.mem_range.mp hj
  rw [e] at ej
  have := rA (c := R.base) (j := (j : Nat)) (k := (R.many : Int) + (i : Nat)) (by omega) (by omega) (by omega) (by omega) ej
  omega
 ·have h2 := rE G z
  rw [e] at h2
  have : (letter R.base ((R.many : Int) + (i : Nat))).length = 1 := rfl
  omega
def HasC (R : Rc) (x : Str) : Prop := ∃ s ∈ x.cps.toList, (⟨#[s]⟩ : Str) ∈ R.carriers
omit G in
theorem HasC.left {a b : Str} (h : HasC R a) : HasC R (a ++ b) := by
 obtain ⟨s, h1, h2⟩ := h
 exact ⟨s, by rw [Str.cps_append, Array.toList_append]; exact List.mem_append_left _ h1, h2⟩
omit G in
theorem HasC.right {a b : Str} (h : HasC R b) : HasC R (a ++ b) := by
 obtain ⟨s, h1, h2⟩ := h
 exact ⟨s, by rw [Str.cps_append, Array.toList_append]; exact List.mem_append_right _ h1, h2⟩
theorem O4 {ts : List (Str × Str)} (T : Ts R ts) {w v x : Str} (hw : LowT w) (hv : v ∈ un R w 24 0) (h : x = v \/ (v, x) ∈ ts \/ (x, v) ∈ ts) : LowT x /\ x.length <= 4 /\ (gk R v = true -> HasC R x) := by
 have hS := Lg G
 rcases h with z | z | z
 ·subst z
  refine ⟨Eg G hw 24 0 x hv, ?_, fun hc => Ay G (Az G hv hc)⟩
  rcases j7 G 24 0 x hv with y | ⟨c, y⟩
  ·have := rE G y; omega
  ·rw [y]; show 1 <= 4; decide
 ·have l := (T.lo _ z).2
  exact ⟨l.t, l.l4, fun hc => Ay G ((A_ hS (T.al _ z)).1 (Az G hv hc))⟩
 ·have l := (T.lo _ z).1
  exact ⟨l.t, l.l4, fun hc => Ay G ((A_ hS (T.al _ z)).2 (Az G hv hc))⟩
theorem Jd (c : Int) : ∃ A : Str, LowT A /\ A.length <= 2 /\ ∃ c0 : Str, R.carriers.map PV.str = .str c0 :: (R.carriers.tail.map PV.str) /\ c0.length = 1 /\ atI [PV.str "", .str (letter R.base (R.many : Nat)), .str (c0 ++ letter R.base ((R.many : Int) + 1))] (c % 3) = some (.str A) := by
 have m1 := G.m1
 have lc : R.carriers.length = R.many := by rw [G.car]; simp
 obtain ⟨c0, r, hr⟩ : ∃ c0 r, R.carriers = c0 :: r := by
  cases q : R.carriers with
  | nil => rw [q] at lc; simp at lc; omega
  | cons a b => exact ⟨a, b, rfl⟩
 have h0 : c0 ∈ R.carriers := by rw [hr]; simp
 have l0 : LowT c0 := (G.lo.c c0 h0).t
 have n0 : c0.length = 1 := by
  rw [G.car] at h0
  obtain ⟨i, _, e⟩ := List.mem_map.mp h0
  rw [← e]; rfl
 have hl : ∀ k, LowT (letter R.base k) := fun k => (nH _ _).t
 have hc : R.carriers.map PV.str = .str c0 :: (R.carriers.tail.map PV.str) := by rw [hr]; rfl
 have e0 : ("" : Str).length = 0 := by decide +kernel
 rcases (show c % 3 = 0 \/ c % 3 = 1 \/ c % 3 = 2 by omega) with h | h | h
 ·exact ⟨"", vy, by omega, c0, hc, n0, by rw [h]; exact at0 _ _⟩
 ·exact ⟨letter R.base (R.many : Nat), hl _, by show 1 <= 2; decide, c0, hc, n0, by rw [h]; exact at1 _ _ _⟩
 ·exact ⟨c0 ++ letter R.base ((R.many : Int) + 1), l0.app (hl _), by rw [dR, n0]; show 1 + 1 <= 2; decide, c0, hc, n0, by rw [h]; exact at2 _ _ _ _⟩
end
end My
namespace My
open PySem L2 MR
section
variable {R : Rc} (G : R.Good)
include G
theorem Lh {ts : List (Str × Str)} (T : Ts R ts) {w : Str} (W : WordR R w) (c : Int) : ∃ w', fH [au R, .lst (ts.map tp), .str w, .int c] = some (.str w') /\ WordR R w' := by
 obtain ⟨pre, u, post, e, h1, h2⟩ := uG (vz G W)
 have hE := CZ G W.l e h1 h2
 have hsub : ∀ v ∈ u :: post, v ∈ un R w 24 0 := fun v hv => by rw [e]; exact List.mem_append_right _ hv
 have hlu : (un R w 24 0).length <= 24 := by
  have gen : ∀ n a, (un R w n a).length <= n := by
   intro n
   induction n with
   | zero => intro a; simp [un]
   | succ n ih =>
    intro a
    unfold un
    split
    ·simp; exact ih _
    ·simp
  exact gen 24 0
 have hln : (u :: post).length <= 24 := by rw [e] at hlu; simp at hlu ⊢; omega
 obtain ⟨A, hA, lA, c0, hc0, n0, hat⟩ := Jd G c
 have lc : R.carriers.length = R.many := by rw [G.car]; simp
 have r0 : ixP (au R) (.int 0) = some (.lst (R.carriers.map .str)) := at0 _ _
 have r7 : ixP (au R) (.int 7) = some (.int R.base) := rfl
 generalize hN : (u :: post).length = n at *
 obtain ⟨F, ⟨i1, i2, i3, i4⟩, lp⟩ := vA (g := gN 7) (ds := [7]) (body := kE) (fun k : Nat => PV.int (k : Nat))
  (fun F : Str => [some (au R), some (.lst (ts.map tp)), some (.str w), some (.int c), some (.lst ((u :: post).map .str)), some (.lst [PV.str "", .str (letter R.base (R.many : Nat)), .str (c0 ++ letter R.base ((R.many : Int) + 1))]), some (.str F), none])
  (fun r F => (∃ d, List.range n = d ++ r) /\ LowT F /\ F.length + 4 * r.length <= 2 + 4 * n /\ (r.length < n -> HasC R F))
  (fun k r F ⟨⟨d, i1⟩, i2, i3, i4⟩ => by
   simp only [List.length_cons] at i3 i4
   have hk : k < n := List.mem_range.mp (by rw [i1]; simp)
   have hkd : k = d.length := by
    have h := congrArg (fun l => l[d.length]?) i1
    simp only [List.getElem?_append_right (Nat.le_refl _), Nat.sub_self, List.getElem?_cons_zero] at h
    rw [List.getElem?_range] at h
    ·exact (Option.some.inj h).symm
    ·have := congrArg List.length i1; simp at this; omega
   have hrl : d.length + (r.length + 1) = n := by have := congrArg List.length i1; simp at this; omega
   obtain ⟨v, hv⟩ : ∃ v, (u :: post)[k]? = some v := ⟨_, List.getElem?_eq_getElem (by omega)⟩
   have hvm : v ∈ u :: post := List.mem_of_getElem? hv
   obtain ⟨x, hx, hxo⟩ := GZ T.n v (mx (c / 3) k)
   obtain ⟨p1, p2, p3⟩ := O4 G T W.t (hsub v hvm) hxo
   refine ⟨F ++ x, ⟨⟨d ++ [k], by rw [i1]; simp⟩, i2.app p1, by rw [dR]; omega, fun _ => ?_⟩, ?_⟩
   ·by_cases hz : k = 0
    ·subst hz
     have : v = u := by simpa using hv.symm
     rw [this] at p3
     exact (p3 h1).right
    ·exact (i4 (by omega)).left
   ·have hmx := qR (c / 3) (k := k) (by omega)
    have hxi : ixP (.lst ((u :: post).map PV.str)) (.int (k : Nat)) = some (.str v) := by
     show atI ((u :: post).map PV.str) (k : Int) = _
     exact cu (by rw [List.getElem?_map, hv]; rfl)
    have hfl : F.length + x.length <= 1000000 := by omega
    unfold kE
    generalize fY = m1 at *
    generalize cG = m2 at *
    generalize au R = RP at *
    generalize (u :: post).map PV.str = EP at *
    generalize ts.map tp = TP at *
    generalize ([PV.str "", .str (letter R.base (R.many : Nat)), .str (c0 ++ letter R.base ((R.many : Int) + 1))] : List PV) = AP at *
    simp [cz, -ixP, hxi, hmx, hx, hfl])
  (List.range n) A ⟨⟨[], rfl⟩, hA, by simp; omega, fun z => absurd z (by simp)⟩
 have i4' := i4 (by rw [← hN]; simp)
 simp only [List.length_nil, Nat.mul_zero, Nat.add_zero] at i3
 have s1 : aK 4 (aL cg (ak (bV 0) (ak (bV 2) aC))) [some (au R), some (.lst (ts.map tp)), some (.str w), some (.int c), none, none, none, none] = some (.nx [some (au R), some (.lst (ts.map tp)), some (.str w), some (.int c), some (.lst ((u :: post).map .str)), none, none, none]) := by
  generalize cg = m1 at *
  generalize au R = RP at *
  generalize (u :: post).map PV.str = EP at *
  generalize ts.map tp = TP at *
  simp [hE]
 have s2 : aK 5 (b7 (ak (bC (.str "")) (ak (aL bf (ak (b2 ixP (bV 0) (bC (.int 7))) (ak (b1 lenV (b2 ixP (bV 0) (bC (.int 0)))) aC))) (ak (b2 bR (b2 ixP (b2 ixP (bV 0) (bC (.int 0))) (bC (.int 0))) (aL bf (ak (b2 ixP (bV 0) (bC (.int 7))) (ak (b2 bR (b1 lenV (b2 ixP (bV 0) (bC (.int 0)))) (bC (.int 1))) aC)))) aC)))) [some (au R), some (.lst (ts.map tp)), some (.str w), some (.int c), some (.lst ((u :: post).map .str)), none, none, none] = some (.nx [some (au R), some (.lst (ts.map tp)), some (.str w), some (.int c), some (.lst ((u :: post).map .str)), some (.lst [PV.str "", .str (letter R.base (R.many : Nat)), .str (c0 ++ letter R.base ((R.many : Int) + 1))]), none, none]) := by
  have hl0 : lenV (.lst (R.carriers.map PV.str)) = some (.int (R.many : Nat)) := by simp [lc]
  have hc00 : ixP (.lst (R.carriers.map PV.str)) (.int 0) = some (.str c0) := by rw [hc0]; exact at0 _ _
  have m1 := pI R.base (R.many : Nat)
  have m2 := pI R.base ((R.many : Int) + 1)
  have hle : c0.length + (letter R.base ((R.many : Int) + 1)).length <= 1000000 := by rw [n0]; show 1 + 1 <= 1000000; decide
  generalize letter R.base (R.many : Nat) = L1 at *
  generalize letter R.base ((R.many : Int) + 1) = L2' at *
  generalize au R = RP at *
  generalize (u :: post).map PV.str = EP at *
  generalize ts.map tp = TP at *
  generalize bf = ml at *
  generalize R.carriers.map PV.str = CP at *
  simp [-ixP, -lenV, r0, r7, hl0, m1, m2, hc00, hle]
 have s3 : aK 6 (b2 ixP (bV 5) (b2 b8 (bV 3) (bC (.int 3)))) [some (au R), some (.lst (ts.map tp)), some (.str w), some (.int c), some (.lst ((u :: post).map .str)), some (.lst [PV.str "", .str (letter R.base (R.many : Nat)), .str (c0 ++ letter R.base ((R.many : Int) + 1))]), none, none] = some (.nx [some (au R), some (.lst (ts.map tp)), some (.str w), some (.int c), some (.lst ((u :: post).map .str)), some (.lst [PV.str "", .str (letter R.base (R.many : Nat)), .str (c0 ++ letter R.base ((R.many : Int) + 1))]), some (.str A), none]) := by
  generalize au R = RP at *
  generalize (u :: post).map PV.str = EP at *
  generalize ts.map tp = TP at *
  generalize ([PV.str "", .str (letter R.base (R.many : Nat)), .str (c0 ++ letter R.base ((R.many : Int) + 1))] : List PV) = AP at *
  simp [hat]
 have s4 : cN (gN 7) (iR1 (b1 lenV (bV 4))) [7] kE [some (au R), some (.lst (ts.map tp)), some (.str w), some (.int c), some (.lst ((u :: post).map .str)), some (.lst [PV.str "", .str (letter R.base (R.many : Nat)), .str (c0 ++ letter R.base ((R.many : Int) + 1))]), some (.str A), none] = some (.nx [some (au R), some (.lst (ts.map tp)), some (.str w), some (.int c), some (.lst ((u :: post).map .str)), some (.lst [PV.str "", .str (letter R.base (R.many : Nat)), .str (c0 ++ letter R.base ((R.many : Int) + 1))]), some (.str F), none]) := by
  have hle : lenV (.lst ((u :: post).map PV.str)) = some (.int (n : Nat)) := by simp [← hN]
  have hr : rgI (n : Int) = true := jN (by omega)
  rw [← cX] at lp
  generalize au R = RP at *
  generalize (u :: post).map PV.str = EP at *
  generalize ts.map tp = TP at *
  generalize ([PV.str "", .str (letter R.base (R.many : Nat)), .str (c0 ++ letter R.base ((R.many : Int) + 1))] : List PV) = AP at *
  simp [-lenV, hle, hr, lp]
 have hFl : F.length <= 1000000 := by omega
 by_cases hb : 24 < F.length
 ·refine ⟨w, ?_, W⟩
  have s5 : sIf (tV (b2 (gZ fun i j => decide (j < i)) (b1 lenV (bV 6)) (bC (.int 24)))) (aQ (bV 2)) sNx [some (au R), some (.lst (ts.map tp)), some (.str w), some (.int c), some (.lst ((u :: post).map .str)), some (.lst [PV.str "", .str (letter R.base (R.many : Nat)), .str (c0 ++ letter R.base ((R.many : Int) + 1))]), some (.str F), none] = some (.rt (.str w)) := by
   have hb' : (24 : Int) < (F.length : Int) := by omega
   generalize au R = RP at *
   generalize (u :: post).map PV.str = EP at *
   generalize ts.map tp = TP at *
   simp [hFl, hb, hb']
  have hb2 : gJ [some (au R), some (.lst (ts.map tp)), some (.str w), some (.int c), none, none, none, none] = some (.rt (.str w)) := by
   unfold gJ
   rw [aF s1, aF s2, aF s3, aF s4, uF s5]
  unfold fH
  generalize gJ = B at *
  generalize au R = RP at *
  generalize ts.map tp = TP at *
  simp [hb2]
 ·refine ⟨F, ?_, ⟨i2, by omega, i4'⟩⟩
  have s5 : sIf (tV (b2 (gZ fun i j => decide (j < i)) (b1 lenV (bV 6)) (bC (.int 24)))) (aQ (bV 2)) sNx [some (au R), some (.lst (ts.map tp)), some (.str w), some (.int c), some (.lst ((u :: post).map .str)), some (.lst [PV.str "", .str (letter R.base (R.many : Nat)), .str (c0 ++ letter R.base ((R.many : Int) + 1))]), some (.str F), none] = some (.nx [some (au R), some (.lst (ts.map tp)), some (.str w), some (.int c), some (.lst ((u :: post).map .str)), some (.lst [PV.str "", .str (letter R.base (R.many : Nat)), .str (c0 ++ letter R.base ((R.many : Int) + 1))]), some (.str F), none]) := by
   have hb' : ¬ (24 : Int) < (F.length : Int) := by omega
   generalize au R = RP at *
   generalize (u :: post).map PV.str = EP at *
   generalize ts.map tp = TP at *
   simp [hFl, hb, hb']
  have hb2 : gJ [some (au R), some (.lst (ts.map tp)), some (.str w), some (.int c), none, none, none, none] = some (.rt (.str F)) := by
   unfold gJ
   rw [aF s1, aF s2, aF s3, aF s4, aF s5]
   generalize au R = RP at *
   generalize (u :: post).map PV.str = EP at *
   generalize ts.map tp = TP at *
   simp
  unfold fH
  generalize gJ = B at *
  generalize au R = RP at *
  generalize ts.map tp = TP at *
  simp [hb2]
theorem G4 {ts : List (Str × Str)} (T : Ts R ts) (cs : List Int) (hcs : cs.length <= 100) : ∃ ws : List Str, (∀ w ∈ ws, WordR R w) /\ ws.length <= 100 /\ ik [au R, .lst (ts.map tp), .lst (cs.map .int)] = some (.lst (ws.map .str)) := by
 obtain ⟨ws, ⟨i1, i2⟩, lp⟩ := vA (g := gN 4) (ds := [4]) (body := iG) PV.int
  (fun ws : List Str => [some (au R), some (.lst (ts.map tp)), some (.lst (cs.map .int)), some (.lst (ws.map .str)), none])
  (fun r ws => (∀ w ∈ ws, WordR R w) /\ ws.length + r.length <= 100)
  (fun c r ws ⟨i1, i2⟩ => by
   simp only [List.length_cons] at i2
   have hlw : ws.length < 1000000 := by omega
   have hnil := uE (ws := ws) fun w hw => (i1 w hw).t.ok
   by_cases hq : 0 < c % 4 /\ ws ≠ []
   ·obtain ⟨q1, q2⟩ := hq
    obtain ⟨p1, p2, p3, p4⟩ := mG q2 (c / 4)
    obtain ⟨w', e1, e2⟩ := Lh G T (i1 _ p2) (c / 8)
    refine ⟨ws ++ [w'], ⟨fun w hw => ?_, by simp; omega⟩, ?_⟩
    ·rcases List.mem_append.mp hw with z | z
     ·exact i1 w z
     ·rw [List.mem_singleton] at z; rw [z]; exact e2
    ·have hl3 : lenV (.lst (ws.map PV.str)) = some (.int (ws.length : Nat)) := by simp
     rw [decide_eq_false q2] at hnil
     rw [List.map_append, List.map_singleton]
     have hlm : (ws.map PV.str).length < 1000000 := by rw [List.length_map]; exact hlw
     unfold iG
     generalize fH = m1 at *
     generalize fJ = m2 at *
     generalize au R = RP at *
     generalize ts.map tp = TP at *
     generalize cs.map PV.int = CP at *
     generalize ws.map PV.str = WP at *
     generalize pick ws (c / 4 % (ws.length : Int)) = PK at *
     simp [cz, -lenV, q1, hnil, hl3, p1, p3, p4, e1, hlm]
   ·obtain ⟨w', e1, e2⟩ := Lf G (c / 4)
    refine ⟨ws ++ [w'], ⟨fun w hw => ?_, by simp; omega⟩, ?_⟩
    ·rcases List.mem_append.mp hw with z | z
     ·exact i1 w z
     ·rw [List.mem_singleton] at z; rw [z]; exact e2
    ·rw [List.map_append, List.map_singleton]
     have hlm : (ws.map PV.str).length < 1000000 := by rw [List.length_map]; exact hlw
     unfold iG
     generalize fH = m1 at *
     generalize fJ = m2 at *
     generalize au R = RP at *
     generalize ts.map tp = TP at *
     generalize cs.map PV.int = CP at *
     by_cases q1 : 0 < c % 4
     ·have q2 : ws = [] := Classical.byContradiction fun z => hq ⟨q1, z⟩
      rw [decide_eq_true q2] at hnil
      generalize ws.map PV.str = WP at *
      simp [cz, q1, hnil, e1, hlm]
     ·generalize ws.map PV.str = WP at *
      simp [cz, q1, e1, hlm])
  cs [] ⟨(fun w hw => by cases hw), by simpa using hcs⟩
 refine ⟨ws, i1, by simpa using i2, ?_⟩
 have hb : lM [some (au R), some (.lst (ts.map tp)), some (.lst (cs.map .int)), none, none] = some (.rt (.lst (ws.map .str))) := by
  unfold lM
  simp only [List.map_nil] at lp
  generalize iG = BB at *
  generalize au R = RP at *
  generalize ts.map tp = TP at *
  generalize cs.map PV.int = CP at *
  generalize ws.map PV.str = WP at *
  simp [lp]
 unfold ik
 generalize lM = B at *
 generalize au R = RP at *
 generalize ts.map tp = TP at *
 generalize cs.map PV.int = CP at *
 generalize ws.map PV.str = WP at *
 simp [hb]
end
end My
namespace My
open PySem L2 MR
section
variable {R : Rc} (G : R.Good)
include G
theorem G5 (cs : List Int) (hcs : cs.length <= 12) : ∃ ts, Ts R ts /\ h_ [au R, .lst (cs.map .int)] = some (.lst (ts.map tp)) := by
 have Lo := G.lo
 have m1 := G.m1; have m7 := G.m7
 have lc : R.carriers.length = R.many := by rw [G.car]; simp
 have lp := G.l1
 obtain ⟨us, hus⟩ : ∃ us, us = R.carriers ++ R.pairs := ⟨_, rfl⟩
 have lus : us.length = R.many + R.pairs.length := by rw [hus]; simp [lc]
 obtain ⟨st, hst⟩ : ∃ st : List Str, st = (List.range 5).map fun k => letter R.base ((R.many : Int) + (k : Nat)) := ⟨_, rfl⟩
 have lst : st.length = 5 := by rw [hst]; simp
 have hS : ∀ w ∈ st, StopW R w := fun w hw => by
  rw [hst] at hw
  obtain ⟨k, hk, e⟩ := List.mem_map.mp hw
  have := List.mem_range.mp hk
  exact ⟨k, by omega, e.symm⟩
 have okU : ∀ w ∈ us, Low w := fun w hw => by
  rw [hus] at hw
  rcases List.mem_append.mp hw with h | h
  ·exact Lo.c w h
  ·exact Lo.p w h
 have okS : ∀ w ∈ st, Low w := fun w hw => by
  obtain ⟨i, _, e⟩ := hS w hw
  rw [e]; exact nH _ _
 let lo : Int -> List Str := fun c => if c % 2 = 0 then us else st
 let pr : Int -> Str × Str := fun c => (pick (lo c) (c / 2 % (lo c).length), pick (lo c) (c / 64 % (lo c).length))
 have hlo : ∀ c, 0 < ((lo c).length : Int) /\ (lo c = us \/ lo c = st) := fun c => by
  show 0 < ((if c % 2 = 0 then us else st).length : Int) /\ _
  by_cases h : c % 2 = 0
  ·rw [if_pos h]; exact ⟨by omega, .inl (if_pos h)⟩
  ·rw [if_neg h]; exact ⟨by omega, .inr (if_neg h)⟩
 have hpr : ∀ c, (pr c).1 ∈ lo c /\ (pr c).2 ∈ lo c := fun c =>
  ⟨jE (Int.emod_nonneg _ (by have := (hlo c).1; omega)) (Int.emod_lt_of_pos _ (hlo c).1), jE (Int.emod_nonneg _ (by have := (hlo c).1; omega)) (Int.emod_lt_of_pos _ (hlo c).1)⟩
 have hAl : ∀ c, tK R (pr c).1 (pr c).2 := fun c => by
  obtain ⟨h1, h2⟩ := hpr c
  rcases (hlo c).2 with h | h
  ·rw [h, hus] at h1 h2; exact .inl ⟨h1, h2⟩
  ·rw [h] at h1 h2; exact .inr ⟨hS _ h1, hS _ h2⟩
 have hLw : ∀ c, Low (pr c).1 /\ Low (pr c).2 := fun c => by
  obtain ⟨h1, h2⟩ := hpr c
  rcases (hlo c).2 with h | h
  ·rw [h] at h1 h2; exact ⟨okU _ h1, okU _ h2⟩
  ·rw [h] at h1 h2; exact ⟨okS _ h1, okS _ h2⟩
 refine ⟨cs.map pr, ⟨fun x hx => ?_, fun x hx => ?_, by simpa using hcs⟩, ?_⟩
 ·obtain ⟨c, _, e⟩ := List.mem_map.mp hx
  rw [← e]; exact hAl c
 ·obtain ⟨c, _, e⟩ := List.mem_map.mp hx
  rw [← e]; exact hLw c
 ·let U : PV := .lst (us.map .str)
  let V : PV := .lst (st.map .str)
  let C : PV := .lst (cs.map .int)
  have s1 : aK 2 (b2 bR (b2 ixP (bV 0) (bC (.int 0))) (b2 ixP (bV 0) (bC (.int 1)))) [some (au R), some C, none, none, none, none, none] = some (.nx [some (au R), some C, some U, none, none, none, none]) := by
   have : R.carriers.length + R.pairs.length <= 1000000 := by omega
   simp [au, bY, this, U, hus]
  have s2 : aK 3 (aV [none, some 0] (iR1 (bC (.int 5))) (gN 0) aY jW) [some (au R), some C, some U, none, none, none, none] = some (.nx [some (au R), some C, some U, some V, none, none, none]) := by
   have h := bw (env := [none, some (au R)]) (g := gN 0) (f := jW) (fun k : Nat => PV.int (k : Nat)) (fun k : Nat => .str (letter R.base ((R.many : Int) + (k : Nat)))) (List.range 5) fun k hk => ⟨_, rfl, by
    simp [jW, au, bY, lc, pI]⟩
   have r6 : rgI 5 = true := sO (by decide) (by decide)
   have q6 : (cW 0 5).length <= 1000000 := by decide
   have e6 : cW 0 5 = (List.range 5).map fun k => PV.int (k : Nat) := cX 5
   have hV : V = .lst ((List.range 5).map fun k : Nat => .str (letter R.base ((R.many : Int) + (k : Nat)))) := by
    show PV.lst (st.map .str) = _
    rw [hst, List.map_map]; rfl
   rw [hV]
   rw [← e6] at h
   simp only [Cj, q8, N_, vK, Option.bind_some]
   simp [r6, q6, h]
  have s3 : aK 4 (b7 aC) [some (au R), some C, some U, some V, none, none, none] = some (.nx [some (au R), some C, some U, some V, some (.lst []), none, none]) := by simp
  have s4 : cN (gN 5) (iV (bV 1)) [5, 6] fP [some (au R), some C, some U, some V, some (.lst []), none, none] = some (.nx [some (au R), some C, some U, some V, some (.lst ((cs.map pr).map tp)), none, none]) := by
   have hl := j6 (g := gN 5) (ds := [5, 6]) (body := fP) PV.int (fun u : List (Str × Str) => [some (au R), some C, some U, some V, some (.lst (u.map tp)), none, none]) (fun u c => u ++ [pr c]) List.length (fun _ => 1) 1000 (fun _ => True) cs [] trivial
    (by rw [oh]; simp; omega) fun c hc u _ hu => ⟨by simp, trivial, by
     have a1 : u.length < 1000000 := by omega
     obtain ⟨h0, hor⟩ := hlo c
     have p1 := ou (l := lo c) (i := c / 2 % (lo c).length) (Int.emod_nonneg _ (by omega)) (Int.emod_lt_of_pos _ h0)
     have p2 := ou (l := lo c) (i := c / 64 % (lo c).length) (Int.emod_nonneg _ (by omega)) (Int.emod_lt_of_pos _ h0)
     have x1 : atI [U, V] (c % 2) = some (.lst ((lo c).map .str)) := by
      show atI [U, V] (c % 2) = some (.lst ((if c % 2 = 0 then us else st).map .str))
      have : c % 2 = 0 \/ c % 2 = 1 := by omega
      rcases this with h | h <;> rw [h] <;> rfl
     have g1 : pr c = (pick (lo c) (c / 2 % (lo c).length), pick (lo c) (c / 64 % (lo c).length)) := rfl
     rw [g1]
     generalize lo c = l at p1 p2 x1 h0
     have h0' : 0 < l.length := by omega
     simp [cz, fP, x1, p1, p2, h0, h0', a1, tp]⟩
   have hfold : ∀ (l : List Int) (u : List (Str × Str)), l.foldl (fun u c => u ++ [pr c]) u = u ++ l.map pr := by
    intro l
    induction l with
    | nil => intro u; simp
    | cons c l ih => intro u; simp [ih]
   rw [hfold, List.nil_append] at hl
   simp only [List.map_nil] at hl
   show cN (gN 5) (iV (bV 1)) [5, 6] fP [some (au R), some (.lst (cs.map .int)), some U, some V, some (.lst []), none, none] = _
   have hl' : bF (gN 5) [5, 6] fP (cs.map PV.int) [some (au R), some (.lst (cs.map .int)), some U, some V, some (.lst []), none, none] = some (.nx [some (au R), some C, some U, some V, some (.lst ((cs.map pr).map tp)), none, none]) := hl
   generalize (cs.map pr).map tp = TT at *
   generalize au R = RP at *
   simp [hl']
  have hb : jK [some (au R), some C, none, none, none, none, none] = some (.rt (.lst ((cs.map pr).map tp))) := by
   unfold jK
   rw [aF s1, aF s2, aF s3, aF s4]
   generalize (cs.map pr).map tp = TT at *
   generalize au R = RP at *
   simp
  have hb' : jK [some (au R), some (.lst (cs.map .int)), none, none, none, none, none] = some (.rt (.lst ((cs.map pr).map tp))) := hb
  unfold h_
  generalize jK = B at *
  generalize (cs.map pr).map tp = TT at *
  generalize au R = RP at *
  simp [hb']
theorem Ei {ns : List Int} {rs : List (Str × List Str)} (hrs : ∀ x, x ∈ rs ↔ x ∈ e_ (cell ns 0) R) (hn : rs.length <= 100) (hrows : gH [au R, .int (cell ns 0)] = some (.lst ((rs.map txt).map .str))) {ts : List (Str × Str)} (T : Ts R ts) :
  ∃ cut, gB [.frz (ns.map PV.int), au R, .lst (ts.map tp)] = some (.obj 0 (aN cut)) /\ (∀ y, y ∈ aM cut ↔ y ∈ R.carriers) /\ (∀ y, y ∈ pairsOf cut ↔ y ∈ R.pairs) /\ ∀ a b, (a, b) ∈ likes cut ↔ (a, b) ∈ ts := by
 have T0 := tells_of G hrs hn
 let ar : Str × Str -> Str × List Str := fun x => (("alike" : Str), [x.1, x.2])
 obtain ⟨Z, hZ⟩ : ∃ Z, Z = rs ++ ts.map ar := ⟨_, rfl⟩
 have hts := T.n
 have lZ : Z.length <= 112 := by rw [hZ]; simp; omega
 have mem' : ∀ x, x ∈ Z ↔ x ∈ rs \/ ∃ y ∈ ts, x = (("alike" : Str), [y.1, y.2]) := fun x => by
  rw [hZ, List.mem_append, List.mem_map]
  constructor
  ·rintro (h | ⟨y, hy, e⟩)
   ·exact .inl h
   ·exact .inr ⟨y, hy, e.symm⟩
  ·rintro (h | ⟨y, hy, e⟩)
   ·exact .inl h
   ·exact .inr ⟨y, hy, e.symm⟩
 have T' := Ef G T0 T.al mem' (by omega)
 have hmade := made G T'
 have hlik : ∀ a b, (a, b) ∈ likes (dh Z) ↔ (a, b) ∈ ts := fun a b => by
  rw [IK G T', mem']
  constructor
  ·rintro (h | ⟨y, hy, e⟩)
   ·exact absurd h (IV hrs _)
   ·have e := (Prod.mk.inj e).2
    have e1 : a = y.1 /\ b = y.2 := by simpa using e
    rw [e1.1, e1.2]; exact hy
  ·intro h; exact .inr ⟨(a, b), h, rfl⟩
 refine ⟨dh Z, ?_, pJ G T', Ao G T', hlik⟩
 have hcell := Cz ns 0
 have hcm : bJ [none, none] (gT [0, 1]) aY jC (ts.map tp) = some (ts.map fun x => .str (txt (ar x))) :=
  bw (env := [none, none]) (g := gT [0, 1]) (f := jC) tp (fun x => .str (txt (ar x))) ts fun x hx => ⟨[some (.str x.1), some (.str x.2)], rfl, by
   have l1 := (T.lo x hx).1.l4
   have l2 := (T.lo x hx).2.l4
   have h6 : (Str.ofString "alike ").length = 6 := by decide +kernel
   have h1 : (Str.ofString " ").length = 1 := by decide +kernel
   have a1 : (Str.ofString "alike ").length + x.1.length <= 1000000 := by omega
   have a2 : (Str.ofString "alike " ++ x.1).length + (Str.ofString " ").length <= 1000000 := by rw [dR]; omega
   have a3 : (Str.ofString "alike " ++ x.1 ++ Str.ofString " ").length + x.2.length <= 1000000 := by rw [dR, dR]; omega
   have e := GR x.1 x.2
   simp [jC, a1, a2, a3]
   exact e⟩
 have hK : (Z.map txt).map PV.str = (rs.map txt).map .str ++ ts.map fun x => .str (txt (ar x)) := by
  rw [hZ]; simp
 rw [hK] at hmade
 have q1 : (ts.map tp).length <= 1000000 := by rw [List.length_map]; omega
 have q2 : ((rs.map txt).map PV.str).length + (ts.map fun x => PV.str (txt (ar x))).length <= 1000000 := by simp; omega
 have h0 : cA [.frz (ns.map PV.int), .int 0] = some (.int (cell ns 0)) := hcell
 have hb : km [some (.frz (ns.map PV.int)), some (au R), some (.lst (ts.map tp)), none] = some (.rt (.obj 0 (aN (dh Z)))) := by
  unfold km
  generalize (rs.map txt).map PV.str = RT at *
  generalize (ts.map fun x => PV.str (txt (ar x))) = TT at *
  generalize ts.map tp = TP at *
  generalize au R = RP at *
  generalize PV.frz (ns.map PV.int) = SP at *
  generalize aN (dh Z) = TF at *
  generalize cO = mi0 at *
  generalize gH = mr at *
  generalize cA = mc at *
  simp [-za, h0, hrows, hcm, q1, q2, hmade]
 unfold gB
 generalize km = B at *
 generalize ts.map tp = TP at *
 generalize au R = RP at *
 generalize PV.frz (ns.map PV.int) = SP at *
 simp [hb]
end
end My
namespace My
open PySem L2 MR
def alB (ts : List (Str × Str)) (a b : Str) : Bool := decide (a = b \/ (a, b) ∈ ts \/ (b, a) ∈ ts)
theorem Je (ts : List (Str × Str)) (a b : Str) : alB ts a b = alB ts b a := by
 unfold alB
 refine decide_eq_decide.mpr ⟨fun h => ?_, fun h => ?_⟩ <;>
 ·rcases h with h | h | h
  ·exact .inl h.symm
  ·exact .inr (.inr h)
  ·exact .inr (.inl h)
theorem Jf (ts : List (Str × Str)) (a : Str) : alB ts a a = true := decide_eq_true (.inl rfl)
def rhB (ts : List (Str × Str)) (e1 e2 : List Str) : Bool := decide (e1.length = e2.length) && (e1.zip e2).all fun z => alB ts z.1 z.2
theorem tW (ts : List (Str × Str)) : ∀ e1 e2 : List Str, ((e1.zip e2).all fun z => alB ts z.1 z.2) = ((e2.zip e1).all fun z => alB ts z.1 z.2)
 | [], e2 => by cases e2 <;> rfl
 | a :: e1, [] => rfl
 | a :: e1, b :: e2 => by
  have ih := tW ts e1 e2
  simp only [List.zip_cons_cons, List.all_cons, ih, Je ts a b]
theorem Jg (ts : List (Str × Str)) (e1 e2 : List Str) : rhB ts e1 e2 = rhB ts e2 e1 := by
 unfold rhB
 rw [tW]
 congr 1
 exact decide_eq_decide.mpr ⟨fun h => h.symm, fun h => h.symm⟩
theorem Jh (ts : List (Str × Str)) (e : List Str) : rhB ts e e = true := by
 unfold rhB
 rw [decide_eq_true rfl, Bool.true_and]
 induction e with
 | nil => rfl
 | cons a e ih => rw [List.zip_cons_cons, List.all_cons, Jf, ih]; rfl
def O5 (R : Rc) (us : List Str) : List Str := us.foldl (fun acc v => if gk R v = true then [v] else acc ++ [v]) []
def endL (R : Rc) (w : Str) : List Str := O5 R (un R w 24 0)
theorem C_ {R : Rc} {w : Str} {pre post : List Str} {u : Str} (e : un R w 24 0 = pre ++ u :: post) (h1 : gk R u = true) (h2 : ∀ y ∈ post, gk R y = false) : endL R w = u :: post := by
 have hfold : ∀ (l acc : List Str), (∀ y ∈ l, gk R y = false) -> l.foldl (fun acc v => if gk R v = true then [v] else acc ++ [v]) acc = acc ++ l := by
  intro l
  induction l with
  | nil => intro acc _; simp
  | cons v l ih =>
   intro acc hv
   rw [List.foldl_cons, if_neg (by rw [hv v (by simp)]; decide), ih _ fun y hy => hv y (List.mem_cons_of_mem _ hy)]
   simp
 unfold endL O5
 rw [e, List.foldl_append, List.foldl_cons, if_pos h1, hfold _ _ h2]
 rfl
section
variable {R : Rc} (G : R.Good) {cut : List (List Str)} (hc : ∀ y, y ∈ aM cut ↔ y ∈ R.carriers) (hp : ∀ y, y ∈ pairsOf cut ↔ y ∈ R.pairs)
include G
theorem zf {w : Str} (W : WordR R w) : cg [au R, .str w] = some (.lst ((endL R w).map .str)) /\ (∀ v ∈ endL R w, PyData.strOk v = true) /\ (endL R w).length <= 24 := by
 obtain ⟨pre, u, post, e, h1, h2⟩ := uG (vz G W)
 have hlu : (un R w 24 0).length <= 24 := by
  have gen : ∀ n a, (un R w n a).length <= n := by
   intro n
   induction n with
   | zero => intro a; simp [un]
   | succ n ih =>
    intro a
    unfold un
    split
    ·simp; exact ih _
    ·simp
  exact gen 24 0
 rw [C_ e h1 h2]
 refine ⟨CZ G W.l e h1 h2, fun v hv => (Eg G W.t 24 0 v (by rw [e]; exact List.mem_append_right _ hv)).ok, ?_⟩
 rw [e] at hlu
 simp at hlu ⊢
 omega
include hc hp
theorem QS {w : Str} (W : WordR R w) : gw [.obj 0 (aN cut), .str w] = some (.lst ((endL R w).map .str)) := by
 obtain ⟨pre, u, post, e, h1, h2, h⟩ := O2 G hc hp W
 rw [C_ e h1 h2]
 exact h
omit G hc hp in
theorem tX : ∀ e1 e2 : List Str, vd (e1.map .str) (e2.map .str) = (e1.zip e2).map fun z => PV.tup [.str z.1, .str z.2]
 | [], e2 => by cases e2 <;> rfl
 | a :: e1, [] => rfl
 | a :: e1, b :: e2 => by
  have ih := tX e1 e2
  unfold vd at ih ⊢
  simp only [List.map_cons, List.zipWith_cons_cons, List.zip_cons_cons, ih]
omit G hc hp in
theorem QT {ts : List (Str × Str)} (hl : ∀ a b, (a, b) ∈ likes cut ↔ (a, b) ∈ ts) {e1 e2 : List Str} (la : e1.length <= 24) (lb : e2.length <= 24) : dm [.obj 0 (aN cut), .lst (e1.map .str), .lst (e2.map .str)] = some (.bl (rhB ts e1 e2)) := by
 have hcm := bw (env := [none, none, some (.obj 0 (aN cut))]) (g := gT [0, 1]) (f := iH) (fun z : Str × Str => PV.tup [.str z.1, .str z.2]) (fun z => PV.bl (alB ts z.1 z.2)) (e1.zip e2) fun z _ => ⟨[some (.str z.1), some (.str z.2), some (.obj 0 (aN cut))], by simp, by
  have := GP hl z.1 z.2
  unfold alB
  simp [iH, GQ, this]⟩
 rw [← tX] at hcm
 have hbm : bools ((e1.zip e2).map fun z => PV.bl (alB ts z.1 z.2)) = some ((e1.zip e2).map fun z => alB ts z.1 z.2) := by
  generalize e1.zip e2 = l
  induction l with
  | nil => rfl
  | cons a l ih => simp [ih]
 have hall : (((e1.zip e2).map fun z => alB ts z.1 z.2).all id) = (e1.zip e2).all fun z => alB ts z.1 z.2 := by rw [List.all_map]; rfl
 have hzl : (vd (e1.map .str) (e2.map .str)).length <= 1000000 := by rw [tX, List.length_map, List.length_zip]; omega
 have l1 : lenV (.lst (e1.map PV.str)) = some (.int (e1.length : Nat)) := by simp
 have l2 : lenV (.lst (e2.map PV.str)) = some (.int (e2.length : Nat)) := by simp
 unfold dm rN rhB
 by_cases h : e1.length = e2.length
 ·have h' : ((e1.length : Int) = (e2.length : Int)) := by omega
  rw [decide_eq_true h, Bool.true_and, ← hall]
  generalize aN cut = TF at *
  generalize e1.map PV.str = E1 at *
  generalize e2.map PV.str = E2 at *
  generalize ((e1.zip e2).map fun z => PV.bl (alB ts z.1 z.2)) = BL at *
  generalize ((e1.zip e2).map fun z => alB ts z.1 z.2) = BB at *
  have w2 : aV [none, none, some 0] (iZ (bV 1) (bV 2)) (gT [0, 1]) aY iH [some (.obj 0 TF), some (.lst E1), some (.lst E2)] = some (.lst BL) := by
   simp [-za, hzl, hcm]
  generalize aV [none, none, some 0] (iZ (bV 1) (bV 2)) (gT [0, 1]) aY iH = BC at *
  simp [-lenV, l1, l2, h, h', w2, hbm]
 ·have h' : ¬ ((e1.length : Int) = (e2.length : Int)) := by omega
  rw [decide_eq_false h, Bool.false_and]
  generalize aN cut = TF at *
  generalize e1.map PV.str = E1 at *
  generalize e2.map PV.str = E2 at *
  simp [-lenV, l1, l2, h, h']
theorem Dc {ts : List (Str × Str)} (tsO : ∀ x ∈ ts, PyData.strOk x.1 = true /\ PyData.strOk x.2 = true) {e1 e2 : List Str} (o1 : ∀ v ∈ e1, PyData.strOk v = true) (o2 : ∀ v ∈ e2, PyData.strOk v = true) {x0 x2 x3 : PV} :
  ∀ ks : List Nat, (∀ k ∈ ks, k < e1.length /\ k < e2.length) ->
   bF (gN 6) [6] cZ (ks.map fun k => PV.int (k : Nat)) [some x0, some (.lst (ts.map tp)), some x2, some x3, some (.lst (e1.map .str)), some (.lst (e2.map .str)), none] =
    some (if ks.all (fun k => alB ts (e1.getD k "") (e2.getD k "")) = true then .nx [some x0, some (.lst (ts.map tp)), some x2, some x3, some (.lst (e1.map .str)), some (.lst (e2.map .str)), none] else .rt (.bl false))
 | [], _ => rfl
 | k :: ks, h => by
  have ih := Dc (x0 := x0) (x2 := x2) (x3 := x3) tsO o1 o2 ks fun j hj => h j (List.mem_cons_of_mem _ hj)
  obtain ⟨k1, k2⟩ := h k (by simp)
  have g1 : e1[k]? = some (e1.getD k "") := by rw [List.getD_eq_getElem?_getD, List.getElem?_eq_getElem k1]; rfl
  have g2 : e2[k]? = some (e2.getD k "") := by rw [List.getD_eq_getElem?_getD, List.getElem?_eq_getElem k2]; rfl
  have x1 : ixP (.lst (e1.map PV.str)) (.int (k : Nat)) = some (.str (e1.getD k "")) := by
   show atI (e1.map PV.str) (k : Int) = _
   exact cu (by rw [List.getElem?_map, g1]; rfl)
  have x2' : ixP (.lst (e2.map PV.str)) (.int (k : Nat)) = some (.str (e2.getD k "")) := by
   show atI (e2.map PV.str) (k : Int) = _
   exact cu (by rw [List.getElem?_map, g2]; rfl)
  have m1 := List.mem_of_getElem? g1
  have m2 := List.mem_of_getElem? g2
  rw [List.map_cons, List.all_cons]
  generalize e1.getD k "" = a at *
  generalize e2.getD k "" = b at *
  have i1 := GK tsO (o1 a m1) (o2 b m2)
  have i2 := GK tsO (o2 b m2) (o1 a m1)
  generalize e1.map PV.str = E1 at *
  generalize e2.map PV.str = E2 at *
  generalize ts.map tp = TP at *
  by_cases q : alB ts a b = true
  ·rw [q, Bool.true_and, ← ih]
   have q' := of_decide_eq_true q
   have hb : cZ [some x0, some (.lst TP), some x2, some x3, some (.lst E1), some (.lst E2), some (.int (k : Nat))] = some (.nx [some x0, some (.lst TP), some x2, some x3, some (.lst E1), some (.lst E2), some (.int (k : Nat))]) := by
    by_cases h1 : a = b
    ·simp [cZ, -ixP, x1, x2', h1]
    ·by_cases h2 : (a, b) ∈ ts
     ·simp [cZ, -ixP, x1, x2', h1, i1, h2]
     ·by_cases h3 : (b, a) ∈ ts
      ·simp [cZ, -ixP, x1, x2', h1, i1, h2, i2, h3]
      ·rcases q' with z | z | z
       ·exact absurd z h1
       ·exact absurd z h2
       ·exact absurd z h3
   simp [bF, hb]
  ·have q0 : alB ts a b = false := by cases z : alB ts a b with | true => exact absurd z q | false => rfl
   rw [q0, Bool.false_and, if_neg (by decide)]
   have q' : ¬ (a = b \/ (a, b) ∈ ts \/ (b, a) ∈ ts) := of_decide_eq_false q0
   have h1 : ¬ a = b := fun z => q' (.inl z)
   have h2 : ¬ (a, b) ∈ ts := fun z => q' (.inr (.inl z))
   have h3 : ¬ (b, a) ∈ ts := fun z => q' (.inr (.inr z))
   have hb : cZ [some x0, some (.lst TP), some x2, some x3, some (.lst E1), some (.lst E2), some (.int (k : Nat))] = some (.rt (.bl false)) := by
    simp [cZ, -ixP, x1, x2', h1, i1, h2, i2, h3]
   simp [bF, hb]
omit hc hp in
theorem range_all {ts : List (Str × Str)} : ∀ {e1 e2 : List Str}, e1.length = e2.length -> ((List.range e1.length).all fun k => alB ts (e1.getD k "") (e2.getD k "")) = (e1.zip e2).all fun z => alB ts z.1 z.2
 | [], e2, _ => rfl
 | a :: e1, [], h => by simp at h
 | a :: e1, b :: e2, h => by
  have ih := range_all (ts := ts) (e1 := e1) (e2 := e2) (by simpa using h)
  rw [List.length_cons, List.range_succ_eq_map, List.all_cons, List.all_map, List.zip_cons_cons, List.all_cons, ← ih]
  rfl
theorem O6 {ts : List (Str × Str)} (tsO : ∀ x ∈ ts, PyData.strOk x.1 = true /\ PyData.strOk x.2 = true) {a b : Str} (Wa : WordR R a) (Wb : WordR R b) : gj [au R, .lst (ts.map tp), .str a, .str b] = some (.bl (rhB ts (endL R a) (endL R b))) := by
 obtain ⟨ha, oa, la⟩ := zf G Wa
 obtain ⟨hb, ob, lb⟩ := zf G Wb
 generalize endL R a = e1 at *
 generalize endL R b = e2 at *
 have l1 : lenV (.lst (e1.map PV.str)) = some (.int (e1.length : Nat)) := by simp
 have l2 : lenV (.lst (e2.map PV.str)) = some (.int (e2.length : Nat)) := by simp
 have s1 : aK 4 (aL cg (ak (bV 0) (ak (bV 2) aC))) [some (au R), some (.lst (ts.map tp)), some (.str a), some (.str b), none, none, none] = some (.nx [some (au R), some (.lst (ts.map tp)), some (.str a), some (.str b), some (.lst (e1.map .str)), none, none]) := by
  generalize cg = m at *
  generalize au R = RP at *
  generalize ts.map tp = TP at *
  generalize e1.map PV.str = E1 at *
  simp [ha]
 have s2 : aK 5 (aL cg (ak (bV 0) (ak (bV 3) aC))) [some (au R), some (.lst (ts.map tp)), some (.str a), some (.str b), some (.lst (e1.map .str)), none, none] = some (.nx [some (au R), some (.lst (ts.map tp)), some (.str a), some (.str b), some (.lst (e1.map .str)), some (.lst (e2.map .str)), none]) := by
  generalize cg = m at *
  generalize au R = RP at *
  generalize ts.map tp = TP at *
  generalize e1.map PV.str = E1 at *
  generalize e2.map PV.str = E2 at *
  simp [hb]
 have fin : ∀ v, lQ [some (au R), some (.lst (ts.map tp)), some (.str a), some (.str b), none, none, none] = some (.rt v) -> gj [au R, .lst (ts.map tp), .str a, .str b] = some v := fun v h => by
  unfold gj
  generalize lQ = B at *
  generalize au R = RP at *
  generalize ts.map tp = TP at *
  simp [h]
 apply fin
 unfold lQ rhB
 rw [aF s1, aF s2]
 by_cases h : e1.length = e2.length
 ·have s3 : sIf (tV (b2 neQ (b1 lenV (bV 4)) (b1 lenV (bV 5)))) (aQ (bC (.bl false))) sNx [some (au R), some (.lst (ts.map tp)), some (.str a), some (.str b), some (.lst (e1.map .str)), some (.lst (e2.map .str)), none] = some (.nx [some (au R), some (.lst (ts.map tp)), some (.str a), some (.str b), some (.lst (e1.map .str)), some (.lst (e2.map .str)), none]) := by
   generalize au R = RP at *
   generalize ts.map tp = TP at *
   generalize e1.map PV.str = E1 at *
   generalize e2.map PV.str = E2 at *
   simp [-lenV, l1, l2, h]
  rw [aF s3, decide_eq_true h, Bool.true_and]
  have lp := Dc G hc hp (x0 := au R) (x2 := .str a) (x3 := .str b) tsO oa ob (List.range e1.length) fun k hk => by
   have := List.mem_range.mp hk
   exact ⟨this, by omega⟩
  rw [range_all G h, ← cX] at lp
  have hr : rgI (e1.length : Int) = true := jN (by omega)
  generalize au R = RP at *
  generalize ts.map tp = TP at *
  generalize e1.map PV.str = E1 at *
  generalize e2.map PV.str = E2 at *
  cases hz : (e1.zip e2).all fun z => alB ts z.1 z.2 with
  | true =>
   rw [hz, if_pos rfl] at lp
   simp [-lenV, l1, hr, lp]
  | false =>
   rw [hz, if_neg (by decide)] at lp
   simp [-lenV, l1, hr, lp]
 ·have h' : ¬ ((e1.length : Int) = (e2.length : Int)) := by omega
  rw [decide_eq_false h, Bool.false_and]
  generalize au R = RP at *
  generalize ts.map tp = TP at *
  generalize e1.map PV.str = E1 at *
  generalize e2.map PV.str = E2 at *
  simp [-lenV, l1, l2, h, h']
end
end My
namespace My
open PySem L2 MR
def okP : Nat -> PV -> Prop
 | _, .non => True
 | _, .bl _ => True
 | _, .int _ => True
 | _, .str x => PyData.strOk x = true
 | n + 1, .lst xs => ∀ x ∈ xs, okP n x
 | n + 1, .tup xs => ∀ x ∈ xs, okP n x
 | _, _ => False
theorem Ba {n : Nat} (ih : ∀ p, okP n p -> ∃ d, toD p = some d /\ d.canLay0 = true /\ d.depth <= n /\ PyData.eqv d d = true) : ∀ xs : List PV, (∀ x ∈ xs, okP n x) -> ∃ ds, d_ xs = some ds /\ PyData.canLayAll0 ds = true /\ PyData.depthAll ds <= n /\ PyData.eqvAll ds ds = true
 | [], _ => ⟨[], rfl, rfl, Nat.zero_le _, rfl⟩
 | x :: xs, h => by
  obtain ⟨d, h1, h2, h3, h4⟩ := ih x (h x List.mem_cons_self)
  obtain ⟨ds, g1, g2, g3, g4⟩ := Ba ih xs fun z hz => h z (List.mem_cons_of_mem _ hz)
  refine ⟨d :: ds, by simp [d_, h1, g1], by simp [PyData.canLayAll0, h2, g2], ?_, by simp [PyData.eqvAll, h4, g4]⟩
  simp only [PyData.depthAll]
  omega
theorem Ej : ∀ (n : Nat) (p : PV), okP n p -> ∃ d, toD p = some d /\ d.canLay0 = true /\ d.depth <= n /\ PyData.eqv d d = true
 | n, .non, _ => ⟨.none, by simp [toD], by simp [PyData.canLay0], by simp [PyData.depth], by simp [PyData.eqv]⟩
 | n, .bl b, _ => ⟨.bool b, by simp [toD], by simp [PyData.canLay0], by simp [PyData.depth], by simp [PyData.eqv]⟩
 | n, .int b, _ => ⟨.int b, by simp [toD], by simp [PyData.canLay0], by simp [PyData.depth], by simp [PyData.eqv]⟩
 | n, .str b, h => ⟨.str b, by simp [toD], by simpa [PyData.canLay0, okP] using h, by simp [PyData.depth], by simp [PyData.eqv]⟩
 | n + 1, .lst xs, h => by
  obtain ⟨ds, g1, g2, g3, g4⟩ := Ba (Ej n) xs (by simpa [okP] using h)
  exact ⟨.list ds, by simp [toD, g1], by simp [PyData.canLay0, g2], by simp only [PyData.depth]; omega, by simp [PyData.eqv, g4]⟩
 | n + 1, .tup xs, h => by
  obtain ⟨ds, g1, g2, g3, g4⟩ := Ba (Ej n) xs (by simpa [okP] using h)
  exact ⟨.tuple ds, by simp [toD, g1], by simp [PyData.canLay0, g2], by simp only [PyData.depth]; omega, by simp [PyData.eqv, g4]⟩
 | 0, .lst _, h => by simp [okP] at h
 | 0, .tup _, h => by simp [okP] at h
 | _, .frz _, h => by simp [okP] at h
 | _, .ktp _, h => by simp [okP] at h
 | _, .dK _, h => by simp [okP] at h
 | _, .dT _, h => by simp [okP] at h
 | _, .obj _ _, h => by simp [okP] at h
theorem Ji {n : Nat} {p : PV} (h : okP n p) (hn : n <= 64) : eqD p p = some true := by
 obtain ⟨d, h1, h2, h3, h4⟩ := Ej n p h
 have hs : SeqAt.shaped d = true := by
  unfold SeqAt.shaped
  rw [h2, Bool.true_and, decide_eq_true_eq]
  omega
 simp [eqD, h1, hs, h4]
theorem Jj {p : PV} {k : Bool} (h : eqS p p = some k) : k = true := by
 cases p <;> simp at h <;> first | exact h | exact h.symm | cases h
theorem Jk {n : Nat} {p : PV} (h : okP n p) (hn : n <= 64) : eqP p p = some true := by
 unfold eqP
 cases q : eqS p p with
 | none => exact Ji h hn
 | some k => rw [Jj q]
end My
namespace My
open PySem L2 MR
abbrev nI (k : Nat) : PV := .int (k : Nat)
def nL (l : List Nat) : PV := .lst (l.map nI)
theorem uI : ∀ l : List Nat, d_ (l.map nI) = some (l.map fun k => PyData.int (k : Nat))
 | [] => rfl
 | k :: l => by simp [d_, toD, uI l]
theorem tY : ∀ l : List Nat, PyData.canLayAll0 (l.map fun k => PyData.int ((k : Nat) : Int)) = true /\ PyData.depthAll (l.map fun k => PyData.int ((k : Nat) : Int)) <= 0
 | [] => ⟨rfl, Nat.le_refl _⟩
 | k :: l => by
  obtain ⟨a, b⟩ := tY l
  refine ⟨by simp [PyData.canLayAll0, PyData.canLay0, a], ?_⟩
  simp only [List.map_cons, PyData.depthAll, PyData.depth]
  omega
theorem Bb : ∀ a b : List Nat, PyData.eqvAll (a.map fun k => PyData.int ((k : Nat) : Int)) (b.map fun k => PyData.int ((k : Nat) : Int)) = decide (a = b)
 | [], [] => by simp [PyData.eqvAll]
 | [], _ :: _ => by simp [PyData.eqvAll]
 | _ :: _, [] => by simp [PyData.eqvAll]
 | x :: a, y :: b => by
  have ih := Bb a b
  simp only [List.map_cons, PyData.eqvAll, PyData.eqv, ih]
  by_cases h1 : x = y <;> by_cases h2 : a = b <;> simp [h1, h2] <;> omega
theorem O7 (a b : List Nat) : eqP (nL a) (nL b) = some (decide (a = b)) := by
 have f : ∀ l : List Nat, SeqAt.shaped (.list (l.map fun k => PyData.int ((k : Nat) : Int))) = true := fun l => by
  obtain ⟨h1, h2⟩ := tY l
  have e1 : (PyData.list (l.map fun k => PyData.int ((k : Nat) : Int))).canLay0 = true := by simp [PyData.canLay0, h1]
  have e2 : (PyData.list (l.map fun k => PyData.int ((k : Nat) : Int))).depth <= 64 := by simp only [PyData.depth]; omega
  simp [SeqAt.shaped, e1, e2]
 have h1 := f a
 have h2 := f b
 simp [nL, eqP, eqS, eqD, toD, uI, h1, h2, PyData.eqv, Bb]
theorem uZ {α : Type} (c : α -> PV) (d : α) : ∀ (L : List α) (k : Nat), fu k (L.map c) = (List.range L.length).map fun j => PV.tup [nI (k + j), c (L.getD j d)]
 | [], _ => rfl
 | x :: L, k => by
  have ih := uZ c d L (k + 1)
  rw [List.map_cons, List.length_cons, List.range_succ_eq_map, List.map_cons, List.map_map]
  show PV.tup [.int (k : Nat), c x] :: fu (k + 1) (L.map c) = _
  rw [ih]
  congr 1
  apply List.map_congr_left
  intro j _
  show PV.tup [nI (k + 1 + j), c (L.getD j d)] = PV.tup [nI (k + (j + 1)), c ((x :: L).getD (j + 1) d)]
  rw [show k + 1 + j = k + (j + 1) by omega]
  rfl
theorem tZ (f : Nat -> PV) (n : Nat) : fu 0 ((List.range n).map f) = (List.range n).map fun j => PV.tup [nI j, f j] := by
 rw [uZ f 0, List.length_range]
 apply List.map_congr_left
 intro j hj
 have hj' := List.mem_range.mp hj
 rw [Nat.zero_add, List.getD_eq_getElem?_getD, List.getElem?_range hj']
 rfl
theorem G6 {f : Nat -> PV} {n j : Nat} (h : j < n) : atI ((List.range n).map f) (j : Int) = some (f j) :=
 cu (by rw [List.getElem?_map, List.getElem?_range h]; rfl)
theorem Jl {κ : Type} [DecidableEq κ] (kvs : List (κ × PV)) (k : κ) (v : PV) (j : κ) : (fM (lu kvs k v) j).isSome = ((fM kvs j).isSome || decide (k = j)) := by
 have key : ∀ l : List (κ × PV), (fM l j).isSome = l.any fun kv => decide (kv.1 = j) := by
  intro l
  induction l with
  | nil => rfl
  | cons x l ih =>
   unfold fM at ih ⊢
   simp only [List.find?_cons, List.any_cons]
   by_cases h : x.1 = j
   ·simp [h]
   ·simp only [decide_eq_false h, Bool.false_or]
    exact ih
 rw [key, key]
 unfold lu
 split
 ·rename_i h
  have e : ∀ l : List (κ × PV), ((l.map fun kv => if kv.1 = k then (kv.1, v) else kv).any fun kv => decide (kv.1 = j)) = l.any fun kv => decide (kv.1 = j) := by
   intro l
   rw [List.any_map]
   congr 1
   funext kv
   by_cases hk : kv.1 = k <;> simp [hk]
  rw [e]
  by_cases hj : k = j
  ·subst hj; simp only [decide_true, Bool.or_true]; exact h
  ·simp [hj]
 ·simp
theorem yt (j : Int) : ∀ (l : List Nat) (acc : List (Key × PV)), (fM (qe (l.map fun k => ((.inl ((k : Nat) : Int) : Key), PV.bl true)) acc) (.inl j)).isSome = ((fM acc (.inl j)).isSome || decide (∃ k ∈ l, ((k : Nat) : Int) = j))
 | [], acc => by simp [qe]
 | k :: l, acc => by
  have ih := yt j l (lu acc (.inl ((k : Nat) : Int)) (.bl true))
  show (fM (qe (l.map fun k => ((.inl ((k : Nat) : Int) : Key), PV.bl true)) (lu acc (.inl ((k : Nat) : Int)) (.bl true))) (.inl j)).isSome = _
  rw [ih, Jl]
  by_cases h : ((k : Nat) : Int) = j
  ·simp [h]
  ·simp [h, show ¬ ((.inl ((k : Nat) : Int) : Key) = .inl j) from fun z => h (Sum.inl.inj z)]
def bD (l : List Nat) : PV := .dK (qe (l.map fun k => ((.inl ((k : Nat) : Int) : Key), PV.bl true)) [])
theorem O8 (l : List Nat) (x : Nat) : inP (nI x) (bD l) = some (decide (x ∈ l)) := by
 have h := yt (x : Int) l []
 have e : (decide (∃ k ∈ l, ((k : Nat) : Int) = (x : Int))) = decide (x ∈ l) := by
  apply decide_eq_decide.mpr
  constructor
  ·rintro ⟨k, hk, e⟩; have : k = x := by omega
   exact this ▸ hk
  ·intro hx; exact ⟨x, hx, rfl⟩
 rw [e] at h
 have h0 : (fM ([] : List (Key × PV)) (.inl (x : Int))).isSome = false := rfl
 rw [h0, Bool.false_or] at h
 unfold bD nI inP
 simp [h]
theorem G7 : ∀ l : List Nat, prs (l.map fun k => PV.tup [nI k, .bl true]) = some (l.map fun k => ((.inl ((k : Nat) : Int) : Key), PV.bl true))
 | [] => rfl
 | k :: l => by simp [prs, G7 l]
theorem O9 (l : List Nat) (h : l.length <= 1000000) : zZ (.lst (l.map fun k => PV.tup [nI k, .bl true])) = some (bD l) := by
 show ((prs (l.map fun k => PV.tup [nI k, .bl true])).bind fun l => if l.length <= 1000000 then some (PV.dK (qe l [])) else none) = _
 rw [G7]
 simp [h, bD]
end My
namespace My
open PySem L2 MR
def Nb (n : Nat) (r : Nat -> Nat -> Bool) (i : Nat) : List Nat := (List.range n).filter (r i)
theorem mem_Nb {n : Nat} {r : Nat -> Nat -> Bool} {i j : Nat} : j ∈ Nb n r i ↔ j < n /\ r i j = true := by simp [Nb]
theorem Bc {n : Nat} {r : Nat -> Nat -> Bool} {i : Nat} : (Nb n r i).length <= n := by
 have := List.length_filter_le (r i) (List.range n)
 rwa [List.length_range] at this
def bG (n : Nat) (r : Nat -> Nat -> Bool) : PV := .lst ((List.range n).map fun i => nL (Nb n r i))
def Xb (n : Nat) (r : Nat -> Nat -> Bool) (i j : Nat) : List Nat := (Nb n r j).filter fun k => !decide (k ∈ Nb n r i)
section
variable {n : Nat} {r : Nat -> Nat -> Bool} (hn : n <= 1000)
include hn
theorem Li {i j : Nat} (hj : j < n) : aK 5 (bIf (tV (b2 eqQ (b2 ixP (bV 0) (bV 4)) (bV 2))) (b7 aC) (aV [none, some 3] (iV (b2 ixP (bV 0) (bV 4))) (gN 0) gr gq)) [some (bG n r), some (nI i), some (nL (Nb n r i)), some (bD (Nb n r i)), some (nI j), none] = some (.nx [some (bG n r), some (nI i), some (nL (Nb n r i)), some (bD (Nb n r i)), some (nI j), some (nL (Xb n r i j))]) := by
 have hix : ixP (bG n r) (nI j) = some (nL (Nb n r j)) := G6 (f := fun i => nL (Nb n r i)) hj
 have he := O7 (Nb n r j) (Nb n r i)
 have hX : Nb n r j = Nb n r i -> Xb n r i j = [] := fun e => by
  unfold Xb
  rw [e]
  exact List.filter_eq_nil_iff.mpr fun k hk => by simp [hk]
 have hcm := bW (env := [none, some (bD (Nb n r i))]) (g := gN 0) (t := gr) (f := gq) nI nI (fun k => !decide (k ∈ Nb n r i)) (Nb n r j) fun k _ => ⟨[some (nI k), some (bD (Nb n r i))], by simp, by
  have := O8 (Nb n r i) k
  generalize bD (Nb n r i) = B at *
  simp [-inP, gr, this], fun _ => by simp [gq]⟩
 have hl : (Nb n r j).length <= 1000000 := Nat.le_trans Bc (by omega)
 have hv : bJ [none, some (bD (Nb n r i))] (gN 0) gr gq ((Nb n r j).map nI) = some ((Xb n r i j).map nI) := hcm
 generalize bG n r = P at *
 generalize bD (Nb n r i) = B at *
 by_cases h : Nb n r j = Nb n r i
 ·rw [hX h]
  rw [decide_eq_true h] at he
  generalize nL (Nb n r j) = A at *
  generalize nL (Nb n r i) = A' at *
  simp [-ixP, hix, he, nL]
 ·rw [decide_eq_false h] at he
  have hit : itV (nL (Nb n r j)) = some ((Nb n r j).map nI) := rfl
  have hl' : ((Nb n r j).map nI).length <= 1000000 := by rw [List.length_map]; exact hl
  generalize nL (Nb n r j) = A at *
  generalize nL (Nb n r i) = A' at *
  generalize (Nb n r j).map nI = L at *
  simp [-ixP, -itV, hix, he, hit, hl', hv, nL]
theorem Lj {i : Nat} : aK 3 (b1 zZ (aV [none] (iV (bV 2)) (gN 0) aY iU)) [some (bG n r), some (nI i), some (nL (Nb n r i)), none, none, none] = some (.nx [some (bG n r), some (nI i), some (nL (Nb n r i)), some (bD (Nb n r i)), none, none]) := by
 have hl : (Nb n r i).length <= 1000000 := Nat.le_trans Bc (by omega)
 have hd := O9 (Nb n r i) hl
 have hcm := bw (env := [none]) (g := gN 0) (f := iU) nI (fun k => PV.tup [nI k, .bl true]) (Nb n r i) fun k _ => ⟨_, rfl, by simp [iU]⟩
 have hit : itV (nL (Nb n r i)) = some ((Nb n r i).map nI) := rfl
 have hl' : ((Nb n r i).map nI).length <= 1000000 := by rw [List.length_map]; exact hl
 generalize bG n r = P at *
 generalize bD (Nb n r i) = B at *
 generalize nL (Nb n r i) = A at *
 generalize (Nb n r i).map nI = L at *
 generalize (Nb n r i).map (fun k => PV.tup [nI k, .bl true]) = L2 at *
 simp [-itV, hit, hl', hcm, hd]
end
end My
namespace My
open PySem L2 MR
def hdN (n : Nat) (r : Nat -> Nat -> Bool) (i : Nat) : Nat := (Nb n r i).headD 0
structure EqvN (n : Nat) (r : Nat -> Nat -> Bool) : Prop where
 refl : ∀ i < n, r i i = true
 symm : ∀ i < n, ∀ j < n, r i j = true -> r j i = true
 trans : ∀ i < n, ∀ j < n, ∀ k < n, r i j = true -> r j k = true -> r i k = true
section
variable {n : Nat} {r : Nat -> Nat -> Bool}
theorem xj {i : Nat} (hi : i < n) (h : r i i = true) : ∃ t, Nb n r i = hdN n r i :: t := by
 have hm : i ∈ Nb n r i := mem_Nb.mpr ⟨hi, h⟩
 unfold hdN
 cases e : Nb n r i with
 | nil => rw [e] at hm; cases hm
 | cons a t => exact ⟨t, rfl⟩
theorem wu {i : Nat} (hi : i < n) (h : r i i = true) : hdN n r i < n /\ r i (hdN n r i) = true := by
 obtain ⟨t, e⟩ := xj hi h
 exact mem_Nb.mp (by rw [e]; simp)
theorem JL (E : EqvN n r) {i j : Nat} (hi : i < n) (hj : j < n) (h : r i j = true) : Nb n r i = Nb n r j := by
 unfold Nb
 refine List.filter_congr fun x hx => ?_
 have hx := List.mem_range.mp hx
 cases a : r i x <;> cases b : r j x
 ·rfl
 ·exact absurd (E.trans i hi j hj x hx h b) (by rw [a]; decide)
 ·exact absurd (E.trans j hj i hi x hx (E.symm i hi j hj h) a) (by rw [b]; decide)
 ·rfl
theorem O_ (E : EqvN n r) {i j : Nat} (hi : i < n) (hj : j < n) : hdN n r i = hdN n r j ↔ r i j = true := by
 constructor
 ·intro h
  obtain ⟨a1, a2⟩ := wu hi (E.refl i hi)
  obtain ⟨b1, b2⟩ := wu hj (E.refl j hj)
  rw [h] at a1 a2
  exact E.trans i hi _ a1 j hj a2 (E.symm j hj _ b1 b2)
 ·intro h
  unfold hdN
  rw [JL E hi hj h]
theorem QV (E : EqvN n r) {i : Nat} (hi : i < n) : hdN n r (hdN n r i) = hdN n r i := by
 obtain ⟨a1, a2⟩ := wu hi (E.refl i hi)
 exact ((O_ E hi a1).mpr a2).symm
end
def oM (n : Nat) (r : Nat -> Nat -> Bool) : List Nat := (List.range n).filter fun i => decide (hdN n r i = i)
end My
namespace My
open PySem L2 MR
def rgL (n : Nat) (W : Nat -> PV) : PV := .lst ((List.range n).map W)
theorem Lk {n : Nat} {W : Nat -> PV} : lenV (rgL n W) = some (nI n) := by simp [rgL]
theorem t8 {n : Nat} {W : Nat -> PV} {i : Nat} (h : i < n) : ixP (rgL n W) (nI i) = some (W i) := G6 h
theorem G8 {n : Nat} {W : Nat -> PV} : itV (rgL n W) = some ((List.range n).map W) := rfl
section
variable {n : Nat} {r : Nat -> Nat -> Bool} {T : PV} {W E : Nat -> PV} (hn : n <= 1000) (hE : ∀ i < n, gw [T, W i] = some (E i)) (hER : ∀ i < n, ∀ j < n, dm [T, E i, E j] = some (.bl (r i j)))
 (rr : ∀ i < n, r i i = true) (rs : ∀ i < n, ∀ j < n, r i j = true -> r j i = true)
include hn hER
theorem Jm {i : Nat} (hi : i < n) : jR [T, rgL n E, E i] = some (nL (Nb n r i)) := by
 have hcm := bW (env := [none, none, some T, some (E i)]) (g := gT [0, 1]) (t := iy) (f := iu) (fun j => PV.tup [nI j, E j]) nI (fun j => r i j) (List.range n) fun j hj => ⟨[some (nI j), some (E j), some T, some (E i)], by simp, by
  have := hER i hi j (List.mem_range.mp hj)
  unfold iy
  generalize dm = m at *
  simp [this], fun _ => by simp [iu]⟩
 have hen : iE (bV 1) [some T, some (rgL n E), some (E i)] = some ((List.range n).map fun j => PV.tup [nI j, E j]) := by
  show some (fu 0 ((List.range n).map E)) = _
  rw [tZ]
 have hl : ((List.range n).map fun j => PV.tup [nI j, E j]).length <= 1000000 := by simp; omega
 have hv : (List.map nI ((List.range n).filter fun j => r i j)) = (Nb n r i).map nI := rfl
 rw [hv] at hcm
 have hb : aV [none, none, some 0, some 2] (iE (bV 1)) (gT [0, 1]) iy iu [some T, some (rgL n E), some (E i)] = some (nL (Nb n r i)) := by
  rw [q8, hen]
  show (if _ then (bJ [none, none, some T, some (E i)] (gT [0, 1]) iy iu _).bind _ else none) = _
  rw [if_pos hl, hcm]
  rfl
 unfold jR uU
 generalize aV [none, none, some 0, some 2] (iE (bV 1)) (gT [0, 1]) iy iu = F at *
 generalize rgL n E = P at *
 simp [hb]
include hE
theorem QW : aK 2 (aV [none, some 0] (iV (bV 1)) (gN 0) aY kJ) [some T, some (rgL n W), none, none, none] = some (.nx [some T, some (rgL n W), some (rgL n E), none, none]) := by
 have hcm := bw (env := [none, some T]) (g := gN 0) (f := kJ) W E (List.range n) fun i hi => ⟨[some (W i), some T], rfl, by
  have := hE i (List.mem_range.mp hi)
  unfold kJ
  generalize gw = m at *
  simp [this]⟩
 have hl : ((List.range n).map W).length <= 1000000 := by simp; omega
 have hit := G8 (n := n) (W := W)
 have e : rgL n E = .lst ((List.range n).map E) := rfl
 rw [e]
 generalize rgL n W = P at *
 generalize (List.range n).map W = L at *
 generalize (List.range n).map E = L2 at *
 simp [-itV, hit, hl, hcm]
theorem QX : aK 3 (aV [none, some 0, some 2] (iV (bV 2)) (gN 0) aY kO) [some T, some (rgL n W), some (rgL n E), none, none] = some (.nx [some T, some (rgL n W), some (rgL n E), some (bG n r), none]) := by
 have hcm := bw (env := [none, some T, some (rgL n E)]) (g := gN 0) (f := kO) E (fun i => nL (Nb n r i)) (List.range n) fun i hi => ⟨[some (E i), some T, some (rgL n E)], rfl, by
  have := Jm hn hER (List.mem_range.mp hi)
  unfold kO
  generalize jR = m at *
  generalize rgL n E = P at *
  simp [this]⟩
 have hl : ((List.range n).map E).length <= 1000000 := by simp; omega
 have hit := G8 (n := n) (W := E)
 have e : bG n r = .lst ((List.range n).map fun i => nL (Nb n r i)) := rfl
 rw [e]
 generalize rgL n W = P at *
 generalize rgL n E = P2 at *
 generalize (List.range n).map E = L at *
 generalize ((List.range n).map fun i => nL (Nb n r i)) = L2 at *
 simp [-itV, hit, hl, hcm]
include rr
theorem QZ : aQ (gY (ak (bC (.str "classes")) (ak (aV [none, none] (iE (bV 3)) (gT [0, 1]) eY eX) aC))) [some T, some (rgL n W), some (rgL n E), some (bG n r), some .non] = some (.rt (.tup [.str "classes", .lst ((oM n r).map fun g => nL (Nb n r g))])) := by
 have hcm := bW (env := [none, none]) (g := gT [0, 1]) (t := eY) (f := eX) (fun j => PV.tup [nI j, nL (Nb n r j)]) (fun j => nL (Nb n r j)) (fun j => decide (hdN n r j = j)) (List.range n) fun j hj => ⟨[some (nI j), some (nL (Nb n r j))], by simp, by
  have hj := List.mem_range.mp hj
  obtain ⟨t, e⟩ := xj hj (rr j hj)
  have h0 : ixP (nL (Nb n r j)) (.int 0) = some (nI (hdN n r j)) := by rw [e]; exact at0 _ _
  generalize nL (Nb n r j) = A at *
  generalize hdN n r j = a at *
  have : (decide ((a : Int) = (j : Int))) = decide (a = j) := decide_eq_decide.mpr (by omega)
  simp [-ixP, eY, h0, ← this], fun _ => by simp [eX]⟩
 have hen : iE (bV 3) [some T, some (rgL n W), some (rgL n E), some (bG n r), some .non] = some ((List.range n).map fun j => PV.tup [nI j, nL (Nb n r j)]) := by
  show some (fu 0 ((List.range n).map fun j => nL (Nb n r j))) = _
  rw [tZ]
 have hl : ((List.range n).map fun j => PV.tup [nI j, nL (Nb n r j)]).length <= 1000000 := by simp; omega
 have hb : aV [none, none] (iE (bV 3)) (gT [0, 1]) eY eX [some T, some (rgL n W), some (rgL n E), some (bG n r), some .non] = some (.lst ((oM n r).map fun g => nL (Nb n r g))) := by
  rw [q8, hen]
  show (if _ then (bJ [none, none] (gT [0, 1]) eY eX _).bind _ else none) = _
  rw [if_pos hl, hcm]
  rfl
 generalize aV [none, none] (iE (bV 3)) (gT [0, 1]) eY eX = F at *
 generalize rgL n W = P at *
 generalize rgL n E = P2 at *
 generalize bG n r = P3 at *
 generalize ((oM n r).map fun g => nL (Nb n r g)) = L2 at *
 simp [hb]
end
end My
namespace My
open PySem L2 MR
theorem oE {α : Type} {g : PV -> MR.Env -> Option MR.Env} {ds : List Nat} {body : MR.Env -> Option Out} {env : MR.Env} (c : α -> PV) (v : α -> Option PV) : ∀ (ys : List α),
  (∀ y ∈ ys, (v y = none /\ turn g ds body (c y) env = some env) \/ ∃ w, v y = some w /\ ∃ e1, g (c y) env = some e1 /\ body e1 = some (.rt w)) ->
  bF g ds body (ys.map c) env = some ((ys.findSome? v).elim (.nx env) .rt)
 | [], _ => rfl
 | y :: ys, h => by
  rcases h y List.mem_cons_self with ⟨k, t⟩ | ⟨w, hv, e1, h1, h2⟩
  ·have ih := oE c v ys fun z hz => h z (List.mem_cons_of_mem _ hz)
   rw [List.map_cons, fB t, ih, List.findSome?_cons, k]
  ·rw [List.findSome?_cons, hv]
   simp [bF, h1, h2]
def xv (n : Nat) (r : Nat -> Nat -> Bool) (i j : Nat) : Option PV := (Xb n r i j).head?.map fun k => PV.tup [nI i, nI j, nI k]
def xw (n : Nat) (r : Nat -> Nat -> Bool) (i : Nat) : Option PV := (Nb n r i).findSome? (xv n r i)
def xn (n : Nat) (r : Nat -> Nat -> Bool) : Option PV := (List.range n).findSome? (xw n r)
section
variable {n : Nat} {r : Nat -> Nat -> Bool} (hn : n <= 1000)
include hn
theorem R3 {i j : Nat} (hj : j < n) : (xv n r i j = none /\ turn (gN 4) [4, 5] cH (nI j) [some (bG n r), some (nI i), some (nL (Nb n r i)), some (bD (Nb n r i)), none, none] = some [some (bG n r), some (nI i), some (nL (Nb n r i)), some (bD (Nb n r i)), none, none])
  \/ ∃ v, xv n r i j = some v /\ ∃ e1, gN 4 (nI j) [some (bG n r), some (nI i), some (nL (Nb n r i)), some (bD (Nb n r i)), none, none] = some e1 /\ cH e1 = some (.rt v) := by
 have s := Li hn (r := r) (i := i) hj
 unfold xv
 cases hx : Xb n r i j with
 | nil =>
  left
  refine ⟨rfl, ?_⟩
  rw [hx] at s
  have hb : cH [some (bG n r), some (nI i), some (nL (Nb n r i)), some (bD (Nb n r i)), some (nI j), none] = some (.nx [some (bG n r), some (nI i), some (nL (Nb n r i)), some (bD (Nb n r i)), some (nI j), some (nL [])]) := by
   unfold cH
   rw [aF s]
   generalize bG n r = P at *
   generalize nL (Nb n r i) = A at *
   generalize bD (Nb n r i) = B at *
   simp [nL]
  simp [cz, hb]
 | cons k ks =>
  right
  refine ⟨_, rfl, _, rfl, ?_⟩
  rw [hx] at s
  show cH [some (bG n r), some (nI i), some (nL (Nb n r i)), some (bD (Nb n r i)), some (nI j), none] = _
  unfold cH
  rw [aF s]
  generalize bG n r = P at *
  generalize nL (Nb n r i) = A at *
  generalize bD (Nb n r i) = B at *
  have h0 : ixP (nL (k :: ks)) (.int 0) = some (nI k) := at0 _ _
  have h1 : lenV (nL (k :: ks)) = some (.int ((ks.length + 1 : Nat))) := by simp [nL]
  have h2 : (0 : Int) < ((ks.length + 1 : Nat) : Int) := by omega
  generalize nL (k :: ks) = K at *
  generalize ((ks.length + 1 : Nat) : Int) = m at *
  simp [-ixP, -lenV, h0, h1, h2]
theorem R4 {i : Nat} (hi : i < n) : (xw n r i = none /\ turn (gT [1, 2]) [1, 2, 3, 4, 5] bI (.tup [nI i, nL (Nb n r i)]) [some (bG n r), none, none, none, none, none] = some [some (bG n r), none, none, none, none, none])
  \/ ∃ v, xw n r i = some v /\ ∃ e1, gT [1, 2] (.tup [nI i, nL (Nb n r i)]) [some (bG n r), none, none, none, none, none] = some e1 /\ bI e1 = some (.rt v) := by
 have s := Lj hn (r := r) (i := i)
 have lp := oE (g := gN 4) (ds := [4, 5]) (body := cH) (env := [some (bG n r), some (nI i), some (nL (Nb n r i)), some (bD (Nb n r i)), none, none]) nI (xv n r i) (Nb n r i) fun j hj => R3 hn (mem_Nb.mp hj).1
 have hit : itV (nL (Nb n r i)) = some ((Nb n r i).map nI) := rfl
 unfold xw
 generalize bG n r = P at *
 generalize bD (Nb n r i) = B at *
 generalize hA : nL (Nb n r i) = A at *
 cases hz : (Nb n r i).findSome? (xv n r i) with
 | none =>
  left
  rw [hz] at lp
  refine ⟨rfl, ?_⟩
  generalize (Nb n r i).map nI = L at *
  have hb : bI [some P, some (nI i), some A, none, none, none] = some (.nx [some P, some (nI i), some A, some B, none, none]) := by
   unfold bI
   rw [aF s]
   simp [-itV, hit, lp]
  simp [cz, hb]
 | some v =>
  right
  rw [hz] at lp
  refine ⟨v, rfl, _, rfl, ?_⟩
  show bI [some P, some (nI i), some A, none, none, none] = _
  generalize (Nb n r i).map nI = L at *
  unfold bI
  rw [aF s]
  simp [-itV, hit, lp]
theorem Pa : dM [bG n r] = some ((xn n r).getD .non) := by
 have lp := oE (g := gT [1, 2]) (ds := [1, 2, 3, 4, 5]) (body := bI) (env := [some (bG n r), none, none, none, none, none]) (fun i => PV.tup [nI i, nL (Nb n r i)]) (xw n r) (List.range n) fun i hi => R4 hn (List.mem_range.mp hi)
 have hen : iE (bV 0) [some (bG n r), none, none, none, none, none] = some ((List.range n).map fun i => PV.tup [nI i, nL (Nb n r i)]) := by
  show some (fu 0 ((List.range n).map fun i => nL (Nb n r i))) = _
  rw [tZ]
 have key : ∀ o, bF (gT [1, 2]) [1, 2, 3, 4, 5] bI ((List.range n).map fun i => PV.tup [nI i, nL (Nb n r i)]) [some (bG n r), none, none, none, none, none] = some o -> cN (gT [1, 2]) (iE (bV 0)) [1, 2, 3, 4, 5] bI [some (bG n r), none, none, none, none, none] = some o := fun o h => by
  rw [Kv, hen]
  exact h
 have k := key _ lp
 unfold xn
 unfold dM qj
 generalize bG n r = P at *
 generalize cN (gT [1, 2]) (iE (bV 0)) [1, 2, 3, 4, 5] bI = F at *
 cases hz : (List.range n).findSome? (xw n r) with
 | none => rw [hz] at k; simp [k]
 | some v => rw [hz] at k; simp [k]
end
theorem JM {α β : Type} (p : α -> Bool) (f : α -> β) : ∀ l : List α, l.findSome? (fun k => if p k = true then some (f k) else none) = (l.filter p).head?.map f
 | [] => rfl
 | x :: l => by
  have ih := JM p f l
  rw [List.findSome?_cons, List.filter_cons]
  by_cases h : p x = true
  ·simp [h]
  ·simp only [Bool.not_eq_true] at h
   simp [h]
   simpa using ih
theorem yu {α β : Type} (p : α -> Bool) (f : α -> Option β) : ∀ l : List α, l.findSome? (fun k => if p k = true then f k else none) = (l.filter p).findSome? f
 | [] => rfl
 | x :: l => by
  have ih := yu p f l
  by_cases h : p x = true
  ·rw [List.findSome?_cons, List.filter_cons_of_pos h, List.findSome?_cons, if_pos h]
   cases f x with
   | none => exact ih
   | some y => rfl
  ·rw [List.findSome?_cons, List.filter_cons_of_neg h, if_neg h]
   exact ih
theorem Bd {α β γ : Type} (g : β -> γ) (f : α -> Option β) : ∀ l : List α, l.findSome? (fun k => (f k).map g) = (l.findSome? f).map g
 | [] => rfl
 | x :: l => by
  have ih := Bd g f l
  rw [List.findSome?_cons, List.findSome?_cons]
  cases f x with
  | none => exact ih
  | some y => rfl
def dkV (r : Nat -> Nat -> Bool) (i j k : Nat) : Option PV := if (r i j && (r j k && !r i k)) = true then some (PV.tup [.str "broken", .tup [nI i, nI j, nI k]]) else none
theorem Pb {n : Nat} {r : Nat -> Nat -> Bool} {i j : Nat} : (List.range n).findSome? (fun k => dkV r i j k) = if r i j = true then (xv n r i j).map (fun v => PV.tup [.str "broken", v]) else none := by
 unfold dkV
 by_cases h : r i j = true
 ·rw [if_pos h]
  simp only [h, Bool.true_and]
  rw [JM (fun k => r j k && !r i k)]
  have e : (List.range n).filter (fun k => r j k && !r i k) = Xb n r i j := by
   unfold Xb Nb
   rw [List.filter_filter]
   refine List.filter_congr fun k hk => ?_
   have hk := List.mem_range.mp hk
   have : decide (k ∈ (List.range n).filter (r i)) = r i k := by
    cases z : r i k <;> simp [z, hk]
   rw [this, Bool.and_comm]
  rw [e]
  unfold xv
  rw [Option.map_map]
  rfl
 ·simp only [Bool.not_eq_true] at h
  simp only [h, Bool.false_and]
  simp
theorem Pg {n : Nat} {r : Nat -> Nat -> Bool} : (List.range n).findSome? (fun i => (List.range n).findSome? fun j => (List.range n).findSome? fun k => dkV r i j k) = (xn n r).map (fun v => PV.tup [.str "broken", v]) := by
 unfold xn
 rw [← Bd]
 congr 1
 funext i
 unfold xw
 rw [← Bd]
 have : (fun j => (List.range n).findSome? fun k => dkV r i j k) = fun j => if r i j = true then (xv n r i j).map (fun v => PV.tup [.str "broken", v]) else none := by
  funext j
  exact Pb
 rw [this, yu (r i)]
 rfl
end My
namespace My
open PySem L2 MR
def rwP (n : Nat) (r : Nat -> Nat -> Bool) : PV := rgL n fun i => rgL n fun j => .bl (r i j)
theorem Be {n : Nat} {r : Nat -> Nat -> Bool} {i : Nat} (h : i < n) : ixP (rwP n r) (nI i) = some (rgL n fun j => .bl (r i j)) := t8 h
theorem qT {n : Nat} {r : Nat -> Nat -> Bool} : lenV (rwP n r) = some (nI n) := Lk
section
variable {n : Nat} {r : Nat -> Nat -> Bool} (hn : n <= 1000)
include hn
theorem du1 {i j k : Nat} (hi : i < n) (hj : j < n) (hk : k < n) : (dkV r i j k = none /\ turn (gN 3) [3] dZ (nI k) [some (rwP n r), some (nI i), some (nI j), none, none, none] = some [some (rwP n r), some (nI i), some (nI j), none, none, none])
  \/ ∃ w, dkV r i j k = some w /\ ∃ e1, gN 3 (nI k) [some (rwP n r), some (nI i), some (nI j), none, none, none] = some e1 /\ dZ e1 = some (.rt w) := by
 have a1 := Be (r := r) hi
 have a2 := Be (r := r) hj
 have b1 := t8 (W := fun j => .bl (r i j)) hj
 have b2 := t8 (W := fun k => .bl (r j k)) hk
 have b3 := t8 (W := fun k => .bl (r i k)) hk
 unfold dkV
 generalize rwP n r = P at *
 generalize (rgL n fun k => .bl (r i k)) = P1 at *
 generalize (rgL n fun k => .bl (r j k)) = P2 at *
 cases h1 : r i j
 ·left
  rw [h1] at b1
  simp [cz, dZ, -ixP, a1, b1]
 ·rw [h1] at b1
  cases h2 : r j k
  ·left
   rw [h2] at b2
   simp [cz, dZ, -ixP, a1, a2, b1, b2]
  ·rw [h2] at b2
   cases h3 : r i k
   ·right
    rw [h3] at b3
    exact ⟨_, rfl, _, rfl, by simp [dZ, -ixP, a1, a2, b1, b2, b3]⟩
   ·left
    rw [h3] at b3
    simp [cz, dZ, -ixP, a1, a2, b1, b2, b3]
theorem du2 {i j : Nat} (hi : i < n) (hj : j < n) : ((List.range n).findSome? (fun k => dkV r i j k) = none /\ turn (gN 2) [2, 3] gh (nI j) [some (rwP n r), some (nI i), none, none, none, none] = some [some (rwP n r), some (nI i), none, none, none, none])
  \/ ∃ w, (List.range n).findSome? (fun k => dkV r i j k) = some w /\ ∃ e1, gN 2 (nI j) [some (rwP n r), some (nI i), none, none, none, none] = some e1 /\ gh e1 = some (.rt w) := by
 have lp := oE (g := gN 3) (ds := [3]) (body := dZ) (env := [some (rwP n r), some (nI i), some (nI j), none, none, none]) nI (fun k => dkV r i j k) (List.range n) fun k hk => du1 hn hi hj (List.mem_range.mp hk)
 have hl := qT (n := n) (r := r)
 have hr : rgI (n : Int) = true := jN hn
 have e1 : cW 0 (n : Int) = (List.range n).map nI := cX n
 generalize rwP n r = P at *
 generalize (List.range n).map nI = L at *
 cases hz : (List.range n).findSome? (fun k => dkV r i j k) with
 | none => left; rw [hz] at lp; exact ⟨rfl, by simp [cz, gh, -lenV, hl, hr, e1, lp]⟩
 | some w => right; rw [hz] at lp; exact ⟨w, rfl, _, rfl, by simp [gh, -lenV, hl, hr, e1, lp]⟩
theorem du3 {i : Nat} (hi : i < n) : ((List.range n).findSome? (fun j => (List.range n).findSome? fun k => dkV r i j k) = none /\ turn (gN 1) [1, 2, 3] d7 (nI i) [some (rwP n r), none, none, none, none, none] = some [some (rwP n r), none, none, none, none, none])
  \/ ∃ w, (List.range n).findSome? (fun j => (List.range n).findSome? fun k => dkV r i j k) = some w /\ ∃ e1, gN 1 (nI i) [some (rwP n r), none, none, none, none, none] = some e1 /\ d7 e1 = some (.rt w) := by
 have lp := oE (g := gN 2) (ds := [2, 3]) (body := gh) (env := [some (rwP n r), some (nI i), none, none, none, none]) nI (fun j => (List.range n).findSome? fun k => dkV r i j k) (List.range n) fun j hj => du2 hn hi (List.mem_range.mp hj)
 have hl := qT (n := n) (r := r)
 have hr : rgI (n : Int) = true := jN hn
 have e1 : cW 0 (n : Int) = (List.range n).map nI := cX n
 unfold d7
 generalize gh = BB at *
 generalize rwP n r = P at *
 generalize (fun j => (List.range n).findSome? fun k => dkV r i j k) = ff at *
 generalize (List.range n).map nI = L at *
 cases hz : (List.range n).findSome? ff with
 | none => left; rw [hz] at lp; exact ⟨rfl, by simp [cz, -lenV, hl, hr, e1, lp]⟩
 | some w => right; rw [hz] at lp; exact ⟨w, rfl, _, rfl, by simp [-lenV, hl, hr, e1, lp]⟩
theorem Ln : cN (gN 1) (iR1 (b1 lenV (bV 0))) [1, 2, 3] d7 [some (rwP n r), none, none, none, none, none] = some (((xn n r).map fun v => PV.tup [.str "broken", v]).elim (.nx [some (rwP n r), none, none, none, none, none]) .rt) := by
 have lp := oE (g := gN 1) (ds := [1, 2, 3]) (body := d7) (env := [some (rwP n r), none, none, none, none, none]) nI (fun i => (List.range n).findSome? (fun j => (List.range n).findSome? fun k => dkV r i j k)) (List.range n) fun i hi => du3 hn (List.mem_range.mp hi)
 rw [Pg] at lp
 have hl := qT (n := n) (r := r)
 have hr : rgI (n : Int) = true := jN hn
 have e1 : cW 0 (n : Int) = (List.range n).map nI := cX n
 generalize d7 = BB at *
 generalize rwP n r = P at *
 generalize (List.range n).map nI = L at *
 generalize (xn n r).map (fun v => PV.tup [.str "broken", v]) = xx at *
 simp [-lenV, hl, hr, e1, lp]
end
theorem xm : ∀ s : List (List Nat), d_ (s.map nL) = some (s.map fun a => PyData.list (a.map fun k => PyData.int ((k : Nat) : Int)))
 | [] => rfl
 | a :: s => by simp [d_, toD, nL, uI a, xm s]
theorem Bf : ∀ s : List (List Nat), PyData.canLayAll0 (s.map fun a => PyData.list (a.map fun k => PyData.int ((k : Nat) : Int))) = true
 | [] => rfl
 | a :: s => by simp [PyData.canLayAll0, PyData.canLay0, (tY a).1, Bf s]
theorem Ph (a : List Nat) (s : List (List Nat)) : inP (nL a) (.lst (s.map nL)) = some (decide (a ∈ s)) := by
 have h1 : toD (nL a) = some (.list (a.map fun k => PyData.int ((k : Nat) : Int))) := by simp [nL, toD, uI]
 have h2 := xm s
 have h3 := Bf s
 have h4 : (PyData.list (a.map fun k => PyData.int ((k : Nat) : Int))).canLay0 = true := by simp [PyData.canLay0, (tY a).1]
 have h5 : (PyData.list (a.map fun k => PyData.int ((k : Nat) : Int))).depth <= 32 := by simp only [PyData.depth]; have := (tY a).2; omega
 have hf : eE (nL a) = false := rfl
 have hi : inD (nL a) (s.map nL) = some (decide (a ∈ s)) := by
  unfold inD
  rw [h1, h2]
  simp only [h3, h4, h5, and_self, if_true]
  congr 1
  rw [List.any_map]
  induction s with
  | nil => simp
  | cons x s ih =>
   have ih' := ih (xm s) (Bf s)
   rw [List.any_cons, ih']
   have e : ((fun y => PyData.eqv y (PyData.list (a.map fun k => PyData.int ((k : Nat) : Int)))) ∘ fun a => PyData.list (a.map fun k => PyData.int ((k : Nat) : Int))) x = decide (x = a) := by
    show PyData.eqv (.list _) (.list _) = _
    simp only [PyData.eqv]
    exact Bb x a
   rw [e]
   by_cases h : x = a
   ·subst h; simp
   ·have h' : ¬ a = x := fun z => h z.symm
    simp [h, h']
 show (if eE (nL a) = true /\ (s.map nL).all eE = true then some ((s.map nL).any fun y => eqF y (nL a)) else inD (nL a) (s.map nL)) = _
 rw [if_neg (by rw [hf]; simp)]
 exact hi
def lR (n : Nat) (r : Nat -> Nat -> Bool) (s : List (List Nat)) (i : Nat) : List (List Nat) := if Nb n r i ∈ s then s else s ++ [Nb n r i]
section
variable {n : Nat} {r : Nat -> Nat -> Bool} (hn : n <= 1000)
include hn
theorem du6 {i : Nat} (hi : i < n) (s : List (List Nat)) (hs : s.length <= 1000) : turn (gN 1) [1, 5] d8 (nI i) [some (rwP n r), none, none, none, some (.lst (s.map nL)), none] = some [some (rwP n r), none, none, none, some (.lst ((lR n r s i).map nL)), none] := by
 have hcm := bW (env := [none, some (rwP n r), some (nI i)]) (g := gN 0) (t := lO) (f := lN) nI nI (fun j => r i j) (List.range n) fun j hj => ⟨[some (nI j), some (rwP n r), some (nI i)], by simp, by
  have a1 := Be (r := r) hi
  have b1 := t8 (W := fun j => .bl (r i j)) (List.mem_range.mp hj)
  generalize rwP n r = P at *
  generalize (rgL n fun k => .bl (r i k)) = P1 at *
  simp [lO, -ixP, a1, b1], fun _ => by simp [lN]⟩
 have hl := qT (n := n) (r := r)
 have hr : rgI (n : Int) = true := jN hn
 have e1 : cW 0 (n : Int) = (List.range n).map nI := cX n
 have e2 : ((List.range n).map nI).length <= 1000000 := by simp; omega
 have hv : ((List.range n).filter fun j => r i j).map nI = (Nb n r i).map nI := rfl
 rw [hv] at hcm
 have s1 : aK 5 (aV [none, some 0, some 1] (iR1 (b1 lenV (bV 0))) (gN 0) lO lN) [some (rwP n r), some (nI i), none, none, some (.lst (s.map nL)), none] = some (.nx [some (rwP n r), some (nI i), none, none, some (.lst (s.map nL)), some (nL (Nb n r i))]) := by
  have hN : nL (Nb n r i) = .lst ((Nb n r i).map nI) := rfl
  rw [hN]
  generalize rwP n r = P at *
  generalize (Nb n r i).map nI = L2 at *
  generalize (List.range n).map nI = L at *
  generalize s.map nL = S at *
  simp [-lenV, hl, hr, e1, e2, hcm]
 have hin := Ph (Nb n r i) s
 have hb : d8 [some (rwP n r), some (nI i), none, none, some (.lst (s.map nL)), none] = some (.nx [some (rwP n r), some (nI i), none, none, some (.lst ((lR n r s i).map nL)), some (nL (Nb n r i))]) := by
  unfold d8
  rw [aF s1]
  have hlen : (s.map nL).length < 1000000 := by simp; omega
  unfold lR
  by_cases h : Nb n r i ∈ s
  ·rw [if_pos h]
   rw [decide_eq_true h] at hin
   generalize rwP n r = P at *
   generalize nL (Nb n r i) = A at *
   generalize s.map nL = S at *
   simp [hin]
  ·rw [if_neg h, List.map_append]
   rw [decide_eq_false h] at hin
   show _ = some (Out.nx [some (rwP n r), some (nI i), none, none, some (.lst (s.map nL ++ [nL (Nb n r i)])), some (nL (Nb n r i))])
   generalize rwP n r = P at *
   generalize nL (Nb n r i) = A at *
   generalize s.map nL = S at *
   simp [hin, hlen]
 generalize rwP n r = P at *
 generalize (s.map nL) = S at *
 generalize nL (Nb n r i) = A at *
 generalize ((lR n r s i).map nL) = S2 at *
 simp [cz, hb]
theorem Lp : cN (gN 1) (iR1 (b1 lenV (bV 0))) [1, 5] d8 [some (rwP n r), none, none, none, some (.lst []), none] = some (.nx [some (rwP n r), none, none, none, some (.lst (((List.range n).foldl (lR n r) []).map nL)), none]) := by
 have lp := j6 (g := gN 1) (ds := [1, 5]) (body := d8) nI (fun s : List (List Nat) => [some (rwP n r), none, none, none, some (.lst (s.map nL)), none]) (lR n r) (fun s => s.length) (fun _ => 1) 1000 (fun _ => True) (List.range n) [] trivial (by rw [oh]; simp; omega) fun i hi s _ hs => ⟨by
  unfold lR
  split
  ·omega
  ·simp, trivial, du6 hn (List.mem_range.mp hi) s (by omega)⟩
 have hl := qT (n := n) (r := r)
 have hr : rgI (n : Int) = true := jN hn
 have e1 : cW 0 (n : Int) = (List.range n).map nI := cX n
 generalize d8 = BB at *
 generalize rwP n r = P at *
 generalize (List.range n).map nI = L at *
 have lp : bF (gN 1) [1, 5] BB L [some P, none, none, none, some (.lst []), none] = _ := lp
 simp [-lenV, hl, hr, e1, lp]
theorem Pj : gA [rwP n r] = some (((xn n r).map fun v => PV.tup [.str "broken", v]).getD (.tup [.str "classes", .lst (((List.range n).foldl (lR n r) []).map nL)])) := by
 have h1 := Ln hn (r := r)
 have h2 := Lp hn (r := r)
 unfold gA uV
 generalize cN (gN 1) (iR1 (b1 lenV (bV 0))) [1, 5] d8 = F2 at *
 generalize cN (gN 1) (iR1 (b1 lenV (bV 0))) [1, 2, 3] d7 = F1 at *
 generalize rwP n r = P at *
 generalize (((List.range n).foldl (lR n r) []).map nL) = S at *
 cases hz : (xn n r) with
 | none => rw [hz] at h1; simp at h1; simp [h1, h2]
 | some v => rw [hz] at h1; simp at h1; simp [h1]
end
theorem Jo {n : Nat} {r : Nat -> Nat -> Bool} {i x : Nat} (hi : i < n) (h : r i i = true) (hx : x ∈ Nb n r i) : hdN n r i <= x := by
 obtain ⟨t, e⟩ := xj hi h
 have hp : (Nb n r i).Pairwise (· < ·) := List.Pairwise.filter _ List.pairwise_lt_range
 rw [e] at hp hx
 rcases List.mem_cons.mp hx with z | z
 ·omega
 ·exact Nat.le_of_lt ((List.pairwise_cons.mp hp).1 x z)
theorem yw {n : Nat} {r : Nat -> Nat -> Bool} (E : EqvN n r) : ∀ m : Nat, m <= n -> (List.range m).foldl (lR n r) [] = ((List.range m).filter fun i => decide (hdN n r i = i)).map (Nb n r)
 | 0, _ => rfl
 | m + 1, hm => by
  have ih := yw E m (by omega)
  have hm' : m < n := by omega
  rw [List.range_succ, List.foldl_append, ih, List.filter_append, List.map_append]
  show lR n r _ m = _
  unfold lR
  have key : Nb n r m ∈ ((List.range m).filter fun i => decide (hdN n r i = i)).map (Nb n r) ↔ ¬ hdN n r m = m := by
   constructor
   ·intro h z
    obtain ⟨g, hg, e⟩ := List.mem_map.mp h
    simp at hg
    have : hdN n r g = hdN n r m := by unfold hdN; rw [e]
    omega
   ·intro h
    have h1 := wu hm' (E.refl m hm')
    have h2 := Jo hm' (E.refl m hm') (mem_Nb.mpr ⟨hm', E.refl m hm'⟩)
    refine List.mem_map.mpr ⟨hdN n r m, ?_, (JL E hm' h1.1 h1.2).symm⟩
    simp only [List.mem_filter, List.mem_range, decide_eq_true_eq]
    exact ⟨by omega, QV E hm'⟩
  by_cases h : hdN n r m = m
  ·rw [if_neg fun z => key.mp z h]
   simp [h]
  ·rw [if_pos (key.mpr h)]
   simp [h]
theorem Lq {n : Nat} {r : Nat -> Nat -> Bool} (h : xn n r = none) : ∀ i < n, ∀ j < n, ∀ k < n, r i j = true -> r j k = true -> r i k = true := fun i hi j hj k hk a b => by
 have h1 := List.findSome?_eq_none_iff.mp h i (List.mem_range.mpr hi)
 have h2 := List.findSome?_eq_none_iff.mp h1 j (mem_Nb.mpr ⟨hj, a⟩)
 unfold xv at h2
 cases hx : Xb n r i j with
 | cons y l => rw [hx] at h2; cases h2
 | nil =>
  unfold Xb at hx
  have := List.filter_eq_nil_iff.mp hx k (mem_Nb.mpr ⟨hk, b⟩)
  have : k ∈ Nb n r i := by simpa using this
  exact (mem_Nb.mp this).2
theorem xq {n : Nat} {r : Nat -> Nat -> Bool} {v : PV} (h : xn n r = some v) : ∃ i j k, v = PV.tup [nI i, nI j, nI k] := by
 obtain ⟨i, _, h⟩ := List.exists_of_findSome?_eq_some h
 obtain ⟨j, _, h⟩ := List.exists_of_findSome?_eq_some h
 unfold xv at h
 cases hx : (Xb n r i j).head? with
 | none => rw [hx] at h; cases h
 | some k => rw [hx] at h; cases h; exact ⟨i, j, k, rfl⟩
end My
namespace My
open PySem L2 MR
theorem Bg (ns : List Int) (a b : Nat) : ∃ cs : List Int, g8 (ns.map PV.int) (some (a : Int)) (some (b : Int)) = cs.map PV.int /\ cs.length <= b - a := by
 refine ⟨(ns.drop (HT.sIx ns.length 0 (some (a : Int)))).take (HT.sIx ns.length ns.length (some (b : Int)) - HT.sIx ns.length 0 (some (a : Int))), ?_, ?_⟩
 ·unfold g8; simp [List.map_drop, List.map_take]
 ·rw [HT.sIx_nat, HT.sIx_nat]; simp; omega
theorem ww {α : Type} (c : α -> PV) (d : α) : ∀ L : List α, L.map c = (List.range L.length).map fun j => c (L.getD j d)
 | [] => rfl
 | x :: L => by
  have ih := ww c d L
  rw [List.map_cons, List.length_cons, List.range_succ_eq_map, List.map_cons, List.map_map, ih]
  rfl
def lF (n : Nat) (r : Nat -> Nat -> Bool) : PV := ((xn n r).map fun v => PV.tup [.str "broken", v]).getD (.tup [.str "classes", .lst ((oM n r).map fun g => nL (Nb n r g))])
section
variable {n : Nat} {r : Nat -> Nat -> Bool} (hn : n <= 1000) (rr : ∀ i < n, r i i = true) (rs : ∀ i < n, ∀ j < n, r i j = true -> r j i = true)
include hn rr rs
theorem Lr : gA [rwP n r] = some (lF n r) := by
 rw [Pj hn]
 unfold lF
 cases h : xn n r with
 | some v => rfl
 | none =>
  have E : EqvN n r := ⟨rr, rs, Lq h⟩
  rw [yw E n (Nat.le_refl _), List.map_map]
  rfl
theorem Pk {T : PV} {W E : Nat -> PV} (hE : ∀ i < n, gw [T, W i] = some (E i)) (hER : ∀ i < n, ∀ j < n, dm [T, E i, E j] = some (.bl (r i j))) : dN [T, rgL n W] = some (lF n r) := by
 have s2 := QW hn hE hER
 have s3 := QX (W := W) hn hE hER
 have s6 := QZ (W := W) hn hE hER rr
 have h2 := Pa hn (r := r)
 have fin : ∀ v, m_ [some T, some (rgL n W), none, none, none] = some (.rt v) -> dN [T, rgL n W] = some v := fun v h => by
  unfold dN
  generalize m_ = B at *
  generalize rgL n W = P at *
  simp [h]
 apply fin
 have s4 : aK 4 (aL dM (ak (bV 3) aC)) [some T, some (rgL n W), some (rgL n E), some (bG n r), none] = some (.nx [some T, some (rgL n W), some (rgL n E), some (bG n r), some ((xn n r).getD .non)]) := by
  generalize dM = m at *
  generalize rgL n W = P at *
  generalize rgL n E = P2 at *
  generalize bG n r = P3 at *
  generalize (xn n r).getD .non = x at *
  simp [h2]
 unfold m_
 rw [aF s2, aF s3, aF s4]
 unfold lF
 cases h : xn n r with
 | some v =>
  obtain ⟨i, j, k, rfl⟩ := xq h
  generalize rgL n W = P at *
  generalize rgL n E = P2 at *
  generalize bG n r = P3 at *
  simp
 | none =>
  have s5 : sIf (tV (b2 pO (bV 4) (bC .non))) (aQ (gY (ak (bC (.str "broken")) (ak (bV 4) aC)))) sNx [some T, some (rgL n W), some (rgL n E), some (bG n r), some .non] = some (.nx [some T, some (rgL n W), some (rgL n E), some (bG n r), some .non]) := by
   generalize rgL n W = P at *
   generalize rgL n E = P2 at *
   generalize bG n r = P3 at *
   simp
  show aH _ _ [some T, some (rgL n W), some (rgL n E), some (bG n r), some .non] = _
  rw [aF s5, s6]
  rfl
omit rr rs hn in
theorem Pn : eqP (lF n r) (lF n r) = some true := by
 have b : PyData.strOk ("broken" : Str) = true := by decide +kernel
 have c : PyData.strOk ("classes" : Str) = true := by decide +kernel
 refine Jk (n := 3) ?_ (by decide)
 unfold lF
 cases h : xn n r with
 | some v =>
  obtain ⟨i, j, k, rfl⟩ := xq h
  simp [okP, b]
 | none =>
  simp only [Option.map_none, Option.getD_none, okP]
  intro x hx
  rcases List.mem_cons.mp hx with rfl | hx
  ·simpa [okP] using c
  ·rcases List.mem_singleton.mp hx with rfl
   simp only [okP]
   intro y hy
   obtain ⟨g, _, rfl⟩ := List.mem_map.mp hy
   simp only [nL, okP]
   intro z hz
   obtain ⟨q, _, rfl⟩ := List.mem_map.mp hz
   simp [okP]
omit rr rs in
theorem G9 : d9 [lF n r] = some (.bl true) := by
 have y0 : ∀ a b : PV, ixP (.tup [a, b]) (.int 0) = some a := fun a b => at0 _ _
 have y1 : ∀ a b : PV, ixP (.tup [a, b]) (.int 1) = some b := fun a b => at1 _ _ _
 have q1 : ¬ (Str.ofString "broken" = Str.ofString "classes") := by decide +kernel
 unfold lF
 cases h : xn n r with
 | some v =>
  obtain ⟨i, j, k, rfl⟩ := xq h
  unfold d9 o9
  generalize cN (gN 1) (iV (b2 ixP (bV 0) (bC (.int 1)))) [1] fZ = F at *
  simp [-ixP, y0, y1, tb_tuple, tb_str, q1]
 | none =>
  let P : PV := .tup [.str "classes", .lst ((oM n r).map fun g => nL (Nb n r g))]
  have turn1 : ∀ g, turn (gN 1) [1] fZ (nL (Nb n r g)) [some P, none] = some [some P, none] := fun g => by
   have hcm := bW (env := [none]) (g := gN 0) (t := jY) (f := ni) nI nI (fun _ => false) (Nb n r g) fun k _ => ⟨[some (nI k)], by simp, by simp [jY, tb_int, tb_bool, List.lookup], fun z => by cases z⟩
   have hcm' : bJ [none] (gN 0) jY ni ((Nb n r g).map nI) = some [] := by rw [hcm]; simp
   have hl : ((Nb n r g).map nI).length <= 1000000 := by rw [List.length_map]; exact Nat.le_trans Bc (by omega)
   have hN : nL (Nb n r g) = .lst ((Nb n r g).map nI) := rfl
   have e0 : eqP (.lst []) (.lst []) = some true := GC
   rw [hN]
   generalize (Nb n r g).map nI = L at *
   generalize P = P' at *
   simp [cz, fZ, tb_list, hl, hcm', e0]
  have lp := uY (g := gN 1) (ds := [1]) (body := fZ) (env := [some P, none]) (fun g => nL (Nb n r g)) (oM n r) fun g _ => turn1 g
  show d9 [P] = _
  have y0' : ixP P (.int 0) = some (.str "classes") := y0 _ _
  have y1' : ixP P (.int 1) = some (.lst ((oM n r).map fun g => nL (Nb n r g))) := y1 _ _
  have l0 : lenV P = some (.int 2) := by simp [P]
  have t0 : nW tb_tuple P = some (.bl true) := by simp [P, tb_tuple]
  unfold d9 o9
  generalize fZ = BB at *
  generalize P = P' at *
  generalize ((oM n r).map fun g => nL (Nb n r g)) = G at *
  simp [-ixP, -lenV, -KH, y0', y1', l0, t0, lp, show nW tb_str (.str "classes") = some (.bl true) from by simp [tb_str], show nW tb_list (.lst G) = some (.bl true) from by simp [tb_list]]
omit rr rs hn in
theorem R5 : ∃ s q, lF n r = .tup [.str s, q] /\ (s = "classes" -> shT "classes" (lF n r) = true \/ ¬ n <= 999) := by
 unfold lF
 cases h : xn n r with
 | some v => exact ⟨_, _, rfl, fun z => absurd z (by decide +kernel)⟩
 | none =>
  refine ⟨_, _, rfl, fun _ => ?_⟩
  by_cases hq : n <= 999
  ·left
   have : (oM n r).length <= n := by
    have := List.length_filter_le (fun i => decide (hdN n r i = i)) (List.range n)
    rw [List.length_range] at this
    exact this
   show ((Str.ofString "classes" == Str.ofString "classes") && decide (((oM n r).map fun g => nL (Nb n r g)).length < 1000)) = true
   rw [beq_self_eq_true, Bool.true_and, decide_eq_true_eq, List.length_map]
   omega
  ·exact .inr hq
end
theorem law_true (ns : List Int) (h63 : ns.length <= 63) : v4 [.frz (ns.map PV.int)] = some (.bl true) := by
 obtain ⟨R, G, hR⟩ := Gs ns 1
 obtain ⟨rs, hrs, hn, hrows⟩ := La G (cell ns 0)
 obtain ⟨c1, hc1, lc1⟩ := Bg ns 7 13
 obtain ⟨ts, T, hts⟩ := G5 G c1 (by omega)
 obtain ⟨cut, hton, hc, hp, hlik⟩ := Ei G hrs hn hrows T
 obtain ⟨c2, hc2, lc2⟩ := Bg ns 13 22
 obtain ⟨ws, hws, lws, hw⟩ := G4 G T c2 (by omega)
 have tsO : ∀ x ∈ ts, PyData.strOk x.1 = true /\ PyData.strOk x.2 = true := fun x hx => ⟨(T.lo x hx).1.ok, (T.lo x hx).2.ok⟩
 have hW : (.lst (ws.map .str) : PV) = rgL ws.length fun i => .str (ws.getD i "") := by unfold rgL; rw [ww PV.str "" ws]
 have hm : ∀ i < ws.length, ws.getD i "" ∈ ws := fun i hi => by
  rw [List.getD_eq_getElem?_getD, List.getElem?_eq_getElem hi]
  exact List.getElem_mem hi
 have hE : ∀ i < ws.length, gw [.obj 0 (aN cut), .str (ws.getD i "")] = some (.lst ((endL R (ws.getD i "")).map .str)) := fun i hi => QS G hc hp (hws _ (hm i hi))
 have hER : ∀ i < ws.length, ∀ j < ws.length, dm [.obj 0 (aN cut), .lst ((endL R (ws.getD i "")).map .str), .lst ((endL R (ws.getD j "")).map .str)] = some (.bl (rhB ts (endL R (ws.getD i "")) (endL R (ws.getD j "")))) := fun i hi j hj => QT hlik (zf G (hws _ (hm i hi))).2.2 (zf G (hws _ (hm j hj))).2.2
 let r : Nat -> Nat -> Bool := fun i j => rhB ts (endL R (ws.getD i "")) (endL R (ws.getD j ""))
 have rr : ∀ i < ws.length, r i i = true := fun i _ => Jh _ _
 have rsy : ∀ i < ws.length, ∀ j < ws.length, r i j = true -> r j i = true := fun i _ j _ h => by
  show rhB ts (endL R (ws.getD j "")) (endL R (ws.getD i "")) = true
  rw [Jg]
  exact h
 have lw : ws.length <= 1000 := by omega
 have ch := Pk lw rr rsy (W := fun i => .str (ws.getD i "")) (E := fun i => .lst ((endL R (ws.getD i "")).map .str)) hE hER
 have du := Lr lw rr rsy
 have ea := Pn (n := ws.length) (r := r)
 have ka := G9 (r := r) lw
 obtain ⟨s0, q0, ha0, hsh⟩ := R5 (n := ws.length) (r := r)
 rw [← hW] at ch
 let S : PV := .frz (ns.map PV.int)
 let O : PV := .obj 0 (aN cut)
 let D : PV := .lst (ts.map tp)
 let WP : PV := .lst (ws.map .str)
 have ch : dN [O, WP] = some (lF ws.length r) := ch
 have t1 : aK 1 (aL eN (ak (bV 0) (ak (bC (.int 1)) aC))) [some S, none, none, none, none, none, none, none, none, none] = some (.nx [some S, some (au R), none, none, none, none, none, none, none, none]) := by
  have : eN [.frz (ns.map PV.int), .int 1] = some (au R) := hR
  simp [S, this]
 have t2 : aK 2 (aL h_ (ak (bV 1) (ak (bSl (bV 0) (oS (bC (.int 7))) (oS (bC (.int 13)))) aC))) [some S, some (au R), none, none, none, none, none, none, none, none] = some (.nx [some S, some (au R), some D, none, none, none, none, none, none, none]) := by
  have hc1' : g8 (ns.map PV.int) (some 7) (some 13) = c1.map PV.int := hc1
  generalize au R = RP at *
  simp [S, D, hc1', hts]
 have t3 : aK 3 (aL gB (ak (bV 0) (ak (bV 1) (ak (bV 2) aC)))) [some S, some (au R), some D, none, none, none, none, none, none, none] = some (.nx [some S, some (au R), some D, some O, none, none, none, none, none, none]) := by
  generalize au R = RP at *
  simp [S, D, O, hton]
 have t4 : aK 4 (aL ik (ak (bV 1) (ak (bV 2) (ak (bSl (bV 0) (oS (bC (.int 13))) (oS (bC (.int 22)))) aC)))) [some S, some (au R), some D, some O, none, none, none, none, none, none] = some (.nx [some S, some (au R), some D, some O, some WP, none, none, none, none, none]) := by
  have hc2' : g8 (ns.map PV.int) (some 13) (some 22) = c2.map PV.int := hc2
  generalize au R = RP at *
  simp [S, D, O, WP, hc2', hw]
 have t5 : aK 5 (b1 oG (bV 4)) [some S, some (au R), some D, some O, some WP, none, none, none, none, none] = some (.nx [some S, some (au R), some D, some O, some WP, some WP, none, none, none, none]) := by
  have : oG WP = some WP := by simp [WP]
  generalize au R = RP at *
  generalize S = S' at *
  generalize D = D' at *
  generalize O = O' at *
  generalize WP = W' at *
  simp [-oG, this]
 have t6 : aK 6 (b7 aC) [some S, some (au R), some D, some O, some WP, some WP, none, none, none, none] = some (.nx [some S, some (au R), some D, some O, some WP, some WP, some (.lst []), none, none, none]) := by
  generalize au R = RP at *
  generalize S = S' at *
  generalize D = D' at *
  generalize O = O' at *
  generalize WP = W' at *
  simp
 let row : Str -> PV := fun a => .lst (ws.map fun b => PV.bl (rhB ts (endL R a) (endL R b)))
 have inn : ∀ a ∈ ws, ∀ s : List Str, s.length <= 1000 -> turn (gN 7) [7] mq (.str a) [some S, some (au R), some D, some O, some WP, some WP, some (.lst (s.map row)), none, none, none] = some [some S, some (au R), some D, some O, some WP, some WP, some (.lst ((s ++ [a]).map row)), none, none, none] := fun a ha s hs => by
  have hcm := bw (env := [none, some (au R), some D, some (.str a)]) (g := gN 0) (f := pY) PV.str (fun b => PV.bl (rhB ts (endL R a) (endL R b))) ws fun b hb => ⟨[some (.str b), some (au R), some D, some (.str a)], rfl, by
   have := O6 G hc hp tsO (hws a ha) (hws b hb)
   unfold pY
   generalize gj = m at *
   generalize au R = RP at *
   simp [D, this]⟩
  have hl : (ws.map PV.str).length <= 1000000 := by simp; omega
  have hb : aV [none, some 1, some 2, some 7] (iV (bV 4)) (gN 0) aY pY [some S, some (au R), some D, some O, some WP, some WP, some (.lst (s.map row)), some (.str a), none, none] = some (row a) := by
   generalize au R = RP at *
   generalize S = S' at *
   generalize D = D' at *
   generalize O = O' at *
   generalize (s.map row) = RR at *
   simp [WP, row]
   simp only [WP, row] at *
   exact ⟨by omega, by rw [hcm]; rfl⟩
  have hlen : (s.map row).length < 1000000 := by simp; omega
  rw [List.map_append]
  show _ = some [some S, some (au R), some D, some O, some WP, some WP, some (.lst (s.map row ++ [row a])), none, none, none]
  unfold mq
  generalize aV [none, some 1, some 2, some 7] (iV (bV 4)) (gN 0) aY pY = BC at *
  generalize au R = RP at *
  generalize S = S' at *
  generalize D = D' at *
  generalize O = O' at *
  generalize WP = W' at *
  generalize (s.map row) = RR at *
  generalize row a = ra at *
  simp [cz, hb, hlen]
 have t7 : cN (gN 7) (iV (bV 4)) [7] mq [some S, some (au R), some D, some O, some WP, some WP, some (.lst []), none, none, none] = some (.nx [some S, some (au R), some D, some O, some WP, some WP, some (rwP ws.length r), none, none, none]) := by
  have lp := j6 (g := gN 7) (ds := [7]) (body := mq) PV.str (fun s : List Str => [some S, some (au R), some D, some O, some WP, some WP, some (.lst (s.map row)), none, none, none]) (fun s a => s ++ [a]) (fun s => s.length) (fun _ => 1) 1000 (fun _ => True) ws [] trivial (by rw [oh]; simp; omega) fun a ha s _ hs => ⟨by simp, trivial, inn a ha s (by omega)⟩
  have hf : ∀ (l s : List Str), l.foldl (fun s a => s ++ [a]) s = s ++ l := by
   intro l
   induction l with
   | nil => simp
   | cons a l ih => intro s; rw [List.foldl_cons, ih]; simp
  rw [hf, List.nil_append] at lp
  have hrow : (.lst (ws.map row) : PV) = rwP ws.length r := by
   unfold rwP rgL
   rw [ww row "" ws]
   congr 1
   apply List.map_congr_left
   intro i _
   show PV.lst (ws.map fun b => _) = _
   rw [ww (fun b => PV.bl (rhB ts (endL R (ws.getD i "")) (endL R b))) "" ws]
  rw [hrow] at lp
  have hit : itV WP = some (ws.map .str) := rfl
  have lp : bF (gN 7) [7] mq (ws.map .str) [some S, some (au R), some D, some O, some WP, some WP, some (.lst []), none, none, none] = _ := lp
  generalize mq = BB at *
  generalize au R = RP at *
  generalize S = S' at *
  generalize D = D' at *
  generalize O = O' at *
  generalize WP = W' at *
  generalize rwP ws.length r = RW at *
  generalize ws.map PV.str = L at *
  simp [-itV, hit, lp]
 have okw : eqP WP WP = some true := by
  have := rC (fun w h => (hws w h).t.ok) (fun w h => (hws w h).t.ok)
  rw [decide_eq_true rfl] at this
  exact this
 have y0 : ixP (lF ws.length r) (.int 0) = some (.str s0) := by rw [ha0]; exact at0 _ _
 have e : vZ [some S, none, none, none, none, none, none, none, none, none] = some (.rt (.bl true)) := by
  unfold vZ
  rw [aF t1, aF t2, aF t3, aF t4, aF t5, aF t6, aF t7]
  have hsh' : s0 = "classes" -> shT "classes" (lF ws.length r) = true := fun z => (hsh z).resolve_right (by omega)
  generalize lF ws.length r = AN at *
  generalize rwP ws.length r = RW at *
  generalize au R = RP at *
  generalize S = S' at *
  generalize D = D' at *
  generalize O = O' at *
  generalize WP = W' at *
  generalize dN = m1 at *
  generalize gA = m2 at *
  generalize d9 = m3 at *
  by_cases hs0 : s0 = Str.ofString "classes"
  ·have := hsh' hs0
   simp [-ixP, ch, du, ea, ka, okw, y0, hs0, this]
  ·simp [-ixP, ch, du, ea, ka, okw, y0, hs0]
 have e' : vZ [some (.frz (ns.map PV.int)), none, none, none, none, none, none, none, none, none] = some (.rt (.bl true)) := e
 simp [v4, e']
end My
namespace My
open PySem L2 MR
def top (i : Nat) : Stmt := PySem.Challenge.pw_lilt_k63_classes_or_broken.main.body.getD i (.Pass ⟨0, 0, 0, 0⟩)
abbrev gC : Stmt := top 34
abbrev iz : Stmt := top 35
abbrev kZ : Stmt := top 36
abbrev gF : Stmt := top 37
abbrev bU : Stmt := top 38
abbrev gM : Stmt := top 43
abbrev iI : Stmt := top 39
abbrev iB : Stmt := top 18
abbrev k_ : Stmt := top 19
abbrev jg : Stmt := top 20
abbrev jT : Stmt := top 10
abbrev fc : Stmt := top 11
abbrev jh : Stmt := top 12
abbrev gO : Stmt := top 13
abbrev mH : Stmt := top 14
abbrev cJ : Stmt := top 16
abbrev gP : Stmt := top 15
abbrev jo : Stmt := top 17
abbrev bZ : Stmt := inClass (top 21) 0
abbrev gn : Stmt := top 49
abbrev ji : Stmt := top 42
abbrev lg : Stmt := top 44
abbrev dB : Stmt := top 45
abbrev jU : Stmt := top 46
abbrev jk : Stmt := top 40
abbrev iJ : Stmt := top 41
abbrev jl : Stmt := top 47
abbrev dC : Stmt := top 31
abbrev dW : Stmt := inClass (top 21) 1
abbrev jq : Stmt := top 24
abbrev fj : Stmt := top 25
abbrev dX : Stmt := inClass (top 21) 2
abbrev lq : Stmt := top 26
abbrev my : Stmt := top 28
abbrev f9 : Stmt := inClass (top 21) 7
abbrev gQ : Stmt := top 29
abbrev jG : Stmt := top 30
abbrev fC : Stmt := top 32
abbrev jH : Stmt := top 50
abbrev gR : Stmt := top 51
abbrev jm : Stmt := top 48
abbrev oO : Stmt := top 52
theorem wy : FnScope ["_law_script", "_law_k"] ["_law_script", "_law_k"] (ao gC) := fsc
theorem sc__law_letter : FnScope ["_law_cell", "_law_k", "_law_step"] ["_law_cell", "_law_k"] (ao iz) := fsc
theorem Bv : FnScope ["_law_cell", "_law_k"] ["_law_cell", "_law_k"] (ao kZ) := fsc
theorem sc__law_cluster : FnScope ["_law_base", "_law_many", "_law_number", "_law_found", "_law_k"] ["_law_base", "_law_many", "_law_number"] (ao gF) := fsc
theorem sc__law_record : FnScope ["_law_script", "_law_at", "_law_cells", "_law_base", "_law_many", "_law_carriers", "_law_pairs", "_law_k", "_law_number", "_law_weights", "_law_some", "_law_longs", "_law_eithers", "_law_begins", "_law_splits", "_law_run"] ["_law_script", "_law_at"] (ao bU) := fsc
theorem sc__law_likes : FnScope ["_law_record_here", "_law_cells", "_law_carriers", "_law_stops", "_law_told", "_law_cell", "_law_some"] ["_law_record_here", "_law_cells"] (ao gM) := fsc
theorem sc__law_rows : FnScope ["_law_record_here", "_law_cell", "_law_rows_here", "_law_k", "_law_word_here", "_law_some", "_law_middle"] ["_law_record_here", "_law_cell"] (ao iI) := fsc
theorem sc_told_behind : FnScope ["kind", "rows", "told", "row", "word"] ["kind", "rows"] (ao iB) := fsc
theorem sc_last_run : FnScope ["rows", "told", "row"] ["rows"] (ao k_) := fsc
theorem sc_told_alike : FnScope ["rows", "told", "row"] ["rows"] (ao jg) := fsc
theorem Bh : FnScope ["text"] ["text"] (ao jT) := fsc
theorem wz : FnScope ["row"] ["row"] (ao fc) := fsc
theorem yC : FnScope ["carrying", "word"] ["carrying", "word"] (ao jh) := fsc
theorem yD : FnScope ["carrying", "row"] ["carrying", "row"] (ao gO) := fsc
theorem Ek : FnScope ["carrying", "text"] ["carrying", "text"] (ao mH) := fsc
theorem t_ : FnScope ["carrying", "carriers", "words"] ["carrying", "carriers", "words"] (ao cJ) := fsc
theorem yE : FnScope ["carrying", "word"] ["carrying", "word"] (ao gP) := fsc
theorem sc_is_rule : FnScope ["carrying", "pairs", "row", "kind", "words", "carriers"] ["carrying", "pairs", "row"] (ao jo) := fsc
theorem sc_Tongue____init__ : FnScope ["self", "rows", "cut", "at", "row"] ["self", "rows"] (ao bZ) := fsc
theorem sc__law_tongue : FnScope ["_law_script", "_law_record_here", "_law_told", "_law_rows_here"] ["_law_script", "_law_record_here", "_law_told"] (ao gn) := fsc
theorem sc__law_units : FnScope ["_law_record_here", "_law_word_here", "_law_found", "_law_size"] ["_law_record_here", "_law_word_here"] (ao ji) := fsc
theorem sc__law_end : FnScope ["_law_record_here", "_law_word_here", "_law_found", "_law_unit"] ["_law_record_here", "_law_word_here"] (ao lg) := fsc
theorem sc__law_put_for : FnScope ["_law_told", "_law_unit", "_law_number", "_law_some"] ["_law_told", "_law_unit", "_law_number"] (ao dB) := fsc
theorem sc__law_echo : FnScope ["_law_record_here", "_law_told", "_law_word_here", "_law_cell", "_law_end_here", "_law_ahead", "_law_found", "_law_k"] ["_law_record_here", "_law_told", "_law_word_here", "_law_cell"] (ao jU) := fsc
theorem sc__law_piece : FnScope ["_law_record_here", "_law_number", "_law_many", "_law_way", "_law_more"] ["_law_record_here", "_law_number"] (ao jk) := fsc
theorem sc__law_word : FnScope ["_law_record_here", "_law_cell", "_law_word_here", "_law_k"] ["_law_record_here", "_law_cell"] (ao iJ) := fsc
theorem sc__law_words : FnScope ["_law_record_here", "_law_told", "_law_cells", "_law_words_here", "_law_cell"] ["_law_record_here", "_law_told", "_law_cells"] (ao jl) := fsc
theorem sc_first_broken : FnScope ["mates", "one", "near", "beside", "middle", "far"] ["mates"] (ao dC) := fsc
theorem uc : FnScope ["self", "letter"] ["self", "letter"] (ao dW) := fsc
theorem El : FnScope ["tongue", "thing"] ["tongue", "thing"] (ao jq) := fsc
theorem uJ : FnScope ["tongue", "thing"] ["tongue", "thing"] (ao fj) := fsc
theorem ud : FnScope ["self", "pair"] ["self", "pair"] (ao dX) := fsc
theorem sc_units_of : FnScope ["tongue", "word", "units", "at", "size"] ["tongue", "word"] (ao lq) := fsc
theorem sc_end_of : FnScope ["tongue", "word", "units", "last"] ["tongue", "word"] (ao my) := fsc
theorem vB : FnScope ["self", "one", "other"] ["self", "one", "other"] (ao f9) := fsc
theorem yF : FnScope ["tongue", "one", "other"] ["tongue", "one", "other"] (ao gQ) := fsc
theorem Bw : FnScope ["tongue", "ends", "end"] ["tongue", "ends", "end"] (ao jG) := fsc
theorem sc_chains_of : FnScope ["tongue", "words", "ends", "mates", "broken"] ["tongue", "words"] (ao fC) := fsc
theorem sc__law_due : FnScope ["_law_rows_here", "_law_i", "_law_j", "_law_k", "_law_found", "_law_some"] ["_law_rows_here"] (ao jH) := fsc
theorem sc__law_kinds : FnScope ["_law_found", "_law_row"] ["_law_found"] (ao gR) := fsc
theorem sc__law_rhyme : FnScope ["_law_record_here", "_law_told", "_law_one", "_law_other", "_law_mine", "_law_theirs", "_law_k"] ["_law_record_here", "_law_told", "_law_one", "_law_other"] (ao jm) := fsc
theorem sc_law : FnScope ["_law_script", "_law_record_here", "_law_told", "_law_tongue_here", "_law_words_here", "_law_kept", "_law_rows_here", "_law_one", "_law_found", "_law_due_here"] ["_law_script"] (ao oO) := fsc
structure Adr where
 a0 : Nat := 0
 t_LEAST_STOPS : Tok
 t_LETTERS : Tok
 t_MOST_LETTERS : Tok
 t_MOST_STOPS : Tok
 a_RUNS : Addr
structure Q7 (P : Program) (w : World) (K : W.Frag) (mg : Str -> Option Value) (base : Heap) (cl : Nat -> Addr) (A : Adr) : Prop
section
variable (P : Program) (w : World) (K : W.Frag) (mg : Str -> Option Value) (base : Heap) (cl : Nat -> Addr) (A : Adr)
structure Tx__law_cell_at : Prop where
 q : Q7 P w K mg base cl A
 z_len : mg "len" = none
structure Tx__law_letter : Prop where
 q : Q7 P w K mg base cl A
structure Tx__law_mix : Prop where
 q : Q7 P w K mg base cl A
structure Tx__law_cluster : Prop where
 q : Q7 P w K mg base cl A
 z_range : mg "range" = none
 c__law_letter : Cal P w K mg base 1 "_law_letter" ["_law_cell", "_law_k"] (spM ⟨K, cl⟩ bf false)
structure Tx__law_record : Prop where
 q : Q7 P w K mg base cl A
 z_len : mg "len" = none
 z_range : mg "range" = none
 c__law_cell_at : Cal P w K mg base 1 "_law_cell_at" ["_law_script", "_law_k"] (spM ⟨K, cl⟩ cA false)
 c__law_cluster : Cal P w K mg base 2 "_law_cluster" ["_law_base", "_law_many", "_law_number"] (spM ⟨K, cl⟩ fO false)
 c__law_letter : Cal P w K mg base 1 "_law_letter" ["_law_cell", "_law_k"] (spM ⟨K, cl⟩ bf false)
 c__law_mix : Cal P w K mg base 1 "_law_mix" ["_law_cell", "_law_k"] (spM ⟨K, cl⟩ cG false)
structure Tx__law_likes : Prop where
 q : Q7 P w K mg base cl A
 z_len : mg "len" = none
 z_range : mg "range" = none
 c__law_letter : Cal P w K mg base 1 "_law_letter" ["_law_cell", "_law_k"] (spM ⟨K, cl⟩ bf false)
structure Tx__law_rows : Prop where
 q : Q7 P w K mg base cl A
 z_enumerate : mg "enumerate" = none
 z_len : mg "len" = none
structure Tx_told_behind : Prop where
 q : Q7 P w K mg base cl A
structure Tx_last_run : Prop where
 q : Q7 P w K mg base cl A
structure Tx_told_alike : Prop where
 q : Q7 P w K mg base cl A
structure Tx_is_letter : Prop where
 q : Q7 P w K mg base cl A
 z_len : mg "len" = none
 g_LETTERS : mg "LETTERS" = some (.str "abcdefghijklmnopqrstuvwxyz" A.t_LETTERS)
structure Tx_is_carry_row : Prop where
 q : Q7 P w K mg base cl A
 z_all : mg "all" = none
 z_len : mg "len" = none
 c_is_letter : Cal P w K mg base 1 "is_letter" ["text"] (spM ⟨K, cl⟩ dJ false)
structure Tx_is_pair_of : Prop where
 q : Q7 P w K mg base cl A
 z_len : mg "len" = none
structure Tx_is_one_row : Prop where
 q : Q7 P w K mg base cl A
 z_all : mg "all" = none
 z_len : mg "len" = none
 c_is_pair_of : Cal P w K mg base 1 "is_pair_of" ["carrying", "word"] (spM ⟨K, cl⟩ jL false)
structure Tx_is_stop : Prop where
 q : Q7 P w K mg base cl A
 c_is_letter : Cal P w K mg base 1 "is_letter" ["text"] (spM ⟨K, cl⟩ dJ false)
structure Tx_are_alike_units : Prop where
 q : Q7 P w K mg base cl A
 z_all : mg "all" = none
 z_len : mg "len" = none
 c_is_stop : Cal P w K mg base 2 "is_stop" ["carrying", "text"] (spM ⟨K, cl⟩ jz false)
structure Tx_is_cluster : Prop where
 q : Q7 P w K mg base cl A
 z_all : mg "all" = none
 z_len : mg "len" = none
 g_LEAST_STOPS : mg "LEAST_STOPS" = some (.int 2 A.t_LEAST_STOPS)
 g_MOST_STOPS : mg "MOST_STOPS" = some (.int 4 A.t_MOST_STOPS)
 c_is_stop : Cal P w K mg base 2 "is_stop" ["carrying", "text"] (spM ⟨K, cl⟩ jz false)
structure Tx_is_rule : Prop where
 q : Q7 P w K mg base cl A
 z_all : mg "all" = none
 z_len : mg "len" = none
 z_list : mg "list" = none
 g_RUNS : mg "RUNS" = some (.ref A.a_RUNS)
 r_RUNS : ∀ (B : Addr -> Prop) (H : Hp), Rep ⟨K, cl⟩ B H (.ref A.a_RUNS) qN
 c_are_alike_units : Cal P w K mg base 3 "are_alike_units" ["carrying", "carriers", "words"] (spM ⟨K, cl⟩ fG false)
 c_is_carry_row : Cal P w K mg base 2 "is_carry_row" ["row"] (spM ⟨K, cl⟩ cY false)
 c_is_cluster : Cal P w K mg base 3 "is_cluster" ["carrying", "word"] (spM ⟨K, cl⟩ jM false)
 c_is_one_row : Cal P w K mg base 2 "is_one_row" ["carrying", "row"] (spM ⟨K, cl⟩ dY false)
structure Tx_Tongue____init__ : Prop where
 q : Q7 P w K mg base cl A
 z_enumerate : mg "enumerate" = none
 cl_Tongue : Cls K (cl 0)
 n_Tongue_beginnings : NoAttr K (cl 0) "beginnings"
 n_Tongue_carrying : NoAttr K (cl 0) "carrying"
 n_Tongue_eithers : NoAttr K (cl 0) "eithers"
 n_Tongue_likes : NoAttr K (cl 0) "likes"
 n_Tongue_longs : NoAttr K (cl 0) "longs"
 n_Tongue_pairs : NoAttr K (cl 0) "pairs"
 n_Tongue_running : NoAttr K (cl 0) "running"
 n_Tongue_splittings : NoAttr K (cl 0) "splittings"
 c_is_carry_row : Cal P w K mg base 2 "is_carry_row" ["row"] (spM ⟨K, cl⟩ cY false)
 c_is_one_row : Cal P w K mg base 2 "is_one_row" ["carrying", "row"] (spM ⟨K, cl⟩ dY false)
 c_is_rule : Cal P w K mg base 4 "is_rule" ["carrying", "pairs", "row"] (spM ⟨K, cl⟩ mY false)
 c_last_run : Cal P w K mg base 1 "last_run" ["rows"] (spM ⟨K, cl⟩ jP false)
 c_told_alike : Cal P w K mg base 1 "told_alike" ["rows"] (spM ⟨K, cl⟩ ie false)
 c_told_behind : Cal P w K mg base 1 "told_behind" ["kind", "rows"] (spM ⟨K, cl⟩ bj false)
structure Tx__law_tongue : Prop where
 q : Q7 P w K mg base cl A
 c__law_cell_at : Cal P w K mg base 1 "_law_cell_at" ["_law_script", "_law_k"] (spM ⟨K, cl⟩ cA false)
 c__law_rows : Cal P w K mg base 1 "_law_rows" ["_law_record_here", "_law_cell"] (spM ⟨K, cl⟩ gH true)
 i_Tongue : CalI P w K mg base (cl 0) 5 "Tongue" ["self", "rows"] (spI ⟨K, cl⟩ 0 cO)
structure Tx__law_units : Prop where
 q : Q7 P w K mg base cl A
 z_int : mg "int" = none
structure Tx__law_end : Prop where
 q : Q7 P w K mg base cl A
 z_len : mg "len" = none
 c__law_units : Cal P w K mg base 1 "_law_units" ["_law_record_here", "_law_word_here"] (spM ⟨K, cl⟩ ig false)
structure Tx__law_put_for : Prop where
 q : Q7 P w K mg base cl A
 z_len : mg "len" = none
structure Tx__law_echo : Prop where
 q : Q7 P w K mg base cl A
 z_len : mg "len" = none
 z_range : mg "range" = none
 c__law_end : Cal P w K mg base 2 "_law_end" ["_law_record_here", "_law_word_here"] (spM ⟨K, cl⟩ cg false)
 c__law_letter : Cal P w K mg base 1 "_law_letter" ["_law_cell", "_law_k"] (spM ⟨K, cl⟩ bf false)
 c__law_mix : Cal P w K mg base 1 "_law_mix" ["_law_cell", "_law_k"] (spM ⟨K, cl⟩ cG false)
 c__law_put_for : Cal P w K mg base 1 "_law_put_for" ["_law_told", "_law_unit", "_law_number"] (spM ⟨K, cl⟩ fY false)
structure Tx__law_piece : Prop where
 q : Q7 P w K mg base cl A
 z_len : mg "len" = none
 c__law_letter : Cal P w K mg base 1 "_law_letter" ["_law_cell", "_law_k"] (spM ⟨K, cl⟩ bf false)
structure Tx__law_word : Prop where
 q : Q7 P w K mg base cl A
 z_len : mg "len" = none
 z_range : mg "range" = none
 c__law_mix : Cal P w K mg base 1 "_law_mix" ["_law_cell", "_law_k"] (spM ⟨K, cl⟩ cG false)
 c__law_piece : Cal P w K mg base 2 "_law_piece" ["_law_record_here", "_law_number"] (spM ⟨K, cl⟩ dj false)
structure Tx__law_words : Prop where
 q : Q7 P w K mg base cl A
 z_len : mg "len" = none
 c__law_echo : Cal P w K mg base 3 "_law_echo" ["_law_record_here", "_law_told", "_law_word_here", "_law_cell"] (spM ⟨K, cl⟩ fH false)
 c__law_word : Cal P w K mg base 3 "_law_word" ["_law_record_here", "_law_cell"] (spM ⟨K, cl⟩ fJ false)
structure Tx_first_broken : Prop where
 q : Q7 P w K mg base cl A
 z_dict : mg "dict" = none
 z_enumerate : mg "enumerate" = none
 z_len : mg "len" = none
structure Tx_Tongue__carries : Prop where
 q : Q7 P w K mg base cl A
 cl_Tongue : Cls K (cl 0)
 n_Tongue_carrying : NoAttr K (cl 0) "carrying"
structure Tx_is_word : Prop where
 q : Q7 P w K mg base cl A
 z_all : mg "all" = none
 z_any : mg "any" = none
 z_isinstance : mg "isinstance" = none
 z_len : mg "len" = none
 z_str : mg "str" = none
 is_str : ∀ t k, (t, k) ∈ tb_str -> PySem.W.kitOne K (.type t) (.type "str") = some k
 g_MOST_LETTERS : mg "MOST_LETTERS" = some (.int 24 A.t_MOST_LETTERS)
 cl_Tongue : Cls K (cl 0)
 c_is_letter : Cal P w K mg base 1 "is_letter" ["text"] (spM ⟨K, cl⟩ dJ false)
 m_Tongue__carries : CalM P w K mg base (cl 0) 1 "carries" ["self", "letter"] (spM ⟨K, cl⟩ cT false)
structure Tx_refuse_no_word : Prop where
 q : Q7 P w K mg base cl A
 c_is_word : Cal P w K mg base 2 "is_word" ["tongue", "thing"] (spM ⟨K, cl⟩ m9 false)
structure Tx_Tongue__is_pair : Prop where
 q : Q7 P w K mg base cl A
 cl_Tongue : Cls K (cl 0)
 n_Tongue_pairs : NoAttr K (cl 0) "pairs"
structure Tx_units_of : Prop where
 q : Q7 P w K mg base cl A
 z_len : mg "len" = none
 cl_Tongue : Cls K (cl 0)
 c_refuse_no_word : Cal P w K mg base 3 "refuse_no_word" ["tongue", "thing"] (spM ⟨K, cl⟩ dU false)
 m_Tongue__is_pair : CalM P w K mg base (cl 0) 1 "is_pair" ["self", "pair"] (spM ⟨K, cl⟩ fK false)
structure Tx_end_of : Prop where
 q : Q7 P w K mg base cl A
 z_enumerate : mg "enumerate" = none
 z_max : mg "max" = none
 cl_Tongue : Cls K (cl 0)
 c_units_of : Cal P w K mg base 4 "units_of" ["tongue", "word"] (spM ⟨K, cl⟩ jQ false)
 m_Tongue__carries : CalM P w K mg base (cl 0) 1 "carries" ["self", "letter"] (spM ⟨K, cl⟩ cT false)
structure Tx_Tongue__alike : Prop where
 q : Q7 P w K mg base cl A
 cl_Tongue : Cls K (cl 0)
 n_Tongue_likes : NoAttr K (cl 0) "likes"
structure Tx_ends_rhyme : Prop where
 q : Q7 P w K mg base cl A
 z_all : mg "all" = none
 z_len : mg "len" = none
 z_zip : mg "zip" = none
 cl_Tongue : Cls K (cl 0)
 m_Tongue__alike : CalM P w K mg base (cl 0) 1 "alike" ["self", "one", "other"] (spM ⟨K, cl⟩ dw false)
structure Tx_mates_of : Prop where
 q : Q7 P w K mg base cl A
 z_enumerate : mg "enumerate" = none
 c_ends_rhyme : Cal P w K mg base 2 "ends_rhyme" ["tongue", "one", "other"] (spM ⟨K, cl⟩ dm false)
structure Tx_chains_of : Prop where
 q : Q7 P w K mg base cl A
 z_enumerate : mg "enumerate" = none
 c_end_of : Cal P w K mg base 5 "end_of" ["tongue", "word"] (spM ⟨K, cl⟩ gw false)
 c_first_broken : Cal P w K mg base 1 "first_broken" ["mates"] (spM ⟨K, cl⟩ dM false)
 c_mates_of : Cal P w K mg base 3 "mates_of" ["tongue", "ends", "end"] (spM ⟨K, cl⟩ jR false)
structure Tx__law_due : Prop where
 q : Q7 P w K mg base cl A
 z_len : mg "len" = none
 z_range : mg "range" = none
structure Tx__law_kinds : Prop where
 q : Q7 P w K mg base cl A
 z_bool : mg "bool" = none
 z_int : mg "int" = none
 z_isinstance : mg "isinstance" = none
 z_len : mg "len" = none
 z_list : mg "list" = none
 z_str : mg "str" = none
 z_tuple : mg "tuple" = none
 is_bool : ∀ t k, (t, k) ∈ tb_bool -> PySem.W.kitOne K (.type t) (.type "bool") = some k
 is_int : ∀ t k, (t, k) ∈ tb_int -> PySem.W.kitOne K (.type t) (.type "int") = some k
 is_list : ∀ t k, (t, k) ∈ tb_list -> PySem.W.kitOne K (.type t) (.type "list") = some k
 is_str : ∀ t k, (t, k) ∈ tb_str -> PySem.W.kitOne K (.type t) (.type "str") = some k
 is_tuple : ∀ t k, (t, k) ∈ tb_tuple -> PySem.W.kitOne K (.type t) (.type "tuple") = some k
structure Tx__law_rhyme : Prop where
 q : Q7 P w K mg base cl A
 z_len : mg "len" = none
 z_range : mg "range" = none
 c__law_end : Cal P w K mg base 2 "_law_end" ["_law_record_here", "_law_word_here"] (spM ⟨K, cl⟩ cg false)
structure Tx_law : Prop where
 q : Q7 P w K mg base cl A
 z_list : mg "list" = none
 c__law_due : Cal P w K mg base 1 "_law_due" ["_law_rows_here"] (spM ⟨K, cl⟩ gA false)
 c__law_kinds : Cal P w K mg base 1 "_law_kinds" ["_law_found"] (spM ⟨K, cl⟩ d9 false)
 c__law_likes : Cal P w K mg base 2 "_law_likes" ["_law_record_here", "_law_cells"] (spM ⟨K, cl⟩ h_ false)
 c__law_record : Cal P w K mg base 3 "_law_record" ["_law_script", "_law_at"] (spM ⟨K, cl⟩ eN false)
 c__law_rhyme : Cal P w K mg base 3 "_law_rhyme" ["_law_record_here", "_law_told", "_law_one", "_law_other"] (spM ⟨K, cl⟩ gj false)
 c__law_tongue : Cal P w K mg base 7 "_law_tongue" ["_law_script", "_law_record_here", "_law_told"] (spM ⟨K, cl⟩ gB false)
 c__law_words : Cal P w K mg base 4 "_law_words" ["_law_record_here", "_law_told", "_law_cells"] (spM ⟨K, cl⟩ ik false)
 c_chains_of : Cal P w K mg base 6 "chains_of" ["tongue", "words"] (spN "classes" ⟨K, cl⟩ dN)
end
section
variable {P : Program} {w : World} {K : PySem.W.Frag} {mg : Str -> Option Value} {base : Heap} {cl : Nat -> Addr} {A : Adr} {f : Addr} {fd : FuncData}
theorem wA (F : Fun K "_law_cell_at" "_law_cell_at" gC f fd) (T : Tx__law_cell_at P w K mg base cl A) : FnOk P w K mg base CX0 1 f fd ["_law_script", "_law_k"] (spM ⟨K, cl⟩ cA false) := by
 refine fok F wy (G := []) (G' := []) (L := []) fun _ _ _ _ _ _ hr _ _ => ?_
 exact (az (cR (aR (Dw (aa 1) (aZ T.z_len (aa 0)))) (aB (aU (aG hr (aa 0) (aa 1)))) bH) (aB (aU aq)))
theorem xr (F : Fun K "_law_letter" "_law_letter" iz f fd) (T : Tx__law_letter P w K mg base cl A) : FnOk P w K mg base CX0 1 f fd ["_law_cell", "_law_k"] (spM ⟨K, cl⟩ bf false) := by
 refine fok F sc__law_letter (G := []) (G' := []) (L := []) fun _ _ _ _ _ _ hr _ _ => ?_
 exact (az (bc 2 sc__law_letter.nd (aG hr (cj (aj aq (aj aq (aj aq (aj aq (aj aq (aj aq (aj aq (aj aq aA))))))))) (bM (dF (aa 0) aq) aq))) (aB (aU (aG hr aX (bM (bz (aa 0) (sG (aa 1) (aa 2))) aq)))))
theorem Bx (F : Fun K "_law_mix" "_law_mix" kZ f fd) (T : Tx__law_mix P w K mg base cl A) : FnOk P w K mg base CX0 1 f fd ["_law_cell", "_law_k"] (spM ⟨K, cl⟩ cG false) := by
 refine fok F Bv (G := []) (G' := []) (L := []) fun _ _ _ _ _ _ hr _ _ => ?_
 exact (aB (aU (bM (bz (sG (bM (aa 0) aq) (bz aq (sG (sG aq (aa 1)) (aa 1)))) (sG aq (aa 1))) aq)))
theorem wB (F : Fun K "_law_cluster" "_law_cluster" gF f fd) (T : Tx__law_cluster P w K mg base cl A) : FnOk P w K mg base CX0 2 f fd ["_law_base", "_law_many", "_law_number"] (spM ⟨K, cl⟩ fO false) := by
 refine fok F sc__law_cluster (G := []) (G' := []) (L := []) fun _ _ _ _ _ _ hr _ _ => ?_
 exact (az (bc 3 sc__law_cluster.nd aX) (az (eF [4] (gW T.z_range (bz aq (bM (aa 2) aq))) (ju 4 sc__law_cluster.nd) (aB (bc 3 sc__law_cluster.nd (bz (aa 3) (aJ T.c__law_letter hr (aj (aa 0) (aj (bz (aa 1) (bM (dF (aa 2) (aG hr (cj (aj aq (aj aq (aj aq (aj aq aA))))) (aa 4))) (aG hr (cj (aj aq (aj aq aA))) (bM (dF (aa 2) aq) aq)))) aA)))))) PassesOwn.never) (aB (aU (aa 3)))))
theorem xu (F : Fun K "_law_record" "_law_record" bU f fd) (T : Tx__law_record P w K mg base cl A) : FnOk P w K mg base CX0 3 f fd ["_law_script", "_law_at"] (spM ⟨K, cl⟩ eN false) := by
 refine fok F sc__law_record (G := [6]) (G' := []) (L := []) fun _ _ _ _ _ _ hr _ _ => ?_
 exact (az (bc 2 sc__law_record.nd (SE.val (bN (osc := (ao bU)) (ON := ["_law_script", "_law_at", "_law_cells", "_law_base", "_law_many", "_law_carriers", "_law_pairs", "_law_k", "_law_number", "_law_weights", "_law_some", "_law_longs", "_law_eithers", "_law_begins", "_law_splits", "_law_run"]) (N := ["_law_k", "_law_script", "_law_at"]) (cap := [none, some 0, some 1]) csc (dI 0) (gW T.z_range aq) (fun _ _ _ _ => b_ 0) (fun _ _ _ _ => bQ) (fun _ _ _ _ => (aJ T.c__law_cell_at hr (aj (aa 1) (aj (bz (aa 2) (aa 0)) aA))))))) (az (bc 3 sc__law_record.nd (aG hr (aa 2) aq)) (az (bc 4 sc__law_record.nd (bz aq (bM (aG hr (aa 2) aq) aq))) (az (mU 5 sc__law_record.nd (osc := (ao bU)) (ON := ["_law_script", "_law_at", "_law_cells", "_law_base", "_law_many", "_law_carriers", "_law_pairs", "_law_k", "_law_number", "_law_weights", "_law_some", "_law_longs", "_law_eithers", "_law_begins", "_law_splits", "_law_run"]) (N := ["_law_k", "_law_base"]) (cap := [none, some 3]) csc (dI 0) (gW T.z_range (aa 4)) (fun _ _ _ _ => b_ 0) (fun _ _ _ _ => bQ) (fun _ _ _ _ => (aJ T.c__law_letter hr (aj (aa 1) (aj (aa 0) aA))))) (az (iY 6 sc__law_record.nd (cj aA)) (az (eF [7, 8] (gW T.z_range (bM (dF (aG hr (aa 2) aq) aq) aq)) (ju 7 sc__law_record.nd) (az (bc 8 sc__law_record.nd (aJ T.c__law_mix hr (aj (aG hr (aa 2) aq) (aj (aa 7) aA)))) (aB (mR 6 (bz (aG hr (aa 5) (bM (aa 8) (aa 4))) (aG hr (aa 5) (bM (dF (aa 8) aq) (aa 4))))))) PassesOwn.never) (az (bc 9 sc__law_record.nd (SE.val (bN (osc := (ao bU)) (ON := ["_law_script", "_law_at", "_law_cells", "_law_base", "_law_many", "_law_carriers", "_law_pairs", "_law_k", "_law_number", "_law_weights", "_law_some", "_law_longs", "_law_eithers", "_law_begins", "_law_splits", "_law_run"]) (N := ["_law_k", "_law_cells"]) (cap := [none, some 2]) csc (dI 0) (gW T.z_range (bz (aa 4) (aZ T.z_len (nQ 6)))) (fun _ _ _ _ => b_ 0) (fun _ _ _ _ => bQ) (fun _ _ _ _ => (bM (aJ T.c__law_mix hr (aj (aG hr (aa 1) aq) (aj (aa 0) aA))) aq))))) (az (bc 10 sc__law_record.nd (bz (aa 5) (nQ 6))) (az (mU 11 sc__law_record.nd (osc := (ao bU)) (ON := ["_law_script", "_law_at", "_law_cells", "_law_base", "_law_many", "_law_carriers", "_law_pairs", "_law_k", "_law_number", "_law_weights", "_law_some", "_law_longs", "_law_eithers", "_law_begins", "_law_splits", "_law_run"]) (N := ["_law_k", "_law_some", "_law_weights"]) (cap := [none, some 10, some 9]) csc (dI 0) (gW T.z_range (aZ T.z_len (aa 10))) (fun _ _ _ _ => b_ 0) (fun _ _ _ _ => eG (aR (jV hr (aG hr (aa 2) (aa 0)) (iD (aj aq (aj aq aA)))))) (fun _ _ _ _ => (aG hr (aa 1) (aa 0)))) (az (mU 12 sc__law_record.nd (osc := (ao bU)) (ON := ["_law_script", "_law_at", "_law_cells", "_law_base", "_law_many", "_law_carriers", "_law_pairs", "_law_k", "_law_number", "_law_weights", "_law_some", "_law_longs", "_law_eithers", "_law_begins", "_law_splits", "_law_run"]) (N := ["_law_k", "_law_some", "_law_weights"]) (cap := [none, some 10, some 9]) csc (dI 0) (gW T.z_range (aZ T.z_len (aa 10))) (fun _ _ _ _ => b_ 0) (fun _ _ _ _ => eG (aR (pA (aG hr (aa 2) (aa 0)) aq))) (fun _ _ _ _ => (aG hr (aa 1) (aa 0)))) (az (mU 13 sc__law_record.nd (osc := (ao bU)) (ON := ["_law_script", "_law_at", "_law_cells", "_law_base", "_law_many", "_law_carriers", "_law_pairs", "_law_k", "_law_number", "_law_weights", "_law_some", "_law_longs", "_law_eithers", "_law_begins", "_law_splits", "_law_run"]) (N := ["_law_k", "_law_base", "_law_many", "_law_cells"]) (cap := [none, some 3, some 4, some 2]) csc (dI 0) (gW T.z_range (bM (dF (aG hr (aa 2) aq) aq) aq)) (fun _ _ _ _ => b_ 0) (fun _ _ _ _ => bQ) (fun _ _ _ _ => (aJ T.c__law_cluster hr (aj (aa 1) (aj (aa 2) (aj (aJ T.c__law_mix hr (aj (aG hr (aa 3) aq) (aj (aa 0) aA))) aA)))))) (az (mU 14 sc__law_record.nd (osc := (ao bU)) (ON := ["_law_script", "_law_at", "_law_cells", "_law_base", "_law_many", "_law_carriers", "_law_pairs", "_law_k", "_law_number", "_law_weights", "_law_some", "_law_longs", "_law_eithers", "_law_begins", "_law_splits", "_law_run"]) (N := ["_law_k", "_law_base", "_law_many", "_law_cells"]) (cap := [none, some 3, some 4, some 2]) csc (dI 0) (gW T.z_range (bM (dF (aG hr (aa 2) aq) aq) aq)) (fun _ _ _ _ => b_ 0) (fun _ _ _ _ => bQ) (fun _ _ _ _ => (aJ T.c__law_cluster hr (aj (aa 1) (aj (aa 2) (aj (aJ T.c__law_mix hr (aj (aG hr (aa 3) aq) (aj (aa 0) aA))) aA)))))) (az (bc 15 sc__law_record.nd (aG hr (cj (aj aX (aj aX (aj aX (aj aX aA))))) (bM (dF (aG hr (aa 2) aq) aq) aq))) (lH (G1 := []) (aB (aU (iD (aj (aa 5) (aj (aa 6) (aj (aa 11) (aj (aa 12) (aj (aa 13) (aj (aa 14) (aj (aa 15) (aj (aa 3) aA)))))))))))))))))))))))))
theorem yG (F : Fun K "_law_likes" "_law_likes" gM f fd) (T : Tx__law_likes P w K mg base cl A) : FnOk P w K mg base CX0 2 f fd ["_law_record_here", "_law_cells"] (spM ⟨K, cl⟩ h_ false) := by
 refine fok F sc__law_likes (G := [4]) (G' := []) (L := []) fun _ _ _ _ _ _ hr _ _ => ?_
 exact (az (bc 2 sc__law_likes.nd (bz (aG hr (aa 0) aq) (aG hr (aa 0) aq))) (az (mU 3 sc__law_likes.nd (osc := (ao gM)) (ON := ["_law_record_here", "_law_cells", "_law_carriers", "_law_stops", "_law_told", "_law_cell", "_law_some"]) (N := ["_law_k", "_law_record_here"]) (cap := [none, some 0]) csc (dI 0) (gW T.z_range aq) (fun _ _ _ _ => b_ 0) (fun _ _ _ _ => bQ) (fun _ _ _ _ => (aJ T.c__law_letter hr (aj (aG hr (aa 1) aq) (aj (bz (aZ T.z_len (aG hr (aa 1) aq)) (aa 0)) aA))))) (az (iY 4 sc__law_likes.nd (cj aA)) (az (eF [5, 6] (cV (aa 1) (fun _ => by intro z; cases z)) (ju 5 sc__law_likes.nd) (az (bc 6 sc__law_likes.nd (aG hr (cj (aj (aa 2) (aj (aa 3) aA))) (bM (aa 5) aq))) (aB (mR 4 (iD (aj (aG hr (aa 6) (bM (dF (aa 5) aq) (aZ T.z_len (aa 6)))) (aj (aG hr (aa 6) (bM (dF (aa 5) aq) (aZ T.z_len (aa 6)))) aA)))))) PassesOwn.never) (lH (G1 := []) (aB (aU (aa 4))))))))
theorem Bj (F : Fun K "_law_rows" "_law_rows" iI f fd) (T : Tx__law_rows P w K mg base cl A) : FnOk P w K mg base CX0 1 f fd ["_law_record_here", "_law_cell"] (spM ⟨K, cl⟩ gH true) := by
 refine fok F sc__law_rows (G := [2]) (G' := [2]) (L := []) fun _ _ _ _ _ _ hr _ _ => ?_
 exact (az (iY 2 sc__law_rows.nd (cj aA)) (az (eF [3, 4, 5] (pG T.z_enumerate (cj (aj aX (aj aX (aj aX (aj aX (aj aX (aj aX aA))))))) (fun _ => by intro z; cases z)) (H_ (nT 3 sc__law_rows.nd (nT 4 sc__law_rows.nd wW))) (az (bc 5 sc__law_rows.nd (aG hr (aa 0) (aa 3))) (aB (cR (aR (cF hr (bM (dF (aa 1) (aG hr (cj (aj aq (aj aq (aj aq (aj aq (aj aq (aj aq aA))))))) (aa 3))) aq) aq)) (aB (iY 2 sc__law_rows.nd (sE (nQ 2) (bN (osc := (ao iI)) (ON := ["_law_record_here", "_law_cell", "_law_rows_here", "_law_k", "_law_word_here", "_law_some", "_law_middle"]) (N := ["_law_one", "_law_word_here"]) (cap := [none, some 4]) csc (dI 0) (cV (aa 5) (fun z => by cases z)) (fun _ _ _ _ => b_ 0) (fun _ _ _ _ => bQ) (fun _ _ _ _ => (bz (bz (aa 1) aX) (aa 0))))))) (aB (cR (aR (jt hr (aa 5) (cj aA))) (aB (mR 2 (bz (bz (aa 4) aX) (Ks aX (aa 5))))) bH))))) PassesOwn.never) (az (cR (aR (jt hr (aG hr (aa 0) aq) aX)) (aB (mR 2 (bz aX (aG hr (aa 0) aq)))) bH) (az (bc 6 sc__law_rows.nd (bM (dF (aa 1) aq) (bz (aZ T.z_len (nQ 2)) aq))) (aB (N6 (sE (iK (nQ 2) (cQ (aa 6)) g_) (iK (nQ 2) g_ (cQ (aa 6))))))))))
theorem xF (F : Fun K "told_behind" "told_behind" iB f fd) (T : Tx_told_behind P w K mg base cl A) : FnOk P w K mg base CX0 1 f fd ["kind", "rows"] (spM ⟨K, cl⟩ bj false) := by
 refine fok F sc_told_behind (G := [2]) (G' := []) (L := []) fun _ _ _ _ _ _ hr _ _ => ?_
 exact (az (iY 2 sc_told_behind.nd Qx) (az (eF [3, 4] (cV (aa 1) (fun _ => by intro z; cases z)) (ju 3 sc_told_behind.nd) (aB (cR (aR (cF hr (aG hr (aa 3) aq) (aa 0))) (aB (eF [4] (cV (iK (aa 3) (cQ aq) g_) (fun _ => by intro z; cases z)) (ju 4 sc_told_behind.nd) (aB (JF 2 hr (aa 4) j_)) PassesOwn.never)) bH)) PassesOwn.never) (lH (G1 := []) (aB (aU (aa 2))))))
theorem By (F : Fun K "last_run" "last_run" k_ f fd) (T : Tx_last_run P w K mg base cl A) : FnOk P w K mg base CX0 1 f fd ["rows"] (spM ⟨K, cl⟩ jP false) := by
 refine fok F sc_last_run (G := []) (G' := []) (L := []) fun _ _ _ _ _ _ hr _ _ => ?_
 exact (az (bc 1 sc_last_run.nd aX) (az (eF [2] (cV (aa 0) (fun _ => by intro z; cases z)) (ju 2 sc_last_run.nd) (aB (cR (aR (cF hr (aG hr (aa 2) aq) aX)) (aB (bc 1 sc_last_run.nd (aG hr (aa 2) aq))) bH)) PassesOwn.never) (aB (aU (aa 1)))))
theorem yH (F : Fun K "told_alike" "told_alike" jg f fd) (T : Tx_told_alike P w K mg base cl A) : FnOk P w K mg base CX0 1 f fd ["rows"] (spM ⟨K, cl⟩ ie false) := by
 refine fok F sc_told_alike (G := [1]) (G' := []) (L := []) fun _ _ _ _ _ _ hr _ _ => ?_
 exact (az (iY 1 sc_told_alike.nd Qy) (az (eF [2] (cV (aa 0) (fun _ => by intro z; cases z)) (ju 2 sc_told_alike.nd) (aB (cR (aR (cF hr (aG hr (aa 2) aq) aX)) (aB (JF 1 hr (iD (aj (aG hr (aa 2) aq) (aj (aG hr (aa 2) aq) aA))) j_)) bH)) PassesOwn.never) (lH (G1 := []) (aB (aU (aa 1))))))
theorem Bk (F : Fun K "is_letter" "is_letter" jT f fd) (T : Tx_is_letter P w K mg base cl A) : FnOk P w K mg base CX0 1 f fd ["text"] (spM ⟨K, cl⟩ dJ false) := by
 refine fok F Bh (G := []) (G' := []) (L := []) fun _ _ _ _ _ _ hr _ _ => ?_
 exact (aB (aU (gG (cC (cF hr (aZ T.z_len (aa 0)) aq)) (iC (cC (jV hr (aa 0) (Qq T.g_LETTERS)))))))
theorem wC (F : Fun K "is_carry_row" "is_carry_row" fc f fd) (T : Tx_is_carry_row P w K mg base cl A) : FnOk P w K mg base CX0 2 f fd ["row"] (spM ⟨K, cl⟩ cY false) := by
 refine fok F wz (G := []) (G' := []) (L := []) fun _ _ _ _ _ _ hr _ _ => ?_
 exact (aB (aU (gG (cC (cF hr (aG hr (aa 0) aq) aX)) (gG (cC (pA (aZ T.z_len (aa 0)) aq)) (iC (mO T.z_all (bN (osc := (ao fc)) (ON := ["row"]) (N := ["word"]) (cap := [none]) csc (dI 0) (cV (iK (aa 0) (cQ aq) g_) (fun z => by cases z)) (fun _ _ _ _ => b_ 0) (fun _ _ _ _ => bQ) (fun _ _ _ _ => (aJ T.c_is_letter hr (aj (aa 0) aA))))))))))
theorem yI (F : Fun K "is_pair_of" "is_pair_of" jh f fd) (T : Tx_is_pair_of P w K mg base cl A) : FnOk P w K mg base CX0 1 f fd ["carrying", "word"] (spM ⟨K, cl⟩ jL false) := by
 refine fok F yC (G := []) (G' := []) (L := []) fun _ _ _ _ _ _ hr _ _ => ?_
 exact (aB (aU (gG (cC (cF hr (aZ T.z_len (aa 1)) aq)) (gG (cC (jV hr (aG hr (aa 1) aq) (aa 0))) (iC (cC (jV hr (aG hr (aa 1) aq) (aa 0))))))))
theorem yJ (F : Fun K "is_one_row" "is_one_row" gO f fd) (T : Tx_is_one_row P w K mg base cl A) : FnOk P w K mg base CX0 2 f fd ["carrying", "row"] (spM ⟨K, cl⟩ dY false) := by
 refine fok F yD (G := []) (G' := []) (L := []) fun _ _ _ _ _ _ hr _ _ => ?_
 exact (aB (aU (gG (cC (cF hr (aG hr (aa 1) aq) aX)) (gG (cC (pA (aZ T.z_len (aa 1)) aq)) (iC (mO T.z_all (bN (osc := (ao gO)) (ON := ["carrying", "row"]) (N := ["word", "carrying"]) (cap := [none, some 0]) csc (dI 0) (cV (iK (aa 1) (cQ aq) g_) (fun z => by cases z)) (fun _ _ _ _ => b_ 0) (fun _ _ _ _ => bQ) (fun _ _ _ _ => (aJ T.c_is_pair_of hr (aj (aa 1) (aj (aa 0) aA)))))))))))
theorem Em (F : Fun K "is_stop" "is_stop" mH f fd) (T : Tx_is_stop P w K mg base cl A) : FnOk P w K mg base CX0 2 f fd ["carrying", "text"] (spM ⟨K, cl⟩ jz false) := by
 refine fok F Ek (G := []) (G' := []) (L := []) fun _ _ _ _ _ _ hr _ _ => ?_
 exact (aB (aU (gG (aJ T.c_is_letter hr (aj (aa 1) aA)) (iC (cC (pP hr (aa 1) (aa 0)))))))
theorem ue (F : Fun K "are_alike_units" "are_alike_units" cJ f fd) (T : Tx_are_alike_units P w K mg base cl A) : FnOk P w K mg base CX0 3 f fd ["carrying", "carriers", "words"] (spM ⟨K, cl⟩ fG false) := by
 refine fok F t_ (G := []) (G' := []) (L := []) fun _ _ _ _ _ _ hr _ _ => ?_
 exact (az (cR (aR (jt hr (aZ T.z_len (aa 2)) aq)) (aB (aU j_)) bH) (aB (aU (Dy (mO T.z_all (bN (osc := (ao cJ)) (ON := ["carrying", "carriers", "words"]) (N := ["word", "carriers"]) (cap := [none, some 1]) csc (dI 0) (cV (aa 2) (fun z => by cases z)) (fun _ _ _ _ => b_ 0) (fun _ _ _ _ => bQ) (fun _ _ _ _ => (cC (jV hr (aa 0) (aa 1)))))) (iC (mO T.z_all (bN (osc := (ao cJ)) (ON := ["carrying", "carriers", "words"]) (N := ["word", "carrying"]) (cap := [none, some 0]) csc (dI 0) (cV (aa 2) (fun z => by cases z)) (fun _ _ _ _ => b_ 0) (fun _ _ _ _ => bQ) (fun _ _ _ _ => (aJ T.c_is_stop hr (aj (aa 1) (aj (aa 0) aA)))))))))))
theorem yK (F : Fun K "is_cluster" "is_cluster" gP f fd) (T : Tx_is_cluster P w K mg base cl A) : FnOk P w K mg base CX0 3 f fd ["carrying", "word"] (spM ⟨K, cl⟩ jM false) := by
 refine fok F yE (G := []) (G' := []) (L := []) fun _ _ _ _ _ _ hr _ _ => ?_
 exact (aB (aU (gG (HN Jr Jr (Du T.g_LEAST_STOPS) (aZ T.z_len (aa 1)) (Du T.g_MOST_STOPS)) (iC (mO T.z_all (bN (osc := (ao gP)) (ON := ["carrying", "word"]) (N := ["sign", "carrying"]) (cap := [none, some 0]) csc (dI 0) (cV (aa 1) (fun z => by cases z)) (fun _ _ _ _ => b_ 0) (fun _ _ _ _ => bQ) (fun _ _ _ _ => (aJ T.c_is_stop hr (aj (aa 1) (aj (aa 0) aA))))))))))
theorem En (F : Fun K "is_rule" "is_rule" jo f fd) (T : Tx_is_rule P w K mg base cl A) : FnOk P w K mg base CX0 4 f fd ["carrying", "pairs", "row"] (spM ⟨K, cl⟩ mY false) := by
 refine fok F sc_is_rule (G := []) (G' := []) (L := []) fun _ _ _ _ _ _ hr _ _ => ?_
 exact (az (bc 3 sc_is_rule.nd (aG hr (aa 2) aq)) (az (bc 4 sc_is_rule.nd (iK (aa 2) (cQ aq) g_)) (az (bc 5 sc_is_rule.nd (bz (wU T.z_list (aa 0)) (wU T.z_list (aa 1)))) (az (cR (aR (cF hr (aa 3) aX)) (aB (aU (aJ T.c_is_carry_row hr (aj (aa 2) aA)))) bH) (az (cR (aR (cF hr (aa 3) aX)) (aB (aU (aJ T.c_is_one_row hr (aj (aa 0) (aj (aa 2) aA))))) bH) (az (cR (SW.st (oF (aR (cF hr (aa 3) aX)) (oV (aR (cF hr (aa 3) aX))))) (aB (aU (gG (cC (pA (aZ T.z_len (aa 4)) aq)) (iC (mO T.z_all (bN (osc := (ao jo)) (ON := ["carrying", "pairs", "row", "kind", "words", "carriers"]) (N := ["word", "carriers"]) (cap := [none, some 5]) csc (dI 0) (cV (aa 4) (fun z => by cases z)) (fun _ _ _ _ => b_ 0) (fun _ _ _ _ => bQ) (fun _ _ _ _ => (cC (jV hr (aa 0) (aa 1)))))))))) bH) (az (cR (SW.st (oF (aR (cF hr (aa 3) aX)) (oV (aR (cF hr (aa 3) aX))))) (aB (aU (gG (cC (pA (aZ T.z_len (aa 4)) aq)) (iC (mO T.z_all (bN (osc := (ao jo)) (ON := ["carrying", "pairs", "row", "kind", "words", "carriers"]) (N := ["word", "carrying"]) (cap := [none, some 0]) csc (dI 0) (cV (aa 4) (fun z => by cases z)) (fun _ _ _ _ => b_ 0) (fun _ _ _ _ => bQ) (fun _ _ _ _ => (aJ T.c_is_cluster hr (aj (aa 1) (aj (aa 0) aA)))))))))) bH) (az (cR (aR (cF hr (aa 3) aX)) (aB (aU (gG (cC (cF hr (aZ T.z_len (aa 4)) aq)) (iC (cC (jV hr (aG hr (aa 4) aq) (Qs T.g_RUNS (T.r_RUNS)))))))) bH) (aB (aU (gG (cC (cF hr (aa 3) aX)) (iC (aJ T.c_are_alike_units hr (aj (aa 0) (aj (aa 5) (aj (aa 4) aA))))))))))))))))
theorem rP {f : Addr} {fd : FuncData} (F : Fun K "__init__" "Tongue.__init__" bZ f fd) (T : Tx_Tongue____init__ P w K mg base cl A) : FnOk P w K mg base CX0 5 f fd ["self", "rows"] (spI ⟨K, cl⟩ 0 cO) := by
 refine F.ok sc_Tongue____init__ (fun vs H Q E h => KC h) (fun cdv A' outer s H vs Q E hr h => Kz (G := [0]) (G' := [0]) (L := []) (N := ["self", "rows", "cut", "at", "row"]) rfl (by decide) (by decide) (by decide) (by decide) (fun B H' x => ?_) h)
 exact (az (mU 2 sc_Tongue____init__.nd (osc := (ao bZ)) (ON := ["self", "rows", "cut", "at", "row"]) (N := ["row"]) (cap := [none]) csc (dI 0) (cV (aa 1) (fun z => by cases z)) (fun _ _ _ _ => b_ 0) (fun _ _ _ _ => bQ) (fun _ _ _ _ => (SE.val (HW (aa 0) aX)))) (az (p_ 0 (c := 0) T.cl_Tongue T.n_Tongue_carrying (aJ T.c_told_behind hr (aj aX (aj (SE.val (bN (osc := (ao bZ)) (ON := ["self", "rows", "cut", "at", "row"]) (N := ["row"]) (cap := [none]) csc (dI 0) (cV (aa 2) (fun z => by cases z)) (fun _ _ _ _ => b_ 0) (fun _ _ _ _ => eG (dG (aJ T.c_is_carry_row hr (aj (aa 0) aA)))) (fun _ _ _ _ => (aa 0)))) aA)))) (az (p_ 0 (c := 0) T.cl_Tongue T.n_Tongue_pairs (aJ T.c_told_behind hr (aj aX (aj (SE.val (bN (osc := (ao bZ)) (ON := ["self", "rows", "cut", "at", "row"]) (N := ["row", "self"]) (cap := [none, some 0]) csc (dI 0) (cV (aa 2) (fun z => by cases z)) (fun _ _ _ _ => b_ 0) (fun _ _ _ _ => eG (dG (aJ T.c_is_one_row hr (aj (pQ (c := 0) T.cl_Tongue T.n_Tongue_carrying (nQ 1)) (aj (aa 0) aA))))) (fun _ _ _ _ => (aa 0)))) aA)))) (az (eF [3, 4] (pG T.z_enumerate (aa 2) (fun _ => by intro z; cases z)) (H_ (nT 3 sc_Tongue____init__.nd (nT 4 sc_Tongue____init__.nd wW))) (aB (cR (lG (dG (aJ T.c_is_rule hr (aj (pQ (c := 0) T.cl_Tongue T.n_Tongue_carrying (nQ 0)) (aj (pQ (c := 0) T.cl_Tongue T.n_Tongue_pairs (nQ 0)) (aj (aa 4) aA)))))) (aB NZ) bH)) PassesOwn.never) (az (p_ 0 (c := 0) T.cl_Tongue T.n_Tongue_longs (aJ T.c_told_behind hr (aj aX (aj (aa 2) aA)))) (az (p_ 0 (c := 0) T.cl_Tongue T.n_Tongue_eithers (aJ T.c_told_behind hr (aj aX (aj (aa 2) aA)))) (az (p_ 0 (c := 0) T.cl_Tongue T.n_Tongue_beginnings (aJ T.c_told_behind hr (aj aX (aj (aa 2) aA)))) (az (p_ 0 (c := 0) T.cl_Tongue T.n_Tongue_splittings (aJ T.c_told_behind hr (aj aX (aj (aa 2) aA)))) (az (p_ 0 (c := 0) T.cl_Tongue T.n_Tongue_running (aJ T.c_last_run hr (aj (aa 2) aA))) (aB (p_ 0 (c := 0) T.cl_Tongue T.n_Tongue_likes (aJ T.c_told_alike hr (aj (aa 2) aA)))))))))))))
theorem xG (F : Fun K "_law_tongue" "_law_tongue" gn f fd) (T : Tx__law_tongue P w K mg base cl A) : FnOk P w K mg base CX0 7 f fd ["_law_script", "_law_record_here", "_law_told"] (spM ⟨K, cl⟩ gB false) := by
 refine fok F sc__law_tongue (G := []) (G' := []) (L := []) fun _ _ _ _ _ _ hr _ _ => ?_
 exact (az (bc 3 sc__law_tongue.nd (SE.val (HY T.c__law_rows hr (aj (aa 1) (aj (aJ T.c__law_cell_at hr (aj (aa 0) (aj aq aA))) aA))))) (aB (aU (SE.val (KD (c := 0) T.i_Tongue hr (aj (SE.val (sE (aa 3) (bN (osc := (ao gn)) (ON := ["_law_script", "_law_record_here", "_law_told", "_law_rows_here"]) (N := ["_law_one", "_law_other"]) (cap := [none, none]) csc (u_ [0, 1]) (cV (aa 2) (fun z => by cases z)) (fun _ _ _ _ => oU rfl (dq (b_ 0) (dq (b_ 1) mz))) (fun _ _ _ _ => bQ) (fun _ _ _ _ => (bz (bz (bz aX (aa 0)) aX) (aa 1)))))) aA))))))
theorem yL (F : Fun K "_law_units" "_law_units" ji f fd) (T : Tx__law_units P w K mg base cl A) : FnOk P w K mg base CX0 1 f fd ["_law_record_here", "_law_word_here"] (spM ⟨K, cl⟩ ig false) := by
 refine fok F sc__law_units (G := [2]) (G' := []) (L := []) fun _ _ _ _ _ _ hr _ _ => ?_
 exact (az (iY 2 sc__law_units.nd (cj aA)) (az (Cm 1000000 [3] (aR (jt hr (aa 1) aX)) (az (bc 3 sc__law_units.nd (bz aq (Kq T.z_int (cC (jV hr (iK (aa 1) g_ (cQ aq)) (aG hr (aa 0) aq)))))) (az (mR 2 (iK (aa 1) g_ (cQ (aa 3)))) (aB (bc 1 sc__law_units.nd (iK (aa 1) (cQ (aa 3)) g_))))) PassesOwn.never) (lH (G1 := []) (aB (aU (aa 2))))))
theorem BJ (F : Fun K "_law_end" "_law_end" lg f fd) (T : Tx__law_end P w K mg base cl A) : FnOk P w K mg base CX0 2 f fd ["_law_record_here", "_law_word_here"] (spM ⟨K, cl⟩ cg false) := by
 refine fok F sc__law_end (G := [2]) (G' := []) (L := []) fun _ _ _ _ _ _ hr _ _ => ?_
 exact (az (iY 2 sc__law_end.nd (cj aA)) (az (eF [3] (cV (aJ T.c__law_units hr (aj (aa 0) (aj (aa 1) aA))) (fun _ => by intro z; cases z)) (ju 3 sc__law_end.nd) (az (cR (SW.st (oF (aR (cF hr (aZ T.z_len (aa 3)) aq)) (oV (aR (jV hr (aa 3) (aG hr (aa 0) aq)))))) (aB (iY 2 sc__law_end.nd (cj aA))) bH) (aB (mR 2 (aa 3)))) PassesOwn.never) (lH (G1 := []) (aB (aU (aa 2))))))
theorem wD (F : Fun K "_law_put_for" "_law_put_for" dB f fd) (T : Tx__law_put_for P w K mg base cl A) : FnOk P w K mg base CX0 1 f fd ["_law_told", "_law_unit", "_law_number"] (spM ⟨K, cl⟩ fY false) := by
 refine fok F sc__law_put_for (G := []) (G' := []) (L := []) fun _ _ _ _ _ _ hr _ _ => ?_
 exact (az (bc 3 sc__law_put_for.nd (SE.val (sE (sE (cj (aj (aa 1) aA)) (bN (osc := (ao dB)) (ON := ["_law_told", "_law_unit", "_law_number", "_law_some"]) (N := ["_law_one", "_law_other", "_law_unit"]) (cap := [none, none, some 1]) csc (u_ [0, 1]) (cV (aa 0) (fun z => by cases z)) (fun _ _ _ _ => oU rfl (dq (b_ 0) (dq (b_ 1) mz))) (fun _ _ _ _ => eG (aR (cF hr (aa 0) (aa 2)))) (fun _ _ _ _ => (aa 1)))) (bN (osc := (ao dB)) (ON := ["_law_told", "_law_unit", "_law_number", "_law_some"]) (N := ["_law_one", "_law_other", "_law_unit"]) (cap := [none, none, some 1]) csc (u_ [0, 1]) (cV (aa 0) (fun z => by cases z)) (fun _ _ _ _ => oU rfl (dq (b_ 0) (dq (b_ 1) mz))) (fun _ _ _ _ => eG (aR (cF hr (aa 1) (aa 2)))) (fun _ _ _ _ => (aa 0)))))) (aB (aU (aG hr (aa 3) (bM (aa 2) (aZ T.z_len (aa 3)))))))
theorem Bl (F : Fun K "_law_echo" "_law_echo" jU f fd) (T : Tx__law_echo P w K mg base cl A) : FnOk P w K mg base CX0 3 f fd ["_law_record_here", "_law_told", "_law_word_here", "_law_cell"] (spM ⟨K, cl⟩ fH false) := by
 refine fok F sc__law_echo (G := []) (G' := []) (L := []) fun _ _ _ _ _ _ hr _ _ => ?_
 exact (az (bc 4 sc__law_echo.nd (aJ T.c__law_end hr (aj (aa 0) (aj (aa 2) aA)))) (az (bc 5 sc__law_echo.nd (SE.val (cj (aj aX (aj (aJ T.c__law_letter hr (aj (aG hr (aa 0) aq) (aj (aZ T.z_len (aG hr (aa 0) aq)) aA))) (aj (bz (aG hr (aG hr (aa 0) aq) aq) (aJ T.c__law_letter hr (aj (aG hr (aa 0) aq) (aj (bz (aZ T.z_len (aG hr (aa 0) aq)) aq) aA)))) aA)))))) (az (bc 6 sc__law_echo.nd (aG hr (aa 5) (bM (aa 3) aq))) (az (eF [7] (gW T.z_range (aZ T.z_len (aa 4))) (ju 7 sc__law_echo.nd) (aB (bc 6 sc__law_echo.nd (bz (aa 6) (aJ T.c__law_put_for hr (aj (aa 1) (aj (aG hr (aa 4) (aa 7)) (aj (aJ T.c__law_mix hr (aj (dF (aa 3) aq) (aj (aa 7) aA))) aA))))))) PassesOwn.never) (az (cR (aR (pA (aZ T.z_len (aa 6)) aq)) (aB (aU (aa 2))) bH) (aB (aU (aa 6))))))))
theorem yM (F : Fun K "_law_piece" "_law_piece" jk f fd) (T : Tx__law_piece P w K mg base cl A) : FnOk P w K mg base CX0 2 f fd ["_law_record_here", "_law_number"] (spM ⟨K, cl⟩ dj false) := by
 refine fok F sc__law_piece (G := []) (G' := []) (L := []) fun _ _ _ _ _ _ hr _ _ => ?_
 exact (az (bc 2 sc__law_piece.nd (aZ T.z_len (aG hr (aa 0) aq))) (az (bc 3 sc__law_piece.nd (bM (aa 1) aq)) (az (bc 4 sc__law_piece.nd (dF (aa 1) aq)) (az (cR (SW.st (oW (aR (cF hr (aa 3) aq)) (pD (aR (jt hr (aG hr (aa 0) aq) (cj aA)))))) (aB (aU (aG hr (aG hr (aa 0) aq) (bM (aa 4) (aZ T.z_len (aG hr (aa 0) aq)))))) bH) (az (cR (SW.st (oW (aR (cF hr (aa 3) aq)) (pD (aR (jt hr (aG hr (aa 0) aq) (cj aA)))))) (aB (aU (aG hr (aG hr (aa 0) aq) (bM (aa 4) (aZ T.z_len (aG hr (aa 0) aq)))))) bH) (az (cR (SW.st (oW (aR (cF hr (aa 3) aq)) (pD (aR (jt hr (aG hr (aa 0) aq) (cj aA)))))) (aB (aU (aG hr (aG hr (aa 0) aq) (bM (aa 4) (aZ T.z_len (aG hr (aa 0) aq)))))) bH) (az (cR (aR (Dw (aa 3) aq)) (aB (aU (aG hr (aG hr (aa 0) aq) (bM (aa 4) (aa 2))))) bH) (aB (aU (aJ T.c__law_letter hr (aj (aG hr (aa 0) aq) (aj (bz (aa 2) (bM (aa 4) aq)) aA))))))))))))
theorem Bm (F : Fun K "_law_word" "_law_word" iJ f fd) (T : Tx__law_word P w K mg base cl A) : FnOk P w K mg base CX0 3 f fd ["_law_record_here", "_law_cell"] (spM ⟨K, cl⟩ fJ false) := by
 refine fok F sc__law_word (G := []) (G' := []) (L := []) fun _ _ _ _ _ _ hr _ _ => ?_
 exact (az (bc 2 sc__law_word.nd aX) (az (eF [3] (gW T.z_range (bz aq (bM (aa 1) aq))) (ju 3 sc__law_word.nd) (aB (bc 2 sc__law_word.nd (iK (bz (aa 2) (aJ T.c__law_piece hr (aj (aa 0) (aj (aJ T.c__law_mix hr (aj (dF (aa 1) aq) (aj (aa 3) aA))) aA)))) g_ (cQ aq)))) PassesOwn.never) (az (cR (aR (cF hr (bN (osc := (ao iJ)) (ON := ["_law_record_here", "_law_cell", "_law_word_here", "_law_k"]) (N := ["_law_sign", "_law_record_here"]) (cap := [none, some 0]) csc (dI 0) (cV (aa 2) (fun z => by cases z)) (fun _ _ _ _ => b_ 0) (fun _ _ _ _ => eG (aR (jV hr (aa 0) (aG hr (aa 1) aq)))) (fun _ _ _ _ => (aa 0))) (cj aA))) (aB (bc 2 sc__law_word.nd (bz (iK (aa 2) g_ (cQ aq)) (aG hr (aG hr (aa 0) aq) (bM (dF (aa 1) aq) (aZ T.z_len (aG hr (aa 0) aq))))))) bH) (aB (aU (aa 2))))))
theorem yN (F : Fun K "_law_words" "_law_words" jl f fd) (T : Tx__law_words P w K mg base cl A) : FnOk P w K mg base CX0 4 f fd ["_law_record_here", "_law_told", "_law_cells"] (spM ⟨K, cl⟩ ik false) := by
 refine fok F sc__law_words (G := [3]) (G' := []) (L := []) fun _ _ _ _ _ _ hr _ _ => ?_
 exact (az (iY 3 sc__law_words.nd (cj aA)) (az (eF [4] (cV (aa 2) (fun _ => by intro z; cases z)) (ju 4 sc__law_words.nd) (aB (cR (SW.st (oW (aR (pA (bM (aa 4) aq) aq)) (pD (aR (jt hr (nQ 3) (cj aA)))))) (aB (mR 3 (aJ T.c__law_echo hr (aj (aa 0) (aj (aa 1) (aj (aG hr (nQ 3) (bM (dF (aa 4) aq) (aZ T.z_len (nQ 3)))) (aj (dF (aa 4) aq) aA))))))) (aB (mR 3 (aJ T.c__law_word hr (aj (aa 0) (aj (dF (aa 4) aq) aA))))))) PassesOwn.never) (lH (G1 := []) (aB (aU (aa 3))))))
theorem wF (F : Fun K "first_broken" "first_broken" dC f fd) (T : Tx_first_broken P w K mg base cl A) : FnOk P w K mg base CX0 1 f fd ["mates"] (spM ⟨K, cl⟩ dM false) := by
 refine fok F sc_first_broken (G := []) (G' := []) (L := []) fun _ _ _ _ _ _ hr _ _ => ?_
 exact (az (eF [1, 2, 3, 4, 5] (pG T.z_enumerate (aa 0) (fun _ => by intro z; cases z)) (H_ (nT 1 sc_first_broken.nd (nT 2 sc_first_broken.nd wW))) (az (bc 3 sc_first_broken.nd (SE.val (Ie T.z_dict (bN (osc := (ao dC)) (ON := ["mates", "one", "near", "beside", "middle", "far"]) (N := ["number"]) (cap := [none]) csc (dI 0) (cV (aa 2) (fun z => by cases z)) (fun _ _ _ _ => b_ 0) (fun _ _ _ _ => bQ) (fun _ _ _ _ => (iD (aj (aa 0) (aj j_ aA)))))))) (aB (eF [4, 5] (cV (aa 2) (fun _ => by intro z; cases z)) (ju 4 sc_first_broken.nd) (az (bc 5 sc_first_broken.nd (JC (aR (cF hr (aG hr (aa 0) (aa 4)) (aa 2))) (SE.val (cj aA)) (SE.val (bN (osc := (ao dC)) (ON := ["mates", "one", "near", "beside", "middle", "far"]) (N := ["number", "beside"]) (cap := [none, some 3]) csc (dI 0) (cV (aG hr (aa 0) (aa 4)) (fun z => by cases z)) (fun _ _ _ _ => b_ 0) (fun _ _ _ _ => eG (aR (pP hr (aa 0) (aa 1)))) (fun _ _ _ _ => (aa 0)))))) (aB (cR (aR (pA (aZ T.z_len (aa 5)) aq)) (aB (aU (iD (aj (aa 1) (aj (aa 4) (aj (aG hr (aa 5) aq) aA)))))) bH))) PassesOwn.never))) PassesOwn.never) (aB (aU FZ)))
theorem uf (F : Fun K "carries" "Tongue.carries" dW f fd) (T : Tx_Tongue__carries P w K mg base cl A) : FnOk P w K mg base CX0 1 f fd ["self", "letter"] (spM ⟨K, cl⟩ cT false) := by
 refine fok F uc (G := []) (G' := []) (L := []) fun _ _ _ _ _ _ hr _ _ => ?_
 exact (aB (aU (cC (jV hr (aa 1) (pQ (c := 0) T.cl_Tongue T.n_Tongue_carrying (aa 0))))))
theorem Eo (F : Fun K "is_word" "is_word" jq f fd) (T : Tx_is_word P w K mg base cl A) : FnOk P w K mg base CX0 2 f fd ["tongue", "thing"] (spM ⟨K, cl⟩ m9 false) := by
 refine fok F El (G := []) (G' := []) (L := []) fun _ _ _ _ _ _ hr _ _ => ?_
 exact (az (cR (SW.st (oF (lG (dG (oX tb_str T.is_str T.z_isinstance T.z_str PyProof.Rows.boot_str (aa 1)))) (oV (aR (pA (aZ T.z_len (aa 1)) (Du T.g_MOST_LETTERS)))))) (aB (aU j_)) bH) (aB (aU (gG (mO T.z_all (bN (osc := (ao jq)) (ON := ["tongue", "thing"]) (N := ["sign"]) (cap := [none]) csc (dI 0) (cV (aa 1) (fun z => by cases z)) (fun _ _ _ _ => b_ 0) (fun _ _ _ _ => bQ) (fun _ _ _ _ => (aJ T.c_is_letter hr (aj (aa 0) aA))))) (iC (NP T.z_any (bN (osc := (ao jq)) (ON := ["tongue", "thing"]) (N := ["sign", "tongue"]) (cap := [none, some 0]) csc (dI 0) (cV (aa 1) (fun z => by cases z)) (fun _ _ _ _ => b_ 0) (fun _ _ _ _ => bQ) (fun _ _ _ _ => (qZ (c := 0) T.m_Tongue__carries T.cl_Tongue hr (aa 1) (aj (aa 0) aA))))))))))
theorem uK (F : Fun K "refuse_no_word" "refuse_no_word" fj f fd) (T : Tx_refuse_no_word P w K mg base cl A) : FnOk P w K mg base CX0 3 f fd ["tongue", "thing"] (spM ⟨K, cl⟩ dU false) := by
 refine fok F uJ (G := []) (G' := []) (L := []) fun _ _ _ _ _ _ hr _ _ => ?_
 exact (aB (cR (lG (dG (aJ T.c_is_word hr (aj (aa 0) (aj (aa 1) aA))))) (aB NZ) bH))
theorem ug (F : Fun K "is_pair" "Tongue.is_pair" dX f fd) (T : Tx_Tongue__is_pair P w K mg base cl A) : FnOk P w K mg base CX0 1 f fd ["self", "pair"] (spM ⟨K, cl⟩ fK false) := by
 refine fok F ud (G := []) (G' := []) (L := []) fun _ _ _ _ _ _ hr _ _ => ?_
 exact (aB (aU (cC (jV hr (aa 1) (pQ (c := 0) T.cl_Tongue T.n_Tongue_pairs (aa 0))))))
theorem BK (F : Fun K "units_of" "units_of" lq f fd) (T : Tx_units_of P w K mg base cl A) : FnOk P w K mg base CX0 4 f fd ["tongue", "word"] (spM ⟨K, cl⟩ jQ false) := by
 refine fok F sc_units_of (G := [2]) (G' := []) (L := []) fun _ _ _ _ _ _ hr _ _ => ?_
 exact (az (N7 (aJ T.c_refuse_no_word hr (aj (aa 0) (aj (aa 1) aA)))) (az (iY 2 sc_units_of.nd (cj aA)) (az (bc 3 sc_units_of.nd aq) (az (Cm 1000000 [4] (aR (Dw (aa 3) (aZ T.z_len (aa 1)))) (az (bc 4 sc_units_of.nd (JC (dG (qZ (c := 0) T.m_Tongue__is_pair T.cl_Tongue hr (aa 0) (aj (iK (aa 1) (cQ (aa 3)) (cQ (bz (aa 3) aq))) aA))) aq aq)) (az (mR 2 (iK (aa 1) (cQ (aa 3)) (cQ (bz (aa 3) (aa 4))))) (aB (bc 3 sc_units_of.nd (bz (aa 3) (aa 4)))))) PassesOwn.never) (lH (G1 := []) (aB (aU (aa 2))))))))
theorem G_ (F : Fun K "end_of" "end_of" my f fd) (T : Tx_end_of P w K mg base cl A) : FnOk P w K mg base CX0 5 f fd ["tongue", "word"] (spM ⟨K, cl⟩ gw false) := by
 refine fok F sc_end_of (G := []) (G' := []) (L := []) fun _ _ _ _ _ _ hr _ _ => ?_
 exact (az (bc 2 sc_end_of.nd (aJ T.c_units_of hr (aj (aa 0) (aj (aa 1) aA)))) (az (bc 3 sc_end_of.nd (KJ T.z_max (bN (osc := (ao my)) (ON := ["tongue", "word", "units", "last"]) (N := ["at", "unit", "tongue"]) (cap := [none, none, some 0]) csc (u_ [0, 1]) (pG T.z_enumerate (aa 2) (fun z => by cases z)) (fun _ _ _ _ => oU rfl (dq (b_ 0) (dq (b_ 1) mz))) (fun _ _ _ _ => eG (dG (qZ (c := 0) T.m_Tongue__carries T.cl_Tongue hr (aa 2) (aj (aG hr (aa 1) aq) aA)))) (fun _ _ _ _ => (aa 0))))) (aB (aU (iK (aa 2) (cQ (aa 3)) g_)))))
theorem vC (F : Fun K "alike" "Tongue.alike" f9 f fd) (T : Tx_Tongue__alike P w K mg base cl A) : FnOk P w K mg base CX0 1 f fd ["self", "one", "other"] (spM ⟨K, cl⟩ dw false) := by
 refine fok F vB (G := []) (G' := []) (L := []) fun _ _ _ _ _ _ hr _ _ => ?_
 exact (aB (aU (Dy (cC (cF hr (aa 1) (aa 2))) (Dy (cC (jV hr (iD (aj (aa 1) (aj (aa 2) aA))) (pQ (c := 0) T.cl_Tongue T.n_Tongue_likes (aa 0)))) (iC (cC (jV hr (iD (aj (aa 2) (aj (aa 1) aA))) (pQ (c := 0) T.cl_Tongue T.n_Tongue_likes (aa 0)))))))))
theorem yO (F : Fun K "ends_rhyme" "ends_rhyme" gQ f fd) (T : Tx_ends_rhyme P w K mg base cl A) : FnOk P w K mg base CX0 2 f fd ["tongue", "one", "other"] (spM ⟨K, cl⟩ dm false) := by
 refine fok F yF (G := []) (G' := []) (L := []) fun _ _ _ _ _ _ hr _ _ => ?_
 exact (aB (aU (gG (cC (cF hr (aZ T.z_len (aa 1)) (aZ T.z_len (aa 2)))) (iC (mO T.z_all (bN (osc := (ao gQ)) (ON := ["tongue", "one", "other"]) (N := ["unit", "beside", "tongue"]) (cap := [none, none, some 0]) csc (u_ [0, 1]) (Oc T.z_zip (aa 1) (aa 2) (fun z => by cases z) (fun z => by cases z)) (fun _ _ _ _ => oU rfl (dq (b_ 0) (dq (b_ 1) mz))) (fun _ _ _ _ => bQ) (fun _ _ _ _ => (qZ (c := 0) T.m_Tongue__alike T.cl_Tongue hr (aa 2) (aj (aa 0) (aj (aa 1) aA))))))))))
theorem BP (F : Fun K "mates_of" "mates_of" jG f fd) (T : Tx_mates_of P w K mg base cl A) : FnOk P w K mg base CX0 3 f fd ["tongue", "ends", "end"] (spM ⟨K, cl⟩ jR false) := by
 refine fok F Bw (G := []) (G' := []) (L := []) fun _ _ _ _ _ _ hr _ _ => ?_
 exact (aB (aU (SE.val (bN (osc := (ao jG)) (ON := ["tongue", "ends", "end"]) (N := ["number", "other", "tongue", "end"]) (cap := [none, none, some 0, some 2]) csc (u_ [0, 1]) (pG T.z_enumerate (aa 1) (fun z => by cases z)) (fun _ _ _ _ => oU rfl (dq (b_ 0) (dq (b_ 1) mz))) (fun _ _ _ _ => eG (dG (aJ T.c_ends_rhyme hr (aj (aa 2) (aj (aa 3) (aj (aa 1) aA)))))) (fun _ _ _ _ => (aa 0))))))
theorem Bo {f : Addr} {fd : FuncData} (F : Fun K "chains_of" "chains_of" fC f fd) (T : Tx_chains_of P w K mg base cl A) : FnOk P w K mg base CX0 6 f fd ["tongue", "words"] (spN "classes" ⟨K, cl⟩ dN) := by
 refine F.ok sc_chains_of (fun vs H Q E h => KR h) (fun cdv A' outer s H vs Q E hr h => Ig (N := ["tongue", "words", "ends", "mates", "broken"]) rfl (by decide) (fun B H' => ?_) h)
 exact (q_ (bc 2 sc_chains_of.nd (SE.val (bN (osc := (ao fC)) (ON := ["tongue", "words", "ends", "mates", "broken"]) (N := ["word", "tongue"]) (cap := [none, some 0]) csc (dI 0) (cV (aa 1) (fun z => by cases z)) (fun _ _ _ _ => b_ 0) (fun _ _ _ _ => bQ) (fun _ _ _ _ => (aJ T.c_end_of hr (aj (aa 1) (aj (aa 0) aA))))))) (q_ (mU 3 sc_chains_of.nd (osc := (ao fC)) (ON := ["tongue", "words", "ends", "mates", "broken"]) (N := ["end", "tongue", "ends"]) (cap := [none, some 0, some 2]) csc (dI 0) (cV (aa 2) (fun z => by cases z)) (fun _ _ _ _ => b_ 0) (fun _ _ _ _ => bQ) (fun _ _ _ _ => (aJ T.c_mates_of hr (aj (aa 1) (aj (aa 2) (aj (aa 0) aA)))))) (q_ (bc 4 sc_chains_of.nd (aJ T.c_first_broken hr (aj (aa 3) aA))) (q_ (cR (aR (HJ (aa 4) FZ)) (aB (aU (iD (aj aX (aj (aa 4) aA))))) bH) (wI (Ol (bN (osc := (ao fC)) (ON := ["tongue", "words", "ends", "mates", "broken"]) (N := ["number", "near"]) (cap := [none, none]) csc (u_ [0, 1]) (pG T.z_enumerate (aa 3) (fun z => by cases z)) (fun _ _ _ _ => oU rfl (dq (b_ 0) (dq (b_ 1) mz))) (fun _ _ _ _ => eG (aR (cF hr (aG hr (aa 1) aq) (aa 0)))) (fun _ _ _ _ => (aa 1))))) (QJ (by decide))) z7) z7) z7)
theorem BR (F : Fun K "_law_due" "_law_due" jH f fd) (T : Tx__law_due P w K mg base cl A) : FnOk P w K mg base CX0 1 f fd ["_law_rows_here"] (spM ⟨K, cl⟩ gA false) := by
 refine fok F sc__law_due (G := [4]) (G' := []) (L := []) fun _ _ _ _ _ _ hr _ _ => ?_
 exact (az (eF [1, 2, 3] (gW T.z_range (aZ T.z_len (aa 0))) (ju 1 sc__law_due.nd) (aB (eF [2, 3] (gW T.z_range (aZ T.z_len (aa 0))) (ju 2 sc__law_due.nd) (aB (eF [3] (gW T.z_range (aZ T.z_len (aa 0))) (ju 3 sc__law_due.nd) (aB (cR (SW.st (oW (dG (aG hr (aG hr (aa 0) (aa 1)) (aa 2))) (oW (dG (aG hr (aG hr (aa 0) (aa 2)) (aa 3))) (pD (lG (dG (aG hr (aG hr (aa 0) (aa 1)) (aa 3)))))))) (aB (aU (iD (aj aX (aj (iD (aj (aa 1) (aj (aa 2) (aj (aa 3) aA)))) aA))))) bH)) PassesOwn.never)) PassesOwn.never)) PassesOwn.never) (az (iY 4 sc__law_due.nd (cj aA)) (az (eF [1, 5] (gW T.z_range (aZ T.z_len (aa 0))) (ju 1 sc__law_due.nd) (az (mU 5 sc__law_due.nd (osc := (ao jH)) (ON := ["_law_rows_here", "_law_i", "_law_j", "_law_k", "_law_found", "_law_some"]) (N := ["_law_j", "_law_rows_here", "_law_i"]) (cap := [none, some 0, some 1]) csc (dI 0) (gW T.z_range (aZ T.z_len (aa 0))) (fun _ _ _ _ => b_ 0) (fun _ _ _ _ => eG (dG (aG hr (aG hr (aa 1) (aa 2)) (aa 0)))) (fun _ _ _ _ => (aa 0))) (aB (cR (aR (pP hr (aa 5) (nQ 4))) (aB (mR 4 (aa 5))) bH))) PassesOwn.never) (lH (G1 := []) (aB (aU (iD (aj aX (aj (aa 4) aA)))))))))
theorem yP (F : Fun K "_law_kinds" "_law_kinds" gR f fd) (T : Tx__law_kinds P w K mg base cl A) : FnOk P w K mg base CX0 1 f fd ["_law_found"] (spM ⟨K, cl⟩ d9 false) := by
 refine fok F sc__law_kinds (G := []) (G' := []) (L := []) fun _ _ _ _ _ _ hr _ _ => ?_
 exact (az (cR (SW.st (oF (lG (dG (oX tb_tuple T.is_tuple T.z_isinstance T.z_tuple PyProof.Rows.boot_tuple (aa 0)))) (oF (aR (jt hr (aZ T.z_len (aa 0)) aq)) (oV (lG (dG (oX tb_str T.is_str T.z_isinstance T.z_str PyProof.Rows.boot_str (aG hr (aa 0) aq)))))))) (aB (aU j_)) bH) (az (cR (aR (jt hr (aG hr (aa 0) aq) aX)) (aB (aU (oX tb_tuple T.is_tuple T.z_isinstance T.z_tuple PyProof.Rows.boot_tuple (aG hr (aa 0) aq)))) bH) (az (cR (lG (dG (oX tb_list T.is_list T.z_isinstance T.z_list PyProof.Rows.boot_list (aG hr (aa 0) aq)))) (aB (aU j_)) bH) (az (eF [1] (cV (aG hr (aa 0) aq) (fun _ => by intro z; cases z)) (ju 1 sc__law_kinds.nd) (aB (cR (SW.st (oF (lG (dG (oX tb_list T.is_list T.z_isinstance T.z_list PyProof.Rows.boot_list (aa 1)))) (oV (aR (jt hr (bN (osc := (ao gR)) (ON := ["_law_found", "_law_row"]) (N := ["_law_k"]) (cap := [none]) csc (dI 0) (cV (aa 1) (fun z => by cases z)) (fun _ _ _ _ => b_ 0) (fun _ _ _ _ => eG (SW.st (oF (lG (dG (oX tb_int T.is_int T.z_isinstance T.z_int PyProof.Rows.boot_int (aa 0)))) (oV (dG (oX tb_bool T.is_bool T.z_isinstance T.z_bool PyProof.Rows.boot_bool (aa 0))))))) (fun _ _ _ _ => (aa 0))) (cj aA)))))) (aB (aU j_)) bH)) PassesOwn.never) (aB (aU j_))))))
theorem yQ (F : Fun K "_law_rhyme" "_law_rhyme" jm f fd) (T : Tx__law_rhyme P w K mg base cl A) : FnOk P w K mg base CX0 3 f fd ["_law_record_here", "_law_told", "_law_one", "_law_other"] (spM ⟨K, cl⟩ gj false) := by
 refine fok F sc__law_rhyme (G := []) (G' := []) (L := []) fun _ _ _ _ _ _ hr _ _ => ?_
 exact (az (bc 4 sc__law_rhyme.nd (aJ T.c__law_end hr (aj (aa 0) (aj (aa 2) aA)))) (az (bc 5 sc__law_rhyme.nd (aJ T.c__law_end hr (aj (aa 0) (aj (aa 3) aA)))) (az (cR (aR (jt hr (aZ T.z_len (aa 4)) (aZ T.z_len (aa 5)))) (aB (aU j_)) bH) (az (eF [6] (gW T.z_range (aZ T.z_len (aa 4))) (ju 6 sc__law_rhyme.nd) (aB (cR (SW.st (oW (aR (jt hr (aG hr (aa 4) (aa 6)) (aG hr (aa 5) (aa 6)))) (oW (aR (pP hr (iD (aj (aG hr (aa 4) (aa 6)) (aj (aG hr (aa 5) (aa 6)) aA))) (aa 1))) (pD (aR (pP hr (iD (aj (aG hr (aa 5) (aa 6)) (aj (aG hr (aa 4) (aa 6)) aA))) (aa 1))))))) (aB (aU j_)) bH)) PassesOwn.never) (aB (aU j_))))))
theorem Pq (F : Fun K "law" "law" oO f fd) (T : Tx_law P w K mg base cl A) : FnOk P w K mg base CX0 8 f fd ["_law_script"] (spM ⟨K, cl⟩ v4 false) := by
 refine fok F sc_law (G := [6]) (G' := []) (L := []) fun _ _ _ _ _ _ hr _ _ => ?_
 exact (az (bc 1 sc_law.nd (aJ T.c__law_record hr (aj (aa 0) (aj aq aA)))) (az (bc 2 sc_law.nd (aJ T.c__law_likes hr (aj (aa 1) (aj (iK (aa 0) (cQ aq) (cQ aq)) aA)))) (az (bc 3 sc_law.nd (aJ T.c__law_tongue hr (aj (aa 0) (aj (aa 1) (aj (aa 2) aA))))) (az (bc 4 sc_law.nd (aJ T.c__law_words hr (aj (aa 1) (aj (aa 2) (aj (iK (aa 0) (cQ aq) (cQ aq)) aA))))) (az (bc 5 sc_law.nd (SE.val (wU T.z_list (aa 4)))) (az (iY 6 sc_law.nd (cj aA)) (az (eF [7] (cV (aa 4) (fun _ => by intro z; cases z)) (ju 7 sc_law.nd) (aB (mR 6 (SE.val (bN (osc := (ao oO)) (ON := ["_law_script", "_law_record_here", "_law_told", "_law_tongue_here", "_law_words_here", "_law_kept", "_law_rows_here", "_law_one", "_law_found", "_law_due_here"]) (N := ["_law_other", "_law_record_here", "_law_told", "_law_one"]) (cap := [none, some 1, some 2, some 7]) csc (dI 0) (cV (aa 4) (fun z => by cases z)) (fun _ _ _ _ => b_ 0) (fun _ _ _ _ => bQ) (fun _ _ _ _ => (aJ T.c__law_rhyme hr (aj (aa 1) (aj (aa 2) (aj (aa 3) (aj (aa 0) aA)))))))))) PassesOwn.never) (lH (G1 := []) (Ii "classes" 8 9 sc_law.nd T.c_chains_of hr (aj (aa 3) (aj (aa 4) aA)) (fun fx1 hx1 => (bc 9 sc_law.nd (aJ T.c__law_due hr (aj (aa 6) aA)))) (fun fx1 hx1 => (cR (SW.st (oF (lG (dG (aJ T.c__law_kinds hr (aj (aa 8) aA)))) (oF (aR (jt hr (aa 8) (aa 9))) (oV (aR (jt hr (aa 4) (aa 5))))))) (aB (aU j_)) bH)) (fun fx1 hx1 => (aR (cF hr (aG hr (aa 8) aq) aX))) (aB (aU (cC (cF hr (aJ (KQ T.c_chains_of) hr (aj (aa 3) (aj (aa 5) aA))) (aJ T.c__law_due hr (aj (aa 6) aA)))))))))))))))
end
end My
namespace My
open PySem L2 MR
def zg (K : W.Frag) : Sp := fun vs H Q _ => ∃ (a : Addr) (ns : List Int), vs = [V.ref a] /\ Only H /\ SqL K H a (ns.map V.int) /\ ns.length <= 63 /\ ∀ J, Q (.bl true) J
theorem Pr {K : W.Frag} {cl : Nat -> Addr} {vs : List V} {H : Hp} {Q : VK} {E : XK} (h : zg K vs H Q E) : spM ⟨K, cl⟩ v4 false vs H Q E := by
 obtain ⟨a, ns, rfl, ho, hs, hl, k⟩ := h
 have ri : Reps ⟨K, cl⟩ (fun _ => True) H (ns.map V.int) (ns.map PV.int) := wO _ _ (fun i => .int i) ns
 refine ⟨fun _ => True, [.frz (ns.map PV.int)], .bl true, .cons ?_ .nil, law_true ns hl, fun v H' s r => ?_⟩
 ·rcases hs with (hs | ⟨o, hs⟩) | hs
  ·rcases ho a with z | ⟨o, xs, z⟩
   ·rw [z] at hs; cases hs
   ·rw [z] at hs; cases hs
  ·exact .lstF hs ri
  ·exact .lstK (.inr hs) ri
 ·cases r
  exact k _
theorem all_mk {l : W.OpenLaw} {w : World} {K : W.Frag} {h : Heap} {mg : Str -> Option Value} {fa : Addr} (X : K.In h) (G : h.Ns mainGlobals mg) (hfa : mg "law" = some (.ref fa))
  (aC_Tongue : W.nsIn K mainGlobals "Tongue" = some (some (.ref C_Tongue)))
  (a_0 : W.nsIn K mainGlobals "_law_cell_at" = some (some (.ref f_0)))
  (l_0 : K.lookup f_0 = some ⟨oc_0, od_0, .func (W.fnOf "_law_cell_at" "_law_cell_at" (aP gC) (aO gC) (ao gC) .none kV_0 dc_0 pm_0 an_0 cd_0 ct_0), sl_0⟩)
  (c_0 : W.codeIn K cd_0 "_law_cell_at" = true)
  (k_0 : W.keepIn K (.ref f_0) = true)
  (a_1 : W.nsIn K mainGlobals "_law_letter" = some (some (.ref f_1)))
  (l_1 : K.lookup f_1 = some ⟨oc_1, od_1, .func (W.fnOf "_law_letter" "_law_letter" (aP iz) (aO iz) (ao iz) .none kV_1 dc_1 pm_1 an_1 cd_1 ct_1), sl_1⟩)
  (c_1 : W.codeIn K cd_1 "_law_letter" = true)
  (k_1 : W.keepIn K (.ref f_1) = true)
  (a_2 : W.nsIn K mainGlobals "_law_mix" = some (some (.ref f_2)))
  (l_2 : K.lookup f_2 = some ⟨oc_2, od_2, .func (W.fnOf "_law_mix" "_law_mix" (aP kZ) (aO kZ) (ao kZ) .none kV_2 dc_2 pm_2 an_2 cd_2 ct_2), sl_2⟩)
  (c_2 : W.codeIn K cd_2 "_law_mix" = true)
  (k_2 : W.keepIn K (.ref f_2) = true)
  (a_3 : W.nsIn K mainGlobals "_law_cluster" = some (some (.ref f_3)))
  (l_3 : K.lookup f_3 = some ⟨oc_3, od_3, .func (W.fnOf "_law_cluster" "_law_cluster" (aP gF) (aO gF) (ao gF) .none kV_3 dc_3 pm_3 an_3 cd_3 ct_3), sl_3⟩)
  (c_3 : W.codeIn K cd_3 "_law_cluster" = true)
  (k_3 : W.keepIn K (.ref f_3) = true)
  (a_4 : W.nsIn K mainGlobals "_law_record" = some (some (.ref f_4)))
  (l_4 : K.lookup f_4 = some ⟨oc_4, od_4, .func (W.fnOf "_law_record" "_law_record" (aP bU) (aO bU) (ao bU) .none kV_4 dc_4 pm_4 an_4 cd_4 ct_4), sl_4⟩)
  (c_4 : W.codeIn K cd_4 "_law_record" = true)
  (k_4 : W.keepIn K (.ref f_4) = true)
  (a_5 : W.nsIn K mainGlobals "_law_likes" = some (some (.ref f_5)))
  (l_5 : K.lookup f_5 = some ⟨oc_5, od_5, .func (W.fnOf "_law_likes" "_law_likes" (aP gM) (aO gM) (ao gM) .none kV_5 dc_5 pm_5 an_5 cd_5 ct_5), sl_5⟩)
  (c_5 : W.codeIn K cd_5 "_law_likes" = true)
  (k_5 : W.keepIn K (.ref f_5) = true)
  (a_6 : W.nsIn K mainGlobals "_law_rows" = some (some (.ref f_6)))
  (l_6 : K.lookup f_6 = some ⟨oc_6, od_6, .func (W.fnOf "_law_rows" "_law_rows" (aP iI) (aO iI) (ao iI) .none kV_6 dc_6 pm_6 an_6 cd_6 ct_6), sl_6⟩)
  (c_6 : W.codeIn K cd_6 "_law_rows" = true)
  (k_6 : W.keepIn K (.ref f_6) = true)
  (a_7 : W.nsIn K mainGlobals "told_behind" = some (some (.ref f_7)))
  (l_7 : K.lookup f_7 = some ⟨oc_7, od_7, .func (W.fnOf "told_behind" "told_behind" (aP iB) (aO iB) (ao iB) .none kV_7 dc_7 pm_7 an_7 cd_7 ct_7), sl_7⟩)
  (c_7 : W.codeIn K cd_7 "told_behind" = true)
  (k_7 : W.keepIn K (.ref f_7) = true)
  (a_8 : W.nsIn K mainGlobals "last_run" = some (some (.ref f_8)))
  (l_8 : K.lookup f_8 = some ⟨oc_8, od_8, .func (W.fnOf "last_run" "last_run" (aP k_) (aO k_) (ao k_) .none kV_8 dc_8 pm_8 an_8 cd_8 ct_8), sl_8⟩)
  (c_8 : W.codeIn K cd_8 "last_run" = true)
  (k_8 : W.keepIn K (.ref f_8) = true)
  (a_9 : W.nsIn K mainGlobals "told_alike" = some (some (.ref f_9)))
  (l_9 : K.lookup f_9 = some ⟨oc_9, od_9, .func (W.fnOf "told_alike" "told_alike" (aP jg) (aO jg) (ao jg) .none kV_9 dc_9 pm_9 an_9 cd_9 ct_9), sl_9⟩)
  (c_9 : W.codeIn K cd_9 "told_alike" = true)
  (k_9 : W.keepIn K (.ref f_9) = true)
  (a_10 : W.nsIn K mainGlobals "is_letter" = some (some (.ref f_10)))
  (l_10 : K.lookup f_10 = some ⟨oc_10, od_10, .func (W.fnOf "is_letter" "is_letter" (aP jT) (aO jT) (ao jT) .none kV_10 dc_10 pm_10 an_10 cd_10 ct_10), sl_10⟩)
  (c_10 : W.codeIn K cd_10 "is_letter" = true)
  (k_10 : W.keepIn K (.ref f_10) = true)
  (a_11 : W.nsIn K mainGlobals "is_carry_row" = some (some (.ref f_11)))
  (l_11 : K.lookup f_11 = some ⟨oc_11, od_11, .func (W.fnOf "is_carry_row" "is_carry_row" (aP fc) (aO fc) (ao fc) .none kV_11 dc_11 pm_11 an_11 cd_11 ct_11), sl_11⟩)
  (c_11 : W.codeIn K cd_11 "is_carry_row" = true)
  (k_11 : W.keepIn K (.ref f_11) = true)
  (a_12 : W.nsIn K mainGlobals "is_pair_of" = some (some (.ref f_12)))
  (l_12 : K.lookup f_12 = some ⟨oc_12, od_12, .func (W.fnOf "is_pair_of" "is_pair_of" (aP jh) (aO jh) (ao jh) .none kV_12 dc_12 pm_12 an_12 cd_12 ct_12), sl_12⟩)
  (c_12 : W.codeIn K cd_12 "is_pair_of" = true)
  (k_12 : W.keepIn K (.ref f_12) = true)
  (a_13 : W.nsIn K mainGlobals "is_one_row" = some (some (.ref f_13)))
  (l_13 : K.lookup f_13 = some ⟨oc_13, od_13, .func (W.fnOf "is_one_row" "is_one_row" (aP gO) (aO gO) (ao gO) .none kV_13 dc_13 pm_13 an_13 cd_13 ct_13), sl_13⟩)
  (c_13 : W.codeIn K cd_13 "is_one_row" = true)
  (k_13 : W.keepIn K (.ref f_13) = true)
  (a_14 : W.nsIn K mainGlobals "is_stop" = some (some (.ref f_14)))
  (l_14 : K.lookup f_14 = some ⟨oc_14, od_14, .func (W.fnOf "is_stop" "is_stop" (aP mH) (aO mH) (ao mH) .none kV_14 dc_14 pm_14 an_14 cd_14 ct_14), sl_14⟩)
  (c_14 : W.codeIn K cd_14 "is_stop" = true)
  (k_14 : W.keepIn K (.ref f_14) = true)
  (a_15 : W.nsIn K mainGlobals "are_alike_units" = some (some (.ref f_15)))
  (l_15 : K.lookup f_15 = some ⟨oc_15, od_15, .func (W.fnOf "are_alike_units" "are_alike_units" (aP cJ) (aO cJ) (ao cJ) .none kV_15 dc_15 pm_15 an_15 cd_15 ct_15), sl_15⟩)
  (c_15 : W.codeIn K cd_15 "are_alike_units" = true)
  (k_15 : W.keepIn K (.ref f_15) = true)
  (a_16 : W.nsIn K mainGlobals "is_cluster" = some (some (.ref f_16)))
  (l_16 : K.lookup f_16 = some ⟨oc_16, od_16, .func (W.fnOf "is_cluster" "is_cluster" (aP gP) (aO gP) (ao gP) .none kV_16 dc_16 pm_16 an_16 cd_16 ct_16), sl_16⟩)
  (c_16 : W.codeIn K cd_16 "is_cluster" = true)
  (k_16 : W.keepIn K (.ref f_16) = true)
  (a_17 : W.nsIn K mainGlobals "is_rule" = some (some (.ref f_17)))
  (l_17 : K.lookup f_17 = some ⟨oc_17, od_17, .func (W.fnOf "is_rule" "is_rule" (aP jo) (aO jo) (ao jo) .none kV_17 dc_17 pm_17 an_17 cd_17 ct_17), sl_17⟩)
  (c_17 : W.codeIn K cd_17 "is_rule" = true)
  (k_17 : W.keepIn K (.ref f_17) = true)
  (a_18 : W.findIn K (.ref C_Tongue) "__init__" = some (some (.ref f_18)))
  (i_18 : W.isFn K (.ref f_18) = true)
  (l_18 : K.lookup f_18 = some ⟨oc_18, od_18, .func (W.fnOf "__init__" "Tongue.__init__" (aP bZ) (aO bZ) (ao bZ) .none kV_18 dc_18 pm_18 an_18 cd_18 ct_18), sl_18⟩)
  (c_18 : W.codeIn K cd_18 "Tongue.__init__" = true)
  (k_18 : W.keepIn K (.ref f_18) = true)
  (a_19 : W.nsIn K mainGlobals "_law_tongue" = some (some (.ref f_19)))
  (l_19 : K.lookup f_19 = some ⟨oc_19, od_19, .func (W.fnOf "_law_tongue" "_law_tongue" (aP gn) (aO gn) (ao gn) .none kV_19 dc_19 pm_19 an_19 cd_19 ct_19), sl_19⟩)
  (c_19 : W.codeIn K cd_19 "_law_tongue" = true)
  (k_19 : W.keepIn K (.ref f_19) = true)
  (a_20 : W.nsIn K mainGlobals "_law_units" = some (some (.ref f_20)))
  (l_20 : K.lookup f_20 = some ⟨oc_20, od_20, .func (W.fnOf "_law_units" "_law_units" (aP ji) (aO ji) (ao ji) .none kV_20 dc_20 pm_20 an_20 cd_20 ct_20), sl_20⟩)
  (c_20 : W.codeIn K cd_20 "_law_units" = true)
  (k_20 : W.keepIn K (.ref f_20) = true)
  (a_21 : W.nsIn K mainGlobals "_law_end" = some (some (.ref f_21)))
  (l_21 : K.lookup f_21 = some ⟨oc_21, od_21, .func (W.fnOf "_law_end" "_law_end" (aP lg) (aO lg) (ao lg) .none kV_21 dc_21 pm_21 an_21 cd_21 ct_21), sl_21⟩)
  (c_21 : W.codeIn K cd_21 "_law_end" = true)
  (k_21 : W.keepIn K (.ref f_21) = true)
  (a_22 : W.nsIn K mainGlobals "_law_put_for" = some (some (.ref f_22)))
  (l_22 : K.lookup f_22 = some ⟨oc_22, od_22, .func (W.fnOf "_law_put_for" "_law_put_for" (aP dB) (aO dB) (ao dB) .none kV_22 dc_22 pm_22 an_22 cd_22 ct_22), sl_22⟩)
  (c_22 : W.codeIn K cd_22 "_law_put_for" = true)
  (k_22 : W.keepIn K (.ref f_22) = true)
  (a_23 : W.nsIn K mainGlobals "_law_echo" = some (some (.ref f_23)))
  (l_23 : K.lookup f_23 = some ⟨oc_23, od_23, .func (W.fnOf "_law_echo" "_law_echo" (aP jU) (aO jU) (ao jU) .none kV_23 dc_23 pm_23 an_23 cd_23 ct_23), sl_23⟩)
  (c_23 : W.codeIn K cd_23 "_law_echo" = true)
  (k_23 : W.keepIn K (.ref f_23) = true)
  (a_24 : W.nsIn K mainGlobals "_law_piece" = some (some (.ref f_24)))
  (l_24 : K.lookup f_24 = some ⟨oc_24, od_24, .func (W.fnOf "_law_piece" "_law_piece" (aP jk) (aO jk) (ao jk) .none kV_24 dc_24 pm_24 an_24 cd_24 ct_24), sl_24⟩)
  (c_24 : W.codeIn K cd_24 "_law_piece" = true)
  (k_24 : W.keepIn K (.ref f_24) = true)
  (a_25 : W.nsIn K mainGlobals "_law_word" = some (some (.ref f_25)))
  (l_25 : K.lookup f_25 = some ⟨oc_25, od_25, .func (W.fnOf "_law_word" "_law_word" (aP iJ) (aO iJ) (ao iJ) .none kV_25 dc_25 pm_25 an_25 cd_25 ct_25), sl_25⟩)
  (c_25 : W.codeIn K cd_25 "_law_word" = true)
  (k_25 : W.keepIn K (.ref f_25) = true)
  (a_26 : W.nsIn K mainGlobals "_law_words" = some (some (.ref f_26)))
  (l_26 : K.lookup f_26 = some ⟨oc_26, od_26, .func (W.fnOf "_law_words" "_law_words" (aP jl) (aO jl) (ao jl) .none kV_26 dc_26 pm_26 an_26 cd_26 ct_26), sl_26⟩)
  (c_26 : W.codeIn K cd_26 "_law_words" = true)
  (k_26 : W.keepIn K (.ref f_26) = true)
  (a_27 : W.nsIn K mainGlobals "first_broken" = some (some (.ref f_27)))
  (l_27 : K.lookup f_27 = some ⟨oc_27, od_27, .func (W.fnOf "first_broken" "first_broken" (aP dC) (aO dC) (ao dC) .none kV_27 dc_27 pm_27 an_27 cd_27 ct_27), sl_27⟩)
  (c_27 : W.codeIn K cd_27 "first_broken" = true)
  (k_27 : W.keepIn K (.ref f_27) = true)
  (a_28 : W.findIn K (.ref C_Tongue) "carries" = some (some (.ref f_28)))
  (i_28 : W.isFn K (.ref f_28) = true)
  (l_28 : K.lookup f_28 = some ⟨oc_28, od_28, .func (W.fnOf "carries" "Tongue.carries" (aP dW) (aO dW) (ao dW) .none kV_28 dc_28 pm_28 an_28 cd_28 ct_28), sl_28⟩)
  (c_28 : W.codeIn K cd_28 "Tongue.carries" = true)
  (k_28 : W.keepIn K (.ref f_28) = true)
  (a_29 : W.nsIn K mainGlobals "is_word" = some (some (.ref f_29)))
  (l_29 : K.lookup f_29 = some ⟨oc_29, od_29, .func (W.fnOf "is_word" "is_word" (aP jq) (aO jq) (ao jq) .none kV_29 dc_29 pm_29 an_29 cd_29 ct_29), sl_29⟩)
  (c_29 : W.codeIn K cd_29 "is_word" = true)
  (k_29 : W.keepIn K (.ref f_29) = true)
  (a_30 : W.nsIn K mainGlobals "refuse_no_word" = some (some (.ref f_30)))
  (l_30 : K.lookup f_30 = some ⟨oc_30, od_30, .func (W.fnOf "refuse_no_word" "refuse_no_word" (aP fj) (aO fj) (ao fj) .none kV_30 dc_30 pm_30 an_30 cd_30 ct_30), sl_30⟩)
  (c_30 : W.codeIn K cd_30 "refuse_no_word" = true)
  (k_30 : W.keepIn K (.ref f_30) = true)
  (a_31 : W.findIn K (.ref C_Tongue) "is_pair" = some (some (.ref f_31)))
  (i_31 : W.isFn K (.ref f_31) = true)
  (l_31 : K.lookup f_31 = some ⟨oc_31, od_31, .func (W.fnOf "is_pair" "Tongue.is_pair" (aP dX) (aO dX) (ao dX) .none kV_31 dc_31 pm_31 an_31 cd_31 ct_31), sl_31⟩)
  (c_31 : W.codeIn K cd_31 "Tongue.is_pair" = true)
  (k_31 : W.keepIn K (.ref f_31) = true)
  (a_32 : W.nsIn K mainGlobals "units_of" = some (some (.ref f_32)))
  (l_32 : K.lookup f_32 = some ⟨oc_32, od_32, .func (W.fnOf "units_of" "units_of" (aP lq) (aO lq) (ao lq) .none kV_32 dc_32 pm_32 an_32 cd_32 ct_32), sl_32⟩)
  (c_32 : W.codeIn K cd_32 "units_of" = true)
  (k_32 : W.keepIn K (.ref f_32) = true)
  (a_33 : W.nsIn K mainGlobals "end_of" = some (some (.ref f_33)))
  (l_33 : K.lookup f_33 = some ⟨oc_33, od_33, .func (W.fnOf "end_of" "end_of" (aP my) (aO my) (ao my) .none kV_33 dc_33 pm_33 an_33 cd_33 ct_33), sl_33⟩)
  (c_33 : W.codeIn K cd_33 "end_of" = true)
  (k_33 : W.keepIn K (.ref f_33) = true)
  (a_34 : W.findIn K (.ref C_Tongue) "alike" = some (some (.ref f_34)))
  (i_34 : W.isFn K (.ref f_34) = true)
  (l_34 : K.lookup f_34 = some ⟨oc_34, od_34, .func (W.fnOf "alike" "Tongue.alike" (aP f9) (aO f9) (ao f9) .none kV_34 dc_34 pm_34 an_34 cd_34 ct_34), sl_34⟩)
  (c_34 : W.codeIn K cd_34 "Tongue.alike" = true)
  (k_34 : W.keepIn K (.ref f_34) = true)
  (a_35 : W.nsIn K mainGlobals "ends_rhyme" = some (some (.ref f_35)))
  (l_35 : K.lookup f_35 = some ⟨oc_35, od_35, .func (W.fnOf "ends_rhyme" "ends_rhyme" (aP gQ) (aO gQ) (ao gQ) .none kV_35 dc_35 pm_35 an_35 cd_35 ct_35), sl_35⟩)
  (c_35 : W.codeIn K cd_35 "ends_rhyme" = true)
  (k_35 : W.keepIn K (.ref f_35) = true)
  (a_36 : W.nsIn K mainGlobals "mates_of" = some (some (.ref f_36)))
  (l_36 : K.lookup f_36 = some ⟨oc_36, od_36, .func (W.fnOf "mates_of" "mates_of" (aP jG) (aO jG) (ao jG) .none kV_36 dc_36 pm_36 an_36 cd_36 ct_36), sl_36⟩)
  (c_36 : W.codeIn K cd_36 "mates_of" = true)
  (k_36 : W.keepIn K (.ref f_36) = true)
  (a_37 : W.nsIn K mainGlobals "chains_of" = some (some (.ref f_37)))
  (l_37 : K.lookup f_37 = some ⟨oc_37, od_37, .func (W.fnOf "chains_of" "chains_of" (aP fC) (aO fC) (ao fC) .none kV_37 dc_37 pm_37 an_37 cd_37 ct_37), sl_37⟩)
  (c_37 : W.codeIn K cd_37 "chains_of" = true)
  (k_37 : W.keepIn K (.ref f_37) = true)
  (a_38 : W.nsIn K mainGlobals "_law_due" = some (some (.ref f_38)))
  (l_38 : K.lookup f_38 = some ⟨oc_38, od_38, .func (W.fnOf "_law_due" "_law_due" (aP jH) (aO jH) (ao jH) .none kV_38 dc_38 pm_38 an_38 cd_38 ct_38), sl_38⟩)
  (c_38 : W.codeIn K cd_38 "_law_due" = true)
  (k_38 : W.keepIn K (.ref f_38) = true)
  (a_39 : W.nsIn K mainGlobals "_law_kinds" = some (some (.ref f_39)))
  (l_39 : K.lookup f_39 = some ⟨oc_39, od_39, .func (W.fnOf "_law_kinds" "_law_kinds" (aP gR) (aO gR) (ao gR) .none kV_39 dc_39 pm_39 an_39 cd_39 ct_39), sl_39⟩)
  (c_39 : W.codeIn K cd_39 "_law_kinds" = true)
  (k_39 : W.keepIn K (.ref f_39) = true)
  (a_40 : W.nsIn K mainGlobals "_law_rhyme" = some (some (.ref f_40)))
  (l_40 : K.lookup f_40 = some ⟨oc_40, od_40, .func (W.fnOf "_law_rhyme" "_law_rhyme" (aP jm) (aO jm) (ao jm) .none kV_40 dc_40 pm_40 an_40 cd_40 ct_40), sl_40⟩)
  (c_40 : W.codeIn K cd_40 "_law_rhyme" = true)
  (k_40 : W.keepIn K (.ref f_40) = true)
  (a_41 : W.nsIn K mainGlobals "law" = some (some (.ref f_41)))
  (l_41 : K.lookup f_41 = some ⟨oc_41, od_41, .func (W.fnOf "law" "law" (aP oO) (aO oO) (ao oO) .none kV_41 dc_41 pm_41 an_41 cd_41 ct_41), sl_41⟩)
  (c_41 : W.codeIn K cd_41 "law" = true)
  (k_41 : W.keepIn K (.ref f_41) = true)
  (pg_Tongue : W.plainGet K C_Tongue Str.empty = true)
  (hd_Tongue : W.hasDictIn K C_Tongue = true)
  (po_Tongue : W.plainOver K C_Tongue = true)
  (sa_Tongue : W.findIn K (.ref C_Tongue) "__setattr__" = some (some (.builtin "object.__setattr__")))
  (mk_Tongue : W.makesIn K C_Tongue = true)
  (kc_Tongue : W.keepIn K (.ref C_Tongue) = true)
  (nf_Tongue_beginnings : W.findIn K (.ref C_Tongue) "beginnings" = some none)
  (nf_Tongue_carrying : W.findIn K (.ref C_Tongue) "carrying" = some none)
  (nf_Tongue_eithers : W.findIn K (.ref C_Tongue) "eithers" = some none)
  (nf_Tongue_likes : W.findIn K (.ref C_Tongue) "likes" = some none)
  (nf_Tongue_longs : W.findIn K (.ref C_Tongue) "longs" = some none)
  (nf_Tongue_pairs : W.findIn K (.ref C_Tongue) "pairs" = some none)
  (nf_Tongue_running : W.findIn K (.ref C_Tongue) "running" = some none)
  (nf_Tongue_splittings : W.findIn K (.ref C_Tongue) "splittings" = some none)
  (z_all : W.nsIn K mainGlobals "all" = some none)
  (z_any : W.nsIn K mainGlobals "any" = some none)
  (z_bool : W.nsIn K mainGlobals "bool" = some none)
  (z_dict : W.nsIn K mainGlobals "dict" = some none)
  (z_enumerate : W.nsIn K mainGlobals "enumerate" = some none)
  (z_int : W.nsIn K mainGlobals "int" = some none)
  (z_isinstance : W.nsIn K mainGlobals "isinstance" = some none)
  (z_len : W.nsIn K mainGlobals "len" = some none)
  (z_list : W.nsIn K mainGlobals "list" = some none)
  (z_max : W.nsIn K mainGlobals "max" = some none)
  (z_range : W.nsIn K mainGlobals "range" = some none)
  (z_str : W.nsIn K mainGlobals "str" = some none)
  (z_tuple : W.nsIn K mainGlobals "tuple" = some none)
  (z_zip : W.nsIn K mainGlobals "zip" = some none)
  (g_LEAST_STOPS : W.nsIn K mainGlobals "LEAST_STOPS" = some (some (.int 2 t_LEAST_STOPS)))
  (g_LETTERS : W.nsIn K mainGlobals "LETTERS" = some (some (.str "abcdefghijklmnopqrstuvwxyz" t_LETTERS)))
  (g_MOST_LETTERS : W.nsIn K mainGlobals "MOST_LETTERS" = some (some (.int 24 t_MOST_LETTERS)))
  (g_MOST_STOPS : W.nsIn K mainGlobals "MOST_STOPS" = some (some (.int 4 t_MOST_STOPS)))
  (g_RUNS : W.nsIn K mainGlobals "RUNS" = some (some (.ref a_RUNS)))
  (lk_RUNS : K.lookup a_RUNS = some ⟨.type "tuple", o_RUNS, .seq #[.str "never" t_RUNS_0, .str "may" t_RUNS_1, .str "must" t_RUNS_2] n_RUNS, sl_RUNS⟩)
  (is_bool : ∀ t k, (t, k) ∈ tb_bool -> W.kitOne K (.type t) (.type "bool") = some k)
  (is_int : ∀ t k, (t, k) ∈ tb_int -> W.kitOne K (.type t) (.type "int") = some k)
  (is_list : ∀ t k, (t, k) ∈ tb_list -> W.kitOne K (.type t) (.type "list") = some k)
  (is_str : ∀ t k, (t, k) ∈ tb_str -> W.kitOne K (.type t) (.type "str") = some k)
  (is_tuple : ∀ t k, (t, k) ∈ tb_tuple -> W.kitOne K (.type t) (.type "tuple") = some k) :
  ∃ fd : FuncData, (∀ (s : Shared) (v : Value), BindsTo s fd ⟨[v], []⟩ [("_law_script", v)]) /\ ∀ base : Heap, K.In base -> base.Ns mainGlobals mg -> FnOk l.prog w K mg base CX0 8 fa fd ["_law_script"] (zg K) := by
 have e := hfa.symm.trans (W.mg_of X G a_41)
 cases e
 have F_0 := a_ (st := gC) l_0 c_0 k_0
 have b_0 := F_0.binds (ps := ["_law_script", "_law_k"]) fun _ _ _ _ _ _ us hl => MR.len2 us hl (fun _ _ => rfl)
 have F_1 := a_ (st := iz) l_1 c_1 k_1
 have b_1 := F_1.binds (ps := ["_law_cell", "_law_k"]) fun _ _ _ _ _ _ us hl => MR.len2 us hl (fun _ _ => rfl)
 have F_2 := a_ (st := kZ) l_2 c_2 k_2
 have b_2 := F_2.binds (ps := ["_law_cell", "_law_k"]) fun _ _ _ _ _ _ us hl => MR.len2 us hl (fun _ _ => rfl)
 have F_3 := a_ (st := gF) l_3 c_3 k_3
 have b_3 := F_3.binds (ps := ["_law_base", "_law_many", "_law_number"]) fun _ _ _ _ _ _ us hl => MR.len3 us hl (fun _ _ _ => rfl)
 have F_4 := a_ (st := bU) l_4 c_4 k_4
 have b_4 := F_4.binds (ps := ["_law_script", "_law_at"]) fun _ _ _ _ _ _ us hl => MR.len2 us hl (fun _ _ => rfl)
 have F_5 := a_ (st := gM) l_5 c_5 k_5
 have b_5 := F_5.binds (ps := ["_law_record_here", "_law_cells"]) fun _ _ _ _ _ _ us hl => MR.len2 us hl (fun _ _ => rfl)
 have F_6 := a_ (st := iI) l_6 c_6 k_6
 have b_6 := F_6.binds (ps := ["_law_record_here", "_law_cell"]) fun _ _ _ _ _ _ us hl => MR.len2 us hl (fun _ _ => rfl)
 have F_7 := a_ (st := iB) l_7 c_7 k_7
 have b_7 := F_7.binds (ps := ["kind", "rows"]) fun _ _ _ _ _ _ us hl => MR.len2 us hl (fun _ _ => rfl)
 have F_8 := a_ (st := k_) l_8 c_8 k_8
 have b_8 := F_8.binds (ps := ["rows"]) fun _ _ _ _ _ _ us hl => MR.len1 us hl (fun _ => rfl)
 have F_9 := a_ (st := jg) l_9 c_9 k_9
 have b_9 := F_9.binds (ps := ["rows"]) fun _ _ _ _ _ _ us hl => MR.len1 us hl (fun _ => rfl)
 have F_10 := a_ (st := jT) l_10 c_10 k_10
 have b_10 := F_10.binds (ps := ["text"]) fun _ _ _ _ _ _ us hl => MR.len1 us hl (fun _ => rfl)
 have F_11 := a_ (st := fc) l_11 c_11 k_11
 have b_11 := F_11.binds (ps := ["row"]) fun _ _ _ _ _ _ us hl => MR.len1 us hl (fun _ => rfl)
 have F_12 := a_ (st := jh) l_12 c_12 k_12
 have b_12 := F_12.binds (ps := ["carrying", "word"]) fun _ _ _ _ _ _ us hl => MR.len2 us hl (fun _ _ => rfl)
 have F_13 := a_ (st := gO) l_13 c_13 k_13
 have b_13 := F_13.binds (ps := ["carrying", "row"]) fun _ _ _ _ _ _ us hl => MR.len2 us hl (fun _ _ => rfl)
 have F_14 := a_ (st := mH) l_14 c_14 k_14
 have b_14 := F_14.binds (ps := ["carrying", "text"]) fun _ _ _ _ _ _ us hl => MR.len2 us hl (fun _ _ => rfl)
 have F_15 := a_ (st := cJ) l_15 c_15 k_15
 have b_15 := F_15.binds (ps := ["carrying", "carriers", "words"]) fun _ _ _ _ _ _ us hl => MR.len3 us hl (fun _ _ _ => rfl)
 have F_16 := a_ (st := gP) l_16 c_16 k_16
 have b_16 := F_16.binds (ps := ["carrying", "word"]) fun _ _ _ _ _ _ us hl => MR.len2 us hl (fun _ _ => rfl)
 have F_17 := a_ (st := jo) l_17 c_17 k_17
 have b_17 := F_17.binds (ps := ["carrying", "pairs", "row"]) fun _ _ _ _ _ _ us hl => MR.len3 us hl (fun _ _ _ => rfl)
 have F_18 := a_ (st := bZ) l_18 c_18 k_18
 have b_18 := F_18.binds (ps := ["self", "rows"]) fun _ _ _ _ _ _ us hl => MR.len2 us hl (fun _ _ => rfl)
 have F_19 := a_ (st := gn) l_19 c_19 k_19
 have b_19 := F_19.binds (ps := ["_law_script", "_law_record_here", "_law_told"]) fun _ _ _ _ _ _ us hl => MR.len3 us hl (fun _ _ _ => rfl)
 have F_20 := a_ (st := ji) l_20 c_20 k_20
 have b_20 := F_20.binds (ps := ["_law_record_here", "_law_word_here"]) fun _ _ _ _ _ _ us hl => MR.len2 us hl (fun _ _ => rfl)
 have F_21 := a_ (st := lg) l_21 c_21 k_21
 have b_21 := F_21.binds (ps := ["_law_record_here", "_law_word_here"]) fun _ _ _ _ _ _ us hl => MR.len2 us hl (fun _ _ => rfl)
 have F_22 := a_ (st := dB) l_22 c_22 k_22
 have b_22 := F_22.binds (ps := ["_law_told", "_law_unit", "_law_number"]) fun _ _ _ _ _ _ us hl => MR.len3 us hl (fun _ _ _ => rfl)
 have F_23 := a_ (st := jU) l_23 c_23 k_23
 have b_23 := F_23.binds (ps := ["_law_record_here", "_law_told", "_law_word_here", "_law_cell"]) fun _ _ _ _ _ _ us hl => MR.len4 us hl (fun _ _ _ _ => rfl)
 have F_24 := a_ (st := jk) l_24 c_24 k_24
 have b_24 := F_24.binds (ps := ["_law_record_here", "_law_number"]) fun _ _ _ _ _ _ us hl => MR.len2 us hl (fun _ _ => rfl)
 have F_25 := a_ (st := iJ) l_25 c_25 k_25
 have b_25 := F_25.binds (ps := ["_law_record_here", "_law_cell"]) fun _ _ _ _ _ _ us hl => MR.len2 us hl (fun _ _ => rfl)
 have F_26 := a_ (st := jl) l_26 c_26 k_26
 have b_26 := F_26.binds (ps := ["_law_record_here", "_law_told", "_law_cells"]) fun _ _ _ _ _ _ us hl => MR.len3 us hl (fun _ _ _ => rfl)
 have F_27 := a_ (st := dC) l_27 c_27 k_27
 have b_27 := F_27.binds (ps := ["mates"]) fun _ _ _ _ _ _ us hl => MR.len1 us hl (fun _ => rfl)
 have F_28 := a_ (st := dW) l_28 c_28 k_28
 have b_28 := F_28.binds (ps := ["self", "letter"]) fun _ _ _ _ _ _ us hl => MR.len2 us hl (fun _ _ => rfl)
 have F_29 := a_ (st := jq) l_29 c_29 k_29
 have b_29 := F_29.binds (ps := ["tongue", "thing"]) fun _ _ _ _ _ _ us hl => MR.len2 us hl (fun _ _ => rfl)
 have F_30 := a_ (st := fj) l_30 c_30 k_30
 have b_30 := F_30.binds (ps := ["tongue", "thing"]) fun _ _ _ _ _ _ us hl => MR.len2 us hl (fun _ _ => rfl)
 have F_31 := a_ (st := dX) l_31 c_31 k_31
 have b_31 := F_31.binds (ps := ["self", "pair"]) fun _ _ _ _ _ _ us hl => MR.len2 us hl (fun _ _ => rfl)
 have F_32 := a_ (st := lq) l_32 c_32 k_32
 have b_32 := F_32.binds (ps := ["tongue", "word"]) fun _ _ _ _ _ _ us hl => MR.len2 us hl (fun _ _ => rfl)
 have F_33 := a_ (st := my) l_33 c_33 k_33
 have b_33 := F_33.binds (ps := ["tongue", "word"]) fun _ _ _ _ _ _ us hl => MR.len2 us hl (fun _ _ => rfl)
 have F_34 := a_ (st := f9) l_34 c_34 k_34
 have b_34 := F_34.binds (ps := ["self", "one", "other"]) fun _ _ _ _ _ _ us hl => MR.len3 us hl (fun _ _ _ => rfl)
 have F_35 := a_ (st := gQ) l_35 c_35 k_35
 have b_35 := F_35.binds (ps := ["tongue", "one", "other"]) fun _ _ _ _ _ _ us hl => MR.len3 us hl (fun _ _ _ => rfl)
 have F_36 := a_ (st := jG) l_36 c_36 k_36
 have b_36 := F_36.binds (ps := ["tongue", "ends", "end"]) fun _ _ _ _ _ _ us hl => MR.len3 us hl (fun _ _ _ => rfl)
 have F_37 := a_ (st := fC) l_37 c_37 k_37
 have b_37 := F_37.binds (ps := ["tongue", "words"]) fun _ _ _ _ _ _ us hl => MR.len2 us hl (fun _ _ => rfl)
 have F_38 := a_ (st := jH) l_38 c_38 k_38
 have b_38 := F_38.binds (ps := ["_law_rows_here"]) fun _ _ _ _ _ _ us hl => MR.len1 us hl (fun _ => rfl)
 have F_39 := a_ (st := gR) l_39 c_39 k_39
 have b_39 := F_39.binds (ps := ["_law_found"]) fun _ _ _ _ _ _ us hl => MR.len1 us hl (fun _ => rfl)
 have F_40 := a_ (st := jm) l_40 c_40 k_40
 have b_40 := F_40.binds (ps := ["_law_record_here", "_law_told", "_law_one", "_law_other"]) fun _ _ _ _ _ _ us hl => MR.len4 us hl (fun _ _ _ _ => rfl)
 have F_41 := a_ (st := oO) l_41 c_41 k_41
 have b_41 := F_41.binds (ps := ["_law_script"]) fun _ _ _ _ _ _ us hl => MR.len1 us hl (fun _ => rfl)
 refine ⟨W.fnOf "law" "law" (aP oO) (aO oO) (ao oO) .none kV_41 dc_41 pm_41 an_41 cd_41 ct_41, fun s v => .of_eq rfl, fun base _ _ => ?_⟩
 let cl : Nat -> Addr := fun n => match n with | 0 => C_Tongue | _ => 0
 let A : Adr := { t_LEAST_STOPS := t_LEAST_STOPS, t_LETTERS := t_LETTERS, t_MOST_LETTERS := t_MOST_LETTERS, t_MOST_STOPS := t_MOST_STOPS, a_RUNS := a_RUNS }
 have cl_Tongue : Cls K (cl 0) := ⟨pg_Tongue, hd_Tongue, po_Tongue, sa_Tongue⟩
 have r_RUNS : ∀ (B : Addr -> Prop) (H : Hp), Rep ⟨K, cl⟩ B H (.ref a_RUNS) qN := fun B H => .tupK (vs := [V.str "never", V.str "may", V.str "must"]) (.inr ⟨_, _, _, lk_RUNS, rfl, rfl, (by show 3 <= sizeLine; decide), (.cons ⟨_, rfl⟩ (.cons ⟨_, rfl⟩ (.cons ⟨_, rfl⟩ .nil)))⟩) (.cons (.str _) (.cons (.str _) (.cons (.str _) .nil)))
 have q7 : Q7 l.prog w K mg base cl A := ⟨⟩
 have G_0 := wA F_0 ⟨q7, W.mg_none_of X G z_len⟩
 have k__law_cell_at := bu F_0 (W.mg_of X G a_0) b_0 G_0
 have G_1 := xr F_1 ⟨q7⟩
 have k__law_letter := bu F_1 (W.mg_of X G a_1) b_1 G_1
 have G_2 := Bx F_2 ⟨q7⟩
 have k__law_mix := bu F_2 (W.mg_of X G a_2) b_2 G_2
 have G_3 := wB F_3 ⟨q7, W.mg_none_of X G z_range, k__law_letter⟩
 have k__law_cluster := bu F_3 (W.mg_of X G a_3) b_3 G_3
 have G_4 := xu F_4 ⟨q7, W.mg_none_of X G z_len, W.mg_none_of X G z_range, k__law_cell_at, k__law_cluster, k__law_letter, k__law_mix⟩
 have k__law_record := bu F_4 (W.mg_of X G a_4) b_4 G_4
 have G_5 := yG F_5 ⟨q7, W.mg_none_of X G z_len, W.mg_none_of X G z_range, k__law_letter⟩
 have k__law_likes := bu F_5 (W.mg_of X G a_5) b_5 G_5
 have G_6 := Bj F_6 ⟨q7, W.mg_none_of X G z_enumerate, W.mg_none_of X G z_len⟩
 have k__law_rows := bu F_6 (W.mg_of X G a_6) b_6 G_6
 have G_7 := xF F_7 ⟨q7⟩
 have k_told_behind := bu F_7 (W.mg_of X G a_7) b_7 G_7
 have G_8 := By F_8 ⟨q7⟩
 have k_last_run := bu F_8 (W.mg_of X G a_8) b_8 G_8
 have G_9 := yH F_9 ⟨q7⟩
 have k_told_alike := bu F_9 (W.mg_of X G a_9) b_9 G_9
 have G_10 := Bk F_10 ⟨q7, W.mg_none_of X G z_len, W.mg_of X G g_LETTERS⟩
 have k_is_letter := bu F_10 (W.mg_of X G a_10) b_10 G_10
 have G_11 := wC F_11 ⟨q7, W.mg_none_of X G z_all, W.mg_none_of X G z_len, k_is_letter⟩
 have k_is_carry_row := bu F_11 (W.mg_of X G a_11) b_11 G_11
 have G_12 := yI F_12 ⟨q7, W.mg_none_of X G z_len⟩
 have k_is_pair_of := bu F_12 (W.mg_of X G a_12) b_12 G_12
 have G_13 := yJ F_13 ⟨q7, W.mg_none_of X G z_all, W.mg_none_of X G z_len, k_is_pair_of⟩
 have k_is_one_row := bu F_13 (W.mg_of X G a_13) b_13 G_13
 have G_14 := Em F_14 ⟨q7, k_is_letter⟩
 have k_is_stop := bu F_14 (W.mg_of X G a_14) b_14 G_14
 have G_15 := ue F_15 ⟨q7, W.mg_none_of X G z_all, W.mg_none_of X G z_len, k_is_stop⟩
 have k_are_alike_units := bu F_15 (W.mg_of X G a_15) b_15 G_15
 have G_16 := yK F_16 ⟨q7, W.mg_none_of X G z_all, W.mg_none_of X G z_len, W.mg_of X G g_LEAST_STOPS, W.mg_of X G g_MOST_STOPS, k_is_stop⟩
 have k_is_cluster := bu F_16 (W.mg_of X G a_16) b_16 G_16
 have G_17 := En F_17 ⟨q7, W.mg_none_of X G z_all, W.mg_none_of X G z_len, W.mg_none_of X G z_list, W.mg_of X G g_RUNS, r_RUNS, k_are_alike_units, k_is_carry_row, k_is_cluster, k_is_one_row⟩
 have k_is_rule := bu F_17 (W.mg_of X G a_17) b_17 G_17
 have G_18 := rP F_18 ⟨q7, W.mg_none_of X G z_enumerate, cl_Tongue, nf_Tongue_beginnings, nf_Tongue_carrying, nf_Tongue_eithers, nf_Tongue_likes, nf_Tongue_longs, nf_Tongue_pairs, nf_Tongue_running, nf_Tongue_splittings, k_is_carry_row, k_is_one_row, k_is_rule, k_last_run, k_told_alike, k_told_behind⟩
 have k_Tongue____init__ : CalI l.prog w K mg base (cl 0) _ "Tongue" _ _ := ⟨_, _, G_18, b_18, ⟨mk_Tongue, a_18, i_18, kc_Tongue⟩, W.mg_of X G aC_Tongue⟩
 have G_19 := xG F_19 ⟨q7, k__law_cell_at, k__law_rows, k_Tongue____init__⟩
 have k__law_tongue := bu F_19 (W.mg_of X G a_19) b_19 G_19
 have G_20 := yL F_20 ⟨q7, W.mg_none_of X G z_int⟩
 have k__law_units := bu F_20 (W.mg_of X G a_20) b_20 G_20
 have G_21 := BJ F_21 ⟨q7, W.mg_none_of X G z_len, k__law_units⟩
 have k__law_end := bu F_21 (W.mg_of X G a_21) b_21 G_21
 have G_22 := wD F_22 ⟨q7, W.mg_none_of X G z_len⟩
 have k__law_put_for := bu F_22 (W.mg_of X G a_22) b_22 G_22
 have G_23 := Bl F_23 ⟨q7, W.mg_none_of X G z_len, W.mg_none_of X G z_range, k__law_end, k__law_letter, k__law_mix, k__law_put_for⟩
 have k__law_echo := bu F_23 (W.mg_of X G a_23) b_23 G_23
 have G_24 := yM F_24 ⟨q7, W.mg_none_of X G z_len, k__law_letter⟩
 have k__law_piece := bu F_24 (W.mg_of X G a_24) b_24 G_24
 have G_25 := Bm F_25 ⟨q7, W.mg_none_of X G z_len, W.mg_none_of X G z_range, k__law_mix, k__law_piece⟩
 have k__law_word := bu F_25 (W.mg_of X G a_25) b_25 G_25
 have G_26 := yN F_26 ⟨q7, W.mg_none_of X G z_len, k__law_echo, k__law_word⟩
 have k__law_words := bu F_26 (W.mg_of X G a_26) b_26 G_26
 have G_27 := wF F_27 ⟨q7, W.mg_none_of X G z_dict, W.mg_none_of X G z_enumerate, W.mg_none_of X G z_len⟩
 have k_first_broken := bu F_27 (W.mg_of X G a_27) b_27 G_27
 have G_28 := uf F_28 ⟨q7, cl_Tongue, nf_Tongue_carrying⟩
 have k_Tongue__carries : CalM l.prog w K mg base (cl 0) _ "carries" _ _ := ⟨_, _, G_28, b_28, ⟨a_28, i_28, k_28⟩⟩
 have G_29 := Eo F_29 ⟨q7, W.mg_none_of X G z_all, W.mg_none_of X G z_any, W.mg_none_of X G z_isinstance, W.mg_none_of X G z_len, W.mg_none_of X G z_str, is_str, W.mg_of X G g_MOST_LETTERS, cl_Tongue, k_is_letter, k_Tongue__carries⟩
 have k_is_word := bu F_29 (W.mg_of X G a_29) b_29 G_29
 have G_30 := uK F_30 ⟨q7, k_is_word⟩
 have k_refuse_no_word := bu F_30 (W.mg_of X G a_30) b_30 G_30
 have G_31 := ug F_31 ⟨q7, cl_Tongue, nf_Tongue_pairs⟩
 have k_Tongue__is_pair : CalM l.prog w K mg base (cl 0) _ "is_pair" _ _ := ⟨_, _, G_31, b_31, ⟨a_31, i_31, k_31⟩⟩
 have G_32 := BK F_32 ⟨q7, W.mg_none_of X G z_len, cl_Tongue, k_refuse_no_word, k_Tongue__is_pair⟩
 have k_units_of := bu F_32 (W.mg_of X G a_32) b_32 G_32
 have G_33 := G_ F_33 ⟨q7, W.mg_none_of X G z_enumerate, W.mg_none_of X G z_max, cl_Tongue, k_units_of, k_Tongue__carries⟩
 have k_end_of := bu F_33 (W.mg_of X G a_33) b_33 G_33
 have G_34 := vC F_34 ⟨q7, cl_Tongue, nf_Tongue_likes⟩
 have k_Tongue__alike : CalM l.prog w K mg base (cl 0) _ "alike" _ _ := ⟨_, _, G_34, b_34, ⟨a_34, i_34, k_34⟩⟩
 have G_35 := yO F_35 ⟨q7, W.mg_none_of X G z_all, W.mg_none_of X G z_len, W.mg_none_of X G z_zip, cl_Tongue, k_Tongue__alike⟩
 have k_ends_rhyme := bu F_35 (W.mg_of X G a_35) b_35 G_35
 have G_36 := BP F_36 ⟨q7, W.mg_none_of X G z_enumerate, k_ends_rhyme⟩
 have k_mates_of := bu F_36 (W.mg_of X G a_36) b_36 G_36
 have G_37 := Bo F_37 ⟨q7, W.mg_none_of X G z_enumerate, k_end_of, k_first_broken, k_mates_of⟩
 have k_chains_of := bu F_37 (W.mg_of X G a_37) b_37 G_37
 have G_38 := BR F_38 ⟨q7, W.mg_none_of X G z_len, W.mg_none_of X G z_range⟩
 have k__law_due := bu F_38 (W.mg_of X G a_38) b_38 G_38
 have G_39 := yP F_39 ⟨q7, W.mg_none_of X G z_bool, W.mg_none_of X G z_int, W.mg_none_of X G z_isinstance, W.mg_none_of X G z_len, W.mg_none_of X G z_list, W.mg_none_of X G z_str, W.mg_none_of X G z_tuple, is_bool, is_int, is_list, is_str, is_tuple⟩
 have k__law_kinds := bu F_39 (W.mg_of X G a_39) b_39 G_39
 have G_40 := yQ F_40 ⟨q7, W.mg_none_of X G z_len, W.mg_none_of X G z_range, k__law_end⟩
 have k__law_rhyme := bu F_40 (W.mg_of X G a_40) b_40 G_40
 have G_41 := Pq F_41 ⟨q7, W.mg_none_of X G z_list, k__law_due, k__law_kinds, k__law_likes, k__law_record, k__law_rhyme, k__law_tongue, k__law_words, k_chains_of⟩
 exact G_41.imp fun vs H Q E h => Pr h
theorem walk {l : W.OpenLaw} {q : Program} {loose : List Str} {XP : (Str -> Option Value) -> Heap -> Prop} {YP : World -> Heap -> Prop} {d : DefRec} {K : Params -> W.Frag} (hn : l.most = some 63) (hdf : d.params.defaults = [])
  (hY : ∀ (w : World) (h : Heap), YP w h -> (K w.params).In h)
  (F : ∀ (w : World) (mg : Str -> Option Value) (fa : Addr) (h : Heap), (K w.params).In h -> h.Ns mainGlobals mg -> mg d.name = some (.ref fa) ->
   ∃ fd : FuncData, (∀ (s : Shared) (u : Value), BindsTo s fd ⟨[u], []⟩ [("_law_script", u)]) /\ ∀ base : Heap, (K w.params).In base -> base.Ns mainGlobals mg -> FnOk l.prog w (K w.params) mg base CX0 8 fa fd ["_law_script"] (zg (K w.params))) :
  W.WalkO q loose XP YP l.row.toRowW d [] (fun f vs => PySem.call f vs) :=
 L2.walk_of (n := 63) (k := 8) (x := "_law_script") (CX := fun _ => CX0) (sp := fun w => zg (K w.params)) hn (by decide) hdf ⟨rfl, by decide, by decide⟩ hY F (fun _ _ a ns hl hO hS => ⟨a, ns, rfl, hO, hS, hl, fun _ => rfl⟩) fun _ _ _ _ _ z => z
end My
open PySem PySem.W PyProof.Rows
def PySem.W.Fast.tw9327949703128527319 := ()
def PySem.W.Fast.tw11360383217065203311 := ()
def PySem.W.Fast.tw7674470988127429728 := ()
def PySem.W.Fast.tw12783135604467624519 := ()
def PySem.W.Fast.tw734872803465625530 := ()
def PySem.W.Fast.tw6970330336923215947 := ()
def PySem.W.Fast.tw691109310541225934 := ()
def PySem.W.Fast.tw15389815442449263788 := ()
def PySem.W.Fast.tw2236514499180861331 := ()
def PySem.W.Fast.tw461784138345098555 := ()
def PySem.W.Fast.tw3238393501151284102 := ()
def PySem.W.Fast.tw8617645187194141301 := ()
def PySem.W.Fast.tw14960522052418073402 := ()
def PySem.W.Fast.tw10526964294441467443 := ()
def PySem.W.Fast.tw836184156646634138 := ()
def PySem.W.Fast.tw5329835094408713454 := ()
def PySem.W.Fast.tw12791900315085070661 := ()
def PySem.W.Fast.tw17848009845385615234 := ()
def PySem.W.Fast.tw4822256987083848595 := ()
def PySem.W.Fast.tw1524485337244300021 := ()
def PySem.W.Fast.tw15719213492626767403 := ()
def PySem.W.Fast.tw5833535815037373326 := ()
def PySem.W.Fast.tw18284086380389810408 := ()
def PySem.W.Fast.tw2093165876966134830 := ()
def PySem.W.Fast.tw8615448915524503786 := ()
def PySem.W.Fast.tw18327655892359677755 := ()
def PySem.W.Fast.tw265341650804162877 := ()
def PySem.W.Fast.tw1301129793071092709 := ()
def PySem.W.Fast.tw16116477388212612865 := ()
def PySem.W.Fast.tw2066678838218481164 := ()
def PySem.W.Fast.tw12012597123679315519 := ()
def PySem.W.Fast.tw14886394785117317400 := ()
def PySem.W.Fast.tw15023351202445371001 := ()
def PySem.W.Fast.tw13413608089207998332 := ()
def PySem.W.Fast.tw1350375924346587162 := ()
def PySem.W.Fast.tw18151216222501913979 := ()
def PySem.W.Fast.tw17404977690540409193 := ()
def PySem.W.Fast.tw18368153215175381355 := ()
def PySem.W.Fast.tw2728636117303258598 := ()
def PySem.W.Fast.tw12662065738094606341 := ()
def PySem.W.Fast.tw3912993616482523868 := ()
def PySem.W.Fast.tw192115840175359688 := ()
def PySem.W.Fast.tw5938686889728412391 := ()
def PySem.W.Fast.tw15900761295166616963 := ()
def PySem.W.Fast.tw10438211086048440386 := ()
def PySem.W.Fast.tw16510571482281044214 := ()
def PySem.W.Fast.tw16598127536727390128 := ()
def PySem.W.Fast.tw9636056483808576285 := ()
def PySem.W.Fast.tw7299793521420695102 := ()
def PySem.W.Fast.tw7731901503905375887 := ()
def PySem.W.Fast.tw10542604272199816436 := ()
def PySem.W.Fast.tw9195933317769103343 := ()
def PySem.W.Fast.tw12649288753605640514 := ()
def PySem.W.Fast.tw15830592232692537650 := ()
set_option maxRecDepth 100000 in
set_option maxHeartbeats 0 in
theorem PySem.Challenge.cw_lilt_k63_classes_or_broken_holds : PySem.Challenge.rw_lilt_k63_classes_or_broken.Holds := by
 w_on; o_law; k_head; (case hw => w_witness2)
 k_fill
 refine My.walk (l := PySem.Challenge.rw_lilt_k63_classes_or_broken) rfl rfl (fun w h Y => PySem.W.kIn_of Y) ?F
 case F =>
  intro w mg fa h KX G hmg
  refine' My.all_mk KX G hmg ?aC_Tongue ?a_0 ?l_0 ?c_0 ?k_0 ?a_1 ?l_1 ?c_1 ?k_1 ?a_2 ?l_2 ?c_2 ?k_2 ?a_3 ?l_3 ?c_3 ?k_3 ?a_4 ?l_4 ?c_4 ?k_4 ?a_5 ?l_5 ?c_5 ?k_5 ?a_6 ?l_6 ?c_6 ?k_6 ?a_7 ?l_7 ?c_7 ?k_7 ?a_8 ?l_8 ?c_8 ?k_8 ?a_9 ?l_9 ?c_9 ?k_9 ?a_10 ?l_10 ?c_10 ?k_10 ?a_11 ?l_11 ?c_11 ?k_11 ?a_12 ?l_12 ?c_12 ?k_12 ?a_13 ?l_13 ?c_13 ?k_13 ?a_14 ?l_14 ?c_14 ?k_14 ?a_15 ?l_15 ?c_15 ?k_15 ?a_16 ?l_16 ?c_16 ?k_16 ?a_17 ?l_17 ?c_17 ?k_17 ?a_18 ?i_18 ?l_18 ?c_18 ?k_18 ?a_19 ?l_19 ?c_19 ?k_19 ?a_20 ?l_20 ?c_20 ?k_20 ?a_21 ?l_21 ?c_21 ?k_21 ?a_22 ?l_22 ?c_22 ?k_22 ?a_23 ?l_23 ?c_23 ?k_23 ?a_24 ?l_24 ?c_24 ?k_24 ?a_25 ?l_25 ?c_25 ?k_25 ?a_26 ?l_26 ?c_26 ?k_26 ?a_27 ?l_27 ?c_27 ?k_27 ?a_28 ?i_28 ?l_28 ?c_28 ?k_28 ?a_29 ?l_29 ?c_29 ?k_29 ?a_30 ?l_30 ?c_30 ?k_30 ?a_31 ?i_31 ?l_31 ?c_31 ?k_31 ?a_32 ?l_32 ?c_32 ?k_32 ?a_33 ?l_33 ?c_33 ?k_33 ?a_34 ?i_34 ?l_34 ?c_34 ?k_34 ?a_35 ?l_35 ?c_35 ?k_35 ?a_36 ?l_36 ?c_36 ?k_36 ?a_37 ?l_37 ?c_37 ?k_37 ?a_38 ?l_38 ?c_38 ?k_38 ?a_39 ?l_39 ?c_39 ?k_39 ?a_40 ?l_40 ?c_40 ?k_40 ?a_41 ?l_41 ?c_41 ?k_41 ?pg_Tongue ?hd_Tongue ?po_Tongue ?sa_Tongue ?mk_Tongue ?kc_Tongue ?nf_Tongue_beginnings ?nf_Tongue_carrying ?nf_Tongue_eithers ?nf_Tongue_likes ?nf_Tongue_longs ?nf_Tongue_pairs ?nf_Tongue_running ?nf_Tongue_splittings ?z_all ?z_any ?z_bool ?z_dict ?z_enumerate ?z_int ?z_isinstance ?z_len ?z_list ?z_max ?z_range ?z_str ?z_tuple ?z_zip ?g_LEAST_STOPS ?g_LETTERS ?g_MOST_LETTERS ?g_MOST_STOPS ?g_RUNS ?lk_RUNS ?is_bool ?is_int ?is_list ?is_str ?is_tuple
  (case aC_Tongue | a_0 | l_0 | c_0 | k_0 | a_1 | l_1 | c_1 | k_1 | a_2 | l_2 | c_2 | k_2 | a_3 | l_3 | c_3 | k_3 | a_4 | l_4 | c_4 | k_4 | a_5 | l_5 | c_5 | k_5 | a_6 | l_6 | c_6 | k_6 | a_7 | l_7 | c_7 | k_7 | a_8 | l_8 | c_8 | k_8 | a_9 | l_9 | c_9 | k_9 | a_10 | l_10 | c_10 | k_10 | a_11 | l_11 | c_11 | k_11 | a_12 | l_12 | c_12 | k_12 | a_13 | l_13 | c_13 | k_13 | a_14 | l_14 | c_14 | k_14 | a_15 | l_15 | c_15 | k_15 | a_16 | l_16 | c_16 | k_16 | a_17 | l_17 | c_17 | k_17 | a_18 | i_18 | l_18 | c_18 | k_18 | a_19 | l_19 | c_19 | k_19 | a_20 | l_20 | c_20 | k_20 | a_21 | l_21 | c_21 | k_21 | a_22 | l_22 | c_22 | k_22 | a_23 | l_23 | c_23 | k_23 | a_24 | l_24 | c_24 | k_24 | a_25 | l_25 | c_25 | k_25 | a_26 | l_26 | c_26 | k_26 | a_27 | l_27 | c_27 | k_27 | a_28 | i_28 | l_28 | c_28 | k_28 | a_29 | l_29 | c_29 | k_29 | a_30 | l_30 | c_30 | k_30 | a_31 | i_31 | l_31 | c_31 | k_31 | a_32 | l_32 | c_32 | k_32 | a_33 | l_33 | c_33 | k_33 | a_34 | i_34 | l_34 | c_34 | k_34 | a_35 | l_35 | c_35 | k_35 | a_36 | l_36 | c_36 | k_36 | a_37 | l_37 | c_37 | k_37 | a_38 | l_38 | c_38 | k_38 | a_39 | l_39 | c_39 | k_39 | a_40 | l_40 | c_40 | k_40 | a_41 | l_41 | c_41 | k_41 | pg_Tongue | hd_Tongue | po_Tongue | sa_Tongue | mk_Tongue | kc_Tongue | nf_Tongue_beginnings | nf_Tongue_carrying | nf_Tongue_eithers | nf_Tongue_likes | nf_Tongue_longs | nf_Tongue_pairs | nf_Tongue_running | nf_Tongue_splittings | z_all | z_any | z_bool | z_dict | z_enumerate | z_int | z_isinstance | z_len | z_list | z_max | z_range | z_str | z_tuple | z_zip | g_LEAST_STOPS | g_LETTERS | g_MOST_LETTERS | g_MOST_STOPS | g_RUNS | lk_RUNS => k_is)
  (case is_bool => intro t k hm; simp only [My.tb_bool, List.mem_cons, List.not_mem_nil, or_false, Prod.mk.injEq] at hm; rcases hm with ⟨rfl, rfl⟩ | ⟨rfl, rfl⟩ <;> first | rfl | k_is)
  (case is_int => intro t k hm; simp only [My.tb_int, List.mem_cons, List.not_mem_nil, or_false, Prod.mk.injEq] at hm; rcases hm with ⟨rfl, rfl⟩ <;> first | rfl | k_is)
  (case is_list => intro t k hm; simp only [My.tb_list, List.mem_cons, List.not_mem_nil, or_false, Prod.mk.injEq] at hm; rcases hm with ⟨rfl, rfl⟩ <;> first | rfl | k_is)
  (case is_str => intro t k hm; simp only [My.tb_str, List.mem_cons, List.not_mem_nil, or_false, Prod.mk.injEq] at hm; rcases hm with ⟨rfl, rfl⟩ <;> first | rfl | k_is)
  (case is_tuple => intro t k hm; simp only [My.tb_tuple, List.mem_cons, List.not_mem_nil, or_false, Prod.mk.injEq] at hm; rcases hm with ⟨rfl, rfl⟩ <;> first | rfl | k_is)
