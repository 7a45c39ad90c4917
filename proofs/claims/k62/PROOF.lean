import PyProof.Rows.All
import Wide.All
import OpenK.AllK
import Wide.FinOn
import Lean
import PyProof.EqAt
import PyProof.EqKinds
import PyProof.TupleCall
import KE.KRevIter
import PyProof.ListStr
import PyProof.Rows.Range3
import PyProof.WalkInts
import PyProof.AttrMissHeap
import KE.KDictOf
import KE.RegKTryMore
import PySem.Challenge.RW_lilt_k62_no_words_to_rhyme
set_option Elab.async false
set_option linter.all false
set_option maxRecDepth 100000
set_option maxHeartbeats 4000000
namespace L2
open PySem PySem.Spec PyProof.Rows
abbrev Key := Sum Int Str
def sY : Key -> Value -> Bool
 | .inl k, v => Value.isInt k v
 | .inr x, v => Value.isStrOf x v
def Ru (w : World) : Key -> Int
 | .inl k => hashInt k
 | .inr x => hashStr w x
theorem dm : ∀ {k : Key} {v : Value}, sY k v = true -> (∃ i t, k = Sum.inl i /\ v = Value.int i t) \/ (∃ x t, k = Sum.inr x /\ v = Value.str x t)
 | .inl i, v, h => by
  obtain ⟨t, e⟩ := Value.isInt_shape (k := i) (v := v) h
  exact .inl ⟨i, t, rfl, e⟩
 | .inr x, v, h => by
  obtain ⟨t, e⟩ := Value.isStrOf_shape (x := x) (v := v) h
  exact .inr ⟨x, t, rfl, e⟩
theorem DX (i : Int) (t : Tok) : sY (.inl i) (.int i t) = true := by simp [sY, Value.isInt]
theorem DY (x : Str) (t : Tok) : sY (.inr x) (.str x t) = true := by simp [sY, Value.isStrOf]
theorem Ma (a b : Int) : decide ((Sum.inl a : Key) = Sum.inl b) = (a == b) := by
 by_cases e : a = b
 ·subst e; simp
 ·have h : ¬ (Sum.inl a : Key) = Sum.inl b := fun q => e (Sum.inl.inj q)
  rw [decide_eq_false h]
  exact (beq_eq_false_iff_ne.mpr e).symm
theorem Mf (a b : Str) : decide ((Sum.inr a : Key) = Sum.inr b) = decide (a = b) := by
 by_cases e : a = b
 ·subst e; simp
 ·have h : ¬ (Sum.inr a : Key) = Sum.inr b := fun q => e (Sum.inr.inj q)
  rw [decide_eq_false h, decide_eq_false e]
theorem Mg (a : Int) (b : Str) : decide ((Sum.inl a : Key) = Sum.inr b) = false := decide_eq_false (fun q => nomatch q)
theorem Mh (a : Str) (b : Int) : decide ((Sum.inr a : Key) = Sum.inl b) = false := decide_eq_false (fun q => nomatch q)
def cX (prog : Program) (w : World) : PySem.KeyKind prog w Key where
 is := sY
 hash := Ru w
 inj := fun v a b ha hb => by
  rcases dm ha with ⟨i, t, rfl, rfl⟩ | ⟨x, t, rfl, rfl⟩
  ·rcases dm hb with ⟨j, u, rfl, e⟩ | ⟨y, u, rfl, e⟩
   ·injection e with e1 _; rw [e1]
   ·exact nomatch e
  ·rcases dm hb with ⟨j, u, rfl, e⟩ | ⟨y, u, rfl, e⟩
   ·exact nomatch e
   ·injection e with e1 _; rw [e1]
 byValue := fun k v h => by
  rcases dm h with ⟨i, t, rfl, rfl⟩ | ⟨x, t, rfl, rfl⟩ <;> rfl
 pyHash := fun hv h => by
  rcases dm hv with ⟨i, t, rfl, rfl⟩ | ⟨x, t, rfl, rfl⟩
  ·exact wpAny_pyHash_int h
  ·exact wpAny_pyHash_str h
 eqBool := fun hu hv h => by
  rcases dm hu with ⟨i, t, rfl, rfl⟩ | ⟨x, t, rfl, rfl⟩
  ·rcases dm hv with ⟨j, u, rfl, rfl⟩ | ⟨y, u, rfl, rfl⟩
   ·rw [Ma] at h; exact wpAny_eqBool_int h
   ·rw [Mg] at h; exact SeqAt.EqAt.int_str i t y u _ _ _ _ h
  ·rcases dm hv with ⟨j, u, rfl, rfl⟩ | ⟨y, u, rfl, rfl⟩
   ·rw [Mh] at h; exact SeqAt.EqAt.str_int x t j u _ _ _ _ h
   ·rw [Mf] at h; exact wpAny_eqBool_str h
 «strs» := fun k x t v h => by
  rcases dm h with ⟨i, u, rfl, e⟩ | ⟨y, u, rfl, e⟩
  ·exact nomatch e
  ·injection e with e1 _
   subst e1
   cases v <;> rfl
theorem uf (prog : Program) (w : World) (i : Int) (t : Tok) : (cX prog w).is (.inl i) (.int i t) = true := DX i t
theorem ug (prog : Program) (w : World) (x : Str) (t : Tok) : (cX prog w).is (.inr x) (.str x t) = true := DY x t
end L2
namespace L2
open PySem PySem.Spec PyProof.Rows
inductive V where
 | non | bl (b : Bool) | int (i : Int) | str (x : Str) | byt (b : Array UInt8) | flt (b : UInt64) | ref (a : Addr) | ty (n : String)
 deriving DecidableEq
def RelV : V -> Value -> Prop
 | .non, u => u = Value.none
 | .bl b, u => u = Value.bool b
 | .int i, u => ∃ t, u = Value.int i t
 | .str x, u => ∃ t, u = Value.str x t
 | .byt b, u => ∃ t, u = Value.bytes b t
 | .flt b, u => ∃ t, u = Value.float b t
 | .ref a, u => u = Value.ref a
 | .ty n, u => u = Value.type n
abbrev Vals : List V -> List Value -> Prop := Paired RelV
theorem Vals.length {xs : List V} {us : List Value} (r : Vals xs us) : xs.length = us.length := Paired.length r
theorem Vals.get : ∀ {xs : List V} {us : List Value} {i : Nat} {x : V}, Vals xs us -> xs[i]? = some x -> ∃ u, us[i]? = some u /\ RelV x u
 | _, _, _, _, .nil, e => by simp at e
 | _, _, 0, _, .cons r _, e => by simp at e; subst e; exact ⟨_, rfl, r⟩
 | _, _, i + 1, x, .cons _ t, e => by
  obtain ⟨u, h1, h2⟩ := Vals.get (i := i) (x := x) t (by simpa using e)
  exact ⟨u, by simpa using h1, h2⟩
theorem Vals.set {x : V} {u : Value} (r : RelV x u) : ∀ {xs : List V} {us : List Value} (i : Nat), Vals xs us -> Vals (xs.set i x) (us.set i u)
 | _, _, _, .nil => .nil
 | _, _, 0, .cons _ t => .cons r t
 | _, _, i + 1, .cons q t => .cons q (Vals.set r i t)
theorem Vals.append : ∀ {xs ys : List V} {us ws : List Value}, Vals xs us -> Vals ys ws -> Vals (xs ++ ys) (us ++ ws)
 | _, _, _, _, .nil, s => s
 | _, _, _, _, .cons r t, s => .cons r (Vals.append t s)
theorem Vals.take : ∀ {xs : List V} {us : List Value} (n : Nat), Vals xs us -> Vals (xs.take n) (us.take n)
 | _, _, 0, _ => .nil
 | _, _, _ + 1, .nil => .nil
 | _, _, n + 1, .cons r t => .cons r (Vals.take n t)
theorem Vals.drop : ∀ {xs : List V} {us : List Value} (n : Nat), Vals xs us -> Vals (xs.drop n) (us.drop n)
 | _, _, 0, r => r
 | _, _, _ + 1, .nil => .nil
 | _, _, n + 1, .cons _ t => Vals.drop n t
theorem Vals.none_of : ∀ {xs : List V} {us : List Value} {i : Nat}, Vals xs us -> xs[i]? = none -> us[i]? = none := fun {xs us i} r e => by
 have h1 := r.length
 have h2 : xs.length <= i := List.getElem?_eq_none_iff.mp e
 exact List.getElem?_eq_none_iff.mpr (by omega)
def RelO : Option V -> Option Value -> Prop
 | some v, some u => RelV v u
 | none, none => True
 | _, _ => False
def KV {κ : Type} : List (κ × V) -> List (κ × Value) -> Prop := Paired fun (p : κ × V) (q : κ × Value) => p.1 = q.1 /\ RelV p.2 q.2
def kV : Key -> V
 | .inl i => .int i
 | .inr x => .str x
inductive HO where
 | lst (xs : List V)
 | tup (xs : List V)
 | dK (kvs : List (Key × V)) | dT (kvs : List (List Key × V))
 | set (S : Int -> Bool) (n : Nat)
 | ins (C dx : Addr) (fs : List (Str × V))
 | own (x : Addr)
 | xd (fs : List (Str × V))
 | met (f x : Addr)
 | rng (lo hi : Int)
 | frz (o : Obj) (u : HO)
 | tbl (ps : Array Value)
 | ext (φ : Heap -> Prop)
abbrev Hp := Addr -> Option HO
def upd (H : Hp) (a : Addr) (o : HO) : Hp := fun b => if b = a then some o else H b
theorem bF {H : Hp} {a : Addr} {o : HO} : upd H a o a = some o := by unfold upd; rw [if_pos rfl]
theorem aO {H : Hp} {a b : Addr} {o : HO} (h : b ≠ a) : upd H a o b = H b := by unfold upd; rw [if_neg h]
theorem Qh {H : Hp} {a b : Addr} {o u : HO} (h : H a = some o) (h' : H b = some u) (d : o ≠ u) : a ≠ b := by
 intro e; subst e; rw [h] at h'; exact d (Option.some.inj h')
theorem aR {H : Hp} {a b : Addr} {o : HO} (h : H a = some o) (h' : H b = none) : a ≠ b := by
 intro e; subst e; rw [h] at h'; cases h'
section
variable (P : Program) (w : World)
def ObjOk (H : Hp) (h : Heap) (a : Addr) : HO -> Prop
 | .lst xs => xs.length <= sizeLine /\ ∃ (its : List Value) (n : Nat), Vals xs its /\ h.get? a = some { cls := .type "list", data := .seq its.toArray n }
 | .tup xs => xs.length <= sizeLine /\ ∃ its : List Value, Vals xs its /\ IsTup h a its.toArray
 | .dK kvs => kvs.length <= sizeLine /\ (a == sysModules) = false /\ ∃ vs, KV kvs vs /\ h.DictOf (cX P w) a vs
 | .dT kvs => kvs.length <= sizeLine /\ (a == sysModules) = false /\ ∃ xs : List (List Key × Addr × Value),
   Paired (fun (p : List Key × V) (q : List Key × Addr × Value) => p.1 = q.1 /\ H q.2.1 = some (.tup (p.1.map kV)) /\ RelV p.2 q.2.2) kvs xs /\
   ∃ o es ep, h.get? a = some o /\ o.ExactDict /\ o.data = .dict es ep /\ es.toList = xs.map (entryOfKey (tupleKind (cX P w))) /\ (xs.map (·.1)).Nodup
 | .set S n => h.SetOf (intKind P w) a S n
 | .ins C dx fs => H dx = some (.own a) /\ fs.length <= 1000 /\ dx ≠ a /\ h.get? a = some (PySem.W.instObj C dx) /\
   ∃ mA, h.Ns1 dx mA /\ (∀ f, RelO (fs.lookup f) (mA f)) /\ PySem.Within mA (fs.map (·.1))
 | .own _ => ∃ o, h.get? a = some o
 | .xd fs => ∃ mA, h.Ns1 a mA /\ ∀ f, RelO (fs.lookup f) (mA f)
 | .rng lo hi => ∃ t u v, h.get? a = some { cls := .type "range", data := .fields #[.int lo t, .int hi u, .int 1 v] }
 | .frz o u => h.get? a = some o /\ ObjOk H h a u
 | .tbl ps => h.get? a = some { cls := .none, data := .fields ps }
 | .met f x => h.get? a = some (PySem.W.methodObj (.ref f) (.ref x))
 | .ext φ => φ h /\ (∃ o, h.get? a = some o) /\ ∀ h1 h2 : Heap, φ h1 -> (∀ o, h1.get? a = some o -> h2.get? a = some o) -> φ h2
def HOk (H : Hp) (h : Heap) : Prop := ∀ a o, H a = some o -> ObjOk P w H h a o
end
section
variable {P : Program} {w : World} {H H' : Hp} {h h' : Heap} {a : Addr} {o : HO}
theorem ObjOk.lt (x : ObjOk P w H h a o) : a < h.objs.size := by
 cases o with
 | lst xs => obtain ⟨_, _, _, _, e⟩ := x; exact Heap.lt_size e
 | tup xs => obtain ⟨_, _, _, p⟩ := x; exact p.lt
 | dK kvs => obtain ⟨_, _, _, _, o, _, _, e, _⟩ := x; exact Heap.lt_size e
 | dT kvs => obtain ⟨_, _, _, _, o, _, _, e, _⟩ := x; exact Heap.lt_size e
 | set S n => obtain ⟨o, _, _, _, e, _⟩ := x; exact Heap.lt_size e
 | ins C dx fs => obtain ⟨_, _, _, e, _⟩ := x; exact Heap.lt_size e
 | own y => obtain ⟨_, e⟩ := x; exact Heap.lt_size e
 | xd fs => obtain ⟨_, ⟨_, _, _, e, _⟩, _⟩ := x; exact Heap.lt_size e
 | rng lo hi => obtain ⟨_, _, _, e⟩ := x; exact Heap.lt_size e
 | frz ob u => obtain ⟨e, _⟩ := x; exact Heap.lt_size e
 | tbl ps => exact Heap.lt_size (show h.get? a = some _ from x)
 | met f y => exact Heap.lt_size (show h.get? a = some _ from x)
 | ext φ => obtain ⟨_, ⟨_, e⟩, _⟩ := x; exact Heap.lt_size e
theorem Paired.mapP {α β : Type} {F G : α -> β -> Prop} : ∀ {l₁ : List α} {l₂ : List β}, Paired F l₁ l₂ -> (∀ a b, F a b -> G a b) -> Paired G l₁ l₂
 | _, _, .nil, _ => .nil
 | _, _, .cons r t, f => .cons (f _ _ r) (Paired.mapP t f)
theorem ObjOk.stay (x : ObjOk P w H h a o) (k : ∀ b u, (b = a \/ H b = some (.own a)) -> h.get? b = some u -> h'.get? b = some u)
  (ho : ∀ b, H b = some (.own a) -> H' b = some (.own a)) (ht : ∀ b xs, H b = some (.tup xs) -> H' b = some (.tup xs)) : ObjOk P w H' h' a o := by
 induction o with
 | lst xs => obtain ⟨z, its, n, r, e⟩ := x; exact ⟨z, its, n, r, k _ _ (.inl rfl) e⟩
 | tup xs => obtain ⟨z, its, r, ob, e, c⟩ := x; exact ⟨z, its, r, ob, k _ _ (.inl rfl) e, c⟩
 | dK kvs => obtain ⟨z, y, vs, r, ob, es, ep, e, c⟩ := x; exact ⟨z, y, vs, r, ob, es, ep, k _ _ (.inl rfl) e, c⟩
 | dT kvs =>
  obtain ⟨z, y, xs, r, ob, es, ep, e, c⟩ := x
  exact ⟨z, y, xs, Paired.mapP r fun p q z => ⟨z.1, ht _ _ z.2.1, z.2.2⟩, ob, es, ep, k _ _ (.inl rfl) e, c⟩
 | set S n => obtain ⟨ob, es, ep, t, e, c⟩ := x; exact ⟨ob, es, ep, t, k _ _ (.inl rfl) e, c⟩
 | ins C dx fs =>
  obtain ⟨d, z, ne, e, mA, ⟨od, es, ep, e2, c⟩, r⟩ := x
  exact ⟨ho _ d, z, ne, k _ _ (.inl rfl) e, mA, ⟨od, es, ep, k _ _ (.inr d) e2, c⟩, r⟩
 | own y => obtain ⟨ob, e⟩ := x; exact ⟨ob, k _ _ (.inl rfl) e⟩
 | xd fs => obtain ⟨mA, ⟨od, es, ep, e, c⟩, r⟩ := x; exact ⟨mA, ⟨od, es, ep, k _ _ (.inl rfl) e, c⟩, r⟩
 | rng lo hi => obtain ⟨t, u, v, e⟩ := x; exact ⟨t, u, v, k _ _ (.inl rfl) e⟩
 | frz ob u ih => obtain ⟨e, q⟩ := x; exact ⟨k _ _ (.inl rfl) e, ih q⟩
 | tbl ps =>
  have e : h.get? a = some { cls := .none, data := .fields ps } := x
  show h'.get? a = some { cls := .none, data := .fields ps }
  exact k a _ (.inl rfl) e
 | met f y =>
  have e : h.get? a = some (PySem.W.methodObj (.ref f) (.ref y)) := x
  show h'.get? a = some (PySem.W.methodObj (.ref f) (.ref y))
  exact k a _ (.inl rfl) e
 | ext φ => obtain ⟨p, ⟨o, e⟩, st⟩ := x; exact ⟨st _ _ p fun o q => k _ _ (.inl rfl) q, ⟨o, k _ _ (.inl rfl) e⟩, st⟩
theorem HOk.lt (x : HOk P w H h) (e : H a = some o) : a < h.objs.size := (x a o e).lt
theorem HOk.fresh (x : HOk P w H h) (e : h.objs.size <= a) : H a = none := by
 cases q : H a with
 | none => rfl
 | some u => exact absurd (Nat.lt_of_lt_of_le (x.lt q) e) (Nat.lt_irrefl _)
theorem HOk.kept (x : HOk P w H h) (k : ∀ b u, h.get? b = some u -> h'.get? b = some u) : HOk P w H h' := fun a o e =>
 (x a o e).stay (fun b u _ q => k b u q) (fun _ q => q) fun _ _ q => q
theorem HOk.laid (x : HOk P w H h) (k : ∀ b u, h.get? b = some u -> h'.get? b = some u) (hp : h.objs.size <= a) (new : ObjOk P w (upd H a o) h' a o) : HOk P w (upd H a o) h' := fun b u e => by
 have hn := x.fresh hp
 by_cases hb : b = a
 ·subst hb; rw [bF] at e; cases e; exact new
 ·rw [aO hb] at e
  exact (x b u e).stay (fun c v _ q => k c v q) (fun c q => by rw [aO (aR q hn)]; exact q) fun c xs q => by rw [aO (aR q hn)]; exact q
end
def Rd (H : Hp) (a : Addr) (u : HO) : Prop := H a = some u \/ ∃ o, H a = some (.frz o u)
theorem Rd.of {H : Hp} {a : Addr} {u : HO} (h : H a = some u) : Rd H a u := .inl h
theorem Rd.ok {P : Program} {w : World} {H : Hp} {h : Heap} {a : Addr} {u : HO} (r : Rd H a u) (x : HOk P w H h) : ObjOk P w H h a u := by
 rcases r with r | ⟨o, r⟩
 ·exact x a u r
 ·obtain ⟨_, q⟩ := x a _ r
  exact q
def Mut : Option HO -> Prop
 | some (.lst _) => True
 | some (.dK _) => True
 | some (.dT _) => True
 | some (.set _ _) => True
 | some (.ins _ _ _) => True
 | some (.ext _) => True
 | _ => False
section
variable {P : Program} {w : World} {H : Hp} {h h' : Heap} {x e : Addr} {o' : HO}
theorem HOk.write (ok : HOk P w H h) (mu : Mut (H x)) (he : e = x \/ H e = some (.own x)) (k : ∀ b u, b ≠ e -> h.get? b = some u -> h'.get? b = some u) (heo : ∃ u, h'.get? e = some u)
  (new : ObjOk P w (upd H x o') h' x o') : HOk P w (upd H x o') h' := fun b u q => by
 have nown : ∀ c y, H c = some (.own y) -> c ≠ x := fun c y r z => by subst z; rw [r] at mu; exact mu
 have ntup : ∀ c xs, H c = some (.tup xs) -> c ≠ x := fun c xs r z => by subst z; rw [r] at mu; exact mu
 by_cases hb : b = x
 ·subst hb; rw [bF] at q; cases q; exact new
 ·rw [aO hb] at q
  by_cases hbe : b = e
  ·have q' : H b = some (.own x) := by
    rcases he with z | z
    ·exact absurd (hbe.trans z) hb
    ·rw [hbe]; exact z
   rw [q] at q'; cases q'
   obtain ⟨v, hv⟩ := heo
   exact ⟨v, by rw [hbe]; exact hv⟩
  ·refine (ok b u q).stay (fun c v hc r => k c v ?_ r) (fun c r => by rw [aO (nown c b r)]; exact r) fun c xs r => by rw [aO (ntup c xs r)]; exact r
   rcases hc with rfl | hc
   ·exact hbe
   ·rintro rfl
    rcases he with z | z
    ·exact nown c b hc z
    ·rw [hc] at z; cases z; exact hb rfl
end
structure Un (fs ex : List Addr) (H H' : Hp) (h h' : Heap) : Prop where
 keep : ∀ b o, h.get? b = some o -> H b = none -> b ∉ fs -> b ∉ ex -> h'.get? b = some o
 slot : ∀ b o, h.get? b = some o -> H b = none -> b ∈ fs -> b ∉ ex -> ∃ sl, h'.get? b = some { o with slots := sl }
 free : ∀ b o, h.get? b = some o -> H b = none -> b ∉ ex -> H' b = none
 there : ∀ b o, h.get? b = some o -> b ∉ ex -> ∃ o', h'.get? b = some o'
 tups : ∀ b xs, H b = some (.tup xs) -> H' b = some (.tup xs)
 frzs : ∀ b o u, H b = some (.frz o u) -> H' b = some (.frz o u)
 tbls : ∀ b ps, H b = some (.tbl ps) -> ∃ more, H' b = some (.tbl (ps ++ more))
section
variable {fs fs' ex ex' : List Addr} {H H1 H2 : Hp} {h h1 h2 h' : Heap} {a x e : Addr} {o : HO}
theorem Un.any (u : Un fs ex H H1 h h1) {b : Addr} {ob : Obj} (q : h.get? b = some ob) (n : H b = none) (hx : b ∉ ex) : ∃ sl, h1.get? b = some { ob with slots := sl } := by
 by_cases hb : b ∈ fs
 ·exact u.slot b ob q n hb hx
 ·exact ⟨ob.slots, u.keep b ob q n hb hx⟩
theorem Un.trans (a : Un fs ex H H1 h h1) (b : Un fs ex H1 H2 h1 h2) : Un fs ex H H2 h h2 where
 keep := fun c ob q n hc hx => b.keep c ob (a.keep c ob q n hc hx) (a.free c ob q n hx) hc hx
 slot := fun c ob q n hc hx => by
  obtain ⟨sl, e1⟩ := a.slot c ob q n hc hx
  obtain ⟨sl', e2⟩ := b.slot c _ e1 (a.free c ob q n hx) hc hx
  exact ⟨sl', e2⟩
 free := fun c ob q n hx => by
  obtain ⟨o', e1⟩ := a.there c ob q hx
  exact b.free c o' e1 (a.free c ob q n hx) hx
 there := fun c ob q hx => by
  obtain ⟨o', e1⟩ := a.there c ob q hx
  exact b.there c o' e1 hx
 tups := fun c xs q => b.tups c xs (a.tups c xs q)
 frzs := fun c ob xs q => b.frzs c ob xs (a.frzs c ob xs q)
 tbls := fun c ps q => by
  obtain ⟨m1, e1⟩ := a.tbls c ps q
  obtain ⟨m2, e2⟩ := b.tbls c _ e1
  exact ⟨m1 ++ m2, by rw [e2, Array.append_assoc]⟩
theorem Un.kept (k : ∀ b u, h.get? b = some u -> h'.get? b = some u) : Un fs ex H H h h' :=
 ⟨fun b ob q _ _ _ => k b ob q, fun b ob q _ _ _ => ⟨ob.slots, k b ob q⟩, fun _ _ _ n _ => n, fun b ob q _ => ⟨ob, k b ob q⟩, fun _ _ q => q, fun _ _ _ q => q, fun _ ps q => ⟨#[], by rw [q]; simp⟩⟩
theorem Un.refl : Un fs ex H H h h := Un.kept fun _ _ q => q
theorem Un.laid (k : ∀ b u, h.get? b = some u -> h'.get? b = some u) (hp : h.objs.size <= a) (hn : H a = none) : Un fs ex H (upd H a o) h h' where
 keep := fun b u q _ _ _ => k b u q
 slot := fun b u q _ _ _ => ⟨u.slots, k b u q⟩
 free := fun b u q n _ => by rw [aO (Nat.ne_of_lt (Nat.lt_of_lt_of_le (Heap.lt_size q) hp))]; exact n
 there := fun b u q _ => ⟨u, k b u q⟩
 tups := fun b xs q => by rw [aO (aR q hn)]; exact q
 frzs := fun b u xs q => by rw [aO (aR q hn)]; exact q
 tbls := fun b ps q => ⟨#[], by rw [aO (aR q hn), q]; simp⟩
theorem Un.write (mu : Mut (H x)) (he : e = x \/ H e = some (.own x)) (k : ∀ b u, b ≠ e -> h.get? b = some u -> h'.get? b = some u) (heo : ∃ u, h'.get? e = some u) : Un fs ex H (upd H x o) h h' := by
 have hx : ∀ b, H b = none -> b ≠ x := fun b n z => by subst z; rw [n] at mu; exact mu
 have hb : ∀ b, H b = none -> b ≠ e := fun b n z => by
  subst z
  rcases he with r | r
  ·exact hx b n r
  ·rw [n] at r; cases r
 have hm : ∀ b u, H b = some u -> ¬ Mut (some u) -> b ≠ x := fun b u q nm z => by subst z; rw [q] at mu; exact nm mu
 refine ⟨fun b u q n _ _ => k b u (hb b n) q, fun b u q n _ _ => ⟨u.slots, k b u (hb b n) q⟩, fun b u q n _ => by rw [aO (hx b n)]; exact n, fun b u q _ => ?_,
  fun b xs q => by rw [aO (hm b _ q fun z => z)]; exact q, fun b u xs q => by rw [aO (hm b _ q fun z => z)]; exact q, fun b ps q => ⟨#[], by rw [aO (hm b _ q fun z => z), q]; simp⟩⟩
 by_cases hbe : b = e
 ·subst hbe; exact heo
 ·exact ⟨u, k b u hbe q⟩
theorem Un.mono (u : Un fs ex H H1 h h1) (hs : ∀ b ∈ fs, b ∈ fs') (hx : ∀ b ∈ ex, b ∈ ex') : Un fs' ex' H H1 h h1 :=
 ⟨fun b ob q n hb he => u.keep b ob q n (fun z => hb (hs b z)) fun z => he (hx b z), fun _ _ q n _ he => u.any q n fun z => he (hx _ z), fun b ob q n he => u.free b ob q n fun z => he (hx b z), fun b ob q he => u.there b ob q fun z => he (hx b z), u.tups, u.frzs, u.tbls⟩
end
def trk (h : Heap) (H : Hp) : List Addr := (List.range h.objs.size).filter fun a => (H a).isSome
def pN (h : Heap) (H : Hp) : Heap := PySem.W.hideAll h (trk h H)
theorem D_ (h : Heap) (H : Hp) : (pN h H).objs.size = h.objs.size := PySem.W.hideAll_size _ _
theorem GP {h : Heap} {H : Hp} {b : Addr} {o : Obj} (e : h.get? b = some o) (n : H b = none) : (pN h H).get? b = some o :=
 PySem.W.hideAll_get _ e fun hm => by
  have q : (H b).isSome = true := (List.mem_filter.mp hm).2
  rw [n] at q; simp at q
theorem JN {h : Heap} {H : Hp} {b : Addr} {o : Obj} (e : (pN h H).get? b = some o) : h.get? b = some o /\ H b = none := by
 have e' : h.get? b = some o := PySem.W.of_hideAll (trk h H) e
 refine ⟨e', ?_⟩
 cases q : H b with
 | none => rfl
 | some x =>
  have hm : b ∈ trk h H := List.mem_filter.mpr ⟨List.mem_range.mpr (Heap.lt_size e'), by simp [q]⟩
  have z : (pN h H).get? b = none := PySem.W.hideAll_none (trk h H) hm
  rw [z] at e; cases e
def JP (g h : Heap) (L : Addr) : List (Addr × Obj) := (List.range h.objs.size).filterMap fun a => if a = L \/ (g.get? a).isSome = true then none else (h.get? a).map fun o => (a, o)
def rest (g h : Heap) (L d : Addr) : List (Addr × Obj) := (JP g h L).filter fun p => decide (p.1 ≠ d)
end L2
namespace L2
open PySem PySem.Spec PyProof.Rows
structure Mod (K : PySem.W.Frag) (mg : Str -> Option Value) (base : Heap) : Prop where
 kin : K.In base
 glob : base.Ns mainGlobals mg
 blt : ∃ mb, base.Ns builtinsNs mb /\ ∀ x : Str, x ≠ "__name__" -> mb x = bootBuiltins x
 nolimit : base.NoLimit
structure Cx where
 prog : Program
 w : World
 K : PySem.W.Frag
 mg : Str -> Option Value
 base : Heap
 A : Around
 N : List Str
 s₀ : Shared
 H₀ : Hp
 env : Env
 outer : List Env
 stack : List Env
 ex : List Addr
 fn : Str -> Bool
 calm : Bool
 pn : List (Addr × Obj)
 xe : Value -> Shared -> Prop
def frs (l : List Env) : List Addr := l.filterMap (·.frame)
abbrev Cx.fs (X : Cx) : List Addr := frs X.outer
def Vis (sc : Scope) (x : Str) : Prop := sc.names.lookup x = some .local \/ sc.names.lookup x = some .cell \/ sc.names.lookup x = some .free
def Loc (sc : Scope) (x : Str) : Prop := sc.names.lookup x = some .local \/ sc.names.lookup x = some .cell
def Look (env : Env) (h : Heap) (m : Str -> Option Value) (x : Str) (u : Value) : Prop :=
 (env.kindOf x = some .local /\ m x = some u) \/ ((env.kindOf x = some .cell \/ env.kindOf x = some .free) /\ ∃ c, env.cells.lookup x = some c /\ h.IsCell c (some u))
structure Cx.Ok (X : Cx) : Prop where
 mod : Mod X.K X.mg X.base
 kind : X.env.scope.kind = .function
 glob : X.env.globals = mainGlobals
 blt : X.env.builtins = builtinsNs
 above : X.s₀.heap.objs.size <= X.env.locals
 inj : ∀ x y c, X.env.cells.lookup x = some c -> X.env.cells.lookup y = some c -> x = y
 has : ∀ x, (X.env.kindOf x = some .cell \/ X.env.kindOf x = some .free) -> ∃ c, X.env.cells.lookup x = some c
 cab : ∀ x c, X.fn x = true -> X.env.cells.lookup x = some c -> X.s₀.heap.objs.size <= c
 hd : X.calm = true -> X.A.handled = none
 frames : X.A.frames = some X.stack
 stk : X.stack = X.outer \/ (X.stack = X.env :: X.outer /\ X.env.frame = some X.env.locals)
 exf : ∀ b ∈ X.ex, b ≠ X.env.locals /\ ∀ x c, X.env.cells.lookup x = some c -> c ≠ b
 bs : ∀ b o, X.base.get? b = some o -> X.s₀.heap.get? b = some o /\ X.H₀ b = none
 bsz : X.base.objs.size <= X.s₀.heap.objs.size
 noex : ∀ b o, X.base.get? b = some o -> b ∉ X.ex
 exfs : ∀ b ∈ X.ex, b ∉ X.fs
 funs : X.s₀.heap.FunFrames X.base X.outer
 frf : ∀ b ∈ X.fs, X.H₀ b = none
structure Inv (X : Cx) (pins : List (Addr × Obj)) (σ : List (Option V)) (H : Hp) (s : Shared) : Prop where
 ok : X.Ok
 os : s.os = X.s₀.os
 bare : AllBare s.gens
 base : Un X.fs X.ex X.H₀ H X.s₀.heap s.heap
 loc : ∃ m, s.heap.Ns X.env.locals m /\ ∀ (i : Nat) (x : Str) (v : V), X.N[i]? = some x -> σ[i]? = some (some v) -> Vis X.env.scope x -> ∃ u, RelV v u /\ Look X.env s.heap m x u
 cell : ∀ x c, X.env.cells.lookup x = some c -> ∃ v, s.heap.IsCell c v
 free : H X.env.locals = none
 freeC : ∀ x c, X.env.cells.lookup x = some c -> H c = none
 pin : ∀ p ∈ X.pn ++ pins, s.heap.get? p.1 = some p.2 /\ H p.1 = none /\ p.1 ≠ X.env.locals /\ p.1 ∉ X.fs /\ ∀ v, p.2.data ≠ .cell v
 hok : HOk X.prog X.w H s.heap
 len : σ.length = X.N.length
section
variable {X : Cx} {pins : List (Addr × Obj)} {σ : List (Option V)} {H H' : Hp} {s : Shared} {h' : Heap}
theorem Cx.Ok.nofr (ok : X.Ok) {b : Addr} {o : Obj} (e : X.base.get? b = some o) : b ∉ X.fs := fun hb => by
 have := (ok.funs.mem hb).1
 rw [e] at this; cases this
theorem Inv.bs (I : Inv X pins σ H s) : ∀ b o, X.base.get? b = some o -> s.heap.get? b = some o /\ H b = none := fun b o e =>
 ⟨I.base.keep b o (I.ok.bs b o e).1 (I.ok.bs b o e).2 (I.ok.nofr e) (I.ok.noex b o e), I.base.free b o (I.ok.bs b o e).1 (I.ok.bs b o e).2 (I.ok.noex b o e)⟩
theorem Inv.bk (I : Inv X pins σ H s) : ∀ b o, X.base.get? b = some o -> s.heap.get? b = some o := fun b o e => (I.bs b o e).1
theorem Inv.mod (I : Inv X pins σ H s) : Mod X.K X.mg X.base := I.ok.mod
theorem Inv.kIn (I : Inv X pins σ H s) : X.K.In s.heap := I.ok.mod.kin.keeps I.bk
theorem Inv.nolimit (I : Inv X pins σ H s) : s.heap.NoLimit := I.ok.mod.nolimit.keeps I.bk
theorem Inv.fr (I : Inv X pins σ H s) : ∃ m, Fr X.base X.env.locals s.heap m :=
 let ⟨m, hn, _⟩ := I.loc
 ⟨m, hn, I.bk, Nat.le_trans I.ok.bsz I.ok.above⟩
theorem Inv.lt (I : Inv X pins σ H s) : X.env.locals < s.heap.objs.size := let ⟨_, hn, _⟩ := I.loc; hn.lt
theorem Inv.sz (I : Inv X pins σ H s) : X.s₀.heap.objs.size <= s.heap.objs.size := Nat.le_trans I.ok.above (Nat.le_of_lt I.lt)
theorem Inv.nofs (I : Inv X pins σ H s) {a : Addr} (h : s.heap.objs.size <= a) : a ∉ X.fs := fun hb => by
 obtain ⟨_, o, ho, _⟩ := I.ok.funs.mem hb
 exact absurd (Nat.lt_of_lt_of_le (Heap.lt_size ho) (Nat.le_trans I.sz h)) (Nat.lt_irrefl _)
theorem Inv.cne (I : Inv X pins σ H s) : ∀ x c, X.env.cells.lookup x = some c -> c ≠ X.env.locals := fun x c e z => by
 obtain ⟨v, o, ho, hd⟩ := I.cell x c e
 obtain ⟨m, ⟨o', es, ep, ho', hd', _⟩, _⟩ := I.loc
 rw [z, ho'] at ho; cases ho; rw [hd'] at hd; cases hd
theorem Inv.funs (I : Inv X pins σ H s) : s.heap.FunFrames X.base X.outer := by
 have all : ∀ (l : List Env), (∀ b ∈ frs l, b ∈ X.fs) -> X.s₀.heap.FunFrames X.base l -> s.heap.FunFrames X.base l := by
  intro l
  induction l with
  | nil => intro _ _; trivial
  | cons env r ih =>
   intro hs hl
   obtain ⟨hk, ⟨L, o, hf, hn, ho, hd⟩, hr⟩ := hl
   have hL : L ∈ X.fs := hs L (by unfold frs; rw [List.filterMap_cons, hf]; exact List.mem_cons_self)
   obtain ⟨sl, e⟩ := I.base.slot L o ho (I.ok.frf L hL) hL fun z => I.ok.exfs L z hL
   exact ⟨hk, ⟨L, _, hf, hn, e, hd⟩, ih (fun b hb => hs b (by unfold frs; rw [List.filterMap_cons, hf]; exact List.mem_cons_of_mem _ hb)) hr⟩
 exact all X.outer (fun _ hb => hb) I.ok.funs
theorem Inv.stack (I : Inv X pins σ H s) : s.heap.FunFrames X.base X.stack := by
 rcases I.ok.stk with e | ⟨e, hf⟩
 ·rw [e]; exact I.funs
 ·rw [e]
  obtain ⟨m, hn, _⟩ := I.loc
  refine .cons (by rw [I.ok.kind]; decide) hf hn ?_ I.funs
  exact Heap.get?_none_of_le (Nat.le_trans I.ok.bsz I.ok.above)
theorem Inv.stkSub (I : Inv X pins σ H s) : ∀ b ∈ frs X.stack, b ∈ X.env.locals :: X.fs := fun b hb => by
 rcases I.ok.stk with e | ⟨e, hf⟩
 ·rw [e] at hb; exact List.mem_cons_of_mem _ hb
 ·rw [e] at hb
  unfold frs at hb
  rw [List.filterMap_cons, hf] at hb
  exact hb
theorem Inv.stkFree (I : Inv X pins σ H s) : ∀ b ∈ frs X.stack, H b = none := fun b hb => by
 rcases List.mem_cons.mp (I.stkSub b hb) with e | hb
 ·rw [e]; exact I.free
 ·obtain ⟨_, o, ho, _⟩ := I.ok.funs.mem hb
  exact I.base.free b o ho (I.ok.frf b hb) fun z => I.ok.exfs b z hb
theorem Inv.step {g' : Array GenState} {t' : Nat} {d' : Drawn} {ch : List Addr} (I : Inv X pins σ H s)
  (hch : ∀ b ∈ ch, (b ∈ X.ex \/ X.s₀.heap.objs.size <= b) /\ b ≠ X.env.locals /\ (∀ x c, X.env.cells.lookup x = some c -> c ≠ b) /\ ∀ p ∈ X.pn ++ pins, p.1 ≠ b)
  (keep : ∀ b o, b ≠ X.env.locals -> b ∉ X.fs -> b ∉ ch -> s.heap.get? b = some o -> H b = none -> h'.get? b = some o)
  (slot : ∀ b o, b ≠ X.env.locals -> b ∈ X.fs -> b ∉ ch -> s.heap.get? b = some o -> H b = none -> ∃ sl, h'.get? b = some { o with slots := sl }) (free : ∀ b o, b ∉ ch -> s.heap.get? b = some o -> H b = none -> H' b = none)
  (there : ∀ b o, b ∉ ch -> s.heap.get? b = some o -> ∃ o', h'.get? b = some o')
  (tups : ∀ b xs, H b = some (.tup xs) -> H' b = some (.tup xs)) (frzs : ∀ b o u, H b = some (.frz o u) -> H' b = some (.frz o u)) (tbls : ∀ b ps, H b = some (.tbl ps) -> ∃ more, H' b = some (.tbl (ps ++ more)))
  (ns : ∀ m, s.heap.Ns X.env.locals m -> h'.Ns X.env.locals m) (hok : HOk X.prog X.w H' h') (hg : AllBare g') :
  Inv X pins σ H' { s with heap := h', gens := g', drawn := d', toks := t' } := by
 have neL : ∀ b o, X.s₀.heap.get? b = some o -> b ≠ X.env.locals := fun b o e => Nat.ne_of_lt (Nat.lt_of_lt_of_le (Heap.lt_size e) I.ok.above)
 have neC : ∀ b o, X.s₀.heap.get? b = some o -> b ∉ X.ex -> b ∉ ch := fun b o e hx hb => by
  rcases (hch b hb).1 with z | z
  ·exact hx z
  ·exact absurd (Nat.lt_of_lt_of_le (Heap.lt_size e) z) (Nat.lt_irrefl _)
 have cellK : ∀ x c, X.env.cells.lookup x = some c -> ∀ v, s.heap.IsCell c v -> h'.IsCell c v := fun x c e v ⟨o, ho, hd⟩ => by
  have nch : c ∉ ch := fun z => (hch c z).2.2.1 x c e rfl
  by_cases hc : c ∈ X.fs
  ·obtain ⟨sl, q⟩ := slot c o (I.cne x c e) hc nch ho (I.freeC x c e)
   exact ⟨_, q, hd⟩
  ·exact ⟨o, keep c o (I.cne x c e) hc nch ho (I.freeC x c e), hd⟩
 refine ⟨I.ok, I.os, hg, ⟨fun b o e n hb hx => ?_, fun b o e n hb hx => ?_, fun b o e n hx => ?_, fun b o e hx => ?_, fun b xs e => tups b xs (I.base.tups b xs e), fun b o xs e => frzs b o xs (I.base.frzs b o xs e), fun b ps e => ?_⟩, ?_, fun x c e => ?_, ?_, fun x c e => ?_, fun p hp => ?_, hok, I.len⟩
 ·exact keep b o (neL b o e) hb (neC b o e hx) (I.base.keep b o e n hb hx) (I.base.free b o e n hx)
 ·obtain ⟨sl, e1⟩ := I.base.slot b o e n hb hx
  obtain ⟨sl', e2⟩ := slot b _ (neL b o e) hb (neC b o e hx) e1 (I.base.free b o e n hx)
  exact ⟨sl', e2⟩
 ·obtain ⟨o', e1⟩ := I.base.there b o e hx
  exact free b o' (neC b o e hx) e1 (I.base.free b o e n hx)
 ·obtain ⟨o', e1⟩ := I.base.there b o e hx
  exact there b o' (neC b o e hx) e1
 ·obtain ⟨m1, e1⟩ := I.base.tbls b ps e
  obtain ⟨m2, e2⟩ := tbls b _ e1
  exact ⟨m1 ++ m2, by rw [e2, Array.append_assoc]⟩
 ·obtain ⟨m, hn, hl⟩ := I.loc
  refine ⟨m, ns m hn, fun i x v e1 e2 e3 => ?_⟩
  obtain ⟨u, r, l⟩ := hl i x v e1 e2 e3
  refine ⟨u, r, ?_⟩
  rcases l with l | ⟨k, c, e, z⟩
  ·exact .inl l
  ·exact .inr ⟨k, c, e, cellK x c e _ z⟩
 ·obtain ⟨v, z⟩ := I.cell x c e
  exact ⟨v, cellK x c e v z⟩
 ·obtain ⟨m, ⟨o, _, _, ho, _⟩, _⟩ := I.loc
  exact free _ o (fun z => (hch _ z).2.1 rfl) ho I.free
 ·obtain ⟨v, o, ho, hd⟩ := I.cell x c e
  exact free c o (fun z => (hch c z).2.2.1 x c e rfl) ho (I.freeC x c e)
 ·obtain ⟨e, n, ne, nf, d⟩ := I.pin p hp
  have nch : p.1 ∉ ch := fun z => (hch p.1 z).2.2.2 p hp rfl
  exact ⟨keep p.1 p.2 ne nf nch e n, free p.1 p.2 nch e n, ne, nf, d⟩
theorem Inv.un {t' : Nat} (I : Inv X pins σ H s) (u : Un X.fs [] H H' s.heap h') (hok : HOk X.prog X.w H' h') : Inv X pins σ H' { s with heap := h', toks := t' } := by
 obtain ⟨m, ⟨o, es, ep, ho, r⟩, _⟩ := id I.loc
 obtain ⟨sl, hL⟩ := u.any ho I.free (by simp)
 exact I.step (g' := s.gens) (d' := s.drawn) (ch := []) (fun _ z => nomatch z) (fun b o _ hb _ e n => u.keep b o e n hb (by simp)) (fun b o _ hb _ e n => u.slot b o e n hb (by simp)) (fun b o _ e n => u.free b o e n (by simp)) (fun b o _ e => u.there b o e (by simp)) u.tups u.frzs u.tbls (fun m' hm => by
  obtain ⟨o', es', ep', ho', r'⟩ := hm
  rw [ho] at ho'; cases ho'
  exact ⟨_, es', ep', hL, r'⟩) hok I.bare
theorem Inv.call {g' : Array GenState} {t' : Nat} {d' : Drawn} {ch : List Addr} (I : Inv X pins σ H s) (u : Un (frs X.stack) ch H H' s.heap h') (hok : HOk X.prog X.w H' h') (hg : AllBare g')
  (hch : ∀ b ∈ ch, (b ∈ X.ex \/ X.s₀.heap.objs.size <= b) /\ b ≠ X.env.locals /\ (∀ x c, X.env.cells.lookup x = some c -> c ≠ b) /\ ∀ p ∈ X.pn ++ pins, p.1 ≠ b) :
  Inv X pins σ H' { s with heap := h', gens := g', drawn := d', toks := t' } := by
 obtain ⟨m, ⟨o, es, ep, ho, r⟩, _⟩ := id I.loc
 obtain ⟨sl, hL⟩ := u.any ho I.free fun z => (hch _ z).2.1 rfl
 exact I.step (ch := ch) hch (fun b o hL hb hc e n => u.keep b o e n (fun z => (List.mem_cons.mp (I.stkSub b z)).elim hL hb) hc) (fun b o _ _ hc e n => u.any e n hc) (fun b o hc e n => u.free b o e n hc) (fun b o hc e => u.there b o e hc) u.tups u.frzs u.tbls (fun m' hm => by
  obtain ⟨o', es', ep', ho', r'⟩ := hm
  rw [ho] at ho'; cases ho'
  exact ⟨_, es', ep', hL, r'⟩) hok hg
theorem Inv.turned {t' : Nat} {it : Addr} (I : Inv X pins σ H s) (k : ∀ b o, b ≠ it -> s.heap.get? b = some o -> h'.get? b = some o) (hn : H it = none) (hL : it ≠ X.env.locals)
  (h1 : it ∈ X.ex \/ X.s₀.heap.objs.size <= it) (h2 : ∀ x c, X.env.cells.lookup x = some c -> c ≠ it) (h3 : ∀ p ∈ X.pn ++ pins, p.1 ≠ it) : Inv X pins σ H { s with heap := h', toks := t' } := by
 have nit : ∀ b u, H b = some u -> b ≠ it := fun b u e z => by rw [z, hn] at e; cases e
 refine I.step (g' := s.gens) (d' := s.drawn) (ch := [it]) (fun b hb => ?_) (fun b o _ _ hc e _ => k b o (fun z => hc (by simp [z])) e) (fun b o _ _ hc e _ => ⟨o.slots, k b o (fun z => hc (by simp [z])) e⟩) (fun _ _ _ _ n => n)
  (fun b o hc e => ⟨o, k b o (fun z => hc (by simp [z])) e⟩) (fun _ _ e => e) (fun _ _ _ e => e) (fun b ps e => ⟨#[], by rw [e]; simp⟩) (fun m hm => ?_) (fun b u e => ?_) I.bare
 ·have e : b = it := by simpa using hb
  subst e
  exact ⟨h1, hL, h2, h3⟩
 ·obtain ⟨o, es, ep, ho, r⟩ := hm
  exact ⟨o, es, ep, k _ o (Ne.symm hL) ho, r⟩
 ·refine (I.hok b u e).stay (fun c v hc q => k c v ?_ q) (fun _ q => q) fun _ _ q => q
  rcases hc with z | z
  ·rw [z]; exact nit b u e
  ·exact nit c _ z
theorem Inv.tok (I : Inv X pins σ H s) (t : Nat) : Inv X pins σ H { s with toks := t } := I.un (h' := s.heap) (t' := t) Un.refl I.hok
theorem Inv.kept {t' : Nat} (I : Inv X pins σ H s) (k : ∀ b u, s.heap.get? b = some u -> h'.get? b = some u) : Inv X pins σ H { s with heap := h', toks := t' } := I.un (Un.kept k) (I.hok.kept k)
theorem Inv.laid {a : Addr} {o : HO} {t' : Nat} (I : Inv X pins σ H s) (k : ∀ b u, s.heap.get? b = some u -> h'.get? b = some u) (hp : s.heap.objs.size <= a) (new : ObjOk X.prog X.w (upd H a o) h' a o) :
  Inv X pins σ (upd H a o) { s with heap := h', toks := t' } := I.un (Un.laid k hp (I.hok.fresh hp)) (I.hok.laid k hp new)
theorem Inv.write {x e : Addr} {o : HO} {t' : Nat} (I : Inv X pins σ H s) (mu : Mut (H x)) (he : e = x \/ H e = some (.own x)) (k : ∀ b u, b ≠ e -> s.heap.get? b = some u -> h'.get? b = some u) (heo : ∃ u, h'.get? e = some u)
  (new : ObjOk X.prog X.w (upd H x o) h' x o) : Inv X pins σ (upd H x o) { s with heap := h', toks := t' } := I.un (Un.write mu he k heo) (I.hok.write mu he k heo new)
theorem Inv.weak {σ' : List (Option V)} (I : Inv X pins σ H s) (hl : σ'.length = σ.length) (w : ∀ (i : Nat) v, σ'[i]? = some (some v) -> σ[i]? = some (some v)) : Inv X pins σ' H s :=
 ⟨I.ok, I.os, I.bare, I.base, let ⟨m, hn, hl'⟩ := I.loc; ⟨m, hn, fun i x v e1 e2 e3 => hl' i x v e1 (w i v e2) e3⟩, I.cell, I.free, I.freeC, I.pin, I.hok, hl.trans I.len⟩
theorem Inv.pins_of {pins' : List (Addr × Obj)} (I : Inv X pins σ H s) (h : ∀ p ∈ pins', s.heap.get? p.1 = some p.2 /\ H p.1 = none /\ p.1 ≠ X.env.locals /\ p.1 ∉ X.fs /\ ∀ v, p.2.data ≠ .cell v) : Inv X pins' σ H s :=
 ⟨I.ok, I.os, I.bare, I.base, I.loc, I.cell, I.free, I.freeC, fun p hp => (List.mem_append.mp hp).elim (fun z => I.pin p (List.mem_append_left _ z)) (h p), I.hok, I.len⟩
theorem uA {N : List Str} (hN : N.Nodup) {i j : Nat} {x : Str} (a : N[i]? = some x) (b : N[j]? = some x) : i = j := by
 obtain ⟨h1, e1⟩ := List.getElem?_eq_some_iff.mp a
 obtain ⟨h2, e2⟩ := List.getElem?_eq_some_iff.mp b
 exact (List.getElem_inj hN).mp (e1.trans e2.symm)
theorem wH {M : Model} {A : Around} {E : Value -> Shared -> Prop} {i : Nat} {x : Str} {v : V} {u : Value} {Q : Unit -> Shared -> Prop} (I : Inv X pins σ H s) (hN : X.N.Nodup) (hi : X.N[i]? = some x) (hx : Loc X.env.scope x) (r : RelV v u)
  (h : ∀ s', Inv X pins (σ.set i (some v)) H s' -> (∃ a, Heap.SameBut a s.heap s'.heap /\ (a = X.env.locals \/ X.env.cells.lookup x = some a)) -> Q () s') (hf : X.fn x = true \/ X.env.scope.names.lookup x = some .local := by first | exact .inl rfl | exact .inr rfl | assumption) : wpAny M A (storeName X.env x u) Q E s := by
 obtain ⟨m, hn, hl⟩ := id I.loc
 have hcls : (X.env.scope.kind == .class || (X.env.scope.kind == .module && X.env.locals != X.env.globals)) = false := by rw [I.ok.kind]; rfl
 have hiσ : i < σ.length := by rw [I.len]; exact (List.getElem?_eq_some_iff.mp hi).1
 have cne := I.cne
 have tracked : ∀ {a : Addr} {h' : Heap}, (∃ o, s.heap.get? a = some o /\ H a = none) -> Heap.SameBut a s.heap h' -> HOk X.prog X.w H h' := fun {a h'} ha hs b ob e => by
  obtain ⟨_, _, hfree⟩ := ha
  refine (I.hok b ob e).stay (fun c w' hc q => (hs.2 c ?_).trans q) (fun _ q => q) fun _ _ q => q
  rintro rfl
  rcases hc with rfl | hc
  ·rw [hfree] at e; cases e
  ·rw [hfree] at hc; cases hc
 rcases hx with hk | hk
 ·refine wpAny_storeName_local hk hn (fun h' hn' hs => ?_) hcls
  obtain ⟨oL, _, _, hoL, _⟩ := id hn
  refine h _ ⟨I.ok, I.os, I.bare, ⟨fun b o e n hb hx => ?_, fun b o e n hb hx => ?_, I.base.free, fun b o e hx => ?_, I.base.tups, I.base.frzs, I.base.tbls⟩, ⟨_, hn', fun j y v' e1 e2 e3 => ?_⟩, fun y c e => ?_, I.free, I.freeC, fun p hp => ?_, tracked ⟨oL, hoL, I.free⟩ hs, by simpa using I.len⟩ ⟨_, hs, .inl rfl⟩
  ·exact (hs.2 b (Nat.ne_of_lt (Nat.lt_of_lt_of_le (Heap.lt_size e) I.ok.above))).trans (I.base.keep b o e n hb hx)
  ·obtain ⟨sl, e1⟩ := I.base.slot b o e n hb hx
   exact ⟨sl, (hs.2 b (Nat.ne_of_lt (Nat.lt_of_lt_of_le (Heap.lt_size e) I.ok.above))).trans e1⟩
  ·obtain ⟨o', e1⟩ := I.base.there b o e hx
   exact ⟨o', (hs.2 b (Nat.ne_of_lt (Nat.lt_of_lt_of_le (Heap.lt_size e) I.ok.above))).trans e1⟩
  ·by_cases hj : j = i
   ·subst hj
    rw [hi] at e1; cases e1
    rw [List.getElem?_set_self hiσ] at e2
    cases e2
    exact ⟨u, r, .inl ⟨hk, by simp⟩⟩
   ·rw [List.getElem?_set_ne (Ne.symm hj)] at e2
    obtain ⟨u', r', q⟩ := hl j y v' e1 e2 e3
    refine ⟨u', r', ?_⟩
    rcases q with ⟨k, e⟩ | ⟨k, c, e, z⟩
    ·refine .inl ⟨k, ?_⟩
     have : y ≠ x := fun e => hj (uA hN e1 (e ▸ hi))
     simp [this, e]
    ·exact .inr ⟨k, c, e, z.sameBut hs (cne y c e)⟩
  ·obtain ⟨w', z⟩ := I.cell y c e
   exact ⟨w', z.sameBut hs (cne y c e)⟩
  ·obtain ⟨e, n, ne, nf, d⟩ := I.pin p hp
   exact ⟨(hs.2 p.1 ne).trans e, n, ne, nf, d⟩
 ·have hfn : X.fn x = true := by
   rcases hf with z | z
   ·exact z
   ·rw [z] at hk; cases hk
  obtain ⟨c, hc⟩ := I.ok.has x (.inl hk)
  obtain ⟨w', z⟩ := I.cell x c hc
  refine wpAny_storeName_cell I.ok.kind hk hc z (fun h' hc' hs => ?_)
  obtain ⟨oc, hoc, hocd⟩ := id z
  refine h { s with heap := h' } ⟨I.ok, I.os, I.bare, ⟨fun b o e n hb hx => ?_, fun b o e n hb hx => ?_, I.base.free, fun b o e hx => ?_, I.base.tups, I.base.frzs, I.base.tbls⟩, ⟨m, hn.sameBut hs (Ne.symm (cne x c hc)), fun j y v' e1 e2 e3 => ?_⟩, fun y c' e => ?_, I.free, I.freeC, fun p hp => ?_, tracked ⟨oc, hoc, I.freeC x c hc⟩ hs, by simpa using I.len⟩ ⟨c, hs, .inr hc⟩
  ·exact (hs.2 b (Nat.ne_of_lt (Nat.lt_of_lt_of_le (Heap.lt_size e) (I.ok.cab x c hfn hc)))).trans (I.base.keep b o e n hb hx)
  ·obtain ⟨sl, e1⟩ := I.base.slot b o e n hb hx
   exact ⟨sl, (hs.2 b (Nat.ne_of_lt (Nat.lt_of_lt_of_le (Heap.lt_size e) (I.ok.cab x c hfn hc)))).trans e1⟩
  ·obtain ⟨o', e1⟩ := I.base.there b o e hx
   exact ⟨o', (hs.2 b (Nat.ne_of_lt (Nat.lt_of_lt_of_le (Heap.lt_size e) (I.ok.cab x c hfn hc)))).trans e1⟩
  ·by_cases hj : j = i
   ·subst hj
    rw [hi] at e1; cases e1
    rw [List.getElem?_set_self hiσ] at e2
    cases e2
    exact ⟨u, r, .inr ⟨.inl hk, c, hc, hc'⟩⟩
   ·rw [List.getElem?_set_ne (Ne.symm hj)] at e2
    obtain ⟨u', r', q⟩ := hl j y v' e1 e2 e3
    refine ⟨u', r', ?_⟩
    rcases q with q | ⟨k, c', e, z'⟩
    ·exact .inl q
    ·refine .inr ⟨k, c', e, z'.sameBut hs ?_⟩
     rintro rfl
     exact hj (uA hN e1 (I.ok.inj _ _ _ e hc ▸ hi))
  ·by_cases hcc : c' = c
   ·subst hcc; exact ⟨_, hc'⟩
   ·obtain ⟨w2, z2⟩ := I.cell y c' e
    exact ⟨w2, z2.sameBut hs hcc⟩
  ·obtain ⟨e, n, ne, nf, d⟩ := I.pin p hp
   refine ⟨(hs.2 p.1 ?_).trans e, n, ne, nf, d⟩
   intro q
   rw [q, hoc] at e
   have q' : oc = p.2 := Option.some.inj e
   exact d w' (by rw [← q']; exact hocd)
theorem uB {M : Model} {A : Around} {E : Value -> Shared -> Prop} {i : Nat} {x : Str} {v : V} {u : Value} {Q : Unit -> Shared -> Prop} (I : Inv X pins σ H s) (hN : X.N.Nodup) (hi : X.N[i]? = some x) (hx : Loc X.env.scope x) (r : RelV v u)
  (h : ∀ s', Inv X pins (σ.set i (some v)) H s' -> Q () s') (hf : X.fn x = true \/ X.env.scope.names.lookup x = some .local := by first | exact .inl rfl | exact .inr rfl | assumption) : wpAny M A (storeName X.env x u) Q E s :=
 wH I hN hi hx r (fun s' I' _ => h s' I') hf
theorem Inv.call' {s' : Shared} {ch : List Addr} (I : Inv X pins σ H s) (ho : s'.os = s.os) (u : Un (frs X.stack) ch H H' s.heap s'.heap) (hok : HOk X.prog X.w H' s'.heap) (hg : AllBare s'.gens)
  (hch : ∀ b ∈ ch, (b ∈ X.ex \/ X.s₀.heap.objs.size <= b) /\ b ≠ X.env.locals /\ (∀ x c, X.env.cells.lookup x = some c -> c ≠ b) /\ ∀ p ∈ X.pn ++ pins, p.1 ≠ b) : Inv X pins σ H' s' := by
 obtain ⟨h', g', d', t', o'⟩ := s'
 have e : o' = s.os := ho
 subst e
 exact I.call (g' := g') (t' := t') (d' := d') u hok hg hch
end
abbrev XK := Value -> Option Addr -> Hp -> Prop
abbrev St := List (Option V)
abbrev VK := V -> Hp -> Prop
abbrev TE := St -> Hp -> VK -> Prop
abbrev TT := St -> Hp -> (Bool -> Hp -> Prop) -> Prop
abbrev TA := St -> Hp -> (List V -> Hp -> Prop) -> Prop
structure Ends where
 nx : St -> Hp -> Prop
 rt : VK
 bk : St -> Hp -> Prop := fun _ _ => False
 ct : St -> Hp -> Prop := fun _ _ => False
abbrev TS := Ends -> St -> Hp -> Prop
def EP (X : Cx) (pins : List (Addr × Obj)) (σ : St) (Q : VK) (u : Value) (s' : Shared) : Prop := ∃ v H', Inv X pins σ H' s' /\ RelV v u /\ Q v H'
def TP (X : Cx) (pins : List (Addr × Obj)) (σ : St) (Q : Bool -> Hp -> Prop) (b : Bool) (s' : Shared) : Prop := ∃ H', Inv X pins σ H' s' /\ Q b H'
def AP (X : Cx) (pins : List (Addr × Obj)) (σ : St) (Q : List V -> Hp -> Prop) (us : List Value) (s' : Shared) : Prop := ∃ vs H', Inv X pins σ H' s' /\ Vals vs us /\ Q vs H'
def SP (X : Cx) (pins : List (Addr × Obj)) (D : Ends) (f : Flow) (s' : Shared) : Prop :=
 match f with
 | .next => ∃ σ' H', Inv X pins σ' H' s' /\ D.nx σ' H'
 | .brk => ∃ σ' H', Inv X pins σ' H' s' /\ D.bk σ' H'
 | .cont => ∃ σ' H', Inv X pins σ' H' s' /\ D.ct σ' H'
 | .ret u => ∃ v σ' H', Inv X pins σ' H' s' /\ RelV v u /\ D.rt v H'
def PE (X : Cx) (e : Expr) (t : TE) : Prop :=
 ∀ (pins : List (Addr × Obj)) (s : Shared) (σ : St) (H : Hp) (Q : VK), Inv X pins σ H s -> t σ H Q -> wpAny (model X.prog X.w) X.A (eval e X.env) (EP X pins σ Q) X.xe s
def PT (X : Cx) (e : Expr) (t : TT) : Prop :=
 ∀ (pins : List (Addr × Obj)) (s : Shared) (σ : St) (H : Hp) (Q : Bool -> Hp -> Prop), Inv X pins σ H s -> t σ H Q -> wpAny (model X.prog X.w) X.A (isTrue e X.env (eval e X.env)) (TP X pins σ Q) X.xe s
def PW (X : Cx) (e : Expr) (t : TT) : Prop :=
 ∀ (whole : Sem Value) (pins : List (Addr × Obj)) (s : Shared) (σ : St) (H : Hp) (Q : Bool -> Hp -> Prop), Inv X pins σ H s -> t σ H Q -> wpAny (model X.prog X.w) X.A (isTrue e X.env whole) (TP X pins σ Q) X.xe s
theorem PW.pt {X : Cx} {e : Expr} {t : TT} (h : PW X e t) : PT X e t := h _
def PA (X : Cx) (es : List Expr) (t : TA) : Prop :=
 ∀ (pos : Pos) (pins : List (Addr × Obj)) (s : Shared) (σ : St) (H : Hp) (Q : List V -> Hp -> Prop), Inv X pins σ H s -> t σ H Q -> wpAny (model X.prog X.w) X.A (spliced (backTo pos (starEach es X.env))) (AP X pins σ Q) X.xe s
def PS (X : Cx) (st : Stmt) (t : TS) : Prop :=
 ∀ (pins : List (Addr × Obj)) (s : Shared) (σ : St) (H : Hp) (D : Ends), Inv X pins σ H s -> t D σ H -> wpAny (model X.prog X.w) X.A (exec st X.env) (SP X pins D) X.xe s
def PSs (X : Cx) (st : List Stmt) (t : TS) : Prop :=
 ∀ (pins : List (Addr × Obj)) (s : Shared) (σ : St) (H : Hp) (D : Ends), Inv X pins σ H s -> t D σ H -> wpAny (model X.prog X.w) X.A (execs st X.env) (SP X pins D) X.xe s
theorem thn {α : Type} {t : Sem α} {Q Q' : α -> Shared -> Prop} {M : Model} {A : Around} {E : Value -> Shared -> Prop} {s : Shared} (h : wpAny M A t Q E s) (hQ : ∀ a s, Q a s -> Q' a s) : wpAny M A t Q' E s := wpAny_mono h hQ fun _ _ x => x
end L2
namespace L2
open PySem PySem.Spec PyProof.Rows
section
variable {X : Cx}
def Mi (i : Nat) : TE := fun σ H Q => ∃ v, σ[i]? = some (some v) /\ Q v H
def tC (v : V) : TE := fun _ H Q => Q v H
theorem g_ {i : Nat} {x : Str} {pos : Pos} (hN : X.N[i]? = some x) (hv : Vis X.env.scope x) (hd : (x == ("__debug__" : Str)) = false := by decide) (hcd : (x == ("__classdict__" : Str)) = false := by decide) : PE X (.Name x pos) (Mi i) := by
 intro pins s σ H Q I h
 obtain ⟨v, e, h⟩ := h
 obtain ⟨m, hn, hl⟩ := I.loc
 obtain ⟨u, r, l⟩ := hl i x v hN e hv
 have fin : EP X pins σ Q u s := ⟨v, H, I, r, h⟩
 rcases l with ⟨hk, hm⟩ | ⟨hk, c, hc, hcell⟩
 ·exact wpAny_Name (wpAny_loadName_local I.ok.kind hk hn hm fin) hd
 ·rcases hk with hk | hk
  ·exact wpAny_Name (wpAny_loadName_cell I.ok.kind hk hc hcell fin) hd
  ·exact wpAny_Name (wpAny_loadName_free I.ok.kind hk hc hcell fin hcd) hd
theorem Mj {i j pos} : PE X (.Constant (.int i) j pos) (tC (.int i)) := fun _ _ _ H _ I h => wpAny_Constant_int ⟨.int i, H, I.tok _, ⟨_, rfl⟩, h⟩
theorem Qi {b j pos} : PE X (.Constant (.bool b) j pos) (tC (.bl b)) := fun _ _ _ H _ I h => Constant_bool ⟨.bl b, H, I, rfl, h⟩
theorem Ml {j pos} : PE X (.Constant .none j pos) (tC .non) := fun _ _ _ H _ I h => Constant_none ⟨.non, H, I, rfl, h⟩
theorem Ea {x j pos} : PE X (.Constant (.str x) j pos) (tC (.str x)) := fun _ _ _ H _ I h => Calls.Constant_str ⟨.str x, H, I.tok _, ⟨_, rfl⟩, h⟩
def Gl (X : Cx) (x : Str) : Prop := X.env.kindOf x = some .globalImplicit
theorem jG {E : Value -> Shared -> Prop} {pins : List (Addr × Obj)} {s : Shared} {σ : St} {H : Hp} {x : Str} {u : Value} {pos : Pos} {Q : Value -> Shared -> Prop} (I : Inv X pins σ H s) (hg : Gl X x) (hm : X.mg x = some u) (h : Q u s)
  (hd : (x == ("__debug__" : Str)) = false := by decide) : wpAny (model X.prog X.w) X.A (eval (.Name x pos) X.env) Q E s :=
 Calls.Name_function_global I.ok.kind hg (Calls.loadGlobal_global (by rw [I.ok.glob]; exact I.mod.glob.keeps I.bk) hm h) hd
theorem oX {E : Value -> Shared -> Prop} {pins : List (Addr × Obj)} {s : Shared} {σ : St} {H : Hp} {x : Str} {u : Value} {pos : Pos} {Q : Value -> Shared -> Prop} (I : Inv X pins σ H s) (hg : Gl X x) (hm : X.mg x = none) (hv : bootBuiltins x = some u) (h : Q u s)
  (hn : x ≠ "__name__" := by decide) (hd : (x == ("__debug__" : Str)) = false := by decide) : wpAny (model X.prog X.w) X.A (eval (.Name x pos) X.env) Q E s := by
 obtain ⟨mb, h1, h2⟩ := I.mod.blt
 exact Calls.Name_function_global I.ok.kind hg (Calls.loadGlobal_builtin (by rw [I.ok.glob]; exact I.mod.glob.keeps I.bk) hm (by rw [I.ok.blt]; exact h1.keeps I.bk) ((h2 x hn).trans hv) h) hd
theorem sZ {x : Str} {v : V} {u : Value} {pos : Pos} (hg : Gl X x) (hm : X.mg x = some u) (r : RelV v u) (hd : (x == ("__debug__" : Str)) = false := by decide) : PE X (.Name x pos) (tC v) :=
 fun _ _ _ H _ I h => jG I hg hm ⟨v, H, I, r, h⟩ hd
theorem Bc {x : Str} {v : V} {u : Value} {pos : Pos} (hg : Gl X x) (hm : X.mg x = none) (hv : bootBuiltins x = some u) (r : RelV v u) (hn : x ≠ "__name__" := by decide) (hd : (x == ("__debug__" : Str)) = false := by decide) : PE X (.Name x pos) (tC v) :=
 fun _ _ _ H _ I h => oX I hg hm hv ⟨v, H, I, r, h⟩ hn hd
variable {a b : Expr} {ta tb : TE} {pos : Pos}
def PC (X : Cx) (op : CmpOp) (a b : Expr) (t : TE) : Prop :=
 ∀ (pins : List (Addr × Obj)) (s : Shared) (σ : St) (H : Hp) (Q : VK), Inv X pins σ H s -> t σ H Q ->
  wpAny (model X.prog X.w) X.A (eval a X.env) (fun v s₁ => wpAny (model X.prog X.w) X.A (eval b X.env) (fun u s₂ => wpAny (model X.prog X.w) X.A (compareOp op v u) (EP X pins σ Q) X.xe s₂) X.xe s₁) X.xe s
theorem GQ (b : Expr) {op : CmpOp} (h : op ≠ .In) (h2 : op ≠ .NotIn) : behindInMarks op b = false := by
 have e1 : (op == CmpOp.In) = false := by cases op <;> first | rfl | exact absurd rfl h
 have e2 : (op == CmpOp.NotIn) = false := by cases op <;> first | rfl | exact absurd rfl h2
 cases b <;> simp [behindInMarks, e1, e2]
def Rv (ta : TE) : TE := fun σ H Q => ta σ H fun x H1 => Q (.bl (decide (x = .non))) H1
theorem RelV.none_iff {x : V} {v : Value} (r : RelV x v) : (v == Value.none) = decide (x = .non) := by
 cases x with
 | non => cases r; rfl
 | bl _ => cases r; rfl
 | int _ => obtain ⟨t, rfl⟩ := r; rfl
 | str _ => obtain ⟨t, rfl⟩ := r; rfl
 | byt _ => obtain ⟨t, rfl⟩ := r; rfl
 | flt _ => obtain ⟨t, rfl⟩ := r; rfl
 | ref _ => cases r; rfl
 | ty _ => cases r; rfl
theorem Mm {j pos'} (ha : PE X a ta) : PC X .Is a (.Constant .none j pos') (Rv ta) := by
 intro pins s σ H Q I h
 refine thn (ha pins s σ H _ I h) fun v s1 ⟨x, H1, I1, r1, q1⟩ => ?_
 exact Constant_none (is_none_gen ⟨.bl _, H1, I1, by rw [r1.none_iff]; rfl, q1⟩)
def tB (t : TE) : TT := fun σ H Q => t σ H fun x H1 => ∃ c, x = .bl c /\ Q c H1
theorem Mp {op : CmpOp} {t : TE} (h : PC X op a b t) (h1 : behindInMarks op b = false := by first | exact GQ _ (by decide) (by decide) | rfl) : PT X (.Compare a [op] [b] pos) (tB t) := by
 intro pins s σ H Q I hw
 refine wpAny_isTrue_Compare1 (thn (h pins s σ H _ I hw) fun v s1 h1 => thn h1 fun u s2 h2 => thn h2 fun c s3 ⟨x, H1, I1, r1, q1⟩ => ?_) h1
 obtain ⟨d, rfl, q⟩ := q1
 cases r1
 exact wpAny_truthy_bool ⟨H1, I1, q⟩
theorem Eb {e : Expr} {t : TE} (h : PE X e t) (he : ∀ whole, isTrue e X.env whole = (do let v ← whole; standAt e.pos; holding [v] (truthy v)) := by intro _; rfl) : PT X e (tB t) := by
 intro pins s σ H Q I hw
 refine isTrue_plain (thn (h pins s σ H _ I hw) fun v s1 ⟨x, H1, I1, r1, q1⟩ => ?_) (he _)
 obtain ⟨d, rfl, q⟩ := q1
 cases r1
 exact wpAny_truthy_bool ⟨H1, I1, q⟩
variable {tA tB' : TT} {rest : List Expr}
def Rw (t u : TT) : TT := fun σ H Q => t σ H fun c H1 => if c = true then u σ H1 Q else Q false H1
def tOr (t u : TT) : TT := fun σ H Q => t σ H fun c H1 => if c = true then Q true H1 else u σ H1 Q
def Rx (t : TT) : TT := fun σ H Q => t σ H fun c H1 => Q (!c) H1
theorem Bd (ha : PT X a tA) : PW X (.BoolOp .And [a] pos) tA := by
 intro wh pins s σ H Q I h
 refine isTrue_and (thn (ha pins s σ H Q I h) fun c s1 e => ?_)
 cases c with
 | true => exact isTrue_and_nil e
 | false => exact e
theorem Ec (ha : PT X a tA) : PW X (.BoolOp .Or [a] pos) tA := by
 intro wh pins s σ H Q I h
 refine isTrue_or (thn (ha pins s σ H Q I h) fun c s1 e => ?_)
 cases c with
 | false => exact isTrue_or_nil e
 | true => exact e
theorem Ed (ha : PT X a tA) (hb : PW X (.BoolOp .And (b :: rest) pos) tB') : PW X (.BoolOp .And (a :: b :: rest) pos) (Rw tA tB') := by
 intro wh pins s σ H Q I h
 refine isTrue_and (thn (ha pins s σ H _ I h) fun c s1 ⟨H1, I1, q1⟩ => ?_)
 cases c with
 | true => exact hb wh pins s1 σ H1 Q I1 q1
 | false => exact ⟨H1, I1, q1⟩
theorem Jm (ha : PT X a tA) (hb : PW X (.BoolOp .Or (b :: rest) pos) tB') : PW X (.BoolOp .Or (a :: b :: rest) pos) (tOr tA tB') := by
 intro wh pins s σ H Q I h
 refine isTrue_or (thn (ha pins s σ H _ I h) fun c s1 ⟨H1, I1, q1⟩ => ?_)
 cases c with
 | true => exact ⟨H1, I1, q1⟩
 | false => exact hb wh pins s1 σ H1 Q I1 q1
theorem Ef (ha : PT X a tA) : PT X (.UnaryOp .Not a pos) (Rx tA) := by
 intro pins s σ H Q I h
 exact isTrue_not (ha pins s σ H (fun c H1 => Q (!c) H1) I h)
def Qj (ta tb : TE) : TE := fun σ H Q => ta σ H fun x H1 => ∃ c, x = .bl c /\ if c = true then tb σ H1 Q else Q (.bl false) H1
def Ry (ta tb : TE) : TE := fun σ H Q => ta σ H fun x H1 => ∃ c, x = .bl c /\ if c = true then Q (.bl true) H1 else tb σ H1 Q
theorem Eg {op} {t : TE} (h : PE X a t) : PE X (.BoolOp op [a] pos) t := fun pins s σ H Q I hw => BoolOp_one (h pins s σ H Q I hw)
theorem Mq (ha : PE X a ta) (hb : PE X (.BoolOp .And (b :: rest) pos) tb) : PE X (.BoolOp .And (a :: b :: rest) pos) (Qj ta tb) := by
 intro pins s σ H Q I h
 refine BoolOp_and (thn (ha pins s σ H _ I h) fun v s1 ⟨x, H1, I1, r1, q1⟩ => ?_)
 obtain ⟨c, rfl, q1⟩ := q1
 cases r1
 refine wpAny_truthy_bool ?_
 cases c with
 | true => exact hb pins s1 σ H1 Q I1 q1
 | false => exact ⟨.bl false, H1, I1, rfl, q1⟩
theorem Jo (ha : PE X a ta) (hb : PE X (.BoolOp .Or (b :: rest) pos) tb) : PE X (.BoolOp .Or (a :: b :: rest) pos) (Ry ta tb) := by
 intro pins s σ H Q I h
 refine BoolOp_or (thn (ha pins s σ H _ I h) fun v s1 ⟨x, H1, I1, r1, q1⟩ => ?_)
 obtain ⟨c, rfl, q1⟩ := q1
 cases r1
 refine wpAny_truthy_bool ?_
 cases c with
 | false => exact hb pins s1 σ H1 Q I1 q1
 | true => exact ⟨.bl true, H1, I1, rfl, q1⟩
def tIf (t : TT) (ta tb : TE) : TE := fun σ H Q => t σ H fun c H1 => if c = true then ta σ H1 Q else tb σ H1 Q
theorem GR {c : Expr} (hc : PT X c tA) (ha : PE X a ta) (hb : PE X b tb) : PE X (.IfExp c a b pos) (tIf tA ta tb) := by
 intro pins s σ H Q I h
 refine wpAny_IfExp (thn (hc pins s σ H _ I h) fun d s1 ⟨H1, I1, q1⟩ => ?_)
 cases d with
 | true => exact ha pins s1 σ H1 Q I1 q1
 | false => exact hb pins s1 σ H1 Q I1 q1
end
end L2
namespace L2
open PySem PySem.Spec PyProof.Rows
def SqL (K : PySem.W.Frag) (H : Hp) (a : Addr) (xs : List V) : Prop :=
 Rd H a (.lst xs) \/
  ∃ (o : Obj) (its : Array Value) (n : Nat), K.lookup a = some o /\ o.cls = .type "list" /\ o.dict = none /\ o.data = .seq its n /\ its.size <= sizeLine /\ Vals xs its.toList
def SqT (K : PySem.W.Frag) (H : Hp) (a : Addr) (xs : List V) : Prop :=
 Rd H a (.tup xs) \/
  ∃ (o : Obj) (its : Array Value) (n : Nat), K.lookup a = some o /\ o.cls = .type "tuple" /\ o.data = .seq its n /\ its.size <= sizeLine /\ Vals xs its.toList
def Rz : Value -> Option V
 | .none => some .non
 | .bool b => some (.bl b)
 | .int i _ => some (.int i)
 | .str x _ => some (.str x)
 | .bytes b _ => some (.byt b)
 | .float b _ => some (.flt b)
 | .ref a => some (.ref a)
 | .type n => some (.ty n)
 | _ => none
theorem RelV.abs {x : V} {u : Value} (r : RelV x u) : Rz u = some x := by
 cases x with
 | non => cases r; rfl
 | bl _ => cases r; rfl
 | int _ => obtain ⟨t, rfl⟩ := r; rfl
 | str _ => obtain ⟨t, rfl⟩ := r; rfl
 | byt _ => obtain ⟨t, rfl⟩ := r; rfl
 | flt _ => obtain ⟨t, rfl⟩ := r; rfl
 | ref _ => cases r; rfl
 | ty _ => cases r; rfl
theorem RelV.inj {x y : V} {u : Value} (r : RelV x u) (q : RelV y u) : x = y := Option.some.inj (r.abs.symm.trans q.abs)
theorem Vals.inj : ∀ {xs ys : List V} {us : List Value}, Vals xs us -> Vals ys us -> xs = ys
 | _, _, _, .nil, .nil => rfl
 | _, _, _, .cons r t, .cons r' t' => by rw [r.inj r', Vals.inj t t']
section
variable {X : Cx} {pins : List (Addr × Obj)} {σ : St} {H : Hp} {s : Shared} {a : Addr} {xs ys : List V}
theorem SqL.of {K : PySem.W.Frag} (h : H a = some (.lst xs)) : SqL K H a xs := .inl (.inl h)
theorem SqT.of {K : PySem.W.Frag} (h : H a = some (.tup xs)) : SqT K H a xs := .inl (.inl h)
theorem Inv.list (I : Inv X pins σ H s) (h : SqL X.K H a xs) : ∃ its : List Value, Vals xs its /\ PlainL s.heap a its.toArray /\ xs.length <= sizeLine := by
 rcases h with h | ⟨o, its, n, hk, hc, hd, hs, hz, r⟩
 ·obtain ⟨z, its, n, r, e⟩ := h.ok I.hok
  exact ⟨its, r, ⟨_, n, e, rfl, rfl, rfl⟩, z⟩
 ·refine ⟨its.toList, r, ⟨o, n, I.kIn a o hk, hc, hd, by simpa using hs⟩, ?_⟩
  have e := r.length
  simp only [Array.length_toList] at e
  omega
theorem Inv.tuple (I : Inv X pins σ H s) (h : SqT X.K H a xs) : ∃ its : List Value, Vals xs its /\ IsTup s.heap a its.toArray /\ xs.length <= sizeLine := by
 rcases h with h | ⟨o, its, n, hk, hc, hs, hz, r⟩
 ·obtain ⟨z, its, r, p⟩ := h.ok I.hok
  exact ⟨its, r, p, z⟩
 ·refine ⟨its.toList, r, ⟨o, I.kIn a o hk, hc, n, by simpa using hs⟩, ?_⟩
  have e := r.length
  simp only [Array.length_toList] at e
  omega
theorem Inv.list_inj (I : Inv X pins σ H s) (h : SqL X.K H a xs) (h' : SqL X.K H a ys) : xs = ys := by
 obtain ⟨its, r, ⟨o, n, e, _, _, d⟩, _⟩ := I.list h
 obtain ⟨its', r', ⟨o', n', e', _, _, d'⟩, _⟩ := I.list h'
 rw [e] at e'; cases e'
 rw [d] at d'
 injection d' with d1 _
 have : its = its' := by simpa using congrArg Array.toList d1
 subst this
 exact r.inj r'
theorem Inv.tuple_inj (I : Inv X pins σ H s) (h : SqT X.K H a xs) (h' : SqT X.K H a ys) : xs = ys := by
 obtain ⟨its, r, ⟨o, e, _, n, d⟩, _⟩ := I.tuple h
 obtain ⟨its', r', ⟨o', e', _, n', d'⟩, _⟩ := I.tuple h'
 rw [e] at e'; cases e'
 rw [d] at d'
 injection d' with d1 _
 have : its = its' := by simpa using congrArg Array.toList d1
 subst this
 exact r.inj r'
end
abbrev Cx.wish (X : Cx) (E : Value -> Shared -> Prop) : Cx := { X with xe := E }
abbrev Cx.nox (X : Cx) : Cx := X.wish fun _ _ => False
theorem Cx.Ok.wish {X : Cx} (ok : X.Ok) (E : Value -> Shared -> Prop) : (X.wish E).Ok :=
 ⟨ok.mod, ok.kind, ok.glob, ok.blt, ok.above, ok.inj, ok.has, ok.cab, ok.hd, ok.frames, ok.stk, ok.exf, ok.bs, ok.bsz, ok.noex, ok.exfs, ok.funs, ok.frf⟩
theorem Cx.Ok.unwish {X : Cx} {E : Value -> Shared -> Prop} (ok : (X.wish E).Ok) : X.Ok :=
 ⟨ok.mod, ok.kind, ok.glob, ok.blt, ok.above, ok.inj, ok.has, ok.cab, ok.hd, ok.frames, ok.stk, ok.exf, ok.bs, ok.bsz, ok.noex, ok.exfs, ok.funs, ok.frf⟩
section
variable {X : Cx} {pins : List (Addr × Obj)} {σ : St} {H : Hp} {s : Shared} {E : Value -> Shared -> Prop}
theorem Inv.wish (I : Inv X pins σ H s) (E : Value -> Shared -> Prop) : Inv (X.wish E) pins σ H s := ⟨I.ok.wish E, I.os, I.bare, I.base, I.loc, I.cell, I.free, I.freeC, I.pin, I.hok, I.len⟩
theorem Inv.unwish (I : Inv (X.wish E) pins σ H s) : Inv X pins σ H s := ⟨I.ok.unwish, I.os, I.bare, I.base, I.loc, I.cell, I.free, I.freeC, I.pin, I.hok, I.len⟩
theorem SP.unwish {D : Ends} {f : Flow} {s' : Shared} (h : SP (X.wish E) pins D f s') : SP X pins D f s' := by
 cases f with
 | next => obtain ⟨σ', H', I, q⟩ := h; exact ⟨σ', H', I.unwish, q⟩
 | brk => obtain ⟨σ', H', I, q⟩ := h; exact ⟨σ', H', I.unwish, q⟩
 | cont => obtain ⟨σ', H', I, q⟩ := h; exact ⟨σ', H', I.unwish, q⟩
 | ret u => obtain ⟨v, σ', H', I, r, q⟩ := h; exact ⟨v, σ', H', I.unwish, r, q⟩
theorem PE.nox {e : Expr} {t : TE} (h : PE X.nox e t) : PE X e t := fun pins s σ H Q I hw =>
 wpAny_mono (h pins s σ H Q (I.wish _) hw) (fun _ _ ⟨v, H', I', r, q⟩ => ⟨v, H', I'.unwish, r, q⟩) fun _ _ z => False.elim z
theorem PT.nox {e : Expr} {t : TT} (h : PT X.nox e t) : PT X e t := fun pins s σ H Q I hw =>
 wpAny_mono (h pins s σ H Q (I.wish _) hw) (fun _ _ ⟨H', I', q⟩ => ⟨H', I'.unwish, q⟩) fun _ _ z => False.elim z
theorem PSs.nox {st : List Stmt} {t : TS} (h : PSs X.nox st t) : PSs X st t := fun pins s σ H D I hw =>
 wpAny_mono (h pins s σ H D (I.wish _) hw) (fun _ _ q => q.unwish) fun _ _ z => False.elim z
end
section
variable {X : Cx} {st : Stmt} {rest : List Stmt} {t u : TS} {e : Expr} {te : TE} {pos : Pos}
def Qk : TS := fun D σ H => D.nx σ H
def RB (t u : TS) : TS := fun D σ H => t { D with nx := u D } σ H
theorem Be : PSs X [] Qk := fun _ _ σ H _ I h => wpAny_execs_nil ⟨σ, H, I, h⟩
theorem mK (h1 : PS X st t) (h2 : PSs X rest u) : PSs X (st :: rest) (RB t u) := by
 intro pins s σ H D I h
 refine wpAny_execs_cons (thn (h1 pins s σ H { D with nx := u D } I h) fun f s1 q => ?_)
 cases f with
 | next =>
  obtain ⟨σ', H', I', q⟩ := q
  exact h2 pins s1 σ' H' D I' q
 | ret v => exact q
 | brk => exact q
 | cont => exact q
theorem Bf (h1 : PS X st t) : PSs X [st] t := by
 intro pins s σ H D I h
 refine wpAny_execs_cons (thn (h1 pins s σ H D I h) fun f s1 q => ?_)
 cases f with
 | next => exact wpAny_execs_nil q
 | ret v => exact q
 | brk => exact q
 | cont => exact q
theorem Inv.quiet {pins : List (Addr × Obj)} {σ : St} {H : Hp} {s : Shared} (I : Inv X pins σ H s) : interactive X.env = false := by simp [interactive, I.ok.kind]
def Ql (te : TE) : TS := fun D σ H => te σ H fun _ H1 => D.nx σ H1
theorem Bg (he : PE X e te) (hs : swapsWith e none pos.line X.env = pure false := by rfl) : PS X (.Expr e pos) (Ql te) := by
 intro pins s σ H D I h
 exact wpAny_Expr_any (thn (he pins s σ H _ I h) fun v s1 ⟨x, H1, I1, r1, q1⟩ => ⟨σ, H1, I1, q1⟩) I.quiet hs
def RC (te : TE) : TS := fun D σ H => te σ H D.rt
theorem yK (he : PE X e te) : PS X (.Return (some e) pos) (RC te) := by
 intro pins s σ H D I h
 exact wpAny_Return_some (thn (he pins s σ H _ I h) fun v s1 ⟨x, H1, I1, r1, q1⟩ => ⟨x, σ, H1, I1, r1, q1⟩)
def RD (c : TT) (t u : TS) : TS := fun D σ H => c σ H fun b H1 => if b = true then t D σ H1 else u D σ H1
theorem Cq {c : Expr} {a b : List Stmt} {tc : TT} (hc : PT X c tc) (ha : PSs X a t) (hb : PSs X b u) : PS X (.If c a b pos) (RD tc t u) := by
 intro pins s σ H D I h
 refine wpAny_If (thn (hc pins s σ H _ I h) fun d s1 ⟨H1, I1, q1⟩ => ?_)
 cases d with
 | true => exact ha pins s1 σ H1 D I1 q1
 | false => exact hb pins s1 σ H1 D I1 q1
def Eh : TS := fun _ _ _ => False
theorem GX : PS X st Eh := fun _ _ _ _ _ _ h => h.elim
theorem lK {sts : List Stmt} : PSs X sts Eh := fun _ _ _ _ _ _ h => h.elim
end
abbrev TG := V -> St -> Hp -> (St -> Hp -> Prop) -> Prop
abbrev TGs := List V -> St -> Hp -> (St -> Hp -> Prop) -> Prop
def PG (X : Cx) (target : Expr) (t : TG) : Prop :=
 ∀ (pins : List (Addr × Obj)) (s : Shared) (σ : St) (H : Hp) (v : V) (u : Value) (Q : St -> Hp -> Prop), Inv X pins σ H s -> RelV v u -> t v σ H Q ->
  wpAny (model X.prog X.w) X.A (assign target X.env u) (fun _ s' => ∃ σ' H', Inv X pins σ' H' s' /\ Q σ' H') X.xe s
def PGs (X : Cx) (ts : List Expr) (t : TGs) : Prop :=
 ∀ (pins : List (Addr × Obj)) (s : Shared) (σ : St) (H : Hp) (vs : List V) (us : List Value) (Q : St -> Hp -> Prop), Inv X pins σ H s -> Vals vs us -> t vs σ H Q ->
  wpAny (model X.prog X.w) X.A (assignInOrder ((assignEach ts X.env).map (·.2)) us) (fun _ s' => ∃ σ' H', Inv X pins σ' H' s' /\ Q σ' H') X.xe s
abbrev GZ := V -> V -> V -> Hp -> (Hp -> Prop) -> Prop
def Mr (X : Cx) (t : GZ) : Prop :=
 ∀ (pins : List (Addr × Obj)) (s : Shared) (σ : St) (H : Hp) (o i v : V) (ov iv u : Value) (Q : Hp -> Prop), Inv X pins σ H s -> RelV o ov -> RelV i iv -> RelV v u -> t o i v H Q ->
  wpAny (model X.prog X.w) X.A (setItem ov iv u) (fun _ s' => ∃ H', Inv X pins σ H' s' /\ Q H') X.xe s
section
variable {X : Cx} {pos : Pos}
def tu (i : Nat) : TG := fun v σ H Q => Q (σ.set i (some v)) H
theorem vR {i : Nat} {x : Str} (hN : X.N.Nodup) (hi : X.N[i]? = some x) (hx : Loc X.env.scope x) (hf : X.fn x = true \/ X.env.scope.names.lookup x = some .local := by first | exact .inl rfl | exact .inr rfl | assumption) : PG X (.Name x pos) (tu i) := by
 intro pins s σ H v u Q I r h
 exact wpAny_assign_Name (uB I hN hi hx r (fun s' I' => ⟨_, H, I', h⟩) hf)
def Ms : TGs := fun vs σ H Q => vs = [] /\ Q σ H
def Jp (t : TG) (u : TGs) : TGs := fun vs σ H Q => ∃ v r, vs = v :: r /\ t v σ H fun σ' H' => u r σ' H' Q
theorem oY : PGs X [] Ms := by
 intro pins s σ H vs us Q I r h
 obtain ⟨e, h⟩ := h
 subst e
 cases r
 exact assignInOrder_nil ⟨σ, H, I, h⟩
theorem gF {e : Expr} {es : List Expr} {t : TG} {u : TGs} (h1 : PG X e t) (h2 : PGs X es u)
  (hs : (assignEach (e :: es) X.env).map (·.2) = assign e X.env :: (assignEach es X.env).map (·.2) := by rfl) : PGs X (e :: es) (Jp t u) := by
 intro pins s σ H vs us Q I r h
 obtain ⟨v, vr, e1, h⟩ := h
 subst e1
 cases r with
 | cons r rr =>
  rw [hs]
  refine assignInOrder_cons (thn (h1 pins s σ H _ _ _ I r h) fun _ s1 ⟨σ1, H1, I1, q1⟩ => ?_)
  exact h2 pins s1 σ1 H1 _ _ Q I1 rr q1
def Mt (K : PySem.W.Frag) (n : Nat) (t : TGs) : TG := fun v σ H Q => ∃ a xs, v = .ref a /\ SqT K H a xs /\ xs.length = n /\ t xs σ H Q
theorem qX {es : List Expr} {k : Nat} {t : TGs} {n : Nat} (hc : X.calm = true) (h : PGs X es t)
  (hn : (assignEach es X.env).length = n := by rfl) (hst : (assignEach es X.env).findIdx? (·.1) = none := by rfl) : PG X (.Tuple es k pos) (Mt X.K n t) := by
 intro pins s σ H v u Q I r hw
 obtain ⟨a, xs, e1, hq, hl, hw⟩ := hw
 subst e1
 cases r
 obtain ⟨its, rv, ht, hz⟩ := I.tuple hq
 refine assign_Tuple_tuple (I.ok.hd hc) ht (by simp [hn, ← hl, rv.length]) hst fun h' hx => ?_
 have I1 : Inv X pins σ H { s with heap := h' } := I.kept (t' := s.toks) fun b o e => hx b o (Nat.ne_of_lt (Heap.lt_size e)) e
 exact h pins _ σ H xs _ Q I1 (by simpa using rv) hw
def RG (to ti : TE) (t : GZ) : TG := fun v σ H Q => to σ H fun o H1 => ti σ H1 fun i H2 => t o i v H2 fun H3 => Q σ H3
theorem Mu {o i : Expr} {to ti : TE} {t : GZ} (ho : PE X o to) (hi : PE X i ti) (hs : Mr X t)
  (ha : ∀ v, assign (.Subscript o i pos) X.env v = (do
   let ov ← holding [v] (eval o X.env)
   let iv ← holding [v, ov] (eval i X.env)
   standAt pos
   holding [v, ov, iv] (setItem ov iv v)
   release [v, ov, iv] []) := by intro _; rfl) : PG X (.Subscript o i pos) (RG to ti t) := by
 intro pins s σ H v u Q I r h
 rw [ha]
 refine wpAny_bind (wpAny_holding (thn (ho pins s σ H _ I h) fun ov s1 ⟨x, H1, I1, r1, q1⟩ => ?_))
 refine wpAny_bind (wpAny_holding (thn (hi pins s1 σ H1 _ I1 q1) fun iv s2 ⟨y, H2, I2, r2, q2⟩ => ?_))
 refine wpAny_bind (wpAny_standAt (wpAny_bind (wpAny_holding (thn (hs pins s2 σ H2 x y v ov iv u _ I2 r1 r2 r q2) fun _ s3 ⟨H3, I3, q3⟩ => ?_))))
 exact wpAny_release ⟨σ, H3, I3, q3⟩
def G3 (te : TE) (g : TG) : TS := fun D σ H => te σ H fun x H1 => g x σ H1 D.nx
theorem Mv {tg e : Expr} {te : TE} {g : TG} (he : PE X e te) (hg : PG X tg g) (hs : swapsWithSole [tg] e pos.line X.env = pure false := by rfl) (hw : swappedStores [tg] e X.env = pure none := by rfl)
  (h1 : (assignEach [tg] X.env).map (·.2) = [assign tg X.env] := by rfl) : PS X (.Assign [tg] e pos) (G3 te g) := by
 intro pins s σ H D I h
 refine wpAny_Assign_stores (thn (he pins s σ H _ I h) fun v s1 ⟨x, H1, I1, r1, q1⟩ => ?_) hs hw
 rw [h1]
 exact thn (hg pins s1 σ H1 x v _ I1 r1 q1) fun _ s2 q => q
theorem yL {i : Nat} {x : Str} {e : Expr} {te : TE} {pos' : Pos} (hN : X.N.Nodup) (hi : X.N[i]? = some x) (hx : Loc X.env.scope x) (he : PE X e te) (hs : swapsWith e (some (.Name x pos')) pos.line X.env = pure false := by rfl) (hf : X.fn x = true \/ X.env.scope.names.lookup x = some .local := by first | exact .inl rfl | exact .inr rfl | assumption) :
  PS X (.Assign [.Name x pos'] e pos) (G3 te (tu i)) := by
 intro pins s σ H D I h
 refine wpAny_Assign_Name (thn (he pins s σ H _ I h) fun v s1 ⟨y, H1, I1, r1, q1⟩ => ?_) hs
 exact uB I1 hN hi hx r1 (fun s2 I2 => ⟨_, H1, I2, q1⟩) hf
end
section
variable {X : Cx} {pos : Pos}
def Mw (c : TT) (tb : TS) : TS := fun D σ H => ∃ W : Nat -> St -> Hp -> Prop, (∃ m, W m σ H) /\ ∀ m σ H, W m σ H ->
 c σ H fun b H1 => if b = true then ∃ N : St -> Hp -> Prop, (∀ σ' H', N σ' H' -> ∃ m', m' < m /\ W m' σ' H') /\ tb { D with nx := N, ct := N, bk := D.nx } σ H1 else D.nx σ H1
theorem G4 {c : Expr} {body : List Stmt} {tc : TT} {tb : TS} (hp : PassesOwn (model X.prog X.w) X.A X.env X.xe) (hc : PT X c tc) (hb : PSs X body tb) : PS X (.While c body [] pos) (Mw tc tb) := by
 intro pins s σ H D I h
 obtain ⟨W, ⟨m0, w0⟩, turn⟩ := h
 refine wpAny_While (codeAny_whileLoop (fun n s' => ∃ σ' H', Inv X pins σ' H' s' /\ W n σ' H') ?_ m0 ⟨σ, H, I, w0⟩)
 rintro n s1 ⟨σ1, H1, I1, w1⟩
 refine wpAny_passesOwn hp (thn (hc pins s1 σ1 H1 _ I1 (turn n σ1 H1 w1)) fun b s2 ⟨H2, I2, q2⟩ => ?_)
 cases b with
 | true =>
  obtain ⟨N, hN, q2⟩ := q2
  rw [if_pos rfl]
  refine wpAny_passesOwn hp (thn (hb pins s2 σ1 H2 _ I2 q2) fun f s3 q3 => ?_)
  cases f with
  | next =>
   obtain ⟨σ3, H3, I3, n3⟩ := q3
   obtain ⟨m', hm, w3⟩ := hN σ3 H3 n3
   exact ⟨m', hm, σ3, H3, I3, w3⟩
  | cont =>
   obtain ⟨σ3, H3, I3, n3⟩ := q3
   obtain ⟨m', hm, w3⟩ := hN σ3 H3 n3
   exact ⟨m', hm, σ3, H3, I3, w3⟩
  | brk => exact q3
  | ret v => exact q3
 | false =>
  rw [if_neg Bool.false_ne_true]
  exact wpAny_execs_nil ⟨σ1, H2, I2, q2⟩
end
structure It where
 go : Nat -> Hp -> Prop
 yld : Nat -> Hp -> V -> Hp -> Prop
 stop : Nat -> Hp -> Prop
def ju (X : Cx) (pins : List (Addr × Obj)) (H : Hp) (b : Addr) : Prop :=
 H b = none /\ b ≠ X.env.locals /\ b ∉ X.fs /\ (b ∈ X.ex \/ X.s₀.heap.objs.size <= b) /\ (∀ x c, X.env.cells.lookup x = some c -> c ≠ b) /\ ∀ p ∈ X.pn ++ pins, p.1 ≠ b
theorem Inv.fpOk {X : Cx} {pins : List (Addr × Obj)} {σ : St} {H H' : Hp} {s : Shared} {b : Addr} (I : Inv X pins σ H s) (hb : s.heap.objs.size <= b) (hn : H' b = none) : ju X pins H' b := by
 refine ⟨hn, Nat.ne_of_gt (Nat.lt_of_lt_of_le I.lt hb), I.nofs hb, .inr (Nat.le_trans I.sz hb), fun x c e z => ?_, fun p hp z => ?_⟩
 ·obtain ⟨v, q⟩ := I.cell x c e
  exact absurd (Nat.lt_of_lt_of_le q.lt (by rw [z]; exact hb)) (Nat.lt_irrefl _)
 ·exact absurd (Nat.lt_of_lt_of_le (Heap.lt_size (I.pin p hp).1) (by rw [z]; exact hb)) (Nat.lt_irrefl _)
structure Turn (P : Program) (w : World) (K : PySem.W.Frag) (tg : Expr) (J : It) (fp : List Addr) (it : Addr) (tn : Nat -> Heap -> Prop) : Prop where
 mem : it ∈ fp
 obj : ∀ i h, tn i h -> ∀ b ∈ fp, ∃ o, h.get? b = some o /\ ∀ v, o.data ≠ .cell v
 keep : ∀ i h h', tn i h -> (∀ b ∈ fp, ∀ o, h.get? b = some o -> h'.get? b = some o) -> tn i h'
 item : ∀ (X : Cx), X.prog = P -> X.w = w -> X.K = K -> X.calm = true -> ∀ (i : Nat) (pins : List (Addr × Obj)) (s : Shared) (σ : St) (H : Hp) (E : Value -> Shared -> Prop), Inv X pins σ H s -> (∀ b ∈ fp, ju X pins H b) -> tn i s.heap -> J.go i H ->
  wpAny (model P w) X.A (pyNext (.ref it)) (fun r s1 => ∃ u, r = some u /\
   wpAny (model P w) X.A (letOwnedTupleGo tg (.ref it) u) (fun _ s2 => ∃ x H', Inv X pins σ H' s2 /\ RelV x u /\ J.yld i H x H' /\ tn (i + 1) s2.heap /\ ∀ b ∈ fp, H' b = none) E s1) E s
 done : ∀ (X : Cx), X.prog = P -> X.w = w -> X.K = K -> X.calm = true -> ∀ (i : Nat) (pins : List (Addr × Obj)) (s : Shared) (σ : St) (H : Hp) (E : Value -> Shared -> Prop), Inv X pins σ H s -> (∀ b ∈ fp, ju X pins H b) -> tn i s.heap -> J.stop i H ->
  wpAny (model P w) X.A (pyNext (.ref it)) (fun r s1 => r = none /\ Inv X pins σ H s1) E s
 self : ∀ (A : Around) (i : Nat) (s : Shared) (Q : Value -> Shared -> Prop) (E : Value -> Shared -> Prop), tn i s.heap -> Q (.ref it) s -> wpAny (model P w) A (pyIter (.ref it)) Q E s
abbrev TI := St -> Hp -> (It -> Hp -> Prop) -> Prop
def PIE (X : Cx) (pins : List (Addr × Obj)) (σ : St) (tg : Expr) (R : It -> Hp -> Prop) (itv : Value) (s2 : Shared) : Prop :=
 ∃ (it : Addr) (fp : List Addr) (tn : Nat -> Heap -> Prop) (J : It) (H' : Hp), itv = .ref it /\ Inv X pins σ H' s2 /\ Turn X.prog X.w X.K tg J fp it tn /\ tn 0 s2.heap /\ (∀ b ∈ fp, ju X pins H' b) /\ R J H'
def PI (X : Cx) (tg iter : Expr) (wi : TI) : Prop :=
 ∀ (pins : List (Addr × Obj)) (s : Shared) (σ : St) (H : Hp) (R : It -> Hp -> Prop), Inv X pins σ H s -> wi σ H R ->
  wpAny (model X.prog X.w) X.A (eval iter X.env) (fun v s1 => wpAny (model X.prog X.w) X.A (pyIter v) (PIE X pins σ tg R) X.xe s1) X.xe s
theorem yo {M : Model} {A : Around} {E : Value -> Shared -> Prop} {s : Shared} {tg : Expr} {it : Addr} {u : Value} {o : Obj} {n : String} {vs : Array Value} {Q : Unit -> Shared -> Prop} (ho : s.heap.get? it = some o) (hc : o.cls = .type n) (hd : o.data = .fields vs)
    (hn : ["enumerate", "zip", "dict_itemiterator", "dict_reverseitemiterator", "odict_iterator", "itertools.zip_longest", "itertools.pairwise"].contains n = false) (hQ : Q () s) : wpAny M A (letOwnedTupleGo tg (.ref it) u) Q E s := by
  unfold letOwnedTupleGo
  cases tg <;> first
    | exact wpAny_pure hQ
    | (cases u <;> first
        | exact wpAny_pure hQ
        | (refine wpAny_bind (wpAny_load ho ?_)
           rw [hc, hd]
           show wpAny M A (if (["enumerate", "zip", "dict_itemiterator", "dict_reverseitemiterator", "odict_iterator", "itertools.zip_longest", "itertools.pairwise"].contains n && vs[0]? == some (rawInt _)) = true then _ else _) Q E s
           rw [if_neg (by intro h; rw [hn, Bool.false_and] at h; cases h)]
           exact wpAny_pure hQ))
def Itl (K : PySem.W.Frag) (a : Addr) : It :=
 ⟨fun i H => ∃ xs x, SqL K H a xs /\ xs[i]? = some x, fun i H x H' => H' = H /\ ∀ xs, SqL K H a xs -> xs[i]? = some x, fun i H => ∃ xs, SqL K H a xs /\ xs.length <= i⟩
def Itt (K : PySem.W.Frag) (a : Addr) : It :=
 ⟨fun i H => ∃ xs x, SqT K H a xs /\ xs[i]? = some x, fun i H x H' => H' = H /\ ∀ xs, SqT K H a xs -> xs[i]? = some x, fun i H => ∃ xs, SqT K H a xs /\ xs.length <= i⟩
def Itr (lo : Int) (n : Nat) : It := ⟨fun i _ => i < n, fun i H x H' => H' = H /\ x = .int (lo + i), fun i _ => n <= i⟩
theorem Ei {P : Program} {w : World} {K : PySem.W.Frag} {tg : Expr} (a it : Addr) : Turn P w K tg (Itl K a) [it] it (fun i h => h.IsListIter it a i) where
 mem := by simp
 obj := fun i h st b hb => by
  have e : b = it := by simpa using hb
  subst e
  obtain ⟨o, e, c, d⟩ := st
  exact ⟨o, e, fun v z => by rw [d] at z; cases z⟩
 keep := fun i h h' st k => st.at fun o e => k it (by simp) o e
 item := by
  intro X hP hw hK hc i pins s σ H E I hf st hg
  subst hP hw hK
  obtain ⟨xs, x, hq, hx⟩ := hg
  obtain ⟨its, rv, p, hz⟩ := I.list hq
  obtain ⟨u, hu, ru⟩ := rv.get hx
  obtain ⟨f0, f1, f2, f3, f4, f5⟩ := hf it (by simp)
  refine wpAny_pyNext_list_item st p.isList (x := u) (by simpa using hu) fun h' st' sb => ?_
  have I1 : Inv X pins σ H { s with heap := h' } := I.turned (t' := s.toks) (fun b o hb e => (sb.2 b hb).trans e) f0 f1 f3 f4 f5
  obtain ⟨o, e, c, d⟩ := id st'
  exact ⟨u, rfl, yo (s := { s with heap := h' }) e c d (by decide) ⟨x, H, I1, ru, ⟨rfl, fun ys hy => by rw [I.list_inj hy hq]; exact hx⟩, st', fun b hb => (hf b hb).1⟩⟩
 done := by
  intro X hP hw hK hc i pins s σ H E I hf st hg
  subst hP hw hK
  obtain ⟨xs, hq, hx⟩ := hg
  obtain ⟨its, rv, p, hz⟩ := I.list hq
  obtain ⟨f0, f1, f2, f3, f4, f5⟩ := hf it (by simp)
  have hl := rv.length
  exact wpAny_pyNext_list_end (I.ok.hd hc) st p.isList (by simp; omega) fun h' eb => ⟨rfl, I.turned (t' := s.toks) (fun b o hb e => eb b o hb e) f0 f1 f3 f4 f5⟩
 self := fun _ _ _ _ _ st h => wpAny_pyIter_listiter st h
theorem Cr {P : Program} {w : World} {K : PySem.W.Frag} {tg : Expr} (a it : Addr) : Turn P w K tg (Itt K a) [it] it (fun i h => h.IsTupleIter it a i) where
 mem := by simp
 obj := fun i h st b hb => by
  have e : b = it := by simpa using hb
  subst e
  obtain ⟨o, e, c, d⟩ := st
  exact ⟨o, e, fun v z => by rw [d] at z; cases z⟩
 keep := fun i h h' st k => st.at fun o e => k it (by simp) o e
 item := by
  intro X hP hw hK hc i pins s σ H E I hf st hg
  subst hP hw hK
  obtain ⟨xs, x, hq, hx⟩ := hg
  obtain ⟨its, rv, p, hz⟩ := I.tuple hq
  obtain ⟨u, hu, ru⟩ := rv.get hx
  obtain ⟨f0, f1, f2, f3, f4, f5⟩ := hf it (by simp)
  refine wpAny_pyNext_tuple_item st (show s.heap.IsTuple a its.toArray from p) (x := u) (by simpa using hu) fun h' st' sb => ?_
  have I1 : Inv X pins σ H { s with heap := h' } := I.turned (t' := s.toks) (fun b o hb e => (sb.2 b hb).trans e) f0 f1 f3 f4 f5
  obtain ⟨o, e, c, d⟩ := id st'
  exact ⟨u, rfl, yo (s := { s with heap := h' }) e c d (by decide) ⟨x, H, I1, ru, ⟨rfl, fun ys hy => by rw [I.tuple_inj hy hq]; exact hx⟩, st', fun b hb => (hf b hb).1⟩⟩
 done := by
  intro X hP hw hK hc i pins s σ H E I hf st hg
  subst hP hw hK
  obtain ⟨xs, hq, hx⟩ := hg
  obtain ⟨its, rv, p, hz⟩ := I.tuple hq
  obtain ⟨f0, f1, f2, f3, f4, f5⟩ := hf it (by simp)
  have hl := rv.length
  exact wpAny_pyNext_tuple_end (I.ok.hd hc) st (show s.heap.IsTuple a its.toArray from p) (by simp; omega) fun h' eb => ⟨rfl, I.turned (t' := s.toks) (fun b o hb e => eb b o hb e) f0 f1 f3 f4 f5⟩
 self := fun _ _ _ _ _ st h => wpAny_pyIter_tupleiter st h
theorem Cu {P : Program} {w : World} {K : PySem.W.Frag} {tg : Expr} (it : Addr) (lo : Int) (n : Nat) : Turn P w K tg (Itr lo n) [it] it (fun i h => IsRangeIter h it (lo + (i : Nat) * 1) ((n : Int) - (i : Nat)) 1) where
 mem := by simp
 obj := fun i h st b hb => by
  have e : b = it := by simpa using hb
  subst e
  exact ⟨_, st, fun v z => by
   have z' : Data.fields _ = Data.cell v := z
   cases z'⟩
 keep := fun i h h' st k => k it (by simp) _ st
 item := by
  intro X hP hw hK hc i pins s σ H E I hf st hg
  subst hP hw hK
  obtain ⟨f0, f1, f2, f3, f4, f5⟩ := hf it (by simp)
  have W := Walks.range (prog := X.prog) (w := X.w) (I.ok.hd hc) it lo 1 n
  refine W.item i s _ _ hg st fun v h' tk hv st' kk => ?_
  obtain ⟨t, rfl⟩ := hv
  have I1 : Inv X pins σ H { s with heap := h', toks := tk } := I.turned (fun b o hb e => kk b o (by simpa using hb) e) f0 f1 f3 f4 f5
  refine ⟨_, rfl, yo (s := { s with heap := h', toks := tk }) (n := "range_iterator") st' rfl rfl (by decide) ⟨.int (lo + i), H, I1, ⟨t, ?_⟩, ⟨rfl, rfl⟩, st', fun b hb => (hf b hb).1⟩⟩
  rw [Int.mul_one]
 done := by
  intro X hP hw hK hc i pins s σ H E I hf st hg
  subst hP hw hK
  obtain ⟨f0, f1, f2, f3, f4, f5⟩ := hf it (by simp)
  exact wpAny_pyNext_range_end (I.ok.hd hc) st (by have : n <= i := hg; omega) fun h' eb => ⟨rfl, I.turned (t' := s.toks) (fun b o hb e => eb b o hb e) f0 f1 f3 f4 f5⟩
 self := fun _ _ _ _ _ st h => wpAny_pyIter_rangeiter st h
end L2
namespace L2
open PySem PySem.Spec PyProof.Rows
section
variable {X : Cx} {tg : Expr}
def Qm (K : PySem.W.Frag) (tl : TE) : TI := fun σ H R => tl σ H fun x H1 => ∃ a, x = .ref a /\ (∃ xs, SqL K H1 a xs) /\ R (Itl K a) H1
def RJ (K : PySem.W.Frag) (tl : TE) : TI := fun σ H R => tl σ H fun x H1 => ∃ a, x = .ref a /\ (∃ xs, SqT K H1 a xs) /\ R (Itt K a) H1
theorem JQ {l : Expr} {tl : TE} (hl : PE X l tl) : PI X tg l (Qm X.K tl) := by
 intro pins s σ H R I h
 refine thn (hl pins s σ H _ I h) fun v s1 ⟨x, H1, I1, r1, q1⟩ => ?_
 obtain ⟨a, e, ⟨xs, hq⟩, q⟩ := q1
 subst e
 cases r1
 obtain ⟨its, rv, p, hz⟩ := I1.list hq
 refine wpAny_pyIter_list p.isList ?_
 refine ⟨s1.heap.objs.size, [s1.heap.objs.size], _, _, H1, rfl, I1.kept (t' := s1.toks) fun b o e => Heap.get?_push_of_some _ e, Ei a _, ⟨_, Heap.get?_push_size _ rfl, rfl, rfl⟩, fun b hb => ?_, q⟩
 have e : b = s1.heap.objs.size := by simpa using hb
 subst e
 exact I1.fpOk (Nat.le_refl _) (I1.hok.fresh (Nat.le_refl _))
theorem Mx {l : Expr} {tl : TE} (hl : PE X l tl) : PI X tg l (RJ X.K tl) := by
 intro pins s σ H R I h
 refine thn (hl pins s σ H _ I h) fun v s1 ⟨x, H1, I1, r1, q1⟩ => ?_
 obtain ⟨a, e, ⟨xs, hq⟩, q⟩ := q1
 subst e
 cases r1
 obtain ⟨its, rv, p, hz⟩ := I1.tuple hq
 refine wpAny_pyIter_tuple (show s1.heap.IsTuple a its.toArray from p) ?_
 refine ⟨s1.heap.objs.size, [s1.heap.objs.size], _, _, H1, rfl, I1.kept (t' := s1.toks) fun b o e => Heap.get?_push_of_some _ e, Cr a _, ⟨_, Heap.get?_push_size _ rfl, rfl, rfl⟩, fun b hb => ?_, q⟩
 have e : b = s1.heap.objs.size := by simpa using hb
 subst e
 exact I1.fpOk (Nat.le_refl _) (I1.hok.fresh (Nat.le_refl _))
theorem G5 {pins : List (Addr × Obj)} {σ : St} {H : Hp} {s : Shared} {R : It -> Hp -> Prop} {E : Value -> Shared -> Prop} {lo hi : Int} {t u v : Tok} {tk : Nat} (I : Inv X pins σ H s) (h1 : -(2 ^ 62) <= lo) (h2 : lo < 2 ^ 62) (h3 : -(2 ^ 62) <= hi) (h4 : hi < 2 ^ 62)
  (q : R (Itr lo (hi - lo).toNat) H) : wpAny (model X.prog X.w) X.A (pyIter (.ref s.heap.objs.size)) (PIE X pins σ tg R) E { s with heap := s.heap.push { cls := .type "range", data := .fields #[.int lo t, .int hi u, .int 1 v] }, toks := tk } := by
 refine wpAny_pyIter_range (IsRange.new ..) (small_one h1 h2 h3 h4) ?_
 have I1 : Inv X pins σ H { s with heap := s.heap.push { cls := .type "range", data := .fields #[.int lo t, .int hi u, .int 1 v] }, toks := tk } := I.kept fun b o e => Heap.get?_push_of_some _ e
 refine ⟨(s.heap.push { cls := .type "range", data := .fields #[.int lo t, .int hi u, .int 1 v] }).objs.size, [(s.heap.push { cls := .type "range", data := .fields #[.int lo t, .int hi u, .int 1 v] }).objs.size], _, _, H, rfl,
  I1.kept (t' := tk) fun b o e => Heap.get?_push_of_some _ e, Cu _ lo (hi - lo).toNat, ?_, fun b hb => ?_, q⟩
 ·have e1 : lo + ((0 : Nat) : Int) * 1 = lo := by simp
  have e2 : (((hi - lo).toNat : Nat) : Int) - ((0 : Nat) : Int) = Builtin.Range.rangeSize lo hi 1 := by rw [rangeSize_one]; split <;> omega
  show IsRangeIter _ _ (lo + ((0 : Nat) : Int) * 1) ((((hi - lo).toNat : Nat) : Int) - ((0 : Nat) : Int)) 1
  rw [e1, e2]
  exact Heap.get?_push_size _ rfl
 ·have e : b = (s.heap.push { cls := .type "range", data := .fields #[.int lo t, .int hi u, .int 1 v] }).objs.size := by simpa using hb
  subst e
  exact I1.fpOk (Nat.le_refl _) (I1.hok.fresh (Nat.le_refl _))
def Qn (ta : TA) : TI := fun σ H R => ta σ H fun vs H1 => ∃ j : Int, vs = [.int j] /\ -(2 ^ 62) <= j /\ j < 2 ^ 62 /\ R (Itr 0 j.toNat) H1
theorem Ej {a : Expr} {ta : TA} {p pos : Pos} (hg : Gl X "range") (hm : X.mg "range" = none) (ha : PA X [a] ta) (hs : starEach [a] X.env = [(false, eval a X.env)] := by rfl) : PI X tg (.Call (.Name "range" p) [a] [] pos) (Qn ta) := by
 intro pins s σ H R I h
 refine Call_ (oX I hg hm boot_range (PyProof.Rows.callWith_type1 (thn (ha pos pins s σ H _ I h) fun us s1 ⟨vs, H1, I1, r1, q1⟩ => ?_) hs rfl))
 obtain ⟨j, e, q1, q2, q⟩ := q1
 subst e
 cases r1 with
 | cons r rr =>
  cases rr
  obtain ⟨t, rfl⟩ := r
  exact call_range_1 (G5 I1 (by omega) (by omega) q1 q2 (by simpa using q))
def RK (wi : TI) (g : TG) (tb : TS) : TS := fun D σ H => wi σ H fun J H1 => ∃ W : Nat -> Nat -> St -> Hp -> Prop, (∃ m, W 0 m σ H1) /\ ∀ i m σ H, W i m σ H ->
 (J.stop i H /\ D.nx σ H) \/ (J.go i H /\ ∃ N : St -> Hp -> Prop, (∀ σ' H', N σ' H' -> ∃ m', m' < m /\ W (i + 1) m' σ' H') /\ ∀ x H', J.yld i H x H' -> g x σ H' fun σ2 H2 => tb { D with nx := N, ct := N, bk := D.nx } σ2 H2)
def oZ (fp : List Addr) (h : Heap) : List (Addr × Obj) := fp.filterMap fun b => (h.get? b).map fun o => (b, o)
theorem iQ {fp : List Addr} {h : Heap} {b : Addr} {o : Obj} (hb : b ∈ fp) (e : h.get? b = some o) : (b, o) ∈ oZ fp h := List.mem_filterMap.mpr ⟨b, hb, by rw [e]; rfl⟩
theorem Ek {fp : List Addr} {h : Heap} {p : Addr × Obj} (hp : p ∈ oZ fp h) : p.1 ∈ fp /\ h.get? p.1 = some p.2 := by
 obtain ⟨b, hb, e⟩ := List.mem_filterMap.mp hp
 cases q : h.get? b with
 | none => rw [q] at e; cases e
 | some o =>
  rw [q] at e
  have e' : (b, o) = p := Option.some.inj e
  subst e'
  exact ⟨hb, q⟩
theorem Inv.pinned {pins : List (Addr × Obj)} {σ : St} {H : Hp} {s : Shared} {fp : List Addr} (I : Inv X pins σ H s) (hf : ∀ b ∈ fp, ju X pins H b) (ho : ∀ b ∈ fp, ∃ o, s.heap.get? b = some o /\ ∀ v, o.data ≠ .cell v) : Inv X (pins ++ oZ fp s.heap) σ H s :=
 I.pins_of fun p hp => (List.mem_append.mp hp).elim (fun z => I.pin p (List.mem_append_right _ z)) fun z => by
  obtain ⟨hb, e⟩ := Ek z
  obtain ⟨f0, f1, f2, _⟩ := hf p.1 hb
  obtain ⟨o, e', d⟩ := ho p.1 hb
  rw [e] at e'; cases e'
  exact ⟨e, f0, f1, f2, d⟩
theorem Inv.unpinned {pins pl : List (Addr × Obj)} {σ : St} {H : Hp} {s : Shared} (I : Inv X (pins ++ pl) σ H s) : Inv X pins σ H s := I.pins_of fun p hp => I.pin p (List.mem_append_right _ (List.mem_append_left _ hp))
theorem Mz {iter : Expr} {body : List Stmt} {wi : TI} {g : TG} {tb : TS} {pos : Pos} (hp : PassesOwn (model X.prog X.w) X.A X.env X.xe) (hc : X.calm = true) (hi : PI X tg iter wi) (hg : PG X tg g) (hb : PSs X body tb)
  (hs : ∀ x, foldedSetIterable iter X.env x = pure x := by intro _; rfl) : PS X (.For tg iter body [] pos) (RK wi g tb) := by
 intro pins s σ H D I h
 refine wpAny_For (thn (hi pins s σ H _ I h) fun v s1 h1 => thn h1 fun itv s2 h2 => ?_) hs
 obtain ⟨it, fp, tn, J, H2, e, I2, T, st2, f2, W, ⟨m0, w0⟩, turn⟩ := h2
 subst e
 have stat : ∀ {H' : Hp}, (∀ b ∈ fp, H' b = none) -> ∀ b ∈ fp, ju X pins H' b := fun hn b hb => ⟨hn b hb, (f2 b hb).2⟩
 refine codeAny_forLoop_any (fun n s' => ∃ i σ' H', Inv X pins σ' H' s' /\ tn i s'.heap /\ (∀ b ∈ fp, H' b = none) /\ W i n σ' H') ?_ m0 ⟨0, σ, H2, I2, st2, fun b hb => (f2 b hb).1, w0⟩
 rintro n s3 ⟨i, σ3, H3, I3, st3, fr3, w3⟩
 rcases turn i n σ3 H3 w3 with ⟨stop, qn⟩ | ⟨go, N, hN, step⟩
 ·refine wpAny_passesOwn hp (thn (T.done X rfl rfl rfl hc i pins s3 σ3 H3 X.xe I3 (stat fr3) st3 stop) fun r s4 ⟨hr, I4⟩ => ?_)
  subst hr
  exact wpAny_execs_nil ⟨σ3, H3, I4, qn⟩
 ·refine wpAny_passesOwn hp (thn (T.item X rfl rfl rfl hc i pins s3 σ3 H3 X.xe I3 (stat fr3) st3 go) fun r s4 ⟨u, hr, h4⟩ => ?_)
  subst hr
  refine wpAny_passesOwn hp (thn h4 fun _ s5 ⟨x, H5, I5, r5, y5, st5, fr5⟩ => ?_)
  have I5' := I5.pinned (stat fr5) (T.obj _ _ st5)
  refine wpAny_passesOwn hp (thn (hg _ s5 σ3 H5 x u _ I5' r5 (step x H5 y5)) fun _ s6 ⟨σ6, H6, I6, q6⟩ => ?_)
  refine wpAny_passesOwn hp (thn (hb _ s6 σ6 H6 _ I6 q6) fun f s7 q7 => ?_)
  have again : ∀ {σ7 : St} {H7 : Hp}, Inv X (pins ++ oZ fp s5.heap) σ7 H7 s7 -> N σ7 H7 -> ∃ m, m < n /\ ∃ i σ' H', Inv X pins σ' H' s7 /\ tn i s7.heap /\ (∀ b ∈ fp, H' b = none) /\ W i m σ' H' := fun {σ7 H7} I7 n7 => by
   obtain ⟨m', hm, w7⟩ := hN σ7 H7 n7
   refine ⟨m', hm, i + 1, σ7, H7, I7.unpinned, T.keep _ _ _ st5 fun b hb o e => (I7.pin (b, o) (List.mem_append_right _ (List.mem_append_right _ (iQ hb e)))).1, fun b hb => ?_, w7⟩
   obtain ⟨o, e, d⟩ := T.obj _ _ st5 b hb
   exact (I7.pin (b, o) (List.mem_append_right _ (List.mem_append_right _ (iQ hb e)))).2.1
  cases f with
  | next => obtain ⟨σ7, H7, I7, n7⟩ := q7; exact again I7 n7
  | cont => obtain ⟨σ7, H7, I7, n7⟩ := q7; exact again I7 n7
  | brk => obtain ⟨σ7, H7, I7, q7⟩ := q7; exact ⟨σ7, H7, I7.unpinned, q7⟩
  | ret v => obtain ⟨x7, σ7, H7, I7, r7, q7⟩ := q7; exact ⟨x7, σ7, H7, I7.unpinned, r7, q7⟩
end
end L2
namespace L2
open PySem PySem.Spec PyProof.Rows
abbrev R2 := V -> V -> Hp -> VK -> Prop
def OpR (X : Cx) (f : Value -> Value -> Sem Value) (r : R2) : Prop :=
 ∀ (pins : List (Addr × Obj)) (s : Shared) (σ : St) (H : Hp) (x y : V) (v u : Value) (Q : VK), Inv X pins σ H s -> RelV x v -> RelV y u -> r x y H Q ->
  wpAny (model X.prog X.w) X.A (f v u) (EP X pins σ Q) X.xe s
def UnR (X : Cx) (f : Value -> Sem Value) (r : V -> Hp -> VK -> Prop) : Prop :=
 ∀ (pins : List (Addr × Obj)) (s : Shared) (σ : St) (H : Hp) (x : V) (v : Value) (Q : VK), Inv X pins σ H s -> RelV x v -> r x H Q ->
  wpAny (model X.prog X.w) X.A (f v) (EP X pins σ Q) X.xe s
def CallR (X : Cx) (f : Value) (r : List V -> Hp -> VK -> Prop) : Prop :=
 ∀ (pins : List (Addr × Obj)) (s : Shared) (σ : St) (H : Hp) (xs : List V) (us : List Value) (Q : VK), Inv X pins σ H s -> Vals xs us -> r xs H Q ->
  wpAny (model X.prog X.w) X.A (call f us) (EP X pins σ Q) X.xe s
def tOp (r : R2) (ta tb : TE) : TE := fun σ H Q => ta σ H fun x H1 => tb σ H1 fun y H2 => r x y H2 Q
def tUn (r : V -> Hp -> VK -> Prop) (ta : TE) : TE := fun σ H Q => ta σ H fun x H1 => r x H1 Q
def rI (C : Int -> Int -> Prop) (g : Int -> Int -> V) : R2 := fun x y H Q => ∃ i j, x = .int i /\ y = .int j /\ C i j /\ Q (g i j) H
def rI0 (g : Int -> Int -> V) : R2 := fun x y H Q => ∃ i j, x = .int i /\ y = .int j /\ Q (g i j) H
def rU (g : Int -> V) : V -> Hp -> VK -> Prop := fun x H Q => ∃ i, x = .int i /\ Q (g i) H
section
variable {X : Cx} {a b c : Expr} {ta tb tc : TE} {pos : Pos}
theorem G6 (ha : PE X a ta) (hb : PE X b tb) {pins : List (Addr × Obj)} {s : Shared} {σ : St} {H : Hp} {R : V -> V -> Hp -> Prop} (I : Inv X pins σ H s)
  (h : ta σ H fun x H1 => tb σ H1 fun y H2 => R x y H2) {Q : Value -> Shared -> Prop} {f : Value -> Value -> Sem Value}
  (hf : ∀ v u s2 x y H2, Inv X pins σ H2 s2 -> RelV x v -> RelV y u -> R x y H2 -> wpAny (model X.prog X.w) X.A (f v u) Q X.xe s2) :
  wpAny (model X.prog X.w) X.A (eval a X.env) (fun v s₁ => wpAny (model X.prog X.w) X.A (eval b X.env) (fun u s₂ => wpAny (model X.prog X.w) X.A (f v u) Q X.xe s₂) X.xe s₁) X.xe s := by
 refine thn (ha pins s σ H _ I h) fun v s1 ⟨x, H1, I1, r1, q1⟩ => ?_
 refine thn (hb pins s1 σ H1 _ I1 q1) fun u s2 ⟨y, H2, I2, r2, q2⟩ => ?_
 exact hf v u s2 x y H2 I2 r1 r2 q2
theorem Qo {op : Operator} {r : R2} (ho : OpR X (binaryOp op) r) (ha : PE X a ta) (hb : PE X b tb) : PE X (.BinOp a op b pos) (tOp r ta tb) := by
 intro pins s σ H Q I h
 exact wpAny_BinOp (G6 ha hb I h fun v u s2 x y H2 I2 rx ry q => ho pins s2 σ H2 x y v u Q I2 rx ry q)
theorem Qp {op : UnaryOp} {r : V -> Hp -> VK -> Prop} (ho : UnR X (unaryOp op) r) (ha : PE X a ta) : PE X (.UnaryOp op a pos) (tUn r ta) := by
 intro pins s σ H Q I h
 exact UnaryOp_ (thn (ha pins s σ H _ I h) fun v s1 ⟨x, H1, I1, r1, q1⟩ => ho pins s1 σ H1 x v Q I1 r1 q1)
theorem opI {f : Value -> Value -> Sem Value} {C : Int -> Int -> Prop} {g : Int -> Int -> Int}
  (rule : ∀ (i j : Int) (t u : Tok) (s : Shared) (Q : Value -> Shared -> Prop) (E : Value -> Shared -> Prop), C i j -> Q (.int (g i j) s.toks) { s with toks := s.toks + 1 } -> wpAny (model X.prog X.w) X.A (f (.int i t) (.int j u)) Q E s) :
  OpR X f (rI C fun i j => .int (g i j)) := by
 intro pins s σ H x y v u Q I rx ry h
 obtain ⟨i, j, rfl, rfl, hc, q⟩ := h
 obtain ⟨t, rfl⟩ := rx
 obtain ⟨t', rfl⟩ := ry
 exact rule i j t t' s _ _ hc ⟨.int (g i j), H, I.tok _, ⟨_, rfl⟩, q⟩
theorem MF {f : Value -> Value -> Sem Value} {g : Int -> Int -> Int}
  (rule : ∀ (i j : Int) (t u : Tok) (s : Shared) (Q : Value -> Shared -> Prop) (E : Value -> Shared -> Prop), Q (.int (g i j) s.toks) { s with toks := s.toks + 1 } -> wpAny (model X.prog X.w) X.A (f (.int i t) (.int j u)) Q E s) :
  OpR X f (rI0 fun i j => .int (g i j)) := by
 intro pins s σ H x y v u Q I rx ry h
 obtain ⟨i, j, rfl, rfl, q⟩ := h
 obtain ⟨t, rfl⟩ := rx
 obtain ⟨t', rfl⟩ := ry
 exact rule i j t t' s _ _ ⟨.int (g i j), H, I.tok _, ⟨_, rfl⟩, q⟩
theorem G7 {f : Value -> Value -> Sem Value} {g : Int -> Int -> Bool}
  (rule : ∀ (i j : Int) (t u : Tok) (s : Shared) (Q : Value -> Shared -> Prop) (E : Value -> Shared -> Prop), Q (.bool (g i j)) s -> wpAny (model X.prog X.w) X.A (f (.int i t) (.int j u)) Q E s) :
  OpR X f (rI0 fun i j => .bl (g i j)) := by
 intro pins s σ H x y v u Q I rx ry h
 obtain ⟨i, j, rfl, rfl, q⟩ := h
 obtain ⟨t, rfl⟩ := rx
 obtain ⟨t', rfl⟩ := ry
 exact rule i j t t' s _ _ ⟨.bl (g i j), H, I, rfl, q⟩
def MJ (i j : Int) : Prop := 0 < j /\ j < 1073741824
def CMul (i j : Int) : Prop := (-(2 ^ 64) < i /\ i < 2 ^ 64) \/ (-(2 ^ 64) < j /\ j < 2 ^ 64)
theorem CMul.ok {i j : Int} (h : CMul i j) : IntMulOk i j := by
 rcases h with ⟨h1, h2⟩ | ⟨h1, h2⟩
 ·exact .of_left (intBits_le_64 h1 h2)
 ·exact .of_right (intBits_le_64 h1 h2)
theorem MK : OpR X (binaryOp .Add) (rI0 fun i j => .int (i + j)) := MF fun _ _ _ _ _ _ _ q => add_int q
theorem MN : OpR X (binaryOp .Sub) (rI0 fun i j => .int (i - j)) := MF fun _ _ _ _ _ _ _ q => sub_int q
theorem El : OpR X (binaryOp .Mult) (rI CMul fun i j => .int (i * j)) := opI fun _ _ _ _ _ _ _ hc q => mul_int q hc.ok
theorem JR : OpR X (binaryOp .FloorDiv) (rI MJ fun i j => .int (i / j)) := opI fun i j _ _ _ _ _ hc q => by
 have h1 : (0 : Int) < j := hc.1
 have h2 : j < 1073741824 := hc.2
 exact floordiv_int (by omega) (by rw [Int.fdiv_eq_ediv_of_nonneg i (by omega)]; exact q) (.inl (PyProof.noPylong_small (by omega)))
theorem MP : OpR X (binaryOp .Mod) (rI (fun _ j => 0 < j) fun i j => .int (i % j)) := opI fun i j _ _ _ _ _ hc q => by
 have h1 : (0 : Int) < j := hc
 exact mod_int' (by omega) (by rw [Int.fmod_eq_emod_of_nonneg i (by omega)]; exact q)
theorem unI {f : Value -> Sem Value} {g : Int -> Int}
  (rule : ∀ (i : Int) (t : Tok) (s : Shared) (Q : Value -> Shared -> Prop) (E : Value -> Shared -> Prop), Q (.int (g i) s.toks) { s with toks := s.toks + 1 } -> wpAny (model X.prog X.w) X.A (f (.int i t)) Q E s) :
  UnR X f (rU fun i => .int (g i)) := by
 intro pins s σ H x v Q I rx h
 obtain ⟨i, rfl, q⟩ := h
 obtain ⟨t, rfl⟩ := rx
 exact rule i t s _ _ ⟨.int (g i), H, I.tok _, ⟨_, rfl⟩, q⟩
theorem MT : UnR X (unaryOp .USub) (rU fun i => .int (-i)) := unI fun _ _ _ _ _ q => neg_int q
end
def G8 : V -> V -> Bool
 | .non, .non => true | .non, .int _ => true | .int _, .non => true | .non, .bl _ => true | .bl _, .non => true | .non, .str _ => true | .str _, .non => true
 | .int _, .int _ => true | .bl _, .bl _ => true | .str _, .str _ => true | .byt _, .byt _ => true
 | .int _, .str _ => true | .str _, .int _ => true | .bl _, .str _ => true | .str _, .bl _ => true
 | _, _ => false
def rEq : R2 := fun x y H Q => G8 x y = true /\ Q (.bl (decide (x = y))) H
def rNe : R2 := fun x y H Q => G8 x y = true /\ Q (.bl (!decide (x = y))) H
theorem Bh {i j : Int} : decide (V.int i = V.int j) = (i == j) := by
 rw [Bool.eq_iff_iff]
 simp
theorem Em {i j : Bool} : decide (V.bl i = V.bl j) = (i == j) := by
 rw [Bool.eq_iff_iff]
 simp
theorem Bj {i j : Str} : decide (V.str i = V.str j) = (i == j) := by
 rw [Bool.eq_iff_iff]
 simp
theorem Bk {i j : Array UInt8} : decide (V.byt i = V.byt j) = (i.toList == j.toList) := by
 rw [Bool.eq_iff_iff]
 cases i
 cases j
 simp
section
variable {X : Cx} {a b c : Expr} {ta tb tc : TE} {pos : Pos}
theorem bG {pins : List (Addr × Obj)} {σ : St} {H : Hp} {s : Shared} {Q : VK} {k k' : Bool} (I : Inv X pins σ H s) (q : Q (.bl k) H) (e : k = k') : EP X pins σ Q (.bool k') s := by
 subst e
 exact ⟨.bl k, H, I, rfl, q⟩
theorem Qq : OpR X (compareOp .Eq) rEq := by
 intro pins s σ H x y v u Q I rx ry h
 obtain ⟨hs, q⟩ := h
 cases x with
 | non =>
  cases rx
  cases y with
  | non => cases ry; exact PySem.EqNone.eq_none_none (bG I q (by simp))
  | bl j => cases ry; exact PySem.EqNone.eq_none_bool (bG I q (by simp))
  | int j => obtain ⟨t', rfl⟩ := ry; exact PySem.EqNone.eq_none_int (bG I q (by simp))
  | str j => obtain ⟨t', rfl⟩ := ry; exact PySem.EqNone.eq_none_str (bG I q (by simp))
  | _ => exact absurd (show false = true from hs) Bool.false_ne_true
 | bl i =>
  cases rx
  cases y with
  | non => cases ry; exact PySem.EqNone.eq_bool_none (bG I q (by simp))
  | bl j => cases ry; exact eq_bool (bG I q Em)
  | str j => obtain ⟨t', rfl⟩ := ry; exact PySem.EqMixed.eq_bool_str (bG I q (by simp))
  | _ => exact absurd (show false = true from hs) Bool.false_ne_true
 | int i =>
  obtain ⟨t, rfl⟩ := rx
  cases y with
  | non => cases ry; exact PySem.EqNone.eq_int_none (bG I q (by simp))
  | int j => obtain ⟨t', rfl⟩ := ry; exact eq_int (bG I q Bh)
  | str j => obtain ⟨t', rfl⟩ := ry; exact PySem.EqMixed.eq_int_str (bG I q (by simp))
  | _ => exact absurd (show false = true from hs) Bool.false_ne_true
 | str i =>
  obtain ⟨t, rfl⟩ := rx
  cases y with
  | non => cases ry; exact PySem.EqNone.eq_str_none (bG I q (by simp))
  | bl j => cases ry; exact PySem.EqMixed.eq_str_bool (bG I q (by simp))
  | int j => obtain ⟨t', rfl⟩ := ry; exact PySem.EqMixed.eq_str_int (bG I q (by simp))
  | str j => obtain ⟨t', rfl⟩ := ry; exact eq_str (bG I q Bj)
  | _ => exact absurd (show false = true from hs) Bool.false_ne_true
 | byt i =>
  obtain ⟨t, rfl⟩ := rx
  cases y with
  | byt j => obtain ⟨t', rfl⟩ := ry; exact PySem.W.eq_bytes (bG I q Bk)
  | _ => exact absurd (show false = true from hs) Bool.false_ne_true
 | _ => cases y <;> exact absurd (show false = true from hs) Bool.false_ne_true
theorem Qs : OpR X (compareOp .NotEq) rNe := by
 intro pins s σ H x y v u Q I rx ry h
 obtain ⟨hs, q⟩ := h
 cases x with
 | non =>
  cases rx
  cases y with
  | non => cases ry; exact PySem.EqNone.ne_none_none (bG I q (by simp))
  | bl j => cases ry; exact PySem.EqNone.ne_none_bool (bG I q (by simp))
  | int j => obtain ⟨t', rfl⟩ := ry; exact PySem.EqNone.ne_none_int (bG I q (by simp))
  | str j => obtain ⟨t', rfl⟩ := ry; exact PySem.EqNone.ne_none_str (bG I q (by simp))
  | _ => exact absurd (show false = true from hs) Bool.false_ne_true
 | bl i =>
  cases rx
  cases y with
  | non => cases ry; exact PySem.EqNone.ne_bool_none (bG I q (by simp))
  | bl j => cases ry; exact ne_bool (bG I q (congrArg not Em))
  | str j => obtain ⟨t', rfl⟩ := ry; exact PySem.EqMixed.ne_bool_str (bG I q (by simp))
  | _ => exact absurd (show false = true from hs) Bool.false_ne_true
 | int i =>
  obtain ⟨t, rfl⟩ := rx
  cases y with
  | non => cases ry; exact PySem.EqNone.ne_int_none (bG I q (by simp))
  | int j => obtain ⟨t', rfl⟩ := ry; exact ne_int (bG I q (congrArg not Bh))
  | str j => obtain ⟨t', rfl⟩ := ry; exact PySem.EqMixed.ne_int_str (bG I q (by simp))
  | _ => exact absurd (show false = true from hs) Bool.false_ne_true
 | str i =>
  obtain ⟨t, rfl⟩ := rx
  cases y with
  | non => cases ry; exact PySem.EqNone.ne_str_none (bG I q (by simp))
  | bl j => cases ry; exact PySem.EqMixed.ne_str_bool (bG I q (by simp))
  | int j => obtain ⟨t', rfl⟩ := ry; exact PySem.EqMixed.ne_str_int (bG I q (by simp))
  | str j => obtain ⟨t', rfl⟩ := ry; exact ne_str (bG I q (congrArg not Bj))
  | _ => exact absurd (show false = true from hs) Bool.false_ne_true
 | byt i =>
  obtain ⟨t, rfl⟩ := rx
  cases y with
  | byt j => obtain ⟨t', rfl⟩ := ry; exact PySem.W.ne_bytes (bG I q (congrArg not Bk))
  | _ => exact absurd (show false = true from hs) Bool.false_ne_true
 | _ => cases y <;> exact absurd (show false = true from hs) Bool.false_ne_true
theorem Qt : OpR X (compareOp .Lt) (rI0 fun i j => .bl (decide (i < j))) := G7 fun _ _ _ _ _ _ _ q => lt_int q
theorem Jq : OpR X (compareOp .LtE) (rI0 fun i j => .bl (decide (i <= j))) := G7 fun _ _ _ _ _ _ _ q => le_int q
theorem Qu : OpR X (compareOp .Gt) (rI0 fun i j => .bl (decide (j < i))) := G7 fun _ _ _ _ _ _ _ q => gt_int q
theorem En : OpR X (compareOp .In) (fun x y H Q => ∃ i j, x = .str i /\ y = .str j /\ Q (.bl (!(Builtin.Str.occurrences j i 0 j.length 1).isEmpty)) H) := by
 intro pins s σ H x y v u Q I rx ry h
 obtain ⟨i, j, rfl, rfl, q⟩ := h
 obtain ⟨t, rfl⟩ := rx
 obtain ⟨t', rfl⟩ := ry
 exact in_str (bG I q rfl)
theorem M3 : OpR X (compareOp .Is) (fun x y H Q => y = .non /\ Q (.bl (decide (x = .non))) H) := by
 intro pins s σ H x y v u Q I rx ry h
 obtain ⟨rfl, q⟩ := h
 cases ry
 refine is_none_gen (bG I q ?_)
 cases x <;> first
  | (cases rx; rfl)
  | (obtain ⟨t, rfl⟩ := rx; rfl)
theorem JS : OpR X (compareOp .IsNot) (fun x y H Q => y = .non /\ Q (.bl (!decide (x = .non))) H) := by
 intro pins s σ H x y v u Q I rx ry h
 obtain ⟨rfl, q⟩ := h
 cases ry
 refine isnot_none_gen (bG I q ?_)
 cases x <;> first
  | (cases rx; rfl)
  | (obtain ⟨t, rfl⟩ := rx; rfl)
theorem OpR.or {f : Value -> Value -> Sem Value} {r r' : R2} (h : OpR X f r) (h' : OpR X f r') : OpR X f (fun x y H Q => r x y H Q \/ r' x y H Q) := by
 intro pins s σ H x y v u Q I rx ry q
 rcases q with q | q
 ·exact h pins s σ H x y v u Q I rx ry q
 ·exact h' pins s σ H x y v u Q I rx ry q
theorem o4 (b : Expr) {op : CmpOp} (h : op ≠ .In := by decide) (h2 : op ≠ .NotIn := by decide) : behindInMarks op b = false := by
 have e1 : (op == CmpOp.In) = false := by cases op <;> first | rfl | exact absurd rfl h
 have e2 : (op == CmpOp.NotIn) = false := by cases op <;> first | rfl | exact absurd rfl h2
 cases b <;> simp [behindInMarks, e1, e2]
theorem JT {op : CmpOp} {r : R2} (ho : OpR X (compareOp op) r) (ha : PE X a ta) (hb : PE X b tb) (hm : behindInMarks op b = false) : PE X (.Compare a [op] [b] pos) (tOp r ta tb) := by
 intro pins s σ H Q I h
 exact wpAny_Compare1 (G6 ha hb I h fun v u s2 x y H2 I2 rx ry q => ho pins s2 σ H2 x y v u Q I2 rx ry q) hm
def Qv (t : TE) : TT := fun σ H Q => t σ H fun x H' => ∃ k, x = .bl k /\ Q k H'
theorem JV {op : CmpOp} {r : R2} (ho : OpR X (compareOp op) r) (ha : PE X a ta) (hb : PE X b tb) (hm : behindInMarks op b = false) : PT X (.Compare a [op] [b] pos) (Qv (tOp r ta tb)) := by
 intro pins s σ H Q I h
 refine wpAny_isTrue_Compare1 (thn (ha pins s σ H _ I h) fun v s1 ⟨x, H1, I1, r1, q1⟩ => thn (hb pins s1 σ H1 _ I1 q1) fun u s2 ⟨y, H2, I2, r2, q2⟩ =>
  thn (ho pins s2 σ H2 x y v u _ I2 r1 r2 q2) fun c s3 ⟨z, H3, I3, r3, k, e, q3⟩ => ?_) hm
 subst e
 cases r3
 exact wpAny_truthy_bool ⟨H3, I3, q3⟩
def M4 (r r' : R2) (ta tb tc : TE) : TE := fun σ H Q => ta σ H fun x H1 => tb σ H1 fun y H2 => r x y H2 fun z H3 => ∃ k, z = .bl k /\
 (if k = true then tc σ H3 fun w' H4 => r' y w' H4 Q else Q (.bl false) H3)
theorem G9 {op op' : CmpOp} {r r' : R2} (ho : OpR X (compareOp op) r) (ho' : OpR X (compareOp op') r') (ha : PE X a ta) (hb : PE X b tb) (hc : PE X c tc)
  (hm : lastMarks [op, op'] [b, c] = false := by with_unfolding_all rfl) : PE X (.Compare a [op, op'] [b, c] pos) (M4 r r' ta tb tc) := by
 intro pins s σ H Q I h
 refine Compare_chain (thn (ha pins s σ H _ I h) fun v s1 ⟨x, H1, I1, r1, q1⟩ => chain_link (thn (hb pins s1 σ H1 _ I1 q1) fun u s2 ⟨y, H2, I2, r2, q2⟩ =>
  thn (ho pins s2 σ H2 x y v u _ I2 r1 r2 q2) fun d s3 ⟨z, H3, I3, r3, k, e, q3⟩ => ?_)) hm
 subst e
 cases r3
 refine wpAny_truthy_bool ?_
 cases k with
 | false => exact ite_ff ⟨.bl false, H3, I3, rfl, q3⟩
 | true => exact ite_tt (chain_last (thn (hc pins s3 σ H3 _ I3 q3) fun w' s4 ⟨z', H4, I4, r4, q4⟩ => ho' pins s4 σ H4 y z' u w' Q I4 r2 r4 q4))
theorem o5 : (sizeLine : Nat) < 2 ^ 63 := by rw [sizeLine_eq]; decide
theorem Cv : OpR X (binaryOp .Add) (fun x y H Q => ∃ i j, x = .str i /\ y = .str j /\ i.length + j.length <= sizeLine /\ Q (.str (i ++ j)) H) := by
 intro pins s σ H x y v u Q I rx ry h
 obtain ⟨i, j, rfl, rfl, hz, q⟩ := h
 obtain ⟨t, rfl⟩ := rx
 obtain ⟨t', rfl⟩ := ry
 exact add_str (fun t' tk => ⟨.str (i ++ j), H, I.tok _, ⟨_, rfl⟩, q⟩) hz
theorem vals1 {x : V} {us : List Value} (r : Vals [x] us) : ∃ u, us = [u] /\ RelV x u := by
 cases r with
 | cons r1 r2 => cases r2; exact ⟨_, rfl, r1⟩
theorem vals2 {x y : V} {us : List Value} (r : Vals [x, y] us) : ∃ u w', us = [u, w'] /\ RelV x u /\ RelV y w' := by
 cases r with
 | cons r1 r2 =>
  cases r2 with
  | cons r3 r4 => cases r4; exact ⟨_, _, rfl, r1, r3⟩
end
end L2
namespace L2
open PySem PySem.Spec PyProof.Rows
structure ObjM (h : Heap) (x dx C : Addr) (mA : Str -> Option Value) : Prop where
 obj : h.get? x = some (PySem.W.instObj C dx)
 ns : h.Ns1 dx mA
 ne : dx ≠ x
theorem Eo {h : Heap} {dx : Addr} {mA : Str -> Option Value} (n : h.Ns1 dx mA) : ∃ od, h.get? dx = some od /\ ∀ name, PySem.W.lookIn name od = some (mA name) := by
 obtain ⟨o, es, ep, ho, hd, hk, _, hm⟩ := n
 refine ⟨o, ho, fun name => ?_⟩
 have e := hm name
 unfold nsFind findBy at e
 rw [← Array.find?_toList] at e
 unfold PySem.W.lookIn
 rw [hd]
 dsimp only
 split
 ·rename_i y q
  rw [q] at e
  exact congrArg some e
 ·rename_i q
  rw [q] at e
  have a : es.toList.any (·.refKey) = false := by
   rw [List.any_eq_false]
   intro y hy
   obtain ⟨z, t, hkey⟩ := hk y (Array.mem_toList_iff.mp hy)
   simp [DictEntry.refKey, hkey]
  have a' : ¬ es.toList.any (·.refKey) = true := by rw [a]; exact Bool.false_ne_true
  rw [if_neg a']
  exact congrArg some e
theorem ObjM.look {h : Heap} {x dx C : Addr} {mA : Str -> Option Value} (I : ObjM h x dx C mA) : ∃ od, PySem.W.InstAt h x (PySem.W.instObj C dx) C (some od) /\ ∀ name, PySem.W.lookIn name od = some (mA name) :=
 let ⟨od, ho, hl⟩ := Eo I.ns
 ⟨od, ⟨I.obj, rfl, rfl, ho⟩, hl⟩
section
variable {prog : Program} {w : World} {A : Around} {E : Value -> Shared -> Prop} {s : Shared} {K : PySem.W.Frag} {x dx C f : Addr} {mA : Str -> Option Value} {name : Str} {v : Value}
theorem JW {expr : Bool} {Q : Value -> Shared -> Prop} (X : K.In s.heap) (I : ObjM s.heap x dx C mA) (hg : PySem.W.plainGet K C name = true) (hh : PySem.W.hasDictIn K C = true)
  (ha : PySem.W.findIn K (.ref C) name = some none) (hv : mA name = some v) (hv' : PySem.W.handedIn v = true) (h : Q v { s with toks := s.toks + 1 }) :
  wpAny (model prog w) A (getAttr (.ref x) name expr) Q E s := by
 obtain ⟨od, J, hl⟩ := I.look
 exact PySem.W.get_value X J (PySem.W.plainGet_of hg).1 (PySem.W.findObj_own hh ha rfl (by rw [hl, hv])) hv' h
theorem G_ {pl : Sem Bool} {Q : Value × List Value -> Shared -> Prop} (X : K.In s.heap) (I : ObjM s.heap x dx C mA) (hg : PySem.W.plainGet K C name = true)
  (hf : PySem.W.findIn K (.ref C) name = some (some (.ref f))) (ht : PySem.W.isFn K (.ref f) = true) (hv : mA name = none) (h : Q (.ref f, [.ref x]) s) :
  wpAny (model prog w) A (getMethod (.ref x) name pl) Q E s := by
 obtain ⟨od, J, hl⟩ := I.look
 exact PySem.W.method_fn X J (PySem.W.plainGet_of hg).1 (PySem.W.plainGet_of hg).2 hf (beq_iff_eq.mp ht) (by show (PySem.W.lookIn name od).map (·.isSome) = some false; rw [hl, hv]; rfl) h
theorem JX {ns : List Str} {Q : Unit -> Shared -> Prop} (X : K.In s.heap) (I : ObjM s.heap x dx C mA)
  (hs : PySem.W.findIn K (.ref C) "__setattr__" = some (some (.builtin "object.__setattr__"))) (hp : PySem.W.plainOver K C = true) (ht : PySem.W.takerIn K C name = some none) (hh : PySem.W.hasDictIn K C = true)
  (hw : PySem.Within mA ns) (hsz : ns.length <= sizeLine)
  (h : ∀ h', ObjM h' x dx C (fun y => if y = name then some v else mA y) -> Heap.SameBut dx s.heap h' -> Q () { s with heap := h', toks := s.toks + 2 }) :
  wpAny (model prog w) A (setAttr (.ref x) name v) Q E s := by
 obtain ⟨od, J, hl⟩ := I.look
 refine PySem.W.set_plain X J hs (PySem.W.osa_open (s := { s with toks := s.toks + 1 }) (r := none) X J hp ht fun b => ?_)
 obtain ⟨cd, hc, hd'⟩ := PySem.W.any_some hh
 have hx : s.heap.get? x = some ⟨.ref C, some dx, .plain, #[]⟩ := I.obj
 refine wpAny_bind (wpAny_pure (wpAny_bind (wpAny_bind (wpAny_loadPart hx (wpAny_bind (PySem.W.Looks.here (s := { s with toks := s.toks + 1 }) (PySem.W.looks_clsIn X hc) ?_))))))
 rw [hd']
 refine wpAny_pure (a := some dx) (wpAny_bind (wpAny_pure (wpAny_bind ?_)))
 refine wpAny_nsSet1 (s := { s with toks := s.toks + 1 }) I.ns fun h' hn2 hs2 => ?_
 obtain ⟨oD, esD, epD, hoD, hdD, hcD⟩ := hn2.count (PySem.Within.cons name v hw)
 refine wpAny_bind (wpAny_lookBehind hoD (by rw [hdD]; exact pastItsLine_dict (Nat.le_trans hcD (by rw [List.length_cons]; omega))) ?_)
 exact wpAny_pure (h _ ⟨(hs2.2 _ (Ne.symm I.ne)).trans I.obj, hn2, I.ne⟩ hs2)
theorem Ha {R : Result -> Shared -> Prop} {vs : List Value} {kw : List (Str × Value)} (X : K.In s.heap) (hm : PySem.W.makesIn K C = true)
  (hi : PySem.W.findIn K (.ref C) "__init__" = some (some (.ref f))) (hf : PySem.W.typeIn K (.ref f) = some (.type "function"))
  (h : codeAny (model prog w) (A.under (.builtin "type.__call__" ⟨.ref C :: vs, kw⟩)) (.call (.ref f) ⟨.ref (s.heap.objs.size + 1) :: vs, kw⟩) (PySem.W.InitBack (s.heap.objs.size + 1) R)
   { s with heap := (s.heap.push PySem.W.emptyDict).push (PySem.W.instObj C s.heap.objs.size) }) :
  codeAny (model prog w) A (.call (.ref C) ⟨vs, kw⟩) R s := by
 obtain ⟨hh, g, d, t, os⟩ := s
 exact PySem.W.make_core (PySem.W.makes_of X hm) (PySem.W.looks_findIn X hi) (fun self => PySem.W.bind_fn X self hf) (.inl rfl) h
end
def gG (f : Str) (v : V) : List (Str × V) -> List (Str × V)
 | [] => [(f, v)]
 | (g, x) :: r => if g = f then (g, v) :: r else (g, x) :: gG f v r
theorem uh (f g : Str) (v : V) : ∀ fs : List (Str × V), (gG f v fs).lookup g = if g = f then some v else fs.lookup g
 | [] => by
  show List.lookup g [(f, v)] = _
  by_cases h : g = f
  ·have hb : (g == f) = true := beq_iff_eq.mpr h
   simp only [List.lookup, hb, if_pos h]
  ·have hb : (g == f) = false := beq_eq_false_iff_ne.mpr h
   simp only [List.lookup, hb, if_neg h]
 | (k, x) :: r => by
  have ih := uh f g v r
  rw [show gG f v ((k, x) :: r) = (if k = f then (k, v) :: r else (k, x) :: gG f v r) from rfl]
  by_cases hk : k = f
  ·rw [if_pos hk]
   by_cases h : g = k
   ·have hb : (g == k) = true := beq_iff_eq.mpr h
    simp only [List.lookup, hb, if_pos (h.trans hk)]
   ·have hb : (g == k) = false := beq_eq_false_iff_ne.mpr h
    simp only [List.lookup, hb, if_neg (fun e : g = f => h (e.trans hk.symm))]
  ·rw [if_neg hk]
   by_cases h : g = k
   ·have hb : (g == k) = true := beq_iff_eq.mpr h
    simp only [List.lookup, hb, if_neg (fun e : g = f => hk (h.symm.trans e))]
   ·have hb : (g == k) = false := beq_eq_false_iff_ne.mpr h
    simp only [List.lookup, hb]
    exact ih
theorem qY (f : Str) (v : V) : ∀ fs : List (Str × V), f ∈ (gG f v fs).map (·.1) /\ ∀ g, g ∈ fs.map (·.1) -> g ∈ (gG f v fs).map (·.1)
 | [] => ⟨by simp [gG], fun g h => by simp at h⟩
 | (k, x) :: r => by
  obtain ⟨i1, i2⟩ := qY f v r
  rw [show gG f v ((k, x) :: r) = (if k = f then (k, v) :: r else (k, x) :: gG f v r) from rfl]
  by_cases hk : k = f
  ·rw [if_pos hk]
   subst hk
   exact ⟨by simp, fun g h => by simpa using h⟩
  ·rw [if_neg hk]
   refine ⟨?_, fun g h => ?_⟩
   ·rw [List.map_cons]
    exact List.mem_cons_of_mem _ i1
   ·rw [List.map_cons] at h ⊢
    rcases List.mem_cons.mp h with e | e
    ·exact List.mem_cons.mpr (.inl e)
    ·exact List.mem_cons_of_mem _ (i2 g e)
theorem ul (f : Str) (v : V) : ∀ fs : List (Str × V), (gG f v fs).length <= fs.length + 1
 | [] => by simp [gG]
 | (k, x) :: r => by
  have ih := ul f v r
  rw [show gG f v ((k, x) :: r) = (if k = f then (k, v) :: r else (k, x) :: gG f v r) from rfl]
  by_cases hk : k = f
  ·rw [if_pos hk, List.length_cons, List.length_cons]; omega
  ·rw [if_neg hk, List.length_cons, List.length_cons]; omega
theorem RelO.some_of {v : V} {o : Option Value} (r : RelO (some v) o) : ∃ u, o = some u /\ RelV v u := by
 cases o with
 | none => exact (show False from r).elim
 | some u => exact ⟨u, rfl, r⟩
theorem RelO.none_of {o : Option Value} (r : RelO none o) : o = none := by
 cases o with
 | none => rfl
 | some u => exact (show False from r).elim
theorem Ep {v : V} {u : Value} (r : RelV v u) : PySem.W.handedIn u = true := by
 cases v with
 | non => cases (show u = Value.none from r); rfl
 | bl b => cases (show u = Value.bool b from r); rfl
 | int i => obtain ⟨t, e⟩ := (show ∃ t, u = Value.int i t from r); cases e; rfl
 | str x => obtain ⟨t, e⟩ := (show ∃ t, u = Value.str x t from r); cases e; rfl
 | byt b => obtain ⟨t, e⟩ := (show ∃ t, u = Value.bytes b t from r); cases e; rfl
 | flt b => obtain ⟨t, e⟩ := (show ∃ t, u = Value.float b t from r); cases e; rfl
 | ref a => cases (show u = Value.ref a from r); rfl
 | ty n => cases (show u = Value.type n from r); rfl
section
variable {P : Program} {w : World} {H H' : Hp} {h h' : Heap} {a C dx : Addr} {fs fs' : List (Str × V)}
theorem tD (hok : HOk P w H h) (e : H a = some (.ins C dx fs)) : ∃ mA, ObjM h a dx C mA /\ (∀ f, RelO (fs.lookup f) (mA f)) /\ PySem.Within mA (fs.map (·.1)) /\ fs.length <= 1000 /\ H dx = some (.own a) := by
 obtain ⟨d, z, ne, ob, mA, n, r, q⟩ := (show ObjOk P w H h a (.ins C dx fs) from hok a _ e)
 exact ⟨mA, ⟨ob, n, ne⟩, r, q, z, d⟩
end
structure Cls (K : PySem.W.Frag) (C : Addr) : Prop where
 pg : PySem.W.plainGet K C Str.empty = true
 hd : PySem.W.hasDictIn K C = true
 po : PySem.W.plainOver K C = true
 sa : PySem.W.findIn K (.ref C) "__setattr__" = some (some (.builtin "object.__setattr__"))
theorem Cls.get {K : PySem.W.Frag} {C : Addr} (c : Cls K C) (f : Str) : PySem.W.plainGet K C f = true := c.pg
def NoAttr (K : PySem.W.Frag) (C : Addr) (f : Str) : Prop := PySem.W.findIn K (.ref C) f = some none
theorem NoAttr.taker {K : PySem.W.Frag} {C : Addr} {f : Str} (n : NoAttr K C f) : PySem.W.takerIn K C f = some none := by
 unfold PySem.W.takerIn
 rw [show PySem.W.findIn K (.ref C) f = some none from n]
 rfl
structure Meth (K : PySem.W.Frag) (C : Addr) (m : Str) (f : Addr) : Prop where
 at_ : PySem.W.findIn K (.ref C) m = some (some (.ref f))
 fn : PySem.W.isFn K (.ref f) = true
 kp : PySem.W.keepIn K (.ref f) = true
section
variable {X : Cx} {pins : List (Addr × Obj)} {σ : St} {H : Hp} {s : Shared} {a C dx : Addr} {fs : List (Str × V)} {f : Str} {v : V} {A : Around} {E : Value -> Shared -> Prop}
theorem Cw {b : Bool} {Q : Value -> Shared -> Prop} (I : Inv X pins σ H s) (e : H a = some (.ins C dx fs)) (c : Cls X.K C) (n : NoAttr X.K C f) (l : fs.lookup f = some v)
  (h : ∀ u s', Inv X pins σ H s' -> RelV v u -> Q u s') : wpAny (model X.prog X.w) A (getAttr (.ref a) f b) Q E s := by
 obtain ⟨mA, O, r, _, _, _⟩ := tD I.hok e
 obtain ⟨u, hu, ru⟩ := RelO.some_of (v := v) (o := mA f) (by rw [← l]; exact r f)
 exact JW I.kIn O (c.get f) c.hd n hu (Ep ru) (h u _ (I.tok _) ru)
theorem Cy {m : Str} {g : Addr} {pl : Sem Bool} {Q : Value × List Value -> Shared -> Prop} (I : Inv X pins σ H s) (e : H a = some (.ins C dx fs)) (c : Cls X.K C) (k : Meth X.K C m g) (l : fs.lookup m = none)
  (h : Q (.ref g, [.ref a]) s) : wpAny (model X.prog X.w) A (getMethod (.ref a) m pl) Q E s := by
 obtain ⟨mA, O, r, _, _, _⟩ := tD I.hok e
 have hn : mA m = none := RelO.none_of (by rw [← l]; exact r m)
 exact G_ I.kIn O (c.get m) k.at_ k.fn hn h
theorem Cz {y : V} {u : Value} {Q : Unit -> Shared -> Prop} (I : Inv X pins σ H s) (e : H a = some (.ins C dx fs)) (c : Cls X.K C) (n : NoAttr X.K C f) (hl : fs.length < 1000) (ry : RelV y u)
  (h : ∀ s', Inv X pins σ (upd H a (.ins C dx (gG f y fs))) s' -> Q () s') : wpAny (model X.prog X.w) A (setAttr (.ref a) f u) Q E s := by
 obtain ⟨mA, O, r, wi, _, ho⟩ := tD I.hok e
 have hz : (fs.map (·.1)).length <= sizeLine := by rw [List.length_map, sizeLine_eq]; omega
 refine JX I.kIn O c.sa c.po n.taker c.hd wi hz fun h' O' sb => h _ ?_
 have hd : ∃ o, h'.get? dx = some o := let ⟨o, _, _, e', _⟩ := O'.ns; ⟨o, e'⟩
 refine I.write (x := a) (e := dx) (by rw [e]; exact True.intro) (.inr ho) (fun b q hb z => (sb.2 b hb).trans z) hd ?_
 refine ⟨by rw [aO O.ne]; exact ho, ?_, O.ne, O'.obj, _, O'.ns, fun g => ?_, fun g hg => ?_⟩
 ·have := ul f y fs; omega
 ·show RelO ((gG f y fs).lookup g) (if g = f then some u else mA g)
  rw [uh]
  by_cases q : g = f
  ·rw [if_pos q, if_pos q]; exact ry
  ·rw [if_neg q, if_neg q]; exact r g
 ·by_cases q : g = f
  ·rw [q]; exact (qY f y fs).1
  ·refine (qY f y fs).2 g (wi g fun z => hg ?_)
   show (if g = f then some u else mA g) = none
   rw [if_neg q]; exact z
theorem Inv.made (I : Inv X pins σ H s) : Inv X pins σ (upd (upd H s.heap.objs.size (.own (s.heap.objs.size + 1))) (s.heap.objs.size + 1) (.ins C s.heap.objs.size []))
  { s with heap := (s.heap.push PySem.W.emptyDict).push (PySem.W.instObj C s.heap.objs.size) } := by
 have e1 : (s.heap.push PySem.W.emptyDict).get? s.heap.objs.size = some PySem.W.emptyDict := Heap.get?_push_size s.heap rfl
 have e2 : ((s.heap.push PySem.W.emptyDict).push (PySem.W.instObj C s.heap.objs.size)).get? (s.heap.objs.size + 1) = some (PySem.W.instObj C s.heap.objs.size) := by
  have := Heap.get?_push_size (s.heap.push PySem.W.emptyDict) (o := PySem.W.instObj C s.heap.objs.size) rfl
  rwa [Heap.size_push] at this
 have e3 : (s.heap.push PySem.W.emptyDict).Ns s.heap.objs.size (fun _ => none) := ⟨PySem.W.emptyDict, #[], _, e1, rfl, (fun e he => absurd he (by simp)), fun _ => rfl⟩
 have I1 := I.laid (a := s.heap.objs.size) (o := .own (s.heap.objs.size + 1)) (h' := s.heap.push PySem.W.emptyDict) (t' := s.toks) (fun b u q => Heap.get?_push_of_some _ q) (Nat.le_refl _) ⟨_, e1⟩
 refine I1.laid (a := s.heap.objs.size + 1) (o := .ins C s.heap.objs.size []) (t' := s.toks) (fun b u q => Heap.get?_push_of_some _ q) (Nat.le_of_eq (Heap.size_push _ _)) ?_
 have ne : s.heap.objs.size ≠ s.heap.objs.size + 1 := Nat.ne_of_lt (Nat.lt_succ_self _)
 refine ⟨by rw [aO ne, bF], Nat.zero_le _, ne, e2, fun _ => none, (Heap.Ns1.of_empty e3).at fun o q => Heap.get?_push_of_some _ q, fun _ => True.intro, fun y hy => absurd rfl hy⟩
theorem JZ {prog : Program} {w : World} {env : Env} {e : Expr} {f : Str} {pos : Pos} {s : Shared} {Q : Value -> Shared -> Prop} (hb : attributeBase e f env (eval e env) = eval e env)
  (h : wpAny (model prog w) A (eval e env) (fun o s₁ => wpAny (model prog w) A (getAttr o f true) Q E s₁) E s) : wpAny (model prog w) A (eval (.Attribute e f pos) env) Q E s :=
 Attribute_any_ h (by rw [arm_eval_Attribute, hb])
end
def RL (K : PySem.W.Frag) (ta : TE) (f : Str) : TE := fun σ H Q => ta σ H fun x H1 => ∃ a C dx fs v, x = .ref a /\ H1 a = some (.ins C dx fs) /\ Cls K C /\ NoAttr K C f /\ fs.lookup f = some v /\ Q v H1
def RM (K : PySem.W.Frag) (ta tv : TE) (f : Str) : TS := fun D σ H => tv σ H fun y H1 => ta σ H1 fun x H2 => ∃ a C dx fs, x = .ref a /\ H2 a = some (.ins C dx fs) /\ Cls K C /\ NoAttr K C f /\ fs.length < 1000 /\
 D.nx σ (upd H2 a (.ins C dx (gG f y fs)))
section
variable {X : Cx} {o e value : Expr} {f : Str} {pos pos' tpos : Pos} {ta tv : TE}
theorem M5 (he : PE X e ta) (hb : attributeBase e f X.env (eval e X.env) = eval e X.env) : PE X (.Attribute e f pos) (RL X.K ta f) := by
 intro pins s σ H Q I h
 refine JZ hb (thn (he pins s σ H _ I h) fun u s1 ⟨x, H1, I1, rx, a, C, dx, fs, v, ex, ea, c, n, l, q⟩ => ?_)
 subst ex
 obtain rfl : u = Value.ref a := rx
 exact Cw I1 ea c n l fun u' s2 I2 ru => ⟨v, H1, I2, ru, q⟩
theorem M6 (ha : PE X o ta) (hv : PE X value tv) (hs : swapsWith value (some (.Attribute o f pos')) pos.line X.env = pure false) : PS X (.Assign [.Attribute o f pos'] value pos) (RM X.K ta tv f) := by
 intro pins s σ H D I h
 refine plainObj_wpAny_Assign_Attribute (thn (hv pins s σ H _ I h) fun u s1 ⟨y, H1, I1, ry, q⟩ => thn (ha pins s1 σ H1 _ I1 q) fun ov s2 ⟨x, H2, I2, rx, a, C, dx, fs, ex, ea, c, n, l, q2⟩ => ?_) hs
 subst ex
 obtain rfl : ov = Value.ref a := rx
 exact Cz I2 ea c n l ry fun s3 I3 => ⟨σ, _, I3, q2⟩
end
section
variable {X : Cx} {pins : List (Addr × Obj)} {σ : St} {H : Hp} {s : Shared} {A : Around} {E : Value -> Shared -> Prop} {Q : Value -> Shared -> Prop} {c : Value} {b : Bool}
inductive TyOf (K : PySem.W.Frag) (H : Hp) : V -> Value -> Prop where
 | non : TyOf K H .non (.type "NoneType")
 | bl (x : Bool) : TyOf K H (.bl x) (.type "bool")
 | int (i : Int) : TyOf K H (.int i) (.type "int")
 | str (x : Str) : TyOf K H (.str x) (.type "str")
 | flt (x : UInt64) : TyOf K H (.flt x) (.type "float")
 | lst {a : Addr} {xs : List V} (e : H a = some (.lst xs)) : TyOf K H (.ref a) (.type "list")
 | frz {a : Addr} {o : Obj} {xs : List V} (e : H a = some (.frz o (.lst xs))) : TyOf K H (.ref a) (.type "list")
 | tup {a : Addr} {xs : List V} (e : H a = some (.tup xs)) : TyOf K H (.ref a) (.type "tuple")
 | dK {a : Addr} {kvs : List (Key × V)} (e : H a = some (.dK kvs)) : TyOf K H (.ref a) (.type "dict")
 | dT {a : Addr} {kvs : List (List Key × V)} (e : H a = some (.dT kvs)) : TyOf K H (.ref a) (.type "dict")
 | ins {a C dx : Addr} {fs : List (Str × V)} (e : H a = some (.ins C dx fs)) (cl : Cls K C) (ha : PySem.W.findIn K (.ref C) "__class__" = some (some (.builtin "object.__class__")))
   (hn : PySem.W.specialIn K (.builtin "object.__class__") "__get__" = some (some (.builtin "getset_descriptor.__get__"))) (htk : PySem.W.takesIn K (.builtin "object.__class__") = some true)
   (hm : PySem.W.mroIn K C (.type "object") = some true) : TyOf K H (.ref a) (.ref C)
theorem Es {x : V} {u t : Value} (I : Inv X pins σ H s) (rx : RelV x u) (ty : TyOf X.K H x t) (e : PySem.W.kitOne X.K t c = some b) (h : ∀ tk, Q (.bool b) { s with toks := tk }) :
  wpAny (model X.prog X.w) A (call (.builtin "isinstance") [u, c]) Q E s := by
 cases ty with
 | non => cases (show u = Value.none from rx); exact PySem.W.kia_one PySem.W.kitx_none I.kIn True.intro e (fun z => nomatch z) h
 | bl y => cases (show u = Value.bool y from rx); exact PySem.W.kia_one PySem.W.kitx_bool I.kIn True.intro e (fun z => nomatch z) h
 | int i => obtain ⟨t, q⟩ := (show ∃ t, u = Value.int i t from rx); cases q; exact PySem.W.kia_one PySem.W.kitx_int I.kIn True.intro e (fun z => nomatch z) h
 | str y => obtain ⟨t, q⟩ := (show ∃ t, u = Value.str y t from rx); cases q; exact PySem.W.kia_one PySem.W.kitx_str I.kIn True.intro e (fun z => nomatch z) h
 | flt y => obtain ⟨t, q⟩ := (show ∃ t, u = Value.float y t from rx); cases q; exact PySem.W.kia_one PySem.W.kitx_float I.kIn True.intro e (fun z => nomatch z) h
 | @lst a xs ea =>
  cases (show u = Value.ref a from rx)
  obtain ⟨_, _, n, _, h1⟩ := (show ObjOk X.prog X.w H s.heap a (.lst xs) from I.hok a _ ea)
  exact PySem.W.kia_one PySem.W.kitx_list I.kIn ⟨_, h1, rfl⟩ e (fun z => nomatch z) h
 | @frz a ob xs ea =>
  cases (show u = Value.ref a from rx)
  obtain ⟨_, _, _, n, _, h1⟩ := (show ObjOk X.prog X.w H s.heap a (.frz ob (.lst xs)) from I.hok a _ ea)
  exact PySem.W.kia_one PySem.W.kitx_list I.kIn ⟨_, h1, rfl⟩ e (fun z => nomatch z) h
 | @tup a xs ea =>
  cases (show u = Value.ref a from rx)
  obtain ⟨_, _, _, p⟩ := (show ObjOk X.prog X.w H s.heap a (.tup xs) from I.hok a _ ea)
  obtain ⟨o, h1, h2, _⟩ := p
  exact PySem.W.kia_one PySem.W.kitx_tuple I.kIn ⟨o, h1, h2⟩ e (fun z => nomatch z) h
 | @dK a kvs ea =>
  cases (show u = Value.ref a from rx)
  obtain ⟨_, _, vs, _, p⟩ := (show ObjOk X.prog X.w H s.heap a (.dK kvs) from I.hok a _ ea)
  obtain ⟨o, es, ep, h1, h2, _⟩ := p
  exact PySem.W.kia_one PySem.W.kitx_dict I.kIn ⟨o, h1, h2.1⟩ e (fun z => nomatch z) h
 | @dT a kvs ea =>
  cases (show u = Value.ref a from rx)
  obtain ⟨_, _, xs, _, o, es, ep, h1, h2, _⟩ := (show ObjOk X.prog X.w H s.heap a (.dT kvs) from I.hok a _ ea)
  exact PySem.W.kia_one PySem.W.kitx_dict I.kIn ⟨o, h1, h2.1⟩ e (fun z => nomatch z) h
 | @ins a C dx fs ea cl ha hn htk hm =>
  cases (show u = Value.ref a from rx)
  obtain ⟨mA, O, _⟩ := tD I.hok ea
  obtain ⟨od, J, _⟩ := O.look
  exact PySem.W.kia_one (PySem.W.kitx_own (cl.get _) cl.hd ha hn htk hm) I.kIn J e (fun z => nomatch z) h
end
end L2
namespace L2
open PySem PySem.Spec PyProof.Rows
structure Room (k : Nat) (A : Around) : Prop where
 hd : A.handled = none
 dp : A.depth + 3 * k + 5 < recursionLimit
 un : A.units + 16 * k + 200 < cLine
theorem Room.mono {j k : Nat} {A : Around} (r : Room k A) (h : j <= k) : Room j A := ⟨r.hd, by have := r.dp; omega, by have := r.un; omega⟩
theorem Room.deeper {k : Nat} {A : Around} (r : Room (k + 1) A) (env : Env) : Room k (A.deeper env) :=
 ⟨r.hd, by have := r.dp; show A.depth + 1 + 3 * k + 5 < _; omega, by have := r.un; show A.units + 3 + 16 * k + 200 < _; omega⟩
theorem Room.in1 {k : Nat} {A : Around} (r : Room (k + 1) A) : Room k A.in1 :=
 ⟨r.hd, by have := r.dp; show A.depth + 3 * k + 5 < _; omega, by have := r.un; show A.units + 1 + 16 * k + 200 < _; omega⟩
theorem CG {A : Around} {C : Addr} {us : List Value} {kw : List (Str × Value)} : (A.under (.builtin "type.__call__" ⟨.ref C :: us, kw⟩)).depth = A.depth + 1 := by
 first | rfl | simp [Around.under, Code.weight, Code.isCreation, Code.isGuard, Code.isCaller, Code.frames, Code.isFrame, guardIds]
theorem CJ {A : Around} {C : Addr} {us : List Value} {kw : List (Str × Value)} : (A.under (.builtin "type.__call__" ⟨.ref C :: us, kw⟩)).units = A.units + 1 := by
 first | rfl | simp [Around.under, Code.cUnits, Code.frames, Code.isFrame]
theorem Room.make {k : Nat} {A : Around} (r : Room (k + 1) A) (C : Addr) (us : List Value) (kw : List (Str × Value)) : Room k (A.under (.builtin "type.__call__" ⟨.ref C :: us, kw⟩)) :=
 ⟨r.hd, by have := r.dp; rw [CG]; omega, by have := r.un; rw [CJ]; omega⟩
theorem Room.depth {k : Nat} {A : Around} (r : Room k A) : A.depth < recursionLimit := by have := r.dp; omega
theorem Room.units {k : Nat} {A : Around} (r : Room k A) : A.units + 64 < cLine := by have := r.un; omega
def RN : TA := fun _ H Q => Q [] H
def Qw (ta : TE) (tr : TA) : TA := fun σ H Q => ta σ H fun x H1 => tr σ H1 fun xs H2 => Q (x :: xs) H2
section
variable {X : Cx} {e : Expr} {es : List Expr} {te : TE} {t : TA} {pos : Pos}
theorem h_ : PA X [] RN := fun _ _ _ _ H Q I h => Calls.spliced_nil ⟨[], H, I, .nil, h⟩
theorem dC (ha : PE X e te) (hr : PA X es t) (hs : starEach (e :: es) X.env = (false, eval e X.env) :: starEach es X.env := by rfl) : PA X (e :: es) (Qw te t) := by
 intro pos pins s σ H Q I h
 rw [hs]
 show wpAny _ _ (spliced ((false, eval e X.env) :: backTo pos (starEach es X.env))) _ _ s
 refine Calls.spliced_cons (thn (ha pins s σ H _ I h) fun u s1 ⟨x, H1, I1, r1, q1⟩ => ?_)
 exact thn (hr pos pins s1 σ H1 _ I1 q1) fun us s2 ⟨xs, H2, I2, r2, q2⟩ => ⟨x :: xs, H2, I2, .cons r1 r2, q2⟩
def RQ (t : TA) : TE := fun σ H Q => t σ H fun xs H1 => xs.length <= sizeLine /\ ∀ p, H1 p = none -> Q (.ref p) (upd H1 p (.tup xs))
def RT (t : TA) : TE := fun σ H Q => t σ H fun xs H1 => xs.length <= sizeLine /\ ∀ p, H1 p = none -> Q (.ref p) (upd H1 p (.lst xs))
theorem M7 {x1} (h : PA X es t) : PE X (.Tuple es x1 pos) (RQ t) := by
 intro pins s σ H Q I hq
 refine wpAny_Tuple_spliced (thn (h pos pins s σ H _ I hq) fun us s1 ⟨xs, H1, I1, r, z, q⟩ => ⟨by rw [← r.length]; exact z, ?_⟩)
 have hf : H1 s1.heap.objs.size = none := I1.hok.fresh (Nat.le_refl _)
 refine ⟨.ref s1.heap.objs.size, upd H1 s1.heap.objs.size (.tup xs), I1.laid (t' := s1.toks) (fun b u e => Heap.get?_push_of_some _ e) (Nat.le_refl _) ?_, rfl, q _ hf⟩
 exact ⟨z, us, r, ⟨_, Heap.get?_push_size _ rfl, rfl, _, rfl⟩⟩
theorem M8 (h : PA X es t) : PE X (.List es pos) (RT t) := by
 intro pins s σ H Q I hq
 refine wpAny_List_spliced (thn (h pos pins s σ H _ I hq) fun us s1 ⟨xs, H1, I1, r, z, q⟩ => ⟨by rw [← r.length]; exact z, ?_⟩)
 have hf : H1 s1.heap.objs.size = none := I1.hok.fresh (Nat.le_refl _)
 refine ⟨.ref s1.heap.objs.size, upd H1 s1.heap.objs.size (.lst xs), I1.laid (t' := s1.toks) (fun b u e => Heap.get?_push_of_some _ e) (Nat.le_refl _) ?_, rfl, q _ hf⟩
 exact ⟨z, us, 0, r, Heap.get?_push_size _ rfl⟩
end
abbrev Sp := List V -> Hp -> VK -> XK -> Prop
abbrev CXT := List Env -> Hp -> Shared -> XK -> Value -> Shared -> Prop
structure Env0 (P : Program) (w : World) (K : PySem.W.Frag) (mg : Str -> Option Value) (base : Heap) (A : Around) (outer : List Env) (s : Shared) (H : Hp) : Prop where
 frames : A.frames = some outer
 mod : Mod K mg base
 bs : ∀ b o, base.get? b = some o -> s.heap.get? b = some o /\ H b = none
 bsz : base.objs.size <= s.heap.objs.size
 funs : s.heap.FunFrames base outer
 frf : ∀ b ∈ frs outer, H b = none
 hok : HOk P w H s.heap
 bare : AllBare s.gens
def CE (outer : List Env) (P : Program) (w : World) (H : Hp) (s : Shared) (Q : VK) (u : Value) (s' : Shared) : Prop :=
 ∃ v H', s'.os = s.os /\ AllBare s'.gens /\ Un (frs outer) [] H H' s.heap s'.heap /\ HOk P w H' s'.heap /\ RelV v u /\ Q v H'
def CR (CX : CXT) (outer : List Env) (P : Program) (w : World) (H : Hp) (s : Shared) (Q : VK) (E : XK) (r : Result) (s' : Shared) : Prop :=
 match r with
 | .ok (.ret u) => CE outer P w H s Q u s'
 | .ok _ => False
 | .error e => CX outer H s E e s'
structure FnOk (P : Program) (w : World) (K : PySem.W.Frag) (mg : Str -> Option Value) (base : Heap) (CX : CXT) (k : Nat) (f : Addr) (fd : FuncData) (ps : List Str) (sp : Sp) : Prop where
 len : ∀ vs H Q E, sp vs H Q E -> vs.length = ps.length
 run : ∀ (A : Around) (outer : List Env) (s : Shared) (H : Hp) (args : Args) (us : List Value) (vs : List V) (Q : VK) (E : XK), Room k A -> Env0 P w K mg base A outer s H -> BindsTo s fd args (ps.zip us) -> Vals vs us -> sp vs H Q E ->
  codeAny (model P w) A (.call (.ref f) args) (CR CX outer P w H s Q E) s
theorem FnOk.mono {P : Program} {w : World} {K : PySem.W.Frag} {mg : Str -> Option Value} {base : Heap} {CX : CXT} {j k : Nat} {f : Addr} {fd : FuncData} {ps : List Str} {sp : Sp} (F : FnOk P w K mg base CX j f fd ps sp) (h : j <= k) :
  FnOk P w K mg base CX k f fd ps sp := ⟨F.len, fun A outer s H args us vs Q E hr => F.run A outer s H args us vs Q E (hr.mono h)⟩
theorem FnOk.imp {P : Program} {w : World} {K : PySem.W.Frag} {mg : Str -> Option Value} {base : Heap} {CX : CXT} {k : Nat} {f : Addr} {fd : FuncData} {ps : List Str} {sp sp' : Sp} (F : FnOk P w K mg base CX k f fd ps sp)
  (h : ∀ vs H Q E, sp' vs H Q E -> sp vs H Q E) : FnOk P w K mg base CX k f fd ps sp' :=
 ⟨fun vs H Q E q => F.len vs H Q E (h _ _ _ _ q), fun A outer s H args us vs Q E hr he hb hv hs => F.run A outer s H args us vs Q E hr he hb hv (h _ _ _ _ hs)⟩
theorem Env0.make {P : Program} {w : World} {K : PySem.W.Frag} {mg : Str -> Option Value} {base : Heap} {A : Around} {outer : List Env} {s : Shared} {H : Hp} (e : Env0 P w K mg base A outer s H) (C : Addr) (us : List Value) (kw : List (Str × Value)) :
  Env0 P w K mg base (A.under (.builtin "type.__call__" ⟨.ref C :: us, kw⟩)) outer s H := ⟨by first | exact e.frames | (simpa [Around.under, Code.envs, Code.isFrame, pushEnvs] using e.frames), e.mod, e.bs, e.bsz, e.funs, e.frf, e.hok, e.bare⟩
theorem Env0.in1 {P : Program} {w : World} {K : PySem.W.Frag} {mg : Str -> Option Value} {base : Heap} {A : Around} {outer : List Env} {s : Shared} {H : Hp} (e : Env0 P w K mg base A outer s H) :
  Env0 P w K mg base A.in1 outer s H := ⟨e.frames, e.mod, e.bs, e.bsz, e.funs, e.frf, e.hok, e.bare⟩
section
variable {X : Cx} {pins : List (Addr × Obj)} {σ : St} {H : Hp} {s s' : Shared}
theorem Inv.env0 (I : Inv X pins σ H s) : Env0 X.prog X.w X.K X.mg X.base X.A X.stack s H :=
 ⟨I.ok.frames, I.ok.mod, I.bs, Nat.le_trans I.ok.bsz I.sz, I.stack, I.stkFree, I.hok, I.bare⟩
theorem Inv.after {Q : VK} {u : Value} (I : Inv X pins σ H s) (h : CE X.stack X.prog X.w H s Q u s') : EP X pins σ Q u s' := by
 obtain ⟨v, H', os, bare, un, hok, r, q⟩ := h
 obtain ⟨hh, g, d, t, os'⟩ := s'
 obtain rfl : os' = s.os := os
 exact ⟨v, H', I.call (h' := hh) (g' := g) (d' := d) (t' := t) (ch := []) un hok bare (fun b z => absurd z (by simp)), r, q⟩
end
def Jr (sp : Sp) (dvs : List V) (E : XK) (t : TA) : TE := fun σ H Q => t σ H fun vs H1 => sp (vs ++ dvs) H1 Q E
def Qx (C : Addr) (m : Str) (sp : Sp) (dvs : List V) (E : XK) (ta : TE) (t : TA) : TE := fun σ H Q => ta σ H fun x H1 => ∃ a dx fs, x = .ref a /\ H1 a = some (.ins C dx fs) /\ fs.lookup m = none /\
 t σ H1 fun vs H2 => sp (x :: (vs ++ dvs)) H2 Q E
def Js (C : Addr) (sp : Sp) (dvs : List V) (E : XK) (t : TA) : TE := fun σ H Q => t σ H fun vs H1 => ∀ x dx, H1 x = none -> H1 dx = none -> dx ≠ x ->
 sp (.ref x :: (vs ++ dvs)) (upd (upd H1 dx (.own x)) x (.ins C dx [])) (fun v H2 => v = .non /\ Q (.ref x) H2) E
def Binds (K : PySem.W.Frag) (fd : FuncData) (ps : List Str) (ds : List Value) : Prop :=
 ∀ (s : Shared) (us : List Value), K.In s.heap -> (us ++ ds).length = ps.length -> BindsTo s fd ⟨us, []⟩ (ps.zip (us ++ ds))
theorem Binds.all {K : PySem.W.Frag} {fd : FuncData} {ps : List Str} (h : ∀ us : List Value, us.length = ps.length -> bindArgs fd ⟨us, []⟩ = pure (ps.zip us)) : Binds K fd ps [] := fun s us _ hl => by
 rw [List.append_nil] at hl ⊢
 exact .of_eq (h us hl)
def o7 (CX : CXT) (X : Cx) (E : XK) : Prop := ∀ (pins : List (Addr × Obj)) (σ : St) (H : Hp) (s : Shared) (e : Value) (s' : Shared), Inv X pins σ H s -> CX X.stack H s E e s' -> X.xe e s'
section
variable {X : Cx} {CX : CXT} {k : Nat} {f C : Addr} {fd : FuncData} {ps : List Str} {sp : Sp} {dvs : List V} {ds : List Value} {E : XK} {x m : Str} {p pos apos : Pos} {e o : Expr} {es : List Expr} {ta : TE} {t : TA}
theorem Et {pins : List (Addr × Obj)} {σ : St} {H : Hp} {s : Shared} {Q : VK} {us : List Value} {vs : List V} (F : FnOk X.prog X.w X.K X.mg X.base CX k f fd ps sp) (hr : Room k X.A) (hb : Binds X.K fd ps ds) (hd : Vals dvs ds) (hx : o7 CX X E)
  (I : Inv X pins σ H s) (r : Vals vs us) (h : sp (vs ++ dvs) H Q E) : wpAny (model X.prog X.w) X.A (call (.ref f) us) (EP X pins σ Q) X.xe s := by
 have r2 : Vals (vs ++ dvs) (us ++ ds) := r.append hd
 have hl : (us ++ ds).length = ps.length := by rw [← r2.length]; exact F.len _ _ _ _ h
 refine wpAny_call (codeAny_mono (F.run X.A X.stack s H ⟨us, []⟩ (us ++ ds) (vs ++ dvs) Q E hr I.env0 (hb s us I.kIn hl) r2 h) fun r s' hq => ?_)
 cases r with
 | error e => exact hx pins σ H s e s' I hq
 | ok fl =>
  cases fl with
  | ret u => exact I.after hq
  | next => exact False.elim hq
  | brk => exact False.elim hq
  | cont => exact False.elim hq
theorem J0 (F : FnOk X.prog X.w X.K X.mg X.base CX k f fd ps sp) (hr : Room k X.A) (hg : Gl X x) (hm : X.mg x = some (.ref f)) (hk : PySem.W.keepIn X.K (.ref f) = true) (hb : Binds X.K fd ps ds) (hd : Vals dvs ds) (hx : o7 CX X E)
  (ha : PA X (e :: es) t) (hdb : (x == ("__debug__" : Str)) = false := by decide) (he : starEach (e :: es) X.env = (false, eval e X.env) :: starEach es X.env := by rfl) (hpl : (backTo pos (starEach es X.env)).any (·.1) = false := by rfl) :
  PE X (.Call (.Name x p) (e :: es) [] pos) (Jr sp dvs E t) := by
 intro pins s σ H Q I h
 refine wpAny_Call_Name_kw (jG I hg hm ?_ hdb)
 refine PySem.W.callWith_K (h₀ := X.base) I.ok.mod.kin hk (thn (ha pos pins s σ H _ I h) fun us s1 ⟨vs, H1, I1, r, q⟩ => ⟨I1.kIn, ?_⟩) he hpl
 exact Et F hr hb hd hx I1 r q
theorem J1 {pl : Sem Bool} (he : PE X o ta) (c : Cls X.K C) (hm : Meth X.K C m f) (F : FnOk X.prog X.w X.K X.mg X.base CX k f fd ps sp) (hr : Room k X.A) (hb : Binds X.K fd ps ds) (hd : Vals dvs ds) (hx : o7 CX X E) (ha : PA X (e :: es) t)
  (hst : starEach (e :: es) X.env = (false, eval e X.env) :: starEach es X.env := by rfl) (hpl : (backTo pos (starEach es X.env)).any (·.1) = false := by rfl)
  (ht : eval (.Call (.Attribute o m apos) (e :: es) [] pos) X.env = (do
   let ov ← eval o X.env
   standAt apos.atName
   let (f, first) ← holding [ov] (getMethod ov m pl)
   callWith pos f first (backTo pos (starEach (e :: es) X.env)) (backToKw pos (keywordEach [] X.env))) := by rfl) :
  PE X (.Call (.Attribute o m apos) (e :: es) [] pos) (Qx C m sp dvs E ta t) := by
 intro pins s σ H Q I h
 refine PySem.W.methodCall_KW (pl := pl) (thn (he pins s σ H _ I h) fun u s1 ⟨x, H1, I1, rx, a, dx, fs, ex, ea, l, q⟩ => ?_) ht
 subst ex
 obtain rfl : u = Value.ref a := rx
 refine Cy I1 ea c hm l ?_
 refine PySem.W.callWith_K (first := [.ref a]) (h₀ := X.base) I.ok.mod.kin hm.kp (thn (ha pos pins s1 σ H1 _ I1 q) fun us s2 ⟨vs, H2, I2, r, q2⟩ => ⟨I2.kIn, ?_⟩) hst hpl
 exact Et (us := .ref a :: us) (vs := .ref a :: vs) F hr hb hd hx I2 (.cons rfl r) q2
structure Mk (K : PySem.W.Frag) (C f : Addr) : Prop where
 makes : PySem.W.makesIn K C = true
 init : PySem.W.findIn K (.ref C) "__init__" = some (some (.ref f))
 fn : PySem.W.isFn K (.ref f) = true
 kp : PySem.W.keepIn K (.ref C) = true
theorem Hb {pins : List (Addr × Obj)} {σ : St} {H : Hp} {s : Shared} {Q : VK} {us : List Value} {vs : List V} (M : Mk X.K C f) (F : FnOk X.prog X.w X.K X.mg X.base CX k f fd ps sp) (hr : Room (k + 1) X.A) (hb : Binds X.K fd ps ds) (hd : Vals dvs ds)
  (hx : o7 CX X E) (I : Inv X pins σ H s) (r : Vals vs us)
  (h : ∀ x dx, H x = none -> H dx = none -> dx ≠ x -> sp (.ref x :: (vs ++ dvs)) (upd (upd H dx (.own x)) x (.ins C dx [])) (fun v H2 => v = .non /\ Q (.ref x) H2) E) :
  wpAny (model X.prog X.w) X.A (call (.ref C) us) (EP X pins σ Q) X.xe s := by
 have hq := h (s.heap.objs.size + 1) s.heap.objs.size (I.hok.fresh (Nat.le_succ _)) (I.hok.fresh (Nat.le_refl _)) (Nat.ne_of_lt (Nat.lt_succ_self _))
 have I2 := Inv.made (C := C) I
 have r2 : Vals (V.ref (s.heap.objs.size + 1) :: (vs ++ dvs)) (Value.ref (s.heap.objs.size + 1) :: (us ++ ds)) := .cons rfl (r.append hd)
 have hl : (Value.ref (s.heap.objs.size + 1) :: us ++ ds).length = ps.length := by
  have e := r2.length
  rw [F.len _ _ _ _ hq] at e
  exact e.symm
 refine wpAny_call (Ha (f := f) I.kIn M.makes M.init (beq_iff_eq.mp M.fn) (codeAny_mono (F.run _ X.stack _ _ ⟨Value.ref (s.heap.objs.size + 1) :: us, []⟩ (Value.ref (s.heap.objs.size + 1) :: (us ++ ds)) _ _ E (hr.make C us [])
  (I2.env0.make C us []) (hb _ (Value.ref (s.heap.objs.size + 1) :: us) I2.kIn hl) r2 hq) fun r s' hq' => ?_))
 cases r with
 | error e => exact hx pins σ _ _ e s' I2 hq'
 | ok fl =>
  cases fl with
  | ret u =>
   obtain ⟨v, H', I3, rv, ev, q3⟩ := I2.after hq'
   subst ev
   exact ⟨rv, ⟨V.ref (s.heap.objs.size + 1), H', I3, rfl, q3⟩⟩
  | next => exact False.elim hq'
  | brk => exact False.elim hq'
  | cont => exact False.elim hq'
theorem J2 (M : Mk X.K C f) (F : FnOk X.prog X.w X.K X.mg X.base CX k f fd ps sp) (hr : Room (k + 1) X.A) (hg : Gl X x) (hm : X.mg x = some (.ref C)) (hb : Binds X.K fd ps ds) (hd : Vals dvs ds) (hx : o7 CX X E)
  (ha : PA X (e :: es) t) (hdb : (x == ("__debug__" : Str)) = false := by decide) (he : starEach (e :: es) X.env = (false, eval e X.env) :: starEach es X.env := by rfl) (hpl : (backTo pos (starEach es X.env)).any (·.1) = false := by rfl) :
  PE X (.Call (.Name x p) (e :: es) [] pos) (Js C sp dvs E t) := by
 intro pins s σ H Q I h
 refine wpAny_Call_Name_kw (jG I hg hm ?_ hdb)
 refine PySem.W.callWith_K (h₀ := X.base) I.ok.mod.kin M.kp (thn (ha pos pins s σ H _ I h) fun us s1 ⟨vs, H1, I1, r, q⟩ => ⟨I1.kIn, ?_⟩) he hpl
 exact Hb M F hr hb hd hx I1 r q
end
section
variable {X : Cx} {CX : CXT} {k : Nat} {f C : Addr} {fd : FuncData} {ps ks : List Str} {sp : Sp} {E : XK} {x m : Str} {p pos apos kpos : Pos} {e o : Expr} {es : List Expr} {kws : List Keyword} {te ta : TE} {t tk : TA} {nm : Option Str}
variable {g : List Value -> List Value -> List Value} {gV : List V -> List V -> List V}
end
structure FnScope (N P : List Str) (sc : Scope) : Prop where
 kind : sc.kind = .function
 co : sc.isCoroutine = false
 gen : sc.isGenerator = false
 nd : N.Nodup
 pre : N.take P.length = P
 par : ∀ x ∈ P, sc.names.lookup x = some .local \/ sc.names.lookup x = some .cell
 nofree : ∀ y ∈ sc.names, y.2 ≠ .free
theorem wI {kindOf : Str -> Option NameKind} {x : Str} : ∀ {binds : List (Str × Value)} {m : Str -> Option Value}, (∀ v, (x, v) ∉ binds) -> bindL kindOf binds m x = m x
 | [], _, _ => rfl
 | (n, v) :: r, m, h => by
  unfold bindL
  rw [wI fun w hw => h w (List.mem_cons_of_mem _ hw)]
  split
  ·have : x ≠ n := by rintro rfl; exact h v List.mem_cons_self
   simp [this]
  ·rfl
theorem wJ {kindOf : Str -> Option NameKind} {x : Str} : ∀ {binds : List (Str × Value)} {m : Str -> Option Value}, (∀ v, (x, v) ∉ binds) -> bindC kindOf binds m x = m x
 | [], _, _ => rfl
 | (n, v) :: r, m, h => by
  unfold bindC
  rw [wJ fun w hw => h w (List.mem_cons_of_mem _ hw)]
  split
  ·rfl
  ·have : x ≠ n := by rintro rfl; exact h v List.mem_cons_self
   simp [this]
theorem wK {kindOf : Str -> Option NameKind} {x : Str} {v : Value} : ∀ {P : List Str} {vs : List Value} {i : Nat} {m : Str -> Option Value}, P.Nodup -> P[i]? = some x -> vs[i]? = some v -> kindOf x = some .local ->
  bindL kindOf (P.zip vs) m x = some v
 | [], _, _, _, _, h, _, _ => by simp at h
 | _ :: _, [], _, _, _, _, h, _ => by simp at h
 | p :: P, w :: vs, 0, m, nd, h1, h2, hk => by
  simp at h1 h2; subst h1; subst h2
  show bindL kindOf ((p, w) :: P.zip vs) m p = _
  unfold bindL
  rw [wI fun v hv => (List.nodup_cons.mp nd).1 (List.of_mem_zip hv).1, if_pos hk]
  simp
 | p :: P, w :: vs, i + 1, m, nd, h1, h2, hk => by
  show bindL kindOf ((p, w) :: P.zip vs) m x = _
  unfold bindL
  exact wK (i := i) (List.nodup_cons.mp nd).2 (by simpa using h1) (by simpa using h2) hk
theorem wL {kindOf : Str -> Option NameKind} {x : Str} {v : Value} : ∀ {P : List Str} {vs : List Value} {i : Nat} {m : Str -> Option Value}, P.Nodup -> P[i]? = some x -> vs[i]? = some v -> kindOf x ≠ some .local ->
  bindC kindOf (P.zip vs) m x = some v
 | [], _, _, _, _, h, _, _ => by simp at h
 | _ :: _, [], _, _, _, _, h, _ => by simp at h
 | p :: P, w :: vs, 0, m, nd, h1, h2, hk => by
  simp at h1 h2; subst h1; subst h2
  show bindC kindOf ((p, w) :: P.zip vs) m p = _
  unfold bindC
  rw [wJ fun v hv => (List.nodup_cons.mp nd).1 (List.of_mem_zip hv).1, if_neg hk]
  simp
 | p :: P, w :: vs, i + 1, m, nd, h1, h2, hk => by
  show bindC kindOf ((p, w) :: P.zip vs) m x = _
  unfold bindC
  exact wL (i := i) (List.nodup_cons.mp nd).2 (by simpa using h1) (by simpa using h2) hk
def start (N : List Str) (vs : List V) : St := vs.map some ++ List.replicate (N.length - vs.length) none
def dj (CX : CXT) (P : Program) (w : World) (K : PySem.W.Frag) (mg : Str -> Option Value) (base : Heap) (N : List Str) (qual : Str) (scope : Scope) (f : Addr) (cd : Value) (A : Around) (outer : List Env) (s : Shared) (H : Hp) (E : XK) : Cx where
 prog := P
 w := w
 K := K
 mg := mg
 base := base
 A := A.deeper (envOfC qual scope s.heap.objs.size f cd)
 N := N
 s₀ := s
 H₀ := H
 env := envOfC qual scope s.heap.objs.size f cd
 outer := outer
 stack := envOfC qual scope s.heap.objs.size f cd :: outer
 ex := []
 calm := true
 fn := fun _ => true
 pn := []
 xe := fun e s' => wpAny (model P w) (A.deeper (envOfC qual scope s.heap.objs.size f cd)) (leaving (envOfC qual scope s.heap.objs.size f cd) e) (fun _ s'' => CX outer H s E e s'') (fun e' s'' => CX outer H s E e' s'') s'
theorem yM {sc : Scope} {n : Nat} {x : Str} (h : sc.names.lookup x = some .cell) : ∃ c, (cellsFrom n sc.names []).lookup x = some c := by
 have q := PySem.W.cellsFrom_some sc.names n [] (.inl h)
 exact Option.isSome_iff_exists.mp q
theorem Eu {CX : CXT} {P : Program} {w : World} {K : PySem.W.Frag} {mg : Str -> Option Value} {base : Heap} {N ps : List Str} {qual : Str} {scope : Scope} {f : Addr} {cd : Value} {A : Around} {outer : List Env} {s s1 : Shared} {H : Hp} {E : XK} {us : List Value} {vs : List V}
  (S : FnScope N ps scope) (hd : A.handled = none) (e0 : Env0 P w K mg base A outer s H) (hl : vs.length = ps.length) (r : Vals vs us)
  (x : InCallC s s.heap.objs.size (bindL (envOfC qual scope s.heap.objs.size f cd).kindOf (ps.zip us) fun _ => none) (cellsFrom (s.heap.objs.size + 1) scope.names []) (bindC (envOfC qual scope s.heap.objs.size f cd).kindOf (ps.zip us) fun _ => none) s1) :
  Inv (dj CX P w K mg base N qual scope f cd A outer s H E) [] (start N vs) H s1 := by
 have hpl : ps.length <= N.length := by have := congrArg List.length S.pre; rw [List.length_take] at this; omega
 obtain ⟨h1, tk, rfl, hk⟩ := x.done
 have noA : ∀ b : Addr, b ∉ (dj CX P w K mg base N qual scope f cd A outer s H E).ex := fun b z => absurd (show b ∈ ([] : List Addr) from z) (by simp)
 refine ⟨⟨e0.mod, S.kind, rfl, rfl, Nat.le_refl _, fun y z c h1 h2 => ?_, fun y hy => ?_, fun y c _ h => ?_, fun _ => hd, Around.frames_deeper e0.frames, .inr ⟨rfl, rfl⟩, fun b z => absurd z (noA b), e0.bs, e0.bsz, fun b _ _ => noA b, fun b z => absurd z (noA b), e0.funs, e0.frf⟩,
  rfl, e0.bare, Un.kept hk, ⟨_, x.toInCall.ns, fun i y v h1 h2 h3 => ?_⟩, fun y c h => ⟨_, x.cell y c h⟩, e0.hok.fresh (Nat.le_refl _), fun y c h => ?_, fun p hp => absurd (show p ∈ ([] : List (Addr × Obj)) from hp) (by simp), e0.hok.kept hk, ?_⟩
 ·exact name_of_addr x.apart (PySem.mem_of_lookup h1) (PySem.mem_of_lookup h2)
 ·have hy : scope.names.lookup y = some .cell \/ scope.names.lookup y = some .free := hy
  rcases hy with hy | hy
  ·exact yM hy
  ·exact absurd rfl (S.nofree _ (PySem.mem_of_lookup hy))
 ·exact Nat.le_of_lt (x.above y c (PySem.mem_of_lookup h))
 ·have hi : i < vs.length := by
   unfold start at h2
   by_cases hi : i < vs.length
   ·exact hi
   ·rw [List.getElem?_append_right (by simpa using hi)] at h2
    rw [List.getElem?_replicate] at h2
    split at h2 <;> cases h2
  have ha : vs[i]? = some v := by
   unfold start at h2
   rw [List.getElem?_append_left (by simpa using hi), List.getElem?_map] at h2
   cases e : vs[i]? with
   | none => rw [e] at h2; cases h2
   | some a => rw [e] at h2; cases h2; rfl
  obtain ⟨u, hu, rv⟩ := r.get ha
  have hp : ps[i]? = some y := by
   rw [← S.pre, List.getElem?_take_of_lt (by omega)]; exact h1
  have ndP : ps.Nodup := by rw [← S.pre]; exact S.nd.sublist (List.take_sublist _ _)
  refine ⟨u, rv, ?_⟩
  rcases S.par y (List.mem_of_getElem? hp) with k | k
  ·exact .inl ⟨k, wK ndP hp hu k⟩
  ·obtain ⟨c, e⟩ := yM (n := s.heap.objs.size + 1) k
   refine .inr ⟨.inl k, c, e, ?_⟩
   have q := x.cell y c e
   rw [wL ndP hp hu (by show scope.names.lookup y ≠ _; rw [k]; decide)] at q
   exact q
 ·exact e0.hok.fresh (Nat.le_of_lt (x.above y c (PySem.mem_of_lookup h)))
 ·unfold start
  show _ = N.length
  rw [List.length_append, List.length_map, List.length_replicate]
  omega
theorem Jt {CX : CXT} {P : Program} {w : World} {K : PySem.W.Frag} {mg : Str -> Option Value} {base : Heap} {k : Nat} {f : Addr} {name qual : Str} {params : Arguments} {body : List Stmt} {scope : Scope} {dV kV doc pm cdv ct oc : Value} {an od : Option Addr}
  {osl : Array (Option Value)} {N ps : List Str} {sp : Sp} (lk : K.lookup f = some ⟨oc, od, .func (PySem.W.fnOf name qual params body scope dV kV doc pm an cdv ct), osl⟩) (hcd : PySem.W.codeIn K cdv qual = true) (S : FnScope N ps scope)
  (len : ∀ vs H Q E, sp vs H Q E -> vs.length = ps.length)
  (hbody : ∀ (A : Around) (outer : List Env) (s : Shared) (H : Hp) (vs : List V) (Q : VK) (E : XK), Room k (A.deeper (envOfC qual scope s.heap.objs.size f cdv)) -> sp vs H Q E ->
   ∃ t, PSs (dj CX P w K mg base N qual scope f cdv A outer s H E) body t /\ t { nx := fun _ H' => Q .non H', rt := Q } (start N vs) H) :
  FnOk P w K mg base CX (k + 1) f (PySem.W.fnOf name qual params body scope dV kV doc pm an cdv ct) ps sp := by
 refine ⟨len, fun A outer s H args us vs Q E hr e0 hb r hsp => ?_⟩
 have hl := len _ _ _ _ hsp
 have KX : K.In s.heap := e0.mod.kin.keeps fun b o e => (e0.bs b o e).1
 have lim : s.heap.NoLimit := e0.mod.nolimit.keeps fun b o e => (e0.bs b o e).1
 have hkind : ∀ y ∈ ps.zip us, scope.names.lookup y.1 = some .local \/ (scope.names.lookup y.1 = some .cell /\ ((cellsFrom (s.heap.objs.size + 1) scope.names []).lookup y.1).isSome = true) := fun ⟨n, v⟩ hy => by
  rcases S.par n (List.of_mem_zip hy).1 with q | q
  ·exact .inl q
  ·exact .inr ⟨q, PySem.W.cellsFrom_some _ _ _ (.inl q)⟩
 refine codeAny_call_function hr.depth (KX _ _ lk) rfl S.co S.gen rfl (PySem.W.codeRec_of KX hcd) (hb _ _ _ _ ?_)
 refine wpAny_newFunctionEnv_cells S.kind hkind fun env he s1 x => ?_
 subst he
 refine ⟨lim.keeps x.toInCall.keep, codeAny_func ?_⟩
 obtain ⟨t, ht, hq⟩ := hbody A outer s H vs Q E (hr.deeper _) hsp
 have I : Inv (dj CX P w K mg base N qual scope f cdv A outer s H E) [] (start N vs) H s1 := Eu S hr.hd e0 hl r x
 refine wpAny_mono (ht [] s1 (start N vs) H _ I hq) (fun fl s' hs => ?_) fun e s' hs => hs
 have fin : ∀ {σ' : St} {H' : Hp} {v : V} {u : Value}, Inv (dj CX P w K mg base N qual scope f cdv A outer s H E) [] σ' H' s' -> RelV v u -> Q v H' -> CE outer P w H s Q u s' :=
  fun {σ' H' v u} J rv q => ⟨v, H', J.os, J.bare, J.base, J.hok, rv, q⟩
 cases fl with
 | ret u =>
  obtain ⟨v, σ', H', J, rv, q⟩ := hs
  exact fin J rv q
 | next =>
  obtain ⟨σ', H', J, q⟩ := hs
  exact fin (v := V.non) (u := Value.none) J rfl q
 | brk =>
  obtain ⟨_, _, _, q⟩ := hs
  exact False.elim q
 | cont =>
  obtain ⟨_, _, _, q⟩ := hs
  exact False.elim q
end L2
namespace L2
open PySem PySem.Spec PyProof.Rows
section
variable {X : Cx} {x : Str} {p pos : Pos} {e : Expr} {es : List Expr} {t : TA} {id T : String} {r : List V -> Hp -> VK -> Prop}
def tCB (r : List V -> Hp -> VK -> Prop) (t : TA) : TE := fun σ H Q => t σ H fun vs H1 => r vs H1 Q
theorem pO (hc : CallR X (.builtin id) r) (hg : Gl X x) (hm : X.mg x = none) (hv : bootBuiltins x = some (.builtin id)) (ha : PA X (e :: es) t) (hn : x ≠ "__name__" := by decide) (hdb : (x == ("__debug__" : Str)) = false := by decide)
  (he : starEach (e :: es) X.env = (false, eval e X.env) :: starEach es X.env := by rfl) (hpl : (backTo pos (starEach es X.env)).any (·.1) = false := by rfl) : PE X (.Call (.Name x p) (e :: es) [] pos) (tCB r t) := by
 intro pins s σ H Q I h
 refine wpAny_Call_Name_kw (oX I hg hm hv ?_ hn hdb)
 exact PyProof.Rows.callWith_builtin1 (thn (ha pos pins s σ H _ I h) fun us s1 ⟨vs, H1, I1, r1, q1⟩ => hc pins s1 σ H1 vs us Q I1 r1 q1) he hpl
theorem Ew (hc : CallR X (.type T) r) (hg : Gl X x) (hm : X.mg x = none) (hv : bootBuiltins x = some (.type T)) (ha : PA X (e :: es) t) (hn : x ≠ "__name__" := by decide) (hdb : (x == ("__debug__" : Str)) = false := by decide)
  (he : starEach (e :: es) X.env = (false, eval e X.env) :: starEach es X.env := by rfl) (hpl : (backTo pos (starEach es X.env)).any (·.1) = false := by rfl) : PE X (.Call (.Name x p) (e :: es) [] pos) (tCB r t) := by
 intro pins s σ H Q I h
 refine wpAny_Call_Name_kw (oX I hg hm hv ?_ hn hdb)
 exact PyProof.Rows.callWith_type1 (thn (ha pos pins s σ H _ I h) fun us s1 ⟨vs, H1, I1, r1, q1⟩ => hc pins s1 σ H1 vs us Q I1 r1 q1) he hpl
end
end L2
namespace L2
open PySem PySem.Spec PyProof.Rows
section
variable {κ : Type} [DecidableEq κ]
def jd (kvs : List (κ × V)) (k : κ) : Option V := (kvs.find? fun kv => decide (kv.1 = k)).map (·.2)
def putK (kvs : List (κ × V)) (k : κ) (v : V) : List (κ × V) :=
 if (kvs.any fun kv => decide (kv.1 = k)) = true then kvs.map (fun kv => if kv.1 = k then (kv.1, v) else kv) else kvs ++ [(k, v)]
def Ju (kvs : List (κ × V)) (k : κ) : List (κ × V) := kvs.filter fun kv => decide (kv.1 ≠ k)
theorem mL {p : κ × V} {r : List (κ × V)} {k : κ} (e : p.1 = k) : jd (p :: r) k = some p.2 := by simp [jd, List.find?_cons, e]
theorem mO {p : κ × V} {r : List (κ × V)} {k : κ} (e : ¬ p.1 = k) : jd (p :: r) k = jd r k := by simp [jd, List.find?_cons, e]
theorem yN (k : κ) : ∀ kvs : List (κ × V), (kvs.any fun kv => decide (kv.1 = k)) = (jd kvs k).isSome
 | [] => rfl
 | p :: r => by
  rw [List.any_cons]
  by_cases e : p.1 = k
  ·simp only [mL e, decide_eq_true e, Bool.true_or, Option.isSome_some]
  ·rw [mO e, decide_eq_false e, Bool.false_or]; exact yN k r
theorem oF (kvs : List (κ × V)) (k : κ) (v : V) : (putK kvs k v).length <= kvs.length + 1 := by
 unfold putK
 split
 ·rw [List.length_map]; omega
 ·rw [List.length_append, List.length_cons, List.length_nil]; omega
theorem RelO.isSome_eq {o : Option V} {u : Option Value} (r : RelO o u) : o.isSome = u.isSome := by
 cases o with
 | none => cases u with
  | none => rfl
  | some _ => exact (show False from r).elim
 | some _ => cases u with
  | none => exact (show False from r).elim
  | some _ => rfl
theorem RelO.getD {o : Option V} {u : Option Value} {d : V} {d' : Value} (r : RelO o u) (rd : RelV d d') : RelV (o.getD d) (u.getD d') := by
 cases o with
 | none => cases u with
  | none => exact rd
  | some _ => exact (show False from r).elim
 | some _ => cases u with
  | none => exact (show False from r).elim
  | some _ => exact r
theorem KV.val {kvs : List (κ × V)} {vs : List (κ × Value)} (r : KV kvs vs) (k : κ) : RelO (jd kvs k) (valueAt vs k) := by
 unfold KV at r
 induction r with
 | nil => exact True.intro
 | @cons p q ps qs h t ih =>
  obtain ⟨h1, h2⟩ := h
  by_cases e : p.1 = k
  ·have e' : q.1 = k := h1.symm.trans e
   have b : valueAt (q :: qs) k = some q.2 := by simp [valueAt, List.find?_cons, e']
   rw [mL e, b]; exact h2
  ·have e' : ¬ q.1 = k := fun z => e (h1.trans z)
   have b : valueAt (q :: qs) k = valueAt qs k := by simp [valueAt, List.find?_cons, e']
   rw [mO e, b]; exact ih
theorem KV.any {kvs : List (κ × V)} {vs : List (κ × Value)} (r : KV kvs vs) (k : κ) : (kvs.any fun kv => decide (kv.1 = k)) = vs.any fun kv => decide (kv.1 = k) := by
 unfold KV at r
 induction r with
 | nil => rfl
 | cons h t ih => rw [List.any_cons, List.any_cons, ih, h.1]
theorem KV.repl {kvs : List (κ × V)} {vs : List (κ × Value)} (r : KV kvs vs) (k : κ) {y : V} {u : Value} (ry : RelV y u) :
  KV (kvs.map fun kv => if kv.1 = k then (kv.1, y) else kv) (vs.map fun kv => if kv.1 = k then (kv.1, u) else kv) := by
 unfold KV at r ⊢
 induction r with
 | nil => exact .nil
 | @cons p q ps qs h t ih =>
  rw [List.map_cons, List.map_cons]
  refine .cons ?_ ih
  obtain ⟨h1, h2⟩ := h
  by_cases e : p.1 = k
  ·rw [if_pos e, if_pos (h1.symm.trans e)]; exact ⟨h1, ry⟩
  ·rw [if_neg e, if_neg (fun z => e (h1.trans z))]; exact ⟨h1, h2⟩
theorem KV.put {kvs : List (κ × V)} {vs : List (κ × Value)} (r : KV kvs vs) (k : κ) {y : V} {u : Value} (ry : RelV y u) : KV (putK kvs k y) (stored vs k u) := by
 unfold putK stored
 rw [r.any k]
 by_cases e : (vs.any fun kv => decide (kv.1 = k)) = true
 ·rw [if_pos e, if_pos e]; exact r.repl k ry
 ·rw [if_neg e, if_neg e]; exact Paired.snoc r ⟨rfl, ry⟩
theorem KV.drop {kvs : List (κ × V)} {vs : List (κ × Value)} (r : KV kvs vs) (k : κ) : KV (Ju kvs k) (without vs k) := by
 unfold KV at r ⊢
 unfold Ju without
 induction r with
 | nil => exact .nil
 | @cons p q ps qs h t ih =>
  obtain ⟨h1, h2⟩ := h
  rw [List.filter_cons, List.filter_cons]
  by_cases e : p.1 = k
  ·have a : ¬ decide (p.1 ≠ k) = true := by simp [e]
   have b : ¬ decide (q.1 ≠ k) = true := by simp [h1.symm.trans e]
   rw [if_neg a, if_neg b]; exact ih
  ·have e' : ¬ q.1 = k := fun z => e (h1.trans z)
   have a : decide (p.1 ≠ k) = true := by simp [e]
   have b : decide (q.1 ≠ k) = true := by simp [e']
   rw [if_pos a, if_pos b]; exact .cons ⟨h1, h2⟩ ih
theorem KV.keys {kvs : List (κ × V)} {vs : List (κ × Value)} (r : KV kvs vs) : kvs.map (·.1) = vs.map (·.1) := by
 unfold KV at r
 induction r with
 | nil => rfl
 | cons h t ih => rw [List.map_cons, List.map_cons, ih, h.1]
theorem KV.length {kvs : List (κ × V)} {vs : List (κ × Value)} (r : KV kvs vs) : kvs.length = vs.length := Paired.length r
end
theorem uX {P : Program} {w : World} {k : Key} {u : Value} (r : RelV (kV k) u) : (cX P w).is k u = true := by
 cases k with
 | inl i => obtain ⟨t, e⟩ := (show ∃ t, u = Value.int i t from r); subst e; exact uf P w i t
 | inr x => obtain ⟨t, e⟩ := (show ∃ t, u = Value.str x t from r); subst e; exact ug P w x t
theorem wM {P : Program} {w : World} : ∀ {ks : List Key} {us : List Value}, Vals (ks.map kV) us -> ItemsAre (cX P w) ks us
 | [], _, r => by rw [List.map_nil] at r; cases r; exact .nil
 | k :: ks, _, r => by
  rw [List.map_cons] at r
  cases r with
  | cons h t => exact .cons (uX h) (wM t)
abbrev KT (H : Hp) : List (List Key × V) -> List (List Key × Addr × Value) -> Prop := Paired fun p q => p.1 = q.1 /\ H q.2.1 = some (.tup (p.1.map kV)) /\ RelV p.2 q.2.2
theorem KT.val {H : Hp} {kvs : List (List Key × V)} {xs : List (List Key × Addr × Value)} (r : KT H kvs xs) (k : List Key) : RelO (jd kvs k) ((atKey xs k).map (·.2)) := by
 induction r with
 | nil => exact True.intro
 | @cons p q ps qs h t ih =>
  obtain ⟨h1, _, h2⟩ := h
  by_cases e : p.1 = k
  ·have e' : q.1 = k := h1.symm.trans e
   have b : atKey (q :: qs) k = some q.2 := by simp [atKey, List.find?_cons, e']
   rw [mL e, b]; exact h2
  ·have e' : ¬ q.1 = k := fun z => e (h1.trans z)
   have b : atKey (q :: qs) k = atKey qs k := by simp [atKey, List.find?_cons, e']
   rw [mO e, b]; exact ih
theorem KT.repl {H : Hp} {kvs : List (List Key × V)} {xs : List (List Key × Addr × Value)} (r : KT H kvs xs) (k : List Key) {y : V} {u : Value} (ry : RelV y u) :
  KT H (kvs.map fun kv => if kv.1 = k then (kv.1, y) else kv) (xs.map (putAt k u)) := by
 induction r with
 | nil => exact .nil
 | @cons p q ps qs h t ih =>
  rw [List.map_cons, List.map_cons]
  refine .cons ?_ ih
  obtain ⟨h1, h2, h3⟩ := h
  unfold putAt
  by_cases e : p.1 = k
  ·rw [if_pos e, if_pos (h1.symm.trans e)]; exact ⟨h1, h2, ry⟩
  ·rw [if_neg e, if_neg (fun z => e (h1.trans z))]; exact ⟨h1, h2, h3⟩
theorem KT.put {H : Hp} {kvs : List (List Key × V)} {xs : List (List Key × Addr × Value)} (r : KT H kvs xs) (k : List Key) {b : Addr} {y : V} {u : Value} (hb : H b = some (.tup (k.map kV))) (ry : RelV y u) :
  KT H (putK kvs k y) (storedH xs k b u) := by
 have e : (kvs.any fun kv => decide (kv.1 = k)) = (atKey xs k).isSome := by
  rw [yN, (r.val k).isSome_eq, Option.isSome_map]
 unfold putK storedH
 rw [e]
 by_cases q : (atKey xs k).isSome = true
 ·rw [if_pos q, if_pos q]; exact r.repl k ry
 ·rw [if_neg q, if_neg q]; exact Paired.snoc r ⟨rfl, hb, ry⟩
theorem KT.keeps {H H' : Hp} {kvs : List (List Key × V)} {xs : List (List Key × Addr × Value)} (r : KT H kvs xs) (ht : ∀ b ys, H b = some (.tup ys) -> H' b = some (.tup ys)) : KT H' kvs xs :=
 Paired.mapP r fun _ _ z => ⟨z.1, ht _ _ z.2.1, z.2.2⟩
section
variable {P : Program} {w : World} {H : Hp} {h : Heap} {a : Addr}
theorem Jv {u : HO} (ok : HOk P w H h) (e : Rd H a u) : ObjOk P w H h a u := e.ok ok
theorem tE {kvs : List (Key × V)} (ok : HOk P w H h) (e : Rd H a (.dK kvs)) : kvs.length <= sizeLine /\ (a == sysModules) = false /\ ∃ vs, KV kvs vs /\ h.DictOf (cX P w) a vs :=
 show ObjOk P w H h a (.dK kvs) from Jv ok e
theorem Jw {kvs : List (Key × V)} (ok : HOk P w H h) (e : H a = some (.dK kvs)) : kvs.length <= sizeLine /\ (a == sysModules) = false /\ ∃ vs, KV kvs vs /\ h.DictOf (cX P w) a vs := tE ok (.inl e)
theorem qZ {ks : List Key} (ok : HOk P w H h) (e : H a = some (.tup (ks.map kV))) : (tupleKind (cX P w)).is h ks a := by
 obtain ⟨_, its, r, o, h1, h2, n, h3⟩ := (show ObjOk P w H h a (.tup (ks.map kV)) from ok a _ e)
 exact ⟨o, its.toArray, n, h1, h2, h3, by simpa using wM r⟩
theorem uY {kvs : List (List Key × V)} (ok : HOk P w H h) (e : Rd H a (.dT kvs)) : kvs.length <= sizeLine /\ (a == sysModules) = false /\
  ∃ xs, KT H kvs xs /\ h.DictOfH (tupleKind (cX P w)) a xs := by
 obtain ⟨z, y, xs, r, o, es, ep, h1, h2, h3, h4, h5⟩ := (show ObjOk P w H h a (.dT kvs) from Jv ok e)
 refine ⟨z, y, xs, r, o, es, ep, h1, h2, h3, h4, fun x hx => ?_, h5⟩
 have all : ∀ {l : List (List Key × V)} {m : List (List Key × Addr × Value)}, KT H l m -> ∀ x ∈ m, (tupleKind (cX P w)).is h x.1 x.2.1 := by
  intro l m q
  induction q with
  | nil => intro x hx; exact nomatch hx
  | @cons p q ps qs hq t ih =>
   intro x hx
   rcases List.mem_cons.mp hx with e | hx
   ·subst e
    exact qZ ok (by rw [← hq.1]; exact hq.2.1)
   ·exact ih x hx
 exact all r x hx
theorem Qy {kvs : List (List Key × V)} (ok : HOk P w H h) (e : H a = some (.dT kvs)) : kvs.length <= sizeLine /\ (a == sysModules) = false /\
  ∃ xs, KT H kvs xs /\ h.DictOfH (tupleKind (cX P w)) a xs := uY ok (.inl e)
end
def DGet (H : Hp) (a : Addr) (y : V) (r : Option V) : Prop :=
 (∃ kvs k, Rd H a (.dK kvs) /\ y = kV k /\ r = jd kvs k) \/ ∃ kvs k b, Rd H a (.dT kvs) /\ y = .ref b /\ H b = some (.tup (k.map kV)) /\ r = jd kvs k
def DPut (H : Hp) (a : Addr) (y v : V) (H' : Hp) : Prop :=
 (∃ kvs k, H a = some (.dK kvs) /\ y = kV k /\ kvs.length < sizeLine /\ H' = upd H a (.dK (putK kvs k v))) \/
 ∃ kvs k b, H a = some (.dT kvs) /\ y = .ref b /\ H b = some (.tup (k.map kV)) /\ kvs.length < sizeLine /\ H' = upd H a (.dT (putK kvs k v))
theorem DGet.k {H : Hp} {a : Addr} {kvs : List (Key × V)} {k : Key} (e : H a = some (.dK kvs)) : DGet H a (kV k) (jd kvs k) := .inl ⟨kvs, k, .inl e, rfl, rfl⟩
theorem DGet.t {H : Hp} {a b : Addr} {kvs : List (List Key × V)} {k : List Key} (e : H a = some (.dT kvs)) (eb : H b = some (.tup (k.map kV))) : DGet H a (.ref b) (jd kvs k) := .inr ⟨kvs, k, b, .inl e, rfl, eb, rfl⟩
theorem DPut.k {H : Hp} {a : Addr} {kvs : List (Key × V)} {k : Key} {v : V} (e : H a = some (.dK kvs)) (hl : kvs.length < sizeLine) : DPut H a (kV k) v (upd H a (.dK (putK kvs k v))) := .inl ⟨kvs, k, e, rfl, hl, rfl⟩
theorem DPut.t {H : Hp} {a b : Addr} {kvs : List (List Key × V)} {k : List Key} {v : V} (e : H a = some (.dT kvs)) (eb : H b = some (.tup (k.map kV))) (hl : kvs.length < sizeLine) :
  DPut H a (.ref b) v (upd H a (.dT (putK kvs k v))) := .inr ⟨kvs, k, b, e, rfl, eb, hl, rfl⟩
section
variable {X : Cx} {pins : List (Addr × Obj)} {σ : St} {H : Hp} {s : Shared} {a : Addr} {y v : V} {u r : Value} {o : Option V} {A : Around} {E : Value -> Shared -> Prop}
theorem Inv.big (I : Inv X pins σ H s) : sysModules < s.heap.objs.size := by
 have h : mainGlobals < s.heap.objs.size := (I.mod.glob.keeps I.bk).lt
 exact Nat.lt_trans (by decide) h
theorem Ey {Q : Value -> Shared -> Prop} (hu : A.units + 1 < cLine) (I : Inv X pins σ H s) (g : DGet H a y (some v)) (ry : RelV y u) (h : ∀ w' s', Inv X pins σ H s' -> RelV v w' -> Q w' s') :
  wpAny (model X.prog X.w) A (getItem (.ref a) u) Q E s := by
 rcases g with ⟨kvs, k, e, ey, l⟩ | ⟨kvs, k, b, e, ey, eb, l⟩
 ·subst ey
  obtain ⟨z, hd, vs, rel, dd⟩ := tE I.hok e
  obtain ⟨w', hw, rw'⟩ := RelO.some_of (v := v) (o := valueAt vs k) (by rw [l]; exact rel.val k)
  exact wpAny_getItem_of (uX ry) dd.mapOf hw (h w' _ (I.tok _) rw')
 ·subst ey
  cases (show u = Value.ref b from ry)
  obtain ⟨z, hd, xs, rel, dd⟩ := uY I.hok e
  obtain ⟨w', hw, rw'⟩ := RelO.some_of (v := v) (o := (atKey xs k).map (·.2)) (by rw [l]; exact rel.val k)
  obtain ⟨p, hp, hp2⟩ := Option.map_eq_some_iff.mp hw
  refine wpAny_getItem_heap (tupleKind_room_in1 hu) (qZ I.hok eb) dd hp ?_
  rw [hp2]
  exact h w' _ (I.tok _) rw'
theorem RV {Q : Value -> Shared -> Prop} (hu : A.units + 1 < cLine) (I : Inv X pins σ H s) (g : DGet H a y o) (ry : RelV y u) (h : ∀ s', Inv X pins σ H s' -> Q (.bool o.isSome) s') :
  wpAny (model X.prog X.w) A (compareOp .In u (.ref a)) Q E s := by
 rcases g with ⟨kvs, k, e, ey, l⟩ | ⟨kvs, k, b, e, ey, eb, l⟩
 ·subst ey
  obtain ⟨z, hd, vs, rel, dd⟩ := tE I.hok e
  refine wpAny_in_of (uX ry) hd dd.mapOf ?_
  rw [← (rel.val k).isSome_eq, ← l]
  exact h _ (I.tok _)
 ·subst ey
  cases (show u = Value.ref b from ry)
  obtain ⟨z, hd, xs, rel, dd⟩ := uY I.hok e
  refine wpAny_in_heap (tupleKind_room_in1 hu) (qZ I.hok eb) hd dd ?_
  have q := (rel.val k).isSome_eq
  rw [Option.isSome_map] at q
  rw [← q, ← l]
  exact h _ (I.tok _)
theorem J3 {Q : Value -> Shared -> Prop} (hu : A.units + 1 < cLine) (I : Inv X pins σ H s) (g : DGet H a y o) (ry : RelV y u) (h : ∀ s', Inv X pins σ H s' -> Q (.bool (!o.isSome)) s') :
  wpAny (model X.prog X.w) A (compareOp .NotIn u (.ref a)) Q E s := by
 rcases g with ⟨kvs, k, e, ey, l⟩ | ⟨kvs, k, b, e, ey, eb, l⟩
 ·subst ey
  obtain ⟨z, hd, vs, rel, dd⟩ := tE I.hok e
  refine wpAny_notIn_of (uX ry) hd dd.mapOf ?_
  rw [← (rel.val k).isSome_eq, ← l]
  exact h _ (I.tok _)
 ·subst ey
  cases (show u = Value.ref b from ry)
  obtain ⟨z, hd, xs, rel, dd⟩ := uY I.hok e
  refine wpAny_notIn_heap (tupleKind_room_in1 hu) (qZ I.hok eb) hd dd ?_
  have q := (rel.val k).isSome_eq
  rw [Option.isSome_map] at q
  rw [← q, ← l]
  exact h _ (I.tok _)
theorem Bl {h' : Heap} {t' : Nat} {ob : HO} (I : Inv X pins σ H s) (mu : Mut (H a)) (hs : Heap.SameBut a s.heap h') (he : ∃ q, h'.get? a = some q) (new : ObjOk X.prog X.w (upd H a ob) h' a ob) :
  Inv X pins σ (upd H a ob) { s with heap := h', toks := t' } :=
 I.write (x := a) (e := a) mu (.inl rfl) (fun b q hb z => (hs.2 b hb).trans z) he new
theorem M9 {P : Program} {w : World} {H' : Hp} {h' : Heap} {kvs : List (Key × V)} {vs : List (Key × Value)} (z : kvs.length <= sizeLine) (hd : (a == sysModules) = false) (rel : KV kvs vs) (dd : h'.DictOf (cX P w) a vs) :
  ObjOk P w H' h' a (.dK kvs) := ⟨z, hd, vs, rel, dd⟩
theorem Ez {H' : Hp} {Q : Unit -> Shared -> Prop} (hu : A.units + 1 < cLine) (I : Inv X pins σ H s) (g : DPut H a y v H') (ry : RelV y u) (rv : RelV v r) (h : ∀ s', Inv X pins σ H' s' -> Q () s') :
  wpAny (model X.prog X.w) A (setItem (.ref a) u r) Q E s := by
 rcases g with ⟨kvs, k, e, ey, l, eH⟩ | ⟨kvs, k, b, e, ey, eb, l, eH⟩
 ·subst ey eH
  obtain ⟨z, hd, vs, rel, dd⟩ := Jw I.hok e
  have hz : vs.length <= sizeLine := by rw [← rel.length]; exact z
  have hl : (putK kvs k v).length <= sizeLine := by have := oF kvs k v; omega
  refine wpAny_setItem_pairs (hsz := hz) (uX ry) dd fun h' dd' hs => h _ ?_
  have he : ∃ q, h'.get? a = some q := let ⟨q, _, _, hq, _⟩ := dd'; ⟨q, hq⟩
  exact Bl I (by rw [e]; exact True.intro) hs he (M9 hl hd (rel.put k rv) dd')
 ·subst ey eH
  cases (show u = Value.ref b from ry)
  obtain ⟨z, hd, xs, rel, dd⟩ := Qy I.hok e
  have hz : xs.length <= sizeLine := by rw [← Paired.length rel]; exact z
  have hl : (putK kvs k v).length <= sizeLine := by have := oF kvs k v; omega
  refine wpAny_setItem_heap (hsz := hz) (tupleKind_room_in1 hu) (qZ I.hok eb) dd fun h' dd' hs => h _ ?_
  obtain ⟨q, es, ep, hq, h2, h3, h4, _, h5⟩ := dd'
  refine Bl I (by rw [e]; exact True.intro) hs ⟨q, hq⟩ ⟨hl, hd, _, (rel.put k eb rv).keeps fun c ys ec => ?_, q, es, ep, hq, h2, h3, h4, h5⟩
  rw [aO (Qh ec e (fun z => nomatch z))]
  exact ec
end
section
variable {X : Cx} {pins : List (Addr × Obj)} {σ : St} {H : Hp} {s : Shared} {a : Addr} {kvs : List (Key × V)} {k : Key} {u : Value} {A : Around} {E : Value -> Shared -> Prop}
theorem Qz {Q : Value -> Shared -> Prop} (I : Inv X pins σ H s) (e : Rd H a (.dK kvs)) (h : ∀ t s', Inv X pins σ H s' -> Q (.int kvs.length t) s') : wpAny (model X.prog X.w) A (call (.builtin "len") [.ref a]) Q E s := by
 obtain ⟨z, hd, vs, rel, dd⟩ := tE I.hok e
 refine call_len_dict hd dd (by rw [← rel.length]; rw [sizeLine_eq] at z; omega) ?_
 rw [← rel.length]
 exact h _ _ (I.tok _)
end
def Hc (i : Expr) : Prop := ∀ ov iv, subscripted i false ov iv = operate [ov, iv] (getItem ov iv)
theorem J4 {prog : Program} {w : World} {A : Around} {E : Value -> Shared -> Prop} {s : Shared} {env : Env} {value slice : Expr} {pos : Pos} {T id : String} {Q : Value -> Shared -> Prop}
  (hl : typeLookup (.type T) "__getitem__" = pure (some (.builtin id))) (hs : Hc slice)
  (h : wpAny (model prog w) A (eval value env) (fun o s₁ => wpAny (model prog w) A (eval slice env) (fun i s₂ => s₂.TypeIs o T /\ wpAny (model prog w) A (getItem o i) Q E s₂) E s₁) E s) :
  wpAny (model prog w) A (eval (.Subscript value slice pos) env) Q E s := by
 refine Subscript_ (wpAny_mono h (fun o s₁ h₁ => wpAny_mono h₁ (fun i s₂ h₂ => ?_) fun _ _ x => x) fun _ _ x => x)
 obtain ⟨hT, h₂⟩ := h₂
 unfold subscriptTail
 refine wpAny_bind ?_
 rw [getitemInPython_of_ne hT.not_modules]
 refine wpAny_bind (wpAny_specialOf hT hl ?_)
 have fin : wpAny (model prog w) A (subscripted slice false o i) (fun r s₃ => wpAny (model prog w) A (letTemporaryGo value o r >>= fun _ => pure r) Q E s₃) E s₂ := by
  rw [hs o i]
  exact wpAny_operating (wpAny_mono h₂ (fun r s₃ h₃ => wpAny_bind (wpAny_letTemporaryGo (wpAny_pure h₃))) fun _ _ x => x)
 first
  | exact wpAny_pure (wpAny_bind fin)
  | exact wpAny_bind (wpAny_pure (wpAny_bind fin))
  | exact wpAny_bind fin
theorem Ak {X : Cx} {pins : List (Addr × Obj)} {σ : St} {H : Hp} {s : Shared} {a : Addr} {y : V} {o : Option V} (I : Inv X pins σ H s) (g : DGet H a y o) : s.TypeIs (.ref a) "dict" := by
 rcases g with ⟨kvs, k, e, _, _⟩ | ⟨kvs, k, b, e, _, _, _⟩
 ·obtain ⟨_, _, vs, _, dd⟩ := tE I.hok e
  exact dd.typeIs
 ·obtain ⟨_, _, xs, _, dd⟩ := uY I.hok e
  exact dd.typeIs
def QB (td ty : TE) : TE := fun σ H Q => td σ H fun x H1 => ty σ H1 fun y H2 => ∃ a v, x = .ref a /\ DGet H2 a y (some v) /\ Q v H2
def QC (td ty tv : TE) : TS := fun D σ H => tv σ H fun v H1 => td σ H1 fun x H2 => ty σ H2 fun y H3 => ∃ a H4, x = .ref a /\ DPut H3 a y v H4 /\ D.nx σ H4
section
variable {X : Cx} {o i e value : Expr} {pos pos' tpos : Pos} {td ty tv : TE}
theorem J5 (hu : X.A.units + 1 < cLine) (ho : PE X o td) (hi : PE X i ty) (hs : Hc i) : PE X (.Subscript o i pos) (QB td ty) := by
 intro pins s σ H Q I h
 refine J4 PySem.F.slot_dict_getitem.lookup hs (thn (ho pins s σ H _ I h) fun u s1 ⟨x, H1, I1, rx, q1⟩ => thn (hi pins s1 σ H1 _ I1 q1) fun iv s2 ⟨y, H2, I2, ry, a, v, ex, g, q2⟩ => ?_)
 subst ex
 obtain rfl : u = Value.ref a := rx
 exact ⟨Ak I2 g, Ey hu I2 g ry fun w' s3 I3 rw' => ⟨v, H2, I3, rw', q2⟩⟩
theorem J6 (hu : X.A.units + 1 < cLine) (ho : PE X o td) (hi : PE X i ty) (hv : PE X value tv) (hs : swapsWith value (some (.Subscript o i pos')) pos.line X.env = pure false) :
  PS X (.Assign [.Subscript o i pos'] value pos) (QC td ty tv) := by
 intro pins s σ H D I h
 refine wpAny_Assign_Subscript (thn (hv pins s σ H _ I h) fun r s1 ⟨v, H1, I1, rv, q1⟩ => thn (ho pins s1 σ H1 _ I1 q1) fun u s2 ⟨x, H2, I2, rx, q2⟩ => thn (hi pins s2 σ H2 _ I2 q2) fun iv s3 ⟨y, H3, I3, ry, a, H4, ex, g, q3⟩ => ?_) hs
 subst ex
 obtain rfl : u = Value.ref a := rx
 exact Ez hu I3 g ry rv fun s4 I4 => ⟨σ, H4, I4, q3⟩
end
theorem Hd {P : Program} {w : World} {H : Hp} (h : Heap) (hb : sysModules < h.objs.size) : ObjOk P w H (h.push { cls := .type "dict", data := .dict #[] }) h.objs.size (.dK []) :=
 ⟨Nat.zero_le _, beq_eq_false_iff_ne.mpr (Ne.symm (Nat.ne_of_lt hb)), [], .nil, Heap.DictOf.new h⟩
theorem Hf {P : Program} {w : World} {H : Hp} (h : Heap) (hb : sysModules < h.objs.size) : ObjOk P w H (h.push { cls := .type "dict", data := .dict #[] }) h.objs.size (.dT []) :=
 ⟨Nat.zero_le _, beq_eq_false_iff_ne.mpr (Ne.symm (Nat.ne_of_lt hb)), [], .nil, _, #[], 0, Heap.get?_push_size _ rfl, ⟨rfl, rfl, rfl⟩, rfl, rfl, List.nodup_nil⟩
def M_ : TE := fun _ H Q => ∀ p, H p = none -> Q (.ref p) (upd H p (.dK []))
def Nf : TE := fun _ H Q => ∀ p, H p = none -> Q (.ref p) (upd H p (.dT []))
section
variable {X : Cx} {pos : Pos}
theorem Hg : PE X (.Dict [] [] pos) M_ := fun pins s σ H Q I h =>
 wpAny_Dict_empty ⟨.ref s.heap.objs.size, _, I.laid (a := s.heap.objs.size) (o := .dK []) (t' := s.toks) (fun _ _ q => Heap.get?_push_of_some _ q) (Nat.le_refl _) (Hd s.heap I.big), rfl, h _ (I.hok.fresh (Nat.le_refl _))⟩
theorem Hh : PE X (.Dict [] [] pos) Nf := fun pins s σ H Q I h =>
 wpAny_Dict_empty ⟨.ref s.heap.objs.size, _, I.laid (a := s.heap.objs.size) (o := .dT []) (t' := s.toks) (fun _ _ q => Heap.get?_push_of_some _ q) (Nat.le_refl _) (Hf s.heap I.big), rfl, h _ (I.hok.fresh (Nat.le_refl _))⟩
end
def jR (kvs more : List (Key × V)) : List (Key × V) := more.foldl (fun acc kv => putK acc kv.1 kv.2) kvs
theorem KV.merge : ∀ {more : List (Key × V)} {rs : List (Key × Value)} {kvs : List (Key × V)} {vs : List (Key × Value)}, KV more rs -> KV kvs vs -> KV (jR kvs more) (merged vs rs) := by
 intro more rs kvs vs r
 unfold KV at r
 induction r generalizing kvs vs with
 | nil => intro q; exact q
 | @cons p q ps qs h t ih =>
  intro r0
  have e : KV (putK kvs p.1 p.2) (stored vs q.1 q.2) := by
   have := r0.put p.1 h.2
   rw [← h.1]; exact this
  exact ih e
theorem qN : ∀ (more kvs : List (Key × V)), (jR kvs more).length <= kvs.length + more.length
 | [], kvs => by show kvs.length <= kvs.length + 0; omega
 | p :: r, kvs => by
  have h1 := qN r (putK kvs p.1 p.2)
  have h2 := oF kvs p.1 p.2
  show (jR (putK kvs p.1 p.2) r).length <= _
  rw [List.length_cons]; omega
section
variable {X : Cx} {pins : List (Addr × Obj)} {σ : St} {H : Hp} {s : Shared} {a : Addr} {y d : V} {u r : Value} {o : Option V} {A : Around} {E : Value -> Shared -> Prop}
end
section
variable {X : Cx} {o e f : Expr} {apos cpos : Pos} {td ty tx : TE}
end
section
variable {X : Cx} {pins : List (Addr × Obj)} {σ : St} {H : Hp} {s : Shared} {a : Addr} {kvs : List (Key × V)} {A : Around} {E : Value -> Shared -> Prop}
end
section
variable {X : Cx} {pins : List (Addr × Obj)} {σ : St} {H : Hp} {s : Shared} {a : Addr} {y : V} {u : Value} {A : Around} {E : Value -> Shared -> Prop}
end
end L2
namespace HT
open PySem PyProof.Rows
section
open PySem.SeqAt
open PySem.AutoSeq1 (wpAny_loadPart')
open PySem.MeetsSeq PySem.MeetsSeq2 PySem.MeetsSeq3
end
section
variable {prog : Program} {w : World} {A : Around} {E : Value -> Shared -> Prop} {s : Shared}
def sIx (n d : Nat) : Option Int -> Nat
 | none => d
 | some v => if v < 0 then (v + (n : Int)).toNat else min v.toNat n
theorem sIx_none (n d : Nat) : sIx n d none = d := rfl
theorem sIx_nat (n d k : Nat) : sIx n d (some (k : Int)) = min k n := by
 show (if (k : Int) < 0 then ((k : Int) + (n : Int)).toNat else min (k : Int).toNat n) = min k n
 rw [if_neg (by omega), Int.toNat_natCast]
theorem sIx_le (n d : Nat) (hd : d <= n) (o : Option Int) : sIx n d o <= n := by
 cases o with
 | none => exact hd
 | some v =>
  show (if v < 0 then (v + (n : Int)).toNat else min v.toNat n) <= n
  by_cases hv : v < 0
  ·rw [if_pos hv]; omega
  ·rw [if_neg hv]; exact Nat.min_le_right _ _
end
end HT
namespace L2
open PySem PySem.Spec PyProof.Rows
abbrev TO := St -> Hp -> (Option Int -> Hp -> Prop) -> Prop
def PO (X : Cx) (e : Option Expr) (t : TO) : Prop :=
 ∀ (pins : List (Addr × Obj)) (s : Shared) (σ : St) (H : Hp) (Q : Option Int -> Hp -> Prop), Inv X pins σ H s -> t σ H Q ->
  wpAny (model X.prog X.w) X.A (evalPart e X.env) (fun u s' => ∃ o H', Inv X pins σ H' s' /\ IsPart u o /\ Q o H') X.xe s
def J7 : TO := fun _ H Q => Q none H
def QD (t : TE) : TO := fun σ H Q => t σ H fun x H1 => ∃ i, x = .int i /\ Q (some i) H1
theorem intsAre_of {ns : List Int} : ∀ {us : List Value}, Vals (ns.map V.int) us -> IntsAre us ns := by
 induction ns with
 | nil => intro us r; rw [List.map_nil] at r; cases r; exact .nil
 | cons n ns ih =>
  intro us r
  rw [List.map_cons] at r
  cases r with
  | cons r1 r2 =>
   obtain ⟨t, e⟩ := r1
   subst e
   exact .cons n t (ih r2)
section
variable {X : Cx} {e : Expr} {te : TE} {lo hi : Option Expr} {tl th : TO} {pos p2 : Pos}
theorem J8 : PO X none J7 := by
 intro pins s σ H Q I h
 rw [evalPart_none]
 exact wpAny_pure ⟨none, H, I, .none, h⟩
theorem J9 (h : PE X e te) : PO X (some e) (QD te) := by
 intro pins s σ H Q I hw
 rw [evalPart_some]
 refine thn (h pins s σ H _ I hw) fun u s1 ⟨x, H1, I1, r1, q1⟩ => ?_
 obtain ⟨i, rfl, q⟩ := q1
 obtain ⟨t, rfl⟩ := r1
 exact ⟨some i, H1, I1, .int i t, q⟩
def SlR (X : Cx) (r : V -> Option Int -> Option Int -> Hp -> VK -> Prop) : Prop :=
 ∀ (pins : List (Addr × Obj)) (s : Shared) (σ : St) (H : Hp) (x : V) (v vl vu : Value) (lo hi : Option Int) (sl : Addr) (Q : VK), Inv X pins σ H s -> RelV x v -> s.heap.IsSliceOf sl vl vu .none -> IsPart vl lo -> IsPart vu hi -> r x lo hi H Q ->
  ∃ T id, typeLookup (.type T) "__getitem__" = pure (some (.builtin id)) /\ s.TypeIs v T /\ wpAny (model X.prog X.w) X.A (getItem v (.ref sl)) (EP X pins σ Q) X.xe s
theorem SlR.or {r r' : V -> Option Int -> Option Int -> Hp -> VK -> Prop} (h : SlR X r) (h' : SlR X r') : SlR X (fun x lo hi H Q => r x lo hi H Q \/ r' x lo hi H Q) := by
 intro pins s σ H x v vl vu lo hi sl Q I rx hs pl pu q
 rcases q with q | q
 ·exact h pins s σ H x v vl vu lo hi sl Q I rx hs pl pu q
 ·exact h' pins s σ H x v vl vu lo hi sl Q I rx hs pl pu q
def tSl (r : V -> Option Int -> Option Int -> Hp -> VK -> Prop) (te : TE) (tl th : TO) : TE := fun σ H Q => te σ H fun x H1 => tl σ H1 fun l H2 => th σ H2 fun u H3 => r x l u H3 Q
theorem Hi {r : V -> Option Int -> Option Int -> Hp -> VK -> Prop} (hr : SlR X r) (he : PE X e te) (hl : PO X lo tl) (hu : PO X hi th) : PE X (.Subscript e (.Slice lo hi none p2) pos) (tSl r te tl th) := by
 intro pins s σ H Q I h
 refine Subscript_ (thn (he pins s σ H _ I h) fun v s1 ⟨x, H1, I1, r1, q1⟩ => ?_)
 refine wpAny_Slice (thn (hl pins s1 σ H1 _ I1 q1) fun vl s2 ⟨l, H2, I2, pl, q2⟩ => thn (hu pins s2 σ H2 _ I2 q2) fun vu s3 ⟨u, H3, I3, pu, q3⟩ => ?_)
 rw [evalPart_none]
 refine wpAny_pure ?_
 have I4 : Inv X pins σ H3 { s3 with heap := s3.heap.push { cls := .type "slice", data := .fields #[vl, vu, .none] } } := I3.kept (t' := s3.toks) fun b ob q => Heap.get?_push_of_some _ q
 obtain ⟨T, id, hT, ht, hg⟩ := hr pins { s3 with heap := s3.heap.push { cls := .type "slice", data := .fields #[vl, vu, .none] } } σ H3 x v vl vu l u s3.heap.objs.size Q I4 r1 (Heap.IsSliceOf.new ..) pl pu q3
 show wpAny (model X.prog X.w) X.A (subscriptTail e (.Slice lo hi none p2) v (.ref s3.heap.objs.size)) (EP X pins σ Q) X.xe { s3 with heap := s3.heap.push { cls := .type "slice", data := .fields #[vl, vu, .none] } }
 exact tail_any (ops := [.ref s3.heap.objs.size, v]) ht hT hg (by with_unfolding_all rfl)
def vU (xs : List V) (lo hi : Option Int) : List V := (xs.drop (HT.sIx xs.length 0 lo)).take (HT.sIx xs.length xs.length hi - HT.sIx xs.length 0 lo)
theorem Al (xs : List V) (lo hi : Option Int) : (vU xs lo hi).length <= xs.length := by
 unfold vU
 rw [List.length_take, List.length_drop]
 omega
end
end L2
namespace L2
open PySem PySem.Spec PyProof.Rows
def ixN (n : Nat) (i : Int) : Option Nat := if 0 <= i then (if i < n then some i.toNat else none) else if -(n : Int) <= i then some (i + n).toNat else none
def atI {α : Type} (xs : List α) (i : Int) : Option α := (ixN xs.length i).bind fun j => xs[j]?
theorem Bm {n : Nat} {i : Int} {j : Nat} (h : ixN n i = some j) : seqIndex? i n = some j /\ j < n /\ -(n : Int) <= i /\ i < n := by
 unfold ixN at h
 by_cases h0 : 0 <= i
 ·rw [if_pos h0] at h
  by_cases h1 : i < n
  ·rw [if_pos h1] at h
   have e : i.toNat = j := Option.some.inj h
   exact ⟨by rw [seqIndex_of h0 h1, e], by omega, by omega, h1⟩
  ·rw [if_neg h1] at h; cases h
 ·rw [if_neg h0] at h
  by_cases h1 : -(n : Int) <= i
  ·rw [if_pos h1] at h
   have e : (i + n).toNat = j := Option.some.inj h
   exact ⟨by rw [seqIndex_neg (by omega) h1, e], by omega, h1, by omega⟩
  ·rw [if_neg h1] at h; cases h
theorem vV {α : Type} {xs : List α} {i : Int} {v : α} (h : atI xs i = some v) : ∃ j, seqIndex? i xs.length = some j /\ xs[j]? = some v /\ j < xs.length /\ -(xs.length : Int) <= i /\ i < xs.length := by
 unfold atI at h
 cases e : ixN xs.length i with
 | none => rw [e] at h; cases h
 | some j =>
  rw [e] at h
  obtain ⟨h1, h2, h3, h4⟩ := Bm e
  exact ⟨j, h1, h, h2, h3, h4⟩
theorem J_ {α : Type} {xs : List α} {j : Nat} {v : α} (h : xs[j]? = some v) : atI xs (j : Int) = some v := by
 have hj : j < xs.length := (List.getElem?_eq_some_iff.mp h).1
 have e : ixN xs.length (j : Int) = some j := by
  unfold ixN
  rw [if_pos (by omega), if_pos (by omega)]; simp
 unfold atI; rw [e]; exact h
def Bo (b : Expr) : Prop := ∀ o i, subscripted b false o i = operate [o, i] (getItem o i)
def IxR (X : Cx) (r : R2) : Prop :=
 ∀ (value slice : Expr) (pins : List (Addr × Obj)) (s : Shared) (σ : St) (H : Hp) (x y : V) (v u : Value) (Q : VK), Inv X pins σ H s -> RelV x v -> RelV y u -> r x y H Q ->
  subscripted slice false v u = operate [v, u] (getItem v u) -> wpAny (model X.prog X.w) X.A (subscriptTail value slice v u) (EP X pins σ Q) X.xe s
def MtR (X : Cx) (id : String) (r : V -> List V -> Hp -> VK -> Prop) : Prop :=
 ∀ (pins : List (Addr × Obj)) (s : Shared) (σ : St) (H : Hp) (x : V) (xs : List V) (v : Value) (us : List Value) (Q : VK), Inv X pins σ H s -> RelV x v -> Vals xs us -> r x xs H Q ->
  wpAny (model X.prog X.w) X.A (call (.builtin id) (v :: us)) (EP X pins σ Q) X.xe s
section
variable {X : Cx} {a b : Expr} {ta tb : TE} {pos : Pos}
theorem IxR.or {r r' : R2} (h : IxR X r) (h' : IxR X r') : IxR X (fun x y H Q => r x y H Q \/ r' x y H Q) := by
 intro value slice pins s σ H x y v u Q I rx ry q hs
 rcases q with q | q
 ·exact h value slice pins s σ H x y v u Q I rx ry q hs
 ·exact h' value slice pins s σ H x y v u Q I rx ry q hs
theorem MtR.or {id : String} {r r' : V -> List V -> Hp -> VK -> Prop} (h : MtR X id r) (h' : MtR X id r') : MtR X id (fun x xs H Q => r x xs H Q \/ r' x xs H Q) := by
 intro pins s σ H x xs v us Q I rx rs q
 rcases q with q | q
 ·exact h pins s σ H x xs v us Q I rx rs q
 ·exact h' pins s σ H x xs v us Q I rx rs q
theorem QF {r : R2} (hr : IxR X r) (ha : PE X a ta) (hb : PE X b tb) (hs : Bo b) : PE X (.Subscript a b pos) (tOp r ta tb) := by
 intro pins s σ H Q I h
 exact Subscript_ (G6 ha hb I h fun v u s2 x y H2 I2 rx ry q => hr a b pins s2 σ H2 x y v u Q I2 rx ry q (hs _ _))
def Ng (K : PySem.W.Frag) : R2 := fun x y H Q => ∃ p xs i v, x = .ref p /\ y = .int i /\ SqL K H p xs /\ atI xs i = some v /\ Q v H
def Nh (K : PySem.W.Frag) : R2 := fun x y H Q => ∃ p xs i v, x = .ref p /\ y = .int i /\ SqT K H p xs /\ atI xs i = some v /\ Q v H
def Ni : R2 := fun x y H Q => ∃ z i c, x = .str z /\ y = .int i /\ z.length <= sizeLine /\ atI z.cps.toList i = some c /\ Q (.str ⟨#[c]⟩) H
theorem ix_list : IxR X (Ng X.K) := by
 intro value slice pins s σ H x y v u Q I rx ry h hs
 obtain ⟨p, xs, i, z, rfl, rfl, hq, he, q⟩ := h
 cases rx
 obtain ⟨t, rfl⟩ := ry
 obtain ⟨its, r, pl, hz⟩ := I.list hq
 obtain ⟨j, h1, h2, h3, h4, h5⟩ := vV he
 obtain ⟨w, ew, rw'⟩ := r.get h2
 have hl := r.length
 have hn := o5
 have fin : EP X pins σ Q w s := ⟨z, H, I, rw', q⟩
 by_cases h0 : 0 <= i
 ·have hj : i.toNat = j := by
   rw [seqIndex_of h0 h5] at h1
   exact Option.some.inj h1
  exact item_listR pl.isList h0 (by omega) (by rw [hj]; simpa using ew) fin hs
 ·have hj : (i + (its.toArray.size : Int)).toNat = j := by
   rw [seqIndex_neg (by omega) h4] at h1
   rw [List.size_toArray, ← hl]
   exact Option.some.inj h1
  exact subscriptTail_builtinR (x := w) pl.isList.typeIs slot_list_getitem.lookup
   (wpAny_getItem_list_neg (Q := fun r s' => r = w /\ EP X pins σ Q r s') pl.isList (by omega) (by rw [List.size_toArray] <;> omega) (by omega) (by rw [hj]; simpa using ew) ⟨rfl, fin⟩) hs
theorem ix_tup : IxR X (Nh X.K) := by
 intro value slice pins s σ H x y v u Q I rx ry h hs
 obtain ⟨p, xs, i, z, rfl, rfl, hq, he, q⟩ := h
 cases rx
 obtain ⟨t, rfl⟩ := ry
 obtain ⟨its, r, pl, hz⟩ := I.tuple hq
 obtain ⟨j, h1, h2, h3, h4, h5⟩ := vV he
 obtain ⟨w, ew, rw'⟩ := r.get h2
 have hl := r.length
 have hn := o5
 have fin : EP X pins σ Q w s := ⟨z, H, I, rw', q⟩
 exact subscriptTail_builtinR (x := w) pl.typeIs slot_tuple_getitem.lookup
  (getItem_tuple (j := j) (Q := fun r s' => r = w /\ EP X pins σ Q r s') pl (by omega) (by omega) (by rw [List.size_toArray, ← hl]; exact h1) (by simpa using ew) ⟨rfl, fin⟩) hs
theorem Nj : IxR X Ni := by
 intro value slice pins s σ H x y v u Q I rx ry h hs
 obtain ⟨z, i, c, rfl, rfl, hz, he, q⟩ := h
 obtain ⟨t, rfl⟩ := rx
 obtain ⟨t', rfl⟩ := ry
 obtain ⟨j, h1, h2, h3, h4, h5⟩ := vV he
 have hl : z.cps.toList.length = z.length := by simp [Str.length]
 rw [hl] at h1 h4 h5
 have hn := o5
 exact tail_any (typeIs_str s z t) slot_str_getitem.lookup (getItem_str (c := c) (by
  have e1 : decide (i < -(2 ^ 63 : Int)) = false := decide_eq_false (by omega)
  have e2 : decide (i ≥ 2 ^ 63) = false := decide_eq_false (by omega)
  rw [e1, e2, Bool.or_false]) (by rw [h1]; simpa using h2) ⟨.str ⟨#[c]⟩, H, I.tok _, ⟨_, rfl⟩, q⟩) hs
def rIx (K : PySem.W.Frag) : R2 := fun x y H Q => Ng K x y H Q \/ Nh K x y H Q \/ Ni x y H Q
theorem Nk : IxR X (rIx X.K) := ix_list.or (ix_tup.or Nj)
theorem CK (its : List Value) (n j : Nat) (u : Value) : Obj.mapSeq (·.setIfInBounds j u) { cls := .type "list", data := .seq its.toArray n } = { cls := .type "list", data := .seq (its.set j u).toArray n } := by
 simp [Obj.mapSeq]
theorem Inv.lst {pins : List (Addr × Obj)} {σ : St} {H : Hp} {s : Shared} {p : Addr} {xs : List V} (I : Inv X pins σ H s) (h : H p = some (.lst xs)) :
  ∃ (its : List Value) (n : Nat), Vals xs its /\ s.heap.get? p = some { cls := .type "list", data := .seq its.toArray n } /\ xs.length <= sizeLine := by
 obtain ⟨z, its, n, r, e⟩ := I.hok p _ h
 exact ⟨its, n, r, e, z⟩
theorem Inv.lstUpd {pins : List (Addr × Obj)} {σ : St} {H : Hp} {s : Shared} {p : Addr} {xs ys : List V} {its its' : List Value} {n n' : Nat} {f : Obj -> Obj} (I : Inv X pins σ H s) (h : H p = some (.lst xs))
  (ho : s.heap.get? p = some { cls := .type "list", data := .seq its.toArray n }) (hf : f { cls := .type "list", data := .seq its.toArray n } = { cls := .type "list", data := .seq its'.toArray n' }) (r : Vals ys its') (hz : ys.length <= sizeLine) (t : Nat) :
  Inv X pins σ (upd H p (.lst ys)) { s with heap := s.heap.update p f, toks := t } := by
 have e : (s.heap.update p f).get? p = some { cls := .type "list", data := .seq its'.toArray n' } := by
  rw [Heap.get?_update_self f ho (by rw [hf] <;> rfl), hf]
 refine I.write (x := p) (e := p) (by rw [h]; trivial) (.inl rfl) (fun b u hb q => (Heap.get?_update_other _ _ (Ne.symm hb)).trans q) ⟨_, e⟩ ?_
 exact ⟨hz, its', n', r, e⟩
def QG : V -> V -> V -> Hp -> (Hp -> Prop) -> Prop := fun o i v H Q => ∃ p xs k j, o = .ref p /\ i = .int k /\ H p = some (.lst xs) /\ ixN xs.length k = some j /\ Q (upd H p (.lst (xs.set j v)))
theorem set_list : Mr X QG := by
 intro pins s σ H o i v ov iv u Q I ro ri rv h
 obtain ⟨p, xs, k, j, rfl, rfl, hp, hj, q⟩ := h
 cases ro
 obtain ⟨t, rfl⟩ := ri
 obtain ⟨its, n, r, ho, hz⟩ := I.lst hp
 obtain ⟨h1, h2, h3, h4⟩ := Bm hj
 have hl := r.length
 have hn := o5
 have I' : Inv X pins σ (upd H p (.lst (xs.set j v))) { s with heap := s.heap.update p (Obj.mapSeq (·.setIfInBounds j u)) } :=
  I.lstUpd hp ho (CK its n j u) (r.set rv j) (by rw [List.length_set]; exact hz) s.toks
 by_cases h0 : 0 <= k
 ·have hk : k.toNat = j := by
   rw [seqIndex_of h0 h4] at h1
   exact Option.some.inj h1
  exact PySem.W.ki_setAt ho h0 (by omega) (by rw [List.size_toArray, ← hl]; exact h4) (by rw [hk]; exact ⟨_, I', q⟩)
 ·have hk : (k + (its.toArray.size : Int)).toNat = j := by
   rw [seqIndex_neg (by omega) h3] at h1
   rw [List.size_toArray, ← hl]
   exact Option.some.inj h1
  exact PySem.W.ki_setBack ho (by omega) (by rw [List.size_toArray, ← hl]; exact h3) (by omega) (by rw [hk]; exact ⟨_, I', q⟩)
theorem yO (lo hi : Option Int) (n : Nat) : (sliceBounds lo hi none n).1 = ((HT.sIx n 0 lo : Nat) : Int) /\ (sliceBounds lo hi none n).2.1 = ((HT.sIx n n hi : Nat) : Int) /\ (sliceBounds lo hi none n).2.2 = 1 := by
 refine ⟨?_, ?_, rfl⟩
 ·cases lo with
  | none => simp [sliceBounds, HT.sIx]
  | some i =>
   simp only [sliceBounds, HT.sIx, Option.getD_none, show (1 : Int) > 0 by decide, if_true]
   by_cases h : i < 0
   ·simp only [h, if_true] <;> omega
   ·simp only [h, if_false] <;> omega
 ·cases hi with
  | none => simp [sliceBounds, HT.sIx]
  | some i =>
   simp only [sliceBounds, HT.sIx, Option.getD_none, show (1 : Int) > 0 by decide, if_true]
   by_cases h : i < 0
   ·simp only [h, if_true] <;> omega
   ·simp only [h, if_false] <;> omega
theorem xW (its : List Value) (lo hi : Option Int) : slicePick its.toArray lo hi none = ((its.drop (HT.sIx its.length 0 lo)).take (HT.sIx its.length its.length hi - HT.sIx its.length 0 lo)).toArray := by
 obtain ⟨h1, h2, h3⟩ := yO lo hi its.toArray.size
 unfold slicePick
 rw [h1, h2, h3]
 simp only [sliceRange_one, pick_run, List.size_toArray] <;> rfl
def Nm (K : PySem.W.Frag) : V -> Option Int -> Option Int -> Hp -> VK -> Prop := fun x lo hi H Q => ∃ a xs, x = .ref a /\ SqL K H a xs /\ ∀ p, H p = none -> Q (.ref p) (upd H p (.lst (vU xs lo hi)))
theorem sl_list : SlR X (Nm X.K) := by
 intro pins s σ H x v vl vu lo hi sl Q I rx hs pl pu h
 obtain ⟨a, xs, rfl, hx, q⟩ := h
 cases rx
 obtain ⟨its, r, ht, hz⟩ := I.list hx
 have hlen := r.length
 refine ⟨"list", _, slot_list_getitem.lookup, ht.isList.typeIs, ?_⟩
 refine wpAny_getItem_list_slice ht.isList hs pl pu .none (by simp) ?_ (by rw [List.size_toArray] <;> omega)
 rw [xW, ← hlen]
 refine ⟨.ref s.heap.objs.size, _, I.laid (t' := s.toks) (o := .lst (vU xs lo hi)) (fun b ob q => Heap.get?_push_of_some _ q) (Nat.le_refl _) ?_, rfl, q _ (I.hok.fresh (Nat.le_refl _))⟩
 exact ⟨Nat.le_trans (Al xs lo hi) hz, _, 0, (r.drop (HT.sIx xs.length 0 lo)).take (HT.sIx xs.length xs.length hi - HT.sIx xs.length 0 lo), Heap.get?_push_size _ rfl⟩
def iR : V -> Bool
 | .non => true
 | .bl _ => true
 | .int _ => true
 | .str _ => true
 | _ => false
def eqV : V -> V -> Bool
 | .non, .non => true
 | .bl a, .bl b => a == b
 | .bl a, .int b => (if a then 1 else 0) == b
 | .int a, .bl b => a == (if b then 1 else 0)
 | .int a, .int b => a == b
 | .str a, .str b => a == b
 | _, _ => false
theorem Np {A : Around} {s : Shared} {y x : V} {u v : Value} (ry : RelV y u) (rx : RelV x v) (fy : iR y = true) (fx : iR x = true) : SeqAt.EqAt A s u v (eqV y x) := by
 cases y with
 | non =>
  cases ry
  cases x with
  | non => cases rx; exact SeqAt.EqAt.same _
  | bl b => cases rx; exact SeqAt.EqAt.none_bool b
  | int b => obtain ⟨t, rfl⟩ := rx; exact SeqAt.EqAt.none_int b t
  | str b => obtain ⟨t, rfl⟩ := rx; exact SeqAt.EqAt.none_str b t
  | _ => exact absurd (show false = true from fx) Bool.false_ne_true
 | bl a =>
  cases ry
  cases x with
  | non => cases rx; exact SeqAt.EqAt.bool_none a
  | bl b => cases rx; exact SeqAt.EqAt.bool_bool a b
  | int b => obtain ⟨t, rfl⟩ := rx; exact SeqAt.EqAt.bool_int a b t
  | str b => obtain ⟨t, rfl⟩ := rx; exact SeqAt.EqAt.bool_str a b t
  | _ => exact absurd (show false = true from fx) Bool.false_ne_true
 | int a =>
  obtain ⟨t', rfl⟩ := ry
  cases x with
  | non => cases rx; exact SeqAt.EqAt.int_none a t'
  | bl b => cases rx; exact SeqAt.EqAt.int_bool a t' b
  | int b => obtain ⟨t, rfl⟩ := rx; exact SeqAt.EqAt.int_int a t' b t
  | str b => obtain ⟨t, rfl⟩ := rx; exact SeqAt.EqAt.int_str a t' b t
  | _ => exact absurd (show false = true from fx) Bool.false_ne_true
 | str a =>
  obtain ⟨t', rfl⟩ := ry
  cases x with
  | non => cases rx; exact SeqAt.EqAt.str_none a t'
  | bl b => cases rx; exact SeqAt.EqAt.str_bool a t' b
  | int b => obtain ⟨t, rfl⟩ := rx; exact SeqAt.EqAt.str_int a t' b t
  | str b => obtain ⟨t, rfl⟩ := rx; exact SeqAt.EqAt.str_str a t' b t
  | _ => exact absurd (show false = true from fx) Bool.false_ne_true
 | _ => exact absurd (show false = true from fy) Bool.false_ne_true
def eqU (x : V) (u : Value) : Bool := match u with
 | .none => eqV .non x
 | .bool b => eqV (.bl b) x
 | .int i _ => eqV (.int i) x
 | .str z _ => eqV (.str z) x
 | _ => false
theorem EY {x y : V} {u : Value} (r : RelV y u) (f : iR y = true) : eqU x u = eqV y x := by
 cases y with
 | non => cases r; rfl
 | bl b => cases r; rfl
 | int i => obtain ⟨t, rfl⟩ := r; rfl
 | str z => obtain ⟨t, rfl⟩ := r; rfl
 | _ => exact absurd (show false = true from f) Bool.false_ne_true
theorem o8 {x : V} : ∀ {xs : List V} {us : List Value}, Vals xs us -> xs.all iR = true -> us.any (eqU x) = xs.any fun y => eqV y x
 | _, _, .nil, _ => rfl
 | y :: xs, u :: us, .cons r t, f => by
  rw [List.all_cons, Bool.and_eq_true] at f
  rw [List.any_cons, List.any_cons, EY r f.1, o8 t f.2]
theorem mQ {A : Around} {s : Shared} {x : V} {v : Value} (rx : RelV x v) (fx : iR x = true) : ∀ {xs : List V} {us : List Value}, Vals xs us -> xs.all iR = true -> ∀ u ∈ us, SeqAt.EqAt A s u v (eqU x u)
 | _, _, .nil, _ => fun u hu => by cases hu
 | y :: xs, u :: us, .cons r t, f => fun u' hu => by
  rw [List.all_cons, Bool.and_eq_true] at f
  rcases List.mem_cons.mp hu with rfl | hu
  ·rw [EY r f.1]; exact Np r rx f.1 fx
  ·exact mQ rx fx t f.2 u' hu
def inV (x : V) (xs : List V) : Bool := xs.any fun y => eqV y x
def rIn (K : PySem.W.Frag) (neg : Bool) : R2 := fun x y H Q => ∃ p xs, y = .ref p /\ (SqL K H p xs \/ SqT K H p xs) /\ iR x = true /\ xs.all iR = true /\ Q (.bl (if neg then !inV x xs else inV x xs)) H
theorem E_ : OpR X (compareOp .In) (rIn X.K false) := by
 intro pins s σ H x y v u Q I rx ry h
 obtain ⟨p, xs, rfl, hq, fx, fs, q⟩ := h
 cases ry
 rcases hq with hq | hq
 ·obtain ⟨its, r, pl, hz⟩ := I.list hq
  refine SeqAt.in_listAt (eqU x) pl.isList (fun w hw => mQ rx fx r fs w (by simpa using hw)) ⟨.bl _, H, I, rfl, ?_⟩
  rw [show its.toArray.any (eqU x) = its.any (eqU x) by simp, o8 r fs]
  exact q
 ·obtain ⟨its, r, pl, hz⟩ := I.tuple hq
  refine SeqAt.in_tupleAt (eqU x) pl (fun w hw => mQ rx fx r fs w (by simpa using hw)) ⟨.bl _, H, I, rfl, ?_⟩
  rw [show its.toArray.any (eqU x) = its.any (eqU x) by simp, o8 r fs]
  exact q
theorem yP : OpR X (compareOp .NotIn) (rIn X.K true) := by
 intro pins s σ H x y v u Q I rx ry h
 obtain ⟨p, xs, rfl, hq, fx, fs, q⟩ := h
 cases ry
 rcases hq with hq | hq
 ·obtain ⟨its, r, pl, hz⟩ := I.list hq
  refine SeqAt.notIn_listAt (eqU x) pl.isList (fun w hw => mQ rx fx r fs w (by simpa using hw)) ⟨.bl _, H, I, rfl, ?_⟩
  rw [show its.toArray.any (eqU x) = its.any (eqU x) by simp, o8 r fs]
  exact q
 ·obtain ⟨its, r, pl, hz⟩ := I.tuple hq
  refine SeqAt.notIn_tupleAt (eqU x) pl (fun w hw => mQ rx fx r fs w (by simpa using hw)) ⟨.bl _, H, I, rfl, ?_⟩
  rw [show its.toArray.any (eqU x) = its.any (eqU x) by simp, o8 r fs]
  exact q
theorem yQ : OpR X (compareOp .NotIn) (fun x y H Q => ∃ i j, x = .str i /\ y = .str j /\ Q (.bl (!(!(Builtin.Str.occurrences j i 0 j.length 1).isEmpty))) H) := by
 intro pins s σ H x y v u Q I rx ry h
 obtain ⟨i, j, rfl, rfl, q⟩ := h
 obtain ⟨t, rfl⟩ := rx
 obtain ⟨t', rfl⟩ := ry
 exact notIn_str ⟨.bl _, H, I, rfl, q⟩
theorem yR : CallR X (.builtin "len") (fun xs H Q => ∃ p ys, xs = [.ref p] /\ (SqL X.K H p ys \/ SqT X.K H p ys) /\ Q (.int ys.length) H) := by
 intro pins s σ H xs us Q I r h
 obtain ⟨p, ys, rfl, hq, q⟩ := h
 obtain ⟨u, rfl, rx⟩ := vals1 r
 cases rx
 have hn := o5
 rcases hq with hq | hq
 ·obtain ⟨its, r', pl, hz⟩ := I.list hq
  have hlen := r'.length
  exact Calls.call_len_list pl.isList (by simp only [List.size_toArray] <;> omega) ⟨.int ys.length, H, I.tok _, ⟨s.toks + 1, by rw [List.size_toArray, hlen]⟩, q⟩
 ·obtain ⟨its, r', pl, hz⟩ := I.tuple hq
  have hlen := r'.length
  exact len_tuple pl (by simp only [List.size_toArray] <;> omega) ⟨.int ys.length, H, I.tok _, ⟨s.toks + 1, by rw [List.size_toArray, hlen]⟩, q⟩
theorem yS : CallR X (.builtin "len") (fun xs H Q => ∃ z, xs = [.str z] /\ z.length <= sizeLine /\ Q (.int z.length) H) := by
 intro pins s σ H xs us Q I r h
 obtain ⟨z, rfl, hz, q⟩ := h
 obtain ⟨u, rfl, t, rfl⟩ := vals1 r
 have hn := o5
 exact len_str (by omega) ⟨.int z.length, H, I.tok _, ⟨_, rfl⟩, q⟩
theorem CallR.or {f : Value} {r r' : List V -> Hp -> VK -> Prop} (h : CallR X f r) (h' : CallR X f r') : CallR X f (fun xs H Q => r xs H Q \/ r' xs H Q) := by
 intro pins s σ H xs us Q I rs q
 rcases q with q | q
 ·exact h pins s σ H xs us Q I rs q
 ·exact h' pins s σ H xs us Q I rs q
theorem yU : CallR X (.type "list") (fun xs H Q => ∃ p ys, xs = [.ref p] /\ (SqL X.K H p ys \/ SqT X.K H p ys) /\ ∀ l, H l = none -> Q (.ref l) (upd H l (.lst ys))) := by
 intro pins s σ H xs us Q I r h
 obtain ⟨p, ys, rfl, hq, q⟩ := h
 obtain ⟨u, rfl, rx⟩ := vals1 r
 cases rx
 have fin : ∀ (its : List Value), Vals ys its -> ys.length <= sizeLine -> ∀ (h' : Heap) (c' : Nat), (∀ b o', s.heap.get? b = some o' -> h'.get? b = some o') ->
   h'.get? s.heap.objs.size = some { cls := .type "list", dict := none, data := .seq its.toArray c', slots := #[] } -> EP X pins σ Q (.ref s.heap.objs.size) { s with heap := h' } := fun its r' hz h' c' kp e =>
  ⟨.ref s.heap.objs.size, _, I.laid (t' := s.toks) kp (Nat.le_refl _) (show ObjOk X.prog X.w _ h' _ (.lst ys) from ⟨hz, its, c', r', e⟩), rfl, q _ (I.hok.fresh (Nat.le_refl _))⟩
 rcases hq with hq | hq
 ·obtain ⟨its, r', pl, hz⟩ := I.list hq
  have hlen := r'.length
  obtain ⟨o, ho, hc, n, hd⟩ := pl.isList
  exact call_list_seq p (.inl rfl) ho hc hd (fun h' c' kp e => fin its r' hz h' c' kp e) (by simp only [List.size_toArray] <;> omega)
 ·obtain ⟨its, r', pl, hz⟩ := I.tuple hq
  have hlen := r'.length
  obtain ⟨o, ho, hc, n, hd⟩ := pl
  exact call_list_seq p (.inr rfl) ho hc hd (fun h' c' kp e => fin its r' hz h' c' kp e) (by simp only [List.size_toArray] <;> omega)
def tyV (K : PySem.W.Frag) (T : String) (x : V) (H : Hp) : Prop := match x with
 | .str _ => T = "str"
 | .int _ => T = "int"
 | .ref p => (T = "list" /\ ∃ xs, SqL K H p xs) \/ (T = "tuple" /\ ∃ o, K.lookup p = some o /\ o.cls = .type "tuple" /\ o.dict = none) \/
   (T = "dict" /\ ((∃ kvs, H p = some (.dK kvs)) \/ ∃ kvs, H p = some (.dT kvs))) \/ (T = "set" /\ ∃ S n, H p = some (.set S n))
 | _ => False
theorem Fb {pins : List (Addr × Obj)} {σ : St} {H : Hp} {s : Shared} {T : String} {x : V} {v : Value} (I : Inv X pins σ H s) (r : RelV x v) (ty : tyV X.K T x H) :
  s.TypeIs v T /\ ∀ a, v = .ref a -> ∃ ob, s.heap.get? a = some ob /\ ob.dict = none := by
 cases x with
 | str z =>
  obtain ⟨t, rfl⟩ := r
  cases (show T = "str" from ty)
  exact ⟨typeIs_str s z t, fun _ e => nomatch e⟩
 | int i =>
  obtain ⟨t, rfl⟩ := r
  cases (show T = "int" from ty)
  exact ⟨typeIs_int s i t, fun _ e => nomatch e⟩
 | ref p =>
  cases r
  rcases ty with ⟨rfl, xs, hq⟩ | ⟨rfl, o, hk, hc, hd⟩ | ⟨rfl, hk⟩ | ⟨rfl, S, n, hk⟩
  ·obtain ⟨its, _, pl, _⟩ := I.list hq
   refine ⟨pl.isList.typeIs, fun a e => ?_⟩
   cases e
   obtain ⟨o, n, e, c, hd, _⟩ := pl
   exact ⟨o, e, hd⟩
  ·refine ⟨⟨o, I.kIn p o hk, hc⟩, fun a e => ?_⟩
   cases e
   exact ⟨o, I.kIn _ o hk, hd⟩
  ·have z : ∃ o, s.heap.get? p = some o /\ o.ExactDict := by
    rcases hk with ⟨kvs, hk⟩ | ⟨kvs, hk⟩
    ·obtain ⟨_, _, _, _, o, _, _, e, ex, _⟩ := I.hok p _ hk
     exact ⟨o, e, ex⟩
    ·obtain ⟨_, _, _, _, o, _, _, e, ex, _⟩ := I.hok p _ hk
     exact ⟨o, e, ex⟩
   obtain ⟨o, e, ex⟩ := z
   refine ⟨⟨o, e, ex.1⟩, fun a e2 => ?_⟩
   cases e2
   exact ⟨o, e, ex.2.1⟩
  ·obtain ⟨o, _, _, _, e, ex, _⟩ := I.hok p _ hk
   refine ⟨⟨o, e, ex.1⟩, fun a e2 => ?_⟩
   cases e2
   exact ⟨o, e, ex.2.1⟩
 | _ => exact False.elim ty
def RW (K : PySem.W.Frag) (T : String) (r : V -> List V -> Hp -> VK -> Prop) (to : TE) : TE := fun σ H Q => to σ H fun x H1 => tyV K T x H1 /\ r x [] H1 Q
def tBM (K : PySem.W.Frag) (T : String) (r : V -> List V -> Hp -> VK -> Prop) (to : TE) (t : TA) : TE := fun σ H Q => to σ H fun x H1 => tyV K T x H1 /\ t σ H1 fun xs H2 => r x xs H2 Q
variable {o e : Expr} {es : List Expr} {to : TE} {t : TA} {name : Str} {apos cpos : Pos} {T id : String} {r : V -> List V -> Hp -> VK -> Prop}
theorem Nq (pa : PlainAttrs T) (slot : Slot T name id) (hty : typeOf (.builtin id) = pure (.type "method_descriptor")) (hm : MtR X id r) (ho : PE X o to)
  (hbase : attributeBase o name X.env (eval o X.env) = eval o X.env := by rfl) (hline : (apos.endLine == cpos.line) = true := by rfl) : PE X (.Call (.Attribute o name apos) [] [] cpos) (RW X.K T r to) := by
 intro pins s σ H Q I h
 refine wpAny_Call_method0_late hbase hline (thn (ho pins s σ H _ I h) fun v s1 ⟨x, H1, I1, r1, ty, q1⟩ => ?_)
 obtain ⟨h1, h2⟩ := Fb I1 r1 ty
 exact ⟨T, id, pa, slot, hty, h1, h2, Calls.callWith_builtin rfl (PySem.evalArgs_none (hm pins s1 σ H1 x [] v [] Q I1 r1 .nil q1))⟩
theorem Jx (pa : PlainAttrs T) (slot : Slot T name id) (hty : typeOf (.builtin id) = pure (.type "method_descriptor")) (hm : MtR X id r) (ho : PE X o to) (ha : PA X (e :: es) t)
  (hbase : attributeBase o name X.env (eval o X.env) = eval o X.env := by rfl)
  (hfew : ((backTo cpos (starEach (e :: es) X.env)).all (fun x => !x.1) && (backToKw cpos (keywordEach [] X.env)).all (fun x => x.1.isSome)
   && decide ((e :: es).length + ([] : List Keyword).length + (if ([] : List Keyword).isEmpty then 0 else 1) < 30)) = true := by rfl)
  (hline : (apos.endLine == cpos.line) = true := by rfl) (hs : starEach (e :: es) X.env = (false, eval e X.env) :: starEach es X.env := by rfl) (hplain : (backTo cpos (starEach es X.env)).any (·.1) = false := by rfl) :
  PE X (.Call (.Attribute o name apos) (e :: es) [] cpos) (tBM X.K T r to t) := by
 intro pins s σ H Q I h
 refine wpAny_Call_method_late hbase hfew hline rfl (thn (ho pins s σ H _ I h) fun v s1 ⟨x, H1, I1, r1, ty, q1⟩ => ?_)
 obtain ⟨h1, h2⟩ := Fb I1 r1 ty
 refine ⟨T, id, pa, slot, hty, h1, h2, ?_⟩
 have hA := ha cpos pins s1 σ H1 _ I1 q1
 rw [hs] at hA ⊢
 refine Calls.callWith_builtin (by show (false || (backTo cpos (starEach es X.env)).any (·.1)) = false; rw [hplain] <;> rfl) (Calls.evalArgs_plain ?_)
 exact thn hA fun us s2 ⟨vs, H2, I2, r2, q2⟩ => hm pins s2 σ H2 x vs v us Q I2 r1 r2 q2
end
end L2
namespace L2
open PySem PySem.Spec PyProof.Rows
def MtM (X : Cx) (id : String) (r : V -> List V -> Hp -> VK -> Prop) : Prop :=
 ∀ (pins : List (Addr × Obj)) (s : Shared) (σ : St) (H : Hp) (x : V) (xs : List V) (v : Value) (us : List Value) (Q : VK), Inv X pins σ H s -> RelV x v -> Vals xs us -> r x xs H Q ->
  wpAny (model X.prog X.w) X.A (call (.builtin id) (v :: us)) (EP X pins σ Q) X.xe s
theorem Vals.one {x : V} {us : List Value} (h : Vals [x] us) : ∃ u, us = [u] /\ RelV x u := by
 cases h with
 | cons r t => cases t; exact ⟨_, rfl, r⟩
theorem Vals.zero {us : List Value} (h : Vals [] us) : us = [] := by cases h; rfl
theorem Vals.rep {xs : List V} {us : List Value} (h : Vals xs us) : ∀ k : Nat, Vals (List.replicate k xs).flatten (List.replicate k us).flatten
 | 0 => .nil
 | k + 1 => by
  rw [List.replicate_succ, List.replicate_succ, List.flatten_cons, List.flatten_cons]
  exact Vals.append h (Vals.rep h k)
section
variable {X : Cx} {pins : List (Addr × Obj)} {σ : St} {H : Hp} {s : Shared} {l b : Addr} {xs ys zs : List V}
theorem Inv.lset {its its' : List Value} {n : Nat} {f : Array Value -> Array Value} {t' : Nat} (I : Inv X pins σ H s) (hH : H l = some (.lst xs))
  (e : s.heap.get? l = some { cls := .type "list", data := .seq its.toArray n }) (hf : f its.toArray = its'.toArray) (hv : Vals ys its') (hz : ys.length <= sizeLine) :
  Inv X pins σ (upd H l (.lst ys)) { s with heap := s.heap.update l (Obj.mapSeq f), toks := t' } := by
 have q := PySem.IsL.update e f
 rw [hf] at q
 refine I.write (x := l) (e := l) (by rw [hH]; exact trivial) (.inl rfl) (fun b' u hb hu => (Heap.get?_update_other s.heap (Obj.mapSeq f) (Ne.symm hb)).trans hu) ⟨_, q⟩ ?_
 exact ⟨hz, its', _, hv, q⟩
theorem Inv.lnew {its : List Value} {t' : Nat} (I : Inv X pins σ H s) (hv : Vals ys its) (hz : ys.length <= sizeLine) :
  Inv X pins σ (upd H s.heap.objs.size (.lst ys)) { s with heap := s.heap.push { cls := .type "list", data := .seq its.toArray }, toks := t' } :=
 I.laid (fun _ _ q => Heap.get?_push_of_some _ q) (Nat.le_refl _) ⟨hz, its, 0, hv, Heap.get?_push_size _ rfl⟩
theorem Inv.fresh (I : Inv X pins σ H s) : H s.heap.objs.size = none := I.hok.fresh (Nat.le_refl _)
theorem Inv.lstM (I : Inv X pins σ H s) (hH : H l = some (.lst xs)) : xs.length <= sizeLine /\ ∃ (its : List Value) (n : Nat), Vals xs its /\ xs.length = its.length /\ s.heap.get? l = some { cls := .type "list", data := .seq its.toArray n } := by
 obtain ⟨z, its, n, r, e⟩ := I.hok l _ hH
 exact ⟨z, its, n, r, r.length, e⟩
end
section
variable {X : Cx}
def Ka : V -> List V -> Hp -> VK -> Prop := fun x vs H Q => ∃ l xs y, x = .ref l /\ vs = [y] /\ H l = some (.lst xs) /\ xs.length < sizeLine /\ Q .non (upd H l (.lst (xs ++ [y])))
theorem q8 : MtM X "list.append" Ka := by
 intro pins s σ H x vs v us Q I rx rv h
 obtain ⟨l, xs, y, rfl, rfl, hH, hz, q⟩ := h
 cases rx
 obtain ⟨u, rfl, ru⟩ := rv.one
 obtain ⟨z, its, n, r, hl, e⟩ := I.lstM hH
 refine call_meets F.slot_list_append ⟨_, e, rfl⟩ F.entry_list_append (F.args_list_append_2 _ _) (PySem.list_append l its.toArray n u (by rw [List.size_toArray]; omega)) ⟨e, ?_⟩
 refine ⟨.non, _, I.lset (its' := its ++ [u]) hH e (by simp) (r.append (.cons ru .nil)) ?_, rfl, q⟩
 rw [List.length_append, List.length_singleton]
 omega
def Hj : R2 := fun x y H Q => ∃ l b xs zs, x = .ref l /\ y = .ref b /\ H l = some (.lst xs) /\ H b = some (.lst zs) /\ xs.length + zs.length <= sizeLine /\ ∀ p, H p = none -> Q (.ref p) (upd H p (.lst (xs ++ zs)))
theorem Fd : OpR X (binaryOp .Add) Hj := by
 intro pins s σ H x y v u Q I rx ry h
 obtain ⟨l, b, xs, zs, rfl, rfl, hH, hB, hz, q⟩ := h
 cases rx
 cases ry
 obtain ⟨z, its, n, r, hl, e⟩ := I.lstM hH
 obtain ⟨z2, its2, n2, r2, hl2, e2⟩ := I.lstM hB
 refine PySem.P.add_list e e2 ?_ (by rw [List.size_toArray, List.size_toArray]; omega)
 have ea : its.toArray ++ its2.toArray = (its ++ its2).toArray := by simp
 rw [ea]
 exact ⟨.ref _, _, I.lnew (t' := s.toks) (r.append r2) (by rw [List.length_append]; omega), rfl, q _ I.fresh⟩
end
section
variable {prog : Program} {w : World} {A : Around} {E : Value -> Shared -> Prop} {s : Shared}
end
section
variable {X : Cx}
end
end L2
namespace Att
open PySem PySem.W PySem.Calls PyProof.Rows
theorem uZ {P : Params} {h : Heap} : ∀ (ns : List Int) (vs : List Value), WellAll P h vs (ns.map WData.int) -> IntsAre vs ns := by
 intro ns
 induction ns with
 | nil =>
  intro vs w
  rw [List.map_nil] at w
  cases w
  exact .nil
 | cons n ns ih =>
  intro vs w
  rw [List.map_cons] at w
  cases w with
  | cons a b =>
   cases a
   exact .cons _ _ (ih _ b)
theorem Fe {l : OpenLaw} {n : Nat} (hn : l.most = some n) {P : Params} {h : Heap} {args : List WData} {vals : List Value}
  (hpre : l.row.toRowW.claim.pre args = true) (hwl : WellAll P h vals args) :
  ∃ a vs ns, vals = [Value.ref a] /\ args = [WData.list (ns.map WData.int)] /\ h.get? a = some { cls := .type "list", data := .seq vs.toArray } /\ IntsAre vs ns /\ ns.length <= n := by
 have hsh : WShape.hasAll [] args [.list .int] = true := (pre_splitW hpre).1
 have hc : l.pre.holds [] { args := args } = true := (pre_splitW hpre).2
 obtain ⟨d, r, rfl, h1, h2⟩ := hasAllW_cons hsh
 obtain rfl := hasAllW_nil h2
 obtain ⟨xs, rfl, h3⟩ := hasW_list h1
 obtain ⟨ns, rfl⟩ := items_int h3
 have hlen : ns.length <= n := by
  unfold OpenLaw.pre at hc
  have h4 : (WTm.not (.lt (.lit (.int (n : Int))) (.len (.arg 0)))).holds [] { args := [.list (ns.map .int)] } = true := by
   have h4 := (holds_andW hc).1
   rw [hn] at h4
   exact h4
  have h5 := condW_of h4 (w_not (w_lt w_lit (w_len_list (w_arg rfl))))
  rw [List.length_map] at h5
  refine Nat.le_of_not_lt fun q => ?_
  have q' : (n : Int) < ((ns.length : Nat) : Int) := by omega
  first
   | (rw [decide_eq_true q'] at h5; exact absurd h5 (by decide))
   | (simp at h5; omega)
 cases hwl with
 | cons w1 w2 =>
  cases w2
  cases w1 with
  | list ho hall => exact ⟨_, _, ns, rfl, rfl, ho, uZ ns _ hall, hlen⟩
theorem Ff (l : OpenLaw) (args : List WData) : l.row.toRowW.claim.post args (.bool true) args = true :=
 postW_of (r := l.row.toRowW) (X := (true == true))
  (show WShape.has [] (.bool true) .bool = true by first | rfl | decide | simp [WShape.has, WShape.arms, WShape.armsAll])
  (show (WTm.eq .res (.lit (.bool true))).value [] { args := args, res := some (.bool true), after := args } = some (.bool (true == true)) from w_eq_bool (w_res rfl) w_lit) rfl
theorem attach_call {l : OpenLaw} {n : Nat} {q : Program} {loose : List Str} {XP : (Str -> Option Value) -> Heap -> Prop} {YP : World -> Heap -> Prop} {d : DefRec}
  (hn : l.most = some n) (hdf : d.params.defaults = [])
  (call : ∀ (w : World) (s₀ s₁ : Shared) (mg mb : Str -> Option Value) (fa : Addr) (o : Obj) (pm cd doc : Value) (a : Addr) (vs : List Value) (ns : List Int),
   Ground q loose [] XP w s₀ mg mb s₁.heap -> YP w s₁.heap ->
   s₁.heap.get? fa = some o -> o.data = .func (docDef d.name d.params d.body d.scope pm cd doc) -> s₁.heap.CodeRec cd d.name -> mg d.name = some (.ref fa) ->
   s₁.heap.get? a = some { cls := .type "list", data := .seq vs.toArray } -> IntsAre vs ns -> ns.length <= n -> s₁.gens = #[] ->
   codeAny (model l.prog w) callerA (.call (.ref fa) ⟨[.ref a], []⟩) (fun r s' => r = .ok (.ret (.bool true)) /\ OldK s₁.heap s'.heap /\ s'.os = s₁.os /\ AllBare s'.gens) s₁) :
  WalkO q loose XP YP l.row.toRowW d [] (fun f vs => PySem.call f vs) := by
 intro w s₀ s₁ mg mb G Y fa o pm cd doc dV kV ho hd hcd hD hmg hg args vals as hpre hlay hrd hwl hlo
 obtain rfl : dV = .none := Dflts.none hD hdf
 obtain rfl : kV = .none := Dflts.noKw hD
 obtain ⟨a, vs, ns, rfl, rfl, hobj, hints, hlen⟩ := Fe hn hpre hwl
 refine enter_call (codeAny_mono (call w s₀ s₁ mg mb fa o pm cd doc a vs ns G Y ho (fd_plain hd) hcd hmg hobj hints hlen hg) fun r s' hq => ?_)
 obtain ⟨rfl, h2, h3, h4⟩ := hq
 exact ⟨.inl ⟨.bool true, .bool true, [], rfl, fun _ => rfl, .bool true, Ff l _, fun _ => ⟨List.Pairwise.nil, fun _ hm => (nomatch hm)⟩⟩, h2, h3, h4⟩
section
variable {prog : Program} {w : World} {A : Around} {E : Value -> Shared -> Prop} {s : Shared} {K : Frag}
end
end Att
namespace L2
open PySem PySem.Spec PyProof.Rows
theorem wN : ∀ {vs : List Value} {ns : List Int}, IntsAre vs ns -> Vals (ns.map V.int) vs
 | _, _, .nil => .nil
 | _, _, .cons n t h => .cons ⟨t, rfl⟩ (wN h)
def Only (H : Hp) : Prop := ∀ b, H b = none \/ ∃ o xs, H b = some (.frz o (.lst xs))
theorem Hk {P : Program} {w : World} {K : PySem.W.Frag} {mg mb : Str -> Option Value} {CX : CXT} {k : Nat} {fa a : Addr} {fd : FuncData} {x : Str} {sp : Sp} {s₁ : Shared} {vs : List Value} {ns : List Int}
  (KX : K.In s₁.heap) (hns : s₁.heap.Ns mainGlobals mg) (hb : s₁.heap.Ns builtinsNs mb) (hbb : ∀ x : Str, x ≠ "__name__" -> mb x = bootBuiltins x) (hlim : s₁.heap.NoLimit) (hg : s₁.gens = #[])
  (ha : s₁.heap.get? a = some { cls := .type "list", data := .seq vs.toArray }) (hi : IntsAre vs ns) (hl : ns.length <= sizeLine) (hr : Room k callerA)
  (F : ∀ base : Heap, K.In base -> base.Ns mainGlobals mg -> FnOk P w K mg base CX k fa fd [x] sp) (hbind : ∀ (s : Shared) (u : Value), BindsTo s fd ⟨[u], []⟩ [(x, u)])
  (hsp : ∀ H : Hp, Only H -> SqL K H a (ns.map V.int) -> sp [.ref a] H (fun v _ => v = .bl true) fun _ _ _ => False)
  (hCX : ∀ H e s', CX [] H s₁ (fun _ _ _ => False) e s' -> False) :
  codeAny (model P w) callerA (.call (.ref fa) ⟨[.ref a], []⟩) (fun r s' => r = .ok (.ret (.bool true)) /\ OldK s₁.heap s'.heap /\ s'.os = s₁.os /\ AllBare s'.gens) s₁ := by
 have rv := wN hi
 have lenV := hi.length
 have core : ∀ H : Hp, Only H -> SqL K H a (ns.map V.int) -> HOk P w H s₁.heap -> (∀ b, H b ≠ none -> b = a) -> (H a ≠ none -> K.lookup a = none) ->
   codeAny (model P w) callerA (.call (.ref fa) ⟨[.ref a], []⟩) (fun r s' => r = .ok (.ret (.bool true)) /\ OldK s₁.heap s'.heap /\ s'.os = s₁.os /\ AllBare s'.gens) s₁ := by
  intro H hO hS hok hA hK
  have base_of : ∀ {b : Addr} {o : Obj}, s₁.heap.get? b = some o -> H b = none -> (pN s₁.heap H).get? b = some o := fun e n => GP e n
  have noA : ∀ {b : Addr} {o : Obj} {es : Array DictEntry} {ep : Nat}, s₁.heap.get? b = some o -> o.data = .dict es ep -> H b = none := fun {b o es ep} e d => by
   cases q : H b with
   | none => rfl
   | some u =>
    have e' : b = a := hA b (by rw [q]; simp)
    subst e'
    rw [ha] at e; cases e
    have d' : Data.seq vs.toArray _ = Data.dict es ep := d
    cases d'
  have nsK : ∀ {b : Addr} {m : Str -> Option Value}, s₁.heap.Ns b m -> (pN s₁.heap H).Ns b m := fun {b m} ⟨o, es, ep, e, d, r⟩ => ⟨o, es, ep, base_of e (noA e d), d, r⟩
  have hKb : K.In (pN s₁.heap H) := fun b o e => base_of (KX b o e) (by
   cases q : H b with
   | none => rfl
   | some u =>
    have e' : b = a := hA b (by rw [q]; simp)
    subst e'
    rw [hK (by rw [q]; simp)] at e; cases e)
  have hM : Mod K mg (pN s₁.heap H) := ⟨hKb, nsK hns, ⟨mb, nsK hb, hbb⟩, let ⟨mc, h1, h2⟩ := hlim; ⟨mc, nsK h1, h2⟩⟩
  have e0 : Env0 P w K mg (pN s₁.heap H) callerA [] s₁ H := ⟨rfl, hM, fun b o e => JN e, Nat.le_of_eq (D_ _ _), trivial, fun b hb => absurd (show b ∈ ([] : List Addr) from hb) (by simp), hok, .of_eq hg⟩
  refine codeAny_mono ((F _ hKb (nsK hns)).run callerA [] s₁ H ⟨[.ref a], []⟩ [.ref a] [.ref a] _ _ hr e0 (hbind s₁ (.ref a)) (.cons rfl .nil) (hsp H hO hS)) fun r s' h => ?_
  cases r with
  | error e => exact (hCX H e s' h).elim
  | ok fl =>
   cases fl with
   | next => exact False.elim h
   | brk => exact False.elim h
   | cont => exact False.elim h
   | ret u =>
    obtain ⟨v, H', os, bare, un, hok', r', q⟩ := h
    have q' : v = .bl true := q
    subst q'
    obtain rfl : u = Value.bool true := r'
    refine ⟨rfl, OldK.of_keep fun b o e => ?_, os, bare⟩
    cases q : H b with
    | none => exact un.keep b o e q (by intro z; exact absurd (show b ∈ ([] : List Addr) from z) (by simp)) (by simp)
    | some u =>
     rcases hO b with z | ⟨ob, xs, z⟩
     ·rw [q] at z; cases z
     ·have z2 := un.frzs b ob _ z
      obtain ⟨e1, _⟩ := hok b _ z
      obtain ⟨e2, _⟩ := hok' b _ z2
      rw [e] at e1; cases e1
      exact e2
 cases hk : K.lookup a with
 | some o =>
  have e := KX a o hk
  rw [ha] at e
  cases e
  refine core (fun _ => none) (fun _ => .inl rfl) (.inr ⟨_, vs.toArray, _, hk, rfl, rfl, rfl, by rw [List.size_toArray, lenV]; exact hl, by simpa using rv⟩) (fun b u z => by have z' : (none : Option HO) = some u := z; cases z') (fun b z => absurd rfl z) fun z => absurd rfl z
 | none =>
  refine core (fun b => if b = a then some (.frz { cls := .type "list", data := .seq vs.toArray } (.lst (ns.map V.int))) else none) (fun b => ?_) (.inl (.inr ⟨{ cls := .type "list", data := .seq vs.toArray }, if_pos rfl⟩)) (fun b u z => ?_) (fun b z => ?_) fun _ => hk
  ·by_cases hb : b = a
   ·exact .inr ⟨_, _, if_pos hb⟩
   ·exact .inl (if_neg hb)
  ·by_cases hb : b = a
   ·have z' := (if_pos hb).symm.trans z
    cases z'
    subst hb
    exact ⟨ha, by rw [List.length_map]; exact hl, vs, _, rv, ha⟩
   ·have z' := (if_neg hb).symm.trans z
    cases z'
  ·by_cases hb : b = a
   ·exact hb
   ·exact absurd (if_neg hb) z
end L2
namespace L2
open PySem PySem.Spec PyProof.Rows
theorem walk_of {l : PySem.W.OpenLaw} {n k : Nat} {q : Program} {loose : List Str} {XP : (Str -> Option Value) -> Heap -> Prop} {YP : World -> Heap -> Prop} {d : DefRec} {K : Params -> PySem.W.Frag} {CX : World -> CXT} {sp : World -> Sp} {x : Str}
  (hn : l.most = some n) (hn2 : n <= sizeLine) (hdf : d.params.defaults = []) (hr : Room k callerA)
  (hY : ∀ (w : World) (h : Heap), YP w h -> (K w.params).In h)
  (F : ∀ (w : World) (mg : Str -> Option Value) (fa : Addr) (h : Heap), (K w.params).In h -> h.Ns mainGlobals mg -> mg d.name = some (.ref fa) ->
   ∃ fd : FuncData, (∀ (s : Shared) (u : Value), BindsTo s fd ⟨[u], []⟩ [(x, u)]) /\
    ∀ base : Heap, (K w.params).In base -> base.Ns mainGlobals mg -> FnOk l.prog w (K w.params) mg base (CX w) k fa fd [x] (sp w))
  (hsp : ∀ (w : World) (H : Hp) (a : Addr) (ns : List Int), ns.length <= n -> Only H -> SqL (K w.params) H a (ns.map V.int) -> sp w [.ref a] H (fun v _ => v = .bl true) fun _ _ _ => False)
  (hCX : ∀ (w : World) (H : Hp) (s : Shared) (e : Value) (s' : Shared), CX w [] H s (fun _ _ _ => False) e s' -> False) :
  PySem.W.WalkO q loose XP YP l.row.toRowW d [] (fun f vs => PySem.call f vs) := by
 refine Att.attach_call hn hdf fun w s₀ s₁ mg mb fa o pm cd doc a vs ns G Y ho hd hcd hmg hobj hints hlen hg => ?_
 have KX := hY w _ Y
 obtain ⟨fd, hb, hF⟩ := F w mg fa _ KX G.T.g hmg
 exact Hk KX G.T.g G.T.b G.T.builtins G.T.nolimit hg hobj hints (Nat.le_trans hlen hn2) hr hF hb (fun H hO hS => hsp w H a ns hlen hO hS) fun H e s' => hCX w H s₁ e s'
end L2
namespace L2
open PySem PySem.Spec PyProof.Rows
def inClass (s : Stmt) (j : Nat) : Stmt := match s with
 | .ClassDef _ _ _ body _ _ _ _ _ _ _ => body.getD j (.Pass ⟨0, 0, 0, 0⟩)
 | _ => .Pass ⟨0, 0, 0, 0⟩
def iT (s : Stmt) : Arguments := match s with
 | .FunctionDef _ a _ _ _ _ _ _ _ _ => a
 | _ => { posonlyargs := [], args := [], vararg := none, kwonlyargs := [], kw_defaults := [], kwarg := none, defaults := [] }
def eZ (s : Stmt) : List Stmt := match s with
 | .FunctionDef _ _ b _ _ _ _ _ _ _ => b
 | _ => []
def aq (s : Stmt) : Scope := match s with
 | .FunctionDef _ _ _ _ _ _ sc _ _ _ => sc
 | _ => { kind := .function, names := [], isGenerator := false, isCoroutine := false }
abbrev CX0 : CXT := fun _ _ _ _ _ _ => False
abbrev E0 : XK := fun _ _ _ => False
theorem CN {X : Cx} : o7 CX0 X E0 := fun _ _ _ _ _ _ _ h => h.elim
structure Fun (K : PySem.W.Frag) (x qual : Str) (st : Stmt) (f : Addr) (fd : FuncData) : Prop where
 ex : ∃ (oc : Value) (od : Option Addr) (kV doc pm : Value) (an : Option Addr) (cdv ct : Value) (osl : Array (Option Value)),
  fd = PySem.W.fnOf x qual (iT st) (eZ st) (aq st) .none kV doc pm an cdv ct /\ K.lookup f = some ⟨oc, od, .func fd, osl⟩ /\ PySem.W.codeIn K cdv qual = true
 kp : PySem.W.keepIn K (.ref f) = true
section
variable {P : Program} {w : World} {K : PySem.W.Frag} {mg : Str -> Option Value} {base : Heap}
theorem Fun.ok {x qual : Str} {st : Stmt} {f : Addr} {fd : FuncData} {N ps : List Str} {k : Nat} {sp : Sp} (F : Fun K x qual st f fd) (S : FnScope N ps (aq st)) (len : ∀ vs H Q E, sp vs H Q E -> vs.length = ps.length)
  (hbody : ∀ (cdv : Value) (A : Around) (outer : List Env) (s : Shared) (H : Hp) (vs : List V) (Q : VK) (E : XK), Room k (A.deeper (envOfC qual (aq st) s.heap.objs.size f cdv)) -> sp vs H Q E ->
   ∃ t, PSs (dj CX0 P w K mg base N qual (aq st) f cdv A outer s H E).nox (eZ st) t /\ t { nx := fun _ H' => Q .non H', rt := Q } (start N vs) H) : FnOk P w K mg base CX0 (k + 1) f fd ps sp := by
 obtain ⟨oc, od, kV, doc, pm, an, cdv, ct, osl, rfl, lk, hcd⟩ := F.ex
 refine Jt lk hcd S len fun A outer s H vs Q E hr hsp => ?_
 obtain ⟨t, h, q⟩ := hbody cdv A outer s H vs Q E hr hsp
 exact ⟨t, h.nox, q⟩
theorem Fun.binds {x qual : Str} {st : Stmt} {f : Addr} {fd : FuncData} {ps : List Str} (F : Fun K x qual st f fd)
  (h : ∀ (kV doc pm : Value) (an : Option Addr) (cdv ct : Value) (us : List Value), us.length = ps.length -> bindArgs (PySem.W.fnOf x qual (iT st) (eZ st) (aq st) .none kV doc pm an cdv ct) ⟨us, []⟩ = pure (ps.zip us)) : Binds K fd ps [] := by
 obtain ⟨oc, od, kV, doc, pm, an, cdv, ct, osl, rfl, lk, hcd⟩ := F.ex
 exact .all (h kV doc pm an cdv ct)
theorem fun_mk {x qual : Str} {st : Stmt} {f : Addr} {oc : Value} {od an : Option Addr} {osl : Array (Option Value)} {kV doc pm cdv ct : Value} (l : K.lookup f = some ⟨oc, od, .func (PySem.W.fnOf x qual (iT st) (eZ st) (aq st) .none kV doc pm an cdv ct), osl⟩)
  (c : PySem.W.codeIn K cdv qual = true) (k : PySem.W.keepIn K (.ref f) = true) : Fun K x qual st f (PySem.W.fnOf x qual (iT st) (eZ st) (aq st) .none kV doc pm an cdv ct) := ⟨⟨oc, od, kV, doc, pm, an, cdv, ct, osl, rfl, l, c⟩, k⟩
end
theorem yp {A : Around} {k : Nat} (hr : Room k A) : A.units + 1 < cLine := Nat.lt_of_le_of_lt (Nat.add_le_add_left (by decide : 1 <= 64) _) hr.units
theorem Fg {n : Nat} (h : n <= 1000) : n < sizeLine := Nat.lt_of_le_of_lt h (by decide)
section
variable {X : Cx}
theorem pv (i : Nat) {x : Str} {pos : Pos} (hN : X.N[i]? = some x := by rfl) (hv : Vis X.env.scope x := by first | exact Or.inl rfl | exact Or.inr (Or.inl rfl) | exact Or.inr (Or.inr rfl)) (hd : (x == ("__debug__" : Str)) = false := by decide)
  (hcd : (x == ("__classdict__" : Str)) = false := by decide) : PE X (.Name x pos) (Mi i) := g_ hN hv hd hcd
end
theorem CP {A B : Prop} (h : B) : if false = true then A else B := by
 rw [if_neg Bool.false_ne_true]
 exact h
theorem CQ {A B : Prop} (h : A) : if true = true then A else B := by
 rw [if_pos rfl]
 exact h
def Same (H H' : Hp) : Prop := ∀ b o, H b = some o -> H' b = some o
theorem Same.refl (H : Hp) : Same H H := fun _ _ h => h
theorem Same.trans {H H1 H2 : Hp} (a : Same H H1) (b : Same H1 H2) : Same H H2 := fun c o h => b c o (a c o h)
theorem Same.free {H H' : Hp} (e : Same H H') {l : Addr} (h : H' l = Option.none) : H l = Option.none := by
 cases q : H l with
 | none => rfl
 | some o =>
  rw [e l o q] at h
  cases h
theorem Same.seq {K : PySem.W.Frag} {H H' : Hp} {a : Addr} {xs : List V} (e : Same H H') (h : SqL K H a xs) : SqL K H' a xs := by
 rcases h with (h | ⟨o, h⟩) | h
 ·exact .inl (.inl (e _ _ h))
 ·exact .inl (.inr ⟨o, e _ _ h⟩)
 ·exact .inr h
end L2
namespace L2
open PySem PySem.Spec PyProof.Rows
section
variable {X : Cx}
theorem Fi : CallR X (.builtin "len") (fun xs H Q => ∃ a kvs, xs = [V.ref a] /\ H a = some (.dK kvs) /\ Q (.int kvs.length) H) := by
 intro pins s σ H xs us Q I r h
 obtain ⟨a, kvs, rfl, ha, q⟩ := h
 obtain ⟨u, rfl, ru⟩ := vals1 r
 cases ru
 exact Qz I (.inl ha) fun t s' I' => ⟨.int kvs.length, H, I', ⟨t, rfl⟩, q⟩
end
section
variable {κ : Type} [DecidableEq κ]
end
end L2
namespace L2
open PySem PySem.Spec PyProof.Rows
theorem uC {α β : Type} {l : List α} {f : α -> β -> Sem (ForInStep β)} (g : α -> β -> β) : ∀ (c : β), (∀ x ∈ l, ∀ c, f x c = pure (.yield (g x c))) ->
  forIn l c f = pure (l.foldl (fun c x => g x c) c) := by
 induction l with
 | nil => intro c _; rfl
 | cons x l ih =>
  intro c h
  rw [List.forIn_cons, h x List.mem_cons_self, pure_bind]
  exact ih _ fun y hy => h y (List.mem_cons_of_mem _ hy)
def iD (env : Env) (x : Str × NameKind) (c : List (Str × Addr)) : List (Str × Addr) := if x.2 = .free then (x.1, (env.cells.lookup x.1).getD 0) :: c else c
def pP (env : Env) (names : List (Str × NameKind)) : List (Str × Addr) := names.foldl (fun c x => iD env x c) []
theorem xX {scope : Scope} {env : Env} (h : ∀ x ∈ scope.names, x.2 = .free -> ∃ c, env.cells.lookup x.1 = some c) : closureFor scope env = pure (pP env scope.names) := by
 simp only [closureFor]
 rw [uC (iD env) [] (fun x hx c => by
  obtain ⟨n, kind⟩ := x
  by_cases e : kind = .free
  ·subst e
   obtain ⟨a, ha⟩ := h _ hx rfl
   have ha' : env.cells.lookup n = some a := ha
   simp [iD, cellOf, ha']
  ·have : (kind == NameKind.free) = false := by simpa using e
   simp [iD, e, this])]
 rfl
theorem u0 {env : Env} : ∀ (l : List (Str × NameKind)) (cs : List (Str × Addr)), (∀ x ∈ l, x.2 = .free -> ∃ c, env.cells.lookup x.1 = some c) -> (∀ y c, cs.lookup y = some c -> env.cells.lookup y = some c) ->
  ∀ y c, (l.foldl (fun c x => iD env x c) cs).lookup y = some c -> env.cells.lookup y = some c
 | [], cs, _, h2, y, c, e => h2 y c e
 | x :: r, cs, h1, h2, y, c, e => by
  refine u0 r (iD env x cs) (fun z hz => h1 z (List.mem_cons_of_mem _ hz)) (fun z d q => ?_) y c e
  unfold iD at q
  by_cases k : x.2 = .free
  ·rw [if_pos k] at q
   obtain ⟨a, ha⟩ := h1 x List.mem_cons_self k
   rw [List.lookup_cons] at q
   cases hb : z == x.1 with
   | true =>
    rw [hb] at q
    have ez : z = x.1 := by simpa using hb
    rw [ha] at q
    have q' : a = d := by simpa using q
    rw [ez, ha, q']
   | false =>
    rw [hb] at q
    exact h2 z d q
  ·rw [if_neg k] at q
   exact h2 z d q
theorem iG {env : Env} {names : List (Str × NameKind)} (h : ∀ x ∈ names, x.2 = .free -> ∃ c, env.cells.lookup x.1 = some c) {y : Str} {c : Addr} (e : (pP env names).lookup y = some c) : env.cells.lookup y = some c :=
 u0 names [] h (fun y c q => by simp at q) y c e
theorem u5 {env : Env} {y : Str} : ∀ (l : List (Str × NameKind)) (cs : List (Str × Addr)), ((y, .free) ∈ l \/ ∃ c, cs.lookup y = some c) -> ∃ c, (l.foldl (fun c x => iD env x c) cs).lookup y = some c
 | [], cs, h => by
  rcases h with h | h
  ·simp at h
  ·exact h
 | x :: r, cs, h => by
  refine u5 r (iD env x cs) ?_
  rcases h with h | ⟨c, h⟩
  ·rcases List.mem_cons.mp h with e | e
   ·refine .inr ⟨(env.cells.lookup y).getD 0, ?_⟩
    rw [← e]
    simp [iD]
   ·exact .inl e
  ·refine .inr ?_
   unfold iD
   split
   ·rw [List.lookup_cons]
    split
    ·exact ⟨_, rfl⟩
    ·exact ⟨c, h⟩
   ·exact ⟨c, h⟩
theorem yV {env : Env} {names : List (Str × NameKind)} {y : Str} (h : (y, .free) ∈ names) : ∃ c, (pP env names).lookup y = some c := u5 names [] (.inl h)
theorem mem_of_lookup {x : Str} {k : NameKind} : ∀ {l : List (Str × NameKind)}, l.lookup x = some k -> (x, k) ∈ l
 | [], h => by simp at h
 | (n, j) :: r, h => by
  rw [List.lookup_cons] at h
  cases hb : x == n with
  | true =>
   rw [hb] at h
   have e : x = n := by simpa using hb
   have e2 : j = k := by simpa using h
   rw [e, e2]
   exact List.mem_cons_self
  | false =>
   rw [hb] at h
   exact List.mem_cons_of_mem _ (mem_of_lookup h)
theorem mR {env : Env} : ∀ {names : List (Str × NameKind)} {x : Str}, names.lookup x = some .free ->
  (names.map fun (n, k) => if (k == NameKind.free && env.scope.kind == .function && env.kindOf n == some .cell) then (n, NameKind.cell) else (n, k)).lookup x = some .cell \/
  (names.map fun (n, k) => if (k == NameKind.free && env.scope.kind == .function && env.kindOf n == some .cell) then (n, NameKind.cell) else (n, k)).lookup x = some .free
 | [], _, h => by simp at h
 | (n, k) :: r, x, h => by
  have ih := @mR env r x
  cases hx : x == n with
  | true =>
   simp only [List.lookup_cons, hx] at h
   cases h
   by_cases hc : (NameKind.free == NameKind.free && env.scope.kind == .function && env.kindOf n == some .cell) = true
   ·refine .inl ?_
    simp only [List.map_cons, if_pos hc, List.lookup_cons, hx]
   ·refine .inr ?_
    simp only [List.map_cons, if_neg hc, List.lookup_cons, hx]
  | false =>
   simp only [List.lookup_cons, hx] at h
   have ih := ih h
   by_cases hc : (k == NameKind.free && env.scope.kind == .function && env.kindOf n == some .cell) = true
   ·simp only [List.map_cons, if_pos hc, List.lookup_cons, hx]
    exact ih
   ·simp only [List.map_cons, if_neg hc, List.lookup_cons, hx]
    exact ih
theorem pQ {env : Env} : ∀ {names : List (Str × NameKind)} {x : Str} {j : NameKind}, (∀ y ∈ names, y.2 ≠ .cell) -> (j = .cell \/ j = .free) ->
  (names.map fun (n, k) => if (k == NameKind.free && env.scope.kind == .function && env.kindOf n == some .cell) then (n, NameKind.cell) else (n, k)).lookup x = some j -> (x, .free) ∈ names
 | [], _, _, _, _, h => by simp at h
 | (n, k) :: r, x, j, hn, hj, h => by
  have ih := @pQ env r x j (fun y hy => hn y (List.mem_cons_of_mem _ hy)) hj
  cases hx : x == n with
  | true =>
   have e : x = n := by simpa using hx
   subst e
   by_cases hc : (k == NameKind.free && env.scope.kind == .function && env.kindOf x == some .cell) = true
   ·have hk : k = .free := by
     simp only [Bool.and_eq_true, beq_iff_eq] at hc
     exact hc.1.1
    subst hk
    exact List.mem_cons_self
   ·simp only [List.map_cons, if_neg hc, List.lookup_cons, hx] at h
    have hk : k = j := by simpa using h
    rcases hj with z | z
    ·exact absurd (hk.trans z) (hn (x, k) List.mem_cons_self)
    ·rw [hk, z]
     exact List.mem_cons_self
  | false =>
   by_cases hc : (k == NameKind.free && env.scope.kind == .function && env.kindOf n == some .cell) = true
   ·simp only [List.map_cons, if_pos hc, List.lookup_cons, hx] at h
    exact List.mem_cons_of_mem _ (ih h)
   ·simp only [List.map_cons, if_neg hc, List.lookup_cons, hx] at h
    exact List.mem_cons_of_mem _ (ih h)
abbrev Cx.comp (X : Cx) (N : List Str) (scope : Scope) (C : Addr) (s : Shared) (H : Hp) (fp : List Addr) : Cx where
 prog := X.prog
 w := X.w
 K := X.K
 mg := X.mg
 base := X.base
 A := X.A
 N := N
 s₀ := s
 H₀ := H
 env := compEnvC scope (pP X.env scope.names) C X.env
 outer := X.stack
 stack := X.stack
 ex := fp
 fn := fun _ => false
 calm := X.calm
 pn := []
 xe := fun _ _ => False
def yq (scope : Scope) (ON N : List Str) (cap : List (Option Nat)) : Bool :=
 cap.length == N.length && (List.range N.length).all fun j => match cap[j]? with
  | some (some i) => (match N[j]?, ON[i]? with
   | some x, some y => x == y && (scope.names.lookup x == some NameKind.free)
   | _, _ => false)
  | _ => true
structure CSc (osc scope : Scope) (ON N : List Str) (cap : List (Option Nat)) : Prop where
 kind : scope.kind = .function
 noc : ∀ y ∈ scope.names, y.2 ≠ .cell
 loc : ∀ y ∈ scope.names, y.2 = .local -> scope.names.lookup y.1 = some .local
 fr : ∀ y ∈ scope.names, y.2 = .free -> osc.names.lookup y.1 = some .cell \/ osc.names.lookup y.1 = some .free
 cap : yq scope ON N cap = true
theorem CSc.at {osc scope : Scope} {ON N : List Str} {cap : List (Option Nat)} (S : CSc osc scope ON N cap) {j i : Nat} {x : Str} (h : cap[j]? = some (some i)) (hx : N[j]? = some x) : ON[i]? = some x /\ scope.names.lookup x = some .free := by
 have h0 := S.cap
 unfold yq at h0
 rw [Bool.and_eq_true] at h0
 have hj : j < N.length := (List.getElem?_eq_some_iff.mp hx).1
 have h1 := List.all_eq_true.mp h0.2 j (List.mem_range.mpr hj)
 rw [h] at h1
 dsimp only at h1
 rw [hx] at h1
 cases hy : ON[i]? with
 | none => rw [hy] at h1; simp at h1
 | some y =>
  rw [hy] at h1
  simp only [Bool.and_eq_true, beq_iff_eq] at h1
  exact ⟨by rw [h1.1], h1.2⟩
theorem CSc.len {osc scope : Scope} {ON N : List Str} {cap : List (Option Nat)} (S : CSc osc scope ON N cap) : cap.length = N.length := by
 have h0 := S.cap
 unfold yq at h0
 rw [Bool.and_eq_true, beq_iff_eq] at h0
 exact h0.1
def q9 (σ : St) : Option Nat -> Option V
 | some i => (σ[i]?).getD none
 | none => none
def cT (cap : List (Option Nat)) (σ : St) : St := cap.map (q9 σ)
def oG (X : Cx) (ifs : List Expr) (t : TT) : Prop :=
 ∀ (pins : List (Addr × Obj)) (s : Shared) (σ : St) (H : Hp) (Q : Bool -> Hp -> Prop), Inv X pins σ H s -> t σ H Q ->
  wpAny (model X.prog X.w) X.A (forIn ifs true fun c r => if r = true then do let ok ← isTrue c X.env (eval c X.env); pure (ForInStep.yield ok) else pure (ForInStep.yield r)) (TP X pins σ Q) X.xe s
def RZ : TT := fun _ H Q => Q true H
theorem Hl {X : Cx} : oG X [] RZ := fun _ _ _ H _ I h => wpAny_tests_nil ⟨H, I, h⟩
theorem gH {X : Cx} {c : Expr} {t : TT} (h : PT X c t) : oG X [c] t := fun pins s σ H Q I q => wpAny_tests_one (h pins s σ H Q I q)
theorem nM {prog : Program} {w : World} {A : Around} {R : Result -> Shared -> Prop} {s : Shared} {elt target iter : Expr} {ifs : List Expr} {scope : Scope} {pos : Pos} {it acc : Value} {env : Env} (I : Nat -> Shared -> Prop)
  (turn : ∀ n s, I n s -> wpAny (model prog w) A (pyNext it) (fun r s₁ => match r with
   | none => R (.ok .next) s₁
   | some v => wpAny (model prog w) A (letOwnedTupleGo target it v) (fun _ s₁' => wpAny (model prog w) A (assign target env v) (fun _ s₂ =>
     wpAny (model prog w) A (forIn ifs true fun c r => if r = true then do let ok ← isTrue c env (eval c env); pure (ForInStep.yield ok) else pure (ForInStep.yield r)) (fun ok s₃ =>
      if ok = true then wpAny (model prog w) A (eval elt env) (fun x s₄ =>
       wpAny (model prog w) A (call (.builtin "list.append") [acc, x]) (fun _ s₅ => ∃ m, m < n /\ I m s₅) (fun _ _ => False) s₄) (fun _ _ => False) s₃
      else ∃ m, m < n /\ I m s₃) (fun _ _ => False) s₂) (fun _ _ => False) s₁') (fun _ _ => False) s₁) (fun _ _ => False) s)
  (n : Nat) (h : I n s) :
  codeAny (model prog w) A (.compLoop (.ListComp elt [⟨target, iter, ifs, 0⟩] scope pos) 0 it acc env) R s := by
 refine codeAny_loop rfl I (fun n s hI => ?_) n h
 show wpAny _ A ((compTurn (.ListComp elt [⟨target, iter, ifs, 0⟩] scope pos) 0 it acc env).onRaise (fun x => do noteFrame x env; theTreesLotGoes x)) _ _ s
 refine wpAny_noted ?_
 rw [compTurn_list]
 refine wpAny_bind (wpAny_standAt (wpAny_bind (wpAny_mono (turn n s hI) (fun r s₁ h₁ => ?_) fun _ _ h' => h'.elim)))
 cases r with
 | none => exact wpAny_pure h₁
 | some v =>
  refine wpAny_bind (wpAny_mono h₁ (fun _ s₁' h₁' => ?_) fun _ _ h' => h'.elim)
  refine wpAny_bind (wpAny_mono h₁' (fun _ s₂ h₂ => wpAny_bind (wpAny_mono h₂ (fun ok s₃ h₃ => ?_) fun _ _ h' => h'.elim)) fun _ _ h' => h'.elim)
  cases ok with
  | false => exact wpAny_pure ⟨rfl, h₃⟩
  | true =>
   exact wpAny_bind (wpAny_bind (wpAny_mono h₃ (fun x s₄ h₄ => wpAny_bind (wpAny_mono h₄ (fun _ s₅ h₅ => wpAny_pure (wpAny_pure ⟨rfl, h₅⟩)) fun _ _ h' => h'.elim)) fun _ _ h' => h'.elim))
def Kp (σ σ2 : St) : Prop := σ.length = σ2.length /\ ∀ (i : Nat) (v : V), σ[i]? = some (some v) -> σ2[i]? = some (some v)
structure TComp (wi : TI) (cap : List (Option Nat)) (g : TG) (tt : TT) (te : TE) (σ : St) (H : Hp) (Q : VK) : Prop where
 ex : wi σ H fun J H1 => ∀ D, H1 D = none -> ∃ W : Nat -> Nat -> List V -> Hp -> Prop,
 (∃ m, W 0 m [] (upd H1 D (.lst []))) /\ ∀ i m ys H, W i m ys H -> H D = some (.lst ys) /\ ((J.stop i H /\ Q (.ref D) H) \/
  (J.go i H /\ ∃ N : List V -> Hp -> Prop, (∀ ys' H', N ys' H' -> ∃ m', m' < m /\ W (i + 1) m' ys' H') /\ ∀ x H', J.yld i H x H' -> g x (cT cap σ) H' fun σ2 H2 => Kp (cT cap σ) σ2 /\ tt σ2 H2 fun b H3 =>
   if b = true then te σ2 H3 fun y H4 => H4 D = some (.lst ys) /\ ys.length < sizeLine /\ N (ys ++ [y]) (upd H4 D (.lst (ys ++ [y]))) else N ys H3))
def yr (wi : TI) (cap : List (Option Nat)) (g : TG) (tt : TT) (te : TE) : TE := fun σ H Q => TComp wi cap g tt te σ H Q
section
variable {X : Cx} {tg iter elt : Expr} {ifs : List Expr} {scope osc : Scope} {ON N : List Str} {cap : List (Option Nat)} {wi : TI} {g : TG} {tt : TT} {te : TE} {pos : Pos}
theorem Bp {pins : List (Addr × Obj)} {σ : St} {H2 : Hp} {s2 : Shared} {fp : List Addr} {C : Addr} (I2 : Inv X pins σ H2 s2) (S : CSc osc scope ON N cap) (hsc : X.env.scope = osc) (f2 : ∀ b ∈ fp, ju X pins H2 b)
  (hfp : ∀ b ∈ fp, b < s2.heap.objs.size) (hC : s2.heap.objs.size <= C) : (X.comp N scope C s2 H2 fp).Ok := by
 have hfr : ∀ x ∈ scope.names, x.2 = .free -> ∃ c, X.env.cells.lookup x.1 = some c := fun x hx e => I2.ok.has x.1 (by
  rcases S.fr x hx e with z | z
  ·exact .inl (by rw [Env.kindOf, hsc]; exact z)
  ·exact .inr (by rw [Env.kindOf, hsc]; exact z))
 refine ⟨I2.mod, S.kind, I2.ok.glob, I2.ok.blt, hC, fun x y c h1 h2 => I2.ok.inj x y c (iG hfr h1) (iG hfr h2), fun x h => ?_, fun x c h => by simp at h, I2.ok.hd, I2.ok.frames, .inl rfl, fun b hb => ⟨?_, fun x c e => ?_⟩, fun b o e => I2.bs b o e, ?_, fun b o e hb => ?_, fun b hb hz => ?_, I2.stack, I2.stkFree⟩
 ·have hm : (x, NameKind.free) ∈ scope.names := by
   rcases h with h | h
   ·exact pQ (env := X.env) S.noc (.inl rfl) h
   ·exact pQ (env := X.env) S.noc (.inr rfl) h
  exact yV hm
 ·exact Nat.ne_of_lt (Nat.lt_of_lt_of_le (hfp b hb) hC)
 ·exact (f2 b hb).2.2.2.2.1 x c (iG hfr e)
 ·exact Nat.le_trans I2.ok.bsz I2.sz
 ·rcases (f2 b hb).2.2.2.1 with z | z
  ·exact I2.ok.noex b o e z
  ·exact absurd (Nat.lt_of_lt_of_le (Heap.lt_size e) (Nat.le_trans I2.ok.bsz z)) (Nat.lt_irrefl _)
 ·obtain ⟨_, f1, f3, _⟩ := f2 b hb
  rcases List.mem_cons.mp (I2.stkSub b hz) with z | z
  ·exact f1 z
  ·exact f3 z
theorem wO {pins : List (Addr × Obj)} {s : Shared} {σ : St} {H : Hp} {Q : VK} {RR : Value -> Addr -> Result -> Shared -> Prop} {cqual : Str} (hc : X.calm = true) (S : CSc osc scope ON N cap) (hsc : X.env.scope = osc) (hN : X.N = ON)
  (hi : PI X tg iter wi) (hg : ∀ C s H fp, PG (X.comp N scope C s H fp) tg g) (ht : ∀ C s H fp, oG (X.comp N scope C s H fp) ifs tt) (he : ∀ C s H fp, PE (X.comp N scope C s H fp) elt te)
  (I : Inv X pins σ H s) (h : yr wi cap g tt te σ H Q)
  (fin : ∀ D C H' s', Inv X pins σ H' s' -> ju X pins H' C -> (∃ m, s'.heap.Ns C m) -> Q (.ref D) H' -> RR (.ref D) C (.ok .next) s') :
  wpAny (model X.prog X.w) X.A (eval iter X.env) (fun x s₁ => wpAny (model X.prog X.w) X.A (pyIter x) (fun itv s₂ => wpAny (model X.prog X.w) X.A (newList []) (fun acc s₃ =>
   wpAny (model X.prog X.w) X.A (newFunctionEnv scope X.env.globals (pP X.env scope.names) [] X.env.qual none .none (some X.env)) (fun cenv s₄ =>
    codeAny (model X.prog X.w) X.A (.compStart (.ListComp elt [⟨tg, iter, ifs, 0⟩] scope pos) 0 itv acc { cenv with scope := relabel scope X.env }) (RR acc cenv.locals) s₄) X.xe s₃) X.xe s₂) X.xe s₁) X.xe s := by
 refine thn (hi pins s σ H _ I h.ex) fun v s1 h1 => thn h1 fun itv s2 h2 => ?_
 obtain ⟨it, fp, tn, J, H2, e, I2, T, st2, f2, q2⟩ := h2
 subst e
 refine wpAny_newObj_type (wpAny_newFunctionEnv S.noc (by intro y hy; simp at hy) (fun h₁ hns₁ hsb₁ => ?_) S.kind)
 dsimp only at hns₁ hsb₁ ⊢
 generalize hH2 : s2.heap.push { cls := .type "list", dict := none, data := .seq ([] : List Value).toArray } = P2 at hns₁ hsb₁ ⊢
 generalize hD : s2.heap.objs.size = D
 generalize hCe : P2.objs.size = C at hns₁ hsb₁ ⊢
 have hCD : C = D + 1 := by rw [← hCe, ← hH2, Heap.size_push, hD]
 have hCle : s2.heap.objs.size <= C := by rw [hCD, hD]; exact Nat.le_succ _
 have hfp : ∀ b ∈ fp, b < s2.heap.objs.size := fun b hb => by
  obtain ⟨o, e, _⟩ := T.obj 0 _ st2 b hb
  exact Heap.lt_size e
 have below : ∀ b, b < s2.heap.objs.size -> b ≠ C := fun b hb => Nat.ne_of_lt (Nat.lt_of_lt_of_le hb hCle)
 have k1 : ∀ b o, s2.heap.get? b = some o -> h₁.get? b = some o := fun b o e => hsb₁.extBut b o (below b (Heap.lt_size e)) (Heap.get?_push_of_some _ (hH2 ▸ Heap.get?_push_of_some _ e))
 have hDC : D ≠ C := by rw [hCD]; exact Nat.ne_of_lt (Nat.lt_succ_self _)
 have gD : h₁.get? D = some { cls := .type "list", dict := none, data := .seq ([] : List Value).toArray } := by
  refine hsb₁.extBut D _ hDC (Heap.get?_push_of_some _ ?_)
  rw [← hH2, ← hD]
  exact Heap.get?_push_size _ rfl
 have nD : H2 D = none := I2.hok.fresh (by rw [hD]; exact Nat.le_refl _)
 have nC : H2 C = none := I2.hok.fresh hCle
 have hfr : ∀ x ∈ scope.names, x.2 = .free -> ∃ c, X.env.cells.lookup x.1 = some c := fun x hx e => I2.ok.has x.1 (by
  rcases S.fr x hx e with z | z
  ·exact .inl (by rw [Env.kindOf, hsc]; exact z)
  ·exact .inr (by rw [Env.kindOf, hsc]; exact z))
 obtain ⟨W, ⟨m0, w0⟩, turn⟩ := q2 D nD
 have IY : Inv (X.comp N scope C s2 H2 fp) [] (cT cap σ) (upd H2 D (.lst [])) { s2 with heap := h₁, toks := s2.toks + ([] : List (Str × Value)).length } := by
  have hp : s2.heap.objs.size <= D := by rw [hD]; exact Nat.le_refl _
  refine ⟨Bp I2 S hsc f2 hfp hCle, rfl, I2.bare, Un.laid k1 hp nD, ⟨_, hns₁, fun j x v e1 e2 e3 => ?_⟩, fun x c e => ?_, ?_, fun x c e => ?_, fun p hp => by simp at hp, I2.hok.laid k1 hp ⟨Nat.zero_le _, [], _, .nil, gD⟩, ?_⟩
  ·have e2' : (cap.map (q9 σ))[j]? = some (some v) := e2
   rw [List.getElem?_map] at e2'
   cases q : cap[j]? with
   | none => rw [q] at e2'; cases e2'
   | some o =>
    rw [q] at e2'
    have e4 : q9 σ o = some v := Option.some.inj e2'
    cases o with
    | none => cases e4
    | some i =>
     have hσ : σ[i]? = some (some v) := by
      have e5 : (σ[i]?).getD none = some v := e4
      cases z : σ[i]? with
      | none => rw [z] at e5; cases e5
      | some w => rw [z] at e5; exact congrArg some e5
     obtain ⟨hx1, hx2⟩ := S.at q e1
     have hk : X.env.kindOf x = some .cell \/ X.env.kindOf x = some .free := by
      rcases S.fr _ (mem_of_lookup hx2) rfl with z | z
      ·exact .inl (by rw [Env.kindOf, hsc]; exact z)
      ·exact .inr (by rw [Env.kindOf, hsc]; exact z)
     obtain ⟨m, hn, hl⟩ := I2.loc
     obtain ⟨u, r, l⟩ := hl i x v (by rw [hN]; exact hx1) hσ (by
      rcases hk with z | z
      ·exact .inr (.inl z)
      ·exact .inr (.inr z))
     refine ⟨u, r, ?_⟩
     rcases l with ⟨z, _⟩ | ⟨_, c, hc', hcell⟩
     ·rcases hk with y | y
      ·rw [y] at z; cases z
      ·rw [y] at z; cases z
     ·obtain ⟨c', hc2⟩ := yV (env := X.env) (mem_of_lookup hx2)
      have e6 := iG hfr hc2
      rw [hc'] at e6
      have e7 : c = c' := Option.some.inj e6
      subst e7
      obtain ⟨oc, ho, hd⟩ := hcell
      exact .inr ⟨mR (env := X.env) hx2, c, hc2, ⟨oc, k1 c oc ho, hd⟩⟩
  ·obtain ⟨v, oc, ho, hd⟩ := I2.cell x c (iG hfr e)
   exact ⟨v, oc, k1 c oc ho, hd⟩
  ·show upd H2 D (.lst []) C = none
   rw [aO (Ne.symm hDC)]
   exact nC
  ·have e' := iG hfr e
   obtain ⟨v, oc, ho, hd⟩ := I2.cell x c e'
   show upd H2 D (.lst []) c = none
   rw [aO (fun z => absurd (Heap.lt_size ho) (by rw [z, hD]; exact Nat.lt_irrefl _))]
   exact I2.freeC x c e'
  ·show (cap.map (q9 σ)).length = N.length
   rw [List.length_map]
   exact S.len
 have stat : ∀ {H' : Hp}, (∀ b ∈ fp, H' b = none) -> ∀ b ∈ fp, ju (X.comp N scope C s2 H2 fp) [] H' b := fun hn b hb => by
  obtain ⟨_, f1, f3, f4, f5, f6⟩ := f2 b hb
  refine ⟨hn b hb, below b (hfp b hb), fun hz => ?_, .inl hb, fun x c e => f5 x c (iG hfr e), fun p hp => by simp at hp⟩
  rcases List.mem_cons.mp (I2.stkSub b hz) with z | z
  ·exact f1 z
  ·exact f3 z
 have back : ∀ {σ' : St} {H' : Hp} {s' : Shared}, Inv (X.comp N scope C s2 H2 fp) [] σ' H' s' -> Inv X pins σ H' s' := fun {σ' H' s'} I' =>
  I2.call' (ch := fp) I'.os I'.base I'.hok I'.bare fun b hb => let ⟨_, f1, _, f4, f5, f6⟩ := f2 b hb; ⟨f4, f1, f5, f6⟩
 have st1 : tn 0 h₁ := T.keep 0 _ _ st2 fun b _ o e => k1 b o e
 have fr1 : ∀ b ∈ fp, upd H2 D (.lst []) b = none := fun b hb => by
  rw [aO (fun z => absurd (hfp b hb) (by rw [z, hD]; exact Nat.lt_irrefl _))]
  exact (f2 b hb).1
 have loop : codeAny (model X.prog X.w) X.A (.compLoop (.ListComp elt [⟨tg, iter, ifs, 0⟩] scope pos) 0 (.ref it) (.ref D) (compEnvC scope (pP X.env scope.names) C X.env)) (RR (.ref D) C) { s2 with heap := h₁, toks := s2.toks + ([] : List (Str × Value)).length } := by
  refine nM (fun n s' => ∃ i ys H', Inv (X.comp N scope C s2 H2 fp) [] (cT cap σ) H' s' /\ tn i s'.heap /\ (∀ b ∈ fp, H' b = none) /\ W i n ys H') ?_ m0 ⟨0, [], _, IY, st1, fr1, w0⟩
  rintro n s3 ⟨i, ys, H3, I3, st3, fr3, w3⟩
  obtain ⟨hDy, hturn⟩ := turn i n ys H3 w3
  rcases hturn with ⟨stop, qn⟩ | ⟨go, Nx, hNx, step⟩
  ·refine thn (T.done (X.comp N scope C s2 H2 fp) rfl rfl rfl hc i [] s3 (cT cap σ) H3 _ I3 (stat fr3) st3 stop) fun r s4 ⟨hr, I4⟩ => ?_
   subst hr
   obtain ⟨m, hm, _⟩ := I4.loc
   exact fin D C H3 s4 (back I4) (I2.fpOk hCle I4.free) ⟨m, hm⟩ qn
  ·refine thn (T.item (X.comp N scope C s2 H2 fp) rfl rfl rfl hc i [] s3 (cT cap σ) H3 _ I3 (stat fr3) st3 go) fun r s4 ⟨u, hr, h4⟩ => ?_
   subst hr
   refine thn h4 fun _ s5 ⟨x, H5, I5, r5, y5, st5, fr5⟩ => ?_
   have I5' := I5.pinned (stat fr5) (T.obj _ _ st5)
   refine thn (hg C s2 H2 fp _ s5 (cT cap σ) H5 x u _ I5' r5 (step x H5 y5)) fun _ s6 ⟨σ6, H6, I6, kp6, q6⟩ => ?_
   refine thn (ht C s2 H2 fp _ s6 σ6 H6 _ I6 q6) fun b s7 ⟨H7, I7, q7⟩ => ?_
   have again : ∀ {ys' : List V} {H7 : Hp} {s7 : Shared}, Inv (X.comp N scope C s2 H2 fp) ([] ++ oZ fp s5.heap) σ6 H7 s7 -> Nx ys' H7 -> ∃ m, m < n /\ ∃ i ys H', Inv (X.comp N scope C s2 H2 fp) [] (cT cap σ) H' s7 /\ tn i s7.heap /\ (∀ b ∈ fp, H' b = none) /\ W i m ys H' := fun {ys' H7 s7} I7 n7 => by
    obtain ⟨m', hm, w7⟩ := hNx ys' H7 n7
    refine ⟨m', hm, i + 1, ys', H7, I7.unpinned.weak kp6.1 kp6.2, T.keep _ _ _ st5 fun b hb o e => (I7.pin (b, o) (List.mem_append_right _ (List.mem_append_right _ (iQ hb e)))).1, fun b hb => ?_, w7⟩
    obtain ⟨o, e, d⟩ := T.obj _ _ st5 b hb
    exact (I7.pin (b, o) (List.mem_append_right _ (List.mem_append_right _ (iQ hb e)))).2.1
   cases b with
   | false =>
    rw [if_neg Bool.false_ne_true] at q7 ⊢
    exact again I7 q7
   | true =>
    rw [if_pos rfl] at q7 ⊢
    refine thn (he C s2 H2 fp _ s7 σ6 H7 _ I7 q7) fun xv s8 ⟨y, H8, I8, r8, hD8, hl8, n8⟩ => ?_
    refine thn (q8 (X := X.comp N scope C s2 H2 fp) _ s8 σ6 H8 (.ref D) [y] (.ref D) [xv] (fun _ H9 => Nx (ys ++ [y]) H9) I8 rfl (.cons r8 .nil) ⟨D, ys, y, rfl, rfl, hD8, hl8, n8⟩) fun _ s9 ⟨_, H9, I9, _, n9⟩ => ?_
    exact again I9 n9
 subst hD hCe
 exact codeAny_compStart_list loop (T.self _ 0 _ _ _ st1 loop)
theorem uD {pins : List (Addr × Obj)} {s : Shared} {σ : St} {H : Hp} (S : CSc osc scope ON N cap) (hsc : X.env.scope = osc) (I : Inv X pins σ H s) : closureFor scope X.env = pure (pP X.env scope.names) :=
 xX fun x hx e => I.ok.has x.1 (by
  rcases S.fr x hx e with z | z
  ·exact .inl (by rw [Env.kindOf, hsc]; exact z)
  ·exact .inr (by rw [Env.kindOf, hsc]; exact z))
theorem Inv.letgo {pins : List (Addr × Obj)} {s' : Shared} {σ : St} {H' : Hp} {C : Addr} {h' : Heap} (I : Inv X pins σ H' s') (f : ju X pins H' C) (hs : Heap.SameBut C s'.heap h') : Inv X pins σ H' { s' with heap := h' } :=
 I.turned (t' := s'.toks) (it := C) (fun b o hb e => (hs.2 b hb).trans e) f.1 f.2.1 f.2.2.2.1 f.2.2.2.2.1 f.2.2.2.2.2
theorem Kc (S : CSc osc scope ON N cap) (hi : PI X tg iter wi) (hg : ∀ C s H fp, PG (X.comp N scope C s H fp) tg g) (ht : ∀ C s H fp, oG (X.comp N scope C s H fp) ifs tt) (he : ∀ C s H fp, PE (X.comp N scope C s H fp) elt te)
  (hc : X.calm = true := by rfl) (hsc : X.env.scope = osc := by rfl) (hN : X.N = ON := by rfl) (hs : ∀ x, foldedSetIterable iter X.env x = pure x := by intro _; rfl) : PE X (.ListComp elt [⟨tg, iter, ifs, 0⟩] scope pos) (yr wi cap g tt te) := by
 intro pins s σ H Q I h
 rw [eval_ListComp]
 refine wpAny_comprehension_free (use := none) rfl hs (uD S hsc I) S.kind S.loc ?_
 refine wO (RR := fun acc C => compPost (model X.prog X.w) X.A X.xe none (EP X pins σ Q) acc C) (cqual := "") hc S hsc hN hi hg ht he I h fun D C H' s' I' f hm q => ?_
 obtain ⟨m, hm⟩ := hm
 exact ⟨m, hm, fun h' hs' => ⟨.ref D, H', I'.letgo f hs', rfl, q⟩⟩
theorem Kd {i : Nat} {y : Str} {py spos : Pos} (S : CSc osc scope ON N cap) (hNd : X.N.Nodup) (hi' : X.N[i]? = some y) (hy : Loc X.env.scope y) (hi : PI X tg iter wi) (hg : ∀ C s H fp, PG (X.comp N scope C s H fp) tg g) (ht : ∀ C s H fp, oG (X.comp N scope C s H fp) ifs tt) (he : ∀ C s H fp, PE (X.comp N scope C s H fp) elt te)
  (hsw : swapsWith (.ListComp elt [⟨tg, iter, ifs, 0⟩] scope pos) (some (.Name y py)) spos.line X.env = pure true := by rfl)
  (hc : X.calm = true := by rfl) (hsc : X.env.scope = osc := by rfl) (hN : X.N = ON := by rfl) (hs : ∀ x, foldedSetIterable iter X.env x = pure x := by intro _; rfl)
  (hf : X.fn y = true \/ X.env.scope.names.lookup y = some .local := by first | exact .inl rfl | exact .inr rfl | assumption) :
  PS X (.Assign [.Name y py] (.ListComp elt [⟨tg, iter, ifs, 0⟩] scope pos) spos) (G3 (yr wi cap g tt te) (tu i)) := by
 intro pins s σ H D0 I h
 rw [exec_Assign_Name_used _ _ _ _ hsw]
 refine wpAny_bind (wpAny_standAt (wpAny_bind ?_))
 show wpAny _ _ (do let _ ← comprehension (.ListComp elt [⟨tg, iter, ifs, 0⟩] scope pos) scope X.env _ (newList []) false (eval iter X.env) (some (assign (.Name y py) X.env))) _ _ s
 refine wpAny_bind (wpAny_mono (wpAny_comprehension_free (use := some (assign (.Name y py) X.env)) (Q := fun _ s' => SP X pins D0 .next s') rfl hs (uD S hsc I) S.kind S.loc
  (wO (RR := fun acc C => compPost (model X.prog X.w) X.A X.xe (some (assign (.Name y py) X.env)) (fun _ s' => SP X pins D0 .next s') acc C) (cqual := "") hc S hsc hN hi hg ht he I h fun D C H' s' I' f hm q => ?_))
  (fun _ s' hq => wpAny_pure (wpAny_pure hq)) fun _ _ e => e)
 obtain ⟨m, hm⟩ := hm
 show wpAny _ _ (assign (.Name y py) X.env (.ref D)) _ _ s'
 refine wpAny_assign_Name (wH I' hNd hi' hy (v := .ref D) rfl (fun s'' I'' hch => ?_) hf)
 obtain ⟨a, hsb, ha⟩ := hch
 have nCa : C ≠ a := by
  rintro rfl
  rcases ha with z | z
  ·exact f.2.1 z
  ·exact f.2.2.2.2.1 y C z rfl
 refine ⟨m, hm.sameBut hsb nCa, fun h' hs' => ⟨_, H', I''.letgo f hs', q⟩⟩
end
section
variable {tt : TT} {te : TE} {Q : VK} {σ0 rest : St} {H : Hp} {D : Addr}
end
end L2
namespace L2
open PySem PySem.Spec PyProof.Rows
section
variable {X : Cx} {pins : List (Addr × Obj)} {σ : St} {H H' : Hp} {s : Shared} {h' : Heap}
theorem Inv.turnedL {t' : Nat} {ch : List Addr} {a : Addr} {o : HO} (I : Inv X pins σ H s) (k : ∀ b u, b ∉ ch -> s.heap.get? b = some u -> h'.get? b = some u) (ht : ∀ b u, s.heap.get? b = some u -> ∃ u', h'.get? b = some u') (hf : ∀ b ∈ ch, ju X pins H b)
  (hp : s.heap.objs.size <= a) (new : ObjOk X.prog X.w (upd H a o) h' a o) : Inv X pins σ (upd H a o) { s with heap := h', toks := t' } := by
 have hn : H a = none := I.hok.fresh hp
 have nch : ∀ b u, H b = some u -> b ∉ ch := fun b u e hb => by
  rw [(hf b hb).1] at e; cases e
 have na : ∀ b u, s.heap.get? b = some u -> b ≠ a := fun b u e => Nat.ne_of_lt (Nat.lt_of_lt_of_le (Heap.lt_size e) hp)
 have hhok : HOk X.prog X.w (upd H a o) h' := fun b u e => by
  by_cases hb : b = a
  ·subst hb; rw [bF] at e; cases e; exact new
  ·rw [aO hb] at e
   refine (I.hok b u e).stay (fun c v hc q => k c v ?_ q) (fun c q => by rw [aO (aR q hn)]; exact q) fun c xs q => by rw [aO (aR q hn)]; exact q
   rcases hc with rfl | hc
   ·exact nch c u e
   ·exact nch c _ hc
 refine I.step (g' := s.gens) (d' := s.drawn) (ch := ch) (fun b hb => let ⟨_, f1, _, f4, f5, f6⟩ := hf b hb; ⟨f4, f1, f5, f6⟩) (fun b o _ _ hc e _ => k b o hc e) (fun b o _ _ hc e _ => ⟨o.slots, k b o hc e⟩)
  (fun b o _ e n => by rw [aO (na b o e)]; exact n) (fun b o _ e => ht b o e) (fun b xs q => by rw [aO (aR q hn)]; exact q) (fun b u xs q => by rw [aO (aR q hn)]; exact q)
  (fun b ps q => ⟨#[], by rw [aO (aR q hn), q]; simp⟩) (fun m hm => ?_) hhok I.bare
 obtain ⟨oL, es, ep, ho, r⟩ := hm
 have nL : X.env.locals ∉ ch := fun hb => (hf _ hb).2.1 rfl
 exact ⟨oL, es, ep, k _ oL nL ho, r⟩
end
def Ite (K : PySem.W.Frag) (a : Addr) : It :=
 ⟨fun i H => ∃ xs x, SqL K H a xs /\ xs[i]? = some x, fun i H v H' => ∃ t x, H t = none /\ v = .ref t /\ H' = upd H t (.tup [.int (i : Nat), x]) /\ ∀ xs, SqL K H a xs -> xs[i]? = some x, fun i H => ∃ xs, SqL K H a xs /\ xs.length <= i⟩
def Nr (e it a : Addr) (i : Nat) (h : Heap) : Prop := (∃ old, IsEnum h e it (i : Nat) old) /\ h.IsListIter it a i
theorem wQ {P : Program} {w : World} {K : PySem.W.Frag} {es : List Expr} {x1 : Nat} {tpos : Pos} (a e it : Addr) (hne : e ≠ it) : Turn P w K (.Tuple es x1 tpos) (Ite K a) [it, e] e (Nr e it a) where
 mem := by simp
 obj := fun i h st b hb => by
  obtain ⟨⟨old, he⟩, o, e1, c, d⟩ := st
  rcases List.mem_cons.mp hb with z | z
  ·subst z
   exact ⟨o, e1, fun v y => by rw [d] at y; cases y⟩
  ·have z' : b = e := by simpa using z
   subst z'
   exact ⟨_, he, fun v y => by
    have y' : Data.fields _ = Data.cell v := y
    cases y'⟩
 keep := fun i h h' st k => by
  obtain ⟨⟨old, he⟩, st⟩ := st
  exact ⟨⟨old, k e (by simp) _ he⟩, st.at fun o q => k it (by simp) o q⟩
 item := by
  intro X hP hw hK hc i pins s σ H E I hf st hg
  subst hP hw hK
  obtain ⟨xs, x, hq, hx⟩ := hg
  obtain ⟨⟨old, he⟩, hit⟩ := st
  obtain ⟨its, rv, p, hz⟩ := I.list hq
  obtain ⟨u, hu, ru⟩ := rv.get hx
  refine wpAny_pyNext_enum_item he hit p.isList (x := u) (by simpa using hu) hne fun h' heo hit' htup hsz hk => ⟨_, rfl, ?_⟩
  refine wpAny_letOwnedTupleGo_enum (s := { s with heap := h', toks := s.toks + 1 }) heo fun h2 he2 hs2 => ?_
  have hel : e < s.heap.objs.size := Heap.lt_size he
  have g2 : h2.get? s.heap.objs.size = some { cls := .type "tuple", data := .seq #[.int i s.toks, u] } := (hs2.2 _ (Nat.ne_of_gt hel)).trans htup
  have k2 : ∀ b o, b ∉ [it, e] -> s.heap.get? b = some o -> h2.get? b = some o := fun b o hb q => by
   have h1 : b ≠ it := fun z => hb (by simp [z])
   have h3 : b ≠ e := fun z => hb (by simp [z])
   exact (hs2.2 b h3).trans (hk b o h3 h1 q)
  have ht2 : ∀ b o, s.heap.get? b = some o -> ∃ o', h2.get? b = some o' := fun b o q => by
   by_cases h1 : b = it
   ·subst h1
    obtain ⟨o', e', _⟩ := hit'
    exact ⟨o', (hs2.2 b (Ne.symm hne)).trans e'⟩
   ·by_cases h3 : b = e
    ·subst h3; exact ⟨_, he2⟩
    ·exact ⟨o, k2 b o (by simp [h1, h3]) q⟩
  have I2 : Inv X pins σ (upd H s.heap.objs.size (.tup [.int (i : Nat), x])) { s with heap := h2, toks := s.toks + 1 } :=
   I.turnedL (ch := [it, e]) k2 ht2 hf (Nat.le_refl _) ⟨by show 2 <= sizeLine; decide, [.int i s.toks, u], .cons ⟨_, rfl⟩ (.cons ru .nil), ⟨_, g2, rfl, _, rfl⟩⟩
  refine ⟨.ref s.heap.objs.size, _, I2, rfl, ⟨s.heap.objs.size, x, I.fresh, rfl, rfl, fun ys hy => by rw [I.list_inj hy hq]; exact hx⟩, ⟨⟨u, he2⟩, ?_⟩, fun b hb => ?_⟩
  ·exact hit'.extBut hs2.extBut (Ne.symm hne)
  ·have hb0 := (hf b hb).1
   rw [aO ?_]
   ·exact hb0
   ·rcases List.mem_cons.mp hb with z | z
    ·subst z
     obtain ⟨o, e1, _⟩ := hit
     exact Nat.ne_of_lt (Heap.lt_size e1)
    ·have z' : b = e := by simpa using z
     subst z'
     exact Nat.ne_of_lt hel
 done := by
  intro X hP hw hK hc i pins s σ H E I hf st hg
  subst hP hw hK
  obtain ⟨xs, hq, hx⟩ := hg
  obtain ⟨⟨old, he⟩, hit⟩ := st
  obtain ⟨its, rv, p, hz⟩ := I.list hq
  obtain ⟨f0, f1, f2, f3, f4, f5⟩ := hf it (by simp)
  have hl := rv.length
  exact wpAny_pyNext_enum_end (I.ok.hd hc) he hit p.isList (by simp; omega) fun h' eb => ⟨rfl, I.turned (t' := s.toks) (fun b o hb q => eb b o hb q) f0 f1 f3 f4 f5⟩
 self := fun A i s Q E st h => by
  obtain ⟨⟨old, he⟩, hit⟩ := st
  have hT : s.TypeIs (.ref e) "enumerate" := ⟨_, he, rfl⟩
  refine wpAny_pyIter_slot hT F.slot_enumerate_iter (wpAny_call_entry F.slot_enumerate_iter hT F.entry_enumerate_iter ?_ (F.args_enumerate_iter_1 _))
  show wpAny _ _ (ret (.ref e)) _ _ s
  exact wpAny_pure ⟨_, rfl, "enumerate", _, hT, F.slot_enumerate_next.lookup, h⟩
section
variable {X : Cx}
def QH (K : PySem.W.Frag) (ta : TA) : TI := fun σ H R => ta σ H fun vs H1 => ∃ a, vs = [.ref a] /\ (∃ xs, SqL K H1 a xs) /\ R (Ite K a) H1
theorem Ke {l : Expr} {ta : TA} {es : List Expr} {x1 : Nat} {tpos p pos : Pos} (hg : Gl X "enumerate") (hm : X.mg "enumerate" = none) (ha : PA X [l] ta) (hs : starEach [l] X.env = [(false, eval l X.env)] := by rfl) :
  PI X (.Tuple es x1 tpos) (.Call (.Name "enumerate" p) [l] [] pos) (QH X.K ta) := by
 intro pins s σ H R I h
 refine Call_ (oX I hg hm PyProof.Rows.boot_enumerate (PyProof.Rows.callWith_type1 (thn (ha pos pins s σ H _ I h) fun us s1 ⟨vs, H1, I1, r1, q1⟩ => ?_) hs rfl))
 obtain ⟨a, e, ⟨xs, hq⟩, q⟩ := q1
 subst e
 obtain ⟨u, rfl, ru⟩ := vals1 r1
 cases ru
 obtain ⟨its, rv, p, hz⟩ := I1.list hq
 refine call_enumerate_list p.isList fun h' he hit hsz hk => ?_
 have I2 : Inv X pins σ H1 { s1 with heap := h' } := I1.kept (t' := s1.toks) hk
 have hT : (⟨h', s1.gens, s1.drawn, s1.toks, s1.os⟩ : Shared).TypeIs (.ref (s1.heap.objs.size + 1)) "enumerate" := ⟨_, he, rfl⟩
 refine (wQ (P := X.prog) (w := X.w) (K := X.K) (es := es) (x1 := x1) (tpos := tpos) a (s1.heap.objs.size + 1) s1.heap.objs.size (Nat.succ_ne_self _)).self X.A 0 { s1 with heap := h' } _ _ ⟨⟨.none, he⟩, hit⟩ ?_
 refine ⟨s1.heap.objs.size + 1, [s1.heap.objs.size, s1.heap.objs.size + 1], _, _, H1, rfl, I2, wQ a _ _ (Nat.succ_ne_self _), ⟨⟨.none, he⟩, hit⟩, fun b hb => ?_, q⟩
 have hb' : s1.heap.objs.size <= b := by
  rcases List.mem_cons.mp hb with z | z
  ·rw [z]; exact Nat.le_refl _
  ·rw [List.mem_singleton.mp z]; exact Nat.le_succ _
 exact I1.fpOk hb' (I1.hok.fresh hb')
end
def Its (x : Str) : It := ⟨fun i _ => i < x.cps.size, fun i H v H' => H' = H /\ ∃ c, x.cps[i]? = some c /\ v = .str ⟨#[c]⟩, fun i _ => i = x.cps.size⟩
theorem yW {P : Program} {w : World} {K : PySem.W.Frag} {tg : Expr} (it : Addr) (x : Str) (t : Tok) (ty : String) (hty : ["enumerate", "zip", "dict_itemiterator", "dict_reverseitemiterator", "odict_iterator", "itertools.zip_longest", "itertools.pairwise"].contains ty = false)
  (W : ∀ A : Around, A.handled = none -> Walks P w A it [it] [it] x.cps.size (SignAt x) (fun i h => h.IsStrIter it ty x t i))
  (slf : ∀ (A : Around) (i : Nat) (s : Shared) (Q : Value -> Shared -> Prop) (E : Value -> Shared -> Prop), s.heap.IsStrIter it ty x t i -> Q (.ref it) s -> wpAny (model P w) A (pyIter (.ref it)) Q E s) :
  Turn P w K tg (Its x) [it] it (fun i h => h.IsStrIter it ty x t i) where
 mem := by simp
 obj := fun i h st b hb => by
  have e : b = it := by simpa using hb
  subst e
  obtain ⟨o, e, c, d⟩ := st
  exact ⟨o, e, fun v z => by rw [d] at z; cases z⟩
 keep := fun i h h' st k => by
  obtain ⟨o, e, r⟩ := st
  exact ⟨o, k it (by simp) o e, r⟩
 item := by
  intro X hP hw hK hc i pins s σ H E I hf st hg
  subst hP hw hK
  obtain ⟨f0, f1, f2, f3, f4, f5⟩ := hf it (by simp)
  refine (W X.A (I.ok.hd hc)).item i s _ _ hg st fun v h' tk hv st' kk => ?_
  obtain ⟨c, u, hx, rfl⟩ := hv
  have I1 : Inv X pins σ H { s with heap := h', toks := tk } := I.turned (fun b o hb e => kk b o (by simpa using hb) e) f0 f1 f3 f4 f5
  obtain ⟨o, e, cc, d⟩ := id st'
  exact ⟨_, rfl, yo (s := { s with heap := h', toks := tk }) e cc d hty ⟨.str ⟨#[c]⟩, H, I1, ⟨u, rfl⟩, ⟨rfl, c, hx, rfl⟩, st', fun b hb => (hf b hb).1⟩⟩
 done := by
  intro X hP hw hK hc i pins s σ H E I hf st hg
  subst hP hw hK
  obtain ⟨f0, f1, f2, f3, f4, f5⟩ := hf it (by simp)
  have hg' : i = x.cps.size := hg
  subst hg'
  exact (W X.A (I.ok.hd hc)).done s _ _ st fun h' tk kk => ⟨rfl, I.turned (fun b o hb e => kk b o (by simpa using hb) e) f0 f1 f3 f4 f5⟩
 self := slf
section
variable {X : Cx} {tg : Expr}
def R0 (tl : TE) : TI := fun σ H R => tl σ H fun x H1 => ∃ z, x = .str z /\ R (Its z) H1
theorem Nt {l : Expr} {tl : TE} (hl : PE X l tl) : PI X tg l (R0 tl) := by
 intro pins s σ H R I h
 refine thn (hl pins s σ H _ I h) fun v s1 ⟨x, H1, I1, r1, q1⟩ => ?_
 obtain ⟨z, e, q⟩ := q1
 subst e
 obtain ⟨t, rfl⟩ := r1
 have fp : ∀ b ∈ [s1.heap.objs.size], ju X pins H1 b := fun b hb => by
  have e : b = s1.heap.objs.size := by simpa using hb
  subst e
  exact I1.fpOk (Nat.le_refl _) (I1.hok.fresh (Nat.le_refl _))
 cases ha : z.cps.all (· < 128)
 ·exact wpAny_pyIter_wide ha ⟨s1.heap.objs.size, [s1.heap.objs.size], _, _, H1, rfl, I1.kept (t' := s1.toks) fun b o e => Heap.get?_push_of_some _ e, yW _ z t "str_iterator" (by decide) (fun A hA => Walks.strWide hA _ z t) (fun A i s Q E st h => wpAny_pyIter_striter_wide st h), ⟨_, Heap.get?_push_size _ rfl, rfl, rfl⟩, fp, q⟩
 ·exact wpAny_pyIter_ascii ha ⟨s1.heap.objs.size, [s1.heap.objs.size], _, _, H1, rfl, I1.kept (t' := s1.toks) fun b o e => Heap.get?_push_of_some _ e, yW _ z t "str_ascii_iterator" (by decide) (fun A hA => Walks.strAscii hA _ z t) (fun A i s Q E st h => wpAny_pyIter_striter_ascii st h), ⟨_, Heap.get?_push_size _ rfl, rfl, rfl⟩, fp, q⟩
end
section
variable {tt : TT} {te : TE} {Q : VK} {σ0 rest : St} {H : Hp} {D : Addr}
end
section
variable {X : Cx}
theorem wR : ∀ {l : List (Str × Tok)} {zs : List Str}, l.map (·.1) = zs -> Vals (zs.map V.str) (strValues l)
 | [], _, e => by subst e; exact .nil
 | (x, t) :: r, _, e => by subst e; exact .cons ⟨t, rfl⟩ (wR rfl)
theorem q_ : ∀ {zs : List Str} {us : List Value}, Vals (zs.map V.str) us -> ∃ l : List (Str × Tok), us = strValues l /\ l.map (·.1) = zs
 | [], _, r => by cases r; exact ⟨[], rfl, rfl⟩
 | z :: zs, _, r => by
  cases r with
  | cons r1 r2 =>
   obtain ⟨t, rfl⟩ := r1
   obtain ⟨l, rfl, e⟩ := q_ r2
   exact ⟨(z, t) :: l, rfl, by rw [List.map_cons, e]⟩
def Fj : V -> List V -> Hp -> VK -> Prop := fun x vs H Q => ∃ z y, x = .str z /\ vs = [.str y] /\ (y.length == 0) = false /\ z.length <= 1000000 /\ ∀ l, H l = none -> Q (.ref l) (upd H l (.lst ((Txt.split z y).map V.str)))
theorem wU (x y : Str) : (Builtin.Str.partsBetween x (Builtin.Str.occurrences x y 0 x.length (x.length + 1)) y.length).length <= x.length + 2 := by
 have h := StrLaws.occ_length_le_len x y 0 x.length (x.length + 1)
 unfold Builtin.Str.partsBetween
 simp only [List.length_map, List.length_zip, List.length_cons, List.length_append, List.length_nil]
 omega
theorem split_len {x y : Str} : (Txt.split x y).length <= x.length + 2 := by
 unfold Txt.split
 split
 ·simp
 ·split
  ·simp
  ·exact wU x y
theorem Hm : MtR X "str.split" Fj := by
 intro pins s σ H x vs v us Q I rx rv h
 obtain ⟨z, y, rfl, rfl, hy, hz, q⟩ := h
 obtain ⟨t, rfl⟩ := rx
 obtain ⟨u, rfl, u', rfl⟩ := rv.one
 have sl := @split_len z y
 have hz2 : z.length <= sizeLine := Nat.le_trans hz (by decide)
 have hz3 : z.length + 2 <= sizeLine := Nat.le_trans (Nat.add_le_add_right hz 2) (by decide)
 have e0 : ∀ (l : List (Str × Tok)) (t' : Nat), l.map (·.1) = Txt.split z y -> EP X pins σ Q (.ref s.heap.objs.size) { s with heap := s.heap.push { cls := .type "list", data := .seq (strValues l).toArray }, toks := t' } := fun l t' e =>
  ⟨.ref s.heap.objs.size, _, I.lnew (wR e) (by
   rw [List.length_map]
   exact Nat.le_trans sl hz3), rfl, q _ I.fresh⟩
 cases h1 : (decide (z.length < y.length) || decide (Builtin.Str.strKind z < Builtin.Str.strKind y))
 ·cases hf : (Builtin.Str.occurrences z y 0 z.length (z.length + 1)).isEmpty
  ·refine call_meets F.slot_str_split (typeIs_str _ _ _) F.entry_str_split (F.args_str_split_2 _ _) (meets_str_split_sep z y t u' h1 hy hf hz2 (Nat.le_trans (wU z y) hz3)) ?_
   show wants _ _ _ { s with toks := _, heap := s.heap.push { cls := .type "list", data := .seq (strsFrom s.toks (Builtin.Str.partsBetween z (Builtin.Str.occurrences z y 0 z.length (z.length + 1)) y.length)).toArray } }
   rw [strsFrom_eq]
   exact e0 (numbered s.toks _) _ ((numbered_texts _ _).trans ((if_neg (ne_true_of_eq_false h1)).trans (if_neg (ne_true_of_eq_false hf))).symm)
  ·exact call_meets F.slot_str_split (typeIs_str _ _ _) F.entry_str_split (F.args_str_split_2 _ _) (meets_str_split_not_found z y t u' h1 hy hf)
    (e0 [(z, t)] s.toks ((if_neg (ne_true_of_eq_false h1)).trans (if_pos hf)).symm)
 ·exact call_meets F.slot_str_split (typeIs_str _ _ _) F.entry_str_split (F.args_str_split_2 _ _) (meets_str_split_cannot_occur z y t u' h1) (e0 [(z, t)] s.toks (if_pos h1).symm)
def rJoin (K : PySem.W.Frag) : V -> List V -> Hp -> VK -> Prop := fun x vs H Q => ∃ z l zs, x = .str z /\ vs = [.ref l] /\ SqL K H l (zs.map V.str) /\ JoinOk z zs = true /\ Q (.str (Str.join z zs)) H
theorem Kf : MtR X "str.join" (rJoin X.K) := by
 intro pins s σ H x vs v us Q I rx rv h
 obtain ⟨z, l, zs, rfl, rfl, hl, ok, q⟩ := h
 obtain ⟨t, rfl⟩ := rx
 obtain ⟨u, rfl, ru⟩ := rv.one
 cases ru
 obtain ⟨its, r, p, _⟩ := I.list hl
 obtain ⟨l', e, e2⟩ := q_ r
 subst e
 refine SC.join p.isList e2 ok fun t' k => ⟨.str (Str.join z zs), H, I.tok _, ⟨t', ?_⟩, q⟩
 unfold Txt.join
 rw [StrLaws.glued_eq_join]
theorem wV {bs : List Bool} {us : List Value} (r : Vals (bs.map V.bl) us) {i : Nat} {v : Value} (e : us[i]? = some v) : ∃ b, bs[i]? = some b /\ v = .bool b := by
 have hl := r.length
 rw [List.length_map] at hl
 have hi : i < us.length := (List.getElem?_eq_some_iff.mp e).1
 have hb : bs[i]? = some bs[i] := List.getElem?_eq_getElem (by omega)
 obtain ⟨u, h1, h2⟩ := r.get (i := i) (x := .bl bs[i]) (by rw [List.getElem?_map, hb] <;> rfl)
 rw [e] at h1
 cases h1
 exact ⟨_, hb, h2⟩
theorem range_all {bs : List Bool} {n : Nat} (hn : n = bs.length) : ((List.range n).all fun i => (bs[i]?).getD true) = bs.all id := by
 subst hn
 rw [Bool.eq_iff_iff]
 simp only [List.all_eq_true, List.mem_range, id]
 constructor
 ·intro h x hx
  obtain ⟨i, hi, e⟩ := List.mem_iff_getElem.mp hx
  have := h i hi
  rw [List.getElem?_eq_getElem hi] at this
  rw [← e]
  exact this
 ·intro h i hi
  rw [List.getElem?_eq_getElem hi]
  exact h _ (List.getElem_mem hi)
theorem range_any {bs : List Bool} {n : Nat} (hn : n = bs.length) : ((List.range n).any fun i => (bs[i]?).getD true) = bs.any id := by
 subst hn
 rw [Bool.eq_iff_iff]
 simp only [List.any_eq_true, List.mem_range, id]
 constructor
 ·rintro ⟨i, hi, h⟩
  rw [List.getElem?_eq_getElem hi] at h
  exact ⟨_, List.getElem_mem hi, h⟩
 ·rintro ⟨x, hx, h⟩
  obtain ⟨i, hi, e⟩ := List.mem_iff_getElem.mp hx
  refine ⟨i, hi, ?_⟩
  rw [List.getElem?_eq_getElem hi]
  show bs[i] = true
  rw [e]
  exact h
theorem kept_iter {h h' : Heap} {o : Obj} (hk : ∀ b x, b ∉ [h.objs.size] -> (h.push o).get? b = some x -> h'.get? b = some x) : ∀ b x, h.get? b = some x -> h'.get? b = some x :=
 fun b x e => hk b x (fun hm => by rw [List.mem_singleton.mp hm] at e; exact Nat.lt_irrefl _ (Heap.lt_size e)) (Heap.get?_push_of_some _ e)
theorem Hn (hc : X.calm = true := by rfl) : CallR X (.builtin "all") (fun xs H Q => ∃ (p : Addr) (bs : List Bool), xs = [.ref p] /\ SqL X.K H p (bs.map V.bl) /\ Q (.bl (bs.all id)) H) := by
 intro pins s σ H xs us Q I r h
 obtain ⟨l, bs, rfl, hq, q⟩ := h
 obtain ⟨u, rfl, rx⟩ := vals1 r
 cases rx
 obtain ⟨its, r', pl, hz⟩ := I.list hq
 have hl := pl.isList
 have hlen := r'.length
 rw [List.length_map] at hlen
 have hlt : l < s.heap.objs.size := by obtain ⟨_, e, _⟩ := hl; exact Heap.lt_size e
 have hh := I.ok.hd hc
 refine call_all_walk (wpAny_pyIter_list hl ?_)
 refine ⟨s.heap.objs.size, [s.heap.objs.size, l], [s.heap.objs.size], its.toArray.size, _, _, fun i => (bs[i]?).getD true, rfl, Walks.list (A := X.A.in1) hh _ l (Nat.ne_of_lt hlt) its.toArray,
  ⟨⟨_, Heap.get?_push_size _ rfl, rfl, rfl⟩, hl.push _⟩, fun i v s' Q' E' hP hQ => ?_, fun h' tk hk => ?_⟩
 ·obtain ⟨b, e, rfl⟩ := wV r' (i := i) (v := v) (by simpa using hP)
  simp only [e, Option.getD_some] at hQ
  exact wpAny_truthy_bool hQ
 ·refine ⟨.bl (bs.all id), H, I.kept (kept_iter hk), ?_, q⟩
  rw [range_all (by simp [hlen])]
  rfl
theorem Ho (hc : X.calm = true := by rfl) : CallR X (.builtin "any") (fun xs H Q => ∃ (p : Addr) (bs : List Bool), xs = [.ref p] /\ SqL X.K H p (bs.map V.bl) /\ Q (.bl (bs.any id)) H) := by
 intro pins s σ H xs us Q I r h
 obtain ⟨l, bs, rfl, hq, q⟩ := h
 obtain ⟨u, rfl, rx⟩ := vals1 r
 cases rx
 obtain ⟨its, r', pl, hz⟩ := I.list hq
 have hl := pl.isList
 have hlen := r'.length
 rw [List.length_map] at hlen
 have hlt : l < s.heap.objs.size := by obtain ⟨_, e, _⟩ := hl; exact Heap.lt_size e
 have hh := I.ok.hd hc
 refine call_any_walk (wpAny_pyIter_list hl ?_)
 refine ⟨s.heap.objs.size, [s.heap.objs.size, l], [s.heap.objs.size], its.toArray.size, _, _, fun i => (bs[i]?).getD true, rfl, Walks.list (A := X.A.in1) hh _ l (Nat.ne_of_lt hlt) its.toArray,
  ⟨⟨_, Heap.get?_push_size _ rfl, rfl, rfl⟩, hl.push _⟩, fun i v s' Q' E' hP hQ => ?_, fun h' tk hk => ?_⟩
 ·obtain ⟨b, e, rfl⟩ := wV r' (i := i) (v := v) (by simpa using hP)
  simp only [e, Option.getD_some] at hQ
  exact wpAny_truthy_bool hQ
 ·refine ⟨.bl (bs.any id), H, I.kept (kept_iter hk), ?_, q⟩
  rw [range_any (by simp [hlen])]
  rfl
theorem vW (hc : X.calm = true := by rfl) : CallR X (.type "list") (fun xs H Q => ∃ p kvs, xs = [.ref p] /\ H p = some (.dK kvs) /\ ∀ l, H l = none -> Q (.ref l) (upd H l (.lst (kvs.map fun kv => kV kv.1)))) := by
 intro pins s σ H xs us Q I r h
 obtain ⟨p, kvs, rfl, hp, q⟩ := h
 obtain ⟨u, rfl, rx⟩ := vals1 r
 cases rx
 obtain ⟨hz, lo, vs, rel, hD⟩ := Jw I.hok hp
 obtain ⟨o, es, ep, ho, hx, hd, hk, hpr, hn⟩ := hD
 have hlen := rel.length
 refine PySem.W.kdl_call (PySem.W.kdl_dict (knd := cX X.prog X.w) (kvs := vs) (ep := ep) lo) (I.ok.hd hc) ⟨o, es, ho, hx, hd, hk, hpr, hn⟩ (by omega) fun h' tk acc' c' kk hS hacc => ?_
 have hv : Vals (kvs.map fun kv => kV kv.1) acc'.toList := by
  have gen : ∀ (l : List (Key × V)) (l2 : List (Key × Value)) (us : List Value), KV l l2 -> us.length = l2.length -> (∀ (j : Nat) (v : Value), us[j]? = some v -> ∃ k x, l2[j]? = some (k, x) /\ (cX X.prog X.w).is k v = true) -> Vals (l.map fun kv => kV kv.1) us := by
   intro l
   induction l with
   | nil =>
    intro l2 us hr hl hu
    cases hr
    have : us = [] := List.length_eq_zero_iff.mp hl
    subst this
    exact .nil
   | cons a r ih =>
    intro l2 us hr hl hu
    cases hr with
    | @cons _ b _ r2 h1 h2 =>
     cases us with
     | nil => simp at hl
     | cons v us =>
      obtain ⟨k, x, e, hk⟩ := hu 0 v rfl
      have e' : b = (k, x) := by simpa using e
      have ek : a.1 = k := by rw [h1.1, e']
      refine .cons ?_ (ih r2 us h2 (by simpa using hl) fun j w e => by simpa using hu (j + 1) w (by simpa using e))
      show RelV (kV a.1) v
      rw [ek]
      rcases dm hk with ⟨i, t, rfl, rfl⟩ | ⟨x, t, rfl, rfl⟩
      ·exact ⟨t, rfl⟩
      ·exact ⟨t, rfl⟩
  refine gen kvs vs acc'.toList rel (by rw [Array.length_toList]; exact hacc.1) fun j v e => hacc.2 j v (by rw [← Array.getElem?_toList]; exact e)
 refine ⟨.ref s.heap.objs.size, _, I.laid kk (Nat.le_refl _) (show ObjOk X.prog X.w _ h' _ (.lst _) from ⟨?_, acc'.toList, c', hv, ?_⟩), rfl, q _ I.fresh⟩
 ·rw [List.length_map]; omega
 ·simpa using hS
mutual
inductive Dt (K : PySem.W.Frag) (H : Hp) : V -> PyData -> Prop
 | non : Dt K H .non .none
 | bl (b : Bool) : Dt K H (.bl b) (.bool b)
 | int (i : Int) : Dt K H (.int i) (.int i)
 | str (x : Str) : Dt K H (.str x) (.str x)
 | lst {a : Addr} {xs : List V} {ds : List PyData} : SqL K H a xs -> Dts K H xs ds -> Dt K H (.ref a) (.list ds)
 | tup {a : Addr} {xs : List V} {ds : List PyData} : SqT K H a xs -> Dts K H xs ds -> Dt K H (.ref a) (.tuple ds)
inductive Dts (K : PySem.W.Frag) (H : Hp) : List V -> List PyData -> Prop
 | nil : Dts K H [] []
 | cons {x : V} {xs : List V} {d : PyData} {ds : List PyData} : Dt K H x d -> Dts K H xs ds -> Dts K H (x :: xs) (d :: ds)
end
mutual
theorem Dt.reads {pins : List (Addr × Obj)} {σ : St} {H : Hp} {s : Shared} (I : Inv X pins σ H s) : ∀ {x : V} {d : PyData} {u : Value}, Dt X.K H x d -> RelV x u -> ∃ as, Reads s.heap u d as
 | _, _, _, .non, r => by cases r; exact ⟨[], .none⟩
 | _, _, _, .bl b, r => by cases r; exact ⟨[], .bool b⟩
 | _, _, _, .int i, r => by obtain ⟨t, rfl⟩ := r; exact ⟨[], .int i t⟩
 | _, _, _, .str x, r => by obtain ⟨t, rfl⟩ := r; exact ⟨[], .str x t⟩
 | _, _, _, .lst hq hs, r => by
  cases r
  obtain ⟨its, rv, pl, _⟩ := I.list hq
  obtain ⟨o, e, c, n, d⟩ := pl.isList
  obtain ⟨as, ra⟩ := Dts.reads I hs rv
  exact ⟨_, .list e c d (by simpa using ra)⟩
 | _, _, _, .tup hq hs, r => by
  cases r
  obtain ⟨its, rv, pl, _⟩ := I.tuple hq
  obtain ⟨o, e, c, n, d⟩ := pl
  obtain ⟨as, ra⟩ := Dts.reads I hs rv
  exact ⟨_, .tuple e c d (by simpa using ra)⟩
theorem Dts.reads {pins : List (Addr × Obj)} {σ : St} {H : Hp} {s : Shared} (I : Inv X pins σ H s) : ∀ {xs : List V} {ds : List PyData} {us : List Value}, Dts X.K H xs ds -> Vals xs us -> ∃ as, ReadsAll s.heap us ds as
 | _, _, _, .nil, r => by cases r; exact ⟨[], .nil⟩
 | _, _, _, .cons h hs, r => by
  cases r with
  | cons r1 r2 =>
   obtain ⟨as, ra⟩ := Dt.reads I h r1
   obtain ⟨bs, rb⟩ := Dts.reads I hs r2
   exact ⟨_, .cons ra rb⟩
end
theorem Nu (hu : X.A.units + 64 < cLine) : OpR X (compareOp .Eq) (fun x y H Q => ∃ d e, Dt X.K H x d /\ Dt X.K H y e /\ SeqAt.shaped d = true /\ SeqAt.shaped e = true /\ Q (.bl (PyData.eqv d e)) H) := by
 intro pins s σ H x y v u Q I rx ry h
 obtain ⟨d, e, h1, h2, s1, s2, q⟩ := h
 obtain ⟨as, ra⟩ := h1.reads I rx
 obtain ⟨bs, rb⟩ := h2.reads I ry
 exact eq_dataH ra rb s1 s2 hu ⟨.bl _, H, I, rfl, q⟩
theorem Nv (hu : X.A.units + 64 < cLine) : OpR X (compareOp .NotEq) (fun x y H Q => ∃ d e, Dt X.K H x d /\ Dt X.K H y e /\ SeqAt.shaped d = true /\ SeqAt.shaped e = true /\ Q (.bl (!PyData.eqv d e)) H) := by
 intro pins s σ H x y v u Q I rx ry h
 obtain ⟨d, e, h1, h2, s1, s2, q⟩ := h
 obtain ⟨as, ra⟩ := h1.reads I rx
 obtain ⟨bs, rb⟩ := h2.reads I ry
 exact ne_dataH ra rb s1 s2 hu ⟨.bl _, H, I, rfl, q⟩
theorem Am : CallR X (.builtin "isinstance") (fun xs H Q => ∃ x n t b, xs = [x, .ty n] /\ TyOf X.K H x t /\ PySem.W.kitOne X.K t (.type n) = some b /\ Q (.bl b) H) := by
 intro pins s σ H xs us Q I r h
 obtain ⟨x, n, t, b, rfl, ty, e, q⟩ := h
 obtain ⟨u, w', rfl, r1, r2⟩ := vals2 r
 cases r2
 exact Es I r1 ty e fun tk => ⟨.bl b, H, I.tok _, rfl, q⟩
end
end L2
namespace L2
open PySem PySem.Spec PyProof.Rows
structure Cal (P : Program) (w : World) (K : PySem.W.Frag) (mg : Str -> Option Value) (base : Heap) (k : Nat) (x : Str) (ps : List Str) (sp : Sp) : Prop where
 ex : ∃ f fd, FnOk P w K mg base CX0 k f fd ps sp /\ Binds K fd ps [] /\ PySem.W.keepIn K (.ref f) = true /\ mg x = some (.ref f)
theorem b8 {P : Program} {w : World} {K : PySem.W.Frag} {mg : Str -> Option Value} {base : Heap} {k : Nat} {x : Str} {ps : List Str} {sp : Sp} {st : Stmt} {f : Addr} {fd : FuncData} (F : Fun K x x st f fd)
  (hm : mg x = some (.ref f)) (hb : Binds K fd ps []) (G : FnOk P w K mg base CX0 k f fd ps sp) : Cal P w K mg base k x ps sp := ⟨f, fd, G, hb, F.kp, hm⟩
theorem Fl {X : Cx} {k j : Nat} {x : Str} {ps : List Str} {sp : Sp} {p pos : Pos} {e : Expr} {es : List Expr} {t : TA} (c : Cal X.prog X.w X.K X.mg X.base k x ps sp) (hr : Room j X.A) (ha : PA X (e :: es) t) (hle : k <= j := by decide) (hg : Gl X x := by rfl)
  (hdb : (x == ("__debug__" : Str)) = false := by decide) (he : starEach (e :: es) X.env = (false, eval e X.env) :: starEach es X.env := by rfl) (hpl : (backTo pos (starEach es X.env)).any (·.1) = false := by rfl) :
  PE X (.Call (.Name x p) (e :: es) [] pos) (Jr sp [] E0 t) := by
 obtain ⟨f, fd, G, hb, kp, hm⟩ := c.ex
 exact J0 G (hr.mono hle) hg hm kp hb .nil CN ha hdb he hpl
theorem bw {H : Hp} {p : Addr} (h : H p = none) (o : HO) : Same H (upd H p o) := fun b u q => by rw [aO (aR q h)]; exact q
theorem Same.new {H H' : Hp} {p : Addr} (s : Same H H') (h : H' p = none) (o : HO) : Same H (upd H' p o) := s.trans (bw h o)
theorem small {n : Nat} (h : n <= 1000) : n <= sizeLine := Nat.le_of_lt (Fg h)
theorem jH {n : Nat} (h : n <= 1000000) : n < sizeLine := Nat.lt_of_le_of_lt h (by decide)
abbrev PureAt (t : TE) (σ : St) (H : Hp) (v : V) : Prop := ∀ H', Same H H' -> ∀ Q : VK, (∀ H'', Same H' H'' -> Q v H'') -> t σ H' Q
abbrev PureT (t : TT) (σ : St) (H : Hp) (b : Bool) : Prop := ∀ H', Same H H' -> ∀ Q : Bool -> Hp -> Prop, (∀ H'', Same H' H'' -> Q b H'') -> t σ H' Q
section
variable {tt : TT} {te : TE} {Q : VK} {σ0 rest : St} {H : Hp} {D : Addr}
end
section
variable {K : PySem.W.Frag} {wi : TI} {cap : List (Option Nat)} {tt : TT} {te : TE} {σ rest : St} {H : Hp} {Q : VK} {xs : List V}
theorem PureAt.same {t : TE} {H1 : Hp} {v : V} (h : PureAt t σ H v) (s : Same H H1) : PureAt t σ H1 v := fun H' s' Q q => h H' (s.trans s') Q q
theorem PureT.same {t : TT} {H1 : Hp} {b : Bool} (h : PureT t σ H b) (s : Same H H1) : PureT t σ H1 b := fun H' s' Q q => h H' (s.trans s') Q q
end
def Txts (K : PySem.W.Frag) (H : Hp) (v : V) (ws : List Str) : Prop := ∃ l, v = .ref l /\ SqL K H l (ws.map V.str)
theorem Txts.mono {K : PySem.W.Frag} {H H' : Hp} {v : V} {ws : List Str} (h : Txts K H v ws) (s : Same H H') : Txts K H' v ws := let ⟨l, e, q⟩ := h; ⟨l, e, s.seq q⟩
def Rws (K : PySem.W.Frag) (H : Hp) (v : V) (rs : List (List Str)) : Prop := ∃ l ys, v = .ref l /\ SqL K H l ys /\ Paired (fun ws y => Txts K H y ws) rs ys
theorem um {α β : Type} {F G : α -> β -> Prop} (f : ∀ a b, F a b -> G a b) : ∀ {l₁ : List α} {l₂ : List β}, Paired F l₁ l₂ -> Paired G l₁ l₂
 | _, _, .nil => .nil
 | _, _, .cons h t => .cons (f _ _ h) (um f t)
theorem Rws.mono {K : PySem.W.Frag} {H H' : Hp} {v : V} {rs : List (List Str)} (h : Rws K H v rs) (s : Same H H') : Rws K H' v rs := let ⟨l, ys, e, q, p⟩ := h; ⟨l, ys, e, s.seq q, um (fun _ _ t => t.mono s) p⟩
theorem Paired.get {α β : Type} {F : α -> β -> Prop} : ∀ {l₁ : List α} {l₂ : List β} {i : Nat} {y : β}, Paired F l₁ l₂ -> l₂[i]? = some y -> ∃ x, l₁[i]? = some x /\ F x y
 | _, _, _, _, .nil, e => by simp at e
 | _, _, 0, _, .cons r _, e => by simp at e; subst e; exact ⟨_, rfl, r⟩
 | _, _, i + 1, y, .cons _ t, e => by
  obtain ⟨x, h1, h2⟩ := Paired.get (i := i) (y := y) t (by simpa using e)
  exact ⟨x, by simpa using h1, h2⟩
section
variable (K : PySem.W.Frag) {X : Cx}
end
end L2
namespace L2
open PySem PySem.Spec PyProof.Rows
def bI (x : Str) (lo hi : Option Int) : Str := ⟨((x.cps.toList.drop (HT.sIx x.length 0 lo)).take (HT.sIx x.length x.length hi - HT.sIx x.length 0 lo)).toArray⟩
theorem Kg (lo hi : Option Int) (n : Nat) : Builtin.Str.strSliceIndices lo hi 1 n = (List.range (HT.sIx n n hi - HT.sIx n 0 lo)).map (HT.sIx n 0 lo + ·) := by
 rw [← sliceRange_one]
 unfold Builtin.Str.strSliceIndices
 have cl : ∀ (o : Option Int) (d : Nat), d <= n -> (match o with | none => (d : Int) | some i => let i := if i < 0 then i + (n : Int) else i; if (1 : Int) > 0 then max 0 (min i (n : Int)) else max (-1) (min i ((n : Int) - 1))) = ((HT.sIx n d o : Nat) : Int) := fun o d hd => by
  cases o with
  | none => rfl
  | some i =>
   simp only [HT.sIx, show (1 : Int) > 0 by decide, if_true]
   by_cases h : i < 0
   ·simp only [h, if_true] <;> omega
   ·simp only [h, if_false] <;> omega
 have c1 := cl lo 0 (Nat.zero_le _)
 have c2 := cl hi n (Nat.le_refl _)
 simp only [show (1 : Int) > 0 by decide, if_true] at c1 c2 ⊢
 exact congr (congrArg sliceRange c1) c2 ▸ rfl
theorem Hq (x : Str) (t : Tok) (l u : Option (Int × Tok)) {Q : Value -> Shared -> Prop} {s : Shared} (hl : x.length <= sizeLine)
  (h : ∀ t' s', (s' = s \/ s' = { s with toks := s.toks + 1 }) -> Q (.str (bI x (l.map (·.1)) (u.map (·.1))) t') s') : (sliceMade x t l u none).post Q s := by
 unfold sliceMade slicePicked
 have e : Builtin.Str.strSliceIndices (l.map (·.1)) (u.map (·.1)) ((((none : Option (Int × Tok)).map (·.1)).getD 1)) x.length = _ := Kg (l.map (·.1)) (u.map (·.1)) x.length
 rw [e]
 have hp := pick_run x.cps (HT.sIx x.length 0 (l.map (·.1))) (HT.sIx x.length x.length (u.map (·.1)) - HT.sIx x.length 0 (l.map (·.1)))
 have hs : HT.sIx x.length x.length (u.map (·.1)) <= x.length := HT.sIx_le _ _ (Nat.le_refl _) _
 have hc : x.length = x.cps.toList.length := by simp [Str.length]
 by_cases hw : ((((none : Option (Int × Tok)).map (·.1)).getD 1 == 1 && ((List.range (HT.sIx x.length x.length (u.map (·.1)) - HT.sIx x.length 0 (l.map (·.1)))).map (HT.sIx x.length 0 (l.map (·.1)) + ·)).length == x.length) = true)
 ·rw [if_pos hw]
  show Q (.str x t) s
  have hn : HT.sIx x.length x.length (u.map (·.1)) - HT.sIx x.length 0 (l.map (·.1)) = x.length := by
   have := (Bool.and_eq_true _ _ ▸ hw).2
   simpa using this
  have e2 : bI x (l.map (·.1)) (u.map (·.1)) = x := by
   unfold bI
   rw [hn]
   by_cases h0 : x.length = 0
   ·have : x.cps.toList = [] := List.eq_nil_of_length_eq_zero (by omega)
    cases x with | mk c => simp at this; subst this; simp
   ·have h1 : HT.sIx x.length 0 (l.map (·.1)) = 0 := by omega
    rw [h1, List.drop_zero, hc, List.take_length]
  have := h t s (.inl rfl)
  rw [e2] at this
  exact this
 ·rw [if_neg hw, hp]
  refine ⟨?_, h _ _ (.inr rfl)⟩
  show ((x.cps.toList.drop _).take _).toArray.size <= sizeLine
  rw [List.size_toArray, List.length_take, List.length_drop, ← hc]
  omega
section
variable {X : Cx}
def Ny : V -> Option Int -> Option Int -> Hp -> VK -> Prop := fun x lo hi H Q => ∃ z, x = .str z /\ z.length <= sizeLine /\ Q (.str (bI z lo hi)) H
theorem Nz : SlR X Ny := by
 intro pins s σ H x v vl vu lo hi sl Q I rx hs pl pu h
 obtain ⟨z, rfl, hz, q⟩ := h
 obtain ⟨t, rfl⟩ := rx
 refine ⟨"str", _, slot_str_getitem.lookup, typeIs_str s z t, ?_⟩
 have part : ∀ {v : Value} {o : Option Int}, IsPart v o -> ∃ p : Option (Int × Tok), v = partValue p /\ p.map (·.1) = o := fun p => by
  cases p with
  | none => exact ⟨none, rfl, rfl⟩
  | int i t => exact ⟨some (i, t), rfl, rfl⟩
 obtain ⟨l, rfl, rfl⟩ := part pl
 obtain ⟨u, rfl, rfl⟩ := part pu
 refine wpAny_getItem_str_slice (l := l) (u := u) (st := none) hs rfl (Hq z t l u hz fun t' s' hs' => ?_)
 rcases hs' with rfl | rfl
 ·exact ⟨.str (bI z (l.map (·.1)) (u.map (·.1))), H, I, ⟨t', rfl⟩, q⟩
 ·exact ⟨.str (bI z (l.map (·.1)) (u.map (·.1))), H, I.tok _, ⟨t', rfl⟩, q⟩
def NB (K : PySem.W.Frag) : V -> Option Int -> Option Int -> Hp -> VK -> Prop := fun x lo hi H Q => Nm K x lo hi H Q \/ Ny x lo hi H Q
theorem NK : SlR X (NB X.K) := sl_list.or Nz
end
end L2
namespace L2
open PySem PySem.Spec PyProof.Rows
section
variable {X : Cx} {pins : List (Addr × Obj)} {σ : St} {H H' : Hp} {s : Shared} {h' : Heap}
theorem Inv.turnedM {t' : Nat} {ch : List Addr} (I : Inv X pins σ H s) (k : ∀ b u, b ∉ ch -> s.heap.get? b = some u -> h'.get? b = some u) (hf : ∀ b ∈ ch, ju X pins H b) : Inv X pins σ H { s with heap := h', toks := t' } := by
 have nch : ∀ b u, H b = some u -> b ∉ ch := fun b u e hb => by
  rw [(hf b hb).1] at e; cases e
 refine I.step (g' := s.gens) (d' := s.drawn) (ch := ch) (fun b hb => let ⟨_, f1, _, f4, f5, f6⟩ := hf b hb; ⟨f4, f1, f5, f6⟩) (fun b o _ _ hc e _ => k b o hc e) (fun b o _ _ hc e _ => ⟨o.slots, k b o hc e⟩)
  (fun _ _ _ _ n => n) (fun b o hc e => ⟨o, k b o hc e⟩) (fun _ _ e => e) (fun _ _ _ e => e) (fun b ps e => ⟨#[], by rw [e]; simp⟩) (fun m hm => ?_) (fun b u e => ?_) I.bare
 ·obtain ⟨oL, es, ep, ho, r⟩ := hm
  have nL : X.env.locals ∉ ch := fun hb => (hf _ hb).2.1 rfl
  exact ⟨oL, es, ep, k _ oL nL ho, r⟩
 ·refine (I.hok b u e).stay (fun c v hc q => k c v ?_ q) (fun _ q => q) fun _ _ q => q
  rcases hc with z | z
  ·rw [z]; exact nch b u e
  ·exact nch c _ z
end
def Itz (K : PySem.W.Frag) (a b : Addr) : It :=
  ⟨fun i H => ∃ xs x ys y, SqL K H a xs /\ xs[i]? = some x /\ SqL K H b ys /\ ys[i]? = some y,
   fun i H v H' => ∃ t x y, H t = none /\ v = .ref t /\ H' = upd H t (.tup [x, y]) /\ (∀ xs, SqL K H a xs -> xs[i]? = some x) /\ ∀ ys, SqL K H b ys -> ys[i]? = some y,
   fun i H => ∃ xs ys, SqL K H a xs /\ SqL K H b ys /\ (xs.length <= i \/ ys.length <= i)⟩
def Jy (z TI TO i1 i2 l1 l2 : Addr) (i : Nat) (h : Heap) : Prop := IsZip h z TI TO .none /\ IsPair h TI (.ref i1) (.ref i2) /\ (∃ a b, IsPair h TO a b) /\ h.IsListIter i1 l1 i /\ h.IsListIter i2 l2 i
theorem yX {P : Program} {w : World} {K : PySem.W.Frag} {es : List Expr} {x1 : Nat} {tpos : Pos} {z TI TO i1 i2 l1 l2 : Addr} (D : ZipApart z TI TO i1 i2 l1 l2) : Turn P w K (.Tuple es x1 tpos) (Itz K l1 l2) [z, TI, TO, i1, i2] z (Jy z TI TO i1 i2 l1 l2) where
 mem := by simp
 obj := fun i h st b hb => by
  obtain ⟨hz, hTI, ⟨a, c, hTO⟩, ⟨o1, e1, c1, d1⟩, ⟨o2, e2, c2, d2⟩⟩ := st
  simp only [List.mem_cons, List.not_mem_nil, or_false] at hb
  rcases hb with rfl | rfl | rfl | rfl | rfl
  ·exact ⟨_, hz, fun v y => by have y' : Data.fields _ = Data.cell v := y; cases y'⟩
  ·exact ⟨_, hTI, fun v y => by have y' : Data.seq _ _ = Data.cell v := y; cases y'⟩
  ·exact ⟨_, hTO, fun v y => by have y' : Data.seq _ _ = Data.cell v := y; cases y'⟩
  ·exact ⟨o1, e1, fun v y => by rw [d1] at y; cases y⟩
  ·exact ⟨o2, e2, fun v y => by rw [d2] at y; cases y⟩
 keep := fun i h h' st k => by
  obtain ⟨hz, hTI, ⟨a, c, hTO⟩, s1, s2⟩ := st
  exact ⟨k z (by simp) _ hz, k TI (by simp) _ hTI, ⟨a, c, k TO (by simp) _ hTO⟩, s1.at fun o q => k i1 (by simp) o q, s2.at fun o q => k i2 (by simp) o q⟩
 item := by
  intro X hP hw hK hc i pins s σ H E I hf st hg
  subst hP hw hK
  obtain ⟨xs, x, ys, y, hq1, hx, hq2, hy⟩ := hg
  obtain ⟨hz, hTI, ⟨a, b, hTO⟩, s1, s2⟩ := st
  obtain ⟨its1, rv1, p1, hz1⟩ := I.list hq1
  obtain ⟨its2, rv2, p2, hz2⟩ := I.list hq2
  obtain ⟨u, hu, ru⟩ := rv1.get hx
  obtain ⟨v, hv, rv⟩ := rv2.get hy
  refine wpAny_pyNext_zip_item D hz hTI hTO s1 s2 p1.isList p2.isList (x := u) (y := v) (by simpa using hu) (by simpa using hv) fun h' z1 t1 j1 j2 tp hsz hk => ⟨_, rfl, ?_⟩
  refine wpAny_letOwnedTupleGo_zip (s := { s with heap := h' }) z1 fun h2 z2 sb => ?_
  have lz : z < s.heap.objs.size := Heap.lt_size hz
  have g2 : h2.get? s.heap.objs.size = some { cls := .type "tuple", data := .seq #[u, v] } := (sb.2 _ (Nat.ne_of_gt lz)).trans tp
  have k2 : ∀ c o, c ∉ [z, TO, i1, i2] -> s.heap.get? c = some o -> h2.get? c = some o := fun c o hb q => by
   have n1 : c ≠ z := fun e => hb (by simp [e])
   have n2 : c ≠ TO := fun e => hb (by simp [e])
   have n3 : c ≠ i1 := fun e => hb (by simp [e])
   have n4 : c ≠ i2 := fun e => hb (by simp [e])
   exact (sb.2 c n1).trans (hk c o n1 n2 n3 n4 q)
  have gTO : IsPair h2 TO u v := (sb.2 _ D.TOz).trans t1
  have g1 : h2.IsListIter i1 l1 (i + 1) := j1.extBut sb.extBut D.i1z
  have g2' : h2.IsListIter i2 l2 (i + 1) := j2.extBut sb.extBut D.i2z
  have ht2 : ∀ c o, s.heap.get? c = some o -> ∃ o', h2.get? c = some o' := fun c o q => by
   by_cases n1 : c = z
   ·subst n1; exact ⟨_, z2⟩
   ·by_cases n2 : c = TO
    ·subst n2; exact ⟨_, gTO⟩
    ·by_cases n3 : c = i1
     ·subst n3; obtain ⟨o', e', _⟩ := g1; exact ⟨o', e'⟩
     ·by_cases n4 : c = i2
      ·subst n4; obtain ⟨o', e', _⟩ := g2'; exact ⟨o', e'⟩
      ·exact ⟨o, k2 c o (by simp [n1, n2, n3, n4]) q⟩
  have I2 : Inv X pins σ (upd H s.heap.objs.size (.tup [x, y])) { s with heap := h2, toks := s.toks } :=
   I.turnedL (ch := [z, TO, i1, i2]) k2 ht2 (fun b hb => hf b (by simp only [List.mem_cons, List.not_mem_nil, or_false] at hb ⊢; rcases hb with e | e | e | e <;> simp [e])) (Nat.le_refl _)
    ⟨by show 2 <= sizeLine; decide, [u, v], .cons ru (.cons rv .nil), ⟨_, g2, rfl, _, rfl⟩⟩
  refine ⟨.ref s.heap.objs.size, _, I2, rfl, ⟨s.heap.objs.size, x, y, I.fresh, rfl, rfl, fun zs hy => by rw [I.list_inj hy hq1]; exact hx, fun zs hy' => by rw [I.list_inj hy' hq2]; exact hy⟩, ⟨z2, ?_, ⟨u, v, gTO⟩, g1, g2'⟩, fun b hb => ?_⟩
  ·exact k2 TI _ (by simp [D.TIz, D.TITO, D.TIi1, D.TIi2]) hTI
  ·have hb0 := (hf b hb).1
   rw [aO ?_]
   ·exact hb0
   ·have hlt : b < s.heap.objs.size := by
     simp only [List.mem_cons, List.not_mem_nil, or_false] at hb
     rcases hb with rfl | rfl | rfl | rfl | rfl
     ·exact lz
     ·exact Heap.lt_size hTI
     ·exact Heap.lt_size hTO
     ·obtain ⟨o, e1, _⟩ := s1; exact Heap.lt_size e1
     ·obtain ⟨o, e1, _⟩ := s2; exact Heap.lt_size e1
    exact Nat.ne_of_lt hlt
 done := by
  intro X hP hw hK hc i pins s σ H E I hf st hg
  subst hP hw hK
  obtain ⟨xs, ys, hq1, hq2, hl⟩ := hg
  obtain ⟨hz, hTI, ⟨a, b, hTO⟩, s1, s2⟩ := st
  obtain ⟨its1, rv1, p1, hz1⟩ := I.list hq1
  obtain ⟨its2, rv2, p2, hz2⟩ := I.list hq2
  have l1' := rv1.length
  have l2' := rv2.length
  refine wpAny_pyNext_zip_end (I.ok.hd hc) D hz hTI hTO s1 s2 p1.isList p2.isList (hl.imp (fun h => by simp; omega) fun h => by simp; omega) fun h' hk => ⟨rfl, ?_⟩
  refine I.turnedM (t' := s.toks) (ch := [z, TO, i1, i2]) (fun c o hb q => ?_) (fun b hb => hf b (by simp only [List.mem_cons, List.not_mem_nil, or_false] at hb ⊢; rcases hb with e | e | e | e <;> simp [e]))
  exact hk c o (fun e => hb (by simp [e])) (fun e => hb (by simp [e])) (fun e => hb (by simp [e])) (fun e => hb (by simp [e])) q
 self := fun A i s Q E st h => wpAny_pyIter_zip st.1 h
section
variable {X : Cx}
def R1 (K : PySem.W.Frag) (ta : TA) : TI := fun σ H R => ta σ H fun vs H1 => ∃ a b, vs = [.ref a, .ref b] /\ (∃ xs, SqL K H1 a xs) /\ (∃ ys, SqL K H1 b ys) /\ R (Itz K a b) H1
theorem NP {l r : Expr} {ta : TA} {es : List Expr} {x1 : Nat} {tpos p pos : Pos} (hg : Gl X "zip") (hm : X.mg "zip" = none) (ha : PA X [l, r] ta) (hs : starEach [l, r] X.env = (false, eval l X.env) :: starEach [r] X.env := by rfl) (hp : (backTo pos (starEach [r] X.env)).any (·.1) = false := by rfl) :
  PI X (.Tuple es x1 tpos) (.Call (.Name "zip" p) [l, r] [] pos) (R1 X.K ta) := by
 intro pins s σ H R I h
 refine Call_ (oX I hg hm PyProof.Rows.boot_zip (PyProof.Rows.callWith_type1 (thn (ha pos pins s σ H _ I h) fun us s1 ⟨vs, H1, I1, r1, q1⟩ => ?_) hs hp))
 obtain ⟨a, b, e, ⟨xs, hq1⟩, ⟨ys, hq2⟩, q⟩ := q1
 subst e
 obtain ⟨u, v, rfl, ru, rv⟩ := vals2 r1
 cases ru
 cases rv
 obtain ⟨its1, rv1, p1, hz1⟩ := I1.list hq1
 obtain ⟨its2, rv2, p2, hz2⟩ := I1.list hq2
 have a1 : a < s1.heap.objs.size := by obtain ⟨_, e, _⟩ := p1.isList; exact Heap.lt_size e
 have a2 : b < s1.heap.objs.size := by obtain ⟨_, e, _⟩ := p2.isList; exact Heap.lt_size e
 refine call_zip_2 p1.isList p2.isList fun h' hz hTI hTO hi1 hi2 hsz hk => ?_
 have I2 : Inv X pins σ H1 { s1 with heap := h' } := I1.kept (t' := s1.toks) hk
 have D := zipApart_new a1 a2
 have st : Jy (s1.heap.objs.size + 4) (s1.heap.objs.size + 2) (s1.heap.objs.size + 3) s1.heap.objs.size (s1.heap.objs.size + 1) a b 0 h' := ⟨hz, hTI, ⟨_, _, hTO⟩, hi1, hi2⟩
 refine (yX (P := X.prog) (w := X.w) (K := X.K) (es := es) (x1 := x1) (tpos := tpos) D).self X.A 0 { s1 with heap := h' } _ _ st ?_
 refine ⟨s1.heap.objs.size + 4, _, _, _, H1, rfl, I2, yX D, st, fun c hb => ?_, q⟩
 have hb' : s1.heap.objs.size <= c := by
  simp only [List.mem_cons, List.not_mem_nil, or_false] at hb
  rcases hb with e | e | e | e | e <;> rw [e] <;> omega
 exact I1.fpOk hb' (I1.hok.fresh hb')
end
end L2
namespace L2
open PySem PySem.Spec PyProof.Rows
section
variable {X : Cx}
end
end L2
namespace L2
open PySem PySem.Spec PyProof.Rows
section
variable {prog : Program} {w : World} {A : Around} {E : Value -> Shared -> Prop} {s : Shared}
end
section
variable {X : Cx} {tg : Expr}
end
end L2
namespace L2
open PySem PySem.Spec PyProof.Rows
section
variable {X : Cx} {tg : Expr}
end
end L2
namespace MR
open PySem L2
inductive PV where
 | non | bl (b : Bool) | int (i : Int) | str (x : Str)
 | lst (xs : List PV) | frz (xs : List PV) | tup (xs : List PV) | ktp (xs : List PV)
 | dK (kvs : List (Key × PV)) | dT (kvs : List (List Key × PV))
 | obj (c : Nat) (fs : List (Str × PV))
structure MC where
 K : PySem.W.Frag
 cl : Nat -> Addr
mutual
inductive Rep (C : MC) (A : Addr -> Prop) (H : Hp) : V -> PV -> Prop
 | non : Rep C A H .non .non
 | bl (b : Bool) : Rep C A H (.bl b) (.bl b)
 | int (i : Int) : Rep C A H (.int i) (.int i)
 | str (x : Str) : Rep C A H (.str x) (.str x)
 | lst {a : Addr} {vs : List V} {xs : List PV} : H a = some (.lst vs) -> A a -> Reps C A H vs xs -> Rep C A H (.ref a) (.lst xs)
 | lstF {a : Addr} {o : Obj} {vs : List V} {xs : List PV} : H a = some (.frz o (.lst vs)) -> Reps C A H vs xs -> Rep C A H (.ref a) (.frz xs)
 | lstK {a : Addr} {vs : List V} {xs : List PV} : SqL C.K (fun _ => none) a vs -> Reps C A H vs xs -> Rep C A H (.ref a) (.frz xs)
 | tup {a : Addr} {vs : List V} {xs : List PV} : H a = some (.tup vs) -> Reps C A H vs xs -> Rep C A H (.ref a) (.tup xs)
 | tupK {a : Addr} {vs : List V} {xs : List PV} : SqT C.K (fun _ => none) a vs -> Reps C A H vs xs -> Rep C A H (.ref a) (.ktp xs)
 | dK {a : Addr} {kv : List (Key × V)} {kvs : List (Key × PV)} : H a = some (.dK kv) -> A a -> RepK C A H kv kvs -> Rep C A H (.ref a) (.dK kvs)
 | dT {a : Addr} {kv : List (List Key × V)} {kvs : List (List Key × PV)} : H a = some (.dT kv) -> A a -> RepT C A H kv kvs -> Rep C A H (.ref a) (.dT kvs)
 | obj {a dx : Addr} {c : Nat} {f : List (Str × V)} {fs : List (Str × PV)} : H a = some (.ins (C.cl c) dx f) -> A a -> RepF C A H f fs -> Rep C A H (.ref a) (.obj c fs)
inductive Reps (C : MC) (A : Addr -> Prop) (H : Hp) : List V -> List PV -> Prop
 | nil : Reps C A H [] []
 | cons {v : V} {p : PV} {vs : List V} {ps : List PV} : Rep C A H v p -> Reps C A H vs ps -> Reps C A H (v :: vs) (p :: ps)
inductive RepK (C : MC) (A : Addr -> Prop) (H : Hp) : List (Key × V) -> List (Key × PV) -> Prop
 | nil : RepK C A H [] []
 | cons {k : Key} {v : V} {p : PV} {vs : List (Key × V)} {ps : List (Key × PV)} : Rep C A H v p -> RepK C A H vs ps -> RepK C A H ((k, v) :: vs) ((k, p) :: ps)
inductive RepT (C : MC) (A : Addr -> Prop) (H : Hp) : List (List Key × V) -> List (List Key × PV) -> Prop
 | nil : RepT C A H [] []
 | cons {k : List Key} {v : V} {p : PV} {vs : List (List Key × V)} {ps : List (List Key × PV)} : Rep C A H v p -> RepT C A H vs ps -> RepT C A H ((k, v) :: vs) ((k, p) :: ps)
inductive RepF (C : MC) (A : Addr -> Prop) (H : Hp) : List (Str × V) -> List (Str × PV) -> Prop
 | nil : RepF C A H [] []
 | cons {k : Str} {v : V} {p : PV} {vs : List (Str × V)} {ps : List (Str × PV)} : Rep C A H v p -> RepF C A H vs ps -> RepF C A H ((k, v) :: vs) ((k, p) :: ps)
end
def CT : HO -> Bool
 | .lst _ => true
 | .dK _ => true
 | .dT _ => true
 | .ins _ _ _ => true
 | _ => false
def Ex (A : Addr -> Prop) (H : Hp) (A' : Addr -> Prop) (H' : Hp) : Prop := ∀ a o, H a = some o -> (A a -> H' a = some o /\ A' a) /\ (CT o = false -> H' a = some o)
theorem Ex.refl (A : Addr -> Prop) (H : Hp) : Ex A H A H := fun a o h => ⟨fun q => ⟨h, q⟩, fun _ => h⟩
theorem Ex.trans {A B C : Addr -> Prop} {H I J : Hp} (e : Ex A H B I) (f : Ex B I C J) : Ex A H C J := fun a o h => ⟨fun q => by
 obtain ⟨h1, q1⟩ := (e a o h).1 q
 exact (f a o h1).1 q1, fun m => (f a o ((e a o h).2 m)).2 m⟩
theorem Ex.of_same {A : Addr -> Prop} {H H' : Hp} (s : Same H H') : Ex A H A H' := fun a o h => ⟨fun q => ⟨s a o h, q⟩, fun _ => s a o h⟩
mutual
theorem Rep.ex {C : MC} {A A' : Addr -> Prop} {H H' : Hp} (e : Ex A H A' H') : ∀ {v : V} {p : PV}, Rep C A H v p -> Rep C A' H' v p
 | _, _, .non => .non
 | _, _, .bl b => .bl b
 | _, _, .int i => .int i
 | _, _, .str x => .str x
 | _, _, .lst h q r => .lst ((e _ _ h).1 q).1 ((e _ _ h).1 q).2 (Reps.ex e r)
 | _, _, .lstF h r => .lstF ((e _ _ h).2 rfl) (Reps.ex e r)
 | _, _, .lstK h r => .lstK h (Reps.ex e r)
 | _, _, .tup h r => .tup ((e _ _ h).2 rfl) (Reps.ex e r)
 | _, _, .tupK h r => .tupK h (Reps.ex e r)
 | _, _, .dK h q r => .dK ((e _ _ h).1 q).1 ((e _ _ h).1 q).2 (RepK.ex e r)
 | _, _, .dT h q r => .dT ((e _ _ h).1 q).1 ((e _ _ h).1 q).2 (RepT.ex e r)
 | _, _, .obj h q r => .obj ((e _ _ h).1 q).1 ((e _ _ h).1 q).2 (RepF.ex e r)
theorem Reps.ex {C : MC} {A A' : Addr -> Prop} {H H' : Hp} (e : Ex A H A' H') : ∀ {v : List V} {p : List PV}, Reps C A H v p -> Reps C A' H' v p
 | _, _, .nil => .nil
 | _, _, .cons h t => .cons (Rep.ex e h) (Reps.ex e t)
theorem RepK.ex {C : MC} {A A' : Addr -> Prop} {H H' : Hp} (e : Ex A H A' H') : ∀ {v : List (Key × V)} {p : List (Key × PV)}, RepK C A H v p -> RepK C A' H' v p
 | _, _, .nil => .nil
 | _, _, .cons h t => .cons (Rep.ex e h) (RepK.ex e t)
theorem RepT.ex {C : MC} {A A' : Addr -> Prop} {H H' : Hp} (e : Ex A H A' H') : ∀ {v : List (List Key × V)} {p : List (List Key × PV)}, RepT C A H v p -> RepT C A' H' v p
 | _, _, .nil => .nil
 | _, _, .cons h t => .cons (Rep.ex e h) (RepT.ex e t)
theorem RepF.ex {C : MC} {A A' : Addr -> Prop} {H H' : Hp} (e : Ex A H A' H') : ∀ {v : List (Str × V)} {p : List (Str × PV)}, RepF C A H v p -> RepF C A' H' v p
 | _, _, .nil => .nil
 | _, _, .cons h t => .cons (Rep.ex e h) (RepF.ex e t)
end
theorem dG {A A' : Addr -> Prop} {H : Hp} (h : ∀ a o, H a = some o -> A a -> A' a) : Ex A H A' H := fun a o e => ⟨fun q => ⟨e, h a o e q⟩, fun _ => e⟩
theorem Reps.length {C : MC} {A : Addr -> Prop} {H : Hp} : ∀ {vs : List V} {ps : List PV}, Reps C A H vs ps -> vs.length = ps.length
 | _, _, .nil => rfl
 | _, _, .cons _ t => by simp [Reps.length t]
theorem Reps.append {C : MC} {A : Addr -> Prop} {H : Hp} : ∀ {vs us : List V} {ps qs : List PV}, Reps C A H vs ps -> Reps C A H us qs -> Reps C A H (vs ++ us) (ps ++ qs)
 | _, _, _, _, .nil, h => h
 | _, _, _, _, .cons h t, r => .cons h (Reps.append t r)
theorem Reps.get {C : MC} {A : Addr -> Prop} {H : Hp} : ∀ {vs : List V} {ps : List PV} {i : Nat} {p : PV}, Reps C A H vs ps -> ps[i]? = some p -> ∃ v, vs[i]? = some v /\ Rep C A H v p
 | _, _, _, _, .nil, e => by simp at e
 | _, _, 0, _, .cons h t, e => by simp at e; subst e; exact ⟨_, rfl, h⟩
 | _, _, i + 1, p, .cons h t, e => by
  obtain ⟨v, e1, r⟩ := Reps.get (i := i) (p := p) t (by simpa using e)
  exact ⟨v, by simpa using e1, r⟩
theorem Reps.drop {C : MC} {A : Addr -> Prop} {H : Hp} : ∀ {vs : List V} {ps : List PV} (n : Nat), Reps C A H vs ps -> Reps C A H (vs.drop n) (ps.drop n)
 | _, _, 0, h => by simpa using h
 | _, _, n + 1, .nil => by simpa using Reps.nil
 | _, _, n + 1, .cons _ t => by simpa using Reps.drop n t
theorem Reps.take {C : MC} {A : Addr -> Prop} {H : Hp} : ∀ {vs : List V} {ps : List PV} (n : Nat), Reps C A H vs ps -> Reps C A H (vs.take n) (ps.take n)
 | _, _, 0, h => by simpa using Reps.nil
 | _, _, n + 1, .nil => by simpa using Reps.nil
 | _, _, n + 1, .cons h t => by simpa using Reps.cons h (Reps.take n t)
theorem Reps.set {C : MC} {A : Addr -> Prop} {H : Hp} {v : V} {p : PV} (r : Rep C A H v p) : ∀ {vs : List V} {ps : List PV} (n : Nat), Reps C A H vs ps -> Reps C A H (vs.set n v) (ps.set n p)
 | _, _, _, .nil => .nil
 | _, _, 0, .cons _ t => .cons r t
 | _, _, n + 1, .cons h t => .cons h (Reps.set r n t)
theorem vX {C : MC} {A : Addr -> Prop} {H : Hp} {α : Type} (f : α -> V) (g : α -> PV) (h : ∀ x, Rep C A H (f x) (g x)) : ∀ l : List α, Reps C A H (l.map f) (l.map g)
 | [] => .nil
 | x :: l => .cons (h x) (vX f g h l)
theorem RepK.val {C : MC} {A : Addr -> Prop} {H : Hp} {k : Key} : ∀ {kv : List (Key × V)} {kvs : List (Key × PV)}, RepK C A H kv kvs -> (∃ v p, jd kv k = some v /\ (kvs.find? fun x => decide (x.1 = k)).map (·.2) = some p /\ Rep C A H v p) \/ (jd kv k = none /\ (kvs.find? fun x => decide (x.1 = k)).map (·.2) = none)
 | _, _, .nil => .inr ⟨rfl, rfl⟩
 | _, _, .cons (k := k') (v := v) (p := p) h t => by
  by_cases e : k' = k
  ·subst e
   exact .inl ⟨v, p, mL rfl, by simp, h⟩
  ·rw [mO e, List.find?_cons_of_neg (by simpa using e)]
   exact RepK.val t
theorem RepT.val {C : MC} {A : Addr -> Prop} {H : Hp} {k : List Key} : ∀ {kv : List (List Key × V)} {kvs : List (List Key × PV)}, RepT C A H kv kvs -> (∃ v p, jd kv k = some v /\ (kvs.find? fun x => decide (x.1 = k)).map (·.2) = some p /\ Rep C A H v p) \/ (jd kv k = none /\ (kvs.find? fun x => decide (x.1 = k)).map (·.2) = none)
 | _, _, .nil => .inr ⟨rfl, rfl⟩
 | _, _, .cons (k := k') (v := v) (p := p) h t => by
  by_cases e : k' = k
  ·subst e
   exact .inl ⟨v, p, mL rfl, by simp, h⟩
  ·rw [mO e, List.find?_cons_of_neg (by simpa using e)]
   exact RepT.val t
theorem RepF.look {C : MC} {A : Addr -> Prop} {H : Hp} {k : Str} {p : PV} : ∀ {f : List (Str × V)} {fs : List (Str × PV)}, RepF C A H f fs -> fs.lookup k = some p -> ∃ v, f.lookup k = some v /\ Rep C A H v p
 | _, _, .nil, e => by cases e
 | _, _, .cons (k := k') (v := v) (p := p') h t, e => by
  rw [List.lookup_cons] at e ⊢
  cases q : k == k' with
  | true => rw [q] at e; cases e; exact ⟨v, rfl, h⟩
  | false => rw [q] at e; exact RepF.look t e
theorem RepF.look0 {C : MC} {A : Addr -> Prop} {H : Hp} {k : Str} : ∀ {f : List (Str × V)} {fs : List (Str × PV)}, RepF C A H f fs -> fs.lookup k = none -> f.lookup k = none
 | _, _, .nil, e => rfl
 | _, _, .cons (k := k') (v := v) (p := p') h t, e => by
  rw [List.lookup_cons] at e ⊢
  cases q : k == k' with
  | true => rw [q] at e; cases e
  | false => rw [q] at e; exact RepF.look0 t e
def Top (C : MC) (A : Addr -> Prop) (H : Hp) (a : Addr) : PV -> Prop
 | .lst xs => ∃ vs, H a = some (.lst vs) /\ Reps C A H vs xs
 | .dK kvs => ∃ kv, H a = some (.dK kv) /\ RepK C A H kv kvs
 | .dT kvs => ∃ kv, H a = some (.dT kv) /\ RepT C A H kv kvs
 | .obj c fs => ∃ dx f, H a = some (.ins (C.cl c) dx f) /\ RepF C A H f fs
 | _ => False
theorem Top.ex {C : MC} {A A' : Addr -> Prop} {H H' : Hp} {a : Addr} {p : PV} (e : Ex A H A' H') (h : ∀ o, H a = some o -> H' a = some o) (t : Top C A H a p) : Top C A' H' a p := by
 cases p with
 | lst xs => obtain ⟨vs, q, r⟩ := t; exact ⟨vs, h _ q, r.ex e⟩
 | dK kvs => obtain ⟨vs, q, r⟩ := t; exact ⟨vs, h _ q, r.ex e⟩
 | dT kvs => obtain ⟨vs, q, r⟩ := t; exact ⟨vs, h _ q, r.ex e⟩
 | obj c fs => obtain ⟨dx, f, q, r⟩ := t; exact ⟨dx, f, h _ q, r.ex e⟩
 | _ => exact t
theorem Top.live {C : MC} {A : Addr -> Prop} {H : Hp} {a : Addr} {p : PV} (t : Top C A H a p) : ∃ o, H a = some o /\ CT o = true := by
 cases p with
 | lst xs => obtain ⟨vs, q, r⟩ := t; exact ⟨_, q, rfl⟩
 | dK kvs => obtain ⟨vs, q, r⟩ := t; exact ⟨_, q, rfl⟩
 | dT kvs => obtain ⟨vs, q, r⟩ := t; exact ⟨_, q, rfl⟩
 | obj c fs => obtain ⟨dx, f, q, r⟩ := t; exact ⟨_, q, rfl⟩
 | _ => exact t.elim
theorem Top.rep {C : MC} {A : Addr -> Prop} {H : Hp} {a : Addr} {p : PV} (t : Top C A H a p) (h : A a) : Rep C A H (.ref a) p := by
 cases p with
 | lst xs => obtain ⟨vs, q, r⟩ := t; exact .lst q h r
 | dK kvs => obtain ⟨vs, q, r⟩ := t; exact .dK q h r
 | dT kvs => obtain ⟨vs, q, r⟩ := t; exact .dT q h r
 | obj c fs => obtain ⟨dx, f, q, r⟩ := t; exact .obj q h r
 | _ => exact t.elim
def RepB (C : MC) (A : Addr -> Prop) (H : Hp) (v : V) (p : PV) : Prop := Rep C A H v p \/ ∃ a, v = .ref a /\ Top C A H a p
theorem RepB.ex {C : MC} {A A' : Addr -> Prop} {H H' : Hp} {v : V} {p : PV} (e : Ex A H A' H') (s : Same H H') (h : RepB C A H v p) : RepB C A' H' v p := by
 rcases h with h | ⟨a, q, t⟩
 ·exact .inl (h.ex e)
 ·exact .inr ⟨a, q, t.ex e fun o z => s _ _ z⟩
section
variable {C : MC} {A : Addr -> Prop} {H : Hp} {v : V}
theorem sqK {K : PySem.W.Frag} {a : Addr} {vs : List V} (h : SqL K (fun _ => none) a vs) : SqL K H a vs := by
 rcases h with (h | ⟨o, h⟩) | h
 ·cases h
 ·cases h
 ·exact .inr h
theorem CV {K : PySem.W.Frag} {a : Addr} {vs : List V} (h : SqT K (fun _ => none) a vs) : SqT K H a vs := by
 rcases h with (h | ⟨o, h⟩) | h
 ·cases h
 ·cases h
 ·exact .inr h
theorem RepB.lst {xs : List PV} (h : RepB C A H v (.lst xs)) : ∃ a vs, v = .ref a /\ H a = some (.lst vs) /\ Reps C A H vs xs := by
 rcases h with h | ⟨a, rfl, vs, q, r⟩
 ·cases h with
  | lst q _ r => exact ⟨_, _, rfl, q, r⟩
 ·exact ⟨a, vs, rfl, q, r⟩
theorem RepB.frz {xs : List PV} (h : RepB C A H v (.frz xs)) : ∃ a vs, v = .ref a /\ SqL C.K H a vs /\ Reps C A H vs xs := by
 rcases h with h | ⟨a, rfl, t⟩
 ·cases h with
  | lstF q r => exact ⟨_, _, rfl, .inl (.inr ⟨_, q⟩), r⟩
  | lstK q r => exact ⟨_, _, rfl, sqK q, r⟩
 ·exact t.elim
theorem RepB.tup {xs : List PV} (h : RepB C A H v (.tup xs)) : ∃ a vs, v = .ref a /\ H a = some (.tup vs) /\ Reps C A H vs xs := by
 rcases h with h | ⟨a, rfl, t⟩
 ·cases h with
  | tup q r => exact ⟨_, _, rfl, q, r⟩
 ·exact t.elim
theorem RepB.ktp {xs : List PV} (h : RepB C A H v (.ktp xs)) : ∃ a vs, v = .ref a /\ SqT C.K H a vs /\ Reps C A H vs xs := by
 rcases h with h | ⟨a, rfl, t⟩
 ·cases h with
  | tupK q r => exact ⟨_, _, rfl, CV q, r⟩
 ·exact t.elim
theorem RepB.dK {kvs : List (Key × PV)} (h : RepB C A H v (.dK kvs)) : ∃ a kv, v = .ref a /\ H a = some (.dK kv) /\ RepK C A H kv kvs := by
 rcases h with h | ⟨a, rfl, vs, q, r⟩
 ·cases h with
  | dK q _ r => exact ⟨_, _, rfl, q, r⟩
 ·exact ⟨a, vs, rfl, q, r⟩
theorem RepB.dT {kvs : List (List Key × PV)} (h : RepB C A H v (.dT kvs)) : ∃ a kv, v = .ref a /\ H a = some (.dT kv) /\ RepT C A H kv kvs := by
 rcases h with h | ⟨a, rfl, vs, q, r⟩
 ·cases h with
  | dT q _ r => exact ⟨_, _, rfl, q, r⟩
 ·exact ⟨a, vs, rfl, q, r⟩
theorem RepB.obj {c : Nat} {fs : List (Str × PV)} (h : RepB C A H v (.obj c fs)) : ∃ a dx f, v = .ref a /\ H a = some (.ins (C.cl c) dx f) /\ RepF C A H f fs := by
 rcases h with h | ⟨a, rfl, dx, vs, q, r⟩
 ·cases h with
  | obj q _ r => exact ⟨_, _, _, rfl, q, r⟩
 ·exact ⟨a, dx, vs, rfl, q, r⟩
theorem RepB.int {i : Int} (h : RepB C A H v (.int i)) : v = .int i := by
 rcases h with h | ⟨a, rfl, t⟩
 ·cases h; rfl
 ·exact t.elim
theorem RepB.str {x : Str} (h : RepB C A H v (.str x)) : v = .str x := by
 rcases h with h | ⟨a, rfl, t⟩
 ·cases h; rfl
 ·exact t.elim
theorem RepB.bl {x : Bool} (h : RepB C A H v (.bl x)) : v = .bl x := by
 rcases h with h | ⟨a, rfl, t⟩
 ·cases h; rfl
 ·exact t.elim
theorem RepB.non (h : RepB C A H v .non) : v = .non := by
 rcases h with h | ⟨a, rfl, t⟩
 ·cases h; rfl
 ·exact t.elim
end
structure BX where
 C : MC
 A : Addr -> Prop
 H0 : Hp
 fx : Nat -> Option V
def fx0 (x : V) : Nat -> Option V
 | 0 => some x
 | _ + 1 => none
abbrev Env := List (Option PV)
def Bs (b : BX) (Ow : Addr -> Prop) (a : Addr) : Prop := ¬ Ow a /\ (b.A a \/ b.H0 a = none)
structure ER (b : BX) (Ow : Addr -> Prop) (G : List Nat) (σ : St) (env : Env) (H : Hp) : Prop where
 len : σ.length = env.length
 same : Same b.H0 H
 live : ∀ a, Ow a -> ∃ o, H a = some o
 new : ∀ a, Ow a -> b.H0 a = none
 val : ∀ i p, env[i]? = some (some p) -> i ∉ G -> ∃ v, σ[i]? = some (some v) /\ Rep b.C (Bs b Ow) H v p
 own : ∀ i p, env[i]? = some (some p) -> i ∈ G -> ∃ a, σ[i]? = some (some (.ref a)) /\ Ow a /\ Top b.C (Bs b Ow) H a p
 sep : ∀ i j a p q, env[i]? = some (some p) -> i ∈ G -> σ[i]? = some (some (.ref a)) -> env[j]? = some (some q) -> j ∈ G -> σ[j]? = some (some (.ref a)) -> i = j
 fix : ∀ i v, b.fx i = some v -> σ[i]? = some (some v)
inductive Md where | val | own | bor
def Res (b : BX) (Ow : Addr -> Prop) (H H' : Hp) (m : Md) (v : V) (p : PV) : Prop := match m with
 | .val => Rep b.C (Bs b Ow) H' v p
 | .own => ∃ a, v = .ref a /\ H a = none /\ Top b.C (fun c => Bs b Ow c /\ c ≠ a) H' a p
 | .bor => RepB b.C (Bs b Ow) H' v p
def tM (b : BX) (G : List Nat) (m : Md) (f : Env -> Option PV) : TE := fun σ H Q => ∃ Ow env p, ER b Ow G σ env H /\ f env = some p /\ ∀ v H', Same H H' -> Res b Ow H H' m v p -> Q v H'
def tMT (b : BX) (G : List Nat) (f : Env -> Option Bool) : TT := fun σ H Q => ∃ Ow env k, ER b Ow G σ env H /\ f env = some k /\ ∀ H', Same H H' -> Q k H'
section
variable {b : BX} {Ow : Addr -> Prop} {G : List Nat} {σ : St} {env : Env} {H H' : Hp}
theorem ER.up (E : ER b Ow G σ env H) (s : Same H H') : ER b Ow G σ env H' :=
 ⟨E.len, E.same.trans s, fun a h => let ⟨o, e⟩ := E.live a h; ⟨o, s _ _ e⟩, E.new, fun i p h n => let ⟨v, e, r⟩ := E.val i p h n; ⟨v, e, r.ex (.of_same s)⟩,
  fun i p h n => let ⟨a, e, w, t⟩ := E.own i p h n; ⟨a, e, w, t.ex (.of_same s) fun o z => s _ _ z⟩, E.sep, E.fix⟩
theorem ER.fresh (E : ER b Ow G σ env H) {a : Addr} (h : H a = none) : Bs b Ow a :=
 ⟨fun w => (by obtain ⟨o, e⟩ := E.live a w; rw [h] at e; cases e), .inr (E.same.free h)⟩
theorem Res.val {m : Md} {v : V} {p : PV} (E : ER b Ow G σ env H) (hm : m ≠ .bor) (r : Res b Ow H H' m v p) : Res b Ow H H' .val v p := by
 cases m with
 | val => exact r
 | bor => exact absurd rfl hm
 | own =>
  obtain ⟨a, rfl, h, t⟩ := r
  have hw : Ex (fun c => Bs b Ow c /\ c ≠ a) H' (Bs b Ow) H' := dG fun _ _ _ z => z.1
  exact (t.ex hw fun o z => z).rep (E.fresh h)
theorem Res.bor {m : Md} {v : V} {p : PV} (r : Res b Ow H H' m v p) : Res b Ow H H' .bor v p := by
 cases m with
 | val => exact .inl r
 | bor => exact r
 | own =>
  obtain ⟨a, rfl, h, t⟩ := r
  have hw : Ex (fun c => Bs b Ow c /\ c ≠ a) H' (Bs b Ow) H' := dG fun _ _ _ z => z.1
  exact .inr ⟨a, rfl, t.ex hw fun o z => z⟩
theorem Res.up {m : Md} {v : V} {p : PV} {H'' : Hp} (r : Res b Ow H H' m v p) (s : Same H' H'') : Res b Ow H H'' m v p := by
 cases m with
 | val => exact Rep.ex (.of_same s) r
 | bor => exact RepB.ex (.of_same s) s r
 | own =>
  obtain ⟨a, e, h, t⟩ := r
  exact ⟨a, e, h, t.ex (.of_same s) fun o z => s _ _ z⟩
theorem Res.down {m : Md} {v : V} {p : PV} {H'' : Hp} (s : Same H H') (r : Res b Ow H' H'' m v p) : Res b Ow H H'' m v p := by
 cases m with
 | val => exact r
 | bor => exact r
 | own =>
  obtain ⟨a, e, h, t⟩ := r
  exact ⟨a, e, s.free h, t⟩
end
theorem PE.imp {X : Cx} {e : Expr} {t u : TE} (h : PE X e t) (i : ∀ σ H Q, u σ H Q -> t σ H Q) : PE X e u := fun pins s σ H Q I q => h pins s σ H Q I (i σ H Q q)
theorem PT.imp {X : Cx} {e : Expr} {t u : TT} (h : PT X e t) (i : ∀ σ H Q, u σ H Q -> t σ H Q) : PT X e u := fun pins s σ H Q I q => h pins s σ H Q I (i σ H Q q)
theorem PS.imp {X : Cx} {e : Stmt} {t u : TS} (h : PS X e t) (i : ∀ D σ H, u D σ H -> t D σ H) : PS X e u := fun pins s σ H D I q => h pins s σ H D I (i D σ H q)
theorem PE.or {X : Cx} {e : Expr} {t u : TE} (h : PE X e t) (h' : PE X e u) : PE X e (fun σ H Q => t σ H Q \/ u σ H Q) := fun pins s σ H Q I q => q.elim (h pins s σ H Q I) (h' pins s σ H Q I)
theorem OpR.or {X : Cx} {op : Value -> Value -> Sem Value} {r r' : R2} (h : OpR X op r) (h' : OpR X op r') : OpR X op (fun x y H Q => r x y H Q \/ r' x y H Q) := fun pins s σ H x y v u Q I rx ry q => q.elim (h pins s σ H x y v u Q I rx ry) (h' pins s σ H x y v u Q I rx ry)
abbrev SE (X : Cx) (b : BX) (G : List Nat) (m : Md) (e : Expr) (f : Env -> Option PV) : Prop := PE X e (tM b G m f)
abbrev ST (X : Cx) (b : BX) (G : List Nat) (e : Expr) (f : Env -> Option Bool) : Prop := PT X e (tMT b G f)
theorem SE.bor {X : Cx} {b : BX} {G : List Nat} {m : Md} {e : Expr} {f : Env -> Option PV} (h : SE X b G m e f) : SE X b G .bor e f :=
 PE.imp h fun σ H Q ⟨Ow, env, p, E, hf, k⟩ => ⟨Ow, env, p, E, hf, fun v H' s r => k v H' s r.bor⟩
theorem SE.val {X : Cx} {b : BX} {G : List Nat} {e : Expr} {f : Env -> Option PV} (h : SE X b G .own e f) : SE X b G .val e f :=
 PE.imp h fun σ H Q ⟨Ow, env, p, E, hf, k⟩ => ⟨Ow, env, p, E, hf, fun v H' s r => k v H' s (r.val E (by intro z; cases z))⟩
end MR
namespace MR
open PySem L2
def bC (p : PV) (env : Env) : Option PV := some p
@[simp] theorem yt (p : PV) (env : Env) : bC p env = (some p) := id rfl
def bV (i : Nat) (env : Env) : Option PV := match env[i]? with | some o => o | none => none
@[simp] theorem QJ (i : Nat) (env : Env) : bV i env = (match env[i]? with | some o => o | none => none) := id rfl
def b1 (g : PV -> Option PV) (f : Env -> Option PV) (env : Env) : Option PV := (f env).bind g
@[simp] theorem yu (g : PV -> Option PV) (f : Env -> Option PV) (env : Env) : b1 g f env = ((f env).bind g) := id rfl
def b2 (g : PV -> PV -> Option PV) (f h : Env -> Option PV) (env : Env) : Option PV := (f env).bind fun x => (h env).bind fun y => g x y
@[simp] theorem jT (g : PV -> PV -> Option PV) (f h : Env -> Option PV) (env : Env) : b2 g f h env = ((f env).bind fun x => (h env).bind fun y => g x y) := id rfl
def fX (f g : Env -> Option PV) (env : Env) : Option PV := (f env).bind fun x => match x with | .bl true => g env | .bl false => some (.bl false) | _ => none
@[simp] theorem vY (f g : Env -> Option PV) (env : Env) : fX f g env = ((f env).bind fun x => match x with | .bl true => g env | .bl false => some (.bl false) | _ => none) := id rfl
def bOr (f g : Env -> Option PV) (env : Env) : Option PV := (f env).bind fun x => match x with | .bl true => some (.bl true) | .bl false => g env | _ => none
@[simp] theorem S7 (f g : Env -> Option PV) (env : Env) : bOr f g env = ((f env).bind fun x => match x with | .bl true => some (.bl true) | .bl false => g env | _ => none) := id rfl
def bIf (c : Env -> Option Bool) (f g : Env -> Option PV) (env : Env) : Option PV := (c env).bind fun x => if x = true then f env else g env
@[simp] theorem S8 (c : Env -> Option Bool) (f g : Env -> Option PV) (env : Env) : bIf c f g env = ((c env).bind fun x => if x = true then f env else g env) := id rfl
def tV (f : Env -> Option PV) (env : Env) : Option Bool := (f env).bind fun x => match x with | .bl c => some c | _ => none
@[simp] theorem Jz (f : Env -> Option PV) (env : Env) : tV f env = ((f env).bind fun x => match x with | .bl c => some c | _ => none) := id rfl
def tA (f g : Env -> Option Bool) (env : Env) : Option Bool := (f env).bind fun x => if x = true then g env else some false
@[simp] theorem QK (f g : Env -> Option Bool) (env : Env) : tA f g env = ((f env).bind fun x => if x = true then g env else some false) := id rfl
def tO (f g : Env -> Option Bool) (env : Env) : Option Bool := (f env).bind fun x => if x = true then some true else g env
@[simp] theorem QL (f g : Env -> Option Bool) (env : Env) : tO f g env = ((f env).bind fun x => if x = true then some true else g env) := id rfl
def tN (f : Env -> Option Bool) (env : Env) : Option Bool := (f env).bind fun x => some (!x)
@[simp] theorem Ti (f : Env -> Option Bool) (env : Env) : tN f env = ((f env).bind fun x => some (!x)) := id rfl
def aB (env : Env) : Option (List PV) := some []
@[simp] theorem Sv (env : Env) : aB env = (some []) := id rfl
def ak (f : Env -> Option PV) (g : Env -> Option (List PV)) (env : Env) : Option (List PV) := (f env).bind fun x => (g env).bind fun xs => some (x :: xs)
@[simp] theorem R3 (f : Env -> Option PV) (g : Env -> Option (List PV)) (env : Env) : ak f g env = ((f env).bind fun x => (g env).bind fun xs => some (x :: xs)) := id rfl
def cL (g : Env -> Option (List PV)) (env : Env) : Option PV := (g env).bind fun xs => if xs.length <= 1000000 then some (.lst xs) else none
@[simp] theorem Sw (g : Env -> Option (List PV)) (env : Env) : cL g env = ((g env).bind fun xs => if xs.length <= 1000000 then some (.lst xs) else none) := id rfl
def jU (g : Env -> Option (List PV)) (env : Env) : Option PV := (g env).bind fun xs => if xs.length <= 1000000 then some (.tup xs) else none
@[simp] theorem Sx (g : Env -> Option (List PV)) (env : Env) : jU g env = ((g env).bind fun xs => if xs.length <= 1000000 then some (.tup xs) else none) := id rfl
def aK (m : List PV -> Option PV) (g : Env -> Option (List PV)) (env : Env) : Option PV := (g env).bind m
@[simp] theorem yZ (m : List PV -> Option PV) (g : Env -> Option (List PV)) (env : Env) : aK m g env = ((g env).bind m) := id rfl
section
variable {b : BX} {G : List Nat} {m : Md} {σ : St} {H : Hp} {Q : VK}
def Op2 (b : BX) (m : Md) (r : R2) (g : PV -> PV -> Option PV) : Prop := ∀ (Ow : Addr -> Prop) (H : Hp) (v1 v2 : V) (p1 p2 p : PV) (Q : VK), (∀ a, H a = none -> Bs b Ow a) -> RepB b.C (Bs b Ow) H v1 p1 -> RepB b.C (Bs b Ow) H v2 p2 -> g p1 p2 = some p ->
 (∀ v H', Same H H' -> Res b Ow H H' m v p -> Q v H') -> r v1 v2 H Q
theorem CW {r : R2} {g : PV -> PV -> Option PV} {f1 f2 : Env -> Option PV} (hr : Op2 b m r g) (h : tM b G m (b2 g f1 f2) σ H Q) : tOp r (tM b G .bor f1) (tM b G .bor f2) σ H Q := by
 obtain ⟨Ow, env, p, E, hf, k⟩ := h
 unfold b2 at hf
 cases h1 : f1 env with
 | none => rw [h1] at hf; cases hf
 | some p1 =>
  rw [h1] at hf
  cases h2 : f2 env with
  | none => rw [h2] at hf; cases hf
  | some p2 =>
   rw [h2] at hf
   exact ⟨Ow, env, p1, E, h1, fun v1 H1 s1 r1 => ⟨Ow, env, p2, E.up s1, h2, fun v2 H2 s2 r2 => hr Ow H2 v1 v2 p1 p2 p Q (fun a => (E.up (s1.trans s2)).fresh) (r1.up s2) r2 hf fun v H' s r => k v H' (s1.trans (s2.trans s)) (r.down (s1.trans s2))⟩⟩
def Op1 (b : BX) (m : Md) (r : V -> Hp -> VK -> Prop) (g : PV -> Option PV) : Prop := ∀ (Ow : Addr -> Prop) (H : Hp) (v1 : V) (p1 p : PV) (Q : VK), (∀ a, H a = none -> Bs b Ow a) -> RepB b.C (Bs b Ow) H v1 p1 -> g p1 = some p ->
 (∀ v H', Same H H' -> Res b Ow H H' m v p -> Q v H') -> r v1 H Q
theorem CZ {r : V -> Hp -> VK -> Prop} {g : PV -> Option PV} {f1 : Env -> Option PV} (hr : Op1 b m r g) (h : tM b G m (b1 g f1) σ H Q) : tM b G .bor f1 σ H fun x H1 => r x H1 Q := by
 obtain ⟨Ow, env, p, E, hf, k⟩ := h
 unfold b1 at hf
 cases h1 : f1 env with
 | none => rw [h1] at hf; cases hf
 | some p1 =>
  rw [h1] at hf
  exact ⟨Ow, env, p1, E, h1, fun v1 H1 s1 r1 => hr Ow H1 v1 p1 p Q (fun a => (E.up s1).fresh) r1 hf fun v H' s r => k v H' (s1.trans s) (r.down s1)⟩
end
@[simp] def bN : PV -> PV -> Option PV
 | .int i, .int j => some (.int (i + j))
 | .str x, .str y => if x.length + y.length <= 1000000 then some (.str (x ++ y)) else none
 | .lst xs, .lst ys => if xs.length + ys.length <= 1000000 then some (.lst (xs ++ ys)) else none
 | _, _ => none
@[simp] def jV : PV -> PV -> Option PV
 | .lst xs, .lst ys => if xs.length + ys.length <= 1000000 then some (.lst (xs ++ ys)) else none
 | _, _ => none
@[simp] def subV : PV -> PV -> Option PV
 | .int i, .int j => some (.int (i - j))
 | _, _ => none
noncomputable def smI (i : Int) : Bool := @decide (-18446744073709551616 < i /\ i < 18446744073709551616) (Classical.propDecidable _)
@[simp] noncomputable def rz : PV -> PV -> Option PV
 | .int i, .int j => if (smI i || smI j) = true then some (.int (i * j)) else none
 | _, _ => none
@[simp] def eV : PV -> PV -> Option PV
 | .int i, .int j => if 0 < j /\ j < 1073741824 then some (.int (i / j)) else none
 | _, _ => none
@[simp] def bU : PV -> PV -> Option PV
 | .int i, .int j => if 0 < j then some (.int (i % j)) else none
 | _, _ => none
@[simp] def iC (g : Int -> Int -> Bool) : PV -> PV -> Option PV
 | .int i, .int j => some (.bl (g i j))
 | _, _ => none
theorem jJ {n : Nat} (h : n <= 1000000) : n <= sizeLine := Nat.le_of_lt (jH h)
section
variable {b : BX}
theorem Kh {g : Int -> Int -> Int} {f : PV -> PV -> Option PV} (hf : ∀ x y p, f x y = some p -> ∃ i j, x = .int i /\ y = .int j /\ p = .int (g i j)) : Op2 b .val (rI0 fun i j => .int (g i j)) f := by
 intro Ow H v1 v2 p1 p2 p Q hn r1 r2 e k
 obtain ⟨i, j, rfl, rfl, rfl⟩ := hf _ _ _ e
 rw [r1.int, r2.int]
 exact ⟨i, j, rfl, rfl, k _ H (Same.refl _) (.int _)⟩
theorem Fo {g : Int -> Int -> Bool} : Op2 b .val (rI0 fun i j => .bl (g i j)) (iC g) := by
 intro Ow H v1 v2 p1 p2 p Q hn r1 r2 e k
 unfold iC at e
 split at e
 ·cases e
  rw [r1.int, r2.int]
  exact ⟨_, _, rfl, rfl, k _ H (Same.refl _) (.bl _)⟩
 ·cases e
theorem NQ : Op2 b .val (rI0 fun i j => .int (i - j)) subV := Kh fun x y p e => by
 unfold subV at e
 split at e
 ·cases e; exact ⟨_, _, rfl, rfl, rfl⟩
 ·cases e
theorem Fp : Op2 b .val (rI CMul fun i j => .int (i * j)) rz := by
 intro Ow H v1 v2 p1 p2 p Q hn r1 r2 e k
 unfold rz at e
 split at e
 ·split at e
  ·rename_i h
   cases e
   rw [r1.int, r2.int]
   refine ⟨_, _, rfl, rfl, ?_, k _ H (Same.refl _) (.int _)⟩
   simp only [smI, Bool.or_eq_true, decide_eq_true_eq] at h
   exact h
  ·cases e
 ·cases e
theorem rA {i : Int} (h : -18446744073709551616 < i) (h' : i < 18446744073709551616) : smI i = true := @decide_eq_true _ (Classical.propDecidable _) ⟨h, h'⟩
theorem NT : Op2 b .val (rI MJ fun i j => .int (i / j)) eV := by
 intro Ow H v1 v2 p1 p2 p Q hn r1 r2 e k
 unfold eV at e
 split at e
 ·split at e
  ·rename_i h
   cases e
   rw [r1.int, r2.int]
   exact ⟨_, _, rfl, rfl, h, k _ H (Same.refl _) (.int _)⟩
  ·cases e
 ·cases e
theorem NZ : Op2 b .val (rI (fun _ j => 0 < j) fun i j => .int (i % j)) bU := by
 intro Ow H v1 v2 p1 p2 p Q hn r1 r2 e k
 unfold bU at e
 split at e
 ·split at e
  ·rename_i h
   cases e
   rw [r1.int, r2.int]
   exact ⟨_, _, rfl, rfl, h, k _ H (Same.refl _) (.int _)⟩
  ·cases e
 ·cases e
end
theorem ir {b : BX} {Ow : Addr -> Prop} {H : Hp} {a : Addr} {vs : List V} {xs : List PV} (h : H a = none) (r : Reps b.C (Bs b Ow) H vs xs) : Res b Ow H (upd H a (.lst vs)) .own (.ref a) (.lst xs) := by
 refine ⟨a, rfl, h, vs, bF, r.ex fun c o e => ?_⟩
 have hc : c ≠ a := aR e h
 exact ⟨fun q => ⟨by rw [aO hc]; exact e, q, hc⟩, fun _ => by rw [aO hc]; exact e⟩
theorem Kl {b : BX} {Ow : Addr -> Prop} {H H0 : Hp} {a : Addr} {vs : List V} {xs : List PV} (h : H a = none) (r : Reps b.C (Bs b Ow) H vs xs) : Res b Ow H0 (upd H a (.tup vs)) .val (.ref a) (.tup xs) :=
 Rep.tup bF (r.ex (.of_same (bw h _)))
section
variable {b : BX}
theorem N5 : Op2 b .val (fun x y H Q => (rI0 (fun i j => .int (i + j)) x y H Q \/ ∃ i j, x = .str i /\ y = .str j /\ i.length + j.length <= sizeLine /\ Q (.str (i ++ j)) H) \/ Hj x y H Q) bN := by
 intro Ow H v1 v2 p1 p2 p Q hn r1 r2 e k
 unfold bN at e
 split at e
 ·cases e
  rw [r1.int, r2.int]
  exact .inl (.inl ⟨_, _, rfl, rfl, k _ H (Same.refl _) (.int _)⟩)
 ·split at e
  ·rename_i h
   cases e
   rw [r1.str, r2.str]
   exact .inl (.inr ⟨_, _, rfl, rfl, jJ h, k _ H (Same.refl _) (.str _)⟩)
  ·cases e
 ·split at e
  ·rename_i h
   cases e
   obtain ⟨a, vs, rfl, ha, ra⟩ := r1.lst
   obtain ⟨c, us, rfl, hc, rc⟩ := r2.lst
   exact .inr ⟨a, c, vs, us, rfl, rfl, ha, hc, jJ (by rw [ra.length, rc.length]; exact h), fun q hq => k _ _ (bw hq _) (.lst bF (hn q hq) ((ra.append rc).ex (.of_same (bw hq _))))⟩
  ·cases e
 ·cases e
theorem N6 : Op2 b .own Hj jV := by
 intro Ow H v1 v2 p1 p2 p Q hn r1 r2 e k
 unfold jV at e
 split at e
 ·split at e
  ·rename_i h
   cases e
   obtain ⟨a, vs, rfl, ha, ra⟩ := r1.lst
   obtain ⟨c, us, rfl, hc, rc⟩ := r2.lst
   refine ⟨a, c, vs, us, rfl, rfl, ha, hc, jJ (by rw [ra.length, rc.length]; exact h), fun q hq => k _ _ (bw hq _) (ir hq (ra.append rc))⟩
  ·cases e
 ·cases e
end
section
variable {X : Cx} {b : BX} {G : List Nat} {m : Md} {e e1 e2 : Expr} {f f1 f2 : Env -> Option PV} {pos : Pos}
theorem ao {i j pos} : SE X b G .val (.Constant (.int i) j pos) (bC (.int i)) := PE.imp Mj fun σ H Q ⟨Ow, env, p, E, hf, k⟩ => by cases hf; exact k _ H (Same.refl _) (.int i)
theorem pR {i j pos} : SE X b G .val (.Constant (.bool i) j pos) (bC (.bl i)) := PE.imp Qi fun σ H Q ⟨Ow, env, p, E, hf, k⟩ => by cases hf; exact k _ H (Same.refl _) (.bl i)
theorem aW {i j pos} : SE X b G .val (.Constant (.str i) j pos) (bC (.str i)) := PE.imp Ea fun σ H Q ⟨Ow, env, p, E, hf, k⟩ => by cases hf; exact k _ H (Same.refl _) (.str i)
theorem rB {j pos} : SE X b G .val (.Constant .none j pos) (bC .non) := PE.imp Ml fun σ H Q ⟨Ow, env, p, E, hf, k⟩ => by cases hf; exact k _ H (Same.refl _) .non
theorem iU {i : Nat} {env : Env} {p : PV} (h : bV i env = some p) : env[i]? = some (some p) := by
 unfold bV at h
 split at h
 ·rename_i o e; rw [e, h]
 ·cases h
theorem aj (i : Nat) {x : Str} {pos : Pos} (hN : X.N[i]? = some x := by rfl) (hv : Vis X.env.scope x := by first | exact Or.inl rfl | exact Or.inr (Or.inl rfl) | exact Or.inr (Or.inr rfl)) (hG : i ∉ G := by decide) (hd : (x == ("__debug__" : Str)) = false := by decide)
  (hcd : (x == ("__classdict__" : Str)) = false := by decide) : SE X b G .val (.Name x pos) (bV i) := PE.imp (g_ hN hv hd hcd) fun σ H Q ⟨Ow, env, p, E, hf, k⟩ => by
 obtain ⟨v, e, r⟩ := E.val i p (iU hf) hG
 exact ⟨v, e, k v H (Same.refl _) r⟩
theorem pU (i : Nat) {x : Str} {pos : Pos} (hN : X.N[i]? = some x := by rfl) (hv : Vis X.env.scope x := by first | exact Or.inl rfl | exact Or.inr (Or.inl rfl) | exact Or.inr (Or.inr rfl)) (hd : (x == ("__debug__" : Str)) = false := by decide)
  (hcd : (x == ("__classdict__" : Str)) = false := by decide) : SE X b G .bor (.Name x pos) (bV i) := PE.imp (g_ hN hv hd hcd) fun σ H Q ⟨Ow, env, p, E, hf, k⟩ => by
 by_cases hG : i ∈ G
 ·obtain ⟨a, e, _, t⟩ := E.own i p (iU hf) hG
  exact ⟨_, e, k _ H (Same.refl _) (.inr ⟨a, rfl, t⟩)⟩
 ·obtain ⟨v, e, r⟩ := E.val i p (iU hf) hG
  exact ⟨v, e, k v H (Same.refl _) (.inl r)⟩
theorem QM {x z : Str} {t : Tok} {pos : Pos} (hm : X.mg x = some (.str z t)) (hg : Gl X x := by rfl) (hd : (x == ("__debug__" : Str)) = false := by decide) : SE X b G .val (.Name x pos) (bC (.str z)) :=
 PE.imp (sZ hg hm (v := .str z) ⟨_, rfl⟩ hd) fun σ H Q ⟨Ow, env, p, E, hf, k⟩ => by cases hf; exact k _ H (Same.refl _) (.str z)
theorem C_ {x : Str} {i : Int} {t : Tok} {pos : Pos} (hm : X.mg x = some (.int i t)) (hg : Gl X x := by rfl) (hd : (x == ("__debug__" : Str)) = false := by decide) : SE X b G .val (.Name x pos) (bC (.int i)) :=
 PE.imp (sZ hg hm (v := .int i) ⟨_, rfl⟩ hd) fun σ H Q ⟨Ow, env, p, E, hf, k⟩ => by cases hf; exact k _ H (Same.refl _) (.int i)
theorem QQ {x : Str} {a : Addr} {q : PV} {pos : Pos} (hm : X.mg x = some (.ref a)) (hr : ∀ A H, Rep b.C A H (.ref a) q) (hg : Gl X x := by rfl) (hd : (x == ("__debug__" : Str)) = false := by decide) : SE X b G .val (.Name x pos) (bC q) :=
 PE.imp (sZ hg hm (v := .ref a) rfl hd) fun σ H Q ⟨Ow, env, p, E, hf, k⟩ => by cases hf; exact k _ H (Same.refl _) (hr _ _)
theorem pW {op : Operator} {r : R2} {g : PV -> PV -> Option PV} (ho : OpR X (binaryOp op) r) (hr : Op2 b m r g) {m1 m2 : Md} (h1 : SE X b G m1 e1 f1) (h2 : SE X b G m2 e2 f2) : SE X b G m (.BinOp e1 op e2 pos) (b2 g f1 f2) :=
 PE.imp (Qo ho h1.bor h2.bor) fun σ H Q h => CW hr h
theorem bH {m1 m2 : Md} (h1 : SE X b G m1 e1 f1) (h2 : SE X b G m2 e2 f2) : SE X b G .val (.BinOp e1 .Add e2 pos) (b2 bN f1 f2) := pW (OpR.or (OpR.or MK Cv) Fd) N5 h1 h2
theorem o9 {m1 m2 : Md} (h1 : SE X b G m1 e1 f1) (h2 : SE X b G m2 e2 f2) : SE X b G .own (.BinOp e1 .Add e2 pos) (b2 jV f1 f2) := pW Fd N6 h1 h2
theorem N7 {m1 m2 : Md} (h1 : SE X b G m1 e1 f1) (h2 : SE X b G m2 e2 f2) : SE X b G .val (.BinOp e1 .Sub e2 pos) (b2 subV f1 f2) := pW MN NQ h1 h2
theorem rC {m1 m2 : Md} (h1 : SE X b G m1 e1 f1) (h2 : SE X b G m2 e2 f2) : SE X b G .val (.BinOp e1 .Mult e2 pos) (b2 rz f1 f2) := pW El Fp h1 h2
theorem e_ {m1 m2 : Md} (h1 : SE X b G m1 e1 f1) (h2 : SE X b G m2 e2 f2) : SE X b G .val (.BinOp e1 .FloorDiv e2 pos) (b2 eV f1 f2) := pW JR NT h1 h2
theorem bL {m1 m2 : Md} (h1 : SE X b G m1 e1 f1) (h2 : SE X b G m2 e2 f2) : SE X b G .val (.BinOp e1 .Mod e2 pos) (b2 bU f1 f2) := pW MP NZ h1 h2
end
end MR
namespace MR
open PySem L2
@[simp] def eqS : PV -> PV -> Option Bool
 | .non, .non => some true
 | .non, .int _ => some false | .int _, .non => some false | .non, .bl _ => some false | .bl _, .non => some false | .non, .str _ => some false | .str _, .non => some false
 | .int i, .int j => some (decide (i = j))
 | .bl i, .bl j => some (decide (i = j))
 | .str i, .str j => some (decide (i = j))
 | .int _, .str _ => some false | .str _, .int _ => some false | .bl _, .str _ => some false | .str _, .bl _ => some false
 | _, _ => none
mutual
def toD : PV -> Option PyData
 | .non => some .none
 | .bl b => some (.bool b)
 | .int i => some (.int i)
 | .str x => some (.str x)
 | .lst xs => (fJ xs).map .list
 | .frz xs => (fJ xs).map .list
 | .tup xs => (fJ xs).map .tuple
 | .ktp xs => (fJ xs).map .tuple
 | _ => none
def fJ : List PV -> Option (List PyData)
 | [] => some []
 | x :: xs => match toD x, fJ xs with
  | some d, some ds => some (d :: ds)
  | _, _ => none
end
def eqD (x y : PV) : Option Bool := match toD x, toD y with
 | some d, some e => if SeqAt.shaped d = true /\ SeqAt.shaped e = true then some (PyData.eqv d e) else none
 | _, _ => none
def eqP (x y : PV) : Option Bool := match eqS x y with
 | some k => some k
 | none => eqD x y
def eqQ (x y : PV) : Option PV := (eqP x y).map .bl
@[simp] theorem Fq (x y : PV) : eqQ x y = ((eqP x y).map .bl) := id rfl
def neQ (x y : PV) : Option PV := (eqP x y).map fun k => .bl (!k)
@[simp] theorem Ft (x y : PV) : neQ x y = ((eqP x y).map fun k => .bl (!k)) := id rfl
mutual
theorem Rep.dt {C : MC} {A : Addr -> Prop} {H : Hp} : ∀ {v : V} {p : PV} {d : PyData}, Rep C A H v p -> toD p = some d -> Dt C.K H v d
 | _, _, _, .non, e => by simp only [toD] at e; cases e; exact .non
 | _, _, _, .bl b, e => by simp only [toD] at e; cases e; exact .bl b
 | _, _, _, .int b, e => by simp only [toD] at e; cases e; exact .int b
 | _, _, _, .str b, e => by simp only [toD] at e; cases e; exact .str b
 | _, _, _, .lst (xs := xs) h _ r, e => by
  simp only [toD] at e
  cases q : fJ xs with
  | none => rw [q] at e; cases e
  | some ds => rw [q] at e; cases e; exact .lst (SqL.of h) (Reps.dt r q)
 | _, _, _, .lstF (xs := xs) h r, e => by
  simp only [toD] at e
  cases q : fJ xs with
  | none => rw [q] at e; cases e
  | some ds => rw [q] at e; cases e; exact .lst (.inl (.inr ⟨_, h⟩)) (Reps.dt r q)
 | _, _, _, .lstK (xs := xs) h r, e => by
  simp only [toD] at e
  cases q : fJ xs with
  | none => rw [q] at e; cases e
  | some ds => rw [q] at e; cases e; exact .lst (sqK h) (Reps.dt r q)
 | _, _, _, .tup (xs := xs) h r, e => by
  simp only [toD] at e
  cases q : fJ xs with
  | none => rw [q] at e; cases e
  | some ds => rw [q] at e; cases e; exact .tup (SqT.of h) (Reps.dt r q)
 | _, _, _, .tupK (xs := xs) h r, e => by
  simp only [toD] at e
  cases q : fJ xs with
  | none => rw [q] at e; cases e
  | some ds => rw [q] at e; cases e; exact .tup (CV h) (Reps.dt r q)
 | _, _, _, .dK h _ r, e => by simp only [toD] at e; cases e
 | _, _, _, .dT h _ r, e => by simp only [toD] at e; cases e
 | _, _, _, .obj h _ r, e => by simp only [toD] at e; cases e
theorem Reps.dt {C : MC} {A : Addr -> Prop} {H : Hp} : ∀ {v : List V} {p : List PV} {d : List PyData}, Reps C A H v p -> fJ p = some d -> Dts C.K H v d
 | _, _, _, .nil, e => by simp only [fJ] at e; cases e; exact .nil
 | _, _, _, .cons (p := p) (ps := ps) h t, e => by
  simp only [fJ] at e
  cases q : toD p with
  | none => rw [q] at e; cases e
  | some d =>
   cases q2 : fJ ps with
   | none => rw [q, q2] at e; cases e
   | some ds => rw [q, q2] at e; cases e; exact .cons (Rep.dt h q) (Reps.dt t q2)
end
theorem RepB.dt {C : MC} {A : Addr -> Prop} {H : Hp} {v : V} {p : PV} {d : PyData} (h : RepB C A H v p) (e : toD p = some d) : Dt C.K H v d := by
 rcases h with h | ⟨a, rfl, t⟩
 ·exact h.dt e
 ·cases p with
  | lst xs =>
   obtain ⟨vs, q, r⟩ := t
   exact (Rep.lst (A := fun _ => True) q True.intro (r.ex (dG fun _ _ _ _ => True.intro))).dt e
  | dK kvs => simp only [toD] at e; cases e
  | dT kvs => simp only [toD] at e; cases e
  | obj c fs => simp only [toD] at e; cases e
  | _ => exact t.elim
theorem y_ {C : MC} {A : Addr -> Prop} {H : Hp} {v u : V} {p q : PV} {k : Bool} (h : RepB C A H v p) (h' : RepB C A H u q) (e : eqS p q = some k) : G8 v u = true /\ decide (v = u) = k := by
 unfold eqS at e
 split at e <;> first | cases e | skip
 ·rw [h.non, h'.non]; exact ⟨rfl, rfl⟩
 ·rw [h.non, h'.int]; exact ⟨rfl, rfl⟩
 ·rw [h.int, h'.non]; exact ⟨rfl, rfl⟩
 ·rw [h.non, h'.bl]; exact ⟨rfl, rfl⟩
 ·rw [h.bl, h'.non]; exact ⟨rfl, rfl⟩
 ·rw [h.non, h'.str]; exact ⟨rfl, rfl⟩
 ·rw [h.str, h'.non]; exact ⟨rfl, rfl⟩
 ·rw [h.int, h'.int]; exact ⟨rfl, by simp⟩
 ·rw [h.bl, h'.bl]; exact ⟨rfl, by simp⟩
 ·rw [h.str, h'.str]; exact ⟨rfl, by simp⟩
 ·rw [h.int, h'.str]; exact ⟨rfl, rfl⟩
 ·rw [h.str, h'.int]; exact ⟨rfl, rfl⟩
 ·rw [h.bl, h'.str]; exact ⟨rfl, rfl⟩
 ·rw [h.str, h'.bl]; exact ⟨rfl, rfl⟩
def N8 (K : PySem.W.Frag) : R2 := fun x y H Q => rEq x y H Q \/ ∃ d e, Dt K H x d /\ Dt K H y e /\ SeqAt.shaped d = true /\ SeqAt.shaped e = true /\ Q (.bl (PyData.eqv d e)) H
def N_ (K : PySem.W.Frag) : R2 := fun x y H Q => rNe x y H Q \/ ∃ d e, Dt K H x d /\ Dt K H y e /\ SeqAt.shaped d = true /\ SeqAt.shaped e = true /\ Q (.bl (!PyData.eqv d e)) H
section
variable {b : BX}
theorem QR : Op2 b .val (N8 b.C.K) eqQ := by
 intro Ow H v1 v2 p1 p2 p Q hn r1 r2 e k
 unfold eqQ eqP at e
 cases q : eqS p1 p2 with
 | some c =>
  rw [q] at e
  cases e
  obtain ⟨h1, h2⟩ := y_ r1 r2 q
  exact .inl ⟨h1, by rw [h2]; exact k _ H (Same.refl _) (.bl c)⟩
 | none =>
  rw [q] at e
  simp only [eqD] at e
  cases q1 : toD p1 with
  | none => rw [q1] at e; cases e
  | some d =>
   cases q2 : toD p2 with
   | none => rw [q1, q2] at e; cases e
   | some d' =>
    rw [q1, q2] at e
    simp only at e
    split at e
    ·rename_i hs
     cases e
     exact .inr ⟨d, d', r1.dt q1, r2.dt q2, hs.1, hs.2, k _ H (Same.refl _) (.bl _)⟩
    ·cases e
theorem QS : Op2 b .val (N_ b.C.K) neQ := by
 intro Ow H v1 v2 p1 p2 p Q hn r1 r2 e k
 unfold neQ eqP at e
 cases q : eqS p1 p2 with
 | some c =>
  rw [q] at e
  cases e
  obtain ⟨h1, h2⟩ := y_ r1 r2 q
  exact .inl ⟨h1, by rw [h2]; exact k _ H (Same.refl _) (.bl _)⟩
 | none =>
  rw [q] at e
  simp only [eqD] at e
  cases q1 : toD p1 with
  | none => rw [q1] at e; cases e
  | some d =>
   cases q2 : toD p2 with
   | none => rw [q1, q2] at e; cases e
   | some d' =>
    rw [q1, q2] at e
    simp only at e
    split at e
    ·rename_i hs
     cases e
     exact .inr ⟨d, d', r1.dt q1, r2.dt q2, hs.1, hs.2, k _ H (Same.refl _) (.bl _)⟩
    ·cases e
end
@[simp] def keyOf : PV -> Option Key
 | .int i => some (.inl i)
 | .str x => some (.inr x)
 | _ => none
@[simp] def keysOf : List PV -> Option (List Key)
 | [] => some []
 | x :: xs => match keyOf x, keysOf xs with
  | some k, some ks => some (k :: ks)
  | _, _ => none
@[simp] def fG : PV -> Bool
 | .non => true
 | .bl _ => true
 | .int _ => true
 | .str _ => true
 | _ => false
def eqF : PV -> PV -> Bool
 | .non, .non => true
 | .bl a, .bl b => a == b
 | .bl a, .int b => (if a then 1 else 0) == b
 | .int a, .bl b => a == (if b then 1 else 0)
 | .int a, .int b => a == b
 | .str a, .str b => a == b
 | _, _ => false
def d8 {κ : Type} [DecidableEq κ] (kvs : List (κ × PV)) (k : κ) : Option PV := (kvs.find? fun x => decide (x.1 = k)).map (·.2)
def inD (x : PV) (ys : List PV) : Option Bool := match toD x, fJ ys with
 | some d, some ds => if PyData.canLayAll0 ds = true /\ d.canLay0 = true /\ d.depth <= 32 then some (ds.any fun y => PyData.eqv y d) else none
 | _, _ => none
theorem pX {x : PV} {ys : List PV} {k : Bool} (h : inD x ys = some k) : ∃ d ds, toD x = some d /\ fJ ys = some ds /\ PyData.canLayAll0 ds = true /\ d.canLay0 = true /\ d.depth <= 32 /\ (ds.any fun y => PyData.eqv y d) = k := by
 unfold inD at h
 split at h
 ·rename_i d ds h1 h2
  split at h
  ·rename_i hc
   exact ⟨d, ds, h1, h2, hc.1, hc.2.1, hc.2.2, Option.some.inj h⟩
  ·cases h
 ·cases h
def inP : PV -> PV -> Option Bool
 | x, .lst ys => if fG x = true /\ ys.all fG = true then some (ys.any fun y => eqF y x) else inD x ys
 | x, .frz ys => if fG x = true /\ ys.all fG = true then some (ys.any fun y => eqF y x) else inD x ys
 | x, .ktp ys => if fG x = true /\ ys.all fG = true then some (ys.any fun y => eqF y x) else inD x ys
 | x, .tup ys => if fG x = true /\ ys.all fG = true then some (ys.any fun y => eqF y x) else inD x ys
 | .str x, .str y => some (!(Builtin.Str.occurrences y x 0 y.length 1).isEmpty)
 | x, .dK kvs => (keyOf x).map fun k => (d8 kvs k).isSome
 | .tup xs, .dT kvs => (keysOf xs).map fun k => (d8 kvs k).isSome
 | _, _ => none
theorem Reps.keys {C : MC} {A : Addr -> Prop} {H : Hp} : ∀ {vs : List V} {ps : List PV} {ks : List Key}, Reps C A H vs ps -> keysOf ps = some ks -> vs = ks.map kV
 | _, _, _, .nil, e => by cases e; rfl
 | _, _, _, .cons (p := p) (ps := ps) h t, e => by
  unfold keysOf at e
  cases q : keyOf p with
  | none => rw [q] at e; cases e
  | some k =>
   cases q2 : keysOf ps with
   | none => rw [q, q2] at e; cases e
   | some ks =>
    rw [q, q2] at e
    cases e
    have ih := Reps.keys t q2
    rw [List.map_cons, ih]
    congr 1
    unfold keyOf at q
    split at q <;> cases q <;> cases h <;> rfl
theorem RepB.key {C : MC} {A : Addr -> Prop} {H : Hp} {v : V} {p : PV} {k : Key} (h : RepB C A H v p) (e : keyOf p = some k) : v = kV k := by
 unfold keyOf at e
 split at e
 ·cases e; exact h.int
 ·cases e; exact h.str
 ·cases e
theorem RepB.flat {C : MC} {A : Addr -> Prop} {H : Hp} {v : V} {p : PV} (h : RepB C A H v p) (e : fG p = true) : iR v = true := by
 unfold fG at e
 split at e
 ·rw [h.non]; rfl
 ·rw [h.bl]; rfl
 ·rw [h.int]; rfl
 ·rw [h.str]; rfl
 ·cases e
def fV : PV -> V
 | .bl b => .bl b
 | .int i => .int i
 | .str x => .str x
 | _ => .non
theorem RepB.fV {C : MC} {A : Addr -> Prop} {H : Hp} {v : V} {p : PV} (h : RepB C A H v p) (e : fG p = true) : v = fV p := by
 cases p with
 | non => exact h.non
 | bl b => exact h.bl
 | int i => exact h.int
 | str x => exact h.str
 | _ => cases e
theorem QT (p q : PV) (hp : fG p = true) (hq : fG q = true) : L2.eqV (fV p) (fV q) = eqF p q := by
 cases p <;> cases q <;> first | rfl | (cases hp; done) | (cases hq; done)
theorem Reps.flat {C : MC} {A : Addr -> Prop} {H : Hp} {v : V} {p : PV} (h : RepB C A H v p) (e : fG p = true) : ∀ {vs : List V} {ps : List PV}, Reps C A H vs ps -> ps.all fG = true -> vs.all iR = true /\ inV v vs = ps.any fun y => eqF y p
 | _, _, .nil, _ => ⟨rfl, rfl⟩
 | _, _, .cons (v := v') (p := p') (vs := vs) (ps := ps) q t, e' => by
  rw [List.all_cons, Bool.and_eq_true] at e'
  obtain ⟨h1, h2⟩ := Reps.flat h e t e'.2
  have hf : iR v' = true := RepB.flat (.inl q) e'.1
  refine ⟨by rw [List.all_cons, hf, h1]; rfl, ?_⟩
  unfold inV at h2 ⊢
  rw [List.any_cons, List.any_cons, h2]
  have q1 := h.fV e
  have q2 := RepB.fV (.inl q) e'.1
  rw [q1, q2, QT _ _ e'.1 e]
section
variable {X : Cx}
theorem Oa (hu : X.A.units + 1 < cLine) : OpR X (compareOp .In) (fun x y H Q => ∃ a o, y = .ref a /\ DGet H a x o /\ Q (.bl o.isSome) H) := by
 intro pins s σ H x y v u Q I rx ry h
 obtain ⟨a, o, rfl, g, q⟩ := h
 obtain rfl : u = Value.ref a := ry
 exact RV hu I g rx fun s3 I3 => ⟨.bl o.isSome, H, I3, rfl, q⟩
def Dc (K : PySem.W.Frag) (neg : Bool) : R2 := fun x y H Q => ∃ d ds, (Dt K H y (.list ds) \/ Dt K H y (.tuple ds)) /\ Dt K H x d /\ PyData.canLayAll0 ds = true /\ d.canLay0 = true /\ d.depth <= 32 /\ Q (.bl (if neg then !(ds.any fun y => PyData.eqv y d) else ds.any fun y => PyData.eqv y d)) H
theorem Ob (hu : X.A.units + 64 < cLine) : OpR X (compareOp .In) (Dc X.K false) := by
 intro pins s σ H x y v u Q I rx ry h
 obtain ⟨d, ds, h1, h2, c1, c2, c3, q⟩ := h
 have hm : min (PyData.depthAll ds) d.depth <= d.depth := Nat.min_le_right _ _
 obtain ⟨as, ra⟩ := h2.reads I rx
 rcases h1 with h1 | h1
 ·obtain ⟨bs, rb⟩ := h1.reads I ry
  exact PySem.SeqAt.in_list_reads rb ra c1 c2 (by omega) ⟨.bl _, H, I, rfl, q⟩
 ·obtain ⟨bs, rb⟩ := h1.reads I ry
  exact PySem.SeqAt.in_tuple_reads rb ra c1 c2 (by omega) ⟨.bl _, H, I, rfl, q⟩
theorem Fv (hu : X.A.units + 64 < cLine) : OpR X (compareOp .NotIn) (Dc X.K true) := by
 intro pins s σ H x y v u Q I rx ry h
 obtain ⟨d, ds, h1, h2, c1, c2, c3, q⟩ := h
 have hm : min (PyData.depthAll ds) d.depth <= d.depth := Nat.min_le_right _ _
 obtain ⟨as, ra⟩ := h2.reads I rx
 rcases h1 with h1 | h1
 ·obtain ⟨bs, rb⟩ := h1.reads I ry
  exact PySem.SeqAt.notIn_list_reads rb ra c1 c2 (by omega) ⟨.bl _, H, I, rfl, q⟩
 ·obtain ⟨bs, rb⟩ := h1.reads I ry
  exact PySem.SeqAt.notIn_tuple_reads rb ra c1 c2 (by omega) ⟨.bl _, H, I, rfl, q⟩
theorem Fw (hu : X.A.units + 1 < cLine) : OpR X (compareOp .NotIn) (fun x y H Q => ∃ a o, y = .ref a /\ DGet H a x o /\ Q (.bl (!o.isSome)) H) := by
 intro pins s σ H x y v u Q I rx ry h
 obtain ⟨a, o, rfl, g, q⟩ := h
 obtain rfl : u = Value.ref a := ry
 exact J3 hu I g rx fun s3 I3 => ⟨.bl (!o.isSome), H, I3, rfl, q⟩
end
def Oc (K : PySem.W.Frag) : R2 := fun x y H Q => (rIn K false x y H Q \/ ∃ i j, x = .str i /\ y = .str j /\ Q (.bl (!(Builtin.Str.occurrences j i 0 j.length 1).isEmpty)) H) \/ (∃ a o, y = .ref a /\ DGet H a x o /\ Q (.bl o.isSome) H) \/ Dc K false x y H Q
def Bq (K : PySem.W.Frag) : R2 := fun x y H Q => (rIn K true x y H Q \/ ∃ i j, x = .str i /\ y = .str j /\ Q (.bl (!(!(Builtin.Str.occurrences j i 0 j.length 1).isEmpty))) H) \/ (∃ a o, y = .ref a /\ DGet H a x o /\ Q (.bl (!o.isSome)) H) \/ Dc K true x y H Q
def inQ (x y : PV) : Option PV := (inP x y).map .bl
@[simp] theorem S9 (x y : PV) : inQ x y = ((inP x y).map .bl) := id rfl
def o_ (x y : PV) : Option PV := (inP x y).map fun k => .bl (!k)
@[simp] theorem Rp (x y : PV) : o_ x y = ((inP x y).map fun k => .bl (!k)) := id rfl
theorem Fx {C : MC} {A : Addr -> Prop} {H : Hp} {v1 v2 : V} {p1 p2 : PV} {k : Bool} (r1 : RepB C A H v1 p1) (r2 : RepB C A H v2 p2) (e : inP p1 p2 = some k) :
  (∃ p xs, v2 = .ref p /\ (SqL C.K H p xs \/ SqT C.K H p xs) /\ iR v1 = true /\ xs.all iR = true /\ inV v1 xs = k) \/ (∃ i j, v1 = .str i /\ v2 = .str j /\ (!(Builtin.Str.occurrences j i 0 j.length 1).isEmpty) = k) \/ (∃ a o, v2 = .ref a /\ DGet H a v1 o /\ o.isSome = k) \/ ∃ d ds, (Dt C.K H v2 (.list ds) \/ Dt C.K H v2 (.tuple ds)) /\ Dt C.K H v1 d /\ PyData.canLayAll0 ds = true /\ d.canLay0 = true /\ d.depth <= 32 /\ (ds.any fun y => PyData.eqv y d) = k := by
 unfold inP at e
 split at e
 ·split at e
  ·rename_i h
   cases e
   obtain ⟨a, vs, rfl, ha, ra⟩ := r2.lst
   obtain ⟨h1, h2⟩ := Reps.flat r1 h.1 ra h.2
   exact .inl ⟨a, vs, rfl, .inl (SqL.of ha), r1.flat h.1, h1, h2⟩
  ·obtain ⟨d, ds, t1, t2, c1, c2, c3, c4⟩ := pX e
   exact .inr (.inr (.inr ⟨d, ds, .inl (r2.dt (by simp [toD, t2])), r1.dt t1, c1, c2, c3, c4⟩))
 ·split at e
  ·rename_i h
   cases e
   obtain ⟨a, vs, rfl, ha, ra⟩ := r2.frz
   obtain ⟨h1, h2⟩ := Reps.flat r1 h.1 ra h.2
   exact .inl ⟨a, vs, rfl, .inl ha, r1.flat h.1, h1, h2⟩
  ·obtain ⟨d, ds, t1, t2, c1, c2, c3, c4⟩ := pX e
   exact .inr (.inr (.inr ⟨d, ds, .inl (r2.dt (by simp [toD, t2])), r1.dt t1, c1, c2, c3, c4⟩))
 ·split at e
  ·rename_i h
   cases e
   obtain ⟨a, vs, rfl, ha, ra⟩ := r2.ktp
   obtain ⟨h1, h2⟩ := Reps.flat r1 h.1 ra h.2
   exact .inl ⟨a, vs, rfl, .inr ha, r1.flat h.1, h1, h2⟩
  ·obtain ⟨d, ds, t1, t2, c1, c2, c3, c4⟩ := pX e
   exact .inr (.inr (.inr ⟨d, ds, .inr (r2.dt (by simp [toD, t2])), r1.dt t1, c1, c2, c3, c4⟩))
 ·split at e
  ·rename_i h
   cases e
   obtain ⟨a, vs, rfl, ha, ra⟩ := r2.tup
   obtain ⟨h1, h2⟩ := Reps.flat r1 h.1 ra h.2
   exact .inl ⟨a, vs, rfl, .inr (SqT.of ha), r1.flat h.1, h1, h2⟩
  ·obtain ⟨d, ds, t1, t2, c1, c2, c3, c4⟩ := pX e
   exact .inr (.inr (.inr ⟨d, ds, .inr (r2.dt (by simp [toD, t2])), r1.dt t1, c1, c2, c3, c4⟩))
 ·cases e
  exact .inr (.inl ⟨_, _, r1.str, r2.str, rfl⟩)
 ·obtain ⟨a, kv, rfl, ha, ra⟩ := r2.dK
  cases q : keyOf p1 with
  | none => rw [q] at e; cases e
  | some ky =>
   rw [q] at e
   cases e
   rw [r1.key q]
   refine .inr (.inr (.inl ⟨a, _, rfl, DGet.k ha, ?_⟩))
   unfold d8
   dsimp only
   rcases RepK.val (k := ky) ra with ⟨v, p, h1, h2, _⟩ | ⟨h1, h2⟩
   ·rw [h1, h2]; rfl
   ·rw [h1, h2]; rfl
 ·rename_i xs kvs
  obtain ⟨a, kv, rfl, ha, ra⟩ := r2.dT
  obtain ⟨c, vs, rfl, hc, rc⟩ := r1.tup
  cases q : keysOf xs with
  | none => rw [q] at e; cases e
  | some ky =>
   rw [q] at e
   cases e
   have hv := rc.keys q
   subst hv
   refine .inr (.inr (.inl ⟨a, _, rfl, DGet.t ha hc, ?_⟩))
   unfold d8
   dsimp only
   rcases RepT.val (k := ky) ra with ⟨v, p, h1, h2, _⟩ | ⟨h1, h2⟩
   ·rw [h1, h2]; rfl
   ·rw [h1, h2]; rfl
 ·cases e
section
variable {b : BX}
theorem QV : Op2 b .val (Oc b.C.K) inQ := by
 intro Ow H v1 v2 p1 p2 p Q hn r1 r2 e k
 unfold inQ at e
 cases q : inP p1 p2 with
 | none => rw [q] at e; cases e
 | some c =>
  rw [q] at e
  cases e
  have fin := k (.bl c) H (Same.refl _) (.bl c)
  rcases Fx r1 r2 q with ⟨a, xs, rfl, h1, h2, h3, h4⟩ | ⟨i, j, rfl, rfl, h1⟩ | ⟨a, o, rfl, h1, h2⟩ | ⟨d, ds, h1, h2, c1, c2, c3, h4⟩
  ·subst h4; exact .inl (.inl ⟨a, xs, rfl, h1, h2, h3, fin⟩)
  ·subst h1; exact .inl (.inr ⟨i, j, rfl, rfl, fin⟩)
  ·subst h2; exact .inr (.inl ⟨a, o, rfl, h1, fin⟩)
  ·subst h4; exact .inr (.inr ⟨d, ds, h1, h2, c1, c2, c3, fin⟩)
theorem Hr : Op2 b .val (Bq b.C.K) o_ := by
 intro Ow H v1 v2 p1 p2 p Q hn r1 r2 e k
 unfold o_ at e
 cases q : inP p1 p2 with
 | none => rw [q] at e; cases e
 | some c =>
  rw [q] at e
  cases e
  have fin := k (.bl (!c)) H (Same.refl _) (.bl _)
  rcases Fx r1 r2 q with ⟨a, xs, rfl, h1, h2, h3, h4⟩ | ⟨i, j, rfl, rfl, h1⟩ | ⟨a, o, rfl, h1, h2⟩ | ⟨d, ds, h1, h2, c1, c2, c3, h4⟩
  ·subst h4; exact .inl (.inl ⟨a, xs, rfl, h1, h2, h3, fin⟩)
  ·subst h1; exact .inl (.inr ⟨i, j, rfl, rfl, fin⟩)
  ·subst h2; exact .inr (.inl ⟨a, o, rfl, h1, fin⟩)
  ·subst h4; exact .inr (.inr ⟨d, ds, h1, h2, c1, c2, c3, fin⟩)
end
@[simp] def za : PV -> Bool
 | .non => true
 | _ => false
def isN (x y : PV) : Option PV := match y with
 | .non => some (.bl (za x))
 | _ => none
@[simp] theorem S_ (x y : PV) : isN x y = (match y with
 | .non => some (.bl (za x))
 | _ => none) := id rfl
def mU (x y : PV) : Option PV := match y with
 | .non => some (.bl (!za x))
 | _ => none
@[simp] theorem Rq (x y : PV) : mU x y = (match y with
 | .non => some (.bl (!za x))
 | _ => none) := id rfl
theorem RepB.isN {C : MC} {A : Addr -> Prop} {H : Hp} {v : V} {p : PV} (h : RepB C A H v p) : decide (v = .non) = za p := by
 cases p with
 | non => rw [h.non]; rfl
 | bl b => rw [h.bl]; rfl
 | int b => rw [h.int]; rfl
 | str b => rw [h.str]; rfl
 | lst b => obtain ⟨a, _, rfl, _⟩ := h.lst; rfl
 | frz b => obtain ⟨a, _, rfl, _⟩ := h.frz; rfl
 | tup b => obtain ⟨a, _, rfl, _⟩ := h.tup; rfl
 | ktp b => obtain ⟨a, _, rfl, _⟩ := h.ktp; rfl
 | dK b => obtain ⟨a, _, rfl, _⟩ := h.dK; rfl
 | dT b => obtain ⟨a, _, rfl, _⟩ := h.dT; rfl
 | obj c b => obtain ⟨a, _, _, rfl, _⟩ := h.obj; rfl
section
variable {b : BX}
theorem Od : Op2 b .val (fun x y H Q => y = .non /\ Q (.bl (decide (x = .non))) H) isN := by
 intro Ow H v1 v2 p1 p2 p Q hn r1 r2 e k
 cases p2 with
 | non =>
  simp only [isN] at e
  cases e
  exact ⟨r2.non, by rw [r1.isN]; exact k _ H (Same.refl _) (.bl _)⟩
 | _ => simp only [isN] at e; cases e
theorem Fy : Op2 b .val (fun x y H Q => y = .non /\ Q (.bl (!decide (x = .non))) H) mU := by
 intro Ow H v1 v2 p1 p2 p Q hn r1 r2 e k
 cases p2 with
 | non =>
  simp only [mU] at e
  cases e
  exact ⟨r2.non, by rw [r1.isN]; exact k _ H (Same.refl _) (.bl _)⟩
 | _ => simp only [mU] at e; cases e
end
section
variable {X : Cx} {b : BX} {G : List Nat} {m : Md} {e e1 e2 e3 : Expr} {f f1 f2 f3 : Env -> Option PV} {pos : Pos} {m1 m2 m3 : Md}
structure SC (X : Cx) (b : BX) (G : List Nat) (op : CmpOp) (e1 e2 : Expr) (f : Env -> Option PV) : Prop where
 pe : ∀ pos, SE X b G .val (.Compare e1 [op] [e2] pos) f
 pt : ∀ pos, ST X b G (.Compare e1 [op] [e2] pos) (tV f)
theorem nO {op : CmpOp} {r : R2} {g : PV -> PV -> Option PV} (ho : OpR X (compareOp op) r) (hr : Op2 b .val r g) (h1 : SE X b G m1 e1 f1) (h2 : SE X b G m2 e2 f2) (hm : behindInMarks op e2 = false) : SC X b G op e1 e2 (b2 g f1 f2) := by
 refine ⟨fun pos => PE.imp (JT ho h1.bor h2.bor hm) fun σ H Q h => CW hr h, fun pos => PT.imp (JV ho h1.bor h2.bor hm) fun σ H Q h => ?_⟩
 obtain ⟨Ow, env, c, E, hf, k⟩ := h
 unfold tV at hf
 cases q : b2 g f1 f2 env with
 | none => rw [q] at hf; cases hf
 | some p =>
  rw [q] at hf
  refine CW (Q := fun x H' => ∃ k, x = .bl k /\ _) hr ⟨Ow, env, p, E, q, fun v H' s r => ?_⟩
  cases p with
  | bl d =>
   cases hf
   cases r
   exact ⟨_, rfl, k H' s⟩
  | _ => cases hf
theorem bT {j : Nat} (hr : Room j X.A) (h1 : SE X b G m1 e1 f1) (h2 : SE X b G m2 e2 f2) (hK : X.K = b.C.K := by rfl) : SC X b G .Eq e1 e2 (b2 eqQ f1 f2) := nO (r := N8 b.C.K) (by rw [← hK]; exact OpR.or Qq (Nu hr.units)) QR h1 h2 (o4 _)
theorem nP {j : Nat} (hr : Room j X.A) (h1 : SE X b G m1 e1 f1) (h2 : SE X b G m2 e2 f2) (hK : X.K = b.C.K := by rfl) : SC X b G .NotEq e1 e2 (b2 neQ f1 f2) := nO (r := N_ b.C.K) (by rw [← hK]; exact OpR.or Qs (Nv hr.units)) QS h1 h2 (o4 _)
theorem Dd (h1 : SE X b G m1 e1 f1) (h2 : SE X b G m2 e2 f2) : SC X b G .Lt e1 e2 (b2 (iC fun i j => decide (i < j)) f1 f2) := nO Qt Fo h1 h2 (o4 _)
theorem pY (h1 : SE X b G m1 e1 f1) (h2 : SE X b G m2 e2 f2) : SC X b G .Gt e1 e2 (b2 (iC fun i j => decide (j < i)) f1 f2) := nO Qu Fo h1 h2 (o4 _)
theorem jn {j : Nat} (hr : Room j X.A) (h1 : SE X b G m1 e1 f1) (h2 : SE X b G m2 e2 f2) (hm : behindInMarks .In e2 = false := by rfl) (hK : X.K = b.C.K := by rfl) : SC X b G .In e1 e2 (b2 inQ f1 f2) :=
 nO (r := Oc b.C.K) (by rw [← hK]; exact OpR.or (OpR.or E_ En) (OpR.or (Oa (yp hr)) (Ob hr.units))) QV h1 h2 hm
theorem zb {j : Nat} (hr : Room j X.A) (h1 : SE X b G m1 e1 f1) (h2 : SE X b G m2 e2 f2) (hm : behindInMarks .NotIn e2 = false := by rfl) (hK : X.K = b.C.K := by rfl) : SC X b G .NotIn e1 e2 (b2 o_ f1 f2) :=
 nO (r := Bq b.C.K) (by rw [← hK]; exact OpR.or (OpR.or yP yQ) (OpR.or (Fw (yp hr)) (Fv hr.units))) Hr h1 h2 hm
theorem QW (h1 : SE X b G m1 e1 f1) (h2 : SE X b G m2 e2 f2) : SC X b G .Is e1 e2 (b2 isN f1 f2) := nO M3 Od h1 h2 (o4 _)
theorem Hs (h1 : SE X b G m1 e1 f1) (h2 : SE X b G m2 e2 f2) : SC X b G .IsNot e1 e2 (b2 mU f1 f2) := nO JS Fy h1 h2 (o4 _)
theorem cu {op : CmpOp} (h : SC X b G op e1 e2 f) : SE X b G .val (.Compare e1 [op] [e2] pos) f := h.pe pos
theorem aX {op : CmpOp} (h : SC X b G op e1 e2 f) : ST X b G (.Compare e1 [op] [e2] pos) (tV f) := h.pt pos
def rD (g g' : Int -> Int -> Bool) (f1 f2 f3 : Env -> Option PV) (env : Env) : Option PV := (f1 env).bind fun x => (f2 env).bind fun y => match x, y with
 | .int i, .int j => if g i j = true then (f3 env).bind fun z => iC g' y z else some (.bl false)
 | _, _ => none
@[simp] theorem Rr (g g' : Int -> Int -> Bool) (f1 f2 f3 : Env -> Option PV) (env : Env) : rD g g' f1 f2 f3 env = ((f1 env).bind fun x => (f2 env).bind fun y => match x, y with
 | .int i, .int j => if g i j = true then (f3 env).bind fun z => iC g' y z else some (.bl false)
 | _, _ => none) := id rfl
theorem An {g g' : Int -> Int -> Bool} {f1 f2 f3 : Env -> Option PV} {env : Env} {p : PV} (h : rD g g' f1 f2 f3 env = some p) :
  ∃ i j, f1 env = some (.int i) /\ f2 env = some (.int j) /\ ((g i j = false /\ p = .bl false) \/ (g i j = true /\ ∃ l, f3 env = some (.int l) /\ p = .bl (g' j l))) := by
 unfold rD at h
 cases q1 : f1 env with
 | none => rw [q1] at h; cases h
 | some p1 =>
  cases q2 : f2 env with
  | none => rw [q1, q2] at h; cases h
  | some p2 =>
   rw [q1, q2] at h
   simp only [Option.bind_some] at h
   split at h
   ·rename_i i j
    refine ⟨i, j, rfl, rfl, ?_⟩
    cases hg : g i j with
    | false =>
     rw [hg] at h
     cases h
     exact .inl ⟨rfl, rfl⟩
    | true =>
     rw [hg] at h
     simp only [if_true] at h
     obtain ⟨p3, q3, h⟩ := Option.bind_eq_some_iff.mp h
     cases p3 with
     | int l =>
      cases h
      exact .inr ⟨rfl, l, q3, rfl⟩
     | _ => cases h
   ·cases h
theorem Ht {op op' : CmpOp} {g g' : Int -> Int -> Bool} (ho : OpR X (compareOp op) (rI0 fun i j => .bl (g i j))) (ho' : OpR X (compareOp op') (rI0 fun i j => .bl (g' i j))) (h1 : SE X b G m1 e1 f1) (h2 : SE X b G m2 e2 f2) (h3 : SE X b G m3 e3 f3)
  (hm : lastMarks [op, op'] [e2, e3] = false := by with_unfolding_all rfl) : SE X b G .val (.Compare e1 [op, op'] [e2, e3] pos) (rD g g' f1 f2 f3) :=
 PE.imp (G9 ho ho' h1.bor h2.bor h3.bor hm) fun σ H Q ⟨Ow, env, p, E, hf, k⟩ => by
  obtain ⟨i, j, q1, q2, hc⟩ := An hf
  refine ⟨Ow, env, _, E, q1, fun v1 H1 s1 r1 => ⟨Ow, env, _, E.up s1, q2, fun v2 H2 s2 r2 => ?_⟩⟩
  have r1' : RepB b.C (Bs b Ow) H2 v1 (.int i) := Res.up (m := .bor) r1 s2
  have r2' : RepB b.C (Bs b Ow) H2 v2 (.int j) := r2
  rw [r1'.int, r2'.int]
  refine ⟨i, j, rfl, rfl, g i j, rfl, ?_⟩
  rcases hc with ⟨hc, rfl⟩ | ⟨hc, l, q3, rfl⟩
  ·rw [hc]
   simp only [Bool.false_eq_true, if_false]
   exact k _ H2 (s1.trans s2) (.bl false)
  ·rw [hc]
   simp only [if_true]
   refine ⟨Ow, env, _, E.up (s1.trans s2), q3, fun v3 H3 s3 r3 => ?_⟩
   have r3' : RepB b.C (Bs b Ow) H3 v3 (.int l) := r3
   rw [r3'.int]
   exact ⟨_, _, rfl, rfl, k _ H3 (s1.trans (s2.trans s3)) (.bl _)⟩
theorem fc {op} (h : SE X b G m e f) : SE X b G m (.BoolOp op [e] pos) f := Eg h
theorem eN {rest : List Expr} (h1 : SE X b G .val e1 f1) (h2 : SE X b G .val (.BoolOp .And (e2 :: rest) pos) f2) : SE X b G .val (.BoolOp .And (e1 :: e2 :: rest) pos) (fX f1 f2) :=
 PE.imp (Mq h1 h2) fun σ H Q ⟨Ow, env, p, E, hf, k⟩ => by
  unfold fX at hf
  cases q1 : f1 env with
  | none => rw [q1] at hf; cases hf
  | some p1 =>
   rw [q1] at hf
   refine ⟨Ow, env, p1, E, q1, fun v1 H1 s1 r1 => ?_⟩
   cases p1 with
   | bl c =>
    cases r1
    refine ⟨c, rfl, ?_⟩
    cases c with
    | true => exact ⟨Ow, env, p, E.up s1, hf, fun v H' s r => k v H' (s1.trans s) r⟩
    | false => cases hf; exact k _ H1 s1 (.bl false)
   | _ => cases hf
theorem De {rest : List Expr} (h1 : SE X b G .val e1 f1) (h2 : SE X b G .val (.BoolOp .Or (e2 :: rest) pos) f2) : SE X b G .val (.BoolOp .Or (e1 :: e2 :: rest) pos) (bOr f1 f2) :=
 PE.imp (Jo h1 h2) fun σ H Q ⟨Ow, env, p, E, hf, k⟩ => by
  unfold bOr at hf
  cases q1 : f1 env with
  | none => rw [q1] at hf; cases hf
  | some p1 =>
   rw [q1] at hf
   refine ⟨Ow, env, p1, E, q1, fun v1 H1 s1 r1 => ?_⟩
   cases p1 with
   | bl c =>
    cases r1
    refine ⟨c, rfl, ?_⟩
    cases c with
    | false => exact ⟨Ow, env, p, E.up s1, hf, fun v H' s r => k v H' (s1.trans s) r⟩
    | true => cases hf; exact k _ H1 s1 (.bl true)
   | _ => cases hf
@[simp] def Hu : PV -> Option PV
 | .int i => some (.int (-i))
 | _ => none
theorem Oe (h1 : SE X b G m e1 f1) : SE X b G .val (.UnaryOp .USub e1 pos) (b1 Hu f1) :=
 PE.imp (Qp MT h1.bor) fun σ H Q h => CZ (r := rU fun i => .int (-i)) (fun Ow H v1 p1 p Q hn r1 e k => by
  cases p1 <;> simp only [Hu] at e <;> cases e
  exact ⟨_, r1.int, k _ H (Same.refl _) (.int _)⟩) h
theorem jW (h : SE X b G .val e f) (he : ∀ whole, isTrue e X.env whole = (do let v ← whole; standAt e.pos; holding [v] (truthy v)) := by intro _; rfl) : ST X b G e (tV f) :=
 PT.imp (Eb h he) fun σ H Q ⟨Ow, env, c, E, hf, k⟩ => by
  unfold tV at hf
  cases q1 : f env with
  | none => rw [q1] at hf; cases hf
  | some p1 =>
   rw [q1] at hf
   refine ⟨Ow, env, p1, E, q1, fun v1 H1 s1 r1 => ?_⟩
   cases p1 with
   | bl d => cases r1; cases hf; exact ⟨_, rfl, k H1 s1⟩
   | _ => cases hf
theorem u6 {g : Env -> Option Bool} (h : ST X b G e g) : ST X b G (.UnaryOp .Not e pos) (tN g) :=
 PT.imp (Ef h) fun σ H Q ⟨Ow, env, c, E, hf, k⟩ => by
  unfold tN at hf
  cases q1 : g env with
  | none => rw [q1] at hf; cases hf
  | some p1 => rw [q1] at hf; cases hf; exact ⟨Ow, env, p1, E, q1, fun H' s => k H' s⟩
abbrev SW (X : Cx) (b : BX) (G : List Nat) (e : Expr) (g : Env -> Option Bool) : Prop := PW X e (tMT b G g)
theorem PW.imp {t u : TT} (h : PW X e t) (i : ∀ σ H Q, u σ H Q -> t σ H Q) : PW X e u := fun wh pins s σ H Q I q => h wh pins s σ H Q I (i σ H Q q)
variable {g1 g2 : Env -> Option Bool}
theorem vZ (h : ST X b G e g1) : SW X b G (.BoolOp .And [e] pos) g1 := Bd h
theorem zc (h : ST X b G e g1) : SW X b G (.BoolOp .Or [e] pos) g1 := Ec h
theorem zf {rest : List Expr} (h1 : ST X b G e1 g1) (h2 : SW X b G (.BoolOp .And (e2 :: rest) pos) g2) : SW X b G (.BoolOp .And (e1 :: e2 :: rest) pos) (tA g1 g2) :=
 PW.imp (Ed h1 h2) fun σ H Q ⟨Ow, env, c, E, hf, k⟩ => by
  unfold tA at hf
  cases q1 : g1 env with
  | none => rw [q1] at hf; cases hf
  | some p1 =>
   rw [q1] at hf
   refine ⟨Ow, env, p1, E, q1, fun H1 s1 => ?_⟩
   cases p1 with
   | true => exact ⟨Ow, env, c, E.up s1, hf, fun H' s => k H' (s1.trans s)⟩
   | false => cases hf; exact k H1 s1
theorem Df {rest : List Expr} (h1 : ST X b G e1 g1) (h2 : SW X b G (.BoolOp .Or (e2 :: rest) pos) g2) : SW X b G (.BoolOp .Or (e1 :: e2 :: rest) pos) (tO g1 g2) :=
 PW.imp (Jm h1 h2) fun σ H Q ⟨Ow, env, c, E, hf, k⟩ => by
  unfold tO at hf
  cases q1 : g1 env with
  | none => rw [q1] at hf; cases hf
  | some p1 =>
   rw [q1] at hf
   refine ⟨Ow, env, p1, E, q1, fun H1 s1 => ?_⟩
   cases p1 with
   | false => exact ⟨Ow, env, c, E.up s1, hf, fun H' s => k H' (s1.trans s)⟩
   | true => cases hf; exact k H1 s1
theorem SW.st (h : SW X b G e g1) : ST X b G e g1 := h _
theorem JB {c : Expr} (hc : ST X b G c g1) (h1 : SE X b G m e1 f1) (h2 : SE X b G m e2 f2) : SE X b G m (.IfExp c e1 e2 pos) (bIf g1 f1 f2) :=
 PE.imp (GR hc h1 h2) fun σ H Q ⟨Ow, env, p, E, hf, k⟩ => by
  unfold bIf at hf
  cases q1 : g1 env with
  | none => rw [q1] at hf; cases hf
  | some c =>
   rw [q1] at hf
   refine ⟨Ow, env, c, E, q1, fun H1 s1 => ?_⟩
   cases c with
   | true => exact ⟨Ow, env, p, E.up s1, hf, fun v H' s r => k v H' (s1.trans s) (r.down s1)⟩
   | false => exact ⟨Ow, env, p, E.up s1, hf, fun v H' s r => k v H' (s1.trans s) (r.down s1)⟩
end
end MR
namespace MR
open PySem L2
def ArA (b : BX) (Ow : Addr -> Prop) (L : Bool) (H : Hp) (a : Addr) : Prop := Bs b Ow a \/ (L = true /\ ∃ vs, H a = some (.lst vs))
def tMA (b : BX) (G : List Nat) (L : Bool) (g : Env -> Option (List PV)) : TA := fun σ H Q => ∃ Ow env ps, ER b Ow G σ env H /\ g env = some ps /\ ∀ vs H', Same H H' -> Reps b.C (ArA b Ow L H') H' vs ps -> Q vs H'
abbrev SA (X : Cx) (b : BX) (G : List Nat) (L : Bool) (es : List Expr) (g : Env -> Option (List PV)) : Prop := PA X es (tMA b G L g)
theorem PA.imp {X : Cx} {es : List Expr} {t u : TA} (h : PA X es t) (i : ∀ σ H Q, u σ H Q -> t σ H Q) : PA X es u := fun pos pins s σ H Q I q => h pos pins s σ H Q I (i σ H Q q)
theorem ArA.ex {b : BX} {Ow : Addr -> Prop} {L : Bool} {H H' : Hp} (s : Same H H') : Ex (ArA b Ow L H) H (ArA b Ow L H') H' := fun a o h => ⟨fun q => ⟨s _ _ h, q.imp id fun ⟨l, vs, e⟩ => ⟨l, vs, s _ _ e⟩⟩, fun _ => s _ _ h⟩
section
variable {X : Cx} {b : BX} {G : List Nat} {m m1 m2 : Md} {L : Bool} {e e1 e2 : Expr} {es : List Expr} {f f1 f2 : Env -> Option PV} {g : Env -> Option (List PV)} {pos p : Pos}
theorem au : SA X b G L [] aB := PA.imp h_ fun σ H Q ⟨Ow, env, ps, E, hg, k⟩ => by cases hg; exact k [] H (Same.refl _) .nil
theorem aa (h1 : SE X b G .val e f) (h2 : SA X b G L es g) (hs : starEach (e :: es) X.env = (false, eval e X.env) :: starEach es X.env := by rfl) : SA X b G L (e :: es) (ak f g) :=
 PA.imp (dC h1 h2 hs) fun σ H Q ⟨Ow, env, ps, E, hg, k⟩ => by
  unfold ak at hg
  cases q1 : f env with
  | none => rw [q1] at hg; cases hg
  | some p1 =>
   rw [q1] at hg
   cases q2 : g env with
   | none => rw [q2] at hg; cases hg
   | some ps' =>
    rw [q2] at hg
    cases hg
    exact ⟨Ow, env, p1, E, q1, fun v H1 s1 r1 => ⟨Ow, env, ps', E.up s1, q2, fun vs H2 s2 r2 => k (v :: vs) H2 (s1.trans s2) (.cons (Rep.ex (fun a o h => ⟨fun q => ⟨s2 _ _ h, .inl q⟩, fun _ => s2 _ _ h⟩) r1) r2)⟩⟩
theorem tG {b : BX} {Ow : Addr -> Prop} {H : Hp} {vs : List V} {ps : List PV} (h : Reps b.C (ArA b Ow false H) H vs ps) : Reps b.C (Bs b Ow) H vs ps := h.ex (dG fun a o _ q => q.elim id fun z => by cases z.1)
theorem cY (h : SA X b G false es g) : SE X b G .own (.List es pos) (cL g) := PE.imp (M8 h) fun σ H Q ⟨Ow, env, p, E, hf, k⟩ => by
 unfold cL at hf
 cases q1 : g env with
 | none => rw [q1] at hf; cases hf
 | some ps =>
  rw [q1] at hf
  simp only [Option.bind_some] at hf
  split at hf
  ·rename_i hl
   cases hf
   refine ⟨Ow, env, ps, E, q1, fun vs H1 s1 r => ⟨jJ (by rw [r.length]; exact hl), fun q hq => k _ _ (s1.trans (bw hq _)) (Res.down s1 (ir hq (tG r)))⟩⟩
  ·cases hf
theorem jX {x1} (h : SA X b G false es g) : SE X b G .val (.Tuple es x1 pos) (jU g) := PE.imp (M7 h) fun σ H Q ⟨Ow, env, p, E, hf, k⟩ => by
 unfold jU at hf
 cases q1 : g env with
 | none => rw [q1] at hf; cases hf
 | some ps =>
  rw [q1] at hf
  simp only [Option.bind_some] at hf
  split at hf
  ·rename_i hl
   cases hf
   refine ⟨Ow, env, ps, E, q1, fun vs H1 s1 r => ⟨jJ (by rw [r.length]; exact hl), fun q hq => k _ _ (s1.trans (bw hq _)) (Kl hq (tG r))⟩⟩
  ·cases hf
theorem QX : SE X b G .own (.Dict [] [] pos) (bC (.dK [])) := PE.imp Hg fun σ H Q ⟨Ow, env, p, E, hf, k⟩ q hq => by
 cases hf
 exact k _ _ (bw hq _) ⟨q, rfl, hq, [], bF, .nil⟩
theorem QZ : SE X b G .own (.Dict [] [] pos) (bC (.dT [])) := PE.imp Hh fun σ H Q ⟨Ow, env, p, E, hf, k⟩ q hq => by
 cases hf
 exact k _ _ (bw hq _) ⟨q, rfl, hq, [], bF, .nil⟩
@[simp] def ixP : PV -> PV -> Option PV
 | .lst xs, .int i => atI xs i
 | .frz xs, .int i => atI xs i
 | .tup xs, .int i => atI xs i
 | .ktp xs, .int i => atI xs i
 | .str x, .int i => if x.length <= 1000000 then (atI x.cps.toList i).map fun c => .str ⟨#[c]⟩ else none
 | .dK kvs, y => (keyOf y).bind fun k => d8 kvs k
 | .dT kvs, .tup ys => (keysOf ys).bind fun k => d8 kvs k
 | _, _ => none
theorem Reps.atI {C : MC} {A : Addr -> Prop} {H : Hp} {vs : List V} {ps : List PV} {i : Int} {p : PV} (h : Reps C A H vs ps) (e : atI ps i = some p) : ∃ v, L2.atI vs i = some v /\ Rep C A H v p := by
 unfold L2.atI at e ⊢
 rw [h.length]
 cases q : ixN ps.length i with
 | none => rw [q] at e; cases e
 | some j => rw [q] at e; exact h.get e
theorem aM {j : Nat} (hr : Room j X.A) (h1 : SE X b G m1 e1 f1) (h2 : SE X b G m2 e2 f2) (hs : Bo e2 := by intro _ _; rfl) (hs' : Hc e2 := by intro _ _; rfl) (hK : X.K = b.C.K := by rfl) : SE X b G .val (.Subscript e1 e2 pos) (b2 ixP f1 f2) := by
 refine PE.imp (PE.or (QF (r := rIx b.C.K) (by rw [← hK]; exact Nk) h1.bor h2.bor hs) (J5 (yp hr) h1.bor h2.bor hs')) fun σ H Q h => ?_
 obtain ⟨Ow, env, p, E, hf, k⟩ := h
 unfold b2 at hf
 cases q1 : f1 env with
 | none => rw [q1] at hf; cases hf
 | some p1 =>
  rw [q1] at hf
  cases q2 : f2 env with
  | none => rw [q2] at hf; cases hf
  | some p2 =>
   rw [q2] at hf
   simp only [Option.bind_some] at hf
   have step : ∀ (R : V -> V -> Hp -> VK -> Prop), (∀ H2 v1 v2, RepB b.C (Bs b Ow) H2 v1 p1 -> RepB b.C (Bs b Ow) H2 v2 p2 -> Same H H2 -> R v1 v2 H2 Q) -> tM b G .bor f1 σ H fun x H1 => tM b G .bor f2 σ H1 fun y H2 => R x y H2 Q := fun R hR =>
    ⟨Ow, env, p1, E, q1, fun v1 H1 s1 r1 => ⟨Ow, env, p2, E.up s1, q2, fun v2 H2 s2 r2 => hR H2 v1 v2 (Res.up (m := .bor) r1 s2) r2 (s1.trans s2)⟩⟩
   unfold ixP at hf
   split at hf
   ·refine .inl (step _ fun H2 v1 v2 r1 r2 s => ?_)
    obtain ⟨a, vs, rfl, ha, ra⟩ := r1.lst
    obtain ⟨v, hv, rv⟩ := ra.atI hf
    rw [r2.int]
    exact .inl ⟨a, vs, _, v, rfl, rfl, SqL.of ha, hv, k v H2 s rv⟩
   ·refine .inl (step _ fun H2 v1 v2 r1 r2 s => ?_)
    obtain ⟨a, vs, rfl, ha, ra⟩ := r1.frz
    obtain ⟨v, hv, rv⟩ := ra.atI hf
    rw [r2.int]
    exact .inl ⟨a, vs, _, v, rfl, rfl, ha, hv, k v H2 s rv⟩
   ·refine .inl (step _ fun H2 v1 v2 r1 r2 s => ?_)
    obtain ⟨a, vs, rfl, ha, ra⟩ := r1.tup
    obtain ⟨v, hv, rv⟩ := ra.atI hf
    rw [r2.int]
    exact .inr (.inl ⟨a, vs, _, v, rfl, rfl, SqT.of ha, hv, k v H2 s rv⟩)
   ·refine .inl (step _ fun H2 v1 v2 r1 r2 s => ?_)
    obtain ⟨a, vs, rfl, ha, ra⟩ := r1.ktp
    obtain ⟨v, hv, rv⟩ := ra.atI hf
    rw [r2.int]
    exact .inr (.inl ⟨a, vs, _, v, rfl, rfl, ha, hv, k v H2 s rv⟩)
   ·split at hf
    ·rename_i x i hx
     cases q3 : atI x.cps.toList i with
     | none => rw [q3] at hf; cases hf
     | some c =>
      rw [q3] at hf
      cases hf
      refine .inl (step _ fun H2 v1 v2 r1 r2 s => ?_)
      rw [r1.str, r2.int]
      exact .inr (.inr ⟨x, i, c, rfl, rfl, jJ hx, q3, k _ H2 s (.str _)⟩)
    ·cases hf
   ·rename_i kvs
    cases q3 : keyOf p2 with
    | none => rw [q3] at hf; cases hf
    | some ky =>
     rw [q3] at hf
     simp only [Option.bind_some] at hf
     refine .inr (step (fun x y H2 Q => ∃ a v, x = .ref a /\ DGet H2 a y (some v) /\ Q v H2) fun H2 v1 v2 r1 r2 s => ?_)
     obtain ⟨a, kv, rfl, ha, ra⟩ := r1.dK
     rw [r2.key q3]
     unfold d8 at hf
     rcases RepK.val (k := ky) ra with ⟨v, p', h1, h2, rv⟩ | ⟨h1, h2⟩
     ·rw [h2] at hf
      cases hf
      exact ⟨a, v, rfl, by rw [← h1]; exact DGet.k ha, k v H2 s rv⟩
     ·rw [h2] at hf; cases hf
   ·rename_i kvs ys
    cases q3 : keysOf ys with
    | none => rw [q3] at hf; cases hf
    | some ky =>
     rw [q3] at hf
     simp only [Option.bind_some] at hf
     refine .inr (step (fun x y H2 Q => ∃ a v, x = .ref a /\ DGet H2 a y (some v) /\ Q v H2) fun H2 v1 v2 r1 r2 s => ?_)
     obtain ⟨a, kv, rfl, ha, ra⟩ := r1.dT
     obtain ⟨c, vs, rfl, hc, rc⟩ := r2.tup
     have hv := rc.keys q3
     subst hv
     unfold d8 at hf
     rcases RepT.val (k := ky) ra with ⟨v, p', h1, h2, rv⟩ | ⟨h1, h2⟩
     ·rw [h2] at hf
      cases hf
      exact ⟨a, v, rfl, by rw [← h1]; exact DGet.t ha hc, k v H2 s rv⟩
     ·rw [h2] at hf; cases hf
   ·cases hf
def je (xs : List PV) (lo hi : Option Int) : List PV := (xs.drop (HT.sIx xs.length 0 lo)).take (HT.sIx xs.length xs.length hi - HT.sIx xs.length 0 lo)
theorem Reps.cut {C : MC} {A : Addr -> Prop} {H : Hp} {vs : List V} {ps : List PV} (h : Reps C A H vs ps) (lo hi : Option Int) : Reps C A H (vU vs lo hi) (je ps lo hi) := by
 unfold vU je
 rw [h.length]
 exact (h.drop _).take _
def oN (env : Env) : Option (Option Int) := some none
@[simp] theorem Q0 (env : Env) : oN env = (some none) := id rfl
def oS (f : Env -> Option PV) (env : Env) : Option (Option Int) := (f env).bind fun p => match p with | .int i => some (some i) | _ => none
@[simp] theorem Q3 (f : Env -> Option PV) (env : Env) : oS f env = ((f env).bind fun p => match p with | .int i => some (some i) | _ => none) := id rfl
def tMO (b : BX) (G : List Nat) (f : Env -> Option (Option Int)) : TO := fun σ H Q => ∃ Ow env o, ER b Ow G σ env H /\ f env = some o /\ ∀ H', Same H H' -> Q o H'
theorem PO.imp {x : Option Expr} {t u : TO} (h : PO X x t) (i : ∀ σ H Q, u σ H Q -> t σ H Q) : PO X x u := by
 intro pins s σ H Q I q
 exact h pins s σ H Q I (i σ H Q q)
abbrev SO (X : Cx) (b : BX) (G : List Nat) (e : Option Expr) (f : Env -> Option (Option Int)) : Prop := PO X e (tMO b G f)
theorem fK : SO X b G none oN := PO.imp J8 fun σ H Q ⟨Ow, env, o, E, hf, k⟩ => by cases hf; exact k H (Same.refl _)
theorem cQ (h : SE X b G m e f) : SO X b G (some e) (oS f) := PO.imp (J9 h.bor) fun σ H Q ⟨Ow, env, o, E, hf, k⟩ => by
 unfold oS at hf
 cases q1 : f env with
 | none => rw [q1] at hf; cases hf
 | some p1 =>
  rw [q1] at hf
  refine ⟨Ow, env, p1, E, q1, fun v H1 s1 r1 => ?_⟩
  have r1' : RepB b.C (Bs b Ow) H1 v p1 := r1
  cases p1 <;> simp only [Option.bind_some] at hf <;> cases hf
  exact ⟨_, r1'.int, k H1 s1⟩
def bSl (f : Env -> Option PV) (lo hi : Env -> Option (Option Int)) (env : Env) : Option PV := (f env).bind fun x => (lo env).bind fun l => (hi env).bind fun h => match x with
 | .lst xs => some (.lst (je xs l h))
 | .frz xs => some (.lst (je xs l h))
 | .str x => if x.length <= 1000000 then some (.str (bI x l h)) else none
 | _ => none
@[simp] theorem Og (f : Env -> Option PV) (lo hi : Env -> Option (Option Int)) (env : Env) : bSl f lo hi env = ((f env).bind fun x => (lo env).bind fun l => (hi env).bind fun h => match x with
 | .lst xs => some (.lst (je xs l h))
 | .frz xs => some (.lst (je xs l h))
 | .str x => if x.length <= 1000000 then some (.str (bI x l h)) else none
 | _ => none) := id rfl
theorem gJ {lo hi : Option Expr} {p2 : Pos} {fl fh : Env -> Option (Option Int)} (h1 : SE X b G m e f) (hl : SO X b G lo fl) (hh : SO X b G hi fh) (hK : X.K = b.C.K := by rfl) : SE X b G .val (.Subscript e (.Slice lo hi none p2) pos) (bSl f fl fh) := by
 refine PE.imp (Hi (r := NB b.C.K) (by rw [← hK]; exact NK) h1.bor hl hh) fun σ H Q ⟨Ow, env, p, E, hf, k⟩ => ?_
 unfold bSl at hf
 cases q1 : f env with
 | none => rw [q1] at hf; cases hf
 | some p1 =>
  rw [q1] at hf
  cases q2 : fl env with
  | none => rw [q2] at hf; cases hf
  | some l =>
   rw [q2] at hf
   cases q3 : fh env with
   | none => rw [q3] at hf; cases hf
   | some h =>
    rw [q3] at hf
    refine ⟨Ow, env, p1, E, q1, fun v H1 s1 r1 => ⟨Ow, env, l, E.up s1, q2, fun H2 s2 => ⟨Ow, env, h, E.up (s1.trans s2), q3, fun H3 s3 => ?_⟩⟩⟩
    have r1' : RepB b.C (Bs b Ow) H3 v p1 := Res.up (m := .bor) r1 (s2.trans s3)
    cases p1 <;> simp only [Option.bind_some] at hf
    case lst xs =>
     cases hf
     obtain ⟨a, vs, rfl, ha, ra⟩ := r1'.lst
     exact .inl ⟨a, vs, rfl, SqL.of ha, fun q hq => k _ _ (s1.trans (s2.trans (s3.trans (bw hq _)))) (Res.val (m := .own) E (fun z => nomatch z) (Res.down (s1.trans (s2.trans s3)) (ir hq (ra.cut l h))))⟩
    case frz xs =>
     cases hf
     obtain ⟨a, vs, rfl, ha, ra⟩ := r1'.frz
     exact .inl ⟨a, vs, rfl, ha, fun q hq => k _ _ (s1.trans (s2.trans (s3.trans (bw hq _)))) (Res.val (m := .own) E (fun z => nomatch z) (Res.down (s1.trans (s2.trans s3)) (ir hq (ra.cut l h))))⟩
    case str x =>
     split at hf
     ·rename_i hx
      cases hf
      exact .inr ⟨x, r1'.str, jJ hx, k _ _ (s1.trans (s2.trans s3)) (.str _)⟩
     ·cases hf
    all_goals cases hf
theorem u9 {id : String} {x : Str} {r : List V -> Hp -> VK -> Prop} {g : PV -> Option PV} (hc : CallR X (.builtin id) r) (hr : Op1 b m (fun v H Q => r [v] H Q) g) (hm : X.mg x = none) (hv : bootBuiltins x = some (.builtin id)) (h : SE X b G m1 e f)
  (hg : Gl X x := by rfl) (hn : x ≠ "__name__" := by decide) (hdb : (x == ("__debug__" : Str)) = false := by decide) (he : starEach [e] X.env = (false, eval e X.env) :: starEach [] X.env := by rfl) :
  SE X b G m (.Call (.Name x p) [e] [] pos) (b1 g f) :=
 PE.imp (pO hc hg hm hv (dC h.bor h_ he) hn hdb he rfl) fun σ H Q h => CZ hr h
theorem Br {id : String} {x : Str} {r : List V -> Hp -> VK -> Prop} {g : PV -> Option PV} (hc : CallR X (.type id) r) (hr : Op1 b m (fun v H Q => r [v] H Q) g) (hm : X.mg x = none) (hv : bootBuiltins x = some (.type id)) (h : SE X b G m1 e f)
  (hg : Gl X x := by rfl) (hn : x ≠ "__name__" := by decide) (hdb : (x == ("__debug__" : Str)) = false := by decide) (he : starEach [e] X.env = (false, eval e X.env) :: starEach [] X.env := by rfl) :
  SE X b G m (.Call (.Name x p) [e] [] pos) (b1 g f) :=
 PE.imp (Ew hc hg hm hv (dC h.bor h_ he) hn hdb he rfl) fun σ H Q h => CZ hr h
@[simp] def lenV : PV -> Option PV
 | .lst xs => some (.int xs.length)
 | .frz xs => some (.int xs.length)
 | .tup xs => some (.int xs.length)
 | .ktp xs => some (.int xs.length)
 | .str x => if x.length <= 1000000 then some (.int x.length) else none
 | .dK kvs => some (.int kvs.length)
 | _ => none
theorem RepK.length {C : MC} {A : Addr -> Prop} {H : Hp} : ∀ {vs : List (Key × V)} {ps : List (Key × PV)}, RepK C A H vs ps -> vs.length = ps.length
 | _, _, .nil => rfl
 | _, _, .cons _ t => by simp [RepK.length t]
theorem bW (hm : X.mg "len" = none) (h : SE X b G m1 e f) (hK : X.K = b.C.K := by rfl) (hg : Gl X "len" := by rfl) (he : starEach [e] X.env = (false, eval e X.env) :: starEach [] X.env := by rfl) : SE X b G .val (.Call (.Name "len" p) [e] [] pos) (b1 lenV f) := by
 refine u9 (CallR.or (CallR.or yR yS) Fi) (fun Ow H v1 p1 p Q hn r1 e k => ?_) hm PySem.boot_len h hg (by decide) (by decide) he
 rw [hK]
 cases p1 <;> simp only [lenV] at e
 case lst xs => cases e; obtain ⟨a, vs, rfl, ha, ra⟩ := r1.lst; exact .inl (.inl ⟨a, vs, rfl, .inl (SqL.of ha), by rw [ra.length]; exact k _ H (Same.refl _) (.int _)⟩)
 case frz xs => cases e; obtain ⟨a, vs, rfl, ha, ra⟩ := r1.frz; exact .inl (.inl ⟨a, vs, rfl, .inl ha, by rw [ra.length]; exact k _ H (Same.refl _) (.int _)⟩)
 case tup xs => cases e; obtain ⟨a, vs, rfl, ha, ra⟩ := r1.tup; exact .inl (.inl ⟨a, vs, rfl, .inr (SqT.of ha), by rw [ra.length]; exact k _ H (Same.refl _) (.int _)⟩)
 case ktp xs => cases e; obtain ⟨a, vs, rfl, ha, ra⟩ := r1.ktp; exact .inl (.inl ⟨a, vs, rfl, .inr ha, by rw [ra.length]; exact k _ H (Same.refl _) (.int _)⟩)
 case str x =>
  split at e
  ·rename_i hx
   cases e
   rw [r1.str]
   exact .inl (.inr ⟨x, rfl, jJ hx, k _ H (Same.refl _) (.int _)⟩)
  ·cases e
 case dK kvs => cases e; obtain ⟨a, vs, rfl, ha, ra⟩ := r1.dK; exact .inr ⟨a, vs, rfl, ha, by rw [ra.length]; exact k _ H (Same.refl _) (.int _)⟩
 all_goals cases e
def yw : Key -> PV
 | .inl i => .int i
 | .inr x => .str x
@[simp] def lD : PV -> Option PV
 | .lst xs => some (.lst xs)
 | .frz xs => some (.lst xs)
 | .tup xs => some (.lst xs)
 | .ktp xs => some (.lst xs)
 | .dK kvs => some (.lst (kvs.map fun kv => yw kv.1))
 | _ => none
theorem Km {C : MC} {A : Addr -> Prop} {H : Hp} (k : Key) : Rep C A H (kV k) (yw k) := by cases k with | inl i => exact .int i | inr x => exact .str x
theorem RepK.keys {C : MC} {A : Addr -> Prop} {H : Hp} : ∀ {vs : List (Key × V)} {ps : List (Key × PV)}, RepK C A H vs ps -> Reps C A H (vs.map fun kv => kV kv.1) (ps.map fun kv => yw kv.1)
 | _, _, .nil => .nil
 | _, _, .cons (k := k) _ t => .cons (Km k) (RepK.keys t)
theorem v4 (hm : X.mg "list" = none) (h : SE X b G m1 e f) (hcm : X.calm = true := by rfl) (hK : X.K = b.C.K := by rfl) (hg : Gl X "list" := by rfl) (he : starEach [e] X.env = (false, eval e X.env) :: starEach [] X.env := by rfl) : SE X b G .own (.Call (.Name "list" p) [e] [] pos) (b1 lD f) := by
 refine Br (CallR.or yU (vW hcm)) (fun Ow H v1 p1 p Q hn r1 e k => ?_) hm PyProof.Rows.boot_list h hg (by decide) (by decide) he
 rw [hK]
 cases p1 <;> simp only [lD] at e <;> cases e
 case lst xs => obtain ⟨a, vs, rfl, ha, ra⟩ := r1.lst; exact .inl ⟨a, vs, rfl, .inl (SqL.of ha), fun l hl => k _ _ (bw hl _) (ir hl ra)⟩
 case frz xs => obtain ⟨a, vs, rfl, ha, ra⟩ := r1.frz; exact .inl ⟨a, vs, rfl, .inl ha, fun l hl => k _ _ (bw hl _) (ir hl ra)⟩
 case tup xs => obtain ⟨a, vs, rfl, ha, ra⟩ := r1.tup; exact .inl ⟨a, vs, rfl, .inr (SqT.of ha), fun l hl => k _ _ (bw hl _) (ir hl ra)⟩
 case ktp xs => obtain ⟨a, vs, rfl, ha, ra⟩ := r1.ktp; exact .inl ⟨a, vs, rfl, .inr ha, fun l hl => k _ _ (bw hl _) (ir hl ra)⟩
 case dK kvs => obtain ⟨a, vs, rfl, ha, ra⟩ := r1.dK; exact .inr ⟨a, vs, rfl, ha, fun l hl => k _ _ (bw hl _) (ir hl ra.keys)⟩
@[simp] def bools : List PV -> Option (List Bool)
 | [] => some []
 | .bl c :: r => (bools r).map (c :: ·)
 | _ :: _ => none
theorem Reps.bools {C : MC} {A : Addr -> Prop} {H : Hp} : ∀ {vs : List V} {ps : List PV} {bs : List Bool}, Reps C A H vs ps -> bools ps = some bs -> vs = bs.map V.bl
 | _, _, _, .nil, e => by cases e; rfl
 | _, _, _, .cons (p := p) (ps := ps) h t, e => by
  cases p <;> simp only [MR.bools] at e <;> first | cases e | skip
  rename_i c
  cases q : MR.bools ps with
  | none => rw [q] at e; cases e
  | some bs => rw [q] at e; cases e; cases h; rw [Reps.bools t q]; rfl
@[simp] def kY : PV -> Option PV
 | .lst xs => (bools xs).map fun bs => .bl (bs.all id)
 | _ => none
@[simp] def Hv : PV -> Option PV
 | .lst xs => (bools xs).map fun bs => .bl (bs.any id)
 | _ => none
theorem jY (hm : X.mg "all" = none) (h : SE X b G m1 e f) (hcm : X.calm = true := by rfl) (hg : Gl X "all" := by rfl) (he : starEach [e] X.env = (false, eval e X.env) :: starEach [] X.env := by rfl) : SE X b G .val (.Call (.Name "all" p) [e] [] pos) (b1 kY f) := by
 refine u9 (Hn hcm) (fun Ow H v1 p1 p Q hn r1 e k => ?_) hm PyProof.Rows.boot_all h hg (by decide) (by decide) he
 cases p1 <;> simp only [kY] at e <;> first | cases e | skip
 rename_i xs
 cases q : bools xs with
 | none => rw [q] at e; cases e
 | some bs =>
  rw [q] at e
  cases e
  obtain ⟨a, vs, rfl, ha, ra⟩ := r1.lst
  have hv := ra.bools q
  subst hv
  exact ⟨a, bs, rfl, SqL.of ha, k _ H (Same.refl _) (.bl _)⟩
theorem Oh (hm : X.mg "any" = none) (h : SE X b G m1 e f) (hcm : X.calm = true := by rfl) (hg : Gl X "any" := by rfl) (he : starEach [e] X.env = (false, eval e X.env) :: starEach [] X.env := by rfl) : SE X b G .val (.Call (.Name "any" p) [e] [] pos) (b1 Hv f) := by
 refine u9 (Ho hcm) (fun Ow H v1 p1 p Q hn r1 e k => ?_) hm PyProof.Rows.boot_any h hg (by decide) (by decide) he
 cases p1 <;> simp only [Hv] at e <;> first | cases e | skip
 rename_i xs
 cases q : bools xs with
 | none => rw [q] at e; cases e
 | some bs =>
  rw [q] at e
  cases e
  obtain ⟨a, vs, rfl, ha, ra⟩ := r1.lst
  have hv := ra.bools q
  subst hv
  exact ⟨a, bs, rfl, SqL.of ha, k _ H (Same.refl _) (.bl _)⟩
@[simp] def strsP : List PV -> Option (List Str)
 | [] => some []
 | .str c :: r => (strsP r).map (c :: ·)
 | _ :: _ => none
theorem Reps.strsP {C : MC} {A : Addr -> Prop} {H : Hp} : ∀ {vs : List V} {ps : List PV} {bs : List Str}, Reps C A H vs ps -> strsP ps = some bs -> vs = bs.map V.str
 | _, _, _, .nil, e => by cases e; rfl
 | _, _, _, .cons (p := p) (ps := ps) h t, e => by
  cases p <;> simp only [MR.strsP] at e <;> first | cases e | skip
  rename_i c
  cases q : MR.strsP ps with
  | none => rw [q] at e; cases e
  | some bs => rw [q] at e; cases e; cases h; rw [Reps.strsP t q]; rfl
@[simp] def u_ : PV -> PV -> Option PV
 | .str z, .lst xs => (strsP xs).bind fun zs => if JoinOk z zs = true then some (.str (Str.join z zs)) else none
 | _, _ => none
@[simp] def rE : PV -> PV -> Option PV
 | .str z, .str y => if (y.length == 0) = false /\ z.length <= 1000000 then some (.lst ((Txt.split z y).map .str)) else none
 | _, _ => none
theorem JC {id : String} {name : Str} {apos cpos : Pos} {o : Expr} {fo : Env -> Option PV} {r : V -> List V -> Hp -> VK -> Prop} {g : PV -> PV -> Option PV} (slot : Slot "str" name id) (hty : typeOf (.builtin id) = pure (.type "method_descriptor")) (pa : PlainAttrs "str") (hm : MtR X id r)
  (hr : Op2 b m (fun x y H Q => (∃ z, x = .str z) -> r x [y] H Q) g) (hgs : ∀ x y p, g x y = some p -> ∃ z, x = .str z) (ho : SE X b G m1 o fo) (h : SE X b G m2 e f)
  (hbase : attributeBase o name X.env (eval o X.env) = eval o X.env := by rfl)
  (hfew : ((backTo cpos (starEach [e] X.env)).all (fun x => !x.1) && (backToKw cpos (keywordEach [] X.env)).all (fun x => x.1.isSome)
   && decide ([e].length + ([] : List Keyword).length + (if ([] : List Keyword).isEmpty then 0 else 1) < 30)) = true := by rfl)
  (hline : (apos.endLine == cpos.line) = true := by rfl) (hs : starEach [e] X.env = (false, eval e X.env) :: starEach [] X.env := by rfl) :
  SE X b G m (.Call (.Attribute o name apos) [e] [] cpos) (b2 g fo f) := by
 refine PE.imp (Jx pa slot hty hm ho.bor (dC h.bor h_ hs) hbase hfew hline hs rfl) fun σ H Q h => ?_
 obtain ⟨Ow, env, p, E, hf, k⟩ := h
 unfold b2 at hf
 cases q1 : fo env with
 | none => rw [q1] at hf; cases hf
 | some p1 =>
  rw [q1] at hf
  cases q2 : f env with
  | none => rw [q2] at hf; cases hf
  | some p2 =>
   rw [q2] at hf
   simp only [Option.bind_some] at hf
   obtain ⟨z, rfl⟩ := hgs _ _ _ hf
   refine ⟨Ow, env, _, E, q1, fun v1 H1 s1 r1 => ?_⟩
   have r1' : RepB b.C (Bs b Ow) H1 v1 (.str z) := r1
   have ev := r1'.str
   subst ev
   refine ⟨rfl, Ow, env, p2, E.up s1, q2, fun v2 H2 s2 r2 => ?_⟩
   exact hr Ow H2 _ v2 _ p2 p Q (fun a => (E.up (s1.trans s2)).fresh) (RepB.ex (.of_same s2) s2 r1') r2 hf (fun v H' s r => k v H' (s1.trans (s2.trans s)) (r.down (s1.trans s2))) ⟨z, rfl⟩
theorem Ko : Op2 b .val (fun x y H Q => (∃ z, x = .str z) -> rJoin b.C.K x [y] H Q) u_ := by
 intro Ow H v1 v2 p1 p2 p Q hn r1 r2 e k _
 unfold u_ at e
 split at e
 ·rename_i z xs
  cases q : strsP xs with
  | none => rw [q] at e; cases e
  | some zs =>
   rw [q] at e
   simp only [Option.bind_some] at e
   split at e
   ·rename_i hj
    cases e
    obtain ⟨a, vs, rfl, ha, ra⟩ := r2.lst
    have hv := ra.strsP q
    subst hv
    exact ⟨z, a, zs, r1.str, rfl, SqL.of ha, hj, k _ H (Same.refl _) (.str _)⟩
   ·cases e
 ·cases e
theorem Hw : Op2 b .own (fun x y H Q => (∃ z, x = .str z) -> Fj x [y] H Q) rE := by
 intro Ow H v1 v2 p1 p2 p Q hn r1 r2 e k _
 unfold rE at e
 split at e
 ·rename_i z y
  split at e
  ·rename_i hj
   cases e
   refine ⟨z, y, r1.str, by rw [r2.str], hj.1, hj.2, fun l hl => k _ _ (bw hl _) (ir hl (vX _ _ (fun x => .str x) _))⟩
  ·cases e
 ·cases e
theorem Kq {apos cpos : Pos} {o : Expr} {fo : Env -> Option PV} (ho : SE X b G m1 o fo) (h : SE X b G m2 e f) (hK : X.K = b.C.K := by rfl) (hbase : attributeBase o "join" X.env (eval o X.env) = eval o X.env := by rfl)
  (hfew : ((backTo cpos (starEach [e] X.env)).all (fun x => !x.1) && (backToKw cpos (keywordEach [] X.env)).all (fun x => x.1.isSome)
   && decide ([e].length + ([] : List Keyword).length + (if ([] : List Keyword).isEmpty then 0 else 1) < 30)) = true := by rfl)
  (hline : (apos.endLine == cpos.line) = true := by rfl) (hs : starEach [e] X.env = (false, eval e X.env) :: starEach [] X.env := by rfl) :
  SE X b G .val (.Call (.Attribute o "join" apos) [e] [] cpos) (b2 u_ fo f) :=
 JC PySem.F.slot_str_join PySem.F.type_str_join PySem.F.plainAttrs_str (r := rJoin b.C.K) (by rw [← hK]; exact Kf) Ko (fun x y p e => by
  unfold u_ at e
  split at e
  ·exact ⟨_, rfl⟩
  ·cases e) ho h hbase hfew hline hs
theorem Hx {apos cpos : Pos} {o : Expr} {fo : Env -> Option PV} (ho : SE X b G m1 o fo) (h : SE X b G m2 e f) (hbase : attributeBase o "split" X.env (eval o X.env) = eval o X.env := by rfl)
  (hfew : ((backTo cpos (starEach [e] X.env)).all (fun x => !x.1) && (backToKw cpos (keywordEach [] X.env)).all (fun x => x.1.isSome)
   && decide ([e].length + ([] : List Keyword).length + (if ([] : List Keyword).isEmpty then 0 else 1) < 30)) = true := by rfl)
  (hline : (apos.endLine == cpos.line) = true := by rfl) (hs : starEach [e] X.env = (false, eval e X.env) :: starEach [] X.env := by rfl) :
  SE X b G .own (.Call (.Attribute o "split" apos) [e] [] cpos) (b2 rE fo f) :=
 JC PySem.F.slot_str_split PySem.F.type_str_split PySem.F.plainAttrs_str Hm Hw (fun x y p e => by
  unfold rE at e
  split at e
  ·exact ⟨_, rfl⟩
  ·cases e) ho h hbase hfew hline hs
def Ret (C : MC) (A : Addr -> Prop) (H : Hp) (ro : Bool) (H' : Hp) (v : V) (p : PV) : Prop := match ro with
 | true => ∃ a, v = .ref a /\ H a = none /\ Top C (fun c => (A c \/ H c = none) /\ c ≠ a) H' a p
 | false => Rep C (fun c => A c \/ H c = none) H' v p
def spM (C : MC) (m : List PV -> Option PV) (ro : Bool) : Sp := fun vs H Q _ => ∃ A ps p, Reps C A H vs ps /\ m ps = some p /\ ∀ v H', Same H H' -> Ret C A H ro H' v p -> Q v H'
def Hy : Bool -> Md
 | true => .own
 | false => .val
theorem Ret.res {Ow : Addr -> Prop} {σ : St} {env : Env} {H H1 H' : Hp} {ro : Bool} {v : V} {q : PV} (E : ER b Ow G σ env H) (s : Same H H1) (r : Ret b.C (Bs b Ow) H1 ro H' v q) : Res b Ow H H' (Hy ro) v q := by
 cases ro with
 | true =>
  obtain ⟨a, rfl, h, t⟩ := r
  exact ⟨a, rfl, s.free h, t.ex (dG fun c o _ z => ⟨z.1.elim id fun w => (E.up s).fresh w, z.2⟩) fun o z => z⟩
 | false => exact Rep.ex (dG fun c o _ z => z.elim id fun w => (E.up s).fresh w) r
theorem Bt {k j : Nat} {x : Str} {ps : List Str} {mi : List PV -> Option PV} {ro : Bool} (c : Cal X.prog X.w X.K X.mg X.base k x ps (spM b.C mi ro)) (hr : Room j X.A) (ha : SA X b G false (e :: es) g) (hle : k <= j := by decide) (hg : Gl X x := by rfl)
  (hdb : (x == ("__debug__" : Str)) = false := by decide) (he : starEach (e :: es) X.env = (false, eval e X.env) :: starEach es X.env := by rfl) (hpl : (backTo pos (starEach es X.env)).any (·.1) = false := by rfl) :
  SE X b G (Hy ro) (.Call (.Name x p) (e :: es) [] pos) (aK mi g) := by
 refine PE.imp (Fl c hr ha hle hg hdb he hpl) fun σ H Q ⟨Ow, env, q, E, hf, kk⟩ => ?_
 unfold aK at hf
 cases q1 : g env with
 | none => rw [q1] at hf; cases hf
 | some qs =>
  rw [q1] at hf
  refine ⟨Ow, env, qs, E, q1, fun vs H1 s1 r => ?_⟩
  dsimp only
  rw [List.append_nil]
  exact ⟨Bs b Ow, qs, q, tG r, hf, fun v H' s' rr => kk v H' (s1.trans s') (Ret.res E s1 rr)⟩
mutual
def noL : PV -> Bool
 | .lst _ => false
 | .tup xs => v7 xs
 | .ktp xs => v7 xs
 | .frz xs => v7 xs
 | .dK kvs => Dg kvs
 | .dT kvs => Dh kvs
 | .obj _ fs => zg fs
 | _ => true
def v7 : List PV -> Bool
 | [] => true
 | x :: xs => noL x && v7 xs
def Dg : List (Key × PV) -> Bool
 | [] => true
 | x :: xs => noL x.2 && Dg xs
def Dh : List (List Key × PV) -> Bool
 | [] => true
 | x :: xs => noL x.2 && Dh xs
def zg : List (Str × PV) -> Bool
 | [] => true
 | x :: xs => noL x.2 && zg xs
end
def NL (A A' : Addr -> Prop) (H : Hp) : Prop := ∀ a o, H a = some o -> A a -> A' a \/ ∃ vs, o = .lst vs
mutual
theorem Rep.nl {C : MC} {A A' : Addr -> Prop} {H : Hp} (e : NL A A' H) : ∀ {v : V} {p : PV}, Rep C A H v p -> noL p = true -> Rep C A' H v p
 | _, _, .non, _ => .non
 | _, _, .bl b, _ => .bl b
 | _, _, .int i, _ => .int i
 | _, _, .str x, _ => .str x
 | _, _, .lst h q r, n => by simp only [noL] at n; cases n
 | _, _, .lstF h r, n => .lstF h (Reps.nl e r (by simpa only [noL] using n))
 | _, _, .lstK h r, n => .lstK h (Reps.nl e r (by simpa only [noL] using n))
 | _, _, .tup h r, n => .tup h (Reps.nl e r (by simpa only [noL] using n))
 | _, _, .tupK h r, n => .tupK h (Reps.nl e r (by simpa only [noL] using n))
 | _, _, .dK h q r, n => .dK h ((e _ _ h q).elim id fun ⟨_, z⟩ => nomatch z) (RepK.nl e r (by simpa only [noL] using n))
 | _, _, .dT h q r, n => .dT h ((e _ _ h q).elim id fun ⟨_, z⟩ => nomatch z) (RepT.nl e r (by simpa only [noL] using n))
 | _, _, .obj h q r, n => .obj h ((e _ _ h q).elim id fun ⟨_, z⟩ => nomatch z) (RepF.nl e r (by simpa only [noL] using n))
theorem Reps.nl {C : MC} {A A' : Addr -> Prop} {H : Hp} (e : NL A A' H) : ∀ {v : List V} {p : List PV}, Reps C A H v p -> v7 p = true -> Reps C A' H v p
 | _, _, .nil, _ => .nil
 | _, _, .cons h t, n => by
  simp only [v7, Bool.and_eq_true] at n
  exact .cons (Rep.nl e h n.1) (Reps.nl e t n.2)
theorem RepK.nl {C : MC} {A A' : Addr -> Prop} {H : Hp} (e : NL A A' H) : ∀ {v : List (Key × V)} {p : List (Key × PV)}, RepK C A H v p -> Dg p = true -> RepK C A' H v p
 | _, _, .nil, _ => .nil
 | _, _, .cons h t, n => by
  simp only [Dg, Bool.and_eq_true] at n
  exact .cons (Rep.nl e h n.1) (RepK.nl e t n.2)
theorem RepT.nl {C : MC} {A A' : Addr -> Prop} {H : Hp} (e : NL A A' H) : ∀ {v : List (List Key × V)} {p : List (List Key × PV)}, RepT C A H v p -> Dh p = true -> RepT C A' H v p
 | _, _, .nil, _ => .nil
 | _, _, .cons h t, n => by
  simp only [Dh, Bool.and_eq_true] at n
  exact .cons (Rep.nl e h n.1) (RepT.nl e t n.2)
theorem RepF.nl {C : MC} {A A' : Addr -> Prop} {H : Hp} (e : NL A A' H) : ∀ {v : List (Str × V)} {p : List (Str × PV)}, RepF C A H v p -> zg p = true -> RepF C A' H v p
 | _, _, .nil, _ => .nil
 | _, _, .cons h t, n => by
  simp only [zg, Bool.and_eq_true] at n
  exact .cons (Rep.nl e h n.1) (RepF.nl e t n.2)
end
def oH (c : Nat) (x : Str) (f : Env -> Option PV) (env : Env) : Option PV := (f env).bind fun p => match p with
 | .obj c' fs => if c' = c then fs.lookup x else none
 | _ => none
@[simp] theorem Sy (c : Nat) (x : Str) (f : Env -> Option PV) (env : Env) : oH c x f env = ((f env).bind fun p => match p with
 | .obj c' fs => if c' = c then fs.lookup x else none
 | _ => none) := id rfl
theorem mV {c : Nat} {x : Str} (hc : Cls b.C.K (b.C.cl c)) (hn : NoAttr b.C.K (b.C.cl c) x) (h : SE X b G m e f) (hb : attributeBase e x X.env (eval e X.env) = eval e X.env := by rfl) (hK : X.K = b.C.K := by rfl) : SE X b G .val (.Attribute e x pos) (oH c x f) :=
 PE.imp (M5 h.bor hb) fun σ H Q ⟨Ow, env, p, E, hf, k⟩ => by
  unfold oH at hf
  cases q1 : f env with
  | none => rw [q1] at hf; cases hf
  | some p1 =>
   rw [q1] at hf
   refine ⟨Ow, env, p1, E, q1, fun v H1 s1 r1 => ?_⟩
   have r1' : RepB b.C (Bs b Ow) H1 v p1 := r1
   cases p1 <;> simp only [Option.bind_some] at hf <;> first | cases hf | skip
   rename_i c' fs
   split at hf
   ·rename_i hcc
    subst hcc
    obtain ⟨a, dx, fv, rfl, ha, ra⟩ := r1'.obj
    obtain ⟨v', hv, rv⟩ := ra.look hf
    rw [hK]
    exact ⟨a, _, dx, fv, v', rfl, ha, hc, hn, hv, k v' H1 s1 rv⟩
   ·cases hf
structure CalM (P : Program) (w : World) (K : PySem.W.Frag) (mg : Str -> Option Value) (base : Heap) (C : Addr) (k : Nat) (x : Str) (ps : List Str) (sp : Sp) : Prop where
 ex : ∃ f fd, FnOk P w K mg base CX0 k f fd ps sp /\ Binds K fd ps [] /\ Meth K C x f
def nQ (c : Nat) (x : Str) (mi : List PV -> Option PV) (f : Env -> Option PV) (g : Env -> Option (List PV)) (env : Env) : Option PV := (f env).bind fun p => match p with
 | .obj c' fs => if c' = c /\ fs.lookup x = none then (g env).bind fun ps => mi (p :: ps) else none
 | _ => none
@[simp] theorem R4 (c : Nat) (x : Str) (mi : List PV -> Option PV) (f : Env -> Option PV) (g : Env -> Option (List PV)) (env : Env) : nQ c x mi f g env = ((f env).bind fun p => match p with
 | .obj c' fs => if c' = c /\ fs.lookup x = none then (g env).bind fun ps => mi (p :: ps) else none
 | _ => none) := id rfl
theorem Kr {c k j : Nat} {o : Expr} {fo : Env -> Option PV} {x : Str} {ps : List Str} {mi : List PV -> Option PV} {ro : Bool} {apos : Pos} (cM : CalM X.prog X.w X.K X.mg X.base (b.C.cl c) k x ps (spM b.C mi ro)) (hc : Cls X.K (b.C.cl c)) (hr : Room j X.A) (ho : SE X b G .val o fo) (ha : SA X b G false (e :: es) g) (hle : k <= j := by decide)
  (hst : starEach (e :: es) X.env = (false, eval e X.env) :: starEach es X.env := by rfl) (hpl : (backTo pos (starEach es X.env)).any (·.1) = false := by rfl) {pl : Sem Bool}
  (ht : eval (.Call (.Attribute o x apos) (e :: es) [] pos) X.env = (do
   let ov ← eval o X.env
   standAt apos.atName
   let (f, first) ← holding [ov] (getMethod ov x pl)
   callWith pos f first (backTo pos (starEach (e :: es) X.env)) (backToKw pos (keywordEach [] X.env))) := by rfl) :
  SE X b G (Hy ro) (.Call (.Attribute o x apos) (e :: es) [] pos) (nQ c x mi fo g) := by
 obtain ⟨f, fd, F, hb, hM⟩ := cM.ex
 refine PE.imp (J1 (pl := pl) ho hc hM F (hr.mono hle) hb .nil CN ha hst hpl ht) fun σ H Q ⟨Ow, env, q, E, hf, kk⟩ => ?_
 unfold nQ at hf
 cases q1 : fo env with
 | none => rw [q1] at hf; cases hf
 | some p1 =>
  rw [q1] at hf
  refine ⟨Ow, env, p1, E, q1, fun v H1 s1 r1 => ?_⟩
  have r1v : Rep b.C (Bs b Ow) H1 v p1 := r1
  cases p1 <;> simp only [Option.bind_some] at hf <;> first | cases hf | skip
  rename_i c' fs
  split at hf
  ·rename_i hcc
   obtain ⟨rfl, hno⟩ := hcc
   cases q2 : g env with
   | none => rw [q2] at hf; cases hf
   | some qs =>
    rw [q2] at hf
    obtain ⟨a, dx, fv, rfl, hha, ra⟩ := RepB.obj (.inl r1v)
    refine ⟨a, dx, fv, rfl, hha, ra.look0 hno, Ow, env, qs, E.up s1, q2, fun vs H2 s2 r2 => ?_⟩
    dsimp only
    rw [List.append_nil]
    exact ⟨Bs b Ow, _ :: qs, q, .cons (r1v.ex (.of_same s2)) (tG r2), hf, fun v' H' s' rr => kk v' H' (s1.trans (s2.trans s')) (Ret.res E (s1.trans s2) rr)⟩
  ·cases hf
theorem aC {k j : Nat} {x : Str} {ps : List Str} {mi : List PV -> Option PV} (c : Cal X.prog X.w X.K X.mg X.base k x ps (spM b.C mi false)) (hr : Room j X.A) (ha : SA X b G false (e :: es) g) (hle : k <= j := by decide) (hg : Gl X x := by rfl)
  (hdb : (x == ("__debug__" : Str)) = false := by decide) (he : starEach (e :: es) X.env = (false, eval e X.env) :: starEach es X.env := by rfl) (hpl : (backTo pos (starEach es X.env)).any (·.1) = false := by rfl) :
  SE X b G .val (.Call (.Name x p) (e :: es) [] pos) (aK mi g) := Bt c hr ha hle hg hdb he hpl
theorem Hz {k j : Nat} {x : Str} {ps : List Str} {mi : List PV -> Option PV} (c : Cal X.prog X.w X.K X.mg X.base k x ps (spM b.C mi true)) (hr : Room j X.A) (ha : SA X b G false (e :: es) g) (hle : k <= j := by decide) (hg : Gl X x := by rfl)
  (hdb : (x == ("__debug__" : Str)) = false := by decide) (he : starEach (e :: es) X.env = (false, eval e X.env) :: starEach es X.env := by rfl) (hpl : (backTo pos (starEach es X.env)).any (·.1) = false := by rfl) :
  SE X b G .own (.Call (.Name x p) (e :: es) [] pos) (aK mi g) := Bt c hr ha hle hg hdb he hpl
theorem pZ {c k j : Nat} {o : Expr} {fo : Env -> Option PV} {x : Str} {ps : List Str} {mi : List PV -> Option PV} {apos : Pos} (cM : CalM X.prog X.w X.K X.mg X.base (b.C.cl c) k x ps (spM b.C mi false)) (hc : Cls X.K (b.C.cl c)) (hr : Room j X.A) (ho : SE X b G .val o fo) (ha : SA X b G false (e :: es) g) (hle : k <= j := by decide)
  (hst : starEach (e :: es) X.env = (false, eval e X.env) :: starEach es X.env := by rfl) (hpl : (backTo pos (starEach es X.env)).any (·.1) = false := by rfl) {pl : Sem Bool}
  (ht : eval (.Call (.Attribute o x apos) (e :: es) [] pos) X.env = (do
   let ov ← eval o X.env
   standAt apos.atName
   let (f, first) ← holding [ov] (getMethod ov x pl)
   callWith pos f first (backTo pos (starEach (e :: es) X.env)) (backToKw pos (keywordEach [] X.env))) := by rfl) :
  SE X b G .val (.Call (.Attribute o x apos) (e :: es) [] pos) (nQ c x mi fo g) := Kr (pl := pl) cM hc hr ho ha hle hst hpl ht
end
end MR
namespace MR
open PySem L2
section
variable {b : BX} {Ow : Addr -> Prop} {G : List Nat} {σ : St} {env : Env} {H H' : Hp}
theorem ER.set (E : ER b Ow G σ env H) {i : Nat} {v : V} {p : PV} (hi : i ∉ G) (r : Rep b.C (Bs b Ow) H v p) (hx : b.fx i = none) : ER b Ow G (σ.set i (some v)) (env.set i (some p)) H := by
 refine ⟨by rw [List.length_set, List.length_set]; exact E.len, E.same, E.live, E.new, fun j q e n => ?_, fun j q e n => ?_, fun j k a q q' e1 n1 s1 e2 n2 s2 => ?_, fun k w hw => ?_⟩
 ·by_cases hj : i = j
  ·subst hj
   rw [List.getElem?_set] at e
   split at e
   ·split at e
    ·rename_i hl
     have := Option.some.inj (Option.some.inj e)
     subst this
     exact ⟨v, by rw [List.getElem?_set_self (by rw [E.len]; exact hl)], r⟩
    ·cases e
   ·exact absurd rfl ‹_›
  ·rw [List.getElem?_set_ne hj] at e ⊢
   exact E.val j q e n
 ·have hj : i ≠ j := fun z => hi (z ▸ n)
  rw [List.getElem?_set_ne hj] at e ⊢
  exact E.own j q e n
 ·have hj : i ≠ j := fun z => hi (z ▸ n1)
  have hk : i ≠ k := fun z => hi (z ▸ n2)
  rw [List.getElem?_set_ne hj] at e1 s1
  rw [List.getElem?_set_ne hk] at e2 s2
  exact E.sep j k a q q' e1 n1 s1 e2 n2 s2
 ·by_cases hk : i = k
  ·subst hk; rw [hx] at hw; cases hw
  ·rw [List.getElem?_set_ne hk]; exact E.fix k w hw
theorem ER.setO (E : ER b Ow G σ env H) {i : Nat} {a : Addr} {p : PV} {H0 : Hp} {G' : List Nat} (hG : ∀ j, j ∈ G' ↔ (j ∈ G \/ j = i)) (s0 : Same H0 H) (hn : H0 a = none) (hE0 : ER b Ow G σ env H0) (t : Top b.C (fun c => Bs b Ow c /\ c ≠ a) H a p) (hx : b.fx i = none) :
  ER b (fun c => Ow c \/ c = a) G' (σ.set i (some (.ref a))) (env.set i (some p)) H /\ Ex (Bs b Ow) H0 (Bs b fun c => Ow c \/ c = a) H := by
 have hx0 : Ex (Bs b Ow) H0 (Bs b fun c => Ow c \/ c = a) H := fun c o h => ⟨fun q => ⟨s0 _ _ h, fun z => z.elim q.1 (aR h hn), q.2⟩, fun _ => s0 _ _ h⟩
 have ht : Top b.C (Bs b fun c => Ow c \/ c = a) H a p := t.ex (dG fun c o _ q => ⟨fun z => z.elim q.1.1 q.2, q.1.2⟩) fun o z => z
 refine ⟨⟨by rw [List.length_set, List.length_set]; exact E.len, E.same, fun c w => w.elim (E.live c) fun z => by subst z; obtain ⟨o, h, _⟩ := t.live; exact ⟨o, h⟩, fun c w => w.elim (E.new c) fun z => by subst z; exact hE0.same.free hn, fun j q e n => ?_, fun j q e n => ?_, fun j k c q q' e1 n1 s1 e2 n2 s2 => ?_, fun k w hw => ?_⟩, hx0⟩
 ·have hj : i ≠ j := fun z => n ((hG j).mpr (.inr z.symm))
  rw [List.getElem?_set_ne hj] at e ⊢
  obtain ⟨v, h1, h2⟩ := hE0.val j q e fun z => n ((hG j).mpr (.inl z))
  exact ⟨v, h1, h2.ex hx0⟩
 ·by_cases hj : i = j
  ·subst hj
   rw [List.getElem?_set] at e
   split at e
   ·split at e
    ·rename_i hl
     have := Option.some.inj (Option.some.inj e)
     subst this
     exact ⟨a, by rw [List.getElem?_set_self (by rw [E.len]; exact hl)], .inr rfl, ht⟩
    ·cases e
   ·exact absurd rfl ‹_›
  ·rw [List.getElem?_set_ne hj] at e ⊢
   have nG : j ∈ G := ((hG j).mp n).elim id fun z => absurd z.symm hj
   obtain ⟨c, h1, h2, h3⟩ := hE0.own j q e nG
   exact ⟨c, h1, .inl h2, h3.ex hx0 fun o z => s0 _ _ z⟩
 ·have old : ∀ {j : Nat} {q : PV}, i ≠ j -> j ∈ G' -> env[j]? = some (some q) -> σ[j]? = some (some (.ref c)) -> c ≠ a := fun {j q} hj n e s => by
   have nG : j ∈ G := ((hG j).mp n).elim id fun z => absurd z.symm hj
   obtain ⟨c', h1, h2, h3⟩ := hE0.own j q e nG
   rw [s] at h1
   cases h1
   obtain ⟨o, h4, _⟩ := h3.live
   exact aR h4 hn
  by_cases hj : i = j
  ·by_cases hk : i = k
   ·exact hj.symm.trans hk
   ·subst hj
    rw [List.getElem?_set_ne hk] at e2 s2
    have hl : i < σ.length := by
     by_cases hl : i < σ.length
     ·exact hl
     ·rw [List.getElem?_eq_none (by rw [List.length_set]; omega)] at s1; cases s1
    rw [List.getElem?_set_self hl] at s1
    cases s1
    exact absurd rfl (old hk n2 e2 s2)
  ·by_cases hk : i = k
   ·subst hk
    rw [List.getElem?_set_ne hj] at e1 s1
    have hl : i < σ.length := by
     by_cases hl : i < σ.length
     ·exact hl
     ·rw [List.getElem?_eq_none (by rw [List.length_set]; omega)] at s2; cases s2
    rw [List.getElem?_set_self hl] at s2
    cases s2
    exact absurd rfl (old hj n1 e1 s1)
   ·rw [List.getElem?_set_ne hj] at e1 s1
    rw [List.getElem?_set_ne hk] at e2 s2
    have g1 : j ∈ G := ((hG j).mp n1).elim id fun z => absurd z.symm hj
    have g2 : k ∈ G := ((hG k).mp n2).elim id fun z => absurd z.symm hk
    exact E.sep j k c q q' e1 g1 s1 e2 g2 s2
 ·by_cases hk : i = k
  ·subst hk; rw [hx] at hw; cases hw
  ·rw [List.getElem?_set_ne hk]; exact E.fix k w hw
theorem ER.write (E : ER b Ow G σ env H) {i : Nat} {a : Addr} {p p' : PV} {o' : HO} (hi : i ∈ G) (hσ : σ[i]? = some (some (.ref a))) (he : env[i]? = some (some p)) (hw : Ow a) (t : Top b.C (Bs b Ow) H a p) (t' : Top b.C (Bs b Ow) (upd H a o') a p') :
  ER b Ow G σ (env.set i (some p')) (upd H a o') /\ Ex (Bs b Ow) H (Bs b Ow) (upd H a o') := by
 obtain ⟨o, ho, hm⟩ := t.live
 have hx : Ex (Bs b Ow) H (Bs b Ow) (upd H a o') := fun c u h => ⟨fun q => ⟨by rw [aO (fun z : c = a => q.1 (z ▸ hw))]; exact h, q⟩, fun m => by
  have hc : c ≠ a := fun z => by subst z; rw [ho] at h; cases h; rw [hm] at m; cases m
  rw [aO hc]; exact h⟩
 refine ⟨⟨by rw [List.length_set]; exact E.len, fun c u h => ?_, fun c w => ?_, E.new, fun j q e n => ?_, fun j q e n => ?_, fun j k c q q' e1 n1 s1 e2 n2 s2 => ?_, E.fix⟩, hx⟩
 ·have hc : c ≠ a := aR h (E.new a hw)
  rw [aO hc]; exact E.same c u h
 ·by_cases hc : c = a
  ·subst hc; exact ⟨o', bF⟩
  ·obtain ⟨u, h⟩ := E.live c w
   exact ⟨u, by rw [aO hc]; exact h⟩
 ·have hj : i ≠ j := fun z => n (z ▸ hi)
  rw [List.getElem?_set_ne hj] at e
  obtain ⟨v, h1, h2⟩ := E.val j q e n
  exact ⟨v, h1, h2.ex hx⟩
 ·by_cases hj : i = j
  ·subst hj
   rw [List.getElem?_set] at e
   split at e
   ·split at e
    ·have := Option.some.inj (Option.some.inj e)
     subst this
     exact ⟨a, hσ, hw, t'⟩
    ·cases e
   ·exact absurd rfl ‹_›
  ·rw [List.getElem?_set_ne hj] at e
   obtain ⟨c, h1, h2, h3⟩ := E.own j q e n
   have hc : c ≠ a := fun z => by subst z; exact hj (E.sep i j c p q he hi hσ e n h1)
   exact ⟨c, h1, h2, h3.ex hx fun u z => by rw [aO hc]; exact z⟩
 ·have back : ∀ {j : Nat} {q : PV}, (env.set i (some p'))[j]? = some (some q) -> ∃ q, env[j]? = some (some q) := fun {j q} e => by
   by_cases hj : i = j
   ·subst hj; exact ⟨p, he⟩
   ·rw [List.getElem?_set_ne hj] at e; exact ⟨q, e⟩
  obtain ⟨r1, e1'⟩ := back e1
  obtain ⟨r2, e2'⟩ := back e2
  exact E.sep j k c r1 r2 e1' n1 s1 e2' n2 s2
theorem ER.weak {G' : List Nat} (E : ER b Ow G σ env H) (h : ∀ j, j ∈ G' -> j ∈ G) : ∃ Ow', ER b Ow' G' σ env H /\ Ex (Bs b Ow) H (Bs b Ow') H := by
 refine ⟨fun a => Ow a /\ ∃ j q, j ∈ G' /\ env[j]? = some (some q) /\ σ[j]? = some (some (.ref a)), ?_⟩
 have hx : Ex (Bs b Ow) H (Bs b fun a => Ow a /\ ∃ j q, j ∈ G' /\ env[j]? = some (some q) /\ σ[j]? = some (some (.ref a))) H := dG fun c o _ q => ⟨fun z => q.1 z.1, q.2⟩
 refine ⟨⟨E.len, E.same, fun a w => E.live a w.1, fun a w => E.new a w.1, fun i p e n => ?_, fun i p e n => ?_, fun i j a p q e1 n1 s1 e2 n2 s2 => E.sep i j a p q e1 (h i n1) s1 e2 (h j n2) s2, E.fix⟩, hx⟩
 ·by_cases hi : i ∈ G
  ·obtain ⟨a, h1, h2, h3⟩ := E.own i p e hi
   refine ⟨_, h1, (h3.ex hx fun o z => z).rep ⟨fun z => ?_, .inr (E.new a h2)⟩⟩
   obtain ⟨_, j, q, hj, e', s'⟩ := z
   have := E.sep i j a p q e hi h1 e' (h j hj) s'
   subst this
   exact n hj
  ·obtain ⟨v, h1, h2⟩ := E.val i p e hi
   exact ⟨v, h1, h2.ex hx⟩
 ·obtain ⟨a, h1, h2, h3⟩ := E.own i p e (h i n)
  exact ⟨a, h1, ⟨h2, i, p, n, e, h1⟩, h3.ex hx fun o z => z⟩
theorem ER.forget (E : ER b Ow G σ env H) (i : Nat) : ER b Ow G σ (env.set i none) H := by
 have back : ∀ {j : Nat} {q : PV}, (env.set i none)[j]? = some (some q) -> env[j]? = some (some q) := fun {j q} e => by
  by_cases hj : i = j
  ·subst hj
   rw [List.getElem?_set] at e
   split at e
   ·split at e <;> cases e
   ·exact absurd rfl ‹_›
  ·rw [List.getElem?_set_ne hj] at e; exact e
 exact ⟨by rw [List.length_set]; exact E.len, E.same, E.live, E.new, fun j q e n => E.val j q (back e) n, fun j q e n => E.own j q (back e) n, fun j k a q q' e1 n1 s1 e2 n2 s2 => E.sep j k a q q' (back e1) n1 s1 (back e2) n2 s2, E.fix⟩
@[simp] def clr : List Nat -> Env -> Env
 | [], env => env
 | i :: r, env => clr r (env.set i none)
theorem ER.clr : ∀ {ds : List Nat} {env : Env}, ER b Ow G σ env H -> ER b Ow G σ (clr ds env) H
 | [], _, E => E
 | i :: r, env, E => ER.clr (ds := r) (E.forget i)
end
inductive Out where
 | nx (e : Env) | bk (e : Env) | ct (e : Env) | rt (p : PV)
def Post (b : BX) (Ow : Addr -> Prop) (H : Hp) (G L : List Nat) (ro : Bool) (D : Ends) : Out -> Prop
 | .nx e => ∀ Ow' σ' H', ER b Ow' G σ' e H' -> Ex (Bs b Ow) H (Bs b Ow') H' -> D.nx σ' H'
 | .bk e => ∀ Ow' σ' H', ER b Ow' L σ' e H' -> Ex (Bs b Ow) H (Bs b Ow') H' -> D.bk σ' H'
 | .ct e => ∀ Ow' σ' H', ER b Ow' L σ' e H' -> Ex (Bs b Ow) H (Bs b Ow') H' -> D.ct σ' H'
 | .rt p => ∀ v H', Same b.H0 H' -> Ret b.C b.A b.H0 ro H' v p -> D.rt v H'
def tS (b : BX) (G G' L : List Nat) (ro : Bool) (f : Env -> Option Out) : TS := fun D σ H => ∃ Ow env out, ER b Ow G σ env H /\ f env = some out /\ Post b Ow H G' L ro D out
abbrev SS (X : Cx) (b : BX) (G G' L : List Nat) (ro : Bool) (st : Stmt) (f : Env -> Option Out) : Prop := PS X st (tS b G G' L ro f)
abbrev SSs (X : Cx) (b : BX) (G G' L : List Nat) (ro : Bool) (st : List Stmt) (f : Env -> Option Out) : Prop := PSs X st (tS b G G' L ro f)
theorem PSs.imp {X : Cx} {e : List Stmt} {t u : TS} (h : PSs X e t) (i : ∀ D σ H, u D σ H -> t D σ H) : PSs X e u := fun pins s σ H D I q => h pins s σ H D I (i D σ H q)
theorem PS.or {X : Cx} {e : Stmt} {t u : TS} (h : PS X e t) (h' : PS X e u) : PS X e (fun D σ H => t D σ H \/ u D σ H) := fun pins s σ H D I q => q.elim (h pins s σ H D I) (h' pins s σ H D I)
theorem Post.ex {b : BX} {Ow Ow1 : Addr -> Prop} {H H1 : Hp} {G L : List Nat} {ro : Bool} {D : Ends} {o : Out} (e : Ex (Bs b Ow) H (Bs b Ow1) H1) (h : Post b Ow H G L ro D o) : Post b Ow1 H1 G L ro D o := by
 cases o with
 | nx e' => exact fun Ow' σ' H' E x => h Ow' σ' H' E (e.trans x)
 | bk e' => exact fun Ow' σ' H' E x => h Ow' σ' H' E (e.trans x)
 | ct e' => exact fun Ow' σ' H' E x => h Ow' σ' H' E (e.trans x)
 | rt p => exact h
def sNx (env : Env) : Option Out := some (.nx env)
@[simp] theorem Tc (env : Env) : sNx env = (some (.nx env)) := id rfl
def sNo (env : Env) : Option Out := none
@[simp] theorem Td (env : Env) : sNo env = (none) := id rfl
def aL (f g : Env -> Option Out) (env : Env) : Option Out := (f env).bind fun o => match o with | .nx e => g e | o => some o
@[simp] theorem SJ (f g : Env -> Option Out) (env : Env) : aL f g env = ((f env).bind fun o => match o with | .nx e => g e | o => some o) := id rfl
def aN (i : Nat) (f : Env -> Option PV) (env : Env) : Option Out := (f env).bind fun p => some (.nx (env.set i (some p)))
@[simp] theorem Ks (i : Nat) (f : Env -> Option PV) (env : Env) : aN i f env = ((f env).bind fun p => some (.nx (env.set i (some p)))) := id rfl
def a_ (f : Env -> Option PV) (env : Env) : Option Out := (f env).bind fun p => some (.rt p)
@[simp] theorem Bu (f : Env -> Option PV) (env : Env) : a_ f env = ((f env).bind fun p => some (.rt p)) := id rfl
def sIf (c : Env -> Option Bool) (f g : Env -> Option Out) (env : Env) : Option Out := (c env).bind fun k => if k = true then f env else g env
@[simp] theorem Oi (c : Env -> Option Bool) (f g : Env -> Option Out) (env : Env) : sIf c f g env = ((c env).bind fun k => if k = true then f env else g env) := id rfl
def nR (f : Env -> Option PV) (env : Env) : Option Out := (f env).bind fun _ => some (.nx env)
@[simp] theorem R5 (f : Env -> Option PV) (env : Env) : nR f env = ((f env).bind fun _ => some (.nx env)) := id rfl
def f9 (g : PV -> PV -> Option PV) (i : Nat) (f : Env -> Option PV) (env : Env) : Option Out := (bV i env).bind fun x => (f env).bind fun p => (g x p).bind fun y => some (.nx (env.set i (some y)))
@[simp] theorem R6 (g : PV -> PV -> Option PV) (i : Nat) (f : Env -> Option PV) (env : Env) : f9 g i f env = ((bV i env).bind fun x => (f env).bind fun p => (g x p).bind fun y => some (.nx (env.set i (some y)))) := id rfl
def yx (g : PV -> PV -> PV -> Option PV) (i : Nat) (f h : Env -> Option PV) (env : Env) : Option Out := (bV i env).bind fun x => (f env).bind fun p => (h env).bind fun q => (g x p q).bind fun y => some (.nx (env.set i (some y)))
@[simp] theorem R7 (g : PV -> PV -> PV -> Option PV) (i : Nat) (f h : Env -> Option PV) (env : Env) : yx g i f h env = ((bV i env).bind fun x => (f env).bind fun p => (h env).bind fun q => (g x p q).bind fun y => some (.nx (env.set i (some y)))) := id rfl
@[simp] def uE : PV -> PV -> Option PV
 | .lst xs, p => if xs.length < 1000000 then some (.lst (xs ++ [p])) else none
 | _, _ => none
def jf {κ : Type} [DecidableEq κ] (kvs : List (κ × PV)) (k : κ) (v : PV) : List (κ × PV) :=
 if (kvs.any fun kv => decide (kv.1 = k)) = true then kvs.map (fun kv => if kv.1 = k then (kv.1, v) else kv) else kvs ++ [(k, v)]
@[simp] def Di : PV -> PV -> PV -> Option PV
 | .dK kvs, k, v => (keyOf k).bind fun k => if kvs.length < 1000000 then some (.dK (jf kvs k v)) else none
 | .dT kvs, .tup ks, v => (keysOf ks).bind fun k => if kvs.length < 1000000 then some (.dT (jf kvs k v)) else none
 | .lst xs, .int i, v => (ixN xs.length i).map fun j => .lst (xs.set j v)
 | _, _, _ => none
def pF (f : Str) (v : PV) : List (Str × PV) -> List (Str × PV)
 | [] => [(f, v)]
 | (g, x) :: r => if g = f then (g, v) :: r else (g, x) :: pF f v r
@[simp] def fsV (c : Nat) (x : Str) : PV -> PV -> Option PV
 | .obj c' fs, v => if c' = c /\ fs.length < 1000 then some (.obj c' (pF x v fs)) else none
 | _, _ => none
section
variable {X : Cx} {b : BX} {G G' G1 L : List Nat} {ro : Bool} {st : Stmt} {rest : List Stmt} {f g : Env -> Option Out} {e e1 e2 : Expr} {h h1 h2 : Env -> Option PV} {m m1 m2 : Md} {pos : Pos}
theorem cz : SSs X b G G L ro [] sNx := PSs.imp Be fun D σ H ⟨Ow, env, o, E, hf, k⟩ => by cases hf; exact k Ow σ H E (Ex.refl _ _)
theorem az (a : SS X b G G1 L ro st f) (c : SSs X b G1 G' L ro rest g) : SSs X b G G' L ro (st :: rest) (aL f g) := PSs.imp (mK a c) fun D σ H ⟨Ow, env, o, E, hf, k⟩ => by
 unfold aL at hf
 cases q : f env with
 | none => rw [q] at hf; cases hf
 | some o1 =>
  rw [q] at hf
  refine ⟨Ow, env, o1, E, q, ?_⟩
  cases o1 with
  | nx e' => exact fun Ow' σ' H' E' x => ⟨Ow', e', o, E', hf, k.ex x⟩
  | bk e' => cases hf; exact k
  | ct e' => cases hf; exact k
  | rt p => cases hf; exact k
theorem aD (a : SS X b G G' L ro st f) : SSs X b G G' L ro [st] f := Bf a
theorem vd (c : SSs X b G1 G' L ro rest g) (hs : ∀ j, j ∈ G1 -> j ∈ G := by decide) : SSs X b G G' L ro rest g := PSs.imp c fun D σ H ⟨Ow, env, o, E, hf, k⟩ => by
 obtain ⟨Ow', E', x⟩ := E.weak hs
 exact ⟨Ow', env, o, E', hf, k.ex x⟩
theorem Oj : SS X b G G' L ro st sNo := PS.imp GX fun D σ H ⟨Ow, env, o, E, hf, k⟩ => by cases hf
theorem Q4 {sts : List Stmt} : SSs X b G G' L ro sts sNo := PSs.imp lK fun D σ H ⟨Ow, env, o, E, hf, k⟩ => by cases hf
theorem aA {α β : Type} {x : Option α} {k : α -> Option β} {y : β} (h : x.bind k = some y) : ∃ a, x = some a /\ k a = some y := by
 cases x with
 | none => cases h
 | some a => exact ⟨a, rfl, h⟩
theorem Ol {i : Nat} {D : Ends} {σ : St} {H : Hp} (hi : i ∉ G) (hx : b.fx i = none) (q : tS b G G L ro (aN i h) D σ H) : tM b G .val h σ H fun v H1 => D.nx (σ.set i (some v)) H1 := by
 obtain ⟨Ow, env, o, E, hf, k⟩ := q
 obtain ⟨p, hp, e⟩ := aA hf
 cases e
 exact ⟨Ow, env, p, E, hp, fun v H' s r => k Ow _ H' ((E.up s).set hi r hx) (.of_same s)⟩
theorem Q5 {i : Nat} {D : Ends} {σ : St} {H : Hp} (hG : ∀ j, j ∈ G' ↔ (j ∈ G \/ j = i)) (hx : b.fx i = none) (q : tS b G G' L ro (aN i h) D σ H) : tM b G .own h σ H fun v H1 => D.nx (σ.set i (some v)) H1 := by
 obtain ⟨Ow, env, o, E, hf, k⟩ := q
 obtain ⟨p, hp, e⟩ := aA hf
 cases e
 refine ⟨Ow, env, p, E, hp, fun v H' s ⟨a, ev, hn, t⟩ => ?_⟩
 subst ev
 obtain ⟨E', x⟩ := (E.up s).setO hG s hn E t hx
 exact k _ _ H' E' x
theorem bA (i : Nat) {x : Str} {pos' : Pos} (nd : X.N.Nodup) (he : SE X b G .val e h) (hG : i ∉ G := by decide) (hx : b.fx i = none := by first | rfl | assumption) (hi : X.N[i]? = some x := by rfl) (hl : Loc X.env.scope x := by first | exact Or.inl rfl | exact Or.inr rfl)
  (hs : swapsWith e (some (.Name x pos')) pos.line X.env = pure false := by rfl) (hf : X.fn x = true \/ X.env.scope.names.lookup x = some .local := by first | exact .inl rfl | exact .inr rfl | assumption) : SS X b G G L ro (.Assign [.Name x pos'] e pos) (aN i h) :=
 PS.imp (yL nd hi hl he hs hf) fun D σ H q => Ol hG hx q
theorem ph (i : Nat) {x : Str} {pos' : Pos} (nd : X.N.Nodup) (he : SE X b G .own e h) (hG : i ∈ G := by decide) (hx : b.fx i = none := by first | rfl | assumption) (hi : X.N[i]? = some x := by rfl) (hl : Loc X.env.scope x := by first | exact Or.inl rfl | exact Or.inr rfl)
  (hs : swapsWith e (some (.Name x pos')) pos.line X.env = pure false := by rfl) (hf : X.fn x = true \/ X.env.scope.names.lookup x = some .local := by first | exact .inl rfl | exact .inr rfl | assumption) : SS X b G G L ro (.Assign [.Name x pos'] e pos) (aN i h) :=
 PS.imp (yL nd hi hl he hs hf) fun D σ H q => Q5 (fun j => ⟨.inl, fun z => z.elim id fun y => y ▸ hG⟩) hx q
theorem aZ (he : SE X b G .val e h) : SS X b G G' L false (.Return (some e) pos) (a_ h) := PS.imp (yK he) fun D σ H ⟨Ow, env, o, E, hf, k⟩ => by
 obtain ⟨p, hp, z1⟩ := aA hf
 clear hf
 cases z1
 exact ⟨Ow, env, p, E, hp, fun v H' s r => k v H' (E.same.trans s) (Rep.ex (dG fun c o _ q => q.2) r)⟩
theorem Om (he : SE X b G .own e h) : SS X b G G' L true (.Return (some e) pos) (a_ h) := PS.imp (yK he) fun D σ H ⟨Ow, env, o, E, hf, k⟩ => by
 obtain ⟨p, hp, z1⟩ := aA hf
 clear hf
 cases z1
 exact ⟨Ow, env, p, E, hp, fun v H' s ⟨a, ev, hn, t⟩ => k v H' (E.same.trans s) ⟨a, ev, E.same.free hn, t.ex (dG fun c o _ q => ⟨q.1.2, q.2⟩) fun o z => z⟩⟩
theorem du {c : Expr} {k : Env -> Option Bool} {sa sb : List Stmt} (hc : ST X b G c k) (ha : SSs X b G G' L ro sa f) (hb : SSs X b G G' L ro sb g) : SS X b G G' L ro (.If c sa sb pos) (sIf k f g) := PS.imp (Cq hc ha hb) fun D σ H ⟨Ow, env, o, E, hf, kk⟩ => by
 obtain ⟨p, hp, z1⟩ := aA hf
 clear hf
 refine ⟨Ow, env, p, E, hp, fun H' s => ?_⟩
 cases p with
 | true => exact CQ ⟨Ow, env, o, E.up s, z1, kk.ex (.of_same s)⟩
 | false => exact CP ⟨Ow, env, o, E.up s, z1, kk.ex (.of_same s)⟩
theorem rF (he : SE X b G m e h) (hs : swapsWith e none pos.line X.env = pure false := by rfl) : SS X b G G L ro (.Expr e pos) (nR h) := PS.imp (Bg he.bor hs) fun D σ H ⟨Ow, env, o, E, hf, k⟩ => by
 obtain ⟨p, hp, z1⟩ := aA hf
 clear hf
 cases z1
 exact ⟨Ow, env, p, E, hp, fun v H' s r => k Ow σ H' (E.up s) (.of_same s)⟩
theorem yz (i : Nat) {x : Str} {p1 apos cpos : Pos} (he : SE X b G .val e h) (hi : i ∈ G := by decide) (hN : X.N[i]? = some x := by rfl) (hv : Vis X.env.scope x := by first | exact Or.inl rfl | exact Or.inr (Or.inl rfl) | exact Or.inr (Or.inr rfl)) (hd : (x == ("__debug__" : Str)) = false := by decide)
  (hcd : (x == ("__classdict__" : Str)) = false := by decide) (hbase : attributeBase (.Name x p1) "append" X.env (eval (.Name x p1) X.env) = eval (.Name x p1) X.env := by rfl)
  (hfew : ((backTo cpos (starEach [e] X.env)).all (fun x => !x.1) && (backToKw cpos (keywordEach [] X.env)).all (fun x => x.1.isSome)
   && decide ([e].length + ([] : List Keyword).length + (if ([] : List Keyword).isEmpty then 0 else 1) < 30)) = true := by rfl)
  (hline : (apos.endLine == cpos.line) = true := by rfl) (hs : starEach [e] X.env = (false, eval e X.env) :: starEach [] X.env := by rfl) :
  SS X b G G L ro (.Expr (.Call (.Attribute (.Name x p1) "append" apos) [e] [] cpos) pos) (f9 uE i h) :=
 PS.imp (Bg (Jx PySem.F.plainAttrs_list PySem.F.slot_list_append PySem.F.type_list_append q8 (g_ hN hv hd hcd) (dC he h_ hs) hbase hfew hline hs rfl)) fun D σ H ⟨Ow, env, o, E, hf, k⟩ => by
  obtain ⟨px, hpx, z1⟩ := aA hf
  clear hf
  obtain ⟨p, hp, z2⟩ := aA z1
  clear z1
  obtain ⟨y, hy, z3⟩ := aA z2
  clear z2
  cases z3
  obtain ⟨a, ea, w, t⟩ := E.own i px (iU hpx) hi
  cases px <;> simp only [uE] at hy <;> first | cases hy | skip
  rename_i xs
  split at hy
  ·rename_i hl
   cases hy
   obtain ⟨vs, ha, ra⟩ := id t
   refine ⟨_, ea, .inl ⟨rfl, _, SqL.of ha⟩, Ow, env, p, E, hp, fun v H' s r => ?_⟩
   refine ⟨a, vs, v, rfl, rfl, s _ _ ha, jH (by rw [ra.length]; omega), ?_⟩
   have ra' : Reps b.C (Bs b Ow) (upd H' a (.lst (vs ++ [v]))) (vs ++ [v]) (xs ++ [p]) := by
    refine (ra.ex (.of_same s)).append (.cons r .nil) |>.ex fun c o h => ⟨fun q => ⟨by rw [aO (fun z : c = a => q.1 (z ▸ w))]; exact h, q⟩, fun m => ?_⟩
    have hc : c ≠ a := fun z => by subst z; rw [s _ _ ha] at h; cases h; cases m
    rw [aO hc]; exact h
   obtain ⟨E', x⟩ := (E.up s).write hi ea (iU hpx) w (t.ex (.of_same s) fun o z => s _ _ z) (o' := .lst (vs ++ [v])) (p' := .lst (xs ++ [p])) ⟨_, bF, ra'⟩
   exact k Ow σ _ E' ((Ex.of_same s).trans x)
  ·cases hy
theorem RepK.put {C : MC} {A : Addr -> Prop} {H : Hp} {k : Key} {v : V} {p : PV} (r : Rep C A H v p) {kv : List (Key × V)} {kvs : List (Key × PV)} (t : RepK C A H kv kvs) : RepK C A H (putK kv k v) (jf kvs k p) := by
 have hany : ∀ {kv : List (Key × V)} {kvs : List (Key × PV)}, RepK C A H kv kvs -> (kv.any fun x => decide (x.1 = k)) = (kvs.any fun x => decide (x.1 = k)) := by
  intro kv kvs t
  induction kv generalizing kvs with
  | nil => cases t; rfl
  | cons x l ih => cases t with | cons h t => rw [List.any_cons, List.any_cons, ih t]
 have hmap : ∀ {kv : List (Key × V)} {kvs : List (Key × PV)}, RepK C A H kv kvs -> RepK C A H (kv.map fun x => if x.1 = k then (x.1, v) else x) (kvs.map fun x => if x.1 = k then (x.1, p) else x) := by
  intro kv kvs t
  induction kv generalizing kvs with
  | nil => cases t; exact .nil
  | cons x l ih =>
   cases t with
   | cons h t =>
    rw [List.map_cons, List.map_cons]
    rename_i k' v' p' ps'
    by_cases e : k' = k
    ·simp only [e, if_true]; exact .cons r (ih t)
    ·simp only [e, if_false]; exact .cons h (ih t)
 have happ : ∀ {kv : List (Key × V)} {kvs : List (Key × PV)}, RepK C A H kv kvs -> RepK C A H (kv ++ [(k, v)]) (kvs ++ [(k, p)]) := by
  intro kv kvs t
  induction kv generalizing kvs with
  | nil => cases t; exact .cons r .nil
  | cons x l ih => cases t with | cons h t => exact .cons h (ih t)
 unfold putK jf
 rw [hany t]
 split
 ·exact hmap t
 ·exact happ t
theorem RepT.put {C : MC} {A : Addr -> Prop} {H : Hp} {k : List Key} {v : V} {p : PV} (r : Rep C A H v p) {kv : List (List Key × V)} {kvs : List (List Key × PV)} (t : RepT C A H kv kvs) : RepT C A H (putK kv k v) (jf kvs k p) := by
 have hany : ∀ {kv : List (List Key × V)} {kvs : List (List Key × PV)}, RepT C A H kv kvs -> (kv.any fun x => decide (x.1 = k)) = (kvs.any fun x => decide (x.1 = k)) := by
  intro kv kvs t
  induction kv generalizing kvs with
  | nil => cases t; rfl
  | cons x l ih => cases t with | cons h t => rw [List.any_cons, List.any_cons, ih t]
 have hmap : ∀ {kv : List (List Key × V)} {kvs : List (List Key × PV)}, RepT C A H kv kvs -> RepT C A H (kv.map fun x => if x.1 = k then (x.1, v) else x) (kvs.map fun x => if x.1 = k then (x.1, p) else x) := by
  intro kv kvs t
  induction kv generalizing kvs with
  | nil => cases t; exact .nil
  | cons x l ih =>
   cases t with
   | cons h t =>
    rw [List.map_cons, List.map_cons]
    rename_i k' v' p' ps'
    by_cases e : k' = k
    ·simp only [e, if_true]; exact .cons r (ih t)
    ·simp only [e, if_false]; exact .cons h (ih t)
 have happ : ∀ {kv : List (List Key × V)} {kvs : List (List Key × PV)}, RepT C A H kv kvs -> RepT C A H (kv ++ [(k, v)]) (kvs ++ [(k, p)]) := by
  intro kv kvs t
  induction kv generalizing kvs with
  | nil => cases t; exact .cons r .nil
  | cons x l ih => cases t with | cons h t => exact .cons h (ih t)
 unfold putK jf
 rw [hany t]
 split
 ·exact hmap t
 ·exact happ t
theorem RepT.length {C : MC} {A : Addr -> Prop} {H : Hp} : ∀ {vs : List (List Key × V)} {ps : List (List Key × PV)}, RepT C A H vs ps -> vs.length = ps.length
 | _, _, .nil => rfl
 | _, _, .cons _ t => by simp [RepT.length t]
theorem RepF.length {C : MC} {A : Addr -> Prop} {H : Hp} : ∀ {vs : List (Str × V)} {ps : List (Str × PV)}, RepF C A H vs ps -> vs.length = ps.length
 | _, _, .nil => rfl
 | _, _, .cons _ t => by simp [RepF.length t]
theorem RepF.put {C : MC} {A : Addr -> Prop} {H : Hp} {k : Str} {v : V} {p : PV} (r : Rep C A H v p) : ∀ {kv : List (Str × V)} {kvs : List (Str × PV)}, RepF C A H kv kvs -> RepF C A H (gG k v kv) (pF k p kvs)
 | _, _, .nil => .cons r .nil
 | _, _, .cons (k := k') h t => by
  unfold gG pF
  split
  ·exact .cons r t
  ·exact .cons h (RepF.put r t)
theorem mW {Ow : Addr -> Prop} {H : Hp} {a : Addr} {o o' : HO} (w : Ow a) (ha : H a = some o) (hm : CT o = true) : Ex (Bs b Ow) H (Bs b Ow) (upd H a o') := fun c u h => ⟨fun q => ⟨by rw [aO (fun z : c = a => q.1 (z ▸ w))]; exact h, q⟩, fun m => by
 have hc : c ≠ a := fun z => by subst z; rw [ha] at h; cases h; rw [hm] at m; cases m
 rw [aO hc]; exact h⟩
theorem JD (i : Nat) {x : Str} {p1 p2 : Pos} {j : Nat} (hr : Room j X.A) (hk : SE X b G .val e1 h1) (hv' : SE X b G .val e2 h2) (hi : i ∈ G := by decide) (hN : X.N[i]? = some x := by rfl) (hv : Vis X.env.scope x := by first | exact Or.inl rfl | exact Or.inr (Or.inl rfl) | exact Or.inr (Or.inr rfl)) (hd : (x == ("__debug__" : Str)) = false := by decide)
  (hcd : (x == ("__classdict__" : Str)) = false := by decide) (hs : swapsWith e2 (some (.Subscript (.Name x p1) e1 p2)) pos.line X.env = pure false := by rfl) (hs2 : swapsWithSole [.Subscript (.Name x p1) e1 p2] e2 pos.line X.env = pure false := by rfl) (hw : swappedStores [.Subscript (.Name x p1) e1 p2] e2 X.env = pure none := by rfl)
  (ha1 : (assignEach [.Subscript (.Name x p1) e1 p2] X.env).map (·.2) = [assign (.Subscript (.Name x p1) e1 p2) X.env] := by rfl)
  (ha : ∀ v, assign (.Subscript (.Name x p1) e1 p2) X.env v = (do
   let ov ← holding [v] (eval (.Name x p1) X.env)
   let iv ← holding [v, ov] (eval e1 X.env)
   standAt p2
   holding [v, ov, iv] (setItem ov iv v)
   release [v, ov, iv] []) := by intro _; rfl) : SS X b G G L ro (.Assign [.Subscript (.Name x p1) e1 p2] e2 pos) (yx Di i h1 h2) := by
 refine PS.imp (PS.or (J6 (yp hr) (g_ hN hv hd hcd) hk hv' hs) (Mv hv' (Mu (g_ hN hv hd hcd) hk set_list ha) hs2 hw ha1)) fun D σ H ⟨Ow, env, o, E, hf, k⟩ => ?_
 obtain ⟨px, hpx, z1⟩ := aA hf
 clear hf
 obtain ⟨pk, hpk, z2⟩ := aA z1
 clear z1
 obtain ⟨pv, hpv, z3⟩ := aA z2
 clear z2
 obtain ⟨y, hy, z4⟩ := aA z3
 clear z3
 cases z4
 obtain ⟨a, ea, w, t⟩ := E.own i px (iU hpx) hi
 have fin : ∀ {H2 : Hp} {o' : HO}, Same H H2 -> Top b.C (Bs b Ow) (upd H2 a o') a y -> D.nx σ (upd H2 a o') := fun {H2 o'} s t' => by
  obtain ⟨E', x⟩ := (E.up s).write hi ea (iU hpx) w (t.ex (.of_same s) fun o z => s _ _ z) t'
  exact k Ow σ _ E' ((Ex.of_same s).trans x)
 unfold Di at hy
 split at hy
 ·obtain ⟨ky, hky, hy⟩ := aA hy
  split at hy
  ·rename_i hl
   cases hy
   obtain ⟨kv, ha, ra⟩ := id t
   refine .inl ⟨Ow, env, pv, E, hpv, fun v H1 s1 r1 => ⟨_, ea, Ow, env, pk, E.up s1, hpk, fun u H2 s2 r2 => ?_⟩⟩
   have s := s1.trans s2
   have eu := RepB.key (.inl r2) hky
   subst eu
   refine ⟨a, _, rfl, DPut.k (s _ _ ha) (jH (by rw [ra.length]; omega)), fin s ⟨_, bF, ?_⟩⟩
   exact (RepK.put (k := ky) (Rep.ex (.of_same s2) r1) (ra.ex (.of_same s))).ex (mW w (s _ _ ha) rfl)
  ·cases hy
 ·obtain ⟨ky, hky, hy⟩ := aA hy
  split at hy
  ·rename_i hl
   cases hy
   obtain ⟨kv, ha, ra⟩ := id t
   refine .inl ⟨Ow, env, pv, E, hpv, fun v H1 s1 r1 => ⟨_, ea, Ow, env, _, E.up s1, hpk, fun u H2 s2 r2 => ?_⟩⟩
   have s := s1.trans s2
   obtain ⟨c, us, rfl, hc, rc⟩ := RepB.tup (.inl r2)
   have hv := rc.keys hky
   subst hv
   refine ⟨a, _, rfl, DPut.t (s _ _ ha) hc (jH (by rw [ra.length]; omega)), fin s ⟨_, bF, ?_⟩⟩
   exact (RepT.put (k := ky) (Rep.ex (.of_same s2) r1) (ra.ex (.of_same s))).ex (mW w (s _ _ ha) rfl)
  ·cases hy
 ·rename_i xs n
  cases q : ixN xs.length n with
  | none => rw [q] at hy; cases hy
  | some jj =>
   rw [q] at hy
   cases hy
   obtain ⟨vs, ha, ra⟩ := id t
   refine .inr ⟨Ow, env, pv, E, hpv, fun v H1 s1 r1 => ⟨_, ea, Ow, env, _, E.up s1, hpk, fun u H2 s2 r2 => ?_⟩⟩
   have s := s1.trans s2
   have eu := RepB.int (.inl r2)
   subst eu
   refine ⟨a, vs, n, jj, rfl, rfl, s _ _ ha, by rw [ra.length]; exact q, fin s ⟨_, bF, ?_⟩⟩
   exact (Reps.set (Rep.ex (.of_same s2) r1) jj (ra.ex (.of_same s))).ex (mW w (s _ _ ha) rfl)
 ·cases hy
theorem nU (i : Nat) {x y : Str} {p1 p2 : Pos} {c : Nat} (hc : Cls X.K (b.C.cl c)) (hn : NoAttr X.K (b.C.cl c) y) (he : SE X b G .val e h) (hi : i ∈ G := by decide) (hN : X.N[i]? = some x := by rfl) (hv : Vis X.env.scope x := by first | exact Or.inl rfl | exact Or.inr (Or.inl rfl) | exact Or.inr (Or.inr rfl)) (hd : (x == ("__debug__" : Str)) = false := by decide)
  (hcd : (x == ("__classdict__" : Str)) = false := by decide) (hs : swapsWith e (some (.Attribute (.Name x p1) y p2)) pos.line X.env = pure false := by rfl) : SS X b G G L ro (.Assign [.Attribute (.Name x p1) y p2] e pos) (f9 (fsV c y) i h) :=
 PS.imp (M6 (g_ hN hv hd hcd) he hs) fun D σ H ⟨Ow, env, o, E, hf, k⟩ => by
  obtain ⟨px, hpx, z1⟩ := aA hf
  clear hf
  obtain ⟨p, hp, z2⟩ := aA z1
  clear z1
  obtain ⟨y', hy, z3⟩ := aA z2
  clear z2
  cases z3
  obtain ⟨a, ea, w, t⟩ := E.own i px (iU hpx) hi
  cases px <;> simp only [fsV] at hy <;> first | cases hy | skip
  rename_i c' fs
  split at hy
  ·rename_i hcc
   obtain ⟨rfl, hl⟩ := hcc
   cases hy
   obtain ⟨dx, fv, ha, ra⟩ := id t
   refine ⟨Ow, env, p, E, hp, fun v H1 s r => ⟨_, ea, a, _, dx, fv, rfl, s _ _ ha, hc, hn, by rw [ra.length]; exact hl, ?_⟩⟩
   obtain ⟨E', x⟩ := (E.up s).write hi ea (iU hpx) w (t.ex (.of_same s) fun o z => s _ _ z) (o' := .ins (b.C.cl c') dx (gG y v fv)) (p' := .obj c' (pF y p fs)) ⟨dx, _, bF, (RepF.put r (ra.ex (.of_same s))).ex (mW w (s _ _ ha) rfl)⟩
   exact k Ow σ _ E' ((Ex.of_same s).trans x)
  ·cases hy
def IW (b : BX) (Ow : Addr -> Prop) (fr : Bool) (H1 : Hp) (J : It) (ps : List PV) : Prop := ∀ Ow' H, (fr = false -> Same H1 H) -> Ex (Bs b Ow) H1 (Bs b Ow') H -> (∀ a, H a = none -> Bs b Ow' a) ->
 (∀ i p, ps[i]? = some p -> J.go i H /\ ∀ x H', J.yld i H x H' -> Same H H' /\ Rep b.C (Bs b Ow') H' x p) /\ J.stop ps.length H
def tMI (b : BX) (G : List Nat) (fr : Bool) (g : Env -> Option (List PV)) : TI := fun σ H R => ∃ Ow env ps, ER b Ow G σ env H /\ g env = some ps /\ ∀ J H1, Same H H1 -> IW b Ow fr H1 J ps -> R J H1
abbrev SI (X : Cx) (b : BX) (G : List Nat) (fr : Bool) (tg it : Expr) (g : Env -> Option (List PV)) : Prop := PI X tg it (tMI b G fr g)
theorem PI.imp {tg it : Expr} {t u : TI} (h : PI X tg it t) (i : ∀ σ H R, u σ H R -> t σ H R) : PI X tg it u := fun pins s σ H R I q => h pins s σ H R I (i σ H R q)
theorem PI.or {tg it : Expr} {t u : TI} (h : PI X tg it t) (h' : PI X tg it u) : PI X tg it (fun σ H R => t σ H R \/ u σ H R) := fun pins s σ H R I q => q.elim (h pins s σ H R I) (h' pins s σ H R I)
def chV (x : Str) : List PV := x.cps.toList.map fun c => .str ⟨#[c]⟩
@[simp] def itV : PV -> Option (List PV)
 | .lst xs => some xs
 | .frz xs => some xs
 | .tup xs => some xs
 | .ktp xs => some xs
 | .str x => some (chV x)
 | _ => none
def iV (f : Env -> Option PV) (env : Env) : Option (List PV) := (f env).bind itV
@[simp] theorem Q6 (f : Env -> Option PV) (env : Env) : iV f env = ((f env).bind itV) := id rfl
theorem v8 {Ow : Addr -> Prop} {fr : Bool} {H1 : Hp} {a : Addr} {vs : List V} {xs : List PV} (hq : ∀ Ow' H, (fr = false -> Same H1 H) -> Ex (Bs b Ow) H1 (Bs b Ow') H -> SqL b.C.K H a vs /\ Reps b.C (Bs b Ow') H vs xs) : IW b Ow fr H1 (Itl b.C.K a) xs := by
 intro Ow' H h0 h1 hn
 obtain ⟨q, r⟩ := hq Ow' H h0 h1
 refine ⟨fun i p hp => ?_, ⟨vs, q, by rw [r.length]; exact Nat.le_refl _⟩⟩
 obtain ⟨v, hv, rv⟩ := r.get hp
 refine ⟨⟨vs, v, q, hv⟩, fun x H' y => ?_⟩
 obtain ⟨e, y⟩ := y
 subst e
 have e2 := y vs q
 rw [hv] at e2
 cases e2
 exact ⟨Same.refl _, rv⟩
theorem Fz {Ow : Addr -> Prop} {fr : Bool} {H1 : Hp} {a : Addr} {vs : List V} {xs : List PV} (hq : ∀ Ow' H, (fr = false -> Same H1 H) -> Ex (Bs b Ow) H1 (Bs b Ow') H -> SqT b.C.K H a vs /\ Reps b.C (Bs b Ow') H vs xs) : IW b Ow fr H1 (Itt b.C.K a) xs := by
 intro Ow' H h0 h1 hn
 obtain ⟨q, r⟩ := hq Ow' H h0 h1
 refine ⟨fun i p hp => ?_, ⟨vs, q, by rw [r.length]; exact Nat.le_refl _⟩⟩
 obtain ⟨v, hv, rv⟩ := r.get hp
 refine ⟨⟨vs, v, q, hv⟩, fun x H' y => ?_⟩
 obtain ⟨e, y⟩ := y
 subst e
 have e2 := y vs q
 rw [hv] at e2
 cases e2
 exact ⟨Same.refl _, rv⟩
theorem Oo {Ow : Addr -> Prop} {fr : Bool} {H1 : Hp} {x : Str} : IW b Ow fr H1 (Its x) (chV x) := by
 intro Ow' H h0 h1 hn
 refine ⟨fun i p hp => ?_, by show (chV x).length = x.cps.size; unfold chV; rw [List.length_map, Array.length_toList]⟩
 unfold chV at hp
 rw [List.getElem?_map] at hp
 cases q : x.cps.toList[i]? with
 | none => rw [q] at hp; cases hp
 | some c =>
  rw [q] at hp
  cases hp
  have hc : x.cps[i]? = some c := by rw [← Array.getElem?_toList]; exact q
  refine ⟨(Array.getElem?_eq_some_iff.mp hc).1, fun v H' y => ?_⟩
  obtain ⟨e, c', h', ev⟩ := y
  subst e
  rw [hc] at h'
  cases h'
  subst ev
  exact ⟨Same.refl _, .str _⟩
theorem eF {tg : Expr} {fr : Bool} (he : SE X b G m e h) (hm : fr = true -> m ≠ .bor) (hK : X.K = b.C.K := by rfl) : SI X b G fr tg e (iV h) := by
 have hPI := PI.or (tg := tg) (PI.or (JQ he) (Mx he)) (Nt he)
 refine PI.imp hPI fun σ H R ⟨Ow, env, ps, E, hg, k⟩ => ?_
 rw [hK]
 obtain ⟨p, hp, hps⟩ := aA hg
 have keep : ∀ {H1 Ow' H2} {v : V}, Same H H1 -> Res b Ow H H1 m v p -> (fr = false -> Same H1 H2) -> Ex (Bs b Ow) H1 (Bs b Ow') H2 -> RepB b.C (Bs b Ow') H2 v p := fun {H1 Ow' H2 v} s r h0 h1 => by
  cases fr with
  | false => exact RepB.ex h1 (h0 rfl) r.bor
  | true => exact .inl (Rep.ex h1 (r.val E (hm rfl)))
 unfold itV at hps
 split at hps
 ·cases hps
  refine .inl (.inl ⟨Ow, env, _, E, hp, fun v H1 s r => ?_⟩)
  have r1 : RepB b.C (Bs b Ow) H1 v (.lst _) := r.bor
  obtain ⟨a, vs, rfl, ha, ra⟩ := r1.lst
  refine ⟨a, rfl, ⟨vs, SqL.of ha⟩, k _ _ s (v8 (vs := vs) fun Ow' H2 h0 h1 => ?_)⟩
  obtain ⟨a', vs', e', ha', ra'⟩ := (keep s r h0 h1).lst
  cases e'
  have : H2 a = some (.lst vs) := by
   cases fr with
   | false => exact h0 rfl _ _ ha
   | true =>
    have rv : Rep b.C (Bs b Ow) H1 (.ref a) (.lst _) := r.val E (hm rfl)
    cases rv with
    | lst q1 q2 q3 => rw [ha] at q1; cases q1; exact ((h1 _ _ ha).1 q2).1
  rw [ha'] at this
  cases this
  exact ⟨SqL.of ha', ra'⟩
 ·cases hps
  refine .inl (.inl ⟨Ow, env, _, E, hp, fun v H1 s r => ?_⟩)
  have r1 : Rep b.C (Bs b Ow) H1 v (.frz _) := (by rcases r.bor with z | ⟨_, _, z⟩; exact z; exact z.elim)
  cases r1 with
  | lstF q1 q3 => exact ⟨_, rfl, ⟨_, .inl (.inr ⟨_, q1⟩)⟩, k _ _ s (v8 fun Ow' H2 h0 h1 => ⟨.inl (.inr ⟨_, (h1 _ _ q1).2 rfl⟩), q3.ex h1⟩)⟩
  | lstK q1 q3 => exact ⟨_, rfl, ⟨_, sqK q1⟩, k _ _ s (v8 fun Ow' H2 h0 h1 => ⟨sqK q1, q3.ex h1⟩)⟩
 ·cases hps
  refine .inl (.inr ⟨Ow, env, _, E, hp, fun v H1 s r => ?_⟩)
  have r1 : RepB b.C (Bs b Ow) H1 v (.tup _) := r.bor
  obtain ⟨a, vs, rfl, ha, ra⟩ := r1.tup
  exact ⟨a, rfl, ⟨vs, SqT.of ha⟩, k _ _ s (Fz (vs := vs) fun Ow' H2 h0 h1 => ⟨SqT.of ((h1 _ _ ha).2 rfl), ra.ex h1⟩)⟩
 ·cases hps
  refine .inl (.inr ⟨Ow, env, _, E, hp, fun v H1 s r => ?_⟩)
  have r1 : RepB b.C (Bs b Ow) H1 v (.ktp _) := r.bor
  rcases r1 with r1 | ⟨_, _, t⟩
  ·cases r1 with
   | tupK q1 q3 => exact ⟨_, rfl, ⟨_, CV q1⟩, k _ _ s (Fz fun Ow' H2 h0 h1 => ⟨CV q1, q3.ex h1⟩)⟩
  ·exact t.elim
 ·cases hps
  refine .inr ⟨Ow, env, _, E, hp, fun v H1 s r => ?_⟩
  have r1 : RepB b.C (Bs b Ow) H1 v (.str _) := r.bor
  exact ⟨_, r1.str, k _ _ s Oo⟩
 ·cases hps
noncomputable def rgI (i : Int) : Bool := @decide (-4611686018427387904 <= i /\ i < 4611686018427387904) (Classical.propDecidable _)
theorem rG {i : Int} (h : -4611686018427387904 <= i) (h' : i < 4611686018427387904) : rgI i = true := @decide_eq_true _ (Classical.propDecidable _) ⟨h, h'⟩
theorem FJ {i : Int} (h : rgI i = true) : -(2 ^ 62) <= i /\ i < 2 ^ 62 := by
 simp only [rgI, decide_eq_true_eq] at h
 exact h
def eX (lo hi : Int) : List PV := (List.range (hi - lo).toNat).map fun i => .int (lo + (i : Nat))
noncomputable def iR1 (f : Env -> Option PV) (env : Env) : Option (List PV) := (f env).bind fun p => match p with
 | .int j => if rgI j = true then some (eX 0 j) else none
 | _ => none
@[simp] theorem Te (f : Env -> Option PV) (env : Env) : iR1 f env = ((f env).bind fun p => match p with
 | .int j => if rgI j = true then some (eX 0 j) else none
 | _ => none) := id rfl
theorem Oq {Ow : Addr -> Prop} {fr : Bool} {H1 : Hp} {lo hi : Int} : IW b Ow fr H1 (Itr lo (hi - lo).toNat) (eX lo hi) := by
 intro Ow' H h0 h1 hn
 have hl : (eX lo hi).length = (hi - lo).toNat := by unfold eX; rw [List.length_map, List.length_range]
 refine ⟨fun i p hp => ?_, by show (hi - lo).toNat <= (eX lo hi).length; rw [hl]; exact Nat.le_refl _⟩
 have hi' : i < (hi - lo).toNat := by rw [← hl]; exact (List.getElem?_eq_some_iff.mp hp).1
 refine ⟨hi', fun x H' y => ?_⟩
 obtain ⟨e, ex⟩ := y
 subst e ex
 unfold eX at hp
 rw [List.getElem?_map, List.getElem?_range hi'] at hp
 cases hp
 exact ⟨Same.refl _, .int _⟩
theorem jZ {tg : Expr} {fr : Bool} {p pos : Pos} (hm : X.mg "range" = none) (he : SE X b G m e h) (hg : Gl X "range" := by rfl) (hs : starEach [e] X.env = [(false, eval e X.env)] := by rfl) (hs' : starEach [e] X.env = (false, eval e X.env) :: starEach [] X.env := by rfl) : SI X b G fr tg (.Call (.Name "range" p) [e] [] pos) (iR1 h) := by
 refine PI.imp (Ej hg hm (dC he.bor h_ hs') hs) fun σ H R ⟨Ow, env, ps, E, hf, k⟩ => ?_
 obtain ⟨p1, hp, hps⟩ := aA hf
 refine ⟨Ow, env, p1, E, hp, fun v H1 s r => ?_⟩
 have r1 : RepB b.C (Bs b Ow) H1 v p1 := r
 cases p1 <;> simp only at hps <;> first | cases hps | skip
 rename_i j
 split at hps
 ·rename_i hj
  cases hps
  have hw : IW b Ow fr H1 (Itr 0 (j - 0).toNat) (eX 0 j) := Oq
  rw [Int.sub_zero] at hw
  exact ⟨j, by rw [r1.int], (FJ hj).1, (FJ hj).2, k _ _ s hw⟩
 ·cases hps
def dX (n : Nat) : List PV -> List PV
 | [] => []
 | x :: xs => .tup [.int (n : Nat), x] :: dX (n + 1) xs
theorem wW {p : PV} : ∀ {xs : List PV} {n i : Nat}, (dX n xs)[i]? = some p -> ∃ x, xs[i]? = some x /\ p = .tup [.int ((n + i : Nat) : Int), x]
 | [], n, i, e => by simp [dX] at e
 | x :: xs, n, 0, e => by
  simp [dX] at e
  exact ⟨x, rfl, by rw [← e]; rfl⟩
 | x :: xs, n, i + 1, e => by
  simp only [dX, List.getElem?_cons_succ] at e
  obtain ⟨y, h1, h2⟩ := wW e
  exact ⟨y, by simpa using h1, by rw [h2, Nat.add_right_comm, Nat.add_assoc]⟩
theorem rH : ∀ {xs : List PV} {n : Nat}, (dX n xs).length = xs.length
 | [], _ => rfl
 | x :: xs, n => by simp [dX, rH (xs := xs)]
def iE (f : Env -> Option PV) (env : Env) : Option (List PV) := (f env).bind fun p => match p with
 | .lst xs => some (dX 0 xs)
 | _ => none
@[simp] theorem Tj (f : Env -> Option PV) (env : Env) : iE f env = ((f env).bind fun p => match p with
 | .lst xs => some (dX 0 xs)
 | _ => none) := id rfl
theorem mC {fr : Bool} {es : List Expr} {x1 : Nat} {tpos p pos : Pos} (hm : X.mg "enumerate" = none) (he : SE X b G m e h) (hmd : fr = true -> m ≠ .bor) (hK : X.K = b.C.K := by rfl) (hg : Gl X "enumerate" := by rfl) (hs : starEach [e] X.env = [(false, eval e X.env)] := by rfl) (hs' : starEach [e] X.env = (false, eval e X.env) :: starEach [] X.env := by rfl) :
  SI X b G fr (.Tuple es x1 tpos) (.Call (.Name "enumerate" p) [e] [] pos) (iE h) := by
 refine PI.imp (Ke hg hm (dC he h_ hs') hs) fun σ H R ⟨Ow, env, ps, E, hf, k⟩ => ?_
 rw [hK]
 obtain ⟨p1, hp, hps⟩ := aA hf
 refine ⟨Ow, env, p1, E, hp, fun v H1 s r => ?_⟩
 have r1 : RepB b.C (Bs b Ow) H1 v p1 := r.bor
 cases p1 <;> simp only at hps <;> cases hps
 rename_i xs
 obtain ⟨a, vs, rfl, ha, ra⟩ := r1.lst
 refine ⟨a, rfl, ⟨vs, SqL.of ha⟩, k _ _ s fun Ow' H2 h0 h1 hn => ?_⟩
 have hq : H2 a = some (.lst vs) /\ Reps b.C (Bs b Ow') H2 vs xs := by
  refine ⟨?_, ra.ex h1⟩
  cases fr with
  | false => exact h0 rfl _ _ ha
  | true =>
   have rv : Rep b.C (Bs b Ow) H1 (.ref a) (.lst _) := r.val E (hmd rfl)
   cases rv with
   | lst q1 q2 q3 => rw [ha] at q1; cases q1; exact ((h1 _ _ ha).1 q2).1
 refine ⟨fun i p hp' => ?_, ⟨vs, SqL.of hq.1, by rw [rH, hq.2.length]; exact Nat.le_refl _⟩⟩
 obtain ⟨x, hx, rfl⟩ := wW hp'
 obtain ⟨v, hv, rv⟩ := hq.2.get hx
 refine ⟨⟨vs, v, SqL.of hq.1, hv⟩, fun y H' yl => ?_⟩
 obtain ⟨t, x', ht, e1, e2, yl⟩ := yl
 subst e1 e2
 have e3 := yl vs (SqL.of hq.1)
 rw [hv] at e3
 cases e3
 refine ⟨bw ht _, .tup bF (.cons ?_ (.cons (rv.ex (.of_same (bw ht _))) .nil))⟩
 rw [Nat.zero_add]
 exact .int _
end
end MR
namespace MR
open PySem L2
def gN (i : Nat) (p : PV) (env : Env) : Option Env := some (env.set i (some p))
@[simp] theorem Tn (i : Nat) (p : PV) (env : Env) : gN i p env = (some (env.set i (some p))) := id rfl
@[simp] def gNs : List Nat -> List PV -> Env -> Option Env
 | [], [], env => some env
 | i :: is, p :: ps, env => gNs is ps (env.set i (some p))
 | _, _, _ => none
def gT (is : List Nat) (p : PV) (env : Env) : Option Env := match p with
 | .tup xs => gNs is xs env
 | _ => none
@[simp] theorem JF (is : List Nat) (p : PV) (env : Env) : gT is p env = (match p with
 | .tup xs => gNs is xs env
 | _ => none) := id rfl
def tMG (b : BX) (G : List Nat) (g : PV -> Env -> Option Env) : TG := fun v σ H Q => ∃ Ow env p env', ER b Ow G σ env H /\ Rep b.C (Bs b Ow) H v p /\ g p env = some env' /\ ∀ σ', ER b Ow G σ' env' H -> Q σ' H
def R8 (b : BX) (G : List Nat) (is : List Nat) : TGs := fun vs σ H Q => ∃ Ow env ps env', ER b Ow G σ env H /\ Reps b.C (Bs b Ow) H vs ps /\ gNs is ps env = some env' /\ ∀ σ', ER b Ow G σ' env' H -> Q σ' H
abbrev SG (X : Cx) (b : BX) (G : List Nat) (tg : Expr) (g : PV -> Env -> Option Env) : Prop := PG X tg (tMG b G g)
abbrev SGs (X : Cx) (b : BX) (G : List Nat) (tgs : List Expr) (is : List Nat) : Prop := PGs X tgs (R8 b G is)
theorem PG.imp {X : Cx} {tg : Expr} {t u : TG} (h : PG X tg t) (i : ∀ v σ H Q, u v σ H Q -> t v σ H Q) : PG X tg u := fun pins s σ H v w Q I r q => h pins s σ H v w Q I r (i v σ H Q q)
theorem PGs.imp {X : Cx} {tg : List Expr} {t u : TGs} (h : PGs X tg t) (i : ∀ v σ H Q, u v σ H Q -> t v σ H Q) : PGs X tg u := fun pins s σ H v w Q I r q => h pins s σ H v w Q I r (i v σ H Q q)
section
variable {X : Cx} {b : BX} {G G' L : List Nat} {ro : Bool} {pos : Pos}
theorem p6 (i : Nat) {x : Str} (nd : X.N.Nodup) (hG : i ∉ G := by decide) (hx : b.fx i = none := by first | rfl | assumption) (hi : X.N[i]? = some x := by rfl) (hl : Loc X.env.scope x := by first | exact Or.inl rfl | exact Or.inr rfl)
  (hf : X.fn x = true \/ X.env.scope.names.lookup x = some .local := by first | exact .inl rfl | exact .inr rfl | assumption) : SG X b G (.Name x pos) (gN i) :=
 PG.imp (vR nd hi hl hf) fun v σ H Q ⟨Ow, env, p, env', E, r, e, k⟩ => by cases e; exact k _ (E.set hG r hx)
theorem v9 : SGs X b G [] [] := PGs.imp oY fun vs σ H Q ⟨Ow, env, ps, env', E, r, e, k⟩ => by
 cases ps with
 | nil => cases r; cases e; exact ⟨rfl, k σ E⟩
 | cons p ps => cases e
theorem kZ (i : Nat) {x : Str} {es : List Expr} {is : List Nat} {p1 : Pos} (nd : X.N.Nodup) (h2 : SGs X b G es is) (hG : i ∉ G := by decide) (hx : b.fx i = none := by first | rfl | assumption) (hi : X.N[i]? = some x := by rfl) (hl : Loc X.env.scope x := by first | exact Or.inl rfl | exact Or.inr rfl)
  (hf : X.fn x = true \/ X.env.scope.names.lookup x = some .local := by first | exact .inl rfl | exact .inr rfl | assumption) (hs : (assignEach (.Name x p1 :: es) X.env).map (·.2) = assign (.Name x p1) X.env :: (assignEach es X.env).map (·.2) := by rfl) : SGs X b G (.Name x p1 :: es) (i :: is) :=
 PGs.imp (gF (vR nd hi hl hf) h2 hs) fun vs σ H Q ⟨Ow, env, ps, env', E, r, e, k⟩ => by
  cases ps with
  | nil => cases e
  | cons p ps =>
   cases r with
   | cons r1 r2 => exact ⟨_, _, rfl, Ow, env.set i (some p), ps, env', E.set hG r1 hx, r2, e, k⟩
theorem v_ : ∀ {is : List Nat} {ps : List PV} {env env' : Env}, gNs is ps env = some env' -> ps.length = is.length
 | [], [], _, _, _ => rfl
 | i :: is, p :: ps, env, env', e => by simp [v_ (is := is) (ps := ps) e]
 | [], _ :: _, _, _, e => by cases e
 | _ :: _, [], _, _, e => by cases e
theorem HB {es : List Expr} {k : Nat} {is : List Nat} (h : SGs X b G es is) (hc : X.calm = true := by rfl) (hn : (assignEach es X.env).length = is.length := by rfl) (hst : (assignEach es X.env).findIdx? (·.1) = none := by rfl) (hK : X.K = b.C.K := by rfl) : SG X b G (.Tuple es k pos) (gT is) :=
 PG.imp (qX hc h hn hst) fun v σ H Q ⟨Ow, env, p, env', E, r, e, k⟩ => by
  cases p <;> simp only [gT] at e <;> first | cases e | skip
  rename_i xs
  obtain ⟨a, vs, rfl, ha, ra⟩ := RepB.tup (.inl r)
  rw [hK]
  exact ⟨a, vs, rfl, SqT.of ha, by rw [ra.length]; exact v_ e, Ow, env, xs, env', E, ra, e, k⟩
def bQ (g : PV -> Env -> Option Env) (ds : List Nat) (body : Env -> Option Out) : List PV -> Env -> Option Out
 | [], env => some (.nx env)
 | x :: xs, env => (g x env).bind fun e1 => (body e1).bind fun o => match o with
  | .nx e => bQ g ds body xs (clr ds e)
  | .ct e => bQ g ds body xs (clr ds e)
  | .bk e => some (.nx (clr ds e))
  | .rt p => some (.rt p)
def gf (g : PV -> Env -> Option Env) (src : Env -> Option (List PV)) (ds : List Nat) (body : Env -> Option Out) (env : Env) : Option Out := (src env).bind fun xs => bQ g ds body xs (clr ds env)
@[simp] theorem Ku (g : PV -> Env -> Option Env) (src : Env -> Option (List PV)) (ds : List Nat) (body : Env -> Option Out) (env : Env) : gf g src ds body env = ((src env).bind fun xs => bQ g ds body xs (clr ds env)) := id rfl
theorem jo {tg it : Expr} {body : List Stmt} {g : PV -> Env -> Option Env} {src : Env -> Option (List PV)} {f : Env -> Option Out} (ds : List Nat) (hi : SI X b G true tg it src) (hg : SG X b G tg g) (hb : SSs X b G G G ro body f) (hp : PassesOwn (model X.prog X.w) X.A X.env X.xe) (hc : X.calm = true := by rfl)
  (hs : ∀ x, foldedSetIterable it X.env x = pure x := by intro _; rfl) : SS X b G G L ro (.For tg it body [] pos) (gf g src ds f) := by
 refine PS.imp (Mz hp hc hi hg hb hs) fun D σ H ⟨Ow, env, out, E, hf, k⟩ => ?_
 obtain ⟨ps, hps, hl⟩ := aA hf
 refine ⟨Ow, env, ps, E, hps, fun J H1 s1 iw => ?_⟩
 refine ⟨fun i m σ2 H2 => m = ps.length - i /\ i <= ps.length /\ ∃ Ow2 env2, ER b Ow2 G σ2 env2 H2 /\ Ex (Bs b Ow) H1 (Bs b Ow2) H2 /\ bQ g ds f (ps.drop i) env2 = some out, ⟨ps.length, by simp, Nat.zero_le _, Ow, clr ds env, (E.up s1).clr, Ex.refl _ _, by simpa using hl⟩, ?_⟩
 rintro i m σ2 H2 ⟨rfl, hi, Ow2, env2, E2, x2, l2⟩
 obtain ⟨w1, w2⟩ := iw Ow2 H2 (fun z => by cases z) x2 fun a => E2.fresh
 have xk : Ex (Bs b Ow) H (Bs b Ow2) H2 := (Ex.of_same s1).trans x2
 by_cases hlt : i < ps.length
 ·rw [List.drop_eq_getElem_cons hlt] at l2
  obtain ⟨e1, he1, l2⟩ := aA l2
  obtain ⟨o, ho, l2⟩ := aA l2
  obtain ⟨g1, g2⟩ := w1 i ps[i] (List.getElem?_eq_getElem hlt)
  refine .inr ⟨g1, fun σ' H' => i + 1 <= ps.length /\ ∃ Ow2 env2, ER b Ow2 G σ' env2 H' /\ Ex (Bs b Ow) H1 (Bs b Ow2) H' /\ bQ g ds f (ps.drop (i + 1)) env2 = some out, fun σ' H' q => ⟨ps.length - (i + 1), by omega, rfl, q⟩, fun x H' y => ?_⟩
  obtain ⟨s3, r3⟩ := g2 x H' y
  refine ⟨Ow2, env2, _, e1, E2.up s3, r3, he1, fun σ3 E3 => ⟨Ow2, e1, o, E3, ho, ?_⟩⟩
  cases o with
  | nx e' => exact fun Ow' σ' H'' E' x' => ⟨hlt, Ow', _, E'.clr, x2.trans ((Ex.of_same s3).trans x'), l2⟩
  | ct e' => exact fun Ow' σ' H'' E' x' => ⟨hlt, Ow', _, E'.clr, x2.trans ((Ex.of_same s3).trans x'), l2⟩
  | bk e' => cases l2; exact fun Ow' σ' H'' E' x' => k Ow' σ' H'' E'.clr (xk.trans ((Ex.of_same s3).trans x'))
  | rt p => cases l2; exact k
 ·have e : i = ps.length := by omega
  subst e
  rw [List.drop_length] at l2
  cases l2
  exact .inl ⟨w2, k Ow2 σ2 H2 E2 xk⟩
def jq (c : Env -> Option Bool) (ds : List Nat) (body : Env -> Option Out) : Nat -> Env -> Option Out
 | 0, _ => none
 | n + 1, env => (c env).bind fun k => if k = true then (body env).bind fun o => match o with
   | .nx e => jq c ds body n (clr ds e)
   | .ct e => jq c ds body n (clr ds e)
   | .bk e => some (.nx (clr ds e))
   | .rt p => some (.rt p)
  else some (.nx env)
def vf (n : Nat) (c : Env -> Option Bool) (ds : List Nat) (body : Env -> Option Out) (env : Env) : Option Out := jq c ds body n (clr ds env)
@[simp] theorem FN (n : Nat) (c : Env -> Option Bool) (ds : List Nat) (body : Env -> Option Out) (env : Env) : vf n c ds body env = (jq c ds body n (clr ds env)) := id rfl
theorem Kv {c : Expr} {body : List Stmt} {t : Env -> Option Bool} {f : Env -> Option Out} (n : Nat) (ds : List Nat) (hc : ST X b G c t) (hb : SSs X b G G G ro body f) (hp : PassesOwn (model X.prog X.w) X.A X.env X.xe) : SS X b G G L ro (.While c body [] pos) (vf n t ds f) := by
 refine PS.imp (G4 hp hc hb) fun D σ H ⟨Ow, env, out, E, hf, k⟩ => ?_
 refine ⟨fun m σ2 H2 => ∃ Ow2 env2, ER b Ow2 G σ2 env2 H2 /\ Ex (Bs b Ow) H (Bs b Ow2) H2 /\ jq t ds f m env2 = some out, ⟨n, Ow, clr ds env, E.clr, Ex.refl _ _, hf⟩, ?_⟩
 rintro m σ2 H2 ⟨Ow2, env2, E2, x2, l2⟩
 cases m with
 | zero => cases l2
 | succ m =>
  obtain ⟨kk, hk, l2⟩ := aA l2
  refine ⟨Ow2, env2, kk, E2, hk, fun H3 s3 => ?_⟩
  cases kk with
  | false => cases l2; exact CP (k Ow2 σ2 H3 (E2.up s3) (x2.trans (.of_same s3)))
  | true =>
   refine CQ ⟨fun σ' H' => ∃ Ow2 env2, ER b Ow2 G σ' env2 H' /\ Ex (Bs b Ow) H (Bs b Ow2) H' /\ jq t ds f m env2 = some out, fun σ' H' q => ⟨m, Nat.lt_succ_self m, q⟩, ?_⟩
   obtain ⟨o, ho, l2⟩ := aA l2
   refine ⟨Ow2, env2, o, E2.up s3, ho, ?_⟩
   cases o with
   | nx e' => exact fun Ow' σ' H'' E' x' => ⟨Ow', _, E'.clr, x2.trans ((Ex.of_same s3).trans x'), l2⟩
   | ct e' => exact fun Ow' σ' H'' E' x' => ⟨Ow', _, E'.clr, x2.trans ((Ex.of_same s3).trans x'), l2⟩
   | bk e' => cases l2; exact fun Ow' σ' H'' E' x' => k Ow' σ' H'' E'.clr (x2.trans ((Ex.of_same s3).trans x'))
   | rt p => cases l2; exact k
end
def jg (cap : List (Option Nat)) (env : Env) : Env := cap.map fun o => match o with | some i => (env[i]?).getD none | none => none
@[simp] theorem SM (cap : List (Option Nat)) (env : Env) : jg cap env = (cap.map fun o => match o with | some i => (env[i]?).getD none | none => none) := id rfl
def gK (cap : List (Option Nat)) (G : List Nat) : List Nat := (List.range cap.length).filter fun j => match cap[j]? with | some (some i) => decide (i ∈ G) | _ => false
def BX.in (b : BX) : BX := { b with fx := fun _ => none }
def bz (env : Env) (g : PV -> Env -> Option Env) (t : Env -> Option Bool) (f : Env -> Option PV) : List PV -> Option (List PV)
 | [] => some []
 | x :: xs => (g x env).bind fun e => (t e).bind fun k => if k = true then (f e).bind fun y => (bz env g t f xs).bind fun ys => some (y :: ys) else bz env g t f xs
def aY (cap : List (Option Nat)) (src : Env -> Option (List PV)) (g : PV -> Env -> Option Env) (t : Env -> Option Bool) (f : Env -> Option PV) (env : Env) : Option PV := (src env).bind fun xs => if xs.length <= 1000000 then (bz (jg cap env) g t f xs).bind fun ys => some (.lst ys) else none
@[simp] theorem uF (cap : List (Option Nat)) (src : Env -> Option (List PV)) (g : PV -> Env -> Option Env) (t : Env -> Option Bool) (f : Env -> Option PV) (env : Env) : aY cap src g t f env = ((src env).bind fun xs => if xs.length <= 1000000 then (bz (jg cap env) g t f xs).bind fun ys => some (.lst ys) else none) := id rfl
def aU (env : Env) : Option Bool := some true
@[simp] theorem R9 (env : Env) : aU env = (some true) := id rfl
theorem capG_mem {cap : List (Option Nat)} {G : List Nat} {j : Nat} : j ∈ gK cap G ↔ ∃ i, cap[j]? = some (some i) /\ i ∈ G := by
 unfold gK
 rw [List.mem_filter, List.mem_range]
 constructor
 ·rintro ⟨h1, h2⟩
  split at h2
  ·rename_i i e; exact ⟨i, e, by simpa using h2⟩
  ·cases h2
 ·rintro ⟨i, e, h⟩
  refine ⟨(List.getElem?_eq_some_iff.mp e).1, ?_⟩
  rw [e]; simpa using h
theorem p7 {cap : List (Option Nat)} {env : Env} {j : Nat} {p : PV} (h : (jg cap env)[j]? = some (some p)) : ∃ i, cap[j]? = some (some i) /\ env[i]? = some (some p) := by
 unfold jg at h
 rw [List.getElem?_map] at h
 cases q : cap[j]? with
 | none => rw [q] at h; cases h
 | some o =>
  rw [q] at h
  cases o with
  | none => cases h
  | some i =>
   refine ⟨i, rfl, ?_⟩
   have h' : (env[i]?).getD none = some p := by simpa using h
   cases q2 : env[i]? with
   | none => rw [q2] at h'; cases h'
   | some o => rw [q2] at h'; simp at h'; rw [h']
theorem nW {cap : List (Option Nat)} {σ : St} {j i : Nat} {v : V} (h : cap[j]? = some (some i)) (e : σ[i]? = some (some v)) : (cT cap σ)[j]? = some (some v) := by
 unfold cT
 rw [List.getElem?_map, h]
 simp [q9, e]
def mX (cap : List (Option Nat)) : Bool := (List.range cap.length).all fun j => (List.range cap.length).all fun k => match cap[j]?, cap[k]? with
 | some (some i), some (some i') => decide (i = i' -> j = k)
 | _, _ => true
theorem FP {cap : List (Option Nat)} (h : mX cap = true) {j k i : Nat} (h1 : cap[j]? = some (some i)) (h2 : cap[k]? = some (some i)) : j = k := by
 have a := List.all_eq_true.mp h j (List.mem_range.mpr (List.getElem?_eq_some_iff.mp h1).1)
 have c := List.all_eq_true.mp a k (List.mem_range.mpr (List.getElem?_eq_some_iff.mp h2).1)
 rw [h1, h2] at c
 simpa using c
theorem ER.cap {b : BX} {Ow : Addr -> Prop} {G : List Nat} {σ : St} {env : Env} {H : Hp} {cap : List (Option Nat)} (E : ER b Ow G σ env H) (hc : mX cap = true) : ER b.in Ow (gK cap G) (cT cap σ) (jg cap env) H := by
 refine ⟨by unfold cT jg; rw [List.length_map, List.length_map], E.same, E.live, E.new, fun j p e n => ?_, fun j p e n => ?_, fun j k a p q e1 n1 s1 e2 n2 s2 => ?_, fun k v z => by cases z⟩
 ·obtain ⟨i, h1, h2⟩ := p7 e
  obtain ⟨v, h3, h4⟩ := E.val i p h2 fun z => n (capG_mem.mpr ⟨i, h1, z⟩)
  exact ⟨v, nW h1 h3, h4⟩
 ·obtain ⟨i, h1, h2⟩ := p7 e
  obtain ⟨i', h1', hG⟩ := capG_mem.mp n
  rw [h1] at h1'; cases h1'
  obtain ⟨a, h3, h4, h5⟩ := E.own i p h2 hG
  exact ⟨a, nW h1 h3, h4, h5⟩
 ·obtain ⟨i, h1, h2⟩ := p7 e1
  obtain ⟨i', h1', hG⟩ := capG_mem.mp n1
  rw [h1] at h1'; cases h1'
  obtain ⟨k', h3, h4⟩ := p7 e2
  obtain ⟨k'', h3', hG2⟩ := capG_mem.mp n2
  rw [h3] at h3'; cases h3'
  obtain ⟨c, g1, _, _⟩ := E.own i p h2 hG
  obtain ⟨c2, g2, _, _⟩ := E.own k' q h4 hG2
  have t1 := nW (cap := cap) h1 g1
  have t2 := nW (cap := cap) h3 g2
  rw [s1] at t1; cases t1
  rw [s2] at t2; cases t2
  have := E.sep i k' _ p q h2 hG g1 h4 hG2 g2
  subst this
  exact FP hc h1 h3
theorem ER.more {b : BX} {Ow : Addr -> Prop} {G : List Nat} {σ : St} {env : Env} {H H' : Hp} {D : Addr} (E : ER b Ow G σ env H) (hD : H D = none) (s : Same H H') (hl : ∃ o, H' D = some o) : ER b (fun c => Ow c \/ c = D) G σ env H' /\ Ex (Bs b Ow) H (Bs b fun c => Ow c \/ c = D) H' := by
 have hx : Ex (Bs b Ow) H (Bs b fun c => Ow c \/ c = D) H' := fun c o h => ⟨fun q => ⟨s _ _ h, fun z => z.elim q.1 (aR h hD), q.2⟩, fun _ => s _ _ h⟩
 exact ⟨⟨E.len, E.same.trans s, fun c w => w.elim (fun z => let ⟨o, h⟩ := E.live c z; ⟨o, s _ _ h⟩) fun z => by subst z; exact hl, fun c w => w.elim (E.new c) fun z => by subst z; exact E.same.free hD, fun i p e n => let ⟨v, h1, h2⟩ := E.val i p e n; ⟨v, h1, h2.ex hx⟩,
  fun i p e n => let ⟨a, h1, h2, h3⟩ := E.own i p e n; ⟨a, h1, .inl h2, h3.ex hx fun o z => s _ _ z⟩, E.sep, E.fix⟩, hx⟩
structure TgOk (K : PySem.W.Frag) (cap : List (Option Nat)) (g : TG) (gm : PV -> Env -> Option Env) : Prop where
 go : ∀ (b : BX) (Ow : Addr -> Prop) (G : List Nat) (σ : St) (env e : Env) (H : Hp) (v : V) (p : PV) (Q : St -> Hp -> Prop), b.C.K = K -> (∀ i, b.fx i = none) -> ER b Ow (gK cap G) (cT cap σ) (jg cap env) H -> Rep b.C (Bs b Ow) H v p -> gm p (jg cap env) = some e ->
  (∀ σ', Kp (cT cap σ) σ' -> ER b Ow (gK cap G) σ' e H -> Q σ' H) -> g v (cT cap σ) H Q
theorem FQ {σ σ' : St} {i : Nat} {v : V} (h : Kp σ σ') (hn : ∀ w, σ[i]? ≠ some (some w)) : Kp σ (σ'.set i (some v)) := by
 refine ⟨by rw [List.length_set]; exact h.1, fun j w e => ?_⟩
 by_cases hj : i = j
 ·subst hj; exact absurd e (hn w)
 ·rw [List.getElem?_set_ne hj]; exact h.2 j w e
theorem Bv (σ : St) : Kp σ σ := ⟨rfl, fun _ _ e => e⟩
theorem vg {cap : List (Option Nat)} {σ : St} {i : Nat} (h : cap[i]? = some none) (w : V) : (cT cap σ)[i]? ≠ some (some w) := by
 unfold cT
 rw [List.getElem?_map, h]
 intro z; cases z
theorem wX {cap : List (Option Nat)} {G : List Nat} {i : Nat} (h : cap[i]? = some none) : i ∉ gK cap G := fun z => by
 obtain ⟨k, e, _⟩ := capG_mem.mp z
 rw [h] at e; cases e
theorem dH {K : PySem.W.Frag} {cap : List (Option Nat)} (i : Nat) (h : cap[i]? = some none := by rfl) : TgOk K cap (tu i) (gN i) :=
 ⟨fun b Ow G σ env e H v p Q hK hx E r he k => by
  cases he
  exact k _ (FQ (Bv _) (vg h)) (E.set (wX h) r (hx _))⟩
def zj : List Nat -> TGs
 | [] => Ms
 | i :: is => Jp (tu i) (zj is)
theorem Dj {K : PySem.W.Frag} {cap : List (Option Nat)} (is : List Nat) (h : (is.all fun i => decide (cap[i]? = some none)) = true := by rfl) : TgOk K cap (Mt K is.length (zj is)) (gT is) :=
 ⟨fun b Ow G σ env e H v p Q hK hx E r he k => by
  subst hK
  cases p <;> simp only [gT] at he <;> first | cases he | skip
  rename_i xs
  obtain ⟨a, vs, rfl, ha, ra⟩ := RepB.tup (.inl r)
  refine ⟨a, vs, rfl, SqT.of ha, by rw [ra.length]; exact v_ he, ?_⟩
  have gen : ∀ (is : List Nat) (vs : List V) (xs : List PV) (σ1 : St) (env1 : Env), (is.all fun i => decide (cap[i]? = some none)) = true -> Kp (cT cap σ) σ1 -> ER b Ow (gK cap G) σ1 env1 H -> Reps b.C (Bs b Ow) H vs xs -> gNs is xs env1 = some e -> zj is vs σ1 H Q := by
   intro is
   induction is with
   | nil =>
    intro vs xs σ1 env1 _ kp E1 r1 e1
    cases xs with
    | nil => cases r1; cases e1; exact ⟨rfl, k σ1 kp E1⟩
    | cons x xs => cases e1
   | cons i is ih =>
    intro vs xs σ1 env1 hall kp E1 r1 e1
    cases xs with
    | nil => cases e1
    | cons x xs =>
     cases r1 with
     | cons r2 r3 =>
      rw [List.all_cons, Bool.and_eq_true] at hall
      have hi : cap[i]? = some none := by simpa using hall.1
      exact ⟨_, _, rfl, ih _ xs _ _ hall.2 (FQ kp (vg hi)) (E1.set (wX hi) r2 (hx _)) r3 e1⟩
  exact gen is vs xs _ _ h (Bv _) E ra he⟩
section
variable {X : Cx} {b : BX} {G L : List Nat} {ro : Bool} {pos : Pos} {tg iter elt : Expr} {ifs : List Expr} {scope osc : Scope} {ON N : List Str} {cap : List (Option Nat)} {src : Env -> Option (List PV)} {g : TG} {gm : PV -> Env -> Option Env} {t : Env -> Option Bool} {f : Env -> Option PV}
theorem JG {σ : St} {H : Hp} {Q : VK} (tgo : TgOk b.C.K cap g gm) (hc : mX cap = true) (h : tM b G .own (aY cap src gm t f) σ H Q) :
  yr (tMI b G false src) cap g (tMT b.in (gK cap G) t) (tM b.in (gK cap G) .val f) σ H Q := by
 obtain ⟨Ow, env, p, E, hf, k⟩ := h
 obtain ⟨xs, hxs, hf⟩ := aA hf
 split at hf
 ·rename_i hlen
  obtain ⟨ys, hys, hf⟩ := aA hf
  cases hf
  refine ⟨Ow, env, xs, E, hxs, fun J H1 s1 iw D hD => ?_⟩
  have E1 := E.up s1
  have nD : H D = none := s1.free hD
  refine ⟨fun i m vs H2 => m = xs.length - i /\ i <= xs.length /\ Same H1 H2 /\ H2 D = some (.lst vs) /\ vs.length <= i /\ ∃ done rest, Reps b.C (Bs b fun c => Ow c \/ c = D) H2 vs done /\ bz (jg cap env) gm t f (xs.drop i) = some rest /\ done ++ rest = ys,
   ⟨xs.length, by simp, Nat.zero_le _, bw hD _, bF, Nat.le_refl _, [], ys, .nil, by simpa using hys, rfl⟩, ?_⟩
  rintro i m vs H2 ⟨rfl, hi, s2, d2, hv, done, rest, rd, cl, hdone⟩
  refine ⟨d2, ?_⟩
  obtain ⟨E2, x2⟩ := E1.more hD s2 ⟨_, d2⟩
  obtain ⟨w1, w2⟩ := iw _ H2 (fun _ => s2) x2 fun a => E2.fresh
  by_cases hlt : i < xs.length
  ·rw [List.drop_eq_getElem_cons hlt] at cl
   obtain ⟨e1, he1, cl⟩ := aA cl
   obtain ⟨kk, hk, cl⟩ := aA cl
   obtain ⟨g1, g2⟩ := w1 i xs[i] (List.getElem?_eq_getElem hlt)
   refine .inr ⟨g1, fun vs' H' => i + 1 <= xs.length /\ Same H1 H' /\ H' D = some (.lst vs') /\ vs'.length <= i + 1 /\ ∃ done rest, Reps b.C (Bs b fun c => Ow c \/ c = D) H' vs' done /\ bz (jg cap env) gm t f (xs.drop (i + 1)) = some rest /\ done ++ rest = ys, fun vs' H' q => ⟨xs.length - (i + 1), by omega, rfl, q⟩, fun x H' y => ?_⟩
   obtain ⟨s3, r3⟩ := g2 x H' y
   have E3 := (E2.up s3).cap hc
   refine tgo.go b.in _ G σ env e1 H' x _ _ rfl (fun _ => rfl) E3 r3 he1 fun σ3 kp E4 => ⟨kp, _, e1, kk, E4, hk, fun H4 s4 => ?_⟩
   have d4 : H4 D = some (.lst vs) := s4 _ _ (s3 _ _ d2)
   have s24 : Same H2 H4 := s3.trans s4
   cases kk with
   | false =>
    refine CP ⟨hlt, s2.trans s24, d4, Nat.le_succ_of_le hv, done, rest, rd.ex (.of_same s24), ?_, hdone⟩
    simpa using cl
   | true =>
    simp only [if_true] at cl
    obtain ⟨y1, hy1, cl⟩ := aA cl
    obtain ⟨ys1, hys1, cl⟩ := aA cl
    cases cl
    refine CQ ⟨_, e1, y1, E4.up s4, hy1, fun v5 H5 s5 r5 => ⟨s5 _ _ d4, jH (by omega), hlt, ?_, bF, by rw [List.length_append]; show vs.length + 1 <= i + 1; omega, done ++ [y1], ys1, ?_, hys1, by rw [List.append_assoc]; exact hdone⟩⟩
    ·exact fun c o h => by rw [aO (aR h hD)]; exact s5 _ _ (s24 _ _ (s2 _ _ h))
    ·have r5' : Rep b.C (Bs b fun c => Ow c \/ c = D) H5 v5 y1 := r5
     refine ((rd.ex (.of_same (s24.trans s5))).append (.cons r5' .nil)).ex ?_
     exact mW (b := b) (Ow := fun c => Ow c \/ c = D) (.inr rfl) (s5 _ _ d4) rfl
  ·have e : i = xs.length := by omega
   subst e
   rw [List.drop_length] at cl
   cases cl
   rw [List.append_nil] at hdone
   subst hdone
   refine .inl ⟨w2, k _ H2 (s1.trans s2) ⟨D, rfl, nD, vs, d2, rd.ex (dG fun c o _ q => ⟨⟨fun z => q.1 (.inl z), q.2⟩, fun z => q.1 (.inr z)⟩)⟩⟩
 ·cases hf
theorem bJ {X : Cx} : oG X [] (tMT b G aU) := fun pins s σ H Q I ⟨Ow, env, k, E, hf, kk⟩ => by cases hf; exact Hl pins s σ H Q I (kk H (Same.refl _))
theorem cg (S : CSc osc scope ON N cap) (tgo : TgOk b.C.K cap g gm) (hi : SI X b G false tg iter src) (hg : ∀ C s H fp, PG (X.comp N scope C s H fp) tg g) (ht : ∀ C s H fp, oG (X.comp N scope C s H fp) ifs (tMT b.in (gK cap G) t)) (he : ∀ C s H fp, SE (X.comp N scope C s H fp) b.in (gK cap G) .val elt f)
  (hci : mX cap = true := by rfl) (hc : X.calm = true := by rfl) (hsc : X.env.scope = osc := by rfl) (hN : X.N = ON := by rfl) (hs : ∀ x, foldedSetIterable iter X.env x = pure x := by intro _; rfl) : SE X b G .own (.ListComp elt [⟨tg, iter, ifs, 0⟩] scope pos) (aY cap src gm t f) :=
 PE.imp (Kc S hi hg ht he hc hsc hN hs) fun σ H Q h => JG tgo hci h
theorem lL (i : Nat) {y : Str} {py spos : Pos} (nd : X.N.Nodup) (S : CSc osc scope ON N cap) (tgo : TgOk b.C.K cap g gm) (hi : SI X b G false tg iter src) (hg : ∀ C s H fp, PG (X.comp N scope C s H fp) tg g) (ht : ∀ C s H fp, oG (X.comp N scope C s H fp) ifs (tMT b.in (gK cap G) t)) (he : ∀ C s H fp, SE (X.comp N scope C s H fp) b.in (gK cap G) .val elt f)
  (hG : i ∉ G := by decide) (hx : b.fx i = none := by first | rfl | assumption) (hi' : X.N[i]? = some y := by rfl) (hy : Loc X.env.scope y := by first | exact Or.inl rfl | exact Or.inr rfl) (hci : mX cap = true := by rfl)
  (hsw : swapsWith (.ListComp elt [⟨tg, iter, ifs, 0⟩] scope pos) (some (.Name y py)) spos.line X.env = pure true := by rfl)
  (hc : X.calm = true := by rfl) (hsc : X.env.scope = osc := by rfl) (hN : X.N = ON := by rfl) (hs : ∀ x, foldedSetIterable iter X.env x = pure x := by intro _; rfl)
  (hf : X.fn y = true \/ X.env.scope.names.lookup y = some .local := by first | exact .inl rfl | exact .inr rfl | assumption) :
  SS X b G G L ro (.Assign [.Name y py] (.ListComp elt [⟨tg, iter, ifs, 0⟩] scope pos) spos) (aN i (aY cap src gm t f)) :=
 PS.imp (Kd S nd hi' hy hi hg ht he hsw hc hsc hN hs hf) fun D σ H q => JG tgo hci (by
  obtain ⟨Ow, env, p, E, hf, k⟩ := Ol hG hx q
  exact ⟨Ow, env, p, E, hf, fun v H' s r => k v H' s (r.val E (by intro z; cases z))⟩)
end
def bO (n k : Nat) (ro : Bool) (f : Env -> Option Out) (ps : List PV) : Option PV := if ps.length = k then (f (ps.map some ++ List.replicate (n - k) none)).bind fun o => match o with
 | .nx _ => if ro = true then none else some .non
 | .rt p => some p
 | _ => none
 else none
@[simp] theorem SN (n k : Nat) (ro : Bool) (f : Env -> Option Out) (ps : List PV) : bO n k ro f ps = (if ps.length = k then (f (ps.map some ++ List.replicate (n - k) none)).bind fun o => match o with
 | .nx _ => if ro = true then none else some .non
 | .rt p => some p
 | _ => none
 else none) := id rfl
theorem zm {C : MC} {A : Addr -> Prop} {H : Hp} {N : List Str} {vs : List V} {ps : List PV} {G : List Nat} (r : Reps C A H vs ps) (hG : ∀ i, i ∈ G -> ps.length <= i) (hn : ps.length <= N.length) : ER ⟨C, A, H, fun _ => none⟩ (fun _ => False) G (L2.start N vs) (ps.map some ++ List.replicate (N.length - ps.length) none) H := by
 have hl := r.length
 have old : ∀ i p, (ps.map some ++ List.replicate (N.length - ps.length) none)[i]? = some (some p) -> ps[i]? = some p := fun i p e => by
  by_cases hi : i < ps.length
  ·rw [List.getElem?_append_left (by rw [List.length_map]; exact hi), List.getElem?_map] at e
   cases q : ps[i]? with
   | none => rw [q] at e; cases e
   | some p' => rw [q] at e; cases e; rfl
  ·rw [List.getElem?_append_right (by rw [List.length_map]; omega), List.getElem?_replicate] at e
   split at e <;> cases e
 refine ⟨?_, Same.refl _, fun a w => w.elim, fun a w => w.elim, fun i p e n => ?_, fun i p e n => ?_, fun i j a p q e1 n1 s1 e2 n2 s2 => ?_, fun k v z => by cases z⟩
 ·unfold L2.start
  simp only [List.length_append, List.length_map, List.length_replicate]
  omega
 ·obtain ⟨v, hv, rv⟩ := r.get (old i p e)
  refine ⟨v, ?_, rv.ex (dG fun a o _ q => ⟨fun z => z, .inl q⟩)⟩
  unfold L2.start
  have hi : i < vs.length := (List.getElem?_eq_some_iff.mp hv).1
  rw [List.getElem?_append_left (by rw [List.length_map]; exact hi), List.getElem?_map, hv]
  rfl
 ·have h1 := (List.getElem?_eq_some_iff.mp (old i p e)).1
  have h2 := hG i n
  omega
 ·have h1 := (List.getElem?_eq_some_iff.mp (old i p e1)).1
  have h2 := hG i n1
  omega
theorem Bw {X : Cx} {C : MC} {N : List Str} {n k : Nat} {G G' L : List Nat} {ro : Bool} {body : List Stmt} {f : Env -> Option Out} (hN : N.length = n) (hk : k <= n) (hG : (G.all fun i => decide (k <= i)) = true) (hb : ∀ A H, SSs X ⟨C, A, H, fun _ => none⟩ G G' L ro body f)
  {vs : List V} {H : Hp} {Q : VK} {E : XK} (h : spM C (bO n k ro f) ro vs H Q E) : ∃ t, PSs X body t /\ t { nx := fun _ H' => Q .non H', rt := Q } (L2.start N vs) H := by
 obtain ⟨A, ps, p, r, hm, kk⟩ := h
 refine ⟨_, hb A H, ?_⟩
 unfold bO at hm
 split at hm
 ·rename_i hl
  obtain ⟨o, ho, hm⟩ := aA hm
  refine ⟨_, _, o, zm (N := N) (G := G) r (fun i hi => by rw [hl]; simpa using List.all_eq_true.mp hG i hi) (by omega), by rw [hN, hl]; exact ho, ?_⟩
  cases o with
  | nx e =>
   cases ro with
   | true => cases hm
   | false => cases hm; exact fun Ow' σ' H' E' _ => kk .non H' E'.same .non
  | rt q => cases hm; exact fun v H' s rr => kk v H' s rr
  | bk e => cases hm
  | ct e => cases hm
 ·cases hm
theorem Kw {C : MC} {n k : Nat} {f : Env -> Option Out} {ro ro' : Bool} {vs : List V} {H : Hp} {Q : VK} {E : XK} (h : spM C (bO n k ro' f) ro vs H Q E) : vs.length = k := by
 obtain ⟨A, ps, p, r, hm, kk⟩ := h
 unfold bO at hm
 split at hm
 ·rename_i hl; rw [r.length]; exact hl
 ·cases hm
def tH (n k c : Nat) (f : Env -> Option Out) (ps : List PV) : Option (List (Str × PV)) := if ps.length + 1 = k then (f (some (.obj c []) :: (ps.map some ++ List.replicate (n - k) none))).bind fun o => match o with
 | .nx (some (.obj c' fs) :: _) => if c' = c then some fs else none
 | _ => none
 else none
@[simp] theorem R_ (n k c : Nat) (f : Env -> Option Out) (ps : List PV) : tH n k c f ps = (if ps.length + 1 = k then (f (some (.obj c []) :: (ps.map some ++ List.replicate (n - k) none))).bind fun o => match o with
 | .nx (some (.obj c' fs) :: _) => if c' = c then some fs else none
 | _ => none
 else none) := id rfl
def spI (C : MC) (c : Nat) (m : List PV -> Option (List (Str × PV))) : Sp := fun vs H Q _ => ∃ A ps fs x dx us, vs = .ref x :: us /\ H x = some (.ins (C.cl c) dx []) /\ ¬ A x /\ Reps C A H us ps /\ m ps = some fs /\
 ∀ H', (∀ a o, a ≠ x -> H a = some o -> H' a = some o) -> Top C (fun z => (A z \/ H z = none) /\ z ≠ x) H' x (.obj c fs) -> Q .non H'
theorem Ky {X : Cx} {C : MC} {N : List Str} {n k c : Nat} {G G' L : List Nat} {body : List Stmt} {f : Env -> Option Out} (hN : N.length = n) (hk : k <= n) (hG0 : 0 ∈ G) (hG1 : 0 ∈ G') (hG : (G.all fun i => decide (i = 0 \/ k <= i)) = true) (hb : ∀ A H x, SSs X ⟨C, A, H, fx0 x⟩ G G' L false body f)
  {vs : List V} {H : Hp} {Q : VK} {E : XK} (h : spI C c (tH n k c f) vs H Q E) : ∃ t, PSs X body t /\ t { nx := fun _ H' => Q .non H', rt := Q } (L2.start N vs) H := by
 obtain ⟨A, ps, fs, x, dx, us, rfl, hx, nA, r, hm, kk⟩ := h
 refine ⟨_, hb A (fun a => if a = x then none else H a) (.ref x), ?_⟩
 unfold tH at hm
 split at hm
 ·rename_i hl
  obtain ⟨o, ho, hm2⟩ := aA hm
  clear hm
  have hus := r.length
  have old : ∀ i p, (ps.map some ++ List.replicate (n - k) none)[i]? = some (some p) -> ps[i]? = some p := fun i p e => by
   by_cases hi : i < ps.length
   ·rw [List.getElem?_append_left (by rw [List.length_map]; exact hi), List.getElem?_map] at e
    cases q : ps[i]? with
    | none => rw [q] at e; cases e
    | some p' => rw [q] at e; cases e; rfl
   ·rw [List.getElem?_append_right (by rw [List.length_map]; omega), List.getElem?_replicate] at e
    split at e <;> cases e
  have low : ∀ i, i + 1 ∈ G -> ∀ p, (ps.map some ++ List.replicate (n - k) none)[i]? = some (some p) -> False := fun i hi p e => by
   have h1 := (List.getElem?_eq_some_iff.mp (old i p e)).1
   have h2 : i + 1 = 0 \/ k <= i + 1 := by simpa using List.all_eq_true.mp hG (i + 1) hi
   omega
  have E0 : ER ⟨C, A, fun a => if a = x then none else H a, fx0 (.ref x)⟩ (fun a => a = x) G (L2.start N (.ref x :: us)) (some (.obj c []) :: (ps.map some ++ List.replicate (n - k) none)) H := by
   refine ⟨?_, fun a o e => ?_, fun a w => ?_, fun a w => ?_, fun i p e n => ?_, fun i p e n => ?_, fun i j a p q e1 n1 s1 e2 n2 s2 => ?_, fun k v z => ?_⟩
   ·unfold L2.start
    simp only [List.length_append, List.length_map, List.length_replicate, List.length_cons]
    omega
   ·have e' : (if a = x then none else H a) = some o := e
    split at e'
    ·cases e'
    ·exact e'
   ·subst w; exact ⟨_, hx⟩
   ·subst w; show (if a = a then none else H a) = none; rw [if_pos rfl]
   ·cases i with
    | zero => exact absurd hG0 n
    | succ i =>
     rw [List.getElem?_cons_succ] at e
     obtain ⟨v, hv, rv⟩ := r.get (old i p e)
     refine ⟨v, ?_, rv.ex (dG fun a o _ q => ⟨fun z => nA (z ▸ q), .inl q⟩)⟩
     have hi : i < us.length := (List.getElem?_eq_some_iff.mp hv).1
     show ((V.ref x :: us).map some ++ _)[i + 1]? = _
     rw [List.map_cons, List.cons_append, List.getElem?_cons_succ, List.getElem?_append_left (by rw [List.length_map]; exact hi), List.getElem?_map, hv]
     rfl
   ·cases i with
    | zero => cases e; exact ⟨x, rfl, rfl, dx, [], hx, .nil⟩
    | succ i => exact (low i n p e).elim
   ·cases i with
    | zero =>
     cases j with
     | zero => rfl
     | succ j => exact (low j n2 q e2).elim
    | succ i => exact (low i n1 p e1).elim
   ·cases k with
    | zero => cases z; rfl
    | succ k => cases z
  refine ⟨_, _, o, E0, ho, ?_⟩
  cases o with
  | nx e =>
   cases e with
   | nil => cases hm2
   | cons s0 rest =>
    cases s0 with
    | none => cases hm2
    | some p0 =>
     cases p0 <;> simp only at hm2 <;> first | cases hm2 | skip
     rename_i c' fs'
     split at hm2
     ·rename_i hcc
      subst hcc
      cases hm2
      intro Ow' σ' H' E' _
      obtain ⟨a, h1, h2, h3⟩ := E'.own 0 _ rfl hG1
      have h4 := E'.fix 0 (.ref x) rfl
      rw [h1] at h4
      cases h4
      refine kk H' (fun a o na e => E'.same a o (by show (if a = x then none else H a) = some o; rw [if_neg na]; exact e)) (h3.ex (dG fun z o _ q => ?_) fun o z => z)
      have nz : z ≠ x := fun y => q.1 (y ▸ h2)
      refine ⟨q.2.imp id fun y => ?_, nz⟩
      have y' : (if z = x then none else H z) = none := y
      rwa [if_neg nz] at y'
     ·cases hm2
  | rt q => cases hm2
  | bk e => cases hm2
  | ct e => cases hm2
 ·cases hm
theorem Kz {C : MC} {n k c c' : Nat} {f : Env -> Option Out} {vs : List V} {H : Hp} {Q : VK} {E : XK} (h : spI C c' (tH n k c f) vs H Q E) : vs.length = k := by
 obtain ⟨A, ps, fs, x, dx, us, rfl, hx, nA, r, hm, kk⟩ := h
 unfold tH at hm
 split at hm
 ·rename_i hl; rw [List.length_cons, r.length]; exact hl
 ·cases hm
structure CalI (P : Program) (w : World) (K : PySem.W.Frag) (mg : Str -> Option Value) (base : Heap) (C : Addr) (k : Nat) (x : Str) (ps : List Str) (sp : Sp) : Prop where
 ex : ∃ f fd, FnOk P w K mg base CX0 k f fd ps sp /\ Binds K fd ps [] /\ Mk K C f /\ mg x = some (.ref C)
def yC (c : Nat) (m : List PV -> Option (List (Str × PV))) (g : Env -> Option (List PV)) (env : Env) : Option PV := (g env).bind fun ps => (m ps).bind fun fs => some (.obj c fs)
@[simp] theorem Sd (c : Nat) (m : List PV -> Option (List (Str × PV))) (g : Env -> Option (List PV)) (env : Env) : yC c m g env = ((g env).bind fun ps => (m ps).bind fun fs => some (.obj c fs)) := id rfl
section
variable {X : Cx} {b : BX} {G : List Nat} {pos p : Pos} {e : Expr} {es : List Expr} {g : Env -> Option (List PV)}
theorem HD {c : Nat} {mi : List PV -> Option (List (Str × PV))} {L : Bool} {σ : St} {H : Hp} {Q : VK} {Ow : Addr -> Prop} {env : Env} {qs : List PV} {fs : List (Str × PV)} (E : ER b Ow G σ env H) (q1 : g env = some qs) (q2 : mi qs = some fs) (hl : L = true -> zg fs = true)
  (kk : ∀ v H', Same H H' -> Res b Ow H H' .own v (.obj c fs) -> Q v H') : Js (b.C.cl c) (spI b.C c mi) [] E0 (tMA b G L g) σ H Q := by
 refine ⟨Ow, env, qs, E, q1, fun vs H1 s1 r x dx hx hdx hne => ?_⟩
 rw [List.append_nil]
 have s2 : Same H1 (upd (upd H1 dx (.own x)) x (.ins (b.C.cl c) dx [])) := fun a o h => by rw [aO (aR h hx), aO (aR h hdx)]; exact h
 have nw : (upd (upd H1 dx (.own x)) x (.ins (b.C.cl c) dx [])) x = some (.ins (b.C.cl c) dx []) := bF
 refine ⟨fun a => ArA b Ow L H1 a /\ a ≠ x, qs, fs, x, dx, vs, rfl, nw, fun z => z.2 rfl, r.ex fun a o h => ⟨fun q => ⟨s2 _ _ h, q, aR h hx⟩, fun _ => s2 _ _ h⟩, q2, fun H' hH t => ⟨rfl, kk _ H' ?_ ⟨x, rfl, s1.free hx, ?_⟩⟩⟩
 ·exact fun a o h => hH a o (aR (s1 _ _ h) hx) (s2 _ _ (s1 _ _ h))
 ·obtain ⟨dx', f, h1, h2⟩ := t
  refine ⟨dx', f, h1, ?_⟩
  have keep : ∀ a o, H1 a = some o -> H' a = some o := fun a o h => hH a o (aR h hx) (s2 _ _ h)
  have old : ∀ a, (upd (upd H1 dx (.own x)) x (.ins (b.C.cl c) dx [])) a = none -> H1 a = none := fun a h => s2.free h
  cases L with
  | false => exact h2.ex (dG fun z o _ q => ⟨q.1.elim (fun y => y.1.elim id fun y' => by cases y'.1) fun y => (E.up s1).fresh (old z y), q.2⟩)
  | true =>
   refine h2.nl (fun a o ha z => ?_) (hl rfl)
   rcases z with ⟨(⟨z | ⟨_, us, z⟩, _⟩ | z), nz⟩
   ·exact .inl ⟨z, nz⟩
   ·have := keep _ _ z
    rw [this] at ha
    exact .inr ⟨us, (Option.some.inj ha).symm⟩
   ·exact .inl ⟨(E.up s1).fresh (old a z), nz⟩
theorem KC {c k j : Nat} {x : Str} {ps : List Str} {mi : List PV -> Option (List (Str × PV))} (cI : CalI X.prog X.w X.K X.mg X.base (b.C.cl c) k x ps (spI b.C c mi)) (hr : Room j X.A) (ha : SA X b G false (e :: es) g) (hle : k + 1 <= j := by decide) (hg : Gl X x := by rfl)
  (hdb : (x == ("__debug__" : Str)) = false := by decide) (he : starEach (e :: es) X.env = (false, eval e X.env) :: starEach es X.env := by rfl) (hpl : (backTo pos (starEach es X.env)).any (·.1) = false := by rfl) :
  SE X b G .own (.Call (.Name x p) (e :: es) [] pos) (yC c mi g) := by
 obtain ⟨f, fd, F, hb, hM, hm⟩ := cI.ex
 refine PE.imp (J2 hM F (hr.mono hle) hg hm hb .nil CN ha hdb he hpl) fun σ H Q ⟨Ow, env, q, E, hf, kk⟩ => ?_
 obtain ⟨qs, q1, hf⟩ := aA hf
 obtain ⟨fs, q2, hf⟩ := aA hf
 cases hf
 exact HD E q1 q2 (fun z => by cases z) kk
@[simp] def tyN : PV -> Option String
 | .non => some "NoneType"
 | .bl _ => some "bool"
 | .int _ => some "int"
 | .str _ => some "str"
 | .lst _ => some "list"
 | .tup _ => some "tuple"
 | .dK _ => some "dict"
 | .dT _ => some "dict"
 | _ => none
def HF (tb : List (String × Bool)) (p : PV) : Option PV := (tyN p).bind fun t => (tb.lookup t).bind fun k => some (.bl k)
@[simp] theorem SQ (tb : List (String × Bool)) (p : PV) : HF tb p = ((tyN p).bind fun t => (tb.lookup t).bind fun k => some (.bl k)) := id rfl
theorem RepB.ty {C : MC} {A : Addr -> Prop} {H : Hp} {v : V} {p : PV} {t : String} (r : RepB C A H v p) (h : tyN p = some t) : TyOf C.K H v (.type t) := by
 cases p <;> simp only [tyN] at h <;> cases h
 ·rw [r.non]; exact .non
 ·rw [r.bl]; exact .bl _
 ·rw [r.int]; exact .int _
 ·rw [r.str]; exact .str _
 ·obtain ⟨a, vs, rfl, ha, _⟩ := r.lst; exact .lst ha
 ·obtain ⟨a, vs, rfl, ha, _⟩ := r.tup; exact .tup ha
 ·obtain ⟨a, vs, rfl, ha, _⟩ := r.dK; exact .dK ha
 ·obtain ⟨a, vs, rfl, ha, _⟩ := r.dT; exact .dT ha
theorem zp {α β : Type} [BEq α] [LawfulBEq α] {x : α} {y : β} : ∀ {l : List (α × β)}, l.lookup x = some y -> (x, y) ∈ l
 | [], h => by cases h
 | (a, c) :: r, h => by
  rw [List.lookup_cons] at h
  cases q : x == a with
  | true => rw [q] at h; cases h; have := eq_of_beq q; subst this; exact List.mem_cons_self
  | false => rw [q] at h; exact List.mem_cons_of_mem _ (zp h)
theorem Ot {m : Md} {f : Env -> Option PV} {n : Str} {n' : String} {p1 : Pos} (tb : List (String × Bool)) (hk : ∀ t k, (t, k) ∈ tb -> PySem.W.kitOne X.K (.type t) (.type n') = some k) (hm : X.mg "isinstance" = none) (hmn : X.mg n = none) (hbn : bootBuiltins n = some (.type n')) (h : SE X b G m e f) (hK : X.K = b.C.K := by rfl) (hg : Gl X "isinstance" := by rfl) (hgn : Gl X n := by rfl)
  (hbi : bootBuiltins "isinstance" = some (.builtin "isinstance") := by decide +kernel) (hn1 : n ≠ "__name__" := by decide) (hd : (n == ("__debug__" : Str)) = false := by decide)
  (he : starEach [e, .Name n p1] X.env = (false, eval e X.env) :: starEach [.Name n p1] X.env := by rfl) (he2 : starEach [.Name n p1] X.env = (false, eval (.Name n p1) X.env) :: starEach [] X.env := by rfl) (hpl : (backTo pos (starEach [.Name n p1] X.env)).any (·.1) = false := by rfl) :
  SE X b G .val (.Call (.Name "isinstance" p) [e, .Name n p1] [] pos) (b1 (HF tb) f) := by
 refine PE.imp (pO Am hg hm hbi (dC h.bor (dC (Bc (v := .ty n') hgn hmn hbn rfl hn1 hd) h_ he2) he) (by decide) (by decide) he hpl) fun σ H Q ⟨Ow, env, q, E, hf, kk⟩ => ?_
 obtain ⟨p1, hp1, hf⟩ := aA hf
 obtain ⟨t, ht, hf⟩ := aA hf
 obtain ⟨k, hk', hf⟩ := aA hf
 cases hf
 refine ⟨Ow, env, p1, E, hp1, fun v H1 s r => ?_⟩
 have r1 : RepB b.C (Bs b Ow) H1 v p1 := r
 exact ⟨v, n', .type t, k, rfl, by rw [hK]; exact r1.ty ht, hk t k (zp hk'), kk _ H1 s (.bl k)⟩
end
end MR
namespace MR
open PySem L2
def BX.fixed (b : BX) (j : Nat) (v : V) : BX := { b with fx := fun i => if i = j then some v else b.fx i }
section
variable {X : Cx} {b : BX} {G G' L : List Nat} {ro : Bool} {pos : Pos}
theorem ER.free {Ow Ow' : Addr -> Prop} {σ σ' : St} {env env' : Env} {H H' : Hp} {j : Nat} {v : V} (E0 : ER b Ow G σ env H) (h : σ[j]? = some (some v)) (E : ER (b.fixed j v) Ow' G' σ' env' H') : ER b Ow' G' σ' env' H' :=
 ⟨E.len, E.same, E.live, E.new, E.val, E.own, E.sep, fun i w e => by
  by_cases hi : i = j
  ·subst hi
   have h1 := E0.fix i w e
   rw [h] at h1
   cases h1
   exact E.fix i v (if_pos rfl)
  ·exact E.fix i w ((if_neg hi).trans e)⟩
def uG (xs ys : List PV) : List PV := List.zipWith (fun x y => .tup [x, y]) xs ys
def iZ (f g : Env -> Option PV) (env : Env) : Option (List PV) := (f env).bind fun p => (g env).bind fun q => match p, q with
 | .lst xs, .lst ys => some (uG xs ys)
 | _, _ => none
@[simp] theorem Tp (f g : Env -> Option PV) (env : Env) : iZ f g env = ((f env).bind fun p => (g env).bind fun q => match p, q with
 | .lst xs, .lst ys => some (uG xs ys)
 | _, _ => none) := id rfl
theorem Ou {fr : Bool} {m1 m2 : Md} {e1 e2 : Expr} {h1 h2 : Env -> Option PV} {es : List Expr} {x1 : Nat} {tpos p pos : Pos} (hm : X.mg "zip" = none) (he : SE X b G m1 e1 h1) (he2 : SE X b G m2 e2 h2) (hmd : fr = true -> m1 ≠ .bor) (hmd2 : fr = true -> m2 ≠ .bor) (hK : X.K = b.C.K := by rfl) (hg : Gl X "zip" := by rfl)
  (hs : starEach [e1, e2] X.env = (false, eval e1 X.env) :: starEach [e2] X.env := by rfl) (hs2 : starEach [e2] X.env = (false, eval e2 X.env) :: starEach [] X.env := by rfl) (hp : (backTo pos (starEach [e2] X.env)).any (·.1) = false := by rfl) :
  SI X b G fr (.Tuple es x1 tpos) (.Call (.Name "zip" p) [e1, e2] [] pos) (iZ h1 h2) := by
 refine PI.imp (NP hg hm (dC he (dC he2 h_ hs2) hs) hs hp) fun σ H R ⟨Ow, env, ps, E, hf, k⟩ => ?_
 rw [hK]
 obtain ⟨p1, hp1, hps1⟩ := aA hf
 clear hf
 obtain ⟨p2, hp2, hps⟩ := aA hps1
 clear hps1
 refine ⟨Ow, env, p1, E, hp1, fun v H1 s r => ⟨Ow, env, p2, E.up s, hp2, fun v2 H2 s2 r2 => ?_⟩⟩
 have r' : Res b Ow H H2 m1 v p1 := Res.up r s2
 have b1 : RepB b.C (Bs b Ow) H2 v p1 := r'.bor
 have b2 : RepB b.C (Bs b Ow) H2 v2 p2 := r2.bor
 cases p1 <;> cases p2 <;> simp only at hps <;> cases hps
 rename_i xs ys
 obtain ⟨a, vs, rfl, ha, ra⟩ := b1.lst
 obtain ⟨c, us, rfl, hc, rc⟩ := b2.lst
 refine ⟨a, c, rfl, ⟨vs, SqL.of ha⟩, ⟨us, SqL.of hc⟩, k _ _ (s.trans s2) fun Ow' H3 h0 hx hn => ?_⟩
 have hq : H3 a = some (.lst vs) /\ Reps b.C (Bs b Ow') H3 vs xs := by
  refine ⟨?_, ra.ex hx⟩
  cases fr with
  | false => exact h0 rfl _ _ ha
  | true =>
   have rv : Rep b.C (Bs b Ow) H2 (.ref a) (.lst _) := r'.val E (hmd rfl)
   cases rv with
   | lst q1 q2 q3 => rw [ha] at q1; cases q1; exact ((hx _ _ ha).1 q2).1
 have hq2 : H3 c = some (.lst us) /\ Reps b.C (Bs b Ow') H3 us ys := by
  refine ⟨?_, rc.ex hx⟩
  cases fr with
  | false => exact h0 rfl _ _ hc
  | true =>
   have rv : Rep b.C (Bs b Ow) H2 (.ref c) (.lst _) := r2.val (E.up s) (hmd2 rfl)
   cases rv with
   | lst q1 q2 q3 => rw [hc] at q1; cases q1; exact ((hx _ _ hc).1 q2).1
 refine ⟨fun i p hp' => ?_, ⟨vs, us, SqL.of hq.1, SqL.of hq2.1, ?_⟩⟩
 ·unfold uG at hp'
  rw [List.getElem?_zipWith] at hp'
  cases qx : xs[i]? with
  | none => rw [qx] at hp'; simp at hp'
  | some x =>
   cases qy : ys[i]? with
   | none => rw [qx, qy] at hp'; simp at hp'
   | some y =>
    rw [qx, qy] at hp'
    cases hp'
    obtain ⟨v, hv, rv⟩ := hq.2.get qx
    obtain ⟨u, hu, ru⟩ := hq2.2.get qy
    refine ⟨⟨vs, v, us, u, SqL.of hq.1, hv, SqL.of hq2.1, hu⟩, fun z H' yl => ?_⟩
    obtain ⟨t, x', y', ht, e1, e2, y1, y2⟩ := yl
    subst e1 e2
    have e3 := y1 vs (SqL.of hq.1)
    have e4 := y2 us (SqL.of hq2.1)
    rw [hv] at e3
    rw [hu] at e4
    cases e3
    cases e4
    exact ⟨bw ht _, .tup bF (.cons (rv.ex (.of_same (bw ht _))) (.cons (ru.ex (.of_same (bw ht _))) .nil))⟩
 ·have l1 := hq.2.length
  have l2 := hq2.2.length
  unfold uG
  rw [List.length_zipWith]
  omega
end
end MR
namespace L2
open PySem PySem.Spec PyProof.Rows
section
variable {X : Cx}
end
end L2
namespace MR
open PySem L2
section
variable {X : Cx} {b : BX} {G G' L : List Nat} {ro : Bool} {pos p : Pos} {m m1 m2 : Md} {e e1 e2 : Expr} {f f1 f2 : Env -> Option PV}
end
end MR
namespace MR
open PySem L2
section
variable {X : Cx} {b : BX} {G G' L : List Nat} {ro : Bool} {pos p : Pos} {m m1 m2 : Md} {e e1 e2 : Expr} {f f1 f2 h : Env -> Option PV}
end
end MR
namespace MR
open PySem L2
section
variable {X : Cx} {b : BX} {G G' L : List Nat} {ro : Bool} {pos p p2 pos2 : Pos} {m m1 m2 : Md} {e e1 e2 : Expr} {f f1 f2 h : Env -> Option PV}
end
end MR
namespace MR
theorem zq {α : Type} {n : Nat} {us : List α} (hl : us.length = n + 1) : ∃ a r, us = a :: r /\ r.length = n := by
 cases us with
 | nil => cases hl
 | cons a r => exact ⟨a, r, rfl, Nat.succ.inj hl⟩
@[elab_as_elim] theorem len0 {α : Type} {P : List α -> Prop} (us : List α) (hl : us.length = 0) (h : P []) : P us := by
 cases us with
 | nil => exact h
 | cons a r => cases hl
@[elab_as_elim] theorem Ov {α : Type} {P : List α -> Prop} (us : List α) (hl : us.length = 1) (h : ∀ a, P [a]) : P us := by
 obtain ⟨a, r, rfl, hr⟩ := zq hl
 exact len0 (P := fun r => P (a :: r)) r hr (h a)
@[elab_as_elim] theorem Ox {α : Type} {P : List α -> Prop} (us : List α) (hl : us.length = 2) (h : ∀ a b, P [a, b]) : P us := by
 obtain ⟨a, r, rfl, hr⟩ := zq hl
 exact Ov (P := fun r => P (a :: r)) r hr (h a)
@[elab_as_elim] theorem Oz {α : Type} {P : List α -> Prop} (us : List α) (hl : us.length = 3) (h : ∀ a b c, P [a, b, c]) : P us := by
 obtain ⟨a, r, rfl, hr⟩ := zq hl
 exact Ox (P := fun r => P (a :: r)) r hr (h a)
@[elab_as_elim] theorem Sg {α : Type} {P : List α -> Prop} (us : List α) (hl : us.length = 4) (h : ∀ a b c d, P [a, b, c, d]) : P us := by
 obtain ⟨a, r, rfl, hr⟩ := zq hl
 exact Oz (P := fun r => P (a :: r)) r hr (h a)
@[elab_as_elim] theorem Sh {α : Type} {P : List α -> Prop} (us : List α) (hl : us.length = 5) (h : ∀ a b c d e, P [a, b, c, d, e]) : P us := by
 obtain ⟨a, r, rfl, hr⟩ := zq hl
 exact Sg (P := fun r => P (a :: r)) r hr (h a)
end MR
namespace L2
open PySem PySem.Spec PyProof PyProof.Rows
section
variable {X : Cx}
end
end L2
namespace MR
open PySem L2
section
variable {X : Cx} {b : BX} {G G' L : List Nat} {pos p p2 pos2 : Pos} {m m1 m2 : Md} {e : Expr} {f : Env -> Option PV}
@[simp] def intsP : List PV -> Option (List Int)
 | [] => some []
 | .int c :: r => (intsP r).map (c :: ·)
 | _ :: _ => none
theorem Reps.intsP {C : MC} {A : Addr -> Prop} {H : Hp} : ∀ {vs : List V} {ps : List PV} {bs : List Int}, Reps C A H vs ps -> intsP ps = some bs -> vs = bs.map V.int
 | _, _, _, .nil, e => by cases e; rfl
 | _, _, _, .cons (p := p) (ps := ps) h t, e => by
  cases p <;> simp only [MR.intsP] at e <;> first | cases e | skip
  rename_i c
  cases q : MR.intsP ps with
  | none => rw [q] at e; cases e
  | some bs => rw [q] at e; cases e; cases h; rw [Reps.intsP t q]; rfl
end
end MR
namespace L2
open PySem PySem.Spec PyProof PyProof.Rows
def rJ : List Int -> Int
 | [] => 0
 | a :: l => l.foldl (fun m x => if m < x then x else m) a
theorem vh : ∀ (l : List Int) (a : Int), a <= l.foldl (fun m x => if m < x then x else m) a /\ ∀ x ∈ l, x <= l.foldl (fun m x => if m < x then x else m) a
 | [], a => ⟨Int.le_refl _, fun x hx => by cases hx⟩
 | b :: l, a => by
  obtain ⟨h1, h2⟩ := vh l (if a < b then b else a)
  have hg : a <= (if a < b then b else a) /\ b <= (if a < b then b else a) := by split <;> omega
  rw [List.foldl_cons]
  generalize (if a < b then b else a) = g at *
  refine ⟨Int.le_trans hg.1 h1, fun x hx => ?_⟩
  rcases List.mem_cons.mp hx with e | e
  ·subst e; exact Int.le_trans hg.2 h1
  ·exact h2 x e
theorem uo : ∀ (l : List Int) (a : Int), l.foldl (fun m x => if m < x then x else m) a = a \/ l.foldl (fun m x => if m < x then x else m) a ∈ l
 | [], a => .inl rfl
 | b :: l, a => by
  rw [List.foldl_cons]
  rcases uo l (if a < b then b else a) with h | h
  ·rw [h]
   split
   ·exact .inr (by simp)
   ·exact .inl rfl
  ·exact .inr (List.mem_cons_of_mem _ h)
theorem wY {l : List Int} {M : Int} (hm : M ∈ l) (hg : ∀ a ∈ l, a <= M) : rJ l = M := by
 cases l with
 | nil => cases hm
 | cons a l =>
  obtain ⟨h1, h2⟩ := vh l a
  have h3 : rJ (a :: l) = l.foldl (fun m x => if m < x then x else m) a := rfl
  rw [h3]
  have h4 : M <= l.foldl (fun m x => if m < x then x else m) a := by
   rcases List.mem_cons.mp hm with e | e
   ·subst e; exact h1
   ·exact h2 M e
  have h5 : l.foldl (fun m x => if m < x then x else m) a <= M := by
   rcases uo l a with e | e
   ·rw [e]; exact hg a (by simp)
   ·exact hg _ (List.mem_cons_of_mem _ e)
  omega
section
variable {X : Cx}
theorem FT (hc : X.calm = true := by rfl) : CallR X (.builtin "max") (fun xs H Q => ∃ (p : Addr) (ns : List Int), xs = [.ref p] /\ SqL X.K H p (ns.map V.int) /\ ns ≠ [] /\ Q (.int (rJ ns)) H) := by
 intro pins s σ H xs us Q I r h
 obtain ⟨l, ns, rfl, hq, hne, q⟩ := h
 obtain ⟨u, rfl, rx⟩ := vals1 r
 cases rx
 obtain ⟨its, r', pl, hz⟩ := I.list hq
 have hi := intsAre_of r'
 obtain ⟨ys, hy⟩ := hi.allInts.items
 have hl : s.heap.IsList l (intItems ys) := hy ▸ pl.isList
 have e1 : ns = ys.toList.map (·.1) := by
  rw [← nums_intItems, ← hy]
  exact (show numsOf its.toArray.toList = ns from hi.numsOf).symm
 have hsz : 0 < ys.size := by
  rcases Nat.eq_zero_or_pos ys.size with z | z
  ·exfalso
   apply hne
   rw [e1]
   have : ys.toList = [] := List.length_eq_zero_iff.mp (by rw [Array.length_toList]; exact z)
   rw [this]
   rfl
  ·exact z
 refine max_intList (I.ok.hd hc) hl hsz fun v h' tk hv hk => ?_
 obtain ⟨t, rfl⟩ := intItems_at hv
 obtain ⟨h1, h2⟩ := argBest_gt (numAt ys) (ys.size - 1)
 have hmx : rJ ns = numAt ys (argBest (fun i j => decide (numAt ys i > numAt ys j)) (ys.size - 1)) := by
  refine wY ?_ fun a ha => ?_
  ·rw [e1, numAt_eq]; exact getD_mem (by rw [List.length_map, Array.length_toList]; omega)
  ·rw [e1] at ha
   obtain ⟨j, hj, rfl⟩ := mem_getD ha
   rw [List.length_map, Array.length_toList] at hj
   rw [← numAt_eq]; exact h2 j (by omega)
 exact ⟨.int (rJ ns), H, I.kept hk, ⟨t, by rw [hmx]⟩, q⟩
end
end L2
namespace MR
open PySem L2
section
variable {X : Cx} {b : BX} {G : List Nat} {pos p : Pos} {m1 : Md} {e : Expr} {f : Env -> Option PV}
@[simp] def tK : PV -> Option PV
 | .lst (x :: xs) => (intsP (x :: xs)).map fun ns => .int (rJ ns)
 | _ => none
theorem KD (hm : X.mg "max" = none) (h : SE X b G m1 e f) (hcm : X.calm = true := by rfl) (hK : X.K = b.C.K := by rfl) (hg : Gl X "max" := by rfl) (he : starEach [e] X.env = (false, eval e X.env) :: starEach [] X.env := by rfl) : SE X b G .val (.Call (.Name "max" p) [e] [] pos) (b1 tK f) := by
 refine u9 (FT hcm) (fun Ow H v1 p1 p Q hn r1 e k => ?_) hm PyProof.Rows.boot_max h hg (by decide) (by decide) he
 rw [hK]
 unfold tK at e
 split at e
 ·rename_i x xs
  obtain ⟨a, vs, rfl, ha, ra⟩ := r1.lst
  obtain ⟨ns, h1, h2⟩ := Option.map_eq_some_iff.mp e
  subst h2
  have hv := ra.intsP h1
  subst hv
  refine ⟨a, ns, rfl, SqL.of ha, fun z => ?_, k _ H (Same.refl _) (.int _)⟩
  subst z
  have := ra.length
  simp at this
 ·cases e
end
end MR
namespace My
open PySem L2 MR
@[simp] theorem SX (i j : Int) : eqP (.int i) (.int j) = some (decide (i = j)) := rfl
@[simp] theorem Bx (i j : Str) : eqP (.str i) (.str j) = some (decide (i = j)) := rfl
@[simp] theorem Tf (i j : Bool) : eqP (.bl i) (.bl j) = some (decide (i = j)) := rfl
theorem tL {α : Type} {xs : List α} {i : Int} (h0 : 0 <= i) (h1 : i < xs.length) : atI xs i = xs[i.toNat]? := by
 unfold atI ixN
 rw [if_pos h0, if_pos h1]
 rfl
theorem b_ {α : Type} {xs : List α} {k : Nat} {x : α} (h : xs[k]? = some x) : atI xs (k : Int) = some x := J_ h
section
variable {α : Type} {env : MR.Env} {g : PV -> MR.Env -> Option MR.Env} {t : MR.Env -> Option Bool} {f : MR.Env -> Option PV}
theorem bx (c h : α -> PV) : ∀ (ys : List α), (∀ y ∈ ys, ∃ e, g (c y) env = some e /\ f e = some (h y)) -> bz env g aU f (ys.map c) = some (ys.map h)
 | [], _ => rfl
 | y :: ys, hh => by
  obtain ⟨e, h1, h2⟩ := hh y List.mem_cons_self
  have ih := bx c h ys fun z hz => hh z (List.mem_cons_of_mem _ hz)
  simp [bz, h1, h2, ih]
theorem cR (c h : α -> PV) (p : α -> Bool) : ∀ (ys : List α), (∀ y ∈ ys, ∃ e, g (c y) env = some e /\ t e = some (p y) /\ (p y = true -> f e = some (h y))) -> bz env g t f (ys.map c) = some ((ys.filter p).map h)
 | [], _ => rfl
 | y :: ys, hh => by
  obtain ⟨e, h1, h2, h3⟩ := hh y List.mem_cons_self
  have ih := cR c h p ys fun z hz => hh z (List.mem_cons_of_mem _ hz)
  cases hp : p y with
  | true => simp [bz, h1, h2, h3 hp, ih, hp]
  | false => simp [bz, h1, h2, ih, hp]
theorem vm {S : Type} {ds : List Nat} {body : MR.Env -> Option Out} (c : α -> PV) (E : S -> MR.Env) (step : S -> α -> S) : ∀ (ys : List α) (s : S), (∀ y ∈ ys, ∀ s, ∃ e1 e2, g (c y) (E s) = some e1 /\ body e1 = some (.nx e2) /\ clr ds e2 = E (step s y)) ->
  bQ g ds body (ys.map c) (E s) = some (.nx (E (ys.foldl step s)))
 | [], s, _ => rfl
 | y :: ys, s, hh => by
  obtain ⟨e1, e2, h1, h2, h3⟩ := hh y List.mem_cons_self s
  have ih := vm c E step ys (step s y) fun z hz => hh z (List.mem_cons_of_mem _ hz)
  simp [bQ, h1, h2, h3, ih]
theorem vo {ds : List Nat} {body : MR.Env -> Option Out} (c : α -> PV) : ∀ (ys : List α), (∀ y ∈ ys, ∃ e1 e2, g (c y) env = some e1 /\ body e1 = some (.nx e2) /\ clr ds e2 = env) -> bQ g ds body (ys.map c) env = some (.nx env)
 | [], _ => rfl
 | y :: ys, hh => by
  obtain ⟨e1, e2, h1, h2, h3⟩ := hh y List.mem_cons_self
  have ih := vo c ys fun z hz => hh z (List.mem_cons_of_mem _ hz)
  simp [bQ, h1, h2, h3, ih]
end
theorem rK {α : Type} (c : α -> PV) : ∀ (ys : List α) (n : Nat), dX n (ys.map c) = (ys.zipIdx n).map fun y => .tup [.int (y.2 : Nat), c y.1]
 | [], _ => rfl
 | y :: ys, n => by simp [dX, rK c ys]
def sdP (ks : List Str) : List (Key × PV) := ks.map fun x => ((Sum.inr x : Key), PV.bl true)
theorem vp (ks : List Str) : (sdP ks).length = ks.length := by simp [sdP]
theorem zr (x : Str) : ∀ ks : List Str, d8 (sdP ks) (Sum.inr x : Key) = if x ∈ ks then some (.bl true) else none
 | [] => rfl
 | k :: r => by
  have ih := zr x r
  unfold d8 at ih ⊢
  show ((((Sum.inr k : Key), PV.bl true) :: sdP r).find? _).map _ = _
  by_cases h : k = x
  ·subst h; simp
  ·have h' : ¬ x = k := fun e => h e.symm
   have hk : ¬ (Sum.inr k : Key) = Sum.inr x := fun e => h (Sum.inr.inj e)
   rw [List.find?_cons_of_neg (by simpa using hk), ih]
   simp [h']
theorem vq (x : Str) (ks : List Str) : inP (.str x) (.dK (sdP ks)) = some (decide (x ∈ ks)) := by
 simp only [inP, keyOf, Option.map_some, zr]
 by_cases h : x ∈ ks <;> simp [h]
def lV (ks : List Str) (x : Str) : List Str := if x ∈ ks then ks else ks ++ [x]
theorem KH (ks : List Str) (x : Str) : jf (sdP ks) (Sum.inr x : Key) (.bl true) = sdP (lV ks x) := by
 have hany : ((sdP ks).any fun kv => decide (kv.1 = (Sum.inr x : Key))) = decide (x ∈ ks) := by
  unfold sdP
  rw [List.any_map]
  induction ks with
  | nil => simp
  | cons k r ih =>
   rw [List.any_cons, ih]
   by_cases h : k = x
   ·subst h; simp
   ·have h' : ¬ x = k := fun e => h e.symm
    simp [h, h']
 unfold jf lV
 rw [hany]
 by_cases h : x ∈ ks
 ·rw [if_pos (by simpa using h), if_pos h]
  unfold sdP
  rw [List.map_map]
  refine List.map_congr_left fun y _ => ?_
  by_cases e : y = x
  ·subst e; simp
  ·have : ¬ (Sum.inr y : Key) = Sum.inr x := fun z => e (Sum.inr.inj z)
   simp [this]
 ·rw [if_neg (by simpa using h), if_neg h]
  unfold sdP
  simp
def jr (ks ws : List Str) : List Str := ws.foldl lV ks
def eG (kind : Str) (ks : List Str) : List Str -> List Str
 | c :: r => if c = kind then jr ks r else ks
 | [] => ks
def tell (kind : Str) (rs : List (List Str)) : List Str := rs.foldl (eG kind) []
theorem zu (ks : List Str) (x : Str) : (lV ks x).length <= ks.length + 1 := by
 unfold lV; split <;> simp
theorem rM : ∀ (ws ks : List Str), (jr ks ws).length <= ks.length + ws.length
 | [], ks => Nat.le_refl _
 | x :: r, ks => by
  have h1 := rM r (lV ks x)
  have h2 := zu ks x
  show (jr (lV ks x) r).length <= ks.length + (r.length + 1)
  omega
theorem HH {ks : List Str} {x y : Str} : y ∈ lV ks x ↔ y ∈ ks \/ y = x := by
 unfold lV
 by_cases h : x ∈ ks
 ·rw [if_pos h]
  constructor
  ·exact .inl
  ·rintro (z | z)
   ·exact z
   ·rw [z]; exact h
 ·rw [if_neg h]; simp
theorem wZ {y : Str} : ∀ {ws ks : List Str}, y ∈ jr ks ws ↔ y ∈ ks \/ y ∈ ws
 | [], ks => by simp [jr]
 | x :: r, ks => by
  show y ∈ jr (lV ks x) r ↔ _
  rw [wZ, HH, List.mem_cons, or_assoc]
theorem w5 {kind y : Str} : ∀ {rs : List (List Str)} {ks : List Str}, y ∈ rs.foldl (eG kind) ks ↔ y ∈ ks \/ ∃ r, (kind :: r) ∈ rs /\ y ∈ r
 | [], ks => by simp
 | ws :: rs, ks => by
  rw [List.foldl_cons, w5]
  cases ws with
  | nil => simp [eG]
  | cons c r =>
   show (y ∈ (if c = kind then jr ks r else ks) \/ _) ↔ _
   by_cases h : c = kind
   ·subst h
    rw [if_pos rfl, wZ]
    constructor
    ·rintro ((z | z) | ⟨r', h1, h2⟩)
     ·exact .inl z
     ·exact .inr ⟨r, List.mem_cons_self, z⟩
     ·exact .inr ⟨r', List.mem_cons_of_mem _ h1, h2⟩
    ·rintro (z | ⟨r', h1, h2⟩)
     ·exact .inl (.inl z)
     ·rcases List.mem_cons.mp h1 with e | e
      ·obtain ⟨_, rfl⟩ := List.cons.inj e
       exact .inl (.inr h2)
      ·exact .inr ⟨r', e, h2⟩
   ·rw [if_neg h]
    constructor
    ·rintro (z | ⟨r', h1, h2⟩)
     ·exact .inl z
     ·exact .inr ⟨r', List.mem_cons_of_mem _ h1, h2⟩
    ·rintro (z | ⟨r', h1, h2⟩)
     ·exact .inl z
     ·rcases List.mem_cons.mp h1 with e | e
      ·exact absurd (List.cons.inj e).1.symm h
      ·exact .inr ⟨r', e, h2⟩
theorem zx {kind y : Str} {rs : List (List Str)} : y ∈ tell kind rs ↔ ∃ r, (kind :: r) ∈ rs /\ y ∈ r := by
 unfold tell
 rw [w5]
 simp
def total (rs : List (List Str)) : Nat := (rs.map List.length).sum
theorem w6 {kind : Str} : ∀ (rs : List (List Str)) (ks : List Str), (rs.foldl (eG kind) ks).length <= ks.length + total rs
 | [], ks => Nat.le_add_right _ _
 | ws :: rs, ks => by
  have h1 := w6 (kind := kind) rs (eG kind ks ws)
  have h2 : (eG kind ks ws).length <= ks.length + ws.length := by
   cases ws with
   | nil => exact Nat.le_add_right _ _
   | cons c r =>
    show (if c = kind then jr ks r else ks).length <= _
    split
    ·have h4 := rM r ks
     simp
     omega
    ·exact Nat.le_add_right _ _
  rw [List.foldl_cons]
  unfold total at *
  simp
  omega
end My
namespace L2
open PySem PySem.Spec PyProof.Rows
theorem ObjOk.there {P : Program} {w : World} {H : Hp} {h : Heap} {a : Addr} {o : HO} (x : ObjOk P w H h a o) : ∃ u, h.get? a = some u := by
 cases o with
 | lst xs => obtain ⟨_, _, _, _, e⟩ := x; exact ⟨_, e⟩
 | tup xs => obtain ⟨_, _, _, _, e, _⟩ := x; exact ⟨_, e⟩
 | dK kvs => obtain ⟨_, _, _, _, o, _, _, e, _⟩ := x; exact ⟨_, e⟩
 | dT kvs => obtain ⟨_, _, _, _, o, _, _, e, _⟩ := x; exact ⟨_, e⟩
 | set S n => obtain ⟨o, _, _, _, e, _⟩ := x; exact ⟨_, e⟩
 | ins C dx fs => obtain ⟨_, _, _, e, _⟩ := x; exact ⟨_, e⟩
 | own y => exact x
 | xd fs => obtain ⟨_, ⟨_, _, _, e, _⟩, _⟩ := x; exact ⟨_, e⟩
 | rng lo hi => obtain ⟨_, _, _, e⟩ := x; exact ⟨_, e⟩
 | frz ob u => obtain ⟨e, _⟩ := x; exact ⟨_, e⟩
 | tbl ps => exact ⟨_, (show h.get? a = some _ from x)⟩
 | met f y => exact ⟨_, (show h.get? a = some _ from x)⟩
 | ext φ => exact x.2.1
def Grd (B h₀ h : Heap) (H : Hp) (l : List Env) : Prop := ∀ b o, h.get? b = some o -> B.get? b = none -> b ∈ frs l \/ (h₀.get? b = none /\ H b = none)
structure Lies (X : Cx) (pins : List (Addr × Obj)) (σ : St) (H : Hp) (C : Value) (e : Value) (s : Shared) : Prop where
 inv : Inv X pins σ H s
 ex : ∃ a a0 B, e = .ref a /\ Heap.FlyingW B X.stack a C a0 s.heap /\ X.s₀.heap.get? a = none /\ H a = none /\ (∀ p ∈ X.pn ++ pins, B.get? p.1 = some p.2) /\ Grd B X.s₀.heap s.heap H X.stack
def CXW (P : Program) (w : World) : CXT := fun outer H s E e s' => ∃ a C a0 B H', e = .ref a /\ s'.os = s.os /\ AllBare s'.gens /\ Un (frs outer) [] H H' s.heap s'.heap /\ HOk P w H' s'.heap /\
 Heap.FlyingW B outer a C a0 s'.heap /\ s.heap.get? a = none /\ H' a = none /\ Grd B s.heap s'.heap H' outer /\ E C none H'
section
variable {P : Program} {w : World} {K : PySem.W.Frag} {mg : Str -> Option Value} {base : Heap} {N : List Str} {qual : Str} {scope : Scope} {f : Addr} {cd : Value} {A : Around} {outer : List Env} {s : Shared} {H : Hp} {E : XK} {CX : CXT}
variable {pins : List (Addr × Obj)} {σ : St} {H1 : Hp} {s1 : Shared}
theorem xj {b : Addr} {env : Env} {outer : List Env} {L : Addr} (hf : env.frame = some L) (h : b ∈ frs (env :: outer)) : b = L \/ b ∈ frs outer := by
 unfold frs at h ⊢
 rw [List.filterMap_cons, hf] at h
 exact List.mem_cons.mp h
theorem wg (I : Inv (dj CX P w K mg base N qual scope f cd A outer s H E) pins σ H1 s1) {B h2 : Heap} (bs : ∀ b o, B.get? b = some o -> s1.heap.get? b = some o) (st : B.StaysIn h2)
  (gr : Grd B s.heap s1.heap H1 (envOfC qual scope s.heap.objs.size f cd :: outer)) (up : s1.heap.UpToSlots h2) :
  Un (frs outer) [] H H1 s.heap h2 /\ HOk P w H1 h2 /\ Grd B s.heap h2 H1 outer := by
 have u : Un (frs outer) [] H H1 s.heap s1.heap := I.base
 have kept : ∀ b o, s1.heap.get? b = some o -> b ∉ frs (envOfC qual scope s.heap.objs.size f cd :: outer) -> (s.heap.get? b ≠ none \/ H1 b ≠ none) -> h2.get? b = some o := fun b o e n1 n2 => by
  cases q : B.get? b with
  | none => exact ((gr b o e q).elim n1 fun z => n2.elim (fun y => y z.1) fun y => y z.2).elim
  | some o' =>
   have := bs b o' q
   rw [e] at this
   cases this
   exact st b o q
 have old : ∀ b o, s.heap.get? b = some o -> b ∉ frs outer -> b ∉ frs (envOfC qual scope s.heap.objs.size f cd :: outer) := fun b o e n z => by
  rcases xj rfl z with y | y
  ·subst y; exact absurd (Heap.lt_size e) (Nat.lt_irrefl _)
  ·exact n y
 have fr : ∀ b o, s1.heap.get? b = some o -> b ∈ frs (envOfC qual scope s.heap.objs.size f cd :: outer) -> ∃ sl, h2.get? b = some { o with slots := sl } := fun b o e hb => by
  obtain ⟨_, o', e', hd⟩ := I.stack.mem hb
  rw [e] at e'
  cases e'
  exact up b o e hd
 refine ⟨⟨fun b o q n hb hx => ?_, fun b o q n hb hx => ?_, u.free, fun b o q hx => ?_, u.tups, u.frzs, u.tbls⟩, fun b v q => ?_, fun b o q n => ?_⟩
 ·exact kept b o (u.keep b o q n hb hx) (old b o q hb) (.inl (by rw [q]; exact fun z => nomatch z))
 ·obtain ⟨sl, e1⟩ := u.slot b o q n hb hx
  obtain ⟨sl', e2⟩ := fr b _ e1 (by unfold frs at hb ⊢; rw [List.filterMap_cons]; exact List.mem_cons_of_mem _ hb)
  exact ⟨sl', e2⟩
 ·obtain ⟨o', e1⟩ := u.there b o q hx
  by_cases hb : b ∈ frs (envOfC qual scope s.heap.objs.size f cd :: outer)
  ·obtain ⟨sl, e2⟩ := fr b o' e1 hb
   exact ⟨_, e2⟩
  ·exact ⟨o', kept b o' e1 hb (.inl (by rw [q]; exact fun z => nomatch z))⟩
 ·refine (I.hok b v q).stay (fun c x hc r => ?_) (fun _ q => q) fun _ _ q => q
  have hn : H1 c ≠ none := by
   rcases hc with rfl | hc
   ·rw [q]; exact fun z => nomatch z
   ·rw [hc]; exact fun z => nomatch z
  exact kept c x r (fun z => hn (I.stkFree c z)) (.inr hn)
 ·cases e1 : s1.heap.get? b with
  | some o' =>
   rcases gr b o' e1 n with z | z
   ·rcases xj rfl z with y | y
    ·subst y; exact .inr ⟨Heap.get?_none_of_le (Nat.le_refl _), I.free⟩
    ·exact .inl y
   ·exact .inr z
  | none =>
   refine .inr ⟨?_, ?_⟩
   ·cases q2 : s.heap.get? b with
    | none => rfl
    | some o2 =>
     obtain ⟨_, e2⟩ := u.there b o2 q2 (by simp)
     rw [e1] at e2; cases e2
   ·cases q2 : H1 b with
    | none => rfl
    | some v =>
     obtain ⟨_, e2⟩ := (I.hok b v q2).there
     rw [e1] at e2; cases e2
theorem Dk {C e : Value} (L : Lies (dj (CXW P w) P w K mg base N qual scope f cd A outer s H E) pins σ H1 C e s1) (hE : E C none H1) : (dj (CXW P w) P w K mg base N qual scope f cd A outer s H E).xe e s1 := by
 obtain ⟨a, a0, B, rfl, fl, na, nH, np, gr⟩ := L.ex
 have I := L.inv
 show wpAny (model P w) (A.deeper (envOfC qual scope s.heap.objs.size f cd)) (leaving (envOfC qual scope s.heap.objs.size f cd) (.ref a)) (fun _ s'' => CXW P w outer H s E (.ref a) s'') (fun e' s'' => CXW P w outer H s E e' s'') s1
 refine wpAny_leaves_onW I.ok.frames rfl fl fun h2 fl2 up => ?_
 obtain ⟨u2, hok2, gr2⟩ := wg I (fun b o q => fl.1 b o q) fl2.1 gr up
 exact ⟨a, C, a0, B, H1, rfl, I.os, I.bare, u2, hok2, fl2, na, nH, gr2, hE⟩
theorem lies_of {X : Cx} (I : Inv X pins σ H1 s1) (hex : X.ex = []) {Q : XK} {e : Value} {s2 : Shared} (h : CXW X.prog X.w X.stack H1 s1 Q e s2) : ∃ C H2, Lies X pins σ H2 C e s2 /\ Q C none H2 := by
 obtain ⟨a, C, a0, B, H2, rfl, os, bare, un, hok, fl, na, nH, gr, hQ⟩ := h
 have there : ∀ b o, X.s₀.heap.get? b = some o -> ∃ o', s1.heap.get? b = some o' := fun b o q => I.base.there b o q (by rw [hex]; simp)
 have fresh : ∀ b, s1.heap.get? b = none -> X.s₀.heap.get? b = none := fun b q => by
  cases z : X.s₀.heap.get? b with
  | none => rfl
  | some o => obtain ⟨_, y⟩ := there b o z; rw [q] at y; cases y
 refine ⟨C, H2, ⟨I.call' os un hok bare (fun b z => nomatch z), a, a0, B, rfl, fl, fresh a na, nH, fun p hp => ?_, fun b o q n => ?_⟩, hQ⟩
 ·obtain ⟨e1, n1, nl, nf, _⟩ := I.pin p hp
  have nfr : p.1 ∉ frs X.stack := fun z => (List.mem_cons.mp (I.stkSub _ z)).elim nl nf
  have e2 := un.keep p.1 p.2 e1 n1 nfr (by simp)
  cases q : B.get? p.1 with
  | none =>
   rcases gr p.1 p.2 e2 q with z | z
   ·exact absurd z nfr
   ·rw [e1] at z; cases z.1
  | some o =>
   have := fl.1 _ _ q
   rw [e2] at this
   cases this
   rfl
 ·rcases gr b o q n with z | z
  ·exact .inl z
  ·exact .inr ⟨fresh b z.1, z.2⟩
end
end L2
namespace L2
open PySem PySem.Spec PyProof.Rows
theorem KJ {K : PySem.W.Frag} {h : Heap} {C : Addr} {bmB : List Value} {newId : String} (KI : K.In h) (q : PySem.W.excIn K C bmB newId = true) :
  ∃ (bm : List Value) (N : Addr) (nm qn : Str) (bs : List Value) (hdd : Bool) (sn : List Str) (su : List Value) (ab : Bool) (co : Option Bool) (dd : Option Addr) (k0 k1 k2 k3 k5 : Option Value) (mN : Str -> Option Value),
   h.get? C = some (excClassObj nm qn C N bs bm hdd sn su ab co dd k0 k1 k2 k3 k5 newId) /\ h.Ns N mN /\ mN "__init__" = none /\ OwnTail h bmB bm := by
 unfold PySem.W.excIn at q
 split at q
 ·rename_i dd cdd sl lk
  split at q
  ·rename_i C1 bm k0 k1 k2 k3 nw k5 hmro hsl
   simp only [Bool.and_eq_true, beq_iff_eq, Bool.not_eq_true'] at q
   obtain ⟨⟨⟨⟨⟨r1, r2⟩, hdel⟩, htl⟩, hns⟩, hini⟩ := q
   subst r1 r2
   cases cdd with
   | mk nm bs mro ns qn hdd sn su ab co del =>
    have e1 : mro = .ref C1 :: bm := hmro
    have e2 : del = false := hdel
    subst e1 e2
    have e3 : sl = #[k0, k1, k2, k3, some (.builtin nw), k5] := by cases sl with | mk l => exact congrArg Array.mk hsl
    subst e3
    exact ⟨bm, ns, nm, qn, bs, hdd, sn, su, ab, co, dd, k0, k1, k2, k3, k5, _, KI _ _ lk, .of_isNs (PySem.W.isNs_of_in KI hns), PySem.W.nsMap_none_of_in KI hns hini, PySem.W.tail_of_in KI htl⟩
  ·cases q
 ·cases q
abbrev RX := List (Addr × Obj) -> St -> Hp -> Prop
def XE (X : Cx) (r : RX) (e : Expr) : Prop := ∀ (pins : List (Addr × Obj)) (s : Shared) (σ : St) (H : Hp), Inv X pins σ H s -> r pins σ H -> wpAny (model X.prog X.w) X.A (eval e X.env) (fun _ _ => False) X.xe s
def XS (X : Cx) (r : RX) (st : Stmt) : Prop := ∀ (pins : List (Addr × Obj)) (s : Shared) (σ : St) (H : Hp), Inv X pins σ H s -> r pins σ H -> wpAny (model X.prog X.w) X.A (exec st X.env) (fun _ _ => False) X.xe s
def XSs (X : Cx) (r : RX) (st : List Stmt) : Prop := ∀ (pins : List (Addr × Obj)) (s : Shared) (σ : St) (H : Hp), Inv X pins σ H s -> r pins σ H -> wpAny (model X.prog X.w) X.A (execs st X.env) (fun _ _ => False) X.xe s
structure CalX (P : Program) (w : World) (K : PySem.W.Frag) (mg : Str -> Option Value) (base : Heap) (k : Nat) (x : Str) (ps : List Str) (sp : Sp) : Prop where
 ex : ∃ f fd, FnOk P w K mg base (CXW P w) k f fd ps sp /\ Binds K fd ps [] /\ PySem.W.keepIn K (.ref f) = true /\ mg x = some (.ref f)
theorem pq {P : Program} {w : World} {K : PySem.W.Frag} {mg : Str -> Option Value} {base : Heap} {k : Nat} {x : Str} {ps : List Str} {sp : Sp} {st : Stmt} {f : Addr} {fd : FuncData} (F : Fun K x x st f fd)
  (hm : mg x = some (.ref f)) (hb : Binds K fd ps []) (G : FnOk P w K mg base (CXW P w) k f fd ps sp) : CalX P w K mg base k x ps sp := ⟨f, fd, G, hb, F.kp, hm⟩
section
variable {X : Cx} {r r' : RX} {e : Expr} {st : Stmt} {rest : List Stmt} {pos : Pos}
theorem pA (h : XE X r e) (hs : swapsWith e none pos.line X.env = pure false := by rfl) : XS X r (.Expr e pos) := fun pins s σ H I q =>
 wpAny_Expr_any (thn (h pins s σ H I q) fun _ _ z => z.elim) I.quiet hs
theorem OD (h : XE X r e) : XS X r (.Return (some e) pos) := fun pins s σ H I q => wpAny_Return_some (thn (h pins s σ H I q) fun _ _ z => z.elim)
theorem FW {x : Str} {pos' : Pos} (h : XE X r e) (hs : swapsWith e (some (.Name x pos')) pos.line X.env = pure false := by rfl) : XS X r (.Assign [.Name x pos'] e pos) := fun pins s σ H I q =>
 wpAny_Assign_Name (thn (h pins s σ H I q) fun _ _ z => z.elim) hs
theorem dI (h : XS X r st) : XSs X r (st :: rest) := fun pins s σ H I q => wpAny_execs_cons (thn (h pins s σ H I q) fun _ _ z => z.elim)
end
end L2
namespace MR
open PySem L2
def spX (C : MC) (mi : List PV -> Option PV) (ro : Bool) (xi : List PV -> Option Nat) : Sp := fun vs H Q E => spM C mi ro vs H Q E \/ ∃ A ps c, Reps C A H vs ps /\ xi ps = some c /\ ∀ H', Same H H' -> E (.ref (C.cl c)) none H'
def tX (b : BX) (G : List Nat) (W : List (Addr × Obj) -> St -> Hp -> Nat -> Prop) (xf : Env -> Option Nat) : RX := fun pins σ H => ∃ Ow env c, ER b Ow G σ env H /\ xf env = some c /\ W pins σ H c
def WD (b : BX) (E : XK) : List (Addr × Obj) -> St -> Hp -> Nat -> Prop := fun _ _ _ c => ∀ H1, Same b.H0 H1 -> E (.ref (b.C.cl c)) none H1
def WT (X : Cx) (b : BX) : List (Addr × Obj) -> St -> Hp -> Nat -> Prop := fun pins σ H c => ∀ H1 e s, Same H H1 -> Lies X pins σ H1 (.ref (b.C.cl c)) e s -> X.xe e s
structure WOk (X : Cx) (b : BX) (W : List (Addr × Obj) -> St -> Hp -> Nat -> Prop) : Prop where
 up : ∀ pins σ H H1 c, Same H H1 -> W pins σ H c -> W pins σ H1 c
 go : ∀ pins σ H c H1 e s, Same b.H0 H -> W pins σ H c -> Same H H1 -> Lies X pins σ H1 (.ref (b.C.cl c)) e s -> X.xe e s
 ex : X.ex = []
theorem p8 {X : Cx} {b : BX} (h : X.ex = []) : WOk X b (WT X b) := ⟨fun pins σ H H1 c s w H2 e s' s2 L => w H2 e s' (s.trans s2) L, fun pins σ H c H1 e s _ w s1 L => w H1 e s s1 L, h⟩
theorem p_ {P : Program} {w : World} {K : PySem.W.Frag} {mg : Str -> Option Value} {base : Heap} {N : List Str} {qual : Str} {scope : Scope} {f : Addr} {cd : Value} {A : Around} {outer : List PySem.Env} {s : Shared} {H : Hp} {E : XK} {b : BX} :
  WOk (dj (CXW P w) P w K mg base N qual scope f cd A outer s H E) b (WD b E) := ⟨fun pins σ H H1 c s w => w, fun pins σ H c H1 e s s0 w s1 L => Dk L (w H1 (s0.trans s1)), rfl⟩
def fH (ga : Env -> Option (List PV)) (xi : List PV -> Option Nat) (env : Env) : Option Nat := (ga env).bind xi
@[simp] theorem Sq (ga : Env -> Option (List PV)) (xi : List PV -> Option Nat) (env : Env) : fH ga xi env = ((ga env).bind xi) := id rfl
def xIf (c : Env -> Option Bool) (f g : Env -> Option Nat) (env : Env) : Option Nat := (c env).bind fun k => if k = true then f env else g env
@[simp] theorem Tg (c : Env -> Option Bool) (f g : Env -> Option Nat) (env : Env) : xIf c f g env = ((c env).bind fun k => if k = true then f env else g env) := id rfl
def xNo (env : Env) : Option Nat := none
@[simp] theorem Th (env : Env) : xNo env = none := id rfl
def xOr (f g : Env -> Option Nat) (env : Env) : Option Nat := match f env with
 | some c => some c
 | none => g env
@[simp] theorem OJ (f g : Env -> Option Nat) (env : Env) : xOr f g env = (match f env with
 | some c => some c
 | none => g env) := id rfl
section
variable {X : Cx} {b : BX} {G G1 L : List Nat} {ro : Bool} {W : List (Addr × Obj) -> St -> Hp -> Nat -> Prop} {e : Expr} {es : List Expr} {st : Stmt} {rest sa sb : List Stmt} {pos p : Pos} {f g : Env -> Option Nat}
theorem jK (wo : WOk X b W) {k j : Nat} {x : Str} {ps : List Str} {mi : List PV -> Option PV} {rc : Bool} {xi : List PV -> Option Nat} {ga : Env -> Option (List PV)} (c : CalX X.prog X.w X.K X.mg X.base k x ps (spX b.C mi rc xi)) (hr : Room j X.A) (ha : SA X b G false (e :: es) ga)
  (hle : k <= j := by decide) (hgl : Gl X x := by rfl) (hdb : (x == ("__debug__" : Str)) = false := by decide) (he : starEach (e :: es) X.env = (false, eval e X.env) :: starEach es X.env := by rfl) (hpl : (backTo pos (starEach es X.env)).any (·.1) = false := by rfl) :
  XE X (tX b G W (fH ga xi)) (.Call (.Name x p) (e :: es) [] pos) := by
 intro pins s σ H I ⟨Ow, env, c0, E, hx, hW⟩
 obtain ⟨fa, fd, F, hb, kp, hm⟩ := c.ex
 obtain ⟨qs, hga, hxi⟩ := aA hx
 refine wpAny_Call_Name_kw (jG I hgl hm ?_ hdb)
 refine PySem.W.callWith_K (h₀ := X.base) I.ok.mod.kin kp (thn (ha pos pins s σ H (fun vs H1 => Same H H1 /\ Reps b.C (ArA b Ow false H1) H1 vs qs) I ⟨Ow, env, qs, E, hga, fun vs H1 s1 rr => ⟨s1, rr⟩⟩) fun us s1 ⟨vs, H1, I1, r, sm, rr⟩ => ⟨I1.kIn, ?_⟩) he hpl
 have hsp : spX b.C mi rc xi vs H1 (fun _ _ => False) (fun C d H2 => C = .ref (b.C.cl c0) /\ Same H1 H2) := .inr ⟨Bs b Ow, qs, c0, tG rr, hxi, fun H' s' => ⟨rfl, s'⟩⟩
 have hl : us.length = ps.length := by rw [← r.length]; exact F.len _ _ _ _ hsp
 have hbb := hb s1 us I1.kIn (by rw [List.append_nil]; exact hl)
 rw [List.append_nil] at hbb
 refine wpAny_call (codeAny_mono (F.run X.A X.stack s1 H1 ⟨us, []⟩ us vs _ _ (hr.mono hle) I1.env0 hbb r hsp) fun res s' hq => ?_)
 cases res with
 | error ex =>
  have hq' : CXW X.prog X.w X.stack H1 s1 (fun C d H2 => C = .ref (b.C.cl c0) /\ Same H1 H2) ex s' := hq
  obtain ⟨C, H2, Li, hC, s2⟩ := lies_of I1 wo.ex hq'
  subst hC
  exact wo.go pins σ H c0 H2 ex s' E.same hW (sm.trans s2) Li
 | ok fl =>
  cases fl with
  | ret u => obtain ⟨_, _, _, _, _, _, _, z⟩ := hq; exact z.elim
  | next => exact hq.elim
  | brk => exact hq.elim
  | cont => exact hq.elim
theorem yD (wo : WOk X b W) {c : Expr} {k : Env -> Option Bool} (hc : ST X b G c k) (ha : XSs X (tX b G W f) sa) (hb : XSs X (tX b G W g) sb) : XS X (tX b G W (xIf k f g)) (.If c sa sb pos) := by
 intro pins s σ H I ⟨Ow, env, c0, E, hx, hW⟩
 obtain ⟨kk, hk, hx⟩ := aA hx
 refine wpAny_If (thn (hc pins s σ H (fun d H1 => d = kk /\ Same H H1) I ⟨Ow, env, kk, E, hk, fun H1 s1 => ⟨rfl, s1⟩⟩) fun d s1 ⟨H1, I1, hd, sm⟩ => ?_)
 subst hd
 cases d with
 | true => exact ha pins s1 σ H1 I1 ⟨Ow, env, c0, E.up sm, hx, wo.up _ _ _ _ _ sm hW⟩
 | false => exact hb pins s1 σ H1 I1 ⟨Ow, env, c0, E.up sm, hx, wo.up _ _ _ _ _ sm hW⟩
theorem O1 : XSs X (tX b G W xNo) rest := fun pins s σ H I ⟨Ow, env, c0, E, hx, hW⟩ => nomatch hx
end
end MR
namespace MR
open PySem L2 PyProof.Rows PySem.Spec
def zy (ga : Env -> Option (List PV)) (c : Nat) (env : Env) : Option Nat := (ga env).bind fun qs => if qs.length <= 1000 then some c else none
@[simp] theorem Rt (ga : Env -> Option (List PV)) (c : Nat) (env : Env) : zy ga c env = ((ga env).bind fun qs => if qs.length <= 1000 then some c else none) := id rfl
section
variable {P : Program} {w : World} {K : PySem.W.Frag} {mg : Str -> Option Value} {base : Heap} {N : List Str} {qual : Str} {scope : Scope} {f : Addr} {cd : Value} {A : Around} {outer : List PySem.Env} {s : Shared} {H : Hp} {E : XK}
theorem HJ (c : Nat) {b : BX} {G : List Nat} {e : Expr} {es : List Expr} {x : Str} {np cpos pos : Pos} {ga : Env -> Option (List PV)} {B newId initId : String} {bmB : List Value} (FB : ExcBaseFacts B newId initId bmB)
  (hC : PySem.W.excIn K (b.C.cl c) bmB newId = true) (hm : mg x = some (.ref (b.C.cl c))) (ha : SA (dj (CXW P w) P w K mg base N qual scope f cd A outer s H E) b G false (e :: es) ga)
  (hgl : Gl (dj (CXW P w) P w K mg base N qual scope f cd A outer s H E) x := by rfl) (hdb : (x == ("__debug__" : Str)) = false := by decide)
  (he : starEach (e :: es) (envOfC qual scope s.heap.objs.size f cd) = (false, eval e (envOfC qual scope s.heap.objs.size f cd)) :: starEach es (envOfC qual scope s.heap.objs.size f cd) := by rfl)
  (hpl : (backTo cpos (starEach es (envOfC qual scope s.heap.objs.size f cd))).any (·.1) = false := by rfl) :
  XS (dj (CXW P w) P w K mg base N qual scope f cd A outer s H E) (tX b G (WD b E) (zy ga c)) (.Raise (some (.Call (.Name x np) (e :: es) [] cpos)) none pos) := by
 intro pins s1 σ H1 I ⟨Ow, env, c0, Er, hx, hW⟩
 obtain ⟨qs, hga, hx⟩ := aA hx
 split at hx
 ·rename_i hql
  cases hx
  obtain ⟨bm, Nn, nm, qn, bs, hdd, sn, su, ab, co, dd, k0, k1, k2, k3, k5, mN, hCo, hN, hni, T⟩ := KJ I.ok.mod.kin hC
  refine wpAny_Raise_call_subT (C := b.C.cl c) (nm := nm) (q := qn) (N := Nn) (bs := bs) (bm := bm) (hdct := hdd) (sn := sn) (sub := su) (ab := ab) (col := co) (dd := dd) (k0 := k0) (k1 := k1) (k2 := k2) (k3 := k3) (k5 := k5)
   FB (mN := mN) (T.hasType FB.hasBase) (I.ok.hd rfl) ?_ hni (jG I hgl hm ⟨rfl, ?_⟩ hdb)
  ·show (backTo cpos (starEach (e :: es) (envOfC qual scope s.heap.objs.size f cd))).any (·.1) = false
   rw [he]
   show (false || (backTo cpos (starEach es (envOfC qual scope s.heap.objs.size f cd))).any (·.1)) = false
   rw [hpl]; rfl
  have h1 := ha cpos pins s1 σ H1 (fun vs H2 => Same H1 H2 /\ vs.length <= 1000) I ⟨Ow, env, qs, Er, hga, fun vs H2 s2 rr => ⟨s2, by rw [rr.length]; exact hql⟩⟩
  have h2 : wpAny (model P w) (A.deeper (envOfC qual scope s.heap.objs.size f cd)) (spliced (backTo cpos (starEach (e :: es) (envOfC qual scope s.heap.objs.size f cd)))) _ _ s1 := h1
  show wpAny (model P w) (A.deeper (envOfC qual scope s.heap.objs.size f cd)) (evalArgs (.ref (b.C.cl c)) true (backTo cpos (starEach (e :: es) (envOfC qual scope s.heap.objs.size f cd))) []) _ _ s1
  rw [he] at h2 ⊢
  refine Calls.evalArgs_plain (wpAny_mono h2 (fun us s2 ⟨vs, H2, I2, r, sm, hl⟩ => ⟨rfl, by rw [← r.length]; exact small hl, I2.bk _ _ hCo, hN.keeps I2.bk, T.keeps I2.bk, fun h' ex hmk => ?_⟩) fun _ _ y => y)
  show wpAny (model P w) (A.deeper (envOfC qual scope s.heap.objs.size f cd)) (leaving (envOfC qual scope s.heap.objs.size f cd) (.ref ex)) (fun _ s'' => CXW P w outer H s E (.ref ex) s'') (fun e' s'' => CXW P w outer H s E e' s'') { s2 with heap := h' }
  refine wpAny_leaves_madeW (base := PySem.W.hideAll s2.heap (frs (envOfC qual scope s.heap.objs.size f cd :: outer))) (h := s2.heap) I2.ok.frames rfl (fun b o q => PySem.W.of_hideAll _ q) (PySem.W.funFrames_hide I2.stack fun en hen a hfa => List.mem_filterMap.mpr ⟨en, hen, hfa⟩) hmk fun h3 t fl tup nt up => ?_
  have gr : Grd (PySem.W.hideAll s2.heap (frs (envOfC qual scope s.heap.objs.size f cd :: outer))) s.heap s2.heap H2 (envOfC qual scope s.heap.objs.size f cd :: outer) := fun a o q n => by
   by_cases ha : a ∈ frs (envOfC qual scope s.heap.objs.size f cd :: outer)
   ·exact .inl ha
   ·rw [PySem.W.hideAll_get _ q ha] at n; cases n
  obtain ⟨u2, hok2, gr2⟩ := wg I2 (fun a o q => PySem.W.of_hideAll _ q) fl.1 gr ((Heap.UpToSlots.of_keeps hmk.keeps).trans up)
  have nw := hmk.new
  have na : s.heap.get? ex = none := by
   cases z : s.heap.get? ex with
   | none => rfl
   | some o =>
    obtain ⟨_, y⟩ := I2.base.there ex o z (fun z => nomatch z)
    rw [nw] at y; cases y
  have nH : H2 ex = none := by
   cases z : H2 ex with
   | none => rfl
   | some o =>
    obtain ⟨_, y⟩ := (I2.hok ex o z).there
    rw [nw] at y; cases y
  exact ⟨ex, .ref (b.C.cl c), .ref t, _, H2, rfl, I2.os, I2.bare, u2, hok2, fl, na, nH, gr2, hW H2 (Er.same.trans sm)⟩
 ·cases hx
def oJ (n k : Nat) (f : Env -> Option Nat) (ps : List PV) : Option Nat := if ps.length = k then f (ps.map some ++ List.replicate (n - k) none) else none
@[simp] theorem S5 (n k : Nat) (f : Env -> Option Nat) (ps : List PV) : oJ n k f ps = (if ps.length = k then f (ps.map some ++ List.replicate (n - k) none) else none) := id rfl
theorem pB {C : MC} {n k : Nat} {ro : Bool} {g : Env -> Option Out} {xf : Env -> Option Nat} {ps : List Str} (hk : ps.length = k) {vs : List V} {H : Hp} {Q : VK} {E : XK} (h : spX C (bO n k ro g) ro (oJ n k xf) vs H Q E) : vs.length = ps.length := by
 rcases h with ⟨A, qs, p, r, hm, _⟩ | ⟨A, qs, c, r, hm, _⟩
 ·unfold bO at hm
  split at hm
  ·rename_i hl; rw [r.length, hl, hk]
  ·cases hm
 ·unfold oJ at hm
  split at hm
  ·rename_i hl; rw [r.length, hl, hk]
  ·cases hm
theorem mY {C : MC} {n k : Nat} {G G' L : List Nat} {ro : Bool} {body : List Stmt} {g : Env -> Option Out} {xf : Env -> Option Nat} (hN : N.length = n) (hk : k <= n) (hG : (G.all fun i => decide (k <= i)) = true)
  (hb : ∀ B H', SSs (dj (CXW P w) P w K mg base N qual scope f cd A outer s H E).nox ⟨C, B, H', fun _ => none⟩ G G' L ro body g)
  (hx : ∀ B H', XSs (dj (CXW P w) P w K mg base N qual scope f cd A outer s H E) (tX ⟨C, B, H', fun _ => none⟩ G (WD ⟨C, B, H', fun _ => none⟩ E) xf) body)
  {vs : List V} {Q : VK} (h : spX C (bO n k ro g) ro (oJ n k xf) vs H Q E) : ∃ t, PSs (dj (CXW P w) P w K mg base N qual scope f cd A outer s H E) body t /\ t { nx := fun _ H' => Q .non H', rt := Q } (L2.start N vs) H := by
 rcases h with h | ⟨B, ps, c, r, hm, kk⟩
 ·obtain ⟨t, h1, h2⟩ := Bw (X := (dj (CXW P w) P w K mg base N qual scope f cd A outer s H E).nox) hN hk hG hb h
  exact ⟨t, h1.nox, h2⟩
 ·refine ⟨fun _ σ H' => tX ⟨C, B, H, fun _ => none⟩ G (WD ⟨C, B, H, fun _ => none⟩ E) xf [] σ H', fun pins s1 σ H1 D I q => ?_, ?_⟩
  ·obtain ⟨Ow, env, c0, Er, hx1, hW⟩ := q
   exact wpAny_mono (hx B H pins s1 σ H1 I ⟨Ow, env, c0, Er, hx1, hW⟩) (fun _ _ z => z.elim) fun _ _ z => z
  ·unfold oJ at hm
   split at hm
   ·rename_i hl
    exact ⟨_, _, c, zm (N := N) (G := G) r (fun i hi => by rw [hl]; simpa using List.all_eq_true.mp hG i hi) (by omega), by rw [hN, hl]; exact hm, fun H1 s1 => kk H1 s1⟩
   ·cases hm
end
section
variable {P : Program} {w : World} {K : PySem.W.Frag} {mg : Str -> Option Value} {base : Heap}
theorem pC {x qual : Str} {st : Stmt} {f : Addr} {fd : FuncData} {N ps : List Str} {k : Nat} {sp : Sp} (F : Fun K x qual st f fd) (S : FnScope N ps (aq st)) (len : ∀ vs H Q E, sp vs H Q E -> vs.length = ps.length)
  (hbody : ∀ (cdv : Value) (A : Around) (outer : List PySem.Env) (s : Shared) (H : Hp) (vs : List V) (Q : VK) (E : XK), Room k (A.deeper (envOfC qual (aq st) s.heap.objs.size f cdv)) -> sp vs H Q E ->
   ∃ t, PSs (dj (CXW P w) P w K mg base N qual (aq st) f cdv A outer s H E) (eZ st) t /\ t { nx := fun _ H' => Q .non H', rt := Q } (start N vs) H) : FnOk P w K mg base (CXW P w) (k + 1) f fd ps sp := by
 obtain ⟨oc, od, kV, doc, pm, an, cdv, ct, osl, rfl, lk, hcd⟩ := F.ex
 exact Jt lk hcd S len fun A outer s H vs Q E hr hsp => hbody cdv A outer s H vs Q E hr hsp
theorem KN {C : MC} {k : Nat} {f : Addr} {fd : FuncData} {ps : List Str} {mi : List PV -> Option PV} {ro : Bool} {xi : List PV -> Option Nat} (F : FnOk P w K mg base (CXW P w) k f fd ps (spX C mi ro xi)) : FnOk P w K mg base CX0 k f fd ps (spM C mi ro) := by
 refine ⟨fun vs H Q E h => F.len vs H Q E (.inl h), fun A outer s H args us vs Q E hr e0 hb hv hs => ?_⟩
 refine codeAny_mono (F.run A outer s H args us vs Q E0 hr e0 hb hv (.inl hs)) fun r s' h => ?_
 cases r with
 | ok fl => cases fl <;> exact h
 | error e =>
  obtain ⟨_, _, _, _, _, _, _, _, _, _, _, _, _, _, z⟩ := (show CXW P w outer H s E0 e s' from h)
  exact z.elim
theorem mZ {C : MC} {k : Nat} {x : Str} {ps : List Str} {mi : List PV -> Option PV} {ro : Bool} {xi : List PV -> Option Nat} (c : CalX P w K mg base k x ps (spX C mi ro xi)) : Cal P w K mg base k x ps (spM C mi ro) := by
 obtain ⟨f, fd, F, hb, kp, hm⟩ := c.ex
 exact ⟨f, fd, KN F, hb, kp, hm⟩
end
end MR
namespace L2
open PySem PySem.Spec PyProof.Rows
def ExcAt (a C : Addr) (h : Heap) : Prop := ∃ o vs, h.get? a = some o /\ o.cls = .ref C /\ o.data = .fields vs
def exo (a C : Addr) : HO := .ext (ExcAt a C)
theorem O2 {P : Program} {w : World} {H : Hp} {h : Heap} {a C : Addr} (e : ExcAt a C h) : ObjOk P w H h a (exo a C) := by
 obtain ⟨o, vs, q1, q2, q3⟩ := e
 exact ⟨⟨o, vs, q1, q2, q3⟩, ⟨o, q1⟩, fun g1 g2 ⟨o', vs', r1, r2, r3⟩ k => ⟨o', vs', k _ r1, r2, r3⟩⟩
def Cx.hd1 (X : Cx) (a : Addr) : Cx := { X with A := X.A.mark (some (.ref a)), calm := false, xe := fun _ _ => False }
section
variable {X : Cx} {pins : List (Addr × Obj)} {σ : St} {H : Hp} {s : Shared}
theorem Inv.mark1 (I : Inv X pins σ H s) (a : Addr) : Inv (X.hd1 a) pins σ H s :=
 ⟨⟨I.ok.mod, I.ok.kind, I.ok.glob, I.ok.blt, I.ok.above, I.ok.inj, I.ok.has, I.ok.cab, (fun z => nomatch z), I.ok.frames, I.ok.stk, I.ok.exf, I.ok.bs, I.ok.bsz, I.ok.noex, I.ok.exfs, I.ok.funs, I.ok.frf⟩, I.os, I.bare, I.base, I.loc, I.cell, I.free, I.freeC, I.pin, I.hok, I.len⟩
theorem Inv.unmark1 (ok : X.Ok) {a : Addr} (I : Inv (X.hd1 a) pins σ H s) : Inv X pins σ H s := ⟨ok, I.os, I.bare, I.base, I.loc, I.cell, I.free, I.freeC, I.pin, I.hok, I.len⟩
theorem tQ (I : Inv X pins σ H s) (hex : X.ex = []) {B h2 : Heap} (bs : ∀ b o, B.get? b = some o -> s.heap.get? b = some o) (st : B.StaysIn h2) (gr : Grd B X.s₀.heap s.heap H X.stack) (up : s.heap.UpToSlots h2)
  (pn : ∀ p ∈ X.pn ++ pins, B.get? p.1 = some p.2) : Inv X pins σ H { s with heap := h2 } := by
 have u := I.base
 have kept : ∀ b o, s.heap.get? b = some o -> b ∉ frs X.stack -> (X.s₀.heap.get? b ≠ none \/ H b ≠ none) -> h2.get? b = some o := fun b o e n1 n2 => by
  cases q : B.get? b with
  | none => exact ((gr b o e q).elim n1 fun z => n2.elim (fun y => y z.1) fun y => y z.2).elim
  | some o' =>
   have := bs b o' q
   rw [e] at this
   cases this
   exact st b o q
 have old : ∀ b o, X.s₀.heap.get? b = some o -> b ∉ X.fs -> b ∉ frs X.stack := fun b o e n z => by
  rcases List.mem_cons.mp (I.stkSub b z) with y | y
  ·subst y; exact absurd (Nat.lt_of_lt_of_le (Heap.lt_size e) I.ok.above) (Nat.lt_irrefl _)
  ·exact n y
 have cells : ∀ c v, s.heap.IsCell c v -> h2.IsCell c v := fun c v ⟨o, ho, hd⟩ => by
  obtain ⟨sl, e⟩ := up c o ho fun vs z => by rw [hd] at z; cases z
  exact ⟨_, e, hd⟩
 refine ⟨I.ok, I.os, I.bare, ⟨fun b o q n hb hx => ?_, fun b o q n hb hx => ?_, u.free, fun b o q hx => ?_, u.tups, u.frzs, u.tbls⟩, ?_, fun x c e => ?_, I.free, I.freeC, fun p hp => ?_, fun b v q => ?_, I.len⟩
 ·exact kept b o (u.keep b o q n hb hx) (old b o q hb) (.inl (by rw [q]; exact fun z => nomatch z))
 ·obtain ⟨sl, e1⟩ := u.slot b o q n hb hx
  obtain ⟨_, o', e', hd⟩ := I.funs.mem hb
  rw [e1] at e'
  cases e'
  obtain ⟨sl', e2⟩ := up b _ e1 hd
  exact ⟨sl', e2⟩
 ·obtain ⟨o', e1⟩ := u.there b o q hx
  by_cases hb : b ∈ frs X.stack
  ·obtain ⟨_, o2, e2, hd⟩ := I.stack.mem hb
   rw [e1] at e2
   cases e2
   obtain ⟨sl, e3⟩ := up b _ e1 hd
   exact ⟨_, e3⟩
  ·exact ⟨o', kept b o' e1 hb (.inl (by rw [q]; exact fun z => nomatch z))⟩
 ·obtain ⟨m, hn, hl⟩ := I.loc
  refine ⟨m, up.ns hn, fun i x v e1 e2 e3 => ?_⟩
  obtain ⟨w', r, l⟩ := hl i x v e1 e2 e3
  refine ⟨w', r, ?_⟩
  rcases l with l | ⟨k, c, e, z⟩
  ·exact .inl l
  ·exact .inr ⟨k, c, e, cells c _ z⟩
 ·obtain ⟨v, z⟩ := I.cell x c e
  exact ⟨v, cells c v z⟩
 ·obtain ⟨_, n, nl, nf, d⟩ := I.pin p hp
  exact ⟨st _ _ (pn p hp), n, nl, nf, d⟩
 ·refine (I.hok b v q).stay (fun c x hc r => ?_) (fun _ q => q) fun _ _ q => q
  have hn : H c ≠ none := by
   rcases hc with rfl | hc
   ·rw [q]; exact fun z => nomatch z
   ·rw [hc]; exact fun z => nomatch z
  exact kept c x r (fun z => hn (I.stkFree c z)) (.inr hn)
theorem Inv.track (I : Inv X pins σ H s) {a C : Addr} (e : ExcAt a C s.heap) (na : X.s₀.heap.get? a = none) (nH : H a = none) (np : ∀ p ∈ X.pn ++ pins, p.1 ≠ a) : Inv X pins σ (upd H a (exo a C)) s := by
 have u := I.base
 obtain ⟨oe, vs, he, hc, hd⟩ := id e
 have nL : X.env.locals ≠ a := fun z => by
  obtain ⟨m, ⟨o, es, ep, ho, hdd, _⟩, _⟩ := I.loc
  rw [z, he] at ho
  cases ho
  rw [hd] at hdd; cases hdd
 have nC : ∀ x c, X.env.cells.lookup x = some c -> c ≠ a := fun x c q z => by
  obtain ⟨v, o, ho, hdd⟩ := I.cell x c q
  rw [z, he] at ho
  cases ho
  rw [hd] at hdd; cases hdd
 refine ⟨I.ok, I.os, I.bare, ⟨u.keep, u.slot, fun b o q n hx => ?_, u.there, fun b xs q => ?_, fun b o xs q => ?_, fun b ps q => ?_⟩, I.loc, I.cell, ?_, fun x c q => ?_, fun p hp => ?_, fun b v q => ?_, I.len⟩
 ·rw [aO (fun z => by rw [z, na] at q; cases q)]; exact u.free b o q n hx
 ·rw [aO (aR (u.tups b xs q) nH)]; exact u.tups b xs q
 ·rw [aO (aR (u.frzs b o xs q) nH)]; exact u.frzs b o xs q
 ·obtain ⟨more, z⟩ := u.tbls b ps q
  exact ⟨more, by rw [aO (aR z nH)]; exact z⟩
 ·rw [aO nL]; exact I.free
 ·rw [aO (nC x c q)]; exact I.freeC x c q
 ·obtain ⟨e1, n, nl, nf, d⟩ := I.pin p hp
  exact ⟨e1, by rw [aO (np p hp)]; exact n, nl, nf, d⟩
 ·by_cases hb : b = a
  ·subst hb
   rw [bF] at q
   cases q
   exact O2 e
  ·rw [aO hb] at q
   exact (I.hok b v q).stay (fun c x _ r => r) (fun c r => by rw [aO (aR r nH)]; exact r) fun c xs r => by rw [aO (aR r nH)]; exact r
theorem name_goes {M : Model} {A : Around} {E : Value -> Shared -> Prop} {Q : Unit -> Shared -> Prop} {i : Nat} {n : Str} {pos : Pos} (I : Inv X pins σ H s) (nd : X.N.Nodup) (hi : X.N[i]? = some n) (hk : X.env.scope.names.lookup n = some .local)
  (h : ∀ s', Inv X pins (σ.set i none) H s' -> Q () s') : wpAny M A (do bindName X.env n .none; unbindBehindTheSuite X.env n pos) Q E s := by
 obtain ⟨m, hn, hl⟩ := id I.loc
 have hcls : (X.env.scope.kind == .class || (X.env.scope.kind == .module && X.env.locals != X.env.globals)) = false := by rw [I.ok.kind]; rfl
 refine wpAny_nameGoes_keeps hk hn hcls fun h' v hn' hs => ?_
 obtain ⟨oL, _, _, hoL, _⟩ := id hn
 have far : ∀ b o, X.s₀.heap.get? b = some o -> b ≠ X.env.locals := fun b o e => Nat.ne_of_lt (Nat.lt_of_lt_of_le (Heap.lt_size e) I.ok.above)
 refine h _ ⟨I.ok, I.os, I.bare, ⟨fun b o e n hb hx => (hs.2 b (far b o e)).trans (I.base.keep b o e n hb hx), fun b o e n hb hx => ?_, I.base.free, fun b o e hx => ?_, I.base.tups, I.base.frzs, I.base.tbls⟩, ⟨_, hn', fun j y v' e1 e2 e3 => ?_⟩, fun y c e => ?_, I.free, I.freeC, fun p hp => ?_, fun b v q => ?_, by rw [List.length_set]; exact I.len⟩
 ·obtain ⟨sl, e1⟩ := I.base.slot b o e n hb hx
  exact ⟨sl, (hs.2 b (far b o e)).trans e1⟩
 ·obtain ⟨o', e1⟩ := I.base.there b o e hx
  exact ⟨o', (hs.2 b (far b o e)).trans e1⟩
 ·have hj : i ≠ j := fun z => by
   subst z
   rw [List.getElem?_set] at e2
   split at e2
   ·split at e2 <;> cases e2
   ·exact absurd rfl ‹¬ i = i›
  rw [List.getElem?_set_ne hj] at e2
  obtain ⟨u', r', q⟩ := hl j y v' e1 e2 e3
  refine ⟨u', r', ?_⟩
  rcases q with ⟨k, e⟩ | ⟨k, c, e, z⟩
  ·refine .inl ⟨k, ?_⟩
   have : y ≠ n := fun e => hj (uA nd (e ▸ hi) e1)
   show (if y = n then v else m y) = some u'
   rw [if_neg this]; exact e
  ·exact .inr ⟨k, c, e, z.sameBut hs (I.cne y c e)⟩
 ·obtain ⟨w', z⟩ := I.cell y c e
  exact ⟨w', z.sameBut hs (I.cne y c e)⟩
 ·obtain ⟨e, n, ne, nf, d⟩ := I.pin p hp
  exact ⟨(hs.2 p.1 ne).trans e, n, ne, nf, d⟩
 ·refine (I.hok b v q).stay (fun c x hc r => (hs.2 c ?_).trans r) (fun _ q => q) fun _ _ q => q
  rintro rfl
  rcases hc with z | z
  ·rw [← z, I.free] at q; cases q
  ·rw [I.free] at z; cases z
end
end L2
namespace MR
open PySem L2 PyProof.Rows PySem.Spec
theorem KQ {X : Cx} {b : BX} {G : List Nat} {body : List Stmt} {tn : TS} {xf : Env -> Option Nat} {cx n wn : Str} {Cc : Addr} {iw ie : Nat} {np p1 p2 p3 hp pos : Pos} (hX : ∀ e s, X.xe e s -> False) (hex : X.ex = []) (hst : X.stack = X.env :: X.outer) (hfr : X.env.frame = some X.env.locals) (nd : X.N.Nodup)
  (hn : X.N[ie]? = some n) (hnl : X.env.scope.names.lookup n = some .local) (hw : X.N[iw]? = some wn) (hwl : Loc X.env.scope wn) (hgl : Gl X cx) (hm : X.mg cx = some (.ref Cc)) (h1 : PSs X body tn) (h2 : ∀ E', XSs (X.wish E') (tX b G (WT (X.wish E') b) xf) body)
  (hd : (cx == ("__debug__" : Str)) = false := by decide) (hdn : (n == ("__debug__" : Str)) = false := by decide) (hcn : (n == ("__classdict__" : Str)) = false := by decide)
  (hsw : swapsWith (.Name n p2) (some (.Name wn p1)) p3.line X.env = pure false := by rfl) (hfn : X.fn wn = true \/ X.env.scope.names.lookup wn = some .local := by first | exact .inl rfl | exact .inr rfl | assumption) :
  PS X (.Try body [.ExceptHandler (some (.Name cx np)) (some n) [.Assign [.Name wn p1] (.Name n p2) p3] hp] [] [] pos) (fun D σ H => tn D σ H \/ ∃ Ow env c, ER b Ow G σ env H /\ xf env = some c /\ PySem.W.exmOne X.K (.ref (b.C.cl c)) (.ref Cc) = some true /\
   ∀ a H1, Same H H1 -> H1 a = none -> D.nx (((σ.set ie (some (.ref a))).set iw (some (.ref a))).set ie none) (upd H1 a (exo a (b.C.cl c)))) := by
 intro pins s σ H D I q
 rcases q with q | ⟨Ow, env, c, E, hxf, hexm, kk⟩
 ·refine wpAny_Try_except (wpAny_mono (h1 pins s σ H D I q) (fun f s1 hs => ?_) fun e s1 hs => (hX e s1 hs).elim)
  cases f with
  | next => exact wpAny_execs_nil hs
  | ret u => exact hs
  | brk => exact hs
  | cont => exact hs
 ·refine wpAny_Try_except (wpAny_mono (h2 (fun e s₁ => wpAny (model X.prog X.w) X.A (noteFrame e X.env) (fun _ s₂ => wpAny (model X.prog X.w) X.A (setFlight e none) (fun _ s₃ => wpAny (model X.prog X.w) X.A (handleBy e X.env [.ExceptHandler (some (.Name cx np)) (some n) [.Assign [.Name wn p1] (.Name n p2) p3] hp]) (SP X pins D) X.xe s₃) X.xe s₂) X.xe s₁) pins s σ H (I.wish _) ⟨Ow, env, c, E, hxf, fun H1 ex s1 sm Li => ?_⟩) (fun _ _ z => z.elim) fun _ _ z => z)
  obtain ⟨a, a0, B, rfl, fl, na, nH, pn, gr⟩ := Li.ex
  have I1 : Inv X pins σ H1 s1 := Li.inv.wish X.xe
  have fl : Heap.FlyingW B X.stack a (.ref (b.C.cl c)) a0 s1.heap := fl
  have pn : ∀ p ∈ X.pn ++ pins, B.get? p.1 = some p.2 := pn
  have gr : Grd B X.s₀.heap s1.heap H1 X.stack := gr
  rw [hst] at fl
  have ok := I.ok
  have frm : X.A.frames = some (X.env :: X.outer) := by rw [← hst]; exact ok.frames
  show wpAny (model X.prog X.w) X.A (noteFrame (.ref a) X.env) _ X.xe s1
  refine wpAny_looks_onW frm hfr fl fun h4 held4 up4 => ?_
  refine wpAny_landsW held4 fun h5 fl5 up5 => ?_
  have np : ∀ p ∈ X.pn ++ pins, p.1 ≠ a := fun p hp z => by
   have := pn p hp
   rw [z, fl.2.1] at this; cases this
  have up45 := up4.trans up5
  have I5 : Inv X pins σ H1 { s1 with heap := h5 } := tQ I1 hex (fun b o q => fl.1 b o q) fl5.1 gr up45 pn
  obtain ⟨oe, vs, hoe, hoc, hod, _⟩ := fl5.first
  refine wpAny_handleBy_cons (codeAny_handlers_test ?_) (by intro q; cases q)
  refine jG (X := X.hd1 a) (I5.mark1 a) hgl hm ?_ hd
  have LT : PySem.W.Looks (model X.prog X.w) h5 (typeOf (.ref a)) (.ref (b.C.cl c)) := hoc ▸ (PySem.W.Looks.ld hoe).andThen .now
  refine PySem.W.Looks.here (PySem.W.exm_one I5.kIn LT hexm) ?_
  show codeAny (model X.prog X.w) (X.A.mark (some (.ref a))) (.handlers (.ref a) [.ExceptHandler none (some n) [.Assign [.Name wn p1] (.Name n p2) p3] hp] X.env) _ { s1 with heap := h5 }
  refine codeAny_handlers_suite_as ?_
  refine lands_againW fl5 fun h6 fl6 up6 => ?_
  have I6 : Inv X pins σ H1 { s1 with heap := h6 } := tQ I1 hex (fun b o q => fl.1 b o q) fl6.1 gr (up45.trans up6) pn
  obtain ⟨o6, v6, ho6, hc6, hd6, _⟩ := fl6.first
  have I7 := (I6.track (a := a) (C := b.C.cl c) ⟨o6, v6, ho6, hc6, hd6⟩ na nH np).mark1 a
  have hil : ie < σ.length := by rw [I.len]; exact (List.getElem?_eq_some_iff.mp hn).1
  refine uB (X := X.hd1 a) I7 nd hn (.inl hnl) (v := .ref a) rfl (fun s8 I8 => ?_) (.inr hnl)
  have st := Bf (yL (X := X.hd1 a) (pos' := p1) (pos := p3) nd hw hwl (g_ (X := X.hd1 a) (pos := p2) hn (.inl hnl) hdn hcn) hsw hfn)
  refine wpAny_mono (st pins s8 _ _ { nx := fun σ9 H9 => σ9 = (σ.set ie (some (.ref a))).set iw (some (.ref a)) /\ H9 = upd H1 a (exo a (b.C.cl c)), rt := fun _ _ => False } I8 ⟨.ref a, List.getElem?_set_self hil, rfl, rfl⟩) (fun f s9 hs => ?_) fun _ _ z => z.elim
  cases f with
  | next =>
   obtain ⟨σ9, H9, I9, e1, e2⟩ := hs
   subst e1 e2
   exact name_goes (I9.unmark1 ok) nd hn hnl fun s10 I10 => ⟨_, _, I10, kk a H1 sm nH⟩
  | ret u => obtain ⟨_, _, _, _, _, z⟩ := hs; exact z.elim
  | brk => obtain ⟨_, _, _, z⟩ := hs; exact z.elim
  | cont => obtain ⟨_, _, _, z⟩ := hs; exact z.elim
end MR
namespace L2
open PySem PySem.Spec PyProof.Rows
structure XCls (K : PySem.W.Frag) (C : Addr) : Prop where
 ga : PySem.W.findIn K (.ref C) "__getattribute__" = some (some (.builtin "BaseException.__getattribute__"))
 gr : PySem.W.findIn K (.ref C) "__getattr__" = some none
 cl : PySem.W.findIn K (.ref C) "__class__" = some (some (.builtin "object.__class__"))
 bo : PySem.W.mroIn K C (.type "object") = some true
 be : PySem.W.mroIn K C (.type "BaseException") = some true
section
variable {prog : Program} {w : World} {A : Around} {E : Value -> Shared -> Prop} {h : Heap} {g : Array GenState} {d : Drawn} {t : Nat} {os : OsState} {a C : Addr} {K : PySem.W.Frag}
theorem HN {R : Result -> Shared -> Prop} (KI : K.In h) (xc : XCls K C) (ex : ExcAt a C h) (hq : R (.ok (.ret (.ref C))) ⟨h, g, d, t, os⟩) :
  codeAny (model prog w) A (.call (.builtin "getset_descriptor.__get__") ⟨[.builtin "object.__class__", .ref a, .ref C], []⟩) R ⟨h, g, d, t, os⟩ := by
 obtain ⟨o, vs, hx, hc, hd⟩ := ex
 have hT5 : (⟨h, g, d, t, os⟩ : Shared).TypeIs (.builtin "object.__class__") "getset_descriptor" := F.typeOf_object_class
 have Lo := PySem.W.looks_mroIn (M := model prog w) KI xc.bo
 refine codeAny_call_builtin F.slot_gs_get.plain F.entry_gs_get (F.slot_gs_get.check _ _ _ _ _ _ _ _ hT5 (F.args_gs_get _ _ _) ?_)
 repeat (any_goals (first | assumption | (with_reducible refine wpAny_loadPart_at hx ?_; rw [hc]) | (rw [F.owner_object_class]; with_reducible refine Lo.at ?_) | with_reducible refine Lo.at ?_ | wp_step))
 refine ⟨Code.quiet_builtin _ (by decide +kernel), codeAny_builtin F.entry_object_class ?_⟩
 repeat (any_goals (first | assumption | (with_reducible refine wpAny_loadPart_at hx ?_; rw [hc]) | wp_step))
theorem HQ {tk : Tok} {Q : Fin -> Shared -> Prop} (KI : K.In h) (xc : XCls K C) (ex : ExcAt a C h) (hq : Q (.done (.ret (.ref C))) ⟨h, g, d, t, os⟩) :
  wpAny (model prog w) A (Builtin.«object.__getattribute__» ⟨[.ref a, .str "__class__" tk], []⟩) Q E ⟨h, g, d, t, os⟩ := by
 obtain ⟨o, vs, hx, hc, hd⟩ := id ex
 have hT5 : (⟨h, g, d, t, os⟩ : Shared).TypeIs (.builtin "object.__class__") "getset_descriptor" := F.typeOf_object_class
 have f5 := F.typeOf_object_class
 have f6 := F.slot_gs_get.lookup
 have f7 := F.slot_gs_set.lookup
 have Lc := PySem.W.looks_findIn (M := model prog w) KI xc.cl
 repeat (any_goals (first | assumption | (with_reducible refine wpAny_loadPart_at hx ?_; rw [hc]) | with_reducible refine Lc.at ?_ | wp_step))
 refine HN KI xc ex ?_
 repeat (any_goals (first | assumption | wp_step))
theorem KR {M : Model} {nameV : Value} {Q : Unit -> Shared -> Prop} (KI : K.In h) (xc : XCls K C) (ex : ExcAt a C h) (hq : Q () ⟨h, g, d, t, os⟩) : wpAny M A (checkBuiltinCall "BaseException.__getattribute__" ⟨[.ref a, nameV], []⟩) Q E ⟨h, g, d, t, os⟩ := by
 obtain ⟨o, vs, hx, hc, hd⟩ := ex
 have k1 : builtinKind "BaseException.__getattribute__" = some .slot := by decide +kernel
 have k2 : splitId "BaseException.__getattribute__" = some ("BaseException", "__getattribute__") := by decide +kernel
 have ha := F.args_bexc_ga (.ref a) nameV
 have Lb := PySem.W.looks_mroIn (M := M) KI xc.be
 simp only [checkBuiltinCall, k1, k2]
 refine wpAny_bind ?_
 unfold isInstance
 repeat (first | (with_reducible refine wpAny_loadPart_at hx ?_; rw [hc]) | with_reducible refine Lb.at ?_ | wp_step)
 exact hq
theorem HR {tk : Tok} {fill expr : Bool} {Q : Value -> Shared -> Prop} (KI : K.In h) (xc : XCls K C) (ex : ExcAt a C h) (hq : Q (.ref C) ⟨h, g, d, t, os⟩) : wpAny (model prog w) A (getAttrBy (.ref a) (.str "__class__" tk) fill expr) Q E ⟨h, g, d, t, os⟩ := by
 obtain ⟨o, vs, hx, hc, hd⟩ := id ex
 have f3 := F.excAttr_ValueError.ga.bind (.ref a)
 have x0 : (expr && onTheHeap (Value.builtin "BaseException.__getattribute__")) = false := by cases expr <;> rfl
 have x2 : (Value.builtin "BaseException.__getattribute__" == Value.builtin "object.__getattribute__") = false := by decide +kernel
 have x1 : (onTheHeap (Value.ref C) && Value.builtin "BaseException.__getattribute__" == Value.builtin "object.__getattribute__") = false := by rw [x2]; exact Bool.and_false _
 have Lg := PySem.W.looks_findIn (M := model prog w) KI xc.ga
 have Lr := PySem.W.looks_findIn (M := model prog w) KI xc.gr
 repeat (any_goals (first | assumption | (with_reducible refine wpAny_loadPart_at hx ?_; rw [hc]) | with_reducible refine Lg.at ?_ | with_reducible refine Lr.at ?_ | wp_step))
 refine codeAny_call_builtin F.excAttr_ValueError.ga.plain F.entry_bexc_ga (KR KI xc ex (HQ KI xc ex ?_))
 repeat (any_goals (first | assumption | wp_step))
theorem FZ {Q : Option Value -> Shared -> Prop} (KI : K.In h) (xc : XCls K C) (ex : ExcAt a C h) (hq : Q (some (.ref C)) ⟨h, g, d, t + 1, os⟩) : wpAny (model prog w) A (getAttr? (.ref a) "__class__") Q E ⟨h, g, d, t, os⟩ := by
 unfold getAttr? getAttrBy?
 repeat (any_goals (first | assumption | with_reducible apply HR KI xc ex | wp_step))
end
theorem By {K : PySem.W.Frag} {C : Addr} {base : Value} {r : Bool} (e : PySem.W.mroIn K C base = some r) : ∃ c dd cd sl, K.lookup C = some ⟨c, dd, .cls cd, sl⟩ := by
 obtain ⟨cd, q, _⟩ := Option.bind_eq_some_iff.mp e
 unfold PySem.W.clsIn at q
 split at q
 ·rename_i c' d' cd' sl' ho; exact ⟨_, _, _, _, ho⟩
 ·cases q
theorem HS {K : PySem.W.Frag} {a C : Addr} (xc : XCls K C) : PySem.W.KitX K (.ref a) (.ref C) (ExcAt a C) where
 ty := fun M h _ ⟨o, vs, hx, hc, _⟩ => hc ▸ (PySem.W.Looks.ld hx).andThen .now
 it := fun M h KI _ => by
  obtain ⟨c, dd, cd, sl, ho⟩ := By xc.bo
  intro A' Q' E' s' k q
  unfold isType loadHead
  exact wpAny_bind (wpAny_loadPart (k _ _ (KI _ _ ho)) (wpAny_pure q))
 ne := fun h tp dd its n sl KI htp => by
  obtain ⟨c, dd', cd, sl', ho⟩ := By xc.bo
  refine Bool.eq_false_iff.mpr fun q => ?_
  have e : C = tp := Value.ref.inj (beq_iff_eq.mp q)
  subst e
  cases (KI _ _ ho).symm.trans htp
 ca := fun {prog w A E Q s} KI ex k => by
  obtain ⟨h, g, d, t, os⟩ := s
  exact FZ KI xc ex k
end L2
namespace MR
open PySem L2
def Kn (i : Nat) (C : Addr) (σ : St) (H : Hp) : Prop := ∃ a, σ[i]? = some (some (.ref a)) /\ H a = some (exo a C)
theorem Kn.up {i : Nat} {C : Addr} {σ : St} {H H' : Hp} (k : Kn i C σ H) (s : Same H H') : Kn i C σ H' := let ⟨a, e1, e2⟩ := k; ⟨a, e1, s _ _ e2⟩
def tKn (i : Nat) (C : Addr) (v : V) : TE := fun σ H Q => Kn i C σ H /\ ∀ H', Same H H' -> Q v H'
def tKt (i : Nat) (C : Addr) (k : Bool) : TT := fun σ H Q => Kn i C σ H /\ ∀ H', Same H H' -> Q k H'
def tKs (i : Nat) (C : Addr) (v : V) : TS := fun D σ H => Kn i C σ H /\ ∀ H', Same H H' -> D.rt v H'
def spE (C : Addr) (v : V) : Sp := fun vs H Q _ => ∃ a, vs = [.ref a] /\ H a = some (exo a C) /\ ∀ H', Same H H' -> Q v H'
section
variable {X : Cx} {i : Nat} {C D : Addr} {v : V} {a c e : Expr} {b : Expr} {rest : List Expr} {pos p p1 p2 : Pos} {x dn : Str} {j k : Bool}
theorem zA : CallR X (.builtin "isinstance") (fun xs H Q => ∃ a C d c b, xs = [.ref a, d] /\ (∀ u, RelV d u -> u = c) /\ H a = some (exo a C) /\ XCls X.K C /\ PySem.W.kitOne X.K (.ref C) c = some b /\ Q (.bl b) H) := by
 intro pins s σ H xs us Q I r h
 obtain ⟨a, C, d, c, b, rfl, hd, ea, xc, hk, q⟩ := h
 obtain ⟨u, w', rfl, r1, r2⟩ := vals2 r
 cases r1
 cases hd _ r2
 have ok : ExcAt a C s.heap := (I.hok a _ ea).1
 exact PySem.W.kia_one (HS xc) I.kIn ok hk (fun z => nomatch z) fun tk => ⟨.bl b, H, I.tok _, rfl, q⟩
theorem m8 (i : Nat) (xc : XCls X.K C) (hk : PySem.W.kitOne X.K (.ref C) (.ref D) = some k) (hm : X.mg "isinstance" = none) (hmd : X.mg dn = some (.ref D)) (hN : X.N[i]? = some x := by rfl)
  (hv : Vis X.env.scope x := by first | exact Or.inl rfl | exact Or.inr (Or.inl rfl) | exact Or.inr (Or.inr rfl)) (hd : (x == ("__debug__" : Str)) = false := by decide) (hcd : (x == ("__classdict__" : Str)) = false := by decide)
  (hg : Gl X "isinstance" := by rfl) (hgd : Gl X dn := by rfl) (hdd : (dn == ("__debug__" : Str)) = false := by decide) (hbi : bootBuiltins "isinstance" = some (.builtin "isinstance") := by decide +kernel)
  (he : starEach [.Name x p1, .Name dn p2] X.env = (false, eval (.Name x p1) X.env) :: starEach [.Name dn p2] X.env := by rfl) (he2 : starEach [.Name dn p2] X.env = (false, eval (.Name dn p2) X.env) :: starEach [] X.env := by rfl) (hpl : (backTo pos (starEach [.Name dn p2] X.env)).any (·.1) = false := by rfl) :
  PE X (.Call (.Name "isinstance" p) [.Name x p1, .Name dn p2] [] pos) (tKn i C (.bl k)) :=
 PE.imp (pO zA hg hm hbi (dC (g_ hN hv hd hcd) (dC (sZ (v := .ref D) hgd hmd rfl hdd) h_ he2) he) (by decide) (by decide) he hpl) fun σ H Q ⟨⟨a, e1, e2⟩, kk⟩ => ⟨.ref a, e1, a, C, .ref D, .ref D, k, rfl, fun u h => h, e2, xc, hk, kk H (Same.refl _)⟩
theorem KY (i : Nat) {dn' : String} (xc : XCls X.K C) (hk : PySem.W.kitOne X.K (.ref C) (.type dn') = some k) (hm : X.mg "isinstance" = none) (hmd : X.mg dn = none) (hbn : bootBuiltins dn = some (.type dn') := by decide +kernel) (hN : X.N[i]? = some x := by rfl)
  (hv : Vis X.env.scope x := by first | exact Or.inl rfl | exact Or.inr (Or.inl rfl) | exact Or.inr (Or.inr rfl)) (hd : (x == ("__debug__" : Str)) = false := by decide) (hcd : (x == ("__classdict__" : Str)) = false := by decide)
  (hg : Gl X "isinstance" := by rfl) (hgd : Gl X dn := by rfl) (hdn : dn ≠ "__name__" := by decide) (hdd : (dn == ("__debug__" : Str)) = false := by decide) (hbi : bootBuiltins "isinstance" = some (.builtin "isinstance") := by decide +kernel)
  (he : starEach [.Name x p1, .Name dn p2] X.env = (false, eval (.Name x p1) X.env) :: starEach [.Name dn p2] X.env := by rfl) (he2 : starEach [.Name dn p2] X.env = (false, eval (.Name dn p2) X.env) :: starEach [] X.env := by rfl) (hpl : (backTo pos (starEach [.Name dn p2] X.env)).any (·.1) = false := by rfl) :
  PE X (.Call (.Name "isinstance" p) [.Name x p1, .Name dn p2] [] pos) (tKn i C (.bl k)) :=
 PE.imp (pO zA hg hm hbi (dC (g_ hN hv hd hcd) (dC (Bc (v := .ty dn') hgd hmd hbn rfl hdn hdd) h_ he2) he) (by decide) (by decide) he hpl) fun σ H Q ⟨⟨a, e1, e2⟩, kk⟩ => ⟨.ref a, e1, a, C, .ty dn', .type dn', k, rfl, fun u h => h, e2, xc, hk, kk H (Same.refl _)⟩
theorem O3 (i : Nat) {jj : Nat} (hN : X.N[i]? = some x := by rfl) (hv : Vis X.env.scope x := by first | exact Or.inl rfl | exact Or.inr (Or.inl rfl) | exact Or.inr (Or.inr rfl)) (hd : (x == ("__debug__" : Str)) = false := by decide) (hcd : (x == ("__classdict__" : Str)) = false := by decide) :
  PT X (.Compare (.Name x p1) [.Is] [.Constant .none jj p2] pos) (tKt i C false) :=
 PT.imp (Mp (Mm (g_ hN hv hd hcd))) fun σ H Q ⟨⟨a, e1, e2⟩, kk⟩ => ⟨.ref a, e1, false, rfl, kk H (Same.refl _)⟩
theorem KZ (i : Nat) {kd j0 : Nat} {f : Str} {ps : List Str} (cc : Cal X.prog X.w X.K X.mg X.base kd f ps (spE C v)) (hr : Room j0 X.A) (hN : X.N[i]? = some x := by rfl) (hv : Vis X.env.scope x := by first | exact Or.inl rfl | exact Or.inr (Or.inl rfl) | exact Or.inr (Or.inr rfl))
  (hd : (x == ("__debug__" : Str)) = false := by decide) (hcd : (x == ("__classdict__" : Str)) = false := by decide) (hle : kd <= j0 := by decide) (hg : Gl X f := by rfl) (hdb : (f == ("__debug__" : Str)) = false := by decide)
  (he : starEach [.Name x p1] X.env = (false, eval (.Name x p1) X.env) :: starEach [] X.env := by rfl) (hpl : (backTo pos (starEach [] X.env)).any (·.1) = false := by rfl) : PE X (.Call (.Name f p) [.Name x p1] [] pos) (tKn i C v) :=
 PE.imp (Fl cc hr (dC (g_ hN hv hd hcd) h_ he) hle hg hdb he hpl) fun σ H Q ⟨⟨a, e1, e2⟩, kk⟩ => ⟨.ref a, e1, a, rfl, e2, kk⟩
theorem O4 {op : BoolOp} (h : PE X a (tKn i C v)) : PE X (.BoolOp op [a] pos) (tKn i C v) := Eg h
theorem JH (h1 : PE X a (tKn i C (.bl j))) (h2 : PE X (.BoolOp .Or (b :: rest) pos) (tKn i C (.bl k))) : PE X (.BoolOp .Or (a :: b :: rest) pos) (tKn i C (.bl (j || k))) :=
 PE.imp (Jo h1 h2) fun σ H Q ⟨kn, kk⟩ => ⟨kn, fun H' s => ⟨j, rfl, by
  cases j with
  | false => exact ⟨kn.up s, fun H2 s2 => kk H2 (s.trans s2)⟩
  | true => exact kk H' s⟩⟩
theorem pD (h : PE X e (tKn i C (.bl j))) (he : ∀ whole, isTrue e X.env whole = (do let v ← whole; standAt e.pos; holding [v] (truthy v)) := by intro _; rfl) : PT X e (tKt i C j) := PT.imp (Eb h he) fun σ H Q ⟨kn, kk⟩ => ⟨kn, fun H' s => ⟨j, rfl, kk H' s⟩⟩
theorem K1 (h : PT X a (tKt i C j)) : PW X (.BoolOp .And [a] pos) (tKt i C j) := Bd h
theorem O5 (h : PT X a (tKt i C j)) : PW X (.BoolOp .Or [a] pos) (tKt i C j) := Ec h
theorem F_ (h1 : PT X a (tKt i C j)) (h2 : PW X (.BoolOp .And (b :: rest) pos) (tKt i C k)) : PW X (.BoolOp .And (a :: b :: rest) pos) (tKt i C (j && k)) := fun wh pins s σ H Q I ⟨kn, kk⟩ => Ed h1 h2 wh pins s σ H Q I ⟨kn, fun H' s' => by
 cases j with
 | true => exact ⟨kn.up s', fun H2 s2 => kk H2 (s'.trans s2)⟩
 | false => exact kk H' s'⟩
theorem JK (h1 : PT X a (tKt i C j)) (h2 : PW X (.BoolOp .Or (b :: rest) pos) (tKt i C k)) : PW X (.BoolOp .Or (a :: b :: rest) pos) (tKt i C (j || k)) := fun wh pins s σ H Q I ⟨kn, kk⟩ => Jm h1 h2 wh pins s σ H Q I ⟨kn, fun H' s' => by
 cases j with
 | false => exact ⟨kn.up s', fun H2 s2 => kk H2 (s'.trans s2)⟩
 | true => exact kk H' s'⟩
theorem O6 (h : PT X a (tKt i C j)) : PT X (.UnaryOp .Not a pos) (tKt i C (!j)) := PT.imp (Ef h) fun σ H Q ⟨kn, kk⟩ => ⟨kn, fun H' s => kk H' s⟩
variable {sa sb : List Stmt} {st : List Stmt}
theorem Ga (h : PE X e (tKn i C v)) : PSs X (.Return (some e) pos :: st) (tKs i C v) := PSs.imp (mK (yK h) lK) fun D σ H q => q
theorem O7 {y : Str} {jj : Nat} : PE X (.Constant (.str y) jj pos) (tKn i C (.str y)) := PE.imp Ea fun σ H Q ⟨_, kk⟩ => kk H (Same.refl _)
theorem Gb (hc : PT X c (tKt i C false)) (h : PSs X st (tKs i C v)) : PSs X (.If c sa [] pos :: st) (tKs i C v) := PSs.imp (mK (Cq hc lK Be) h) fun D σ H ⟨kn, kk⟩ => ⟨kn, fun H' s => ⟨kn.up s, fun H2 s2 => kk H2 (s.trans s2)⟩⟩
theorem O8 (hc : PT X c (tKt i C true)) (h : PSs X sa (tKs i C v)) : PSs X (.If c sa sb pos :: st) (tKs i C v) := PSs.imp (mK (Cq hc h lK) lK) fun D σ H ⟨kn, kk⟩ => ⟨kn, fun H' s => ⟨kn.up s, fun H2 s2 => kk H2 (s.trans s2)⟩⟩
end
theorem PSs.or {X : Cx} {e : List Stmt} {t u : TS} (h : PSs X e t) (h' : PSs X e u) : PSs X e (fun D σ H => t D σ H \/ u D σ H) := fun pins s σ H D I q => q.elim (h pins s σ H D I) (h' pins s σ H D I)
def atV : PV -> Option V
 | .non => some .non
 | .bl b => some (.bl b)
 | .int i => some (.int i)
 | .str x => some (.str x)
 | _ => none
theorem K3 {C : MC} {A : Addr -> Prop} {H : Hp} {p : PV} {v : V} (h : atV p = some v) : Rep C A H v p := by
 cases p with
 | non => cases h; exact .non
 | bl b => cases h; exact .bl b
 | int i => cases h; exact .int i
 | str x => cases h; exact .str x
 | _ => cases h
def HW (f : Env -> Option Out) (xf : Env -> Option Nat) (c0 : Nat) (v : PV) (r : Env -> Option Out) (env : Env) : Option Out := match xf env with
 | some c => if c = c0 then some (.rt v) else none
 | none => (f env).bind fun o => match o with
  | .nx e => r e
  | o => some o
@[simp] theorem K4 (f : Env -> Option Out) (xf : Env -> Option Nat) (c0 : Nat) (v : PV) (r : Env -> Option Out) (env : Env) : HW f xf c0 v r env = (match xf env with
 | some c => if c = c0 then some (.rt v) else none
 | none => (f env).bind fun o => match o with
  | .nx e => r e
  | o => some o) := id rfl
theorem O9 {X : Cx} {b : BX} {G G' L : List Nat} {body rest : List Stmt} {f r : Env -> Option Out} {xf : Env -> Option Nat} {cx n wn : Str} {Cc : Addr} (iw ie c0 : Nat) {p : PV} {v : V} {np p1 p2 p3 hp pos : Pos} (hv : atV p = some v) (nd : X.N.Nodup)
  (hm : X.mg cx = some (.ref Cc)) (hexm : PySem.W.exmOne X.K (.ref (b.C.cl c0)) (.ref Cc) = some true) (h1 : SSs X b G G L false body f) (h2 : ∀ E', XSs (X.wish E') (tX b G (WT (X.wish E') b) xf) body) (hr : SSs X b G G' L false rest r) (hR : PSs X rest (tKs iw (b.C.cl c0) v))
  (hX : ∀ e s, X.xe e s -> False := by exact fun _ _ z => z) (hex : X.ex = [] := by rfl) (hst : X.stack = X.env :: X.outer := by rfl) (hfr : X.env.frame = some X.env.locals := by rfl)
  (hn : X.N[ie]? = some n := by rfl) (hnl : X.env.scope.names.lookup n = some .local := by rfl) (hw : X.N[iw]? = some wn := by rfl) (hwl : Loc X.env.scope wn := by first | exact Or.inl rfl | exact Or.inr rfl) (hwe : (iw == ie) = false := by rfl) (hgl : Gl X cx := by rfl)
  (hd : (cx == ("__debug__" : Str)) = false := by decide) (hdn : (n == ("__debug__" : Str)) = false := by decide) (hcn : (n == ("__classdict__" : Str)) = false := by decide)
  (hsw : swapsWith (.Name n p2) (some (.Name wn p1)) p3.line X.env = pure false := by rfl) (hfn : X.fn wn = true \/ X.env.scope.names.lookup wn = some .local := by first | exact .inl rfl | exact .inr rfl | assumption) :
  SSs X b G G' L false (.Try body [.ExceptHandler (some (.Name cx np)) (some n) [.Assign [.Name wn p1] (.Name n p2) p3] hp] [] [] pos :: rest) (HW f xf c0 p r) := by
 intro pins s σ H D I ⟨Ow, env, o, E, hq, kk⟩
 refine mK (KQ hX hex hst hfr nd hn hnl hw hwl hgl hm h1 h2 hd hdn hcn hsw hfn) (PSs.or hr hR) pins s σ H D I ?_
 rw [K4] at hq
 cases q : xf env with
 | some c =>
  rw [q] at hq
  have hq : (if c = c0 then some (Out.rt p) else none) = some o := hq
  by_cases hc : c = c0
  ·subst hc
   rw [if_pos rfl] at hq
   cases hq
   refine .inr ⟨Ow, env, c, E, q, hexm, fun a H1 sm nH => .inr ⟨⟨a, ?_, bF⟩, fun H' s' => ?_⟩⟩
   ·have hil : iw < σ.length := by rw [I.len]; exact (List.getElem?_eq_some_iff.mp hw).1
    have ne : ie ≠ iw := fun z => by subst z; simp at hwe
    rw [List.getElem?_set_ne ne, List.getElem?_set_self (by rw [List.length_set]; exact hil)]
   ·have kk' : ∀ v H', Same b.H0 H' -> Ret b.C b.A b.H0 false H' v p -> D.rt v H' := kk
    exact kk' v H' (E.same.trans (sm.trans ((bw nH _).trans s'))) (K3 hv)
  ·rw [if_neg hc] at hq
   cases hq
 | none =>
  rw [q] at hq
  obtain ⟨o1, ho, hq⟩ := aA hq
  refine .inl ⟨Ow, env, o1, E, ho, ?_⟩
  cases o1 with
  | nx e1 => exact fun Ow' σ' H' E' x => .inl ⟨Ow', e1, o, E', hq, kk.ex x⟩
  | bk e1 => cases hq; exact kk
  | ct e1 => cases hq; exact kk
  | rt p1 => cases hq; exact kk
theorem O_ {P : Program} {w : World} {K : PySem.W.Frag} {mg : Str -> Option Value} {base : Heap} {x qual : Str} {st : Stmt} {f : Addr} {fd : FuncData} {N : List Str} {y : Str} {k : Nat} {C : Addr} {v : V} (F : Fun K x qual st f fd) (S : FnScope N [y] (aq st))
  (hb : ∀ (cdv : Value) (A : Around) (outer : List PySem.Env) (s : Shared) (H : Hp) (E : XK), Room k (A.deeper (PyProof.Rows.envOfC qual (aq st) s.heap.objs.size f cdv)) -> PSs (dj CX0 P w K mg base N qual (aq st) f cdv A outer s H E).nox (eZ st) (tKs 0 C v)) :
  FnOk P w K mg base CX0 (k + 1) f fd [y] (spE C v) := by
 refine F.ok S (fun vs H Q E ⟨a, e, _⟩ => by rw [e]; rfl) fun cdv A outer s H vs Q E hr ⟨a, e, ha, kk⟩ => ⟨_, hb cdv A outer s H E hr, ⟨a, ?_, ha⟩, fun H' s' => kk H' s'⟩
 subst e
 rfl
end MR
namespace L2
open PySem PySem.Spec PyProof.Rows
def jw (x : Str) (n : Nat) : Str := ⟨(List.replicate n x.cps).foldl (· ++ ·) #[]⟩
theorem K5 {X : Cx} : OpR X (binaryOp .Mult) (fun x y H Q => ∃ i n, x = .str i /\ y = .int n /\ ((n = 1 /\ Q (.str i) H) \/ (2 <= n /\ n <= 1000 /\ 1 <= i.length /\ (jw i n.toNat).length <= 1000000 /\ i.length <= 1000 /\ Q (.str (jw i n.toNat)) H))) := by
 intro pins s σ H x y v u Q I rx ry h
 obtain ⟨i, n, rfl, rfl, h⟩ := h
 obtain ⟨t, rfl⟩ := rx
 obtain ⟨t', rfl⟩ := ry
 rcases h with ⟨rfl, q⟩ | ⟨n2, n3, l1, l3, l2, q⟩
 ·refine P.mul_str (by decide) (fun _ z => by simp at z) (fun _ z => by simp at z) ?_
  exact ⟨.str i, H, I, ⟨t, rfl⟩, q⟩
 ·have e1 : ¬ n < 1 := by omega
  have e2 : (n == 1 || i.length == 0) = false := by
   have a : (n == 1) = false := by rw [beq_eq_false_iff_ne]; omega
   have c : (i.length == 0) = false := by rw [beq_eq_false_iff_ne]; omega
   rw [a, c]; rfl
  refine P.mul_str (by rw [decide_eq_false (by omega), decide_eq_false (by omega)]; rfl) (fun _ _ => ?_) (fun _ _ => ?_) ?_
  ·have : (1000 : Int) <= (2 ^ 63 - 1) / n := by
    refine Int.le_ediv_of_mul_le (by omega) ?_
    have : 1000 * n <= 1000 * 1000 := by omega
    omega
   omega
  ·have h3 : i.length * n.toNat <= 1000 * 1000 := Nat.mul_le_mul l2 (by omega)
   have : (1000 * 1000 : Nat) <= sizeLine := by decide
   unfold Builtin.Str.tooLong
   simp only [decide_eq_false_iff_not]
   omega
  ·rw [if_neg e1, if_neg (by rw [e2]; exact Bool.false_ne_true)]
   exact ⟨Nat.le_of_lt (jH l3), .str _, H, I.tok _, ⟨_, rfl⟩, q⟩
end L2
namespace MR
open PySem L2
@[simp] noncomputable def lE : PV -> PV -> Option PV
 | .int i, .int j => if (smI i || smI j) = true then some (.int (i * j)) else none
 | .str x, .int n => if n = 1 then some (.str x) else if 2 <= n /\ n <= 1000 /\ 1 <= x.length /\ (jw x n.toNat).length <= 1000000 /\ x.length <= 1000 then some (.str (jw x n.toNat)) else none
 | _, _ => none
@[simp] def mD : PV -> Option PV
 | .str x => if x.length <= 1000 then some (.str (Txt.upper x)) else none
 | _ => none
section
variable {X : Cx} {b : BX} {G : List Nat} {m m1 m2 : Md} {e e1 e2 : Expr} {f f1 f2 : Env -> Option PV} {pos : Pos}
theorem K6 : Op2 b .val (fun x y H Q => rI CMul (fun i j => .int (i * j)) x y H Q \/ ∃ i n, x = .str i /\ y = .int n /\ ((n = 1 /\ Q (.str i) H) \/ (2 <= n /\ n <= 1000 /\ 1 <= i.length /\ (jw i n.toNat).length <= 1000000 /\ i.length <= 1000 /\ Q (.str (jw i n.toNat)) H))) lE := by
 intro Ow H v1 v2 p1 p2 p Q hn r1 r2 e k
 unfold lE at e
 split at e
 ·rename_i i j
  exact .inl (Fp Ow H v1 v2 (.int i) (.int j) p Q hn r1 r2 e k)
 ·rename_i x n
  refine .inr ⟨x, n, r1.str, r2.int, ?_⟩
  split at e
  ·rename_i h1; cases e; exact .inl ⟨h1, k _ H (Same.refl _) (.str _)⟩
  ·split at e
   ·rename_i h2; cases e; exact .inr ⟨h2.1, h2.2.1, h2.2.2.1, h2.2.2.2.1, h2.2.2.2.2, k _ H (Same.refl _) (.str _)⟩
   ·cases e
 ·cases e
theorem BJ (h1 : SE X b G m1 e1 f1) (h2 : SE X b G m2 e2 f2) : SE X b G .val (.BinOp e1 .Mult e2 pos) (b2 lE f1 f2) := pW (OpR.or El K5) K6 h1 h2
def Ss (x : V) (xs : List V) (H : Hp) (Q : VK) : Prop := ∃ y : Str, x = .str y /\ xs = [] /\ y.length <= 1000 /\ Q (.str (Txt.upper y)) H
theorem Gd : MtR X "str.upper" Ss := by
 intro pins s σ H x vs v us Q I rx rv h
 obtain ⟨y, rfl, rfl, hl, q⟩ := h
 obtain ⟨t, rfl⟩ := rx
 cases rv
 have hfit : Builtin.Str.tooLong (Txt.upper y).length = false := PyProof.Rows.fit_upper (by omega)
 exact call_gives F.slot_str_upper (typeIs_str _ _ _) F.entry_str_upper (F.args_str_upper_1 _) (gives_str_upper _ t hfit) ⟨fit_le hfit, ⟨.str _, H, I.tok _, ⟨_, rfl⟩, q⟩⟩
theorem Ge {apos cpos : Pos} (h : SE X b G m1 e f) (hbase : attributeBase e "upper" X.env (eval e X.env) = eval e X.env := by rfl) (hline : (apos.endLine == cpos.line) = true := by rfl) :
  SE X b G .val (.Call (.Attribute e "upper" apos) [] [] cpos) (b1 mD f) := by
 refine PE.imp (Nq PySem.F.plainAttrs_str PySem.F.slot_str_upper PySem.F.type_str_upper Gd h.bor hbase hline) fun σ H Q h => ?_
 obtain ⟨Ow, env, p, E, hf, k⟩ := h
 obtain ⟨p1, q1, hf⟩ := aA hf
 unfold mD at hf
 split at hf
 ·split at hf
  ·rename_i y hl
   cases hf
   refine ⟨Ow, env, _, E, q1, fun v1 H1 s1 r1 => ?_⟩
   have r1' : RepB b.C (Bs b Ow) H1 v1 (.str y) := r1
   have ev := r1'.str
   subst ev
   exact ⟨rfl, y, rfl, rfl, hl, k _ H1 s1 (.str _)⟩
  ·cases hf
 ·cases hf
end
theorem PS.nox {X : Cx} {st : Stmt} {t : TS} (h : PS X.nox st t) : PS X st t := fun pins s σ H D I hw => wpAny_mono (h pins s σ H D (I.wish _) hw) (fun _ _ q => q.unwish) fun _ _ z => z.elim
end MR
namespace L2
open PySem PySem.Spec PyProof.Rows
section
variable {M : Model} {A : Around} {E : Value -> Shared -> Prop} {s : Shared}
structure At (base : Heap) (l : List Env) (a : Addr) (cls a0 fl : Value) (h : Heap) : Prop where
 st : base.StaysIn h
 no : base.get? a = none
 fr : h.FunFrames base l
 tr : h.TracedAtW base a cls a0 fl
theorem At.put {base : Heap} {l : List Env} {e : Addr} {cls a0 fl v : Value} {T : Addr} {oe : Obj} {vs : Array Value} {Q : Unit -> Shared -> Prop} (x : At base l e cls a0 fl s.heap) (he : s.heap.get? e = some oe) (hd : oe.data = .fields vs) (h1 : vs[1]? = some (.ref T))
  (h : ∀ h', At base l e cls a0 v h' -> s.heap.UpToSlots h' -> h'.get? e = some oe -> Q () { s with heap := h' }) : wpAny M A (setField (.ref T) 3 v) Q E s := by
 obtain ⟨oe', vs', T', oT, ts, he', hc, hd', h1', hnT, hTe, hT, hdT, h3⟩ := x.tr
 rw [he] at he'
 cases he'
 rw [hd] at hd'
 cases hd'
 rw [h1] at h1'
 cases h1'
 have sz : 3 < ts.size := (Array.getElem?_eq_some_iff.mp h3).1
 have other : ∀ b, b ≠ T -> (s.heap.update T (Obj.mapFields (·.setIfInBounds 3 v))).get? b = s.heap.get? b := fun b hb => Heap.get?_update_other _ _ (Ne.symm hb)
 have far : ∀ b o, s.heap.get? b = some o -> (∀ ws, o.data ≠ .fields ws) -> b ≠ T := fun b o q n z => by
  subst z
  rw [hT] at q
  cases q
  exact n _ hdT
 refine wpAny_setField hT hdT sz (h _ ⟨fun b o q => (other b fun z => ?_).trans (x.st b o q), x.no, x.fr.of_keeps fun b o q n => ⟨o, (other b (far b o q n)).trans q, rfl⟩, ?_⟩ (fun b o q n => ⟨o.slots, (other b (far b o q n)).trans q⟩) ((other e (Ne.symm hTe)).trans he))
 ·rw [z, hnT] at q; cases q
 ·exact ⟨oe, vs, T, _, _, (other e (Ne.symm hTe)).trans he, hc, hd, h1, hnT, hTe, Heap.get?_update_self _ hT (Obj.isFreed_of_fields (Obj.data_mapFields hdT _)), Obj.data_mapFields hdT _, by simp [sz]⟩
theorem At.flight {base : Heap} {l : List Env} {e : Addr} {cls a0 fl : Value} {fr : Option Addr} {Q : Unit -> Shared -> Prop} (x : At base l e cls a0 fl s.heap)
  (h : ∀ h', At base l e cls a0 (fr.elim .none fun f => rawInt f) h' -> s.heap.UpToSlots h' -> Q () { s with heap := h' }) : wpAny M A (setFlight (.ref e) fr) Q E s := by
 obtain ⟨oe, vs, T, oT, ts, he, hc, hd, h1, hnT, hTe, hT, hdT, h3⟩ := x.tr
 unfold setFlight
 refine wpAny_bind (wpAny_field he hd h1 ?_)
 rw [if_pos (show (Value.ref T != Value.none) = true from by simp)]
 exact x.put he hd h1 fun h' y up _ => h h' y up
theorem At.passes {α : Type} {base : Heap} {l : List Env} {e : Addr} {cls a0 fl : Value} {env : Env} {what : String} {Q : α -> Shared -> Prop} (x : At base l e cls a0 fl s.heap)
  (h : ∀ h', At base l e cls a0 (env.frame.elim .none fun f => rawInt f) h' -> s.heap.UpToSlots h' -> E (.ref e) { s with heap := h' }) : wpAny M A (PySem.passOn what (.ref e) env : Sem α) Q E s := by
 obtain ⟨oe, vs, T, oT, ts, he, hc, hd, h1, hnT, hTe, hT, hdT, h3⟩ := x.tr
 unfold PySem.passOn
 refine wpAny_bind (wpAny_field he hd h1 ?_)
 rw [if_neg (show ¬ (Value.ref T == Value.none) = true from by simp)]
 exact wpAny_bind (x.flight fun h' y up => wpAny_throw (h h' y up))
theorem At.leaves {base : Heap} {env : Env} {outer : List Env} {L e : Addr} {cls a0 fl : Value} {Q : Unit -> Shared -> Prop} (hfr : A.frames = some (env :: outer)) (hf : env.frame = some L) (x : At base (env :: outer) e cls a0 fl s.heap)
  (hQ : ∀ h', Heap.FlyingW base outer e cls a0 h' -> s.heap.UpToSlots h' -> Q () { s with heap := h' }) : wpAny M A (leaving env (.ref e)) Q E s := by
 obtain ⟨oe, vs, T, oT, ts, he, hc, hd, h1, hnT, hTe, hT, hdT, h3⟩ := x.tr
 unfold leaving noteFrame
 simp only [hf]
 refine wpAny_bind (wpAny_bind (wpAny_field he hd h1 ?_))
 rw [if_pos (show (Value.ref T != Value.none) = true from by simp)]
 refine wpAny_bind (wpAny_field hT hdT h3 ?_)
 by_cases hh : (fl == rawInt L) = true
 ·rw [if_pos hh]
  refine wpAny_pure ?_
  refine x.flight fun h' y up => ?_
  obtain ⟨_, _, k⟩ := y.fr
  exact hQ h' ⟨y.st, y.no, k, y.tr⟩ up
 ·rw [if_neg hh]
  refine wpAny_bind (x.put he hd h1 fun h1' y up he' => ?_)
  refine wpAny_newEntryW hfr y.fr hf he' y.st y.no hd (Array.getElem?_eq_some_iff.mp h1).1 hc.2 fun h' ⟨x1, ⟨_, _, x2⟩, x3, x4⟩ => ?_
  have hc1 := hc.1
  subst hc1
  exact hQ h' ⟨x1, y.no, x2, x3⟩ fun b o q n => by
   obtain ⟨sl, q1⟩ := up b o q n
   obtain ⟨sl', q2⟩ := x4 b _ q1 n
   exact ⟨sl', q2⟩
def less (B : Heap) (C : Addr) : Heap := B.update C fun o => { o with data := .freed }
theorem wj (B : Heap) (C : Addr) : (less B C).get? C = none := by
 cases q : (less B C).get? C with
 | none => rfl
 | some o =>
  exfalso
  unfold less at q
  obtain ⟨e1, e2⟩ := Heap.get?_some_iff.mp q
  cases B with
  | mk objs l =>
   simp only [Heap.update, Array.getElem?_modify, if_true] at e1
   cases z : objs[C]? with
   | none => rw [z] at e1; cases e1
   | some o' => rw [z] at e1; cases e1; simp [Obj.isFreed] at e2
theorem tR {B : Heap} {C b : Addr} (h : b ≠ C) : (less B C).get? b = B.get? b := Heap.get?_update_other _ _ (Ne.symm h)
theorem HX {B : Heap} {C b : Addr} {o : Obj} (h : (less B C).get? b = some o) : B.get? b = some o := by
 by_cases z : b = C
 ·subst z; rw [wj] at h; cases h
 ·rw [tR z] at h; exact h
theorem less_none {B : Heap} {C b : Addr} (h : B.get? b = none) : (less B C).get? b = none := by
 by_cases z : b = C
 ·subst z; exact wj _ _
 ·rw [tR z]; exact h
theorem At.less {base h h' : Heap} {l : List Env} {e C : Addr} {cls a0 fl : Value} (x : At base l e cls a0 fl h) (hs : Heap.SameBut C h h') (hC : ∃ o, h.get? C = some o /\ ∀ vs, o.data ≠ .fields vs) (hn : C ∉ frs l) : At (less base C) l e cls a0 fl h' := by
 obtain ⟨oC, q1, q2⟩ := hC
 have fr : ∀ {l : List Env}, C ∉ frs l -> h.FunFrames base l -> h'.FunFrames (L2.less base C) l := fun {l} => by
  induction l with
  | nil => exact fun _ _ => trivial
  | cons env r ih =>
   intro hn ⟨k1, ⟨L, o, k2, k3, k4, k5⟩, k6⟩
   have hL : L ≠ C := fun z => by subst z; exact hn (by unfold frs; rw [List.filterMap_cons, k2]; simp)
   exact ⟨k1, ⟨L, o, k2, less_none k3, (hs.2 L hL).trans k4, k5⟩, ih (fun z => hn (by unfold frs at z ⊢; rw [List.filterMap_cons]; cases env.frame with | none => exact z | some y => exact List.mem_cons_of_mem _ z)) k6⟩
 obtain ⟨oe, vs, T, oT, ts, he, hc, hd, h1, hnT, hTe, hT, hdT, h3⟩ := x.tr
 have ne : e ≠ C := fun z => by subst z; rw [he] at q1; cases q1; exact q2 _ hd
 have nT : T ≠ C := fun z => by subst z; rw [hT] at q1; cases q1; exact q2 _ hdT
 refine ⟨fun b o q => ?_, less_none x.no, fr hn x.fr, oe, vs, T, oT, ts, (hs.2 e ne).trans he, hc, hd, h1, less_none hnT, hTe, (hs.2 T nT).trans hT, hdT, h3⟩
 have hb : b ≠ C := fun z => by subst z; rw [wj] at q; cases q
 rw [hs.2 b hb]
 exact x.st b o (HX q)
end
end L2
namespace L2
open PySem PySem.Spec PyProof.Rows
theorem Gf {prog : Program} {w : World} {A : Around} {R : Result -> Shared -> Prop} {s : Shared} {elt target iter : Expr} {ifs : List Expr} {scope : Scope} {pos : Pos} {it acc : Value} {env : Env} (I : Nat -> Shared -> Prop)
  (turn : ∀ n s, I n s -> wpAny (model prog w) A (pyNext it) (fun r s₁ => match r with
   | none => False
   | some v => wpAny (model prog w) A (letOwnedTupleGo target it v) (fun _ s₁' => wpAny (model prog w) A (assign target env v) (fun _ s₂ =>
     wpAny (model prog w) A (forIn ifs true fun c r => if r = true then do let ok ← isTrue c env (eval c env); pure (ForInStep.yield ok) else pure (ForInStep.yield r)) (fun ok s₃ =>
      if ok = true then wpAny (model prog w) A (eval elt env) (fun x s₄ =>
       wpAny (model prog w) A (call (.builtin "list.append") [acc, x]) (fun _ s₅ => ∃ m, m < n /\ I m s₅) (fun _ _ => False) s₄) (notedBy (model prog w) A env fun e s' => R (.error e) s') s₃
      else ∃ m, m < n /\ I m s₃) (fun _ _ => False) s₂) (fun _ _ => False) s₁') (fun _ _ => False) s₁) (fun _ _ => False) s)
  (n : Nat) (h : I n s) :
  codeAny (model prog w) A (.compLoop (.ListComp elt [⟨target, iter, ifs, 0⟩] scope pos) 0 it acc env) R s := by
 refine codeAny_loop rfl I (fun n s hI => ?_) n h
 show wpAny _ A ((compTurn (.ListComp elt [⟨target, iter, ifs, 0⟩] scope pos) 0 it acc env).onRaise (fun x => do noteFrame x env; theTreesLotGoes x)) _ _ s
 refine wpAny_noted ?_
 rw [compTurn_list]
 refine wpAny_bind (wpAny_standAt (wpAny_bind (wpAny_mono (turn n s hI) (fun r s₁ h₁ => ?_) fun _ _ h' => h'.elim)))
 cases r with
 | none => exact h₁.elim
 | some v =>
  refine wpAny_bind (wpAny_mono h₁ (fun _ s₁' h₁' => ?_) fun _ _ h' => h'.elim)
  refine wpAny_bind (wpAny_mono h₁' (fun _ s₂ h₂ => wpAny_bind (wpAny_mono h₂ (fun ok s₃ h₃ => ?_) fun _ _ h' => h'.elim)) fun _ _ h' => h'.elim)
  cases ok with
  | false => exact wpAny_pure ⟨rfl, h₃⟩
  | true =>
   exact wpAny_bind (wpAny_bind (wpAny_mono h₃ (fun x s₄ h₄ => wpAny_bind (wpAny_mono h₄ (fun _ s₅ h₅ => wpAny_pure (wpAny_pure ⟨rfl, h₅⟩)) fun _ _ h' => h'.elim)) fun _ _ h' => h'))
def XC (Y : Cx) (xr : St -> Hp -> Prop) (E : XK) (e : Expr) : Prop := ∀ (pins : List (Addr × Obj)) (s : Shared) (σ : St) (H : Hp), Inv Y pins σ H s -> xr σ H ->
 wpAny (model Y.prog Y.w) Y.A (eval e Y.env) (fun _ _ => False) (fun ex s' => ∃ H1 s1, Inv Y pins σ H1 s1 /\ CXW Y.prog Y.w Y.stack H1 s1 E ex s') s
structure TCompX (wi : TI) (cap : List (Option Nat)) (g : TG) (tt : TT) (te : TE) (xr : St -> Hp -> Prop) (σ : St) (H : Hp) : Prop where
 ex : wi σ H fun J H1 => ∀ D, H1 D = none -> ∃ W : Nat -> Nat -> List V -> Hp -> Prop,
 (∃ m, W 0 m [] (upd H1 D (.lst []))) /\ ∀ i m ys H, W i m ys H -> H D = some (.lst ys) /\
  (J.go i H /\ ∃ N : List V -> Hp -> Prop, (∀ ys' H', N ys' H' -> ∃ m', m' < m /\ W (i + 1) m' ys' H') /\ ∀ x H', J.yld i H x H' -> g x (cT cap σ) H' fun σ2 H2 => Kp (cT cap σ) σ2 /\ tt σ2 H2 fun b H3 =>
   if b = true then (te σ2 H3 fun y H4 => H4 D = some (.lst ys) /\ ys.length < sizeLine /\ N (ys ++ [y]) (upd H4 D (.lst (ys ++ [y])))) \/ xr σ2 H3 else N ys H3)
section
variable {P : Program} {w : World} {K : PySem.W.Frag} {mg : Str -> Option Value} {base : Heap} {fN : List Str} {qual : Str} {fscope : Scope} {f : Addr} {cd : Value} {A : Around} {outer : List Env} {s0 : Shared} {H0 : Hp} {E : XK}
theorem Gg {X : Cx} {pins : List (Addr × Obj)} {σ : St} {H : Hp} {s : Shared} {B h' : Heap} {l : List Env} (I : Inv X pins σ H s) (hex : X.ex = []) (gr : Grd B X.s₀.heap s.heap H l) : Grd B X.s₀.heap h' H l := fun b o q n => by
 cases e1 : s.heap.get? b with
 | some o' => exact gr b o' e1 n
 | none =>
  refine .inr ⟨?_, ?_⟩
  ·cases q2 : X.s₀.heap.get? b with
   | none => rfl
   | some o2 =>
    obtain ⟨_, e2⟩ := I.base.there b o2 q2 (by rw [hex]; simp)
    rw [e1] at e2; cases e2
  ·cases q2 : H b with
   | none => rfl
   | some v =>
    obtain ⟨_, e2⟩ := (I.hok b v q2).there
    rw [e1] at e2; cases e2
theorem HY {B h₀ h h' : Heap} {H : Hp} {l : List Env} {C : Addr} (gr : Grd B h₀ h H l) (hs : Heap.SameBut C h h') (h1 : h₀.get? C = none) (h2 : H C = none) : Grd (less B C) h₀ h' H l := fun b o q n => by
 by_cases z : b = C
 ·subst z; exact .inr ⟨h1, h2⟩
 ·rw [tR z] at n
  rw [hs.2 b z] at q
  exact gr b o q n
theorem H_ {pins : List (Addr × Obj)} {σ : St} {H1 : Hp} {s1 : Shared} {B : Heap} {a : Addr} {C a0 fl : Value} (I : Inv (dj (CXW P w) P w K mg base fN qual fscope f cd A outer s0 H0 E) pins σ H1 s1)
  (x : At B (envOfC qual fscope s0.heap.objs.size f cd :: outer) a C a0 fl s1.heap) (na : s0.heap.get? a = none) (nH : H1 a = none) (gr : Grd B s0.heap s1.heap H1 (envOfC qual fscope s0.heap.objs.size f cd :: outer)) (hE : E C none H1) :
  (dj (CXW P w) P w K mg base fN qual fscope f cd A outer s0 H0 E).xe (.ref a) s1 := by
 show wpAny (model P w) (A.deeper (envOfC qual fscope s0.heap.objs.size f cd)) (leaving (envOfC qual fscope s0.heap.objs.size f cd) (.ref a)) (fun _ s'' => CXW P w outer H0 s0 E (.ref a) s'') (fun e' s'' => CXW P w outer H0 s0 E e' s'') s1
 refine x.leaves I.ok.frames rfl fun h2 fl2 up => ?_
 obtain ⟨u2, hok2, gr2⟩ := wg I (fun b o q => x.st b o q) fl2.1 gr up
 exact ⟨a, C, a0, B, H1, rfl, I.os, I.bare, u2, hok2, fl2, na, nH, gr2, hE⟩
end
end L2
namespace L2
open PySem PySem.Spec PyProof.Rows
section
variable {P : Program} {w : World} {K : PySem.W.Frag} {mg : Str -> Option Value} {base : Heap} {fN : List Str} {qual : Str} {fscope : Scope} {f : Addr} {cd : Value} {A : Around} {outer : List Env} {s0 : Shared} {H0 : Hp} {E : XK}
variable {tg iter elt : Expr} {ifs : List Expr} {scope osc : Scope} {ON N : List Str} {cap : List (Option Nat)} {wi : TI} {g : TG} {tt : TT} {te : TE} {xr : St -> Hp -> Prop} {pos : Pos}
theorem Ao {X : Cx} (hX : X = dj (CXW P w) P w K mg base fN qual fscope f cd A outer s0 H0 E) {pins : List (Addr × Obj)} {s : Shared} {σ : St} {H : Hp} {Q : Value -> Shared -> Prop} (hc : X.calm = true) (S : CSc osc scope ON N cap) (hsc : X.env.scope = osc) (hN : X.N = ON)
  (hi : PI X tg iter wi) (hg : ∀ C s H fp, PG (X.comp N scope C s H fp) tg g) (ht : ∀ C s H fp, oG (X.comp N scope C s H fp) ifs tt) (he : ∀ C s H fp, PE (X.comp N scope C s H fp) elt te) (hxe : ∀ C s H fp, XC (X.comp N scope C s H fp) xr E elt)
  (I : Inv X pins σ H s) (h : TCompX wi cap g tt te xr σ H) :
  wpAny (model X.prog X.w) X.A (eval iter X.env) (fun x s₁ => wpAny (model X.prog X.w) X.A (pyIter x) (fun itv s₂ => wpAny (model X.prog X.w) X.A (newList []) (fun acc s₃ =>
   wpAny (model X.prog X.w) X.A (newFunctionEnv scope X.env.globals (pP X.env scope.names) [] X.env.qual none .none (some X.env)) (fun cenv s₄ =>
    codeAny (model X.prog X.w) X.A (.compStart (.ListComp elt [⟨tg, iter, ifs, 0⟩] scope pos) 0 itv acc { cenv with scope := relabel scope X.env }) (compPost (model X.prog X.w) X.A X.xe none Q acc cenv.locals) s₄) X.xe s₃) X.xe s₂) X.xe s₁) X.xe s := by
 refine thn (hi pins s σ H _ I h.ex) fun v s1 h1 => thn h1 fun itv s2 h2 => ?_
 obtain ⟨it, fp, tn, J, H2, e, I2, T, st2, f2, q2⟩ := h2
 subst e
 refine wpAny_newObj_type (wpAny_newFunctionEnv S.noc (by intro y hy; simp at hy) (fun h₁ hns₁ hsb₁ => ?_) S.kind)
 dsimp only at hns₁ hsb₁ ⊢
 generalize hH2 : s2.heap.push { cls := .type "list", dict := none, data := .seq ([] : List Value).toArray } = P2 at hns₁ hsb₁ ⊢
 generalize hD : s2.heap.objs.size = D
 generalize hCe : P2.objs.size = C at hns₁ hsb₁ ⊢
 have hCD : C = D + 1 := by rw [← hCe, ← hH2, Heap.size_push, hD]
 have hCle : s2.heap.objs.size <= C := by rw [hCD, hD]; exact Nat.le_succ _
 have hfp : ∀ b ∈ fp, b < s2.heap.objs.size := fun b hb => by
  obtain ⟨o, e, _⟩ := T.obj 0 _ st2 b hb
  exact Heap.lt_size e
 have below : ∀ b, b < s2.heap.objs.size -> b ≠ C := fun b hb => Nat.ne_of_lt (Nat.lt_of_lt_of_le hb hCle)
 have k1 : ∀ b o, s2.heap.get? b = some o -> h₁.get? b = some o := fun b o e => hsb₁.extBut b o (below b (Heap.lt_size e)) (Heap.get?_push_of_some _ (hH2 ▸ Heap.get?_push_of_some _ e))
 have hDC : D ≠ C := by rw [hCD]; exact Nat.ne_of_lt (Nat.lt_succ_self _)
 have gD : h₁.get? D = some { cls := .type "list", dict := none, data := .seq ([] : List Value).toArray } := by
  refine hsb₁.extBut D _ hDC (Heap.get?_push_of_some _ ?_)
  rw [← hH2, ← hD]
  exact Heap.get?_push_size _ rfl
 have nD : H2 D = none := I2.hok.fresh (by rw [hD]; exact Nat.le_refl _)
 have nC : H2 C = none := I2.hok.fresh hCle
 have hfr : ∀ x ∈ scope.names, x.2 = .free -> ∃ c, X.env.cells.lookup x.1 = some c := fun x hx e => I2.ok.has x.1 (by
  rcases S.fr x hx e with z | z
  ·exact .inl (by rw [Env.kindOf, hsc]; exact z)
  ·exact .inr (by rw [Env.kindOf, hsc]; exact z))
 obtain ⟨W, ⟨m0, w0⟩, turn⟩ := q2 D nD
 have IY : Inv (X.comp N scope C s2 H2 fp) [] (cT cap σ) (upd H2 D (.lst [])) { s2 with heap := h₁, toks := s2.toks + ([] : List (Str × Value)).length } := by
  have hp : s2.heap.objs.size <= D := by rw [hD]; exact Nat.le_refl _
  refine ⟨Bp I2 S hsc f2 hfp hCle, rfl, I2.bare, Un.laid k1 hp nD, ⟨_, hns₁, fun j x v e1 e2 e3 => ?_⟩, fun x c e => ?_, ?_, fun x c e => ?_, fun p hp => by simp at hp, I2.hok.laid k1 hp ⟨Nat.zero_le _, [], _, .nil, gD⟩, ?_⟩
  ·have e2' : (cap.map (q9 σ))[j]? = some (some v) := e2
   rw [List.getElem?_map] at e2'
   cases q : cap[j]? with
   | none => rw [q] at e2'; cases e2'
   | some o =>
    rw [q] at e2'
    have e4 : q9 σ o = some v := Option.some.inj e2'
    cases o with
    | none => cases e4
    | some i =>
     have hσ : σ[i]? = some (some v) := by
      have e5 : (σ[i]?).getD none = some v := e4
      cases z : σ[i]? with
      | none => rw [z] at e5; cases e5
      | some w => rw [z] at e5; exact congrArg some e5
     obtain ⟨hx1, hx2⟩ := S.at q e1
     have hk : X.env.kindOf x = some .cell \/ X.env.kindOf x = some .free := by
      rcases S.fr _ (mem_of_lookup hx2) rfl with z | z
      ·exact .inl (by rw [Env.kindOf, hsc]; exact z)
      ·exact .inr (by rw [Env.kindOf, hsc]; exact z)
     obtain ⟨m, hn, hl⟩ := I2.loc
     obtain ⟨u, r, l⟩ := hl i x v (by rw [hN]; exact hx1) hσ (by
      rcases hk with z | z
      ·exact .inr (.inl z)
      ·exact .inr (.inr z))
     refine ⟨u, r, ?_⟩
     rcases l with ⟨z, _⟩ | ⟨_, c, hc', hcell⟩
     ·rcases hk with y | y
      ·rw [y] at z; cases z
      ·rw [y] at z; cases z
     ·obtain ⟨c', hc2⟩ := yV (env := X.env) (mem_of_lookup hx2)
      have e6 := iG hfr hc2
      rw [hc'] at e6
      have e7 : c = c' := Option.some.inj e6
      subst e7
      obtain ⟨oc, ho, hd⟩ := hcell
      exact .inr ⟨mR (env := X.env) hx2, c, hc2, ⟨oc, k1 c oc ho, hd⟩⟩
  ·obtain ⟨v, oc, ho, hd⟩ := I2.cell x c (iG hfr e)
   exact ⟨v, oc, k1 c oc ho, hd⟩
  ·show upd H2 D (.lst []) C = none
   rw [aO (Ne.symm hDC)]
   exact nC
  ·have e' := iG hfr e
   obtain ⟨v, oc, ho, hd⟩ := I2.cell x c e'
   show upd H2 D (.lst []) c = none
   rw [aO (fun z => absurd (Heap.lt_size ho) (by rw [z, hD]; exact Nat.lt_irrefl _))]
   exact I2.freeC x c e'
  ·show (cap.map (q9 σ)).length = N.length
   rw [List.length_map]
   exact S.len
 have stat : ∀ {H' : Hp}, (∀ b ∈ fp, H' b = none) -> ∀ b ∈ fp, ju (X.comp N scope C s2 H2 fp) [] H' b := fun hn b hb => by
  obtain ⟨_, f1, f3, f4, f5, f6⟩ := f2 b hb
  refine ⟨hn b hb, below b (hfp b hb), fun hz => ?_, .inl hb, fun x c e => f5 x c (iG hfr e), fun p hp => by simp at hp⟩
  rcases List.mem_cons.mp (I2.stkSub b hz) with z | z
  ·exact f1 z
  ·exact f3 z
 have back : ∀ {σ' : St} {H' : Hp} {s' : Shared}, Inv (X.comp N scope C s2 H2 fp) [] σ' H' s' -> Inv X pins σ H' s' := fun {σ' H' s'} I' =>
  I2.call' (ch := fp) I'.os I'.base I'.hok I'.bare fun b hb => let ⟨_, f1, _, f4, f5, f6⟩ := f2 b hb; ⟨f4, f1, f5, f6⟩
 have st1 : tn 0 h₁ := T.keep 0 _ _ st2 fun b _ o e => k1 b o e
 have fr1 : ∀ b ∈ fp, upd H2 D (.lst []) b = none := fun b hb => by
  rw [aO (fun z => absurd (hfp b hb) (by rw [z, hD]; exact Nat.lt_irrefl _))]
  exact (f2 b hb).1
 have loop : codeAny (model X.prog X.w) X.A (.compLoop (.ListComp elt [⟨tg, iter, ifs, 0⟩] scope pos) 0 (.ref it) (.ref D) (compEnvC scope (pP X.env scope.names) C X.env)) (compPost (model X.prog X.w) X.A X.xe none Q (.ref D) C) { s2 with heap := h₁, toks := s2.toks + ([] : List (Str × Value)).length } := by
  refine Gf (fun n s' => ∃ i ys H', Inv (X.comp N scope C s2 H2 fp) [] (cT cap σ) H' s' /\ tn i s'.heap /\ (∀ b ∈ fp, H' b = none) /\ W i n ys H') ?_ m0 ⟨0, [], _, IY, st1, fr1, w0⟩
  rintro n s3 ⟨i, ys, H3, I3, st3, fr3, w3⟩
  obtain ⟨hDy, go, Nx, hNx, step⟩ := turn i n ys H3 w3
  refine thn (T.item (X.comp N scope C s2 H2 fp) rfl rfl rfl hc i [] s3 (cT cap σ) H3 _ I3 (stat fr3) st3 go) fun r s4 ⟨u, hr, h4⟩ => ?_
  subst hr
  refine thn h4 fun _ s5 ⟨x, H5, I5, r5, y5, st5, fr5⟩ => ?_
  have I5' := I5.pinned (stat fr5) (T.obj _ _ st5)
  refine thn (hg C s2 H2 fp _ s5 (cT cap σ) H5 x u _ I5' r5 (step x H5 y5)) fun _ s6 ⟨σ6, H6, I6, kp6, q6⟩ => ?_
  refine thn (ht C s2 H2 fp _ s6 σ6 H6 _ I6 q6) fun b s7 ⟨H7, I7, q7⟩ => ?_
  have again : ∀ {ys' : List V} {H7 : Hp} {s7 : Shared}, Inv (X.comp N scope C s2 H2 fp) ([] ++ oZ fp s5.heap) σ6 H7 s7 -> Nx ys' H7 -> ∃ m, m < n /\ ∃ i ys H', Inv (X.comp N scope C s2 H2 fp) [] (cT cap σ) H' s7 /\ tn i s7.heap /\ (∀ b ∈ fp, H' b = none) /\ W i m ys H' := fun {ys' H7 s7} I7 n7 => by
   obtain ⟨m', hm, w7⟩ := hNx ys' H7 n7
   refine ⟨m', hm, i + 1, ys', H7, I7.unpinned.weak kp6.1 kp6.2, T.keep _ _ _ st5 fun b hb o e => (I7.pin (b, o) (List.mem_append_right _ (List.mem_append_right _ (iQ hb e)))).1, fun b hb => ?_, w7⟩
   obtain ⟨o, e, d⟩ := T.obj _ _ st5 b hb
   exact (I7.pin (b, o) (List.mem_append_right _ (List.mem_append_right _ (iQ hb e)))).2.1
  cases b with
  | false =>
   rw [if_neg Bool.false_ne_true] at q7 ⊢
   exact again I7 q7
  | true =>
   rw [if_pos rfl] at q7 ⊢
   rcases q7 with q7 | q7
   ·refine wpAny_mono (he C s2 H2 fp _ s7 σ6 H7 _ I7 q7) (fun xv s8 ⟨y, H8, I8, r8, hD8, hl8, n8⟩ => ?_) fun _ _ z => z.elim
    refine thn (q8 (X := X.comp N scope C s2 H2 fp) _ s8 σ6 H8 (.ref D) [y] (.ref D) [xv] (fun _ H9 => Nx (ys ++ [y]) H9) I8 rfl (.cons r8 .nil) ⟨D, ys, y, rfl, rfl, hD8, hl8, n8⟩) fun _ s9 ⟨_, H9, I9, _, n9⟩ => ?_
    exact again I9 n9
   ·refine wpAny_mono (hxe C s2 H2 fp _ s7 σ6 H7 I7 q7) (fun _ _ z => z.elim) fun ex s9 ⟨H8, s8, I8, hcx⟩ => ?_
    have hcx' : CXW X.prog X.w X.stack H8 s8 (fun c d H9 => E c d H9 /\ ∃ m, H9 C = none /\ s9.heap.Ns C m) ex s9 := by
     obtain ⟨a, c, a0, B, H9, e1, os, bare, un, hok, fl, na, nH, gr, hE⟩ := hcx
     have I9 : Inv (X.comp N scope C s2 H2 fp) _ σ6 H9 s9 := I8.call' os un hok bare fun b z => nomatch z
     obtain ⟨m, hm, _⟩ := I9.loc
     exact ⟨a, c, a0, B, H9, e1, os, bare, un, hok, fl, na, nH, gr, hE, m, I9.free, hm⟩
    have hex : X.ex = [] := by rw [hX]; rfl
    obtain ⟨c0, H9, L, hE, m, nC9, hm⟩ := lies_of (back I8.unpinned) hex hcx'
    obtain ⟨a, a0, B, rfl, fl, na, nH, np, gr⟩ := L.ex
    have hfr : ∃ L0, X.env.frame = some L0 := by rw [hX]; exact ⟨_, rfl⟩
    obtain ⟨L0, hf⟩ := hfr
    have hst : X.stack = X.env :: outer := by rw [hX]; rfl
    show wpAny _ _ (noteFrame (.ref a) X.env) _ _ s9
    refine wpAny_looks_onW (outer := outer) (by rw [← hst]; exact L.inv.ok.frames) hf (by rw [← hst]; exact fl) fun h' held up => ?_
    rw [← hst] at held
    have x1 : At B X.stack a c0 a0 (rawInt L0) h' := ⟨held.1, held.2.1, held.2.2.1, held.2.2.2⟩
    have I10 := tQ L.inv hex fl.1 held.1 gr up np
    have gr10 := Gg (h' := h') L.inv hex gr
    have fpC : ju X pins H9 C := I2.fpOk hCle nC9
    refine ⟨m, up.ns hm, fun h'' hsb cenv hcl => ?_⟩
    have hC : ∃ o, h'.get? C = some o /\ ∀ vs, o.data ≠ .fields vs := by
     obtain ⟨o, es, ep, ho, hd, _⟩ := up.ns hm
     exact ⟨o, ho, fun vs z => by rw [hd] at z; cases z⟩
    have hCf : C ∉ frs X.stack := fun z => by
     obtain ⟨_, o, e1, _⟩ := I2.stack.mem z
     exact absurd (Heap.lt_size e1) (Nat.not_lt.mpr hCle)
    have x2 := x1.less hsb hC hCf
    have nC0 : X.s₀.heap.get? C = none := Heap.get?_none_of_le (Nat.le_trans I2.sz hCle)
    have I11 : Inv X pins σ H9 { s9 with heap := h'' } := I10.letgo fpC hsb
    have gr11 := HY gr10 hsb nC0 nC9
    refine x2.passes fun h3 x3 up3 => ?_
    have np' : ∀ p ∈ X.pn ++ pins, (less B C).get? p.1 = some p.2 := fun p hp => by rw [tR (fpC.2.2.2.2.2 p hp)]; exact np p hp
    have I12 : Inv X pins σ H9 { s9 with heap := h3 } := tQ I11 hex (fun b o q => x2.st b o q) x3.st gr11 up3 np'
    have gr12 := Gg (h' := h3) I11 hex gr11
    subst hX
    exact H_ I12 x3 na nH gr12 hE
 subst hD hCe
 exact codeAny_compStart_list loop (T.self _ 0 _ _ _ st1 loop)
end
end L2
namespace MR
open PySem L2 PyProof.Rows PySem.Spec
def ig (env : Env) (g : PV -> Env -> Option Env) (t : Env -> Option Bool) (f : Env -> Option PV) (xf : Env -> Option Nat) : List PV -> Option Nat
 | [] => none
 | x :: xs => (g x env).bind fun e => (t e).bind fun k => if k = true then (match xf e with
  | some c => some c
  | none => (f e).bind fun _ => ig env g t f xf xs) else ig env g t f xf xs
def yE (cap : List (Option Nat)) (src : Env -> Option (List PV)) (g : PV -> Env -> Option Env) (t : Env -> Option Bool) (f : Env -> Option PV) (xf : Env -> Option Nat) (env : Env) : Option Nat := (src env).bind fun xs => if xs.length <= 1000000 then ig (jg cap env) g t f xf xs else none
@[simp] theorem Su (cap : List (Option Nat)) (src : Env -> Option (List PV)) (g : PV -> Env -> Option Env) (t : Env -> Option Bool) (f : Env -> Option PV) (xf : Env -> Option Nat) (env : Env) : yE cap src g t f xf env = ((src env).bind fun xs => if xs.length <= 1000000 then ig (jg cap env) g t f xf xs else none) := id rfl
def xrM (b : BX) (G : List Nat) (E : XK) (xf : Env -> Option Nat) (σ : L2.St) (H : Hp) : Prop := ∃ Ow env c, ER b Ow G σ env H /\ xf env = some c /\ ∀ H1, Same b.H0 H1 -> E (.ref (b.C.cl c)) none H1
section
variable {Y : Cx} {b : BX} {G : List Nat} {E : XK} {e : Expr} {es : List Expr} {pos p : Pos}
theorem K7 {k j : Nat} {x : Str} {ps : List Str} {mi : List PV -> Option PV} {rc : Bool} {xi : List PV -> Option Nat} {ga : Env -> Option (List PV)} (c : CalX Y.prog Y.w Y.K Y.mg Y.base k x ps (spX b.C mi rc xi)) (hr : Room j Y.A) (ha : SA Y b G false (e :: es) ga)
  (hno : ∀ e s, ¬ Y.xe e s := by exact fun _ _ z => z) (hle : k <= j := by decide) (hgl : Gl Y x := by rfl) (hdb : (x == ("__debug__" : Str)) = false := by decide) (he : starEach (e :: es) Y.env = (false, eval e Y.env) :: starEach es Y.env := by rfl) (hpl : (backTo pos (starEach es Y.env)).any (·.1) = false := by rfl) :
  XC Y (xrM b G E (fH ga xi)) E (.Call (.Name x p) (e :: es) [] pos) := by
 intro pins s σ H I ⟨Ow, env, c0, Er, hx, hW⟩
 obtain ⟨fa, fd, F, hb, kp, hm⟩ := c.ex
 obtain ⟨qs, hga, hxi⟩ := aA hx
 refine wpAny_Call_Name_kw (jG I hgl hm ?_ hdb)
 refine PySem.W.callWith_K (h₀ := Y.base) I.ok.mod.kin kp (wpAny_mono (ha pos pins s σ H (fun vs H1 => Same H H1 /\ Reps b.C (ArA b Ow false H1) H1 vs qs) I ⟨Ow, env, qs, Er, hga, fun vs H1 s1 rr => ⟨s1, rr⟩⟩) (fun us s1 ⟨vs, H1, I1, r, sm, rr⟩ => ⟨I1.kIn, ?_⟩) fun e s z => absurd z (hno e s)) he hpl
 have hsp : spX b.C mi rc xi vs H1 (fun _ _ => False) E := .inr ⟨Bs b Ow, qs, c0, tG rr, hxi, fun H' s' => hW H' (Er.same.trans (sm.trans s'))⟩
 have hl : us.length = ps.length := by rw [← r.length]; exact F.len _ _ _ _ hsp
 have hbb := hb s1 us I1.kIn (by rw [List.append_nil]; exact hl)
 rw [List.append_nil] at hbb
 refine wpAny_call (codeAny_mono (F.run Y.A Y.stack s1 H1 ⟨us, []⟩ us vs _ _ (hr.mono hle) I1.env0 hbb r hsp) fun res s' hq => ?_)
 cases res with
 | error ex => exact ⟨H1, s1, I1, hq⟩
 | ok fl =>
  cases fl with
  | ret u => obtain ⟨_, _, _, _, _, _, _, z⟩ := hq; exact z.elim
  | next => exact hq.elim
  | brk => exact hq.elim
  | cont => exact hq.elim
end
section
variable {b : BX} {G : List Nat} {cap : List (Option Nat)} {g : TG} {gm : PV -> Env -> Option Env} {src : Env -> Option (List PV)} {t : Env -> Option Bool} {f : Env -> Option PV} {xf : Env -> Option Nat} {E : XK}
theorem Pa {pins : List (Addr × Obj)} {σ : L2.St} {H : Hp} (tgo : TgOk b.C.K cap g gm) (hc : mX cap = true) (h : tX b G (WD b E) (yE cap src gm t f xf) pins σ H) :
  TCompX (tMI b G false src) cap g (tMT b.in (gK cap G) t) (tM b.in (gK cap G) .val f) (xrM b.in (gK cap G) E xf) σ H := by
 obtain ⟨Ow, env, c, Er, hx, hW⟩ := h
 obtain ⟨xs, hxs, hx⟩ := aA hx
 split at hx
 ·rename_i hlen
  refine ⟨Ow, env, xs, Er, hxs, fun J H1 s1 iw D hD => ?_⟩
  have E1 := Er.up s1
  refine ⟨fun i m vs H2 => m = xs.length - i /\ i <= xs.length /\ Same H1 H2 /\ H2 D = some (.lst vs) /\ vs.length <= i /\ ig (jg cap env) gm t f xf (xs.drop i) = some c,
   ⟨xs.length, by simp, Nat.zero_le _, bw hD _, bF, Nat.le_refl _, by simpa using hx⟩, ?_⟩
  rintro i m vs H2 ⟨rfl, hi, s2, d2, hv, cl⟩
  refine ⟨d2, ?_⟩
  obtain ⟨E2, x2⟩ := E1.more hD s2 ⟨_, d2⟩
  obtain ⟨w1, w2⟩ := iw _ H2 (fun _ => s2) x2 fun a => E2.fresh
  have hlt : i < xs.length := by
   by_cases z : i < xs.length
   ·exact z
   ·have e : i = xs.length := by omega
    subst e
    rw [List.drop_length] at cl
    cases cl
  rw [List.drop_eq_getElem_cons hlt] at cl
  obtain ⟨e1, he1, cl⟩ := aA cl
  obtain ⟨kk, hk, cl⟩ := aA cl
  obtain ⟨g1, g2⟩ := w1 i xs[i] (List.getElem?_eq_getElem hlt)
  refine ⟨g1, fun vs' H' => i + 1 <= xs.length /\ Same H1 H' /\ H' D = some (.lst vs') /\ vs'.length <= i + 1 /\ ig (jg cap env) gm t f xf (xs.drop (i + 1)) = some c, fun vs' H' q => ⟨xs.length - (i + 1), by omega, rfl, q⟩, fun x H' y => ?_⟩
  obtain ⟨s3, r3⟩ := g2 x H' y
  have E3 := (E2.up s3).cap hc
  refine tgo.go b.in _ G σ env e1 H' x _ _ rfl (fun _ => rfl) E3 r3 he1 fun σ3 kp E4 => ⟨kp, _, e1, kk, E4, hk, fun H4 s4 => ?_⟩
  have d4 : H4 D = some (.lst vs) := s4 _ _ (s3 _ _ d2)
  have s24 : Same H2 H4 := s3.trans s4
  cases kk with
  | false =>
   refine CP ⟨hlt, s2.trans s24, d4, Nat.le_succ_of_le hv, ?_⟩
   simpa using cl
  | true =>
   simp only [if_true] at cl
   refine CQ ?_
   cases hq : xf e1 with
   | some c' =>
    rw [hq] at cl
    cases cl
    exact .inr ⟨_, e1, c, E4.up s4, hq, hW⟩
   | none =>
    rw [hq] at cl
    obtain ⟨y1, hy1, cl⟩ := aA cl
    refine .inl ⟨_, e1, y1, E4.up s4, hy1, fun v5 H5 s5 r5 => ⟨s5 _ _ d4, jH (by omega), hlt, ?_, bF, by rw [List.length_append]; show vs.length + 1 <= i + 1; omega, cl⟩⟩
    exact fun c o h => by rw [aO (aR h hD)]; exact s5 _ _ (s24 _ _ (s2 _ _ h))
 ·cases hx
variable {P : Program} {w : World} {K : PySem.W.Frag} {mg : Str -> Option Value} {base : Heap} {fN : List Str} {qual : Str} {fscope : Scope} {fa : Addr} {cd : Value} {A : Around} {outer : List PySem.Env} {s0 : Shared} {H0 : Hp}
variable {tg iter elt : Expr} {ifs : List Expr} {scope osc : Scope} {ON N : List Str} {pos : Pos}
theorem K8 (S : CSc osc scope ON N cap) (tgo : TgOk b.C.K cap g gm) (hi : SI (dj (CXW P w) P w K mg base fN qual fscope fa cd A outer s0 H0 E) b G false tg iter src) (hg : ∀ C s H fp, PG ((dj (CXW P w) P w K mg base fN qual fscope fa cd A outer s0 H0 E).comp N scope C s H fp) tg g)
  (ht : ∀ C s H fp, oG ((dj (CXW P w) P w K mg base fN qual fscope fa cd A outer s0 H0 E).comp N scope C s H fp) ifs (tMT b.in (gK cap G) t)) (he : ∀ C s H fp, SE ((dj (CXW P w) P w K mg base fN qual fscope fa cd A outer s0 H0 E).comp N scope C s H fp) b.in (gK cap G) .val elt f)
  (hx : ∀ C s H fp, XC ((dj (CXW P w) P w K mg base fN qual fscope fa cd A outer s0 H0 E).comp N scope C s H fp) (xrM b.in (gK cap G) E xf) E elt)
  (hci : mX cap = true := by rfl) (hsc : fscope = osc := by rfl) (hN : fN = ON := by rfl) (hs : ∀ x, foldedSetIterable iter (dj (CXW P w) P w K mg base fN qual fscope fa cd A outer s0 H0 E).env x = pure x := by intro _; rfl) :
  XE (dj (CXW P w) P w K mg base fN qual fscope fa cd A outer s0 H0 E) (tX b G (WD b E) (yE cap src gm t f xf)) (.ListComp elt [⟨tg, iter, ifs, 0⟩] scope pos) := by
 intro pins s σ H I h
 rw [eval_ListComp]
 exact wpAny_comprehension_free (use := none) rfl hs (uD S hsc I) S.kind S.loc (Ao rfl rfl S hsc hN hi hg ht he hx I (Pa tgo hci h))
end
end MR
namespace MR
open PySem L2
def XA (X : Cx) (r : RX) (es : List Expr) : Prop := ∀ (pos : Pos) (pins : List (Addr × Obj)) (s : Shared) (σ : L2.St) (H : Hp), Inv X pins σ H s -> r pins σ H -> wpAny (model X.prog X.w) X.A (spliced (backTo pos (starEach es X.env))) (fun _ _ => False) X.xe s
def Dl (f : Env -> Option PV) (g : Env -> Option Nat) (env : Env) : Option Nat := (f env).bind fun _ => g env
@[simp] theorem S6 (f : Env -> Option PV) (g : Env -> Option Nat) (env : Env) : Dl f g env = ((f env).bind fun _ => g env) := id rfl
section
variable {X : Cx} {b : BX} {G : List Nat} {W : List (Addr × Obj) -> L2.St -> Hp -> Nat -> Prop} {e : Expr} {es : List Expr} {pos p : Pos} {f g : Env -> Option Nat} {r : RX}
theorem BK (h : XE X r e) (hs : starEach (e :: es) X.env = (false, eval e X.env) :: starEach es X.env := by rfl) : XA X r (e :: es) := by
 intro pos pins s σ H I q
 rw [hs]
 show wpAny _ _ (spliced ((false, eval e X.env) :: backTo pos (starEach es X.env))) _ _ s
 exact PySem.Calls.spliced_cons (thn (h pins s σ H I q) fun _ _ z => z.elim)
theorem BP (wo : WOk X b W) {m : Env -> Option PV} (h : SE X b G .val e m) (c : XA X (tX b G W g) es) (hs : starEach (e :: es) X.env = (false, eval e X.env) :: starEach es X.env := by rfl) : XA X (tX b G W (Dl m g)) (e :: es) := by
 intro pos pins s σ H I ⟨Ow, env, c0, E, hx, hW⟩
 obtain ⟨y, hy, hx⟩ := aA hx
 rw [hs]
 show wpAny _ _ (spliced ((false, eval e X.env) :: backTo pos (starEach es X.env))) _ _ s
 refine PySem.Calls.spliced_cons (thn (h pins s σ H (fun _ H1 => Same H H1) I ⟨Ow, env, y, E, hy, fun v H1 s1 _ => s1⟩) fun u s1 ⟨v, H1, I1, _, sm⟩ => ?_)
 exact thn (c pos pins s1 σ H1 I1 ⟨Ow, env, c0, E.up sm, hx, wo.up _ _ _ _ _ sm hW⟩) fun _ _ z => z.elim
theorem Q8 (h1 : XA X (tX b G W f) es) (h2 : XA X (tX b G W g) es) : XA X (tX b G W (xOr f g)) es := fun pos pins s σ H I ⟨Ow, env, c0, E, hx, hW⟩ => by
 rw [OJ] at hx
 cases q : f env with
 | some c => rw [q] at hx; cases hx; exact h1 pos pins s σ H I ⟨Ow, env, _, E, q, hW⟩
 | none => rw [q] at hx; exact h2 pos pins s σ H I ⟨Ow, env, c0, E, hx, hW⟩
theorem K9 {k : Nat} {x : Str} {ps : List Str} {sp : Sp} (c : Cal X.prog X.w X.K X.mg X.base k x ps sp) (h : XA X r (e :: es)) (hgl : Gl X x := by rfl) (hdb : (x == ("__debug__" : Str)) = false := by decide)
  (he : starEach (e :: es) X.env = (false, eval e X.env) :: starEach es X.env := by rfl) (hpl : (backTo pos (starEach es X.env)).any (·.1) = false := by rfl) : XE X r (.Call (.Name x p) (e :: es) [] pos) := by
 intro pins s σ H I q
 obtain ⟨fa, fd, F, hb, kp, hm⟩ := c.ex
 refine wpAny_Call_Name_kw (jG I hgl hm ?_ hdb)
 exact PySem.W.callWith_K (h₀ := X.base) I.ok.mod.kin kp (thn (h pos pins s σ H I q) fun _ _ z => z.elim) he hpl
end
end MR
namespace L2
open PySem PySem.Spec PyProof.Rows
theorem zB : typeLookup (.type "list") "keys" = pure none := by rw [typeLookup_type, builtinLookup_eq_fast]; kernel_rfl
section
variable {prog : Program} {w : World} {A : Around} {E : Value -> Shared -> Prop} {s : Shared} {a : Addr}
theorem Pb {xs : Array Value} {k : Nat} {Q : Option Value -> Shared -> Prop} (hx : s.heap.get? a = some { cls := .type "list", data := .seq xs k }) (hA : A.handled = none)
  (hq : ∀ h' tk, (∀ b o, s.heap.get? b = some o -> h'.get? b = some o) -> Q none { s with heap := h', toks := tk }) : wpAny (model prog w) A (getAttr? (.ref a) "keys") Q E s := by
 obtain ⟨hp, g, d, tk, os⟩ := s
 have hT : ∀ tk', (⟨hp, g, d, tk', os⟩ : Shared).TypeIs (.ref a) "list" := fun _ => ⟨_, hx, rfl⟩
 have f1 := sub_AttributeError
 have f3 := F.slot_list_getattribute.lookup
 have f4 := F.slot_list_getattribute.bind (.ref a)
 have f5 := am_list_getattr_none
 unfold getAttr? getAttrBy? getAttrBy
 repeat (any_goals (first | assumption | exact hT _ | ((with_reducible show wpAny _ _ (call (Value.builtin "list.__getattribute__") _ _) _ _ _); refine call_meets F.slot_list_getattribute (hT _) am_entry_list_getattribute (F.args_list_getattribute_2 _ _) (meets_getattribute_miss_list a xs k #[] "keys" _ zB (by decide)) ⟨hx, hA, fun h' tk' e hx' => ?_⟩) | wp_step))
 obtain ⟨t', u', he⟩ := hx'.there
 show wpAny _ _ (getattributeRaised _ _ _ _ _ _ _) _ _ _
 unfold getattributeRaised
 repeat (any_goals (first | assumption | wp_step))
 exact hq _ _ hx'.keeps
theorem zE : entryFor table "dict.update.loop" = some Builtin.«dict.update.loop» := entryFor_of_tree (by kernel_rfl)
def lM (knd : KeyKind prog w Key) (h : Heap) (p : Key × Value) (u : Value) : Prop := ∃ t key, u = .ref t /\ IsTup h t #[key, p.2] /\ knd.is p.1 key = true
theorem JL {knd : KeyKind prog w Key} {R : Result -> Shared -> Prop} {dd it l : Addr} {items : Array Value} (hA : A.handled = none) (nd : it ≠ dd) (nl : l ≠ dd) (nil' : l ≠ it) : ∀ (L : List (Key × Value)) (rest : List Value) (i : Nat) (kvs : List (Key × Value)) (s : Shared),
  items.toList.drop i = rest -> Paired (lM knd s.heap) L rest -> s.heap.IsListIter it l i -> s.heap.IsList l items -> s.heap.DictOf knd dd kvs -> (∀ u ∈ rest, u ≠ .ref dd /\ u ≠ .ref it) -> kvs.length + L.length <= sizeLine ->
  (∀ h' tk, h'.DictOf knd dd (L.foldl (fun acc kv => stored acc kv.1 kv.2) kvs) -> (∀ b o, b ≠ dd -> b ≠ it -> s.heap.get? b = some o -> h'.get? b = some o) -> R (.ok (.ret .none)) { s with heap := h', toks := tk }) ->
  codeAny (model prog w) A (.builtin "dict.update.loop" ⟨[.ref dd, .ref it, rawInt i, .none], []⟩) R s
 | [], rest, i, kvs, s, hr, hp, hit, hl, hd, hu, hz, hR => by
  cases hp
  refine codeAny_builtin zE ?_
  unfold Builtin.«dict.update.loop»
  have hx : items[i]? = none := by
   rw [Array.getElem?_eq_none_iff]
   have := List.drop_eq_nil_iff.mp hr
   simpa using this
  show wpAny _ _ (pyNext (.ref it) >>= _) _ _ _
  refine wpAny_bind (wpAny_pyNext_list_end (A := A.under _) hA hit hl hx fun h1 x1 => ?_)
  show wpAny _ _ (Builtin.Dict.addKeywords dd [] >>= _) _ _ _
  refine wpAny_bind (wpAny_pure (wpAny_pure ?_))
  obtain ⟨o, es, ep, ho, hrest⟩ := hd
  exact hR h1 s.toks ⟨o, es, ep, x1 _ _ (Ne.symm nd) ho, hrest⟩ fun b o' _ n2 e => x1 b o' n2 e
 | p :: L, rest, i, kvs, s, hr, hp, hit, hl, hd, hu, hz, hR => by
  cases hp with
  | @cons _ u _ us hpu hp =>
   obtain ⟨t, key, rfl, htup, hk⟩ := hpu
   have hx : items[i]? = some (.ref t) := by
    have e : items.toList[i]? = some (.ref t) := by rw [← List.head?_drop, hr]; rfl
    rw [← e]; simp
   refine codeAny_builtin zE ?_
   unfold Builtin.«dict.update.loop»
   show wpAny _ _ (pyNext (.ref it) >>= _) _ _ _
   refine wpAny_bind (wpAny_pyNext_list_item hit hl hx fun h1 hit1 sb1 => ?_)
   obtain ⟨ot, hot, hct, nt, hdt⟩ := id htup
   have nti : t ≠ it := fun z => (hu (.ref t) List.mem_cons_self).2 (by rw [z])
   have hot1 : h1.get? t = some ot := (sb1.2 t nti).trans hot
   have hT : ({ s with heap := h1 } : Shared).TypeIs (.ref t) "tuple" := ⟨_, hot1, hct⟩
   show wpAny _ _ (holding [.ref t] _ >>= _) _ _ _
   refine wpAny_bind (wpAny_holding ?_)
   refine wpAny_bind (wpAny_tryCatch ?_)
   unfold Builtin.Dict.pairItems
   refine wpAny_bind (wpAny_typeOf hT ?_)
   rw [if_pos (by decide)]
   refine wpAny_bind (wpAny_seqItems hot1 hdt (wpAny_pure ?_))
   show wpAny _ _ (holding [key, p.2] (dictSet dd key p.2)) _ _ _
   obtain ⟨od, es, ep, hod, hrest⟩ := hd
   have hd1 : Heap.DictOf knd h1 dd kvs := ⟨od, es, ep, (sb1.2 dd (Ne.symm nd)).trans hod, hrest⟩
   have hzl : kvs.length <= sizeLine := by simp only [List.length_cons] at hz; omega
   refine wpAny_holding (wpAny_dictSet_pairs (hsz := hzl) hk hd1 fun h2 hd2 sb2 => ?_)
   refine wpAny_pure ⟨Code.quiet_builtin _ (by decide +kernel), ?_⟩
   have keep : ∀ b o, b ≠ dd -> b ≠ it -> s.heap.get? b = some o -> h2.get? b = some o := fun b o n1 n2 e => (sb2.2 b n1).trans ((sb1.2 b n2).trans e)
   have hls : (stored kvs p.1 p.2).length <= kvs.length + 1 := by
    unfold stored
    split <;> simp
   refine JL (items := items) hA nd nl nil' L us (i + 1) (stored kvs p.1 p.2) _ ?_ ?_ ?_ ?_ hd2 (fun u hu' => hu u (List.mem_cons_of_mem _ hu')) ?_ fun h3 tk hd3 k3 => ?_
   ·rw [← List.drop_drop, hr]; rfl
   ·have go : ∀ {L : List (Key × Value)} {us : List Value}, Paired (lM knd s.heap) L us -> (∀ u ∈ us, u ≠ .ref dd /\ u ≠ .ref it) -> Paired (lM knd h2) L us := by
     intro L us hp
     induction hp with
     | nil => intro _; exact .nil
     | cons a _ ih =>
      intro hu
      obtain ⟨t1, key1, e1, ⟨o1, q1, q2⟩, q3⟩ := a
      have hn := hu _ List.mem_cons_self
      refine .cons ⟨t1, key1, e1, ⟨o1, keep t1 o1 (fun z => hn.1 (by rw [e1, z])) (fun z => hn.2 (by rw [e1, z])) q1, q2⟩, q3⟩ (ih fun u h => hu u (List.mem_cons_of_mem _ h))
    exact go hp fun u h => hu u (List.mem_cons_of_mem _ h)
   ·obtain ⟨oi, hoi, hci, hdi⟩ := hit1
    exact ⟨oi, (sb2.2 it nd).trans hoi, hci, hdi⟩
   ·obtain ⟨ol, hol, hcl, nl', hdl⟩ := hl
    exact ⟨ol, keep l ol nl nil' hol, hcl, nl', hdl⟩
   ·simp only [List.length_cons] at hz; omega
   ·exact hR h3 tk hd3 fun b o n1 n2 e => k3 b o n1 n2 (keep b o n1 n2 e)
theorem Dm {knd : KeyKind prog w Key} {l : Addr} {its : List Value} {n : Nat} {L : List (Key × Value)} {Q : Value -> Shared -> Prop} (hA : A.handled = none) (hl : s.heap.get? l = some { cls := .type "list", data := .seq its.toArray n }) (hp : Paired (lM knd s.heap) L its) (hz : L.length <= sizeLine)
  (hq : ∀ h' tk, h'.DictOf knd s.heap.objs.size (L.foldl (fun acc kv => stored acc kv.1 kv.2) []) -> (∀ b o, s.heap.get? b = some o -> h'.get? b = some o) -> Q (.ref s.heap.objs.size) { s with heap := h', toks := tk }) :
  wpAny (model prog w) A (call (.type "dict") [.ref l]) Q E s := by
 refine callType_codes (Q₁ := fun obj s₁ => obj = .ref s.heap.objs.size /\ s₁ = { s with heap := s.heap.push { cls := .type "dict", data := .dict #[] } }) F.kt_called_dict (F.kt_typeCall_dict_1 _) F.entry_dict_init (kt_code_dict_new _ ⟨rfl, rfl⟩) ?_
 rintro obj s₁ ⟨rfl, rfl⟩
 have hnew : (s.heap.push { cls := .type "dict", data := .dict #[] }).DictOf knd s.heap.objs.size [] := Heap.DictOf.new s.heap
 refine ⟨hnew.typeIs, F.args_dict_init_2 _ _, ?_⟩
 have hl1 : (s.heap.push { cls := .type "dict", data := .dict #[] }).get? l = some { cls := .type "list", data := .seq its.toArray n } := Heap.get?_push_of_some _ hl
 unfold Builtin.«dict.__init__»
 refine wpAny_bind ?_
 unfold Builtin.Dict.selfAndRest
 refine wpAny_bind (wpAny_notOrdered_dict hnew.typeIs ?_)
 show wpAny _ _ (pure (s.heap.objs.size, [Value.ref l])) _ _ _
 refine wpAny_pure ?_
 show wpAny _ _ (Builtin.Dict.updateFrom "dict.__init__" s.heap.objs.size (.ref l) [] .none) _ _ _
 unfold Builtin.Dict.updateFrom
 refine wpAny_bind (wpAny_typeOf (T := "list") ⟨_, hl1, rfl⟩ ?_)
 rw [if_pos (by decide)]
 refine wpAny_bind (Pb hl1 hA fun h2 tk2 k2 => ?_)
 rw [if_pos (show (none : Option Value).isNone = true from rfl)]
 refine wpAny_bind (wpAny_rule ?_)
 have hl2 : h2.IsList l its.toArray := ⟨_, k2 _ _ hl1, rfl, n, rfl⟩
 refine wpAny_bind (wpAny_pyIter_list hl2 ?_)
 refine wpAny_pure ⟨Code.quiet_builtin _ (by decide +kernel), ?_⟩
 have lt1 : s.heap.objs.size < h2.objs.size := by
  obtain ⟨o, es, ep, ho, _⟩ := hnew
  exact Heap.lt_size (k2 _ _ ho)
 have k3 : ∀ b o, h2.get? b = some o -> (h2.push { cls := .type "list_iterator", data := .fields #[.ref l, .int 0 0] }).get? b = some o := fun b o e => Heap.get?_push_of_some _ e
 have k0 : ∀ b o, s.heap.get? b = some o -> (h2.push { cls := .type "list_iterator", data := .fields #[.ref l, .int 0 0] }).get? b = some o := fun b o e => k3 b o (k2 b o (Heap.get?_push_of_some _ e))
 have old : ∀ b o, s.heap.get? b = some o -> b ≠ s.heap.objs.size /\ b ≠ h2.objs.size := fun b o e => by
  have := Heap.lt_size e
  exact ⟨Nat.ne_of_lt this, Nat.ne_of_lt (Nat.lt_trans this lt1)⟩
 refine JL (A := A.in1) (items := its.toArray) (knd := knd) (show A.in1.handled = none from hA) (Nat.ne_of_gt lt1) (old l _ hl).1 (old l _ hl).2 L its 0 [] _ (by simp) ?_ ?_ ?_ ?_ ?_ (by simpa using hz) fun h4 tk hd4 k4 => ?_
 ·have go : ∀ {L : List (Key × Value)} {us : List Value}, Paired (lM knd s.heap) L us -> Paired (lM knd (h2.push { cls := .type "list_iterator", data := .fields #[.ref l, .int 0 0] })) L us := by
   intro L us hp
   induction hp with
   | nil => exact .nil
   | cons a _ ih =>
    obtain ⟨t1, key1, e1, ⟨o1, q1, q2⟩, q3⟩ := a
    exact .cons ⟨t1, key1, e1, ⟨o1, k0 t1 o1 q1, q2⟩, q3⟩ ih
  exact go hp
 ·exact ⟨_, Heap.get?_push_size _ rfl, rfl, rfl⟩
 ·obtain ⟨ol, hol, r⟩ := hl2
  exact ⟨ol, k3 _ _ hol, r⟩
 ·obtain ⟨o, es, ep, ho, r⟩ := hnew
  exact ⟨o, es, ep, k3 _ _ (k2 _ _ ho), r⟩
 ·intro u hu
  have go : ∀ {L : List (Key × Value)} {us : List Value}, Paired (lM knd s.heap) L us -> ∀ u ∈ us, ∃ t o, u = .ref t /\ s.heap.get? t = some o := by
   intro L us hp
   induction hp with
   | nil => intro u hu; cases hu
   | cons a _ ih =>
    intro u hu
    rcases List.mem_cons.mp hu with e | hu
    ·obtain ⟨t1, key1, e1, ⟨o1, q1, q2⟩, q3⟩ := a
     exact ⟨t1, o1, e.trans e1, q1⟩
    ·exact ih u hu
  obtain ⟨t, o, e, ho⟩ := go hp u hu
  subst e
  exact ⟨fun z => (old t o ho).1 (Value.ref.inj z), fun z => (old t o ho).2 (Value.ref.inj z)⟩
 ·exact ⟨rfl, hq h4 tk hd4 fun b o e => k4 b o (old b o e).1 (old b o e).2 (k0 b o e)⟩
end
end L2
namespace L2
open PySem PySem.Spec PyProof.Rows
inductive PairsH (H : Hp) : List V -> List (Key × V) -> Prop where
 | nil : PairsH H [] []
 | cons {t : Addr} {k : Key} {v : V} {ts : List V} {kvs : List (Key × V)} (h : H t = some (.tup [kV k, v])) (r : PairsH H ts kvs) : PairsH H (.ref t :: ts) ((k, v) :: kvs)
theorem Pg {P : Program} {w : World} {k : Key} {u : Value} (r : RelV (kV k) u) : (cX P w).is k u = true := by
 cases k with
 | inl i => obtain ⟨t, rfl⟩ := (show ∃ t, u = Value.int i t from r); exact uf P w i t
 | inr x => obtain ⟨t, rfl⟩ := (show ∃ t, u = Value.str x t from r); exact ug P w x t
theorem xm {P : Program} {w : World} {H : Hp} {h : Heap} (ok : HOk P w H h) : ∀ {ts : List V} {kvs : List (Key × V)} {its : List Value}, PairsH H ts kvs -> Vals ts its -> ∃ rs : List (Key × Value), KV kvs rs /\ Paired (lM (cX P w) h) rs its
 | _, _, _, .nil, r => by cases r; exact ⟨[], .nil, .nil⟩
 | _, _, _, .cons (t := t) (k := k) (v := v) e q, r => by
  cases r with
  | cons r1 r2 =>
   cases r1
   obtain ⟨rs, h1, h2⟩ := xm ok q r2
   obtain ⟨_, us, hv, ht⟩ := (show ObjOk P w H h t (.tup [kV k, v]) from ok t _ e)
   obtain ⟨ku, vu, rfl, rk, rv⟩ := vals2 hv
   exact ⟨(k, vu) :: rs, .cons ⟨rfl, rv⟩ h1, .cons ⟨t, ku, rfl, ht, Pg rk⟩ h2⟩
theorem zF {X : Cx} (hc : X.calm = true := by rfl) : CallR X (.type "dict") (fun xs H Q => ∃ p ts kvs, xs = [.ref p] /\ H p = some (.lst ts) /\ PairsH H ts kvs /\ kvs.length <= 1000000 /\ ∀ l, H l = none -> Q (.ref l) (upd H l (.dK (jR [] kvs)))) := by
 intro pins s σ H xs us Q I r h
 obtain ⟨p, ts, kvs, rfl, hp, hps, hz, q⟩ := h
 obtain ⟨u, rfl, rx⟩ := vals1 r
 cases rx
 obtain ⟨_, its, n, hv, ho⟩ := (show ObjOk X.prog X.w H s.heap p (.lst ts) from I.hok p _ hp)
 obtain ⟨rs, h1, h2⟩ := xm I.hok hps hv
 have hl : rs.length <= sizeLine := by rw [← KV.length h1]; exact Nat.le_of_lt (jH hz)
 refine Dm (I.ok.hd hc) ho h2 hl fun h' tk hd hk => ?_
 have low : (s.heap.objs.size == sysModules) = false := by
  have := modules_low I.nolimit
  rw [beq_eq_false_iff_ne]
  exact Nat.ne_of_gt this
 have kv : KV (jR [] kvs) (merged [] rs) := KV.merge h1 .nil
 have lm := qN kvs []
 refine ⟨.ref s.heap.objs.size, _, I.laid (t' := tk) hk (Nat.le_refl _) (show ObjOk X.prog X.w _ h' _ (.dK (jR [] kvs)) from ⟨?_, low, merged [] rs, kv, hd⟩), rfl, q _ (I.hok.fresh (Nat.le_refl _))⟩
 have : (1000000 : Nat) <= sizeLine := by decide
 simp only [List.length_nil] at lm
 omega
end L2
namespace MR
open PySem L2
def prs : List PV -> Option (List (Key × PV))
 | [] => some []
 | .tup [k, v] :: r => (keyOf k).bind fun k => (prs r).bind fun l => some ((k, v) :: l)
 | _ :: _ => none
def nY (l : List (Key × PV)) (acc : List (Key × PV)) : List (Key × PV) := l.foldl (fun acc kv => jf acc kv.1 kv.2) acc
def zG : PV -> Option PV
 | .lst xs => (prs xs).bind fun l => if l.length <= 1000000 then some (.dK (nY l [])) else none
 | _ => none
theorem zH {C : MC} {A : Addr -> Prop} {H : Hp} : ∀ {vs : List V} {xs : List PV} {l : List (Key × PV)}, Reps C A H vs xs -> prs xs = some l -> ∃ kvs, PairsH H vs kvs /\ RepK C A H kvs l
 | _, _, _, .nil, h => by cases h; exact ⟨[], .nil, .nil⟩
 | _, x :: xs, l, .cons r1 r2, h => by
  cases x with
  | tup ys =>
   cases r1 with
   | tup ht rs =>
    match ys, h, rs with
    | [k, v], h, rs =>
     rw [prs] at h
     obtain ⟨k', hk, h⟩ := aA h
     obtain ⟨l', hl', h⟩ := aA h
     cases h
     obtain ⟨kvs, h1, h2⟩ := zH r2 hl'
     cases rs with
     | cons rk rv =>
      cases rv with
      | cons rv rn =>
       cases rn
       cases k with
       | int i => cases hk; cases rk; exact ⟨_, .cons (k := .inl i) ht h1, .cons rv h2⟩
       | str y => cases hk; cases rk; exact ⟨_, .cons (k := .inr y) ht h1, .cons rv h2⟩
       | _ => cases hk
    | [], h, _ => cases h
    | [_], h, _ => cases h
    | _ :: _ :: _ :: _, h, _ => cases h
  | _ => cases h
theorem xn {C : MC} {A : Addr -> Prop} {H : Hp} : ∀ {kvs : List (Key × V)} {l : List (Key × PV)} {a : List (Key × V)} {b : List (Key × PV)}, RepK C A H kvs l -> RepK C A H a b -> RepK C A H (jR a kvs) (nY l b)
 | _, _, _, _, .nil, r => r
 | (k, v) :: kvs, (_, p) :: l, a, b, .cons h t, r => by
  show RepK C A H (jR (putK a k v) kvs) (nY l (jf b k p))
  exact xn t (RepK.put h r)
theorem RepK.len {C : MC} {A : Addr -> Prop} {H : Hp} : ∀ {kvs : List (Key × V)} {l : List (Key × PV)}, RepK C A H kvs l -> kvs.length = l.length
 | _, _, .nil => rfl
 | _, _, .cons _ t => by simp [RepK.len t]
section
variable {X : Cx} {b : BX} {G : List Nat} {m1 : Md} {e : Expr} {f : Env -> Option PV} {p pos : Pos}
theorem Ia (hm : X.mg "dict" = none) (h : SE X b G m1 e f) (hcm : X.calm = true := by rfl) (hg : Gl X "dict" := by rfl) (hb : bootBuiltins "dict" = some (.type "dict") := by decide +kernel) (he : starEach [e] X.env = (false, eval e X.env) :: starEach [] X.env := by rfl) : SE X b G .own (.Call (.Name "dict" p) [e] [] pos) (b1 zG f) := by
 refine Br (zF hcm) (fun Ow H v1 p1 p Q hn r1 e k => ?_) hm hb h hg (by decide) (by decide) he
 cases p1 with
 | lst xs =>
  unfold zG at e
  obtain ⟨l, hl, e⟩ := aA e
  split at e
  ·rename_i hz
   cases e
   obtain ⟨a, vs, rfl, ha, ra⟩ := r1.lst
   obtain ⟨kvs, h1, h2⟩ := zH ra hl
   refine ⟨a, vs, kvs, rfl, ha, h1, by rw [h2.len]; exact hz, fun d hd => k _ _ (bw hd _) ⟨d, rfl, hd, jR [] kvs, bF, (xn h2 .nil).ex fun c o e => ?_⟩⟩
   have hc : c ≠ d := aR e hd
   exact ⟨fun q => ⟨by rw [aO hc]; exact e, q, hc⟩, fun _ => by rw [aO hc]; exact e⟩
  ·cases e
 | _ => cases e
end
end MR
namespace MR
open PySem L2 PyProof.Rows PySem.Spec
theorem csc {osc scope : Scope} {ON N : List Str} {cap : List (Option Nat)} (h1 : scope.kind = .function := by rfl) (h2 : ∀ y ∈ scope.names, y.2 ≠ .cell := by decide +kernel) (h3 : ∀ y ∈ scope.names, y.2 = .local -> scope.names.lookup y.1 = some .local := by decide +kernel)
  (h4 : ∀ y ∈ scope.names, y.2 = .free -> osc.names.lookup y.1 = some .cell \/ osc.names.lookup y.1 = some .free := by decide +kernel) (h5 : yq scope ON N cap = true := by decide +kernel) : CSc osc scope ON N cap := ⟨h1, h2, h3, h4, h5⟩
theorem fsc {N P : List Str} {sc : Scope} (h1 : sc.kind = .function := by rfl) (h2 : sc.isCoroutine = false := by rfl) (h3 : sc.isGenerator = false := by rfl) (h4 : N.Nodup := by decide +kernel) (h5 : N.take P.length = P := by rfl)
  (h6 : ∀ x ∈ P, sc.names.lookup x = some .local \/ sc.names.lookup x = some .cell := by decide +kernel) (h7 : ∀ y ∈ sc.names, y.2 ≠ .free := by decide +kernel) : FnScope N P sc := ⟨h1, h2, h3, h4, h5, h6, h7⟩
theorem cG {X : Cx} {N : List Str} {scope : Scope} {C s H fp} {x : Str} {pos : Pos} (i : Nat) (hN : N.Nodup := by decide +kernel) (hi : N[i]? = some x := by rfl) (hx : Loc (X.comp N scope C s H fp).env.scope x := by exact Or.inl rfl)
  (hf : (X.comp N scope C s H fp).fn x = true \/ (X.comp N scope C s H fp).env.scope.names.lookup x = some .local := by first | exact .inl rfl | exact .inr rfl | assumption) : PG (X.comp N scope C s H fp) (.Name x pos) (tu i) := vR hN hi hx hf
section
variable {P : Program} {w : World} {K : PySem.W.Frag} {mg : Str -> Option Value} {base : Heap}
theorem fok {x qual : Str} {st : Stmt} {f : Addr} {fd : FuncData} {N ps : List Str} {k n kk : Nat} {C : MC} {G G' L : List Nat} {ro : Bool} {g : Env -> Option Out} (F : Fun K x qual st f fd) (S : FnScope N ps (aq st))
  (hb : ∀ (cdv : Value) (A : Around) (outer : List PySem.Env) (s : Shared) (H : Hp) (E : XK), Room k (A.deeper (envOfC qual (aq st) s.heap.objs.size f cdv)) -> ∀ B H', SSs (dj CX0 P w K mg base N qual (aq st) f cdv A outer s H E).nox ⟨C, B, H', fun _ => none⟩ G G' L ro (eZ st) g)
  (hp : kk = ps.length := by rfl) (hN : N.length = n := by rfl) (hk : kk <= n := by decide) (hG : (G.all fun i => decide (kk <= i)) = true := by decide) : FnOk P w K mg base CX0 (k + 1) f fd ps (spM C (bO n kk ro g) ro) :=
 F.ok S (fun vs H Q E h => (Kw h).trans hp) fun cdv A outer s H vs Q E hr h => Bw hN hk hG (fun B H' => hb cdv A outer s H E hr B H') h
end
end MR
namespace L2
open PySem MR
section
variable {K : PySem.W.Frag} {x q : Str} {st : Stmt} {f : Addr} {fd : FuncData} {ps : List Str} (F : Fun K x q st f fd)
include F
theorem Fun.bd1 (hl : ps.length = 1 := by rfl) (h : ∀ k d p n c t a, bindArgs (PySem.W.fnOf x q (iT st) (eZ st) (aq st) .none k d p n c t) ⟨[a], []⟩ = pure (ps.zip [a]) := by intros; rfl) : Binds K fd ps [] := F.binds fun k d p n c t us e => Ov us (e.trans hl) (h k d p n c t)
theorem Fun.bd2 (hl : ps.length = 2 := by rfl) (h : ∀ k d p n c t a b, bindArgs (PySem.W.fnOf x q (iT st) (eZ st) (aq st) .none k d p n c t) ⟨[a, b], []⟩ = pure (ps.zip [a, b]) := by intros; rfl) : Binds K fd ps [] := F.binds fun k d p n c t us e => Ox us (e.trans hl) (h k d p n c t)
theorem Fun.bd3 (hl : ps.length = 3 := by rfl) (h : ∀ k d p n c t a b g, bindArgs (PySem.W.fnOf x q (iT st) (eZ st) (aq st) .none k d p n c t) ⟨[a, b, g], []⟩ = pure (ps.zip [a, b, g]) := by intros; rfl) : Binds K fd ps [] := F.binds fun k d p n c t us e => Oz us (e.trans hl) (h k d p n c t)
theorem Fun.bd5 (hl : ps.length = 5 := by rfl) (h : ∀ k d p n c t a b g i j, bindArgs (PySem.W.fnOf x q (iT st) (eZ st) (aq st) .none k d p n c t) ⟨[a, b, g, i, j], []⟩ = pure (ps.zip [a, b, g, i, j]) := by intros; rfl) : Binds K fd ps [] := F.binds fun k d p n c t us e => Sh us (e.trans hl) (h k d p n c t)
end
end L2
namespace My
open PySem L2 MR
noncomputable section
def pG : PV := .ktp [.str "never", .str "may", .str "must"]
def tb_str : List (String × Bool) := [("str", true), ("NoneType", false), ("int", false), ("bool", false), ("list", false), ("tuple", false), ("dict", false)]
def j4 := (aL (sIf (tV (b2 (iC fun i j => decide (i < j)) (bV 1) (b1 lenV (bV 0)))) (a_ (b2 ixP (bV 0) (bV 1))) sNx) (a_ (bC (.int 0))))
def aP := bO 2 2 false j4
def pH := (aL (aN 2 (b2 ixP (cL (ak (bC (.int 1)) (ak (bC (.int 3)) (ak (bC (.int 5)) (ak (bC (.int 7)) (ak (bC (.int 9)) (ak (bC (.int 11)) (ak (bC (.int 15)) (ak (bC (.int 17)) aB))))))))) (b2 bU (b2 eV (bV 0) (bC (.int 26))) (bC (.int 8))))) (a_ (b2 ixP (bC (.str "abcdefghijklmnopqrstuvwxyz")) (b2 bU (b2 bN (bV 0) (b2 rz (bV 1) (bV 2))) (bC (.int 26))))))
def bB := bO 3 2 false pH
def uq := (a_ (b2 bU (b2 bN (b2 rz (b2 bU (bV 0) (bC (.int 1000003))) (b2 bN (bC (.int 48271)) (b2 rz (b2 rz (bC (.int 15838)) (bV 1)) (bV 1)))) (b2 rz (bC (.int 69621)) (bV 1))) (bC (.int 2147483647))))
def dq := bO 2 2 false uq
def jh := (aN 3 (b2 bN (bV 3) (aK bB (ak (bV 0) (ak (b2 bN (bV 1) (b2 bU (b2 eV (bV 2) (b2 ixP (cL (ak (bC (.int 4)) (ak (bC (.int 8)) (ak (bC (.int 28)) (ak (bC (.int 128)) aB))))) (bV 4))) (b2 ixP (cL (ak (bC (.int 2)) (ak (bC (.int 5)) aB))) (b2 bU (b2 eV (bV 2) (bC (.int 3))) (bC (.int 2)))))) aB)))))
def nZ := (aL (aN 3 (bC (.str ""))) (aL (gf (gN 4) (iR1 (b2 bN (bC (.int 2)) (b2 bU (bV 2) (bC (.int 3))))) [4] jh) (a_ (bV 3))))
def d9 := bO 5 3 false nZ
def gM := (aK aP (ak (bV 1) (ak (b2 bN (bV 2) (bV 0)) aB)))
def gO := (aK bB (ak (bV 1) (ak (bV 0) aB)))
def gP := (aL (aN 8 (aK dq (ak (b2 ixP (bV 2) (bC (.int 2))) (ak (bV 7) aB)))) (f9 uE 6 (b2 bN (b2 ixP (bV 5) (b2 bU (bV 8) (bV 4))) (b2 ixP (bV 5) (b2 bU (b2 eV (bV 8) (bC (.int 8))) (bV 4))))))
def jx := (b2 bU (aK dq (ak (b2 ixP (bV 1) (bC (.int 3))) (ak (bV 0) aB))) (bC (.int 4)))
def jy := (b2 ixP (bV 1) (bV 0))
def jz := (tV (b2 inQ (b2 ixP (bV 2) (bV 0)) (jU (ak (bC (.int 1)) (ak (bC (.int 3)) aB)))))
def jA := (b2 ixP (bV 1) (bV 0))
def jB := (tV (b2 (iC fun i j => decide (j < i)) (b2 ixP (bV 2) (bV 0)) (bC (.int 1))))
def jC := (aK d9 (ak (bV 1) (ak (bV 2) (ak (aK dq (ak (b2 ixP (bV 3) (bC (.int 4))) (ak (bV 0) aB))) aB))))
def ji := (aK d9 (ak (bV 1) (ak (bV 2) (ak (aK dq (ak (b2 ixP (bV 3) (bC (.int 5))) (ak (bV 0) aB))) aB))))
def pI := (aL (aN 2 (aY [none, some 0, some 1] (iR1 (bC (.int 6))) (gN 0) aU gM)) (aL (aN 3 (b2 ixP (bV 2) (bC (.int 0)))) (aL (aN 4 (b2 bN (bC (.int 1)) (b2 bU (b2 ixP (bV 2) (bC (.int 1))) (bC (.int 7))))) (aL (aN 5 (aY [none, some 3] (iR1 (bV 4)) (gN 0) aU gO)) (aL (aN 6 (cL aB)) (aL (gf (gN 7) (iR1 (b2 bU (b2 eV (b2 ixP (bV 2) (bC (.int 1))) (bC (.int 7))) (bC (.int 4)))) [7, 8] gP) (aL (aN 9 (aY [none, some 2] (iR1 (b2 bN (bV 4) (b1 lenV (bV 6)))) (gN 0) aU jx)) (aL (aN 10 (b2 bN (bV 5) (bV 6))) (aL (aN 11 (aY [none, some 10, some 9] (iR1 (b1 lenV (bV 10))) (gN 0) jz jy)) (aL (aN 12 (aY [none, some 10, some 9] (iR1 (b1 lenV (bV 10))) (gN 0) jB jA)) (aL (aN 13 (aY [none, some 3, some 4, some 2] (iR1 (b2 bU (b2 eV (b2 ixP (bV 2) (bC (.int 4))) (bC (.int 7))) (bC (.int 5)))) (gN 0) aU jC)) (aL (aN 14 (aY [none, some 3, some 4, some 2] (iR1 (b2 bU (b2 eV (b2 ixP (bV 2) (bC (.int 5))) (bC (.int 7))) (bC (.int 4)))) (gN 0) aU ji)) (aL (aN 15 (b2 ixP (cL (ak (bC (.str "")) (ak (bC (.str "never")) (ak (bC (.str "may")) (ak (bC (.str "must")) aB))))) (b2 bU (b2 eV (b2 ixP (bV 2) (bC (.int 1))) (bC (.int 28))) (bC (.int 4))))) (a_ (jU (ak (bV 5) (ak (bV 6) (ak (bV 11) (ak (bV 12) (ak (bV 13) (ak (bV 14) (ak (bV 15) (ak (bV 3) aB)))))))))))))))))))))))
def dJ := bO 16 2 false pI
def jD := (yx Di 2 (bV 4) (bC (.bl true)))
def dM := (sIf (tV (b2 eqQ (b2 ixP (bV 3) (bC (.int 0))) (bV 0))) (gf (gN 4) (iV (bSl (bV 3) (oS (bC (.int 1))) oN)) [4] jD) sNx)
def pJ := (aL (aN 2 (bC (.dK []))) (aL (gf (gN 3) (iV (bV 1)) [3, 4] dM) (a_ (bV 2))))
def bf := bO 5 2 false pJ
def jt := (sIf (tV (b2 eqQ (b2 ixP (bV 2) (bC (.int 0))) (bC (.str "run")))) (aN 1 (b2 ixP (bV 2) (bC (.int 1)))) sNx)
def ur := (aL (aN 1 (bC (.str "never"))) (aL (gf (gN 2) (iV (bV 0)) [2] jt) (a_ (bV 1))))
def iu := bO 3 1 false ur
def d_ := (sIf (tV (b2 eqQ (b2 ixP (bV 2) (bC (.int 0))) (bC (.str "alike")))) (yx Di 1 (jU (ak (b2 ixP (bV 2) (bC (.int 1))) (ak (b2 ixP (bV 2) (bC (.int 2))) aB))) (bC (.bl true))) sNx)
def qO := (aL (aN 1 (bC (.dT []))) (aL (gf (gN 2) (iV (bV 0)) [2] d_) (a_ (bV 1))))
def fL := bO 3 1 false qO
def rN := (a_ (fX (b2 eqQ (b1 lenV (bV 0)) (bC (.int 1))) (b2 inQ (bV 0) (bC (.str "abcdefghijklmnopqrstuvwxyz")))))
def dw := bO 1 1 false rN
def jk := (aK dw (ak (bV 0) aB))
def n_ := (a_ (fX (b2 eqQ (b2 ixP (bV 0) (bC (.int 0))) (bC (.str "carry"))) (fX (b2 (iC fun i j => decide (j < i)) (b1 lenV (bV 0)) (bC (.int 1))) (b1 kY (aY [none] (iV (bSl (bV 0) (oS (bC (.int 1))) oN)) (gN 0) aU jk)))))
def cO := bO 1 1 false n_
def qP := (a_ (fX (b2 eqQ (b1 lenV (bV 1)) (bC (.int 2))) (fX (b2 inQ (b2 ixP (bV 1) (bC (.int 0))) (bV 0)) (b2 inQ (b2 ixP (bV 1) (bC (.int 1))) (bV 0)))))
def ik := bO 2 2 false qP
def j5 := (aK ik (ak (bV 1) (ak (bV 0) aB)))
def qQ := (a_ (fX (b2 eqQ (b2 ixP (bV 1) (bC (.int 0))) (bC (.str "one"))) (fX (b2 (iC fun i j => decide (j < i)) (b1 lenV (bV 1)) (bC (.int 1))) (b1 kY (aY [none, some 0] (iV (bSl (bV 1) (oS (bC (.int 1))) oN)) (gN 0) aU j5)))))
def dF := bO 2 2 false qQ
def vy := (a_ (fX (aK dw (ak (bV 1) aB)) (b2 o_ (bV 1) (bV 0))))
def gQ := bO 2 2 false vy
def gR := (b2 inQ (bV 0) (bV 1))
def gU := (aK gQ (ak (bV 1) (ak (bV 0) aB)))
def lN := (aL (sIf (tV (b2 neQ (b1 lenV (bV 2)) (bC (.int 2)))) (a_ (bC (.bl false))) sNx) (a_ (bOr (b1 kY (aY [none, some 1] (iV (bV 2)) (gN 0) aU gR)) (b1 kY (aY [none, some 0] (iV (bV 2)) (gN 0) aU gU)))))
def dY := bO 3 3 false lN
def j6 := (aK gQ (ak (bV 1) (ak (bV 0) aB)))
def qR := (a_ (fX (rD (fun i j => decide (i <= j)) (fun i j => decide (i <= j)) (bC (.int 2)) (b1 lenV (bV 1)) (bC (.int 4))) (b1 kY (aY [none, some 0] (iV (bV 1)) (gN 0) aU j6))))
def il := bO 2 2 false qR
def m9 := (b2 inQ (bV 0) (bV 1))
def m_ := (aK il (ak (bV 1) (ak (bV 0) aB)))
def qd := (aL (aN 3 (b2 ixP (bV 2) (bC (.int 0)))) (aL (aN 4 (bSl (bV 2) (oS (bC (.int 1))) oN)) (aL (aN 5 (b2 bN (b1 lD (bV 0)) (b1 lD (bV 1)))) (aL (sIf (tV (b2 eqQ (bV 3) (bC (.str "carry")))) (a_ (aK cO (ak (bV 2) aB))) sNx) (aL (sIf (tV (b2 eqQ (bV 3) (bC (.str "one")))) (a_ (aK dF (ak (bV 0) (ak (bV 2) aB)))) sNx) (aL (sIf (tO (tV (b2 eqQ (bV 3) (bC (.str "long")))) (tV (b2 eqQ (bV 3) (bC (.str "either"))))) (a_ (fX (b2 (iC fun i j => decide (j < i)) (b1 lenV (bV 4)) (bC (.int 0))) (b1 kY (aY [none, some 5] (iV (bV 4)) (gN 0) aU m9)))) sNx) (aL (sIf (tO (tV (b2 eqQ (bV 3) (bC (.str "begin")))) (tV (b2 eqQ (bV 3) (bC (.str "split"))))) (a_ (fX (b2 (iC fun i j => decide (j < i)) (b1 lenV (bV 4)) (bC (.int 0))) (b1 kY (aY [none, some 0] (iV (bV 4)) (gN 0) aU m_)))) sNx) (aL (sIf (tV (b2 eqQ (bV 3) (bC (.str "run")))) (a_ (fX (b2 eqQ (b1 lenV (bV 4)) (bC (.int 1))) (b2 inQ (b2 ixP (bV 4) (bC (.int 0))) (bC pG)))) sNx) (a_ (fX (b2 eqQ (bV 3) (bC (.str "alike"))) (aK dY (ak (bV 0) (ak (bV 5) (ak (bV 4) aB))))))))))))))
def j7 := bO 6 3 false qd
def eE := (b2 rE (bV 0) (bC (.str " ")))
def gh := (bV 0)
def gj := (tV (aK cO (ak (bV 0) aB)))
def gk := (bV 0)
def gn := (tV (aK dF (ak (oH 0 "carrying" (bV 1)) (ak (bV 0) aB))))
def gq := (sIf (tN (tV (aK j7 (ak (oH 0 "carrying" (bV 0)) (ak (oH 0 "pairs" (bV 0)) (ak (bV 4) aB)))))) sNo sNx)
def kW := (aL (aN 2 (aY [none] (iV (bV 1)) (gN 0) aU eE)) (aL (f9 (fsV 0 "carrying") 0 (aK bf (ak (bC (.str "carry")) (ak (aY [none] (iV (bV 2)) (gN 0) gj gh) aB)))) (aL (f9 (fsV 0 "pairs") 0 (aK bf (ak (bC (.str "one")) (ak (aY [none, some 0] (iV (bV 2)) (gN 0) gn gk) aB)))) (aL (gf (gT [3, 4]) (iE (bV 2)) [3, 4] gq) (aL (f9 (fsV 0 "longs") 0 (aK bf (ak (bC (.str "long")) (ak (bV 2) aB)))) (aL (f9 (fsV 0 "eithers") 0 (aK bf (ak (bC (.str "either")) (ak (bV 2) aB)))) (aL (f9 (fsV 0 "beginnings") 0 (aK bf (ak (bC (.str "begin")) (ak (bV 2) aB)))) (aL (f9 (fsV 0 "splittings") 0 (aK bf (ak (bC (.str "split")) (ak (bV 2) aB)))) (aL (f9 (fsV 0 "running") 0 (aK iu (ak (bV 2) aB))) (f9 (fsV 0 "likes") 0 (aK fL (ak (bV 2) aB))))))))))))
def cD : List PV -> Option (List (Str × PV)) := tH 5 2 0 kW
def oK := (aL (aN 3 (aK bB (ak (b2 ixP (bV 0) (bC (.int 7))) (ak (b2 bN (b1 lenV (b2 ixP (bV 0) (bC (.int 0)))) (b2 bU (b2 eV (bV 2) (bC (.int 16))) (bC (.int 5)))) aB)))) (aL (aN 4 (cL (ak (bC .non) (ak (bC (.str "")) (ak (b2 bN (bV 1) (b2 lE (b2 ixP (b2 ixP (bV 0) (bC (.int 0))) (bC (.int 0))) (b2 subV (bC (.int 25)) (b1 lenV (bV 1))))) (ak (b2 lE (bV 3) (b2 bN (bC (.int 1)) (b2 bU (b2 eV (bV 2) (bC (.int 16))) (bC (.int 24))))) aB)))))) (a_ (b2 ixP (b2 jV (bV 4) (cL (ak (b1 mD (bV 1)) (ak (b2 bN (bSl (bV 1) oN (oS (bC (.int 11)))) (bC (.str " "))) (ak (bC (.int 0)) (ak (cL (ak (bV 1) aB)) aB)))))) (b2 bU (bV 2) (bC (.int 8)))))))
def iy := bO 5 3 false oK
def k_ := (b2 bN (b2 bN (bV 1) (bC (.str " "))) (bV 0))
def dN := (aL (aN 5 (b2 ixP (bV 0) (bV 3))) (sIf (tV (b2 eqQ (b2 bU (b2 eV (bV 1) (b2 ixP (cL (ak (bC (.int 1)) (ak (bC (.int 2)) (ak (bC (.int 4)) (ak (bC (.int 8)) (ak (bC (.int 16)) (ak (bC (.int 32)) aB))))))) (bV 3))) (bC (.int 2))) (bC (.int 1)))) (aN 2 (b2 jV (bV 2) (aY [none, some 4] (iV (bV 5)) (gN 0) aU k_))) (sIf (tV (b2 neQ (bV 5) (cL aB))) (f9 uE 2 (b2 bN (b2 bN (bV 4) (bC (.str " "))) (b2 u_ (bC (.str " ")) (bV 5)))) sNx)))
def ni := (aL (aN 2 (cL aB)) (aL (gf (gT [3, 4]) (iE (cL (ak (bC (.str "carry")) (ak (bC (.str "one")) (ak (bC (.str "long")) (ak (bC (.str "either")) (ak (bC (.str "begin")) (ak (bC (.str "split")) aB)))))))) [3, 4, 5] dN) (aL (sIf (tV (b2 neQ (b2 ixP (bV 0) (bC (.int 6))) (bC (.str "")))) (f9 uE 2 (b2 bN (bC (.str "run ")) (b2 ixP (bV 0) (bC (.int 6))))) sNx) (aL (aN 6 (b2 bU (b2 eV (bV 1) (bC (.int 64))) (b2 bN (b1 lenV (bV 2)) (bC (.int 1))))) (a_ (b2 jV (bSl (bV 2) (oS (bV 6)) oN) (bSl (bV 2) oN (oS (bV 6)))))))))
def gw := bO 7 2 true ni
def cU := (aL (aN 2 (b1 lenV (b2 ixP (bV 0) (bC (.int 0))))) (aL (aN 3 (b2 bU (bV 1) (bC (.int 7)))) (aL (aN 4 (b2 eV (bV 1) (bC (.int 7)))) (aL (sIf (tA (tV (b2 eqQ (bV 3) (bC (.int 4)))) (tV (b2 neQ (b2 ixP (bV 0) (bC (.int 4))) (cL aB)))) (a_ (b2 ixP (b2 ixP (bV 0) (bC (.int 4))) (b2 bU (bV 4) (b1 lenV (b2 ixP (bV 0) (bC (.int 4))))))) sNx) (aL (sIf (tA (tV (b2 eqQ (bV 3) (bC (.int 5)))) (tV (b2 neQ (b2 ixP (bV 0) (bC (.int 5))) (cL aB)))) (a_ (b2 ixP (b2 ixP (bV 0) (bC (.int 5))) (b2 bU (bV 4) (b1 lenV (b2 ixP (bV 0) (bC (.int 5))))))) sNx) (aL (sIf (tA (tV (b2 eqQ (bV 3) (bC (.int 6)))) (tV (b2 neQ (b2 ixP (bV 0) (bC (.int 1))) (cL aB)))) (a_ (b2 ixP (b2 ixP (bV 0) (bC (.int 1))) (b2 bU (bV 4) (b1 lenV (b2 ixP (bV 0) (bC (.int 1))))))) sNx) (aL (sIf (tV (b2 (iC fun i j => decide (i < j)) (bV 3) (bC (.int 3)))) (a_ (b2 ixP (b2 ixP (bV 0) (bC (.int 0))) (b2 bU (bV 4) (bV 2)))) sNx) (a_ (aK bB (ak (b2 ixP (bV 0) (bC (.int 7))) (ak (b2 bN (bV 2) (b2 bU (bV 4) (bC (.int 5)))) aB)))))))))))
def cV := bO 5 2 false cU
def iW := (aN 2 (bSl (b2 bN (bV 2) (aK cV (ak (bV 0) (ak (aK dq (ak (b2 eV (bV 1) (bC (.int 9))) (ak (bV 3) aB))) aB)))) oN (oS (bC (.int 24)))))
def dO := (bV 0)
def dR := (tV (b2 inQ (bV 0) (b2 ixP (bV 1) (bC (.int 0)))))
def iH := (aL (aN 2 (bC (.str ""))) (aL (gf (gN 3) (iR1 (b2 bN (bC (.int 1)) (b2 bU (bV 1) (bC (.int 9))))) [3] iW) (aL (sIf (tV (b2 eqQ (aY [none, some 0] (iV (bV 2)) (gN 0) dR dO) (cL aB))) (aN 2 (b2 bN (bSl (bV 2) oN (oS (bC (.int 23)))) (b2 ixP (b2 ixP (bV 0) (bC (.int 0))) (b2 bU (b2 eV (bV 1) (bC (.int 9))) (b1 lenV (b2 ixP (bV 0) (bC (.int 0)))))))) sNx) (a_ (bV 2)))))
def fj := bO 4 2 false iH
def lO := (a_ (b2 inQ (bV 1) (oH 0 "carrying" (bV 0))))
def cH := bO 2 2 false lO
def fu := (aK dw (ak (bV 0) aB))
def fB := (nQ 0 "carries" cH (bV 1) (ak (bV 0) aB))
def dz := (aL (sIf (tO (tN (tV (b1 (HF tb_str) (bV 1)))) (tV (b2 (iC fun i j => decide (j < i)) (b1 lenV (bV 1)) (bC (.int 24))))) (a_ (bC (.bl false))) sNx) (a_ (fX (b1 kY (aY [none] (iV (bV 1)) (gN 0) aU fu)) (b1 Hv (aY [none, some 0] (iV (bV 1)) (gN 0) aU fB)))))
def aV := bO 2 2 false dz
def mj := (sIf (tN (tV (aK aV (ak (bV 0) (ak (bV 1) aB))))) sNo sNx)
def cN := bO 2 2 false mj
def mq := (xIf (tN (tV (aK aV (ak (bV 0) (ak (bV 1) aB))))) (zy (ak (bC (.str "this is no word of the tongue")) aB) 14) xNo)
def dD := oJ 2 2 mq
def lQ := (a_ (b2 inQ (bV 1) (oH 0 "pairs" (bV 0))))
def dZ := bO 2 2 false lQ
def fM := (aL (aN 4 (bIf (tV (nQ 0 "is_pair" dZ (bV 0) (ak (bSl (bV 1) (oS (bV 3)) (oS (b2 bN (bV 3) (bC (.int 2))))) aB))) (bC (.int 2)) (bC (.int 1)))) (aL (f9 uE 2 (bSl (bV 1) (oS (bV 3)) (oS (b2 bN (bV 3) (bV 4))))) (aN 3 (b2 bN (bV 3) (bV 4)))))
def fO := (tV (b2 (iC fun i j => decide (i < j)) (bV 3) (b1 lenV (bV 1))))
def oM := (aL (nR (aK cN (ak (bV 0) (ak (bV 1) aB)))) (aL (aN 2 (cL aB)) (aL (aN 3 (bC (.int 0))) (aL (vf 1000000 fO [4] fM) (a_ (bV 2))))))
def fY := bO 5 2 false oM
def ut := (fH (ak (bV 0) (ak (bV 1) aB)) dD)
def iz := oJ 5 2 ut
def lF := (bV 0)
def lG := (tV (nQ 0 "carries" cH (bV 2) (ak (b2 ixP (bV 1) (bC (.int 0))) aB)))
def oh := (aL (aN 2 (aK fY (ak (bV 0) (ak (bV 1) aB)))) (aL (aN 3 (b1 tK (aY [none, none, some 0] (iE (bV 2)) (gT [0, 1]) lG lF))) (a_ (bSl (bV 2) (oS (bV 3)) oN))))
def aQ := bO 4 2 false oh
def xq := (fH (ak (bV 0) (ak (bV 1) aB)) iz)
def bh := oJ 4 2 xq
def gW := (a_ (bOr (b2 eqQ (bV 1) (bV 2)) (bOr (b2 inQ (jU (ak (bV 1) (ak (bV 2) aB))) (oH 0 "likes" (bV 0))) (b2 inQ (jU (ak (bV 2) (ak (bV 1) aB))) (oH 0 "likes" (bV 0))))))
def cW := bO 3 3 false gW
def fW := (nQ 0 "alike" cW (bV 2) (ak (bV 0) (ak (bV 1) aB)))
def qT := (a_ (fX (b2 eqQ (b1 lenV (bV 1)) (b1 lenV (bV 2))) (b1 kY (aY [none, none, some 0] (iZ (bV 1) (bV 2)) (gT [0, 1]) aU fW))))
def cA := bO 3 3 false qT
def xu := (a_ (aK cA (ak (bV 0) (ak (aK aQ (ak (bV 0) (ak (bV 1) aB))) (ak (aK aQ (ak (bV 0) (ak (bV 2) aB))) aB)))))
def d7 := bO 3 3 false xu
def xx := (Dl (bV 0) (xOr (fH (ak (bV 0) (ak (bV 1) aB)) bh) (Dl (aK aQ (ak (bV 0) (ak (bV 1) aB))) (fH (ak (bV 0) (ak (bV 2) aB)) bh))))
def cZ := oJ 3 3 xx
def gb := (jU (ak (bV 0) (ak (bC (.bl true)) aB)))
def eO := (bV 0)
def eQ := (tV (b2 o_ (bV 0) (bV 1)))
def cC := (aL (aN 5 (bIf (tV (b2 eqQ (b2 ixP (bV 0) (bV 4)) (bV 2))) (cL aB) (aY [none, some 3] (iV (b2 ixP (bV 0) (bV 4))) (gN 0) eQ eO))) (sIf (tV (b2 (iC fun i j => decide (j < i)) (b1 lenV (bV 5)) (bC (.int 0)))) (a_ (jU (ak (bV 1) (ak (bV 4) (ak (b2 ixP (bV 5) (bC (.int 0))) aB))))) sNx))
def bj := (aL (aN 3 (b1 zG (aY [none] (iV (bV 2)) (gN 0) aU gb))) (gf (gN 4) (iV (bV 2)) [4, 5] cC))
def j8 := (aL (gf (gT [1, 2]) (iE (bV 0)) [1, 2, 3, 4, 5] bj) (a_ (bC .non)))
def bM := bO 6 1 false j8
def fP := (bV 0)
def fQ := (tV (aK cA (ak (bV 2) (ak (bV 3) (ak (bV 1) aB)))))
def uv := (a_ (aY [none, none, some 0, some 2] (iE (bV 1)) (gT [0, 1]) fQ fP))
def iB := bO 3 3 false uv
def iY := (aK aQ (ak (bV 1) (ak (bV 0) aB)))
def i_ := (aK iB (ak (bV 1) (ak (bV 2) (ak (bV 0) aB))))
def dU := (bV 1)
def dW := (tV (b2 eqQ (b2 ixP (bV 1) (bC (.int 0))) (bV 0)))
def bY := (aK aQ (ak (bV 1) (ak (bV 0) aB)))
def iI := (aL (aN 2 (aY [none, some 0] (iV (bV 1)) (gN 0) aU iY)) (aL (aN 3 (aY [none, some 0, some 2] (iV (bV 2)) (gN 0) aU i_)) (aL (aN 4 (aK bM (ak (bV 3) aB))) (aL (sIf (tV (b2 mU (bV 4) (bC .non))) (a_ (jU (ak (bC (.str "broken")) (ak (bV 4) aB)))) sNx) (a_ (jU (ak (bC (.str "classes")) (ak (aY [none, none] (iE (bV 3)) (gT [0, 1]) dW dU) aB))))))))
def bZ := bO 5 2 false iI
def nj := (yE [none, some 0] (iV (bV 1)) (gN 0) aU bY (fH (ak (bV 1) (ak (bV 0) aB)) bh))
def b7 := oJ 5 2 nj
def dh := (sIf (tV (b2 eqQ (bV 1) (bC (.int 0)))) (nR (aK aQ (ak (bV 0) (ak (bV 3) aB)))) (sIf (tV (b2 eqQ (bV 1) (bC (.int 1)))) (nR (aK d7 (ak (bV 0) (ak (bV 3) (ak (bV 2) aB))))) (sIf (tV (b2 eqQ (bV 1) (bC (.int 2)))) (nR (aK d7 (ak (bV 0) (ak (bV 2) (ak (bV 3) aB))))) (nR (aK bZ (ak (bV 0) (ak (bV 4) aB)))))))
def cB := (xIf (tV (b2 eqQ (bV 1) (bC (.int 0)))) (fH (ak (bV 0) (ak (bV 3) aB)) bh) (xIf (tV (b2 eqQ (bV 1) (bC (.int 1)))) (fH (ak (bV 0) (ak (bV 3) (ak (bV 2) aB))) cZ) (xIf (tV (b2 eqQ (bV 1) (bC (.int 2)))) (fH (ak (bV 0) (ak (bV 2) (ak (bV 3) aB))) cZ) (fH (ak (bV 0) (ak (bV 4) aB)) b7))))
def fC := (aL (aN 5 (bC .non)) (HW dh cB 14 (.str "no word") (aL (sIf (tV (b2 isN (bV 5) (bC .non))) (a_ (bC (.str "told"))) sNx) sNo)))
def bc := bO 7 5 false fC
def iJ := (aK fj (ak (bV 1) (ak (bV 0) aB)))
def nq := (aL (sIf (tV (b2 neQ (aK bc (ak (bV 2) (ak (bV 8) (ak (b2 ixP (bV 3) (bC (.int 0))) (ak (b2 ixP (bV 3) (b1 Hu (bC (.int 1)))) (ak (bV 3) aB)))))) (bC (.str "told")))) (a_ (bC (.bl false))) sNx) (sIf (tV (b2 neQ (aK bc (ak (bV 2) (ak (bV 8) (ak (b2 ixP (bV 3) (bC (.int 0))) (ak (bV 4) (ak (bV 6) aB)))))) (bC (.str "no word")))) (a_ (bC (.bl false))) sNx))
def vz := (aL (aN 1 (aK dJ (ak (bV 0) (ak (bC (.int 1)) aB)))) (aL (aN 2 (yC 0 cD (ak (aK gw (ak (bV 1) (ak (aK aP (ak (bV 0) (ak (bC (.int 0)) aB))) aB))) aB))) (aL (aN 3 (aY [none, some 1] (iV (b2 jV (cL (ak (aK aP (ak (bV 0) (ak (bC (.int 9)) aB))) aB)) (bSl (bV 0) (oS (bC (.int 10))) (oS (bC (.int 15)))))) (gN 0) aU iJ)) (aL (aN 4 (aK iy (ak (bV 1) (ak (b2 ixP (bV 3) (bC (.int 0))) (ak (aK aP (ak (bV 0) (ak (bC (.int 7)) aB))) aB))))) (aL (aN 5 (b2 bU (aK aP (ak (bV 0) (ak (bC (.int 8)) aB))) (b2 bN (b1 lenV (bV 3)) (bC (.int 1))))) (aL (aN 6 (b2 jV (b2 jV (bSl (bV 3) oN (oS (bV 5))) (cL (ak (bV 4) aB))) (bSl (bV 3) (oS (bV 5)) oN))) (aL (aN 7 (b1 lD (bV 6))) (aL (gf (gN 8) (iR1 (bC (.int 4))) [8] nq) (a_ (fX (b2 eqQ (bV 6) (bV 7)) (b2 eqQ (aK bc (ak (bV 2) (ak (bC (.int 3)) (ak (b2 ixP (bV 3) (bC (.int 0))) (ak (bV 4) (ak (bV 3) aB)))))) (bC (.str "told")))))))))))))
def vA := bO 9 1 false vz
end
end My
namespace My
open PySem L2 MR
abbrev LET : Str := "abcdefghijklmnopqrstuvwxyz"
def isLetter (x : Str) : Bool := decide (x.length = 1) && !(Builtin.Str.occurrences LET x 0 LET.length 1).isEmpty
def fD : List Str -> Bool
 | w :: r => decide (w = ("carry" : Str)) && decide (0 < r.length) && r.all isLetter
 | [] => false
def pairOf (C : Str -> Bool) (x : Str) : Bool := match x.cps.toList with
 | [a, b] => C ⟨#[a]⟩ && C ⟨#[b]⟩
 | _ => false
def iK (C : Str -> Bool) : List Str -> Bool
 | w :: r => decide (w = ("one" : Str)) && decide (0 < r.length) && r.all (pairOf C)
 | [] => false
def j9 (C : Str -> Bool) (x : Str) : Bool := isLetter x && !C x
def iM (C : Str -> Bool) (x : Str) : Bool := decide (2 <= x.length) && decide (x.length <= 4) && x.cps.toList.all fun c => j9 C ⟨#[c]⟩
def jb (C : Str -> Bool) (cs ws : List Str) : Bool := decide (ws.length = 2) && (ws.all (fun w => decide (w ∈ cs)) || ws.all (j9 C))
def cF (C : Str -> Bool) (cs : List Str) : List Str -> Bool
 | w :: r =>
  if w = ("carry" : Str) then fD (w :: r)
  else if w = ("one" : Str) then iK C (w :: r)
  else if w = ("long" : Str) \/ w = ("either" : Str) then decide (0 < r.length) && r.all fun x => decide (x ∈ cs)
  else if w = ("begin" : Str) \/ w = ("split" : Str) then decide (0 < r.length) && r.all (iM C)
  else if w = ("run" : Str) then decide (r.length = 1) && r.all fun x => decide (x = ("never" : Str) \/ x = ("may" : Str) \/ x = ("must" : Str))
  else decide (w = ("alike" : Str)) && jb C cs r
 | [] => false
def Few (ws : List Str) : Prop := ws.length <= 1000 /\ ∀ x ∈ ws, x.length <= 1000
def inS (ks : List Str) (x : Str) : Bool := decide (x ∈ ks)
theorem ou {x : Str} (h : x.length <= 1000) : dw [.str x] = some (.bl (isLetter x)) := by
 have h' : x.length <= 1000000 := by omega
 simp [dw, rN, eqQ, eqP, h', isLetter, inP]
 by_cases e : (x.length : Int) = 1
 ·have e' : x.length = 1 := by omega
  simp [e, e']
 ·have e' : ¬ x.length = 1 := by omega
  simp [e, e']
theorem oA {α : Type} (f : α -> PV) (w : α) (r : List α) : je ((w :: r).map f) (some 1) none = r.map f := by
 unfold je
 have h1 : HT.sIx ((w :: r).map f).length 0 (some ((1 : Nat) : Int)) = 1 := by
  rw [HT.sIx_nat]; simp
 have h1' : HT.sIx ((w :: r).map f).length 0 (some 1) = 1 := h1
 rw [h1', HT.sIx_none]
 simp only [List.map_cons, List.drop_succ_cons, List.drop_zero]
 exact List.take_of_length_le (by simp)
theorem jL {α : Type} (p : α -> Bool) : ∀ l : List α, bools (l.map fun x => PV.bl (p x)) = some (l.map p)
 | [] => rfl
 | x :: l => by simp [jL p l]
theorem zJ {w : Str} {r : List Str} (hf : Few (w :: r)) : cO [.lst ((w :: r).map .str)] = some (.bl (fD (w :: r))) := by
 have hl : r.length <= 1000 := by have := hf.1; simp at this; omega
 have hc : bz [none] (gN 0) aU jk (r.map .str) = some (r.map fun x => .bl (isLetter x)) :=
  bx _ _ r fun y hy => ⟨_, rfl, by simp [jk, ou (hf.2 y (List.mem_cons_of_mem _ hy))]⟩
 have h0 : atI ((w :: r).map PV.str) 0 = some (.str w) := b_ (k := 0) rfl
 have ht := oA PV.str w r
 simp only [List.map_cons] at h0 ht
 simp [cO, n_, h0, ht, eqQ, eqP, fD]
 by_cases e : w = ("carry" : Str)
 ·subst e
  simp
  by_cases e2 : (1 : Int) < (r.length : Int) + 1
  ·have e3 : 0 < r.length := by omega
   have hl' : r.length <= 1000000 := by omega
   simp [e2, e3, hc, hl', jL]
  ·have e3 : ¬ 0 < r.length := by omega
   simp [e2, e3]
 ·simp [e]
end My
namespace My
open PySem L2 MR
theorem Gh {x : Str} (h : x.length = 2) : ∃ a b, x.cps.toList = [a, b] := by
 have h' : x.cps.toList.length = 2 := by rw [Array.length_toList]; exact h
 match hx : x.cps.toList, h' with
 | [a, b], _ => exact ⟨a, b, rfl⟩
theorem K_ {ks : List Str} {x : Str} (h : x.length <= 1000) : ik [.dK (sdP ks), .str x] = some (.bl (pairOf (inS ks) x)) := by
 have h' : x.length <= 1000000 := by omega
 simp [ik, qP, h']
 by_cases e : (x.length : Int) = 2
 ·obtain ⟨a, c, hs⟩ := Gh (x := x) (by omega)
  have a0 : atI x.cps.toList 0 = some a := by rw [hs]; exact b_ (k := 0) rfl
  have a1 : atI x.cps.toList 1 = some c := by rw [hs]; exact b_ (k := 1) rfl
  have ep : pairOf (inS ks) x = (inS ks ⟨#[a]⟩ && inS ks ⟨#[c]⟩) := by unfold pairOf; rw [hs]
  rw [ep]
  simp [e, a0, a1, vq, inS]
  by_cases m : (⟨#[a]⟩ : Str) ∈ ks <;> simp [m]
 ·have e1 : pairOf (inS ks) x = false := by
   unfold pairOf
   split
   ·rename_i a c hs
    have : x.cps.toList.length = 2 := by rw [hs]; rfl
    rw [Array.length_toList] at this
    exact absurd (show ((x.length : Nat) : Int) = 2 by unfold Str.length; omega) e
   ·rfl
  simp [e, e1]
theorem Gi {ks : List Str} {w : Str} {r : List Str} (hf : Few (w :: r)) : dF [.dK (sdP ks), .lst ((w :: r).map .str)] = some (.bl (iK (inS ks) (w :: r))) := by
 have hl : r.length <= 1000 := by have := hf.1; simp at this; omega
 have hc : bz [none, some (.dK (sdP ks))] (gN 0) aU j5 (r.map .str) = some (r.map fun x => .bl (pairOf (inS ks) x)) :=
  bx _ _ r fun y hy => ⟨_, rfl, by simp [j5, K_ (hf.2 y (List.mem_cons_of_mem _ hy))]⟩
 have h0 : atI ((w :: r).map PV.str) 0 = some (.str w) := b_ (k := 0) rfl
 have ht := oA PV.str w r
 simp only [List.map_cons] at h0 ht
 simp [dF, qQ, h0, ht, iK]
 by_cases e : w = ("one" : Str)
 ·subst e
  simp
  by_cases e2 : (1 : Int) < (r.length : Int) + 1
  ·have e3 : 0 < r.length := by omega
   have hl' : r.length <= 1000000 := by omega
   simp [e2, e3, hc, hl', jL]
  ·have e3 : ¬ 0 < r.length := by omega
   simp [e2, e3]
 ·simp [e]
theorem BR {ks : List Str} {x : Str} (h : x.length <= 1000) : gQ [.dK (sdP ks), .str x] = some (.bl (j9 (inS ks) x)) := by
 simp [gQ, vy, ou h, j9, vq, inS]
 cases isLetter x <;> simp
theorem mF (x : Str) : chV x = x.cps.toList.map fun c => PV.str ⟨#[c]⟩ := rfl
theorem Dn {ks : List Str} {x : Str} (h : x.length <= 1000) : il [.dK (sdP ks), .str x] = some (.bl (iM (inS ks) x)) := by
 have h' : x.length <= 1000000 := by omega
 have hl : x.cps.toList.length = x.length := Array.length_toList
 have hc : bz [none, some (.dK (sdP ks))] (gN 0) aU j6 (chV x) = some (x.cps.toList.map fun c => .bl (j9 (inS ks) ⟨#[c]⟩)) := by
  rw [mF]
  exact bx _ _ _ fun y hy => ⟨_, rfl, by simp [j6, BR (ks := ks) (x := ⟨#[y]⟩) (by show 1 <= 1000; decide)]⟩
 have hcl : (chV x).length <= 1000000 := by unfold chV; rw [List.length_map, hl]; exact h'
 simp [il, qR, h', iM]
 by_cases e : (2 : Int) <= x.length
 ·have e1 : 2 <= x.length := by omega
  simp [e, e1]
  by_cases e2 : (x.length : Int) <= 4
  ·have e3 : x.length <= 4 := by omega
   simp [e2, e3, hc, hcl, jL]
  ·have e3 : ¬ x.length <= 4 := by omega
   simp [e2, e3]
 ·have e1 : ¬ 2 <= x.length := by omega
  simp [e, e1]
theorem uH (x : Str) : ∀ cs : List Str, ((cs.map PV.str).any fun y => eqF y (.str x)) = decide (x ∈ cs)
 | [] => by simp
 | c :: r => by
  have ih := uH x r
  rw [List.map_cons, List.any_cons, ih]
  by_cases h : c = x
  ·subst h; simp [eqF]
  ·have h' : ¬ x = c := fun e => h e.symm
   simp [eqF, h, h']
theorem xF : ∀ cs : List Str, (cs.map PV.str).all fG = true
 | [] => rfl
 | _ :: r => by simp [xF r]
theorem uI (x : Str) (cs : List Str) : inP (.str x) (.lst (cs.map .str)) = some (decide (x ∈ cs)) := by
 have h := uH x cs
 have hf := xF cs
 unfold inP
 simp only [hf, h, fG, and_self, if_true]
theorem Ib {ks cs ws : List Str} (hf : Few ws) : dY [.dK (sdP ks), .lst (cs.map .str), .lst (ws.map .str)] = some (.bl (jb (inS ks) cs ws)) := by
 have hl : ws.length <= 1000000 := by have := hf.1; omega
 have h1 : bz [none, some (.lst (cs.map .str))] (gN 0) aU gR (ws.map .str) = some (ws.map fun x => .bl (decide (x ∈ cs))) :=
  bx _ _ ws fun y hy => ⟨_, rfl, by simp [gR, uI]⟩
 have h2 : bz [none, some (.dK (sdP ks))] (gN 0) aU gU (ws.map .str) = some (ws.map fun x => .bl (j9 (inS ks) x)) :=
  bx _ _ ws fun y hy => ⟨_, rfl, by simp [gU, BR (hf.2 y hy)]⟩
 simp [dY, lN, jb]
 by_cases e : (ws.length : Int) = 2
 ·have e' : ws.length = 2 := by omega
  simp [e, e', h1, h2, hl, jL]
  cases (ws.all fun x => decide (x ∈ cs)) <;> simp
 ·have e' : ¬ ws.length = 2 := by omega
  simp [e, e']
theorem Ie (ks : List Str) : (sdP ks).map (fun kv => yw kv.1) = ks.map PV.str := by
 unfold sdP; rw [List.map_map]; rfl
theorem uJ {f g : MR.Env -> Option Out} {env e : MR.Env} (h : f env = some (.nx e)) : aL f g env = g e := by simp [h]
theorem rO {c : MR.Env -> Option Bool} {f g : MR.Env -> Option Out} {env : MR.Env} (h : c env = some false) : aL (sIf c f sNx) g env = g env := by simp [h]
theorem rP {c : MR.Env -> Option Bool} {f g : MR.Env -> Option Out} {env : MR.Env} {p : PV} (h : c env = some true) (h' : f env = some (.rt p)) : aL (sIf c f sNx) g env = some (.rt p) := by simp [h, h']
theorem jM {env : MR.Env} {w : Str} (h : bV 3 env = some (.str w)) (s : Str) : tV (b2 eqQ (bV 3) (bC (.str s))) env = some (decide (w = s)) := by
 simp only [Jz, jT, h, Option.bind_some, yt, Fq, Bx, Option.map_some]
theorem tU {env : MR.Env} {w : Str} (h : bV 3 env = some (.str w)) (s t : Str) : tO (tV (b2 eqQ (bV 3) (bC (.str s)))) (tV (b2 eqQ (bV 3) (bC (.str t)))) env = some (decide (w = s \/ w = t)) := by
 rw [QL, jM h, jM h]
 by_cases q : w = s <;> simp [q]
theorem lg {f : MR.Env -> Option PV} {env : MR.Env} {p : PV} (h : f env = some p) : a_ f env = some (.rt p) := by simp [h]
theorem Gj {env : MR.Env} {cap : List (Option Nat)} {ce : MR.Env -> Option PV} {r : List Str} {q : Str -> Bool} (h4 : bV 4 env = some (.lst (r.map .str))) (hl : r.length <= 1000000) (hc : bz (jg cap env) (gN 0) aU ce (r.map .str) = some (r.map fun x => .bl (q x))) :
  fX (b2 (iC fun i j => decide (j < i)) (b1 lenV (bV 4)) (bC (.int 0))) (b1 kY (aY cap (iV (bV 4)) (gN 0) aU ce)) env = some (.bl (decide (0 < r.length) && r.all q)) := by
 have hbl := jL q r
 rw [vY, jT, yu, h4, yu, uF, Q6, h4]
 simp only [Option.bind_some, lenV, yt, iC, itV, List.length_map, hl, if_true, hc, kY, hbl, Option.map_some]
 cases r with
 | nil => rfl
 | cons x r =>
  have h1 : (0 : Int) < ((x :: r).length : Int) := by simp
  simp only [h1, decide_true]
  simp
theorem La {ks ps : List Str} {w : Str} {r : List Str} (hf : Few (w :: r)) (hk : ks.length <= 100000) (hp : ps.length <= 100000) :
  j7 [.dK (sdP ks), .dK (sdP ps), .lst ((w :: r).map .str)] = some (.bl (cF (inS ks) (ks ++ ps) (w :: r))) := by
 have hl : r.length <= 1000 := by have := hf.1; simp at this; omega
 have hl' : r.length <= 1000000 := by omega
 have rf : Few r := ⟨hl, fun x hx => hf.2 x (List.mem_cons_of_mem _ hx)⟩
 have h0 : atI ((w :: r).map PV.str) 0 = some (.str w) := b_ (k := 0) rfl
 have ht := oA PV.str w r
 have hC := zJ hf
 have hO := Gi (ks := ks) hf
 have hU := Ib (ks := ks) (cs := ks ++ ps) rf
 have c1 : bz [none, some (.lst ((ks ++ ps).map .str))] (gN 0) aU m9 (r.map .str) = some (r.map fun x => .bl (decide (x ∈ ks ++ ps))) :=
  bx _ _ r fun y hy => ⟨_, rfl, by simp only [m9, b2, bV, inQ]; simp only [List.set, List.getElem?_cons_zero, List.getElem?_cons_succ, Option.bind_some, uI, Option.map_some]⟩
 have c2 : bz [none, some (.dK (sdP ks))] (gN 0) aU m_ (r.map .str) = some (r.map fun x => .bl (iM (inS ks) x)) :=
  bx _ _ r fun y hy => ⟨_, rfl, by simp [m_, Dn (rf.2 y hy)]⟩
 have hz : ks.length + ps.length <= 1000000 := by omega
 generalize hrow : PV.lst ((w :: r).map .str) = row at hC hO
 generalize hcs : ks ++ ps = cs at c1 hU
 have s1 : aN 3 (b2 ixP (bV 2) (bC (.int 0))) [some (.dK (sdP ks)), some (.dK (sdP ps)), some row, none, none, none] = some (.nx [some (.dK (sdP ks)), some (.dK (sdP ps)), some row, some (.str w), none, none]) := by
  subst hrow
  simp only [Ks, jT, bV, List.getElem?_cons_succ, List.getElem?_cons_zero, Option.bind_some, yt, ixP, h0, List.set]
 have s2 : aN 4 (bSl (bV 2) (oS (bC (.int 1))) oN) [some (.dK (sdP ks)), some (.dK (sdP ps)), some row, some (.str w), none, none] = some (.nx [some (.dK (sdP ks)), some (.dK (sdP ps)), some row, some (.str w), some (.lst (r.map .str)), none]) := by
  subst hrow
  simp [-List.map_cons, ht]
 have s3 : aN 5 (b2 bN (b1 lD (bV 0)) (b1 lD (bV 1))) [some (.dK (sdP ks)), some (.dK (sdP ps)), some row, some (.str w), some (.lst (r.map .str)), none] = some (.nx [some (.dK (sdP ks)), some (.dK (sdP ps)), some row, some (.str w), some (.lst (r.map .str)), some (.lst (cs.map .str))]) := by
  subst hcs
  simp [Ie, vp, hz]
 have g3 : bV 3 [some (.dK (sdP ks)), some (.dK (sdP ps)), some row, some (.str w), some (.lst (r.map .str)), some (.lst (cs.map .str))] = some (.str w) := rfl
 have g4 : bV 4 [some (.dK (sdP ks)), some (.dK (sdP ps)), some row, some (.str w), some (.lst (r.map .str)), some (.lst (cs.map .str))] = some (.lst (r.map .str)) := rfl
 have fb : qd [some (.dK (sdP ks)), some (.dK (sdP ps)), some row, none, none, none] = some (.rt (.bl (cF (inS ks) cs (w :: r)))) := by
  have hC' : a_ (aK cO (ak (bV 2) aB)) [some (.dK (sdP ks)), some (.dK (sdP ps)), some row, some (.str w), some (.lst (r.map .str)), some (.lst (cs.map .str))] = _ := lg (by rw [yZ]; exact hC)
  have hO' : a_ (aK dF (ak (bV 0) (ak (bV 2) aB))) [some (.dK (sdP ks)), some (.dK (sdP ps)), some row, some (.str w), some (.lst (r.map .str)), some (.lst (cs.map .str))] = _ := lg (by rw [yZ]; exact hO)
  have a1 := Gj (cap := [none, some 5]) (q := fun x => decide (x ∈ cs)) g4 hl' c1
  have a2 := Gj (cap := [none, some 0]) (q := fun x => iM (inS ks) x) g4 hl' c2
  generalize hE : [some (PV.dK (sdP ks)), some (.dK (sdP ps)), some row, some (.str w), some (.lst (r.map .str)), some (.lst (cs.map .str))] = E at s3 g3 g4 hC' hO' a1 a2
  unfold qd
  rw [uJ s1, uJ s2, uJ s3]
  by_cases n1 : w = ("carry" : Str)
  ·rw [rP (by rw [jM g3, decide_eq_true n1]) hC']
   simp only [cF, if_pos n1]
  rw [rO (by rw [jM g3, decide_eq_false n1])]
  by_cases n2 : w = ("one" : Str)
  ·rw [rP (by rw [jM g3, decide_eq_true n2]) hO']
   simp only [cF, if_neg n1, if_pos n2]
  rw [rO (by rw [jM g3, decide_eq_false n2])]
  by_cases n3 : w = ("long" : Str) \/ w = ("either" : Str)
  ·rw [rP (by rw [tU g3, decide_eq_true n3]) (lg a1)]
   simp only [cF, if_neg n1, if_neg n2, if_pos n3]
  rw [rO (by rw [tU g3, decide_eq_false n3])]
  by_cases n4 : w = ("begin" : Str) \/ w = ("split" : Str)
  ·rw [rP (by rw [tU g3, decide_eq_true n4]) (lg a2)]
   simp only [cF, if_neg n1, if_neg n2, if_neg n3, if_pos n4]
  rw [rO (by rw [tU g3, decide_eq_false n4])]
  by_cases n5 : w = ("run" : Str)
  ·have a3 : fX (b2 eqQ (b1 lenV (bV 4)) (bC (.int 1))) (b2 inQ (b2 ixP (bV 4) (bC (.int 0))) (bC pG)) E = some (.bl (decide (r.length = 1) && r.all fun x => decide (x = ("never" : Str) \/ x = ("may" : Str) \/ x = ("must" : Str)))) := by
    rw [vY, jT, yu, g4, jT, jT, g4]
    clear hE
    match r with
    | [] => rfl
    | [x] =>
     have h8 : inP (.str x) pG = some (decide (x = ("never" : Str) \/ x = ("may" : Str) \/ x = ("must" : Str))) := by
      have q := uH x ["never", "may", "must"]
      simp only [List.map_cons, List.map_nil] at q
      unfold pG inP
      simp only [fG, List.all_cons, List.all_nil, Bool.and_self, and_self, if_true, q]
      simp
     have h9 : atI [PV.str x] 0 = some (.str x) := b_ (k := 0) rfl
     simp [h9, h8]
    | x :: y :: r' =>
     have : ¬ ((r'.length : Int) + 1 + 1 = 1) := by omega
     simp [this]
   rw [rP (by rw [jM g3, decide_eq_true n5]) (lg a3)]
   simp only [cF, if_neg n1, if_neg n2, if_neg n3, if_neg n4, if_pos n5]
  rw [rO (by rw [jM g3, decide_eq_false n5])]
  refine lg ?_
  have e : cF (inS ks) cs (w :: r) = (decide (w = ("alike" : Str)) && jb (inS ks) cs r) := by
   simp only [cF, if_neg n1, if_neg n2, if_neg n3, if_neg n4, if_neg n5]
  rw [e, vY, jT, g3]
  simp only [Option.bind_some, yt, Fq, Bx, Option.map_some]
  by_cases n6 : w = ("alike" : Str)
  ·subst hE
   simp [n6, hU]
  ·simp [n6]
 subst hcs
 simp [j7, fb]
end My
namespace My
open PySem L2 MR
def bR (ws : List Str) : PV := .lst (ws.map .str)
def cj (rs : List (List Str)) : List PV := rs.map bR
theorem BV {kind : Str} {q : PV} {row : PV} : ∀ (ws ks : List Str), ks.length + ws.length < 1000000 ->
  bQ (gN 4) [4] jD (ws.map .str) [some (.str kind), some q, some (.dK (sdP ks)), some row, none] = some (.nx [some (.str kind), some q, some (.dK (sdP (jr ks ws))), some row, none])
 | [], ks, _ => rfl
 | w :: ws, ks, h => by
  have h1 : (sdP ks).length < 1000000 := by rw [vp]; simp at h; omega
  have h2 := zu ks w
  have ih := BV (kind := kind) (q := q) (row := row) ws (lV ks w) (by simp at h; omega)
  have e : jr ks (w :: ws) = jr (lV ks w) ws := rfl
  rw [e, ← ih]
  simp [bQ, jD, h1, KH]
theorem zK {kind : Str} {q : PV} : ∀ (rs : List (List Str)) (ks : List Str), (∀ ws ∈ rs, ws ≠ []) -> ks.length + total rs < 1000000 ->
  bQ (gN 3) [3, 4] dM (cj rs) [some (.str kind), some q, some (.dK (sdP ks)), none, none] = some (.nx [some (.str kind), some q, some (.dK (sdP (rs.foldl (eG kind) ks))), none, none])
 | [], ks, _, _ => rfl
 | [] :: rs, ks, hne, _ => absurd rfl (hne [] List.mem_cons_self)
 | (c :: r) :: rs, ks, hne, h => by
  have ht : ks.length + (r.length + 1) + total rs < 1000000 := by unfold total at h ⊢; simp at h; omega
  have h0 : atI ((c :: r).map PV.str) 0 = some (.str c) := b_ (k := 0) rfl
  have hc := oA PV.str c r
  simp only [List.map_cons] at h0 hc
  have key : dM [some (.str kind), some q, some (.dK (sdP ks)), some (bR (c :: r)), none] = some (.nx [some (.str kind), some q, some (.dK (sdP (eG kind ks (c :: r)))), some (bR (c :: r)), none]) := by
   by_cases e : c = kind
   ·subst e
    have hi := BV (kind := c) (q := q) (row := bR (c :: r)) r ks (by omega)
    simp only [bR, List.map_cons] at hi
    simp [dM, bR, h0, hc, eG, hi]
   ·simp [dM, bR, h0, hc, eG, e]
  have hl : (eG kind ks (c :: r)).length <= ks.length + (r.length + 1) := by
   show (if c = kind then jr ks r else ks).length <= _
   split
   ·have := rM r ks; omega
   ·omega
  have ih := zK (kind := kind) (q := q) rs (eG kind ks (c :: r)) (fun ws hws => hne ws (List.mem_cons_of_mem _ hws)) (by omega)
  rw [List.foldl_cons, ← ih]
  show bQ (gN 3) [3, 4] dM (bR (c :: r) :: cj rs) _ = _
  simp [bQ, key]
theorem mG {kind : Str} {rs : List (List Str)} (hne : ∀ ws ∈ rs, ws ≠ []) (h : total rs < 1000000) : bf [.str kind, .lst (cj rs)] = some (.dK (sdP (tell kind rs))) := by
 have hl := zK (kind := kind) (q := .lst (cj rs)) rs [] hne (by simpa using h)
 have e : ([] : List (Key × PV)) = sdP [] := rfl
 simp [bf, pJ, e, hl, tell]
def tW (t : Str) : List Str -> Str
 | c :: x :: _ => if c = ("run" : Str) then x else t
 | _ => t
def tY (rs : List (List Str)) : Str := rs.foldl tW ("never" : Str)
theorem Ph {rs : List (List Str)} (hne : ∀ ws ∈ rs, ws ≠ []) (hrun : ∀ r, (("run" : Str) :: r) ∈ rs -> r ≠ []) : iu [.lst (cj rs)] = some (.str (tY rs)) := by
 have hl := vm (g := gN 2) (ds := [2]) (body := jt) bR (fun s : Str => [some (.lst (cj rs)), some (.str s), none]) tW rs ("never" : Str) (fun ws hws s => by
  cases ws with
  | nil => exact absurd rfl (hne _ hws)
  | cons c r =>
   have h0 : atI ((c :: r).map PV.str) 0 = some (.str c) := b_ (k := 0) rfl
   simp only [List.map_cons] at h0
   by_cases e : c = ("run" : Str)
   ·cases r with
    | nil => subst e; exact absurd rfl (hrun _ hws)
    | cons x r =>
     subst e
     have h1 : atI (((("run" : Str) :: x :: r)).map PV.str) 1 = some (.str x) := b_ (k := 1) rfl
     simp only [List.map_cons] at h0 h1
     exact ⟨_, _, rfl, by simp [jt, bR, h0, h1]; rfl, by simp [tW]⟩
   ·refine ⟨_, _, rfl, by simp [jt, bR, h0, e]; rfl, ?_⟩
    cases r <;> simp [tW, e])
 simp [iu, ur, tY]
 unfold cj at hl ⊢
 simp [hl]
def zL (ks : List (Str × Str)) (x : Str × Str) : List (Str × Str) := if x ∈ ks then ks else ks ++ [x]
def gY (ks : List (Str × Str)) : List Str -> List (Str × Str)
 | c :: x :: y :: _ => if c = ("alike" : Str) then zL ks (x, y) else ks
 | _ => ks
def likes (rs : List (List Str)) : List (Str × Str) := rs.foldl gY []
def pk (x : Str × Str) : List Key := [Sum.inr x.1, Sum.inr x.2]
theorem zM {x y : Str × Str} (h : pk x = pk y) : x = y := by
 obtain ⟨a, b⟩ := x
 obtain ⟨c, d⟩ := y
 simp [pk] at h
 rw [h.1, h.2]
def sdT (ks : List (Str × Str)) : List (List Key × PV) := ks.map fun x => (pk x, PV.bl true)
theorem Do (ks : List (Str × Str)) : (sdT ks).length = ks.length := by simp [sdT]
theorem zN (x : Str × Str) : ∀ ks : List (Str × Str), d8 (sdT ks) (pk x) = if x ∈ ks then some (.bl true) else none
 | [] => rfl
 | k :: r => by
  have ih := zN x r
  unfold d8 at ih ⊢
  show (((pk k, PV.bl true) :: sdT r).find? _).map _ = _
  by_cases h : k = x
  ·subst h; simp
  ·have h' : ¬ x = k := fun e => h e.symm
   have hk : ¬ pk k = pk x := fun e => h (zM e)
   rw [List.find?_cons_of_neg (by simpa using hk), ih]
   simp [h']
theorem Ld (ks : List (Str × Str)) (x : Str × Str) : jf (sdT ks) (pk x) (.bl true) = sdT (zL ks x) := by
 have hany : ((sdT ks).any fun kv => decide (kv.1 = pk x)) = decide (x ∈ ks) := by
  unfold sdT
  rw [List.any_map]
  induction ks with
  | nil => simp
  | cons k r ih =>
   rw [List.any_cons, ih]
   by_cases h : k = x
   ·subst h; simp
   ·have h' : ¬ x = k := fun e => h e.symm
    have hk : ¬ pk k = pk x := fun e => h (zM e)
    simp [hk, h']
 unfold jf zL
 rw [hany]
 by_cases h : x ∈ ks
 ·rw [if_pos (by simpa using h), if_pos h]
  unfold sdT
  rw [List.map_map]
  refine List.map_congr_left fun y _ => ?_
  by_cases e : y = x
  ·subst e; simp
  ·have : ¬ pk y = pk x := fun z => e (zM z)
   simp [this]
 ·rw [if_neg (by simpa using h), if_neg h]
  unfold sdT
  simp
theorem Ig (ks : List (Str × Str)) (x : Str × Str) : (zL ks x).length <= ks.length + 1 := by
 unfold zL; split <;> simp
theorem zO (ks : List (Str × Str)) (ws : List Str) : (gY ks ws).length <= ks.length + 1 := by
 unfold gY
 split
 ·split
  ·exact Ig _ _
  ·exact Nat.le_add_right _ _
 ·exact Nat.le_add_right _ _
theorem Aq {ks : List (Str × Str)} {c : Str} {r : List Str} (e : ¬ c = ("alike" : Str)) : gY ks (c :: r) = ks := by
 cases r with
 | nil => rfl
 | cons x r =>
  cases r with
  | nil => rfl
  | cons y r => simp [gY, e]
theorem zP {q : PV} : ∀ (rs : List (List Str)) (ks : List (Str × Str)), (∀ ws ∈ rs, ws ≠ []) -> (∀ r, (("alike" : Str) :: r) ∈ rs -> 2 <= r.length) -> ks.length + rs.length < 1000000 ->
  bQ (gN 2) [2] d_ (cj rs) [some q, some (.dT (sdT ks)), none] = some (.nx [some q, some (.dT (sdT (rs.foldl gY ks))), none])
 | [], ks, _, _, _ => rfl
 | [] :: rs, ks, hne, _, _ => absurd rfl (hne [] List.mem_cons_self)
 | (c :: r) :: rs, ks, hne, hal, h => by
  have hk : (sdT ks).length < 1000000 := by rw [Do]; omega
  have key : d_ [some q, some (.dT (sdT ks)), some (bR (c :: r))] = some (.nx [some q, some (.dT (sdT (gY ks (c :: r)))), some (bR (c :: r))]) := by
   by_cases e : c = ("alike" : Str)
   ·subst e
    have h2 := hal r List.mem_cons_self
    match r, h2 with
    | x :: y :: r, _ =>
     have h0 : atI (((("alike" : Str) :: x :: y :: r)).map PV.str) 0 = some (.str "alike") := b_ (k := 0) rfl
     have h1 : atI (((("alike" : Str) :: x :: y :: r)).map PV.str) 1 = some (.str x) := b_ (k := 1) rfl
     have h2 : atI (((("alike" : Str) :: x :: y :: r)).map PV.str) 2 = some (.str y) := b_ (k := 2) rfl
     have hp := Ld ks (x, y)
     simp only [List.map_cons] at h0 h1 h2
     simp only [pk] at hp
     simp [d_, bR, h0, h1, h2, hk, gY, hp]
   ·have h0 : atI ((c :: r).map PV.str) 0 = some (.str c) := b_ (k := 0) rfl
    simp only [List.map_cons] at h0
    simp [d_, bR, h0, e, Aq e]
  have hl := zO ks (c :: r)
  have ih := zP (q := q) rs (gY ks (c :: r)) (fun ws hws => hne ws (List.mem_cons_of_mem _ hws)) (fun r hr => hal r (List.mem_cons_of_mem _ hr)) (by simp at h; omega)
  rw [List.foldl_cons, ← ih]
  show bQ (gN 2) [2] d_ (bR (c :: r) :: cj rs) _ = _
  simp [bQ, key]
theorem Ih {rs : List (List Str)} (hne : ∀ ws ∈ rs, ws ≠ []) (hal : ∀ r, (("alike" : Str) :: r) ∈ rs -> 2 <= r.length) (h : rs.length < 1000000) : fL [.lst (cj rs)] = some (.dT (sdT (likes rs))) := by
 have hl := zP (q := .lst (cj rs)) rs [] hne hal (by simpa using h)
 have e : ([] : List (List Key × PV)) = sdT [] := rfl
 simp [fL, qO, e, hl, likes]
end My
namespace My
open PySem
def isAt (x : Str) (c i : Nat) : Bool := decide (x.cps.toList[i]? = some c)
theorem wk (x : Str) (c limit : Nat) : ∀ (n a : Nat) (st : Array Nat × Nat), st.2 <= a -> st.1.size + n <= limit ->
  (forIn (List.range' a n) st (StrLaws.occBody x ⟨#[c]⟩ x.length limit)).run.fst.toList = st.1.toList ++ (List.range' a n).filter (isAt x c)
 | 0, a, st, _, _ => by simp
 | n + 1, a, st, h1, h2 => by
  rw [List.range'_succ, List.forIn_cons]
  unfold StrLaws.occBody
  have hs := StrLaws.subAt_one x c a
  by_cases h : x.cps.toList[a]? = some c
  ·obtain ⟨h3, h4⟩ := hs.mpr h
   rw [if_pos ⟨⟨⟨by omega, h1⟩, h3⟩, h4⟩]
   have ih := wk x c limit n (a + 1) (st.1.push a, a + (⟨#[c]⟩ : Str).length) (by show a + 1 <= a + 1; omega) (by simp; omega)
   show (forIn (List.range' (a + 1) n) (st.1.push a, a + (⟨#[c]⟩ : Str).length) (StrLaws.occBody x ⟨#[c]⟩ x.length limit)).run.fst.toList = _
   rw [ih, List.filter_cons]
   have hi : isAt x c a = true := by simp [isAt, h]
   rw [if_pos hi]
   simp
  ·rw [if_neg (fun z => h (hs.mp ⟨z.1.2, z.2⟩))]
   have ih := wk x c limit n (a + 1) (st.1, st.2) (by show st.2 <= a + 1; omega) (by show st.1.size + n <= limit; omega)
   show (forIn (List.range' (a + 1) n) (st.1, st.2) (StrLaws.occBody x ⟨#[c]⟩ x.length limit)).run.fst.toList = _
   rw [ih, List.filter_cons]
   have hi : isAt x c a = false := decide_eq_false h
   rw [if_neg (by rw [hi]; exact Bool.false_ne_true)]
theorem Le (x : Str) (c : Nat) : Builtin.Str.occurrences x ⟨#[c]⟩ 0 x.length (x.length + 1) = (List.range' 0 (x.length + 1)).filter (isAt x c) := by
 rw [StrLaws.occ_eq, wk x c (x.length + 1) (x.length + 1 - 0) 0 (#[], 0) (Nat.le_refl _) (by simp)]
 simp
def spl (c : Nat) : List Nat -> List (List Nat)
 | [] => [[]]
 | a :: l => if a = c then [] :: spl c l else match spl c l with
  | p :: ps => (a :: p) :: ps
  | [] => [[a]]
theorem vB (c : Nat) : ∀ l : List Nat, ∃ p ps, spl c l = p :: ps
 | [] => ⟨_, _, rfl⟩
 | a :: l => by
  obtain ⟨p, ps, e⟩ := vB c l
  unfold spl
  split
  ·exact ⟨_, _, rfl⟩
  ·rw [e]; exact ⟨_, _, rfl⟩
def glue (w : List Nat) : List (List Nat) -> List (List Nat)
 | p :: ps => (w ++ p) :: ps
 | [] => [w]
theorem lW (x : Str) (c : Nat) : ∀ (n a b : Nat), b + n = x.length -> a <= b -> (StrLaws.partsFrom x 1 a ((List.range' b (n + 1)).filter (isAt x c))).map (fun p => p.cps.toList) = glue ((x.cps.toList.drop a).take (b - a)) (spl c (x.cps.toList.drop b))
 | 0, a, b, h, hab => by
  have hl : x.cps.toList.length = x.length := Array.length_toList
  have hi : isAt x c b = false := by
   unfold isAt
   rw [List.getElem?_eq_none (by omega)]
   simp
  rw [List.range'_succ, List.filter_cons, if_neg (by rw [hi]; exact Bool.false_ne_true)]
  simp only [List.range'_zero, List.filter_nil, StrLaws.partsFrom, List.map_cons, List.map_nil]
  rw [StrLaws.strSub_toList, List.drop_eq_nil_of_le (by omega : x.cps.toList.length <= b)]
  simp only [spl, glue, List.append_nil]
  rw [show x.length - a = b - a by omega]
 | n + 1, a, b, h, hab => by
  have hl : x.cps.toList.length = x.length := Array.length_toList
  have hb : b < x.cps.toList.length := by omega
  rw [List.range'_succ, List.filter_cons]
  have ed : x.cps.toList.drop b = x.cps.toList[b] :: x.cps.toList.drop (b + 1) := List.drop_eq_getElem_cons hb
  by_cases hc : x.cps.toList[b] = c
  ·have hi : isAt x c b = true := by
    unfold isAt
    rw [List.getElem?_eq_getElem hb, hc]
    simp
   rw [if_pos hi]
   have ih := lW x c n (b + 1) (b + 1) (by omega) (Nat.le_refl _)
   simp only [StrLaws.partsFrom, List.map_cons]
   rw [ih, StrLaws.strSub_toList, ed]
   obtain ⟨p, ps, e⟩ := vB c (x.cps.toList.drop (b + 1))
   simp only [spl, if_pos hc, e, glue, Nat.sub_self, List.take_zero, List.nil_append, List.append_nil]
  ·have hi : isAt x c b = false := by
    unfold isAt
    rw [List.getElem?_eq_getElem hb]
    exact decide_eq_false fun z => hc (Option.some.inj z)
   rw [if_neg (by rw [hi]; exact Bool.false_ne_true)]
   have ih := lW x c n a (b + 1) (by omega) (by omega)
   rw [ih, ed]
   obtain ⟨p, ps, e⟩ := vB c (x.cps.toList.drop (b + 1))
   simp only [spl, if_neg hc, e, glue]
   have e2 : (x.cps.toList.drop a).take (b + 1 - a) = (x.cps.toList.drop a).take (b - a) ++ [x.cps.toList[b]] := by
    rw [show b + 1 - a = (b - a) + 1 by omega, List.take_add_one, List.getElem?_drop, show a + (b - a) = b by omega, List.getElem?_eq_getElem hb]
    rfl
   rw [e2]
   simp
theorem zQ {c : Nat} : ∀ {l : List Nat}, c ∉ l -> spl c l = [l]
 | [], _ => rfl
 | a :: l, h => by
  have h1 : ¬ a = c := fun e => h (by simp [e])
  have h2 : c ∉ l := fun e => h (List.mem_cons_of_mem _ e)
  unfold spl
  rw [if_neg h1, zQ h2]
theorem BW {c : Nat} {r : List Nat} : ∀ {l : List Nat}, c ∉ l -> spl c (l ++ c :: r) = l :: spl c r
 | [], _ => by simp [spl]
 | a :: l, h => by
  have h1 : ¬ a = c := fun e => h (by simp [e])
  have h2 : c ∉ l := fun e => h (List.mem_cons_of_mem _ e)
  rw [List.cons_append]
  have e := BW (r := r) h2
  show (if a = c then [] :: spl c (l ++ c :: r) else match spl c (l ++ c :: r) with | p :: ps => (a :: p) :: ps | [] => [[a]]) = _
  rw [if_neg h1, e]
def mkS (l : List Nat) : Str := ⟨l.toArray⟩
theorem my (x : Str) : mkS x.cps.toList = x := by
 unfold mkS
 simp
theorem blank_eq : (" " : Str) = ⟨#[32]⟩ := by decide +kernel
theorem Dp (x : Str) : (decide (x.length < (⟨#[32]⟩ : Str).length) || decide (Builtin.Str.strKind x < Builtin.Str.strKind ⟨#[32]⟩)) = true -> x.length = 0 := by
 intro h
 rw [Bool.or_eq_true] at h
 rcases h with h | h
 ·have h' := of_decide_eq_true h
  have : (⟨#[32]⟩ : Str).length = 1 := rfl
  omega
 ·exfalso
  have h' := of_decide_eq_true h
  have e : Builtin.Str.strKind ⟨#[32]⟩ = Builtin.Str.strKind ⟨#[32]⟩ := rfl
  revert h'
  unfold Builtin.Str.strKind
  simp
  split
  ·simp
  ·split <;> simp
theorem rQ (x : Str) : Txt.split x (" " : Str) = (spl 32 x.cps.toList).map mkS := by
 rw [blank_eq]
 have hl : x.cps.toList.length = x.length := Array.length_toList
 have key : (StrLaws.partsFrom x 1 0 (Builtin.Str.occurrences x ⟨#[32]⟩ 0 x.length (x.length + 1))).map (fun p => p.cps.toList) = spl 32 x.cps.toList := by
  rw [Le]
  have h := lW x 32 x.length 0 0 (by omega) (Nat.le_refl _)
  rw [h]
  obtain ⟨p, ps, e⟩ := vB 32 x.cps.toList
  simp [glue, e]
 have key2 : StrLaws.partsFrom x 1 0 (Builtin.Str.occurrences x ⟨#[32]⟩ 0 x.length (x.length + 1)) = (spl 32 x.cps.toList).map mkS := by
  rw [← key, List.map_map]
  have : (mkS ∘ fun (p : Str) => p.cps.toList) = id := by
   funext p
   exact my p
  rw [this, List.map_id]
 unfold Txt.split
 split
 ·rename_i h
  have h0 := Dp x h
  have : x.cps.toList = [] := List.length_eq_zero_iff.mp (by omega)
  rw [this]
  simp only [spl, List.map_cons, List.map_nil]
  rw [← this, my]
 ·split
  ·rename_i h2
   have e0 : Builtin.Str.occurrences x ⟨#[32]⟩ 0 x.length (x.length + 1) = [] := List.isEmpty_iff.mp h2
   rw [← key2, e0]
   simp only [StrLaws.partsFrom]
   rw [StrLaws.sub_whole]
  ·rw [StrLaws.partsBetween_eq]
   exact key2
def dB (x : Str) : Prop := 32 ∉ x.cps.toList
theorem Dq {x : Str} (h : dB x) : Txt.split x (" " : Str) = [x] := by
 rw [rQ, zQ h]
 simp [my]
theorem vC {w r : Str} (h : dB w) : Txt.split (w ++ (" " : Str) ++ r) (" " : Str) = w :: Txt.split r (" " : Str) := by
 rw [rQ, rQ, blank_eq]
 have e : (w ++ (⟨#[32]⟩ : Str) ++ r).cps.toList = w.cps.toList ++ 32 :: r.cps.toList := by
  rw [Str.cps_append, Str.cps_append]
  simp
 rw [e, BW h, List.map_cons, my]
theorem vD : ∀ {zs : List Str}, zs ≠ [] -> (∀ z ∈ zs, dB z) -> Txt.split (Str.join (" " : Str) zs) (" " : Str) = zs
 | [], h, _ => absurd rfl h
 | [z], _, h => Dq (h z (by simp))
 | z :: y :: r, _, h => by
  show Txt.split (z ++ (" " : Str) ++ Str.join (" " : Str) (y :: r)) (" " : Str) = _
  rw [vC (h z (by simp)), vD (by simp) fun x hx => h x (List.mem_cons_of_mem _ hx)]
end My
namespace My
open PySem L2 MR
def j_ (z : Str) : List Str := Txt.split z (" " : Str)
def aH (cut : List (List Str)) : List Str := tell ("carry" : Str) (cut.filter fD)
def pairsOf (cut : List (List Str)) : List Str := tell ("one" : Str) (cut.filter (iK (inS (aH cut))))
def aF (cut : List (List Str)) : List (Str × PV) := [("carrying", .dK (sdP (aH cut))), ("pairs", .dK (sdP (pairsOf cut))), ("longs", .dK (sdP (tell ("long" : Str) cut))), ("eithers", .dK (sdP (tell ("either" : Str) cut))),
 ("beginnings", .dK (sdP (tell ("begin" : Str) cut))), ("splittings", .dK (sdP (tell ("split" : Str) cut))), ("running", .str (tY cut)), ("likes", .dT (sdT (likes cut)))]
theorem Q9 (a : PV) : List.lookup ("carrying" : Str) (pF "carrying" a []) = some a := rfl
theorem Q_ (a b : PV) : List.lookup ("carrying" : Str) (pF "pairs" b (pF "carrying" a [])) = some a := rfl
theorem Ra (a b : PV) : List.lookup ("pairs" : Str) (pF "pairs" b (pF "carrying" a [])) = some b := rfl
theorem Pj {C : Str -> Bool} {cs r : List Str} (h : cF C cs (("run" : Str) :: r) = true) : r ≠ [] := by
 intro e
 subst e
 have : cF C cs [("run" : Str)] = false := by
  dsimp only [cF]
  rw [if_neg (by decide +kernel), if_neg (by decide +kernel), if_neg (by decide +kernel), if_neg (by decide +kernel), if_pos rfl]
  rfl
 rw [this] at h; cases h
theorem Ii {C : Str -> Bool} {cs r : List Str} (h : cF C cs (("alike" : Str) :: r) = true) : 2 <= r.length := by
 dsimp only [cF] at h
 rw [if_neg (by decide +kernel), if_neg (by decide +kernel), if_neg (by decide +kernel), if_neg (by decide +kernel), if_neg (by decide +kernel)] at h
 simp [jb] at h
 omega
theorem kh (p : List Str -> Bool) : ∀ rs : List (List Str), total (rs.filter p) <= total rs
 | [] => Nat.le_refl _
 | ws :: rs => by
  have ih := kh p rs
  unfold total at *
  rw [List.filter_cons]
  split <;> simp <;> omega
theorem zR (kind : Str) (rs : List (List Str)) : (tell kind rs).length <= total rs := by
 have := w6 (kind := kind) rs []
 simpa [tell] using this
structure RowsOk (cut : List (List Str)) : Prop where
 n : cut.length <= 1000
 few : ∀ ws ∈ cut, ws ≠ [] /\ Few ws
 tot : total cut <= 100000
 good : ∀ ws ∈ cut, cF (inS (aH cut)) (aH cut ++ pairsOf cut) ws = true
theorem Lf {zs : List Str} (hz : ∀ z ∈ zs, z.length <= 1000) (R : RowsOk (zs.map j_)) : cD [.lst (zs.map .str)] = some (aF (zs.map j_)) := by
 have c1 : bz [none] (gN 0) aU eE (zs.map .str) = some (cj (zs.map j_)) := by
  have h := bx (env := [none]) (g := gN 0) (f := eE) PV.str (fun z => bR (j_ z)) zs fun y hy => ⟨_, rfl, by
   have h1 : y.length <= 1000000 := by have := hz y hy; omega
   have h2 : ¬ (Str.ofString " ").length = 0 := by decide +kernel
   simp [eE, h1, h2, bR, j_]⟩
  rw [h]
  unfold cj
  rw [List.map_map]
  rfl
 have hlz : zs.length <= 1000000 := by have := R.n; rw [List.length_map] at this; omega
 generalize hcut : zs.map j_ = cut at *
 have hlc : (cj cut).length <= 1000000 := by unfold cj; rw [List.length_map]; have := R.n; omega
 have c2 : bz [none] (gN 0) gj gh (cj cut) = some (cj (cut.filter fD)) :=
  cR bR bR fD cut fun ws hws => by
   obtain ⟨hne, hf⟩ := R.few ws hws
   cases ws with
   | nil => exact absurd rfl hne
   | cons w r =>
    have := zJ hf
    exact ⟨_, rfl, by simp [gj, bR] at this ⊢; simp [this], fun _ => by simp [gh]⟩
 have ne : ∀ ws ∈ cut, ws ≠ [] := fun ws h => (R.few ws h).1
 have nef : ∀ p : List Str -> Bool, ∀ ws ∈ cut.filter p, ws ≠ [] := fun p ws h => ne ws (List.mem_filter.mp h).1
 have tf : ∀ p : List Str -> Bool, total (cut.filter p) < 1000000 := fun p => by have := kh p cut; have := R.tot; omega
 have t0 : total cut < 1000000 := by have := R.tot; omega
 have k1 : bf [.str "carry", .lst (cj (cut.filter fD))] = some (.dK (sdP (aH cut))) := mG (nef _) (tf _)
 have hC : (aH cut).length <= 100000 := by have h1 := zR ("carry" : Str) (cut.filter fD); have h2 := kh fD cut; have := R.tot; unfold aH; omega
 have hP : (pairsOf cut).length <= 100000 := by have h1 := zR ("one" : Str) (cut.filter (iK (inS (aH cut)))); have h2 := kh (iK (inS (aH cut))) cut; have := R.tot; unfold pairsOf; omega
 have c3 : bz [none, some (.obj 0 (pF "carrying" (.dK (sdP (aH cut))) []))] (gN 0) gn gk (cj cut) = some (cj (cut.filter (iK (inS (aH cut))))) :=
  cR bR bR (iK (inS (aH cut))) cut fun ws hws => by
   obtain ⟨hne, hf⟩ := R.few ws hws
   cases ws with
   | nil => exact absurd rfl hne
   | cons w r =>
    have := Gi (ks := aH cut) hf
    exact ⟨_, rfl, by simp [gn, bR, Q9] at this ⊢; simp [this], fun _ => by simp [gk]⟩
 have k2 : bf [.str "one", .lst (cj (cut.filter (iK (inS (aH cut)))))] = some (.dK (sdP (pairsOf cut))) := mG (nef _) (tf _)
 have l6 : ∀ q : PV, bQ (gT [3, 4]) [3, 4] gq (dX 0 (cj cut)) [some (.obj 0 (pF "pairs" (.dK (sdP (pairsOf cut))) (pF "carrying" (.dK (sdP (aH cut))) []))), some q, some (.lst (cj cut)), none, none] =
   some (.nx [some (.obj 0 (pF "pairs" (.dK (sdP (pairsOf cut))) (pF "carrying" (.dK (sdP (aH cut))) []))), some q, some (.lst (cj cut)), none, none]) := fun q => by
  unfold cj
  rw [rK]
  refine vo _ _ fun y hy => ?_
  have hm : y.1 ∈ cut := by
   have := List.mem_zipIdx' hy
   rw [this.2]
   exact List.getElem_mem _
  obtain ⟨hne, hf⟩ := R.few _ hm
  have hg := R.good _ hm
  obtain ⟨ws, i⟩ := y
  cases ws with
  | nil => exact absurd rfl hne
  | cons w r =>
   have := La (ks := aH cut) (ps := pairsOf cut) hf hC hP
   rw [hg] at this
   simp only [List.map_cons] at this
   exact ⟨_, _, rfl, by simp [gq, bR, Q_, Ra, this]; rfl, by simp⟩
 have k3 : bf [.str "long", .lst (cj cut)] = some (.dK (sdP (tell ("long" : Str) cut))) := mG ne t0
 have k4 : bf [.str "either", .lst (cj cut)] = some (.dK (sdP (tell ("either" : Str) cut))) := mG ne t0
 have k5 : bf [.str "begin", .lst (cj cut)] = some (.dK (sdP (tell ("begin" : Str) cut))) := mG ne t0
 have k6 : bf [.str "split", .lst (cj cut)] = some (.dK (sdP (tell ("split" : Str) cut))) := mG ne t0
 have k7 : iu [.lst (cj cut)] = some (.str (tY cut)) := Ph ne fun r h => Pj (R.good _ h)
 have k8 : fL [.lst (cj cut)] = some (.dT (sdT (likes cut))) := Ih ne (fun r h => Ii (R.good _ h)) (by have := R.n; omega)
 have m1 : ∀ a : PV, (pF "carrying" a []).length < 1000 := fun a => by show 1 < 1000; decide
 have m2 : ∀ a b : PV, (pF "pairs" b (pF "carrying" a [])).length < 1000 := fun a b => by show 2 < 1000; decide
 have m3 : ∀ a b c : PV, (pF "longs" c (pF "pairs" b (pF "carrying" a []))).length < 1000 := fun a b c => by show 3 < 1000; decide
 have m4 : ∀ a b c d : PV, (pF "eithers" d (pF "longs" c (pF "pairs" b (pF "carrying" a [])))).length < 1000 := fun a b c d => by show 4 < 1000; decide
 have m5 : ∀ a b c d e : PV, (pF "beginnings" e (pF "eithers" d (pF "longs" c (pF "pairs" b (pF "carrying" a []))))).length < 1000 := fun a b c d e => by show 5 < 1000; decide
 have m6 : ∀ a b c d e f : PV, (pF "splittings" f (pF "beginnings" e (pF "eithers" d (pF "longs" c (pF "pairs" b (pF "carrying" a [])))))).length < 1000 := fun a b c d e f => by show 6 < 1000; decide
 have m7 : ∀ a b c d e f g : PV, (pF "running" g (pF "splittings" f (pF "beginnings" e (pF "eithers" d (pF "longs" c (pF "pairs" b (pF "carrying" a []))))))).length < 1000 := fun a b c d e f g => by show 7 < 1000; decide
 have fin : ∀ a b c d e f g h : PV, pF "likes" h (pF "running" g (pF "splittings" f (pF "beginnings" e (pF "eithers" d (pF "longs" c (pF "pairs" b (pF "carrying" a []))))))) = ([("carrying", a), ("pairs", b), ("longs", c), ("eithers", d), ("beginnings", e), ("splittings", f), ("running", g), ("likes", h)] : List (Str × PV)) := fun a b c d e f g h => rfl
 unfold aF
 simp [cD, kW, c1, hlz, c2, hlc, k1, m1, c3, k2, m2, l6, k3, m3, k4, m4, k5, m5, k6, m6, k7, m7, k8, fin]
theorem Dr (cut : List (List Str)) : List.lookup ("carrying" : Str) (aF cut) = some (.dK (sdP (aH cut))) := rfl
theorem Lh (cut : List (List Str)) : List.lookup ("pairs" : Str) (aF cut) = some (.dK (sdP (pairsOf cut))) := rfl
theorem BZ (cut : List (List Str)) : List.lookup ("likes" : Str) (aF cut) = some (.dT (sdT (likes cut))) := rfl
end My
namespace My
open PySem L2 MR
def cell (ns : List Int) (k : Nat) : Int := ns.getD k 0
theorem pK (ns : List Int) (k : Nat) : aP [.frz (ns.map PV.int), .int k] = some (.int (cell ns k)) := by
 by_cases h : k < ns.length
 ·have h1 : atI (ns.map PV.int) (k : Int) = some (.int ns[k]) := b_ (by simp [h])
  simp [aP, j4, h, h1, cell]
 ·simp [aP, j4, h, cell]
def stp (c : Int) : Int := [1, 3, 5, 7, 9, 11, 15, 17].getD (c / 26 % 8).toNat 0
def ltn (c k : Int) : Nat := 97 + ((c + k * stp c) % 26).toNat
def letter (c k : Int) : Str := ⟨#[ltn c k]⟩
theorem Ds (a : Int) : 0 <= a % 8 /\ a % 8 < 8 /\ (a % 8).toNat < 8 := ⟨by omega, by omega, by omega⟩
theorem Lj : ∀ n : Fin 8, ∃ s ∈ [1, 3, 5, 7, 9, 11, 15, 17], ([1, 3, 5, 7, 9, 11, 15, 17] : List Int).getD n.val 0 = ((s : Nat) : Int) := by decide +kernel
theorem B_ (c : Int) : ∃ s : Nat, s ∈ [1, 3, 5, 7, 9, 11, 15, 17] /\ stp c = (s : Int) := Lj ⟨_, (Ds (c / 26)).2.2⟩
theorem Pk (c : Int) : atI [PV.int 1, .int 3, .int 5, .int 7, .int 9, .int 11, .int 15, .int 17] (c / 26 % 8) = some (.int (stp c)) := by
 rw [tL (Ds _).1 (Ds _).2.1]
 have h := (Ds (c / 26)).2.2
 unfold stp
 generalize (c / 26 % 8).toNat = n at h
 have e : ([PV.int 1, .int 3, .int 5, .int 7, .int 9, .int 11, .int 15, .int 17] : List PV) = ([1, 3, 5, 7, 9, 11, 15, 17] : List Int).map .int := rfl
 rw [e, List.getElem?_map, List.getD_eq_getElem?_getD, List.getElem?_eq_getElem (l := ([1, 3, 5, 7, 9, 11, 15, 17] : List Int)) h]
 rfl
theorem Pn (c : Int) : smI (stp c) = true := by
 obtain ⟨s, hs, e⟩ := B_ c
 have h17 : ∀ s ∈ [1, 3, 5, 7, 9, 11, 15, 17], s <= 17 := by decide
 have := h17 s hs
 rw [e]
 exact rA (by omega) (by omega)
theorem Pq {i : Int} (h0 : 0 <= i) (h1 : i < 26) : atI (LET : Str).cps.toList i = some (97 + i.toNat) := by
 have hl : (LET : Str).cps.toList.length = 26 := by decide +kernel
 rw [tL h0 (by rw [hl]; exact h1)]
 have h : i.toNat < 26 := by omega
 generalize i.toNat = n at h
 have key : ∀ n : Fin 26, (LET : Str).cps.toList[n.val]? = some (97 + n.val) := by decide +kernel
 exact key ⟨n, h⟩
theorem tZ (c k : Int) : bB [.int c, .int k] = some (.str (letter c k)) := by
 have h1 := Pk c
 have hs := Pn c
 have h2 : atI (Str.ofString "abcdefghijklmnopqrstuvwxyz").cps.toList ((c + k * stp c) % 26) = some (ltn c k) := Pq (by omega) (by omega)
 have h3 : (Str.ofString "abcdefghijklmnopqrstuvwxyz").length <= 1000000 := by decide +kernel
 simp [bB, pH, h1, hs, h2, h3, letter]
theorem Du (c k : Int) : (letter c k).length = 1 := rfl
theorem jN (c k : Int) : 97 <= ltn c k /\ ltn c k < 123 := by unfold ltn; omega
theorem Lk : ∀ s ∈ [1, 3, 5, 7, 9, 11, 15, 17], ∀ j k : Fin 26, (j.val * s) % 26 = (k.val * s) % 26 -> j = k := by decide +kernel
theorem zT {c a b : Int} (h : (c + a) % 26 = (c + b) % 26) : a % 26 = b % 26 := by omega
theorem Gk {a b : Nat} (h : (a : Int) % 26 = (b : Int) % 26) : a % 26 = b % 26 := by omega
theorem Rb {a b : Int} (h : 97 + (a % 26).toNat = 97 + (b % 26).toNat) : a % 26 = b % 26 := by omega
theorem Ln {c j k : Int} (h0 : 0 <= j) (h1 : j < 26) (h2 : 0 <= k) (h3 : k < 26) (h : ltn c j = ltn c k) : j = k := by
 unfold ltn at h
 have h' := zT (Rb h)
 obtain ⟨s, hs, e⟩ := B_ c
 rw [e] at h'
 obtain ⟨a, rfl⟩ := Int.eq_ofNat_of_zero_le h0
 obtain ⟨b, rfl⟩ := Int.eq_ofNat_of_zero_le h2
 have h5 := Lk s hs ⟨a, Int.ofNat_lt.mp h1⟩ ⟨b, Int.ofNat_lt.mp h3⟩ (Gk (by exact_mod_cast h'))
 exact congrArg Int.ofNat (Fin.mk.inj h5)
theorem qe {c j k : Int} (h0 : 0 <= j) (h1 : j < 26) (h2 : 0 <= k) (h3 : k < 26) (h : letter c j = letter c k) : j = k := by
 refine Ln (c := c) h0 h1 h2 h3 ?_
 unfold letter at h
 have := congrArg (fun s : Str => s.cps.toList) h
 simpa using this
theorem qU {n : Nat} (h : 97 <= n) (h' : n < 123) : isLetter ⟨#[n]⟩ = true := by
 have key : ∀ m : Fin 26, isLetter ⟨#[97 + m.val]⟩ = true := by decide +kernel
 have := key ⟨n - 97, by omega⟩
 rwa [show 97 + (n - 97) = n by omega] at this
theorem kj (c k : Int) : isLetter (letter c k) = true := qU (jN c k).1 (jN c k).2
def mx (c : Int) (k : Nat) : Int := (c % 1000003 * (48271 + 15838 * k * k) + 69621 * k) % 2147483647
theorem Rf (c : Int) (k : Nat) : 0 <= mx c k := by unfold mx; omega
theorem rR (c : Int) {k : Nat} (h : k <= 1000) : dq [.int c, .int k] = some (.int (mx c k)) := by
 have h1 : smI 15838 = true := rA (by decide) (by decide)
 have h2 : smI (k : Int) = true := rA (by omega) (by omega)
 have h3 : smI (c % 1000003) = true := rA (by omega) (by omega)
 have h4 : smI 69621 = true := rA (by decide) (by decide)
 simp [dq, uq, h1, h2, h3, h4, mx]
def dg (n : Int) (k : Nat) : Int := n / ([4, 8, 28, 128].getD k 1) % ([2, 5].getD (n / 3 % 2).toNat 1)
theorem Ij (n : Int) (k : Nat) : 0 <= dg n k /\ dg n k < 5 := by
 unfold dg
 have h : (n / 3 % 2).toNat < 2 := by omega
 generalize (n / 3 % 2).toNat = m at h
 match m, h with
 | 0, _ => constructor <;> simp <;> omega
 | 1, _ => constructor <;> simp <;> omega
def lq (b : Int) (many : Int) (n : Int) : Str := (List.range (2 + n % 3).toNat).foldl (fun s k => s ++ letter b (many + dg n k)) ⟨#[]⟩
theorem xG (b many n : Int) : ∀ (l : List Nat) (s : Str), (l.foldl (fun s k => s ++ letter b (many + dg n k)) s).cps.toList = s.cps.toList ++ l.map fun k => ltn b (many + dg n k)
 | [], s => by simp
 | k :: l, s => by
  rw [List.foldl_cons, xG b many n l, List.map_cons]
  have : (s ++ letter b (many + dg n k)).cps.toList = s.cps.toList ++ [ltn b (many + dg n k)] := by
   rw [Str.cps_append]
   simp [letter]
  rw [this]; simp
theorem qg (b many n : Int) : (lq b many n).cps.toList = (List.range (2 + n % 3).toNat).map fun k => ltn b (many + dg n k) := by
 unfold lq
 rw [xG]
 simp
theorem uK (b many n : Int) : (lq b many n).length = (2 + n % 3).toNat := by
 have h := congrArg List.length (qg b many n)
 rw [Array.length_toList, List.length_map, List.length_range] at h
 exact h
theorem Ca (b many n : Int) : d9 [.int b, .int many, .int n] = some (.str (lq b many n)) := by
 have hr : rgI (2 + n % 3) = true := rG (by omega) (by omega)
 have gen : ∀ (l : List Nat) (s : Str), (∀ k ∈ l, k < 4) -> s.length + l.length <= 1000 -> bQ (gN 4) [4] jh (l.map fun k => PV.int (k : Nat)) [some (.int b), some (.int many), some (.int n), some (.str s), none] =
   some (.nx [some (.int b), some (.int many), some (.int n), some (.str (l.foldl (fun s k => s ++ letter b (many + dg n k)) s)), none]) := by
  intro l
  induction l with
  | nil => intro s _ _; rfl
  | cons k l ih =>
   intro s hk hl
   have hk4 : k < 4 := hk k List.mem_cons_self
   have e1 : atI [PV.int 4, .int 8, .int 28, .int 128] (k : Int) = some (.int ([4, 8, 28, 128].getD k 1)) := by
    match k, hk4 with
    | 0, _ => rfl
    | 1, _ => rfl
    | 2, _ => rfl
    | 3, _ => rfl
   have e2 : 0 < ([4, 8, 28, 128] : List Int).getD k 1 /\ ([4, 8, 28, 128] : List Int).getD k 1 < 1073741824 := by
    match k, hk4 with
    | 0, _ => decide
    | 1, _ => decide
    | 2, _ => decide
    | 3, _ => decide
   have e3 : atI [PV.int 2, .int 5] (n / 3 % 2) = some (.int ([2, 5].getD (n / 3 % 2).toNat 1)) := by
    rw [tL (by omega) (by show n / 3 % 2 < 2; omega)]
    have h : (n / 3 % 2).toNat < 2 := by omega
    generalize (n / 3 % 2).toNat = m at h
    match m, h with
    | 0, _ => rfl
    | 1, _ => rfl
   have e4 : 0 < ([2, 5] : List Int).getD (n / 3 % 2).toNat 1 := by
    have h : (n / 3 % 2).toNat < 2 := by omega
    generalize (n / 3 % 2).toNat = m at h
    match m, h with
    | 0, _ => decide
    | 1, _ => decide
   have e5 := tZ b (many + dg n k)
   have e6 : s.length + (letter b (many + dg n k)).length <= 1000000 := by rw [Du]; simp at hl; omega
   have ih' := ih (s ++ letter b (many + dg n k)) (fun j hj => hk j (List.mem_cons_of_mem _ hj)) (by
    have : (s ++ letter b (many + dg n k)).length = s.length + 1 := by
     unfold Str.length
     rw [Str.cps_append]
     simp [letter]
    rw [this]; simp at hl; omega)
   rw [List.foldl_cons, ← ih']
   have ed : dg n k = n / ([4, 8, 28, 128].getD k 1) % ([2, 5].getD (n / 3 % 2).toNat 1) := rfl
   generalize ([4, 8, 28, 128] : List Int).getD k 1 = u at e1 e2 ed
   generalize ([2, 5] : List Int).getD (n / 3 % 2).toNat 1 = v at e3 e4 ed
   rw [ed] at e5 e6 ⊢
   simp [bQ, jh, e1, e2, e3, e4, e5, e6]
 have hl : (List.range (2 + n % 3).toNat).length = (2 + n % 3).toNat := List.length_range
 have g := gen (List.range (2 + n % 3).toNat) ⟨#[]⟩ (fun k hk => by have := List.mem_range.mp hk; omega) (by rw [hl]; show 0 + _ <= 1000; omega)
 have er : eX 0 (2 + n % 3) = (List.range (2 + n % 3).toNat).map fun k => PV.int (k : Nat) := by
  unfold eX
  simp
 have ee : (Str.ofString "") = ⟨#[]⟩ := by decide +kernel
 simp [d9, nZ, hr, er, ee, g, lq]
end My
namespace My
open PySem L2 MR
section
variable {α : Type} (a b c d e f g h : α) (l : List α)
@[simp] theorem at0 : atI (a :: l) 0 = some a := b_ (k := 0) rfl
@[simp] theorem at1 : atI (a :: b :: l) 1 = some b := b_ (k := 1) rfl
@[simp] theorem at2 : atI (a :: b :: c :: l) 2 = some c := b_ (k := 2) rfl
@[simp] theorem at3 : atI (a :: b :: c :: d :: l) 3 = some d := b_ (k := 3) rfl
@[simp] theorem at4 : atI (a :: b :: c :: d :: e :: l) 4 = some e := b_ (k := 4) rfl
@[simp] theorem at5 : atI (a :: b :: c :: d :: e :: f :: l) 5 = some f := b_ (k := 5) rfl
@[simp] theorem at6 : atI (a :: b :: c :: d :: e :: f :: g :: l) 6 = some g := b_ (k := 6) rfl
@[simp] theorem at7 : atI (a :: b :: c :: d :: e :: f :: g :: h :: l) 7 = some h := b_ (k := 7) rfl
end
@[simp] def nxt (ds : List Nat) : Option Out -> Option MR.Env
 | some (.nx e) => some (clr ds e)
 | some (.ct e) => some (clr ds e)
 | _ => none
def turn (g : PV -> MR.Env -> Option MR.Env) (ds : List Nat) (body : MR.Env -> Option Out) (x : PV) (env : MR.Env) : Option MR.Env := (g x env).bind fun e => nxt ds (body e)
theorem jO (g : PV -> MR.Env -> Option MR.Env) (ds : List Nat) (body : MR.Env -> Option Out) (x : PV) (env : MR.Env) : turn g ds body x env = (g x env).bind fun e => nxt ds (body e) := id rfl
theorem eY {g : PV -> MR.Env -> Option MR.Env} {ds : List Nat} {body : MR.Env -> Option Out} {x : PV} {xs : List PV} {env env' : MR.Env} (h : turn g ds body x env = some env') : bQ g ds body (x :: xs) env = bQ g ds body xs env' := by
 unfold turn at h
 obtain ⟨e, h1, h2⟩ := aA h
 unfold nxt at h2
 split at h2
 ·rename_i q; cases h2; simp [bQ, h1, q]
 ·rename_i q; cases h2; simp [bQ, h1, q]
 ·cases h2
theorem rT {α S : Type} {g : PV -> MR.Env -> Option MR.Env} {ds : List Nat} {body : MR.Env -> Option Out} (c : α -> PV) (E : S -> MR.Env) (step : S -> α -> S) (sz : S -> Nat) (wt : α -> Nat) (B : Nat) (I : S -> Prop) : ∀ (ys : List α) (s : S), I s -> sz s + (ys.map wt).sum <= B ->
  (∀ y ∈ ys, ∀ s, I s -> sz s + wt y <= B -> sz (step s y) <= sz s + wt y /\ I (step s y) /\ turn g ds body (c y) (E s) = some (E (step s y))) ->
  bQ g ds body (ys.map c) (E s) = some (.nx (E (ys.foldl step s)))
 | [], s, _, _, _ => rfl
 | y :: ys, s, i, hb, hh => by
  simp at hb
  obtain ⟨h0, hI, h1⟩ := hh y List.mem_cons_self s i (by omega)
  have ih := rT c E step sz wt B I ys (step s y) hI (by omega) fun z hz => hh z (List.mem_cons_of_mem _ hz)
  rw [List.map_cons, eY h1, ih, List.foldl_cons]
theorem zU {α : Type} : ∀ ys : List α, (ys.map fun _ => 1).sum = ys.length
 | [] => rfl
 | _ :: ys => by simp [zU ys]; omega
def pick (l : List Str) (i : Int) : Str := l.getD i.toNat ⟨#[]⟩
theorem pL {l : List Str} {i : Int} (h0 : 0 <= i) (h1 : i < l.length) : atI (l.map PV.str) i = some (.str (pick l i)) := by
 have h : i.toNat < l.length := by omega
 rw [tL h0 (by rw [List.length_map]; exact h1), List.getElem?_map]
 unfold pick
 rw [List.getD_eq_getElem?_getD, List.getElem?_eq_getElem h]
 rfl
theorem jE {l : List Str} {i : Int} (h0 : 0 <= i) (h1 : i < l.length) : pick l i ∈ l := by
 have h : i.toNat < l.length := by omega
 unfold pick
 rw [List.getD_eq_getElem?_getD, List.getElem?_eq_getElem h]
 exact List.getElem_mem h
theorem gZ (n : Nat) : eX 0 (n : Int) = (List.range n).map fun k => PV.int (k : Nat) := by
 unfold eX
 simp
theorem uL (n : Nat) : (eX 0 (n : Int)).length = n := by rw [gZ]; simp
structure Rc where
 carriers : List Str
 pairs : List Str
 longs : List Str
 eithers : List Str
 begins : List Str
 splits : List Str
 run : Str
 base : Int
 many : Nat
def aJ (R : Rc) : PV := .tup [bR R.carriers, bR R.pairs, bR R.longs, bR R.eithers, bR R.begins, bR R.splits, .str R.run, .int R.base]
structure Rc.Good (R : Rc) : Prop where
 m1 : 1 <= R.many
 m7 : R.many <= 7
 car : R.carriers = (List.range R.many).map fun k => letter R.base (k : Nat)
 prs : ∀ w ∈ R.pairs, ∃ a ∈ R.carriers, ∃ b ∈ R.carriers, w = a ++ b
 lng : ∀ w ∈ R.longs, w ∈ R.carriers ++ R.pairs
 eth : ∀ w ∈ R.eithers, w ∈ R.carriers ++ R.pairs
 beg : ∀ w ∈ R.begins, ∃ n, w = lq R.base R.many n
 spl : ∀ w ∈ R.splits, ∃ n, w = lq R.base R.many n
 run : R.run = ("" : Str) \/ R.run = ("never" : Str) \/ R.run = ("may" : Str) \/ R.run = ("must" : Str)
 l1 : R.pairs.length <= 3
 l2 : R.longs.length <= 10
 l3 : R.eithers.length <= 10
 l4 : R.begins.length <= 4
 l5 : R.splits.length <= 3
theorem rW {k : Nat} (h : k <= 1000) : rgI (k : Int) = true := rG (by omega) (by omega)
theorem Lp (a : Int) : ∃ k : Nat, 1 + a % 7 = (k : Int) /\ 1 <= k /\ k <= 7 := ⟨(1 + a % 7).toNat, by omega, by omega, by omega⟩
theorem zV (a : Int) : ∃ k : Nat, a % 4 = (k : Int) /\ k <= 3 := ⟨(a % 4).toNat, by omega, by omega⟩
theorem Ik (a : Int) : ∃ k : Nat, a % 5 = (k : Int) /\ k <= 4 := ⟨(a % 5).toNat, by omega, by omega⟩
theorem t7 (a : Int) : 0 <= a % 4 /\ a % 4 < 4 := ⟨by omega, by omega⟩
theorem lr {a b : Nat} (h : a <= b) (hb : b <= 1000) : a <= 1000000 := by omega
theorem Pr {a b : Nat} (h : a + 1 <= b) (hb : b <= 1000) : a < 1000000 := by omega
theorem Il {m : Nat} (h : 1 <= m) : (0 : Int) < (m : Int) := by omega
theorem wu (k : Nat) : (0 : Int) <= (k : Int) := Int.natCast_nonneg k
theorem ww {k m n : Nat} (h : k < m + n) : (k : Int) < ((m + n : Nat) : Int) := Int.ofNat_lt.mpr h
theorem Pu {a b : Nat} (h : a <= 7) (h' : b <= 3) : a + b <= 10 := by omega
theorem t8 {k n : Nat} (h : k < n) (h' : n <= 10) : k <= 1000 := by omega
theorem Gm (ns : List Int) (a : Nat) : ∃ R : Rc, R.Good /\ dJ [.frz (ns.map PV.int), .int a] = some (aJ R) := by
 generalize hx : (fun k : Nat => cell ns (a + k)) = x
 have ex : ∀ k, cell ns (a + k) = x k := fun k => by rw [← hx]
 have c1 : bz [none, some (.frz (ns.map PV.int)), some (.int a)] (gN 0) aU gM (eX 0 6) = some [.int (x 0), .int (x 1), .int (x 2), .int (x 3), .int (x 4), .int (x 5)] := by
  have h := bx (env := [none, some (.frz (ns.map PV.int)), some (.int (a : Int))]) (g := gN 0) (f := gM) (fun k : Nat => PV.int (k : Nat)) (fun k => .int (x k)) (List.range 6) fun k hk => ⟨_, rfl, by
   have h2 := pK ns (a + k)
   rw [Int.natCast_add, ex] at h2
   simp [gM, h2]⟩
  rw [show (6 : Int) = ((6 : Nat) : Int) from rfl, gZ]
  exact h
 have r6 : rgI 6 = true := rG (by decide) (by decide)
 have q6 : (eX 0 6).length <= 1000000 := by decide
 obtain ⟨many, hmany, hm1, hm7⟩ := Lp (x 1)
 have hmp := Il hm1
 have hmn : (many : Int) ≠ 0 := Int.ne_of_gt hmp
 have rm : rgI (many : Int) = true := rW (Nat.le_trans hm7 (by decide))
 have qm : (eX 0 (many : Int)).length <= 1000000 := by rw [uL]; exact lr hm7 (by decide)
 generalize hcar : (List.range many).map (fun k => letter (x 0) (k : Nat)) = car
 have lcar : car.length = many := by rw [← hcar]; simp
 have c2 : bz [none, some (.int (x 0))] (gN 0) aU gO (eX 0 (many : Int)) = some (car.map .str) := by
  have h := bx (env := [none, some (.int (x 0))]) (g := gN 0) (f := gO) (fun k : Nat => PV.int (k : Nat)) (fun k => .str (letter (x 0) (k : Nat))) (List.range many) fun k hk => ⟨_, rfl, by
   simp [gO, tZ]⟩
  rw [gZ, h, ← hcar, List.map_map]
  rfl
 obtain ⟨np, hnp, hnp3⟩ := zV (x 1 / 7)
 have rp : rgI (np : Int) = true := rW (Nat.le_trans hnp3 (by decide))
 have hmp10 := Pu hm7 hnp3
 have carl : ∀ i : Int, 0 <= i -> i < many -> (pick car i).length = 1 := fun i h0 h1 => by
  have := jE (l := car) h0 (by rw [lcar]; exact h1)
  rw [← hcar] at this
  obtain ⟨k, _, e⟩ := List.mem_map.mp this
  rw [hcar] at e
  rw [← e]; rfl
 generalize hpr : (fun k : Nat => pick car (mx (x 2) k % many) ++ pick car (mx (x 2) k / 8 % many)) = pr
 have epr : ∀ k : Nat, pr k = pick car (mx (x 2) k % many) ++ pick car (mx (x 2) k / 8 % many) := fun k => by rw [← hpr]
 have l3 : bQ (gN 7) [7, 8] gP (eX 0 (np : Int)) [some (.frz (ns.map PV.int)), some (.int a), some (.lst [.int (x 0), .int (x 1), .int (x 2), .int (x 3), .int (x 4), .int (x 5)]), some (.int (x 0)), some (.int many), some (.lst (car.map .str)), some (.lst []), none, none, none, none, none, none, none, none, none] =
   some (.nx [some (.frz (ns.map PV.int)), some (.int a), some (.lst [.int (x 0), .int (x 1), .int (x 2), .int (x 3), .int (x 4), .int (x 5)]), some (.int (x 0)), some (.int many), some (.lst (car.map .str)), some (.lst (((List.range np).map pr).map .str)), none, none, none, none, none, none, none, none, none]) := by
  rw [gZ]
  have h := rT (g := gN 7) (ds := [7, 8]) (body := gP) (fun k : Nat => PV.int (k : Nat)) (fun s : List Str => [some (.frz (ns.map PV.int)), some (.int a), some (.lst [.int (x 0), .int (x 1), .int (x 2), .int (x 3), .int (x 4), .int (x 5)]), some (.int (x 0)), some (.int many), some (.lst (car.map .str)), some (.lst (s.map .str)), none, none, none, none, none, none, none, none, none])
   (fun s k => s ++ [pr k]) List.length (fun _ => 1) 1000 (fun _ => True) (List.range np) [] trivial (by rw [zU, List.length_range, List.length_nil, Nat.zero_add]; exact Nat.le_trans hnp3 (by decide)) (fun k hk s _ hb => by
    have hk2 := List.mem_range.mp hk
    refine ⟨by simp, trivial, ?_⟩
    have e1 := rR (x 2) (k := k) (t8 hk2 (Nat.le_trans hnp3 (by decide)))
    have e2 := Rf (x 2) k
    have e3 : (0 : Int) < many := hmp
    have e4 := pL (l := car) (i := mx (x 2) k % many) (Int.emod_nonneg _ hmn) (by rw [lcar]; exact Int.emod_lt_of_pos _ hmp)
    have e5 := pL (l := car) (i := mx (x 2) k / 8 % many) (Int.emod_nonneg _ hmn) (by rw [lcar]; exact Int.emod_lt_of_pos _ hmp)
    have e6 := carl (mx (x 2) k % many) (Int.emod_nonneg _ hmn) (Int.emod_lt_of_pos _ hmp)
    have e7 := carl (mx (x 2) k / 8 % many) (Int.emod_nonneg _ hmn) (Int.emod_lt_of_pos _ hmp)
    have e8 : s.length < 1000000 := Pr hb (by decide)
    have e9 : 0 < many := hm1
    simp [jO, gP, e1, e3, e4, e5, e6, e7, e8, e9, epr])
  have hf : ∀ (l : List Nat) (s : List Str), l.foldl (fun s k => s ++ [pr k]) s = s ++ l.map pr := by
   intro l
   induction l with
   | nil => intro s; simp
   | cons k l ih => intro s; rw [List.foldl_cons, ih]; simp
  rw [hf, List.nil_append] at h
  exact h
 generalize hprs : (List.range np).map pr = prs at l3
 have lprs : prs.length = np := by rw [← hprs]; simp
 have rt : rgI ((many : Int) + np) = true := by rw [← Int.natCast_add]; exact rW (Nat.le_trans hmp10 (by decide))
 have ert : eX 0 ((many : Int) + np) = (List.range (many + np)).map fun k => PV.int (k : Nat) := by
  rw [← Int.natCast_add, gZ]
 have c4 : bz [none, some (.lst [.int (x 0), .int (x 1), .int (x 2), .int (x 3), .int (x 4), .int (x 5)])] (gN 0) aU jx ((List.range (many + np)).map fun k => PV.int (k : Nat)) = some ((List.range (many + np)).map fun k => .int (mx (x 3) k % 4)) :=
  bx _ _ _ fun k hk => ⟨_, rfl, by
   have := List.mem_range.mp hk
   have e1 := rR (x 3) (k := k) (t8 this hmp10)
   simp [jx, e1]⟩
 have qt : ((List.range (many + np)).map fun k => PV.int (k : Nat)).length <= 1000000 := by rw [List.length_map, List.length_range]; exact lr hmp10 (by decide)
 generalize hsm : car ++ prs = sm
 have lsm : sm.length = many + np := by rw [← hsm, List.length_append, lcar, lprs]
 have esm : car.map PV.str ++ prs.map PV.str = sm.map PV.str := by rw [← hsm, List.map_append]
 have ql : car.length + prs.length <= 1000000 := by rw [lcar, lprs]; exact lr hmp10 (by decide)
 have esz : ((sm.map PV.str).length : Int) = (many : Int) + np := by rw [List.length_map, lsm, Int.natCast_add]
 have watI : ∀ k : Nat, k < many + np -> atI ((List.range (many + np)).map fun k => PV.int (mx (x 3) k % 4)) (k : Int) = some (.int (mx (x 3) k % 4)) := fun k hk => b_ (by simp [hk])
 have satI : ∀ k : Nat, k < many + np -> atI (sm.map PV.str) (k : Int) = some (.str (pick sm k)) := fun k hk => pL (wu k) (by rw [lsm]; exact ww hk)
 have c5 : bz [none, some (.lst (sm.map .str)), some (.lst ((List.range (many + np)).map fun k => PV.int (mx (x 3) k % 4)))] (gN 0) jz jy ((List.range (many + np)).map fun k => PV.int (k : Nat)) =
   some (((List.range (many + np)).filter fun k => (1 == mx (x 3) k % 4 || 3 == mx (x 3) k % 4)).map fun (k : Nat) => PV.str (pick sm k)) :=
  cR _ _ _ _ fun k hk => ⟨_, rfl, by
   have h1 := watI k (List.mem_range.mp hk)
   simp [jz, h1, inP, eqF], fun _ => by
   have h1 := satI k (List.mem_range.mp hk)
   simp [jy, h1]⟩
 have c7 : bz [none, some (.lst (sm.map .str)), some (.lst ((List.range (many + np)).map fun k => PV.int (mx (x 3) k % 4)))] (gN 0) jB jA ((List.range (many + np)).map fun k => PV.int (k : Nat)) =
   some (((List.range (many + np)).filter fun k => decide (1 < mx (x 3) k % 4)).map fun (k : Nat) => PV.str (pick sm k)) :=
  cR _ _ _ _ fun k hk => ⟨_, rfl, by
   have h1 := watI k (List.mem_range.mp hk)
   simp [jB, h1], fun _ => by
   have h1 := satI k (List.mem_range.mp hk)
   simp [jA, h1]⟩
 obtain ⟨nb, hnb, hnb4⟩ := Ik (x 4 / 7)
 have rb : rgI (nb : Int) = true := rW (Nat.le_trans hnb4 (by decide))
 have qb : (eX 0 (nb : Int)).length <= 1000000 := by rw [uL]; exact lr hnb4 (by decide)
 have c9 : bz [none, some (.int (x 0)), some (.int many), some (.lst [.int (x 0), .int (x 1), .int (x 2), .int (x 3), .int (x 4), .int (x 5)])] (gN 0) aU jC (eX 0 (nb : Int)) = some ((List.range nb).map fun k => .str (lq (x 0) many (mx (x 4) k))) := by
  rw [gZ]
  exact bx _ _ _ fun k hk => ⟨_, rfl, by
   have := List.mem_range.mp hk
   have e1 := rR (x 4) (k := k) (t8 this (Nat.le_trans hnb4 (by decide)))
   simp [jC, e1, Ca]⟩
 obtain ⟨nc, hnc, hnc3⟩ := zV (x 5 / 7)
 have rc : rgI (nc : Int) = true := rW (Nat.le_trans hnc3 (by decide))
 have qc : (eX 0 (nc : Int)).length <= 1000000 := by rw [uL]; exact lr hnc3 (by decide)
 have c10 : bz [none, some (.int (x 0)), some (.int many), some (.lst [.int (x 0), .int (x 1), .int (x 2), .int (x 3), .int (x 4), .int (x 5)])] (gN 0) aU ji (eX 0 (nc : Int)) = some ((List.range nc).map fun k => .str (lq (x 0) many (mx (x 5) k))) := by
  rw [gZ]
  exact bx _ _ _ fun k hk => ⟨_, rfl, by
   have := List.mem_range.mp hk
   have e1 := rR (x 5) (k := k) (t8 this (Nat.le_trans hnc3 (by decide)))
   simp [ji, e1, Ca]⟩
 have hrun : atI [PV.str ("" : Str), .str ("never" : Str), .str ("may" : Str), .str ("must" : Str)] (x 1 / 28 % 4) = some (.str (pick [("" : Str), ("never" : Str), ("may" : Str), ("must" : Str)] (x 1 / 28 % 4))) :=
  pL (l := [("" : Str), ("never" : Str), ("may" : Str), ("must" : Str)]) (t7 _).1 (t7 _).2
 have mrun := jE (l := [("" : Str), ("never" : Str), ("may" : Str), ("must" : Str)]) (i := x 1 / 28 % 4) (t7 _).1 (t7 _).2
 generalize pick [("" : Str), ("never" : Str), ("may" : Str), ("must" : Str)] (x 1 / 28 % 4) = run at hrun mrun
 refine ⟨⟨car, prs, ((List.range (many + np)).filter fun k => (1 == mx (x 3) k % 4 || 3 == mx (x 3) k % 4)).map fun (k : Nat) => pick sm k, ((List.range (many + np)).filter fun k => decide (1 < mx (x 3) k % 4)).map fun (k : Nat) => pick sm k,
  (List.range nb).map fun k => lq (x 0) many (mx (x 4) k), (List.range nc).map fun k => lq (x 0) many (mx (x 5) k), run, x 0, many⟩, ⟨hm1, hm7, hcar.symm, ?_, ?_, ?_, ?_, ?_, ?_, ?_, ?_, ?_, ?_, ?_⟩, ?_⟩
 ·intro w hw
  rw [← hprs] at hw
  obtain ⟨k, _, e⟩ := List.mem_map.mp hw
  rw [← hpr] at e
  exact ⟨_, jE (Int.emod_nonneg _ hmn) (by rw [lcar]; exact Int.emod_lt_of_pos _ hmp), _, jE (Int.emod_nonneg _ hmn) (by rw [lcar]; exact Int.emod_lt_of_pos _ hmp), e.symm⟩
 ·intro w hw
  obtain ⟨k, hk, e⟩ := List.mem_map.mp hw
  have := List.mem_range.mp (List.mem_filter.mp hk).1
  rw [hsm, ← e]
  exact jE (wu k) (by rw [lsm]; exact ww this)
 ·intro w hw
  obtain ⟨k, hk, e⟩ := List.mem_map.mp hw
  have := List.mem_range.mp (List.mem_filter.mp hk).1
  rw [hsm, ← e]
  exact jE (wu k) (by rw [lsm]; exact ww this)
 ·intro w hw
  obtain ⟨k, hk, e⟩ := List.mem_map.mp hw
  exact ⟨_, e.symm⟩
 ·intro w hw
  obtain ⟨k, hk, e⟩ := List.mem_map.mp hw
  exact ⟨_, e.symm⟩
 ·simpa using mrun
 ·show prs.length <= 3; rw [lprs]; exact hnp3
 ·rw [List.length_map]
  have := List.length_filter_le (fun k => (1 == mx (x 3) k % 4 || 3 == mx (x 3) k % 4)) (List.range (many + np))
  rw [List.length_range] at this; exact Nat.le_trans this hmp10
 ·rw [List.length_map]
  have := List.length_filter_le (fun k => decide (1 < mx (x 3) k % 4)) (List.range (many + np))
  rw [List.length_range] at this; exact Nat.le_trans this hmp10
 ·simp; omega
 ·simp; omega
 ·have ln : (prs.map PV.str).length = np := by rw [List.length_map, lprs]
  have ls : (sm.map PV.str).length = many + np := by rw [List.length_map, lsm]
  have qz : many + np <= 1000000 := lr hmp10 (by decide)
  simp [dJ, pI, r6, c1, q6, qz, lcar, hmany, rm, c2, qm, hnp, rp, l3, lprs, rt, ert, c4, qt, ql, esm, lsm, c5, c7, hnb, rb, c9, qb, hnc, rc, c10, qc, hrun]
  simp [aJ, bR, List.map_map, Function.comp_def]
end My
namespace My
open PySem L2 MR
theorem g8 (a b : Str) : (a ++ b).length = a.length + b.length := by
 unfold Str.length
 rw [Str.cps_append]
 simp
theorem oE (a b : Str) : (a ++ b).cps.toList = a.cps.toList ++ b.cps.toList := by
 rw [Str.cps_append]
 simp
structure Low (w : Str) : Prop where
 codes : ∀ c ∈ w.cps.toList, 97 <= c /\ c < 123
 l1 : 1 <= w.length
 l4 : w.length <= 4
theorem Low.noBl {w : Str} (h : Low w) : dB w := fun z => by have := h.codes _ z; omega
theorem qi (b k : Int) : Low (letter b k) := ⟨fun c hc => by
 have : c = ltn b k := by simpa [letter] using hc
 rw [this]; exact jN b k, by show 1 <= 1; decide, by show 1 <= 4; decide⟩
theorem zW (b m n : Int) : Low (lq b m n) := ⟨fun c hc => by
 rw [qg] at hc
 obtain ⟨k, _, e⟩ := List.mem_map.mp hc
 rw [← e]; exact jN b _, by rw [uK]; omega, by rw [uK]; omega⟩
structure Rc.Lo (R : Rc) : Prop where
 c : ∀ w ∈ R.carriers, Low w
 p : ∀ w ∈ R.pairs, Low w
 l : ∀ w ∈ R.longs, Low w
 e : ∀ w ∈ R.eithers, Low w
 b : ∀ w ∈ R.begins, Low w
 s : ∀ w ∈ R.splits, Low w
theorem Rc.Good.lo {R : Rc} (G : R.Good) : R.Lo := by
 have c : ∀ w ∈ R.carriers, Low w /\ w.length = 1 := fun w hw => by
  rw [G.car] at hw
  obtain ⟨k, _, e⟩ := List.mem_map.mp hw
  rw [← e]; exact ⟨qi _ _, rfl⟩
 have p : ∀ w ∈ R.pairs, Low w := fun w hw => by
  obtain ⟨a, ha, b, hb, e⟩ := G.prs w hw
  obtain ⟨la, a1⟩ := c a ha
  obtain ⟨lb, b1⟩ := c b hb
  rw [e]
  exact ⟨fun x hx => by
   rw [oE] at hx
   exact (List.mem_append.mp hx).elim (la.codes x) (lb.codes x), by rw [g8]; omega, by rw [g8]; omega⟩
 have cp : ∀ w ∈ R.carriers ++ R.pairs, Low w := fun w hw => (List.mem_append.mp hw).elim (fun h => (c w h).1) (p w)
 exact ⟨fun w h => (c w h).1, p, fun w h => cp w (G.lng w h), fun w h => cp w (G.eth w h), fun w h => by obtain ⟨n, e⟩ := G.beg w h; rw [e]; exact zW _ _ _, fun w h => by obtain ⟨n, e⟩ := G.spl w h; rw [e]; exact zW _ _ _⟩
def txt (x : Str × List Str) : Str := x.1 ++ (" " : Str) ++ Str.join (" " : Str) x.2
def bK (b : Bool) (k : Str) (ws : List Str) : List (Str × List Str) := if b = true then ws.map fun w => (k, [w]) else if ws = [] then [] else [(k, ws)]
theorem rY : (Str.ofString " ").length = 1 := by decide +kernel
theorem Px {ws : List Str} (h : ∀ w ∈ ws, w.length <= 4) (hn : ws.length <= 20) : JoinOk (Str.ofString " ") ws = true := by
 have gen : ∀ (l : List Str) (n : Nat), (∀ w ∈ l, w.length <= 4) -> l.foldl (fun x1 x2 => x1 + x2.length + (Str.ofString " ").length) n <= n + 5 * l.length := by
  intro l
  induction l with
  | nil => intro n _; simp
  | cons w l ih =>
   intro n hw
   have h1 := ih (n + w.length + (Str.ofString " ").length) fun x hx => hw x (List.mem_cons_of_mem _ hx)
   have h2 := hw w List.mem_cons_self
   rw [rY] at h1 ⊢
   simp only [List.foldl_cons, List.length_cons]
   rw [rY] at *
   omega
 have g := gen ws 0 h
 unfold JoinOk Builtin.Str.tooLong
 rw [List.foldl_toArray]
 simp
 have : (10000 : Nat) <= sizeLine := by decide
 omega
theorem Im {ws : List Str} (h : ∀ w ∈ ws, w.length <= 4) (hn : ws.length <= 20) : (Str.join (Str.ofString " ") ws).length <= 100 := by
 have h1 := StrLaws.join_length_le (Str.ofString " ") ws
 have h2 : (ws.map (·.length)).sum <= 4 * ws.length := by
  clear h1 hn
  induction ws with
  | nil => simp
  | cons w l ih =>
   have := ih fun x hx => h x (List.mem_cons_of_mem _ hx)
   have := h w List.mem_cons_self
   simp; omega
 rw [rY] at h1
 omega
theorem xH : ∀ ws : List Str, strsP (ws.map PV.str) = some ws
 | [] => rfl
 | w :: ws => by simp [xH ws]
theorem xJ : ∀ ws : List Str, fJ (ws.map PV.str) = some (ws.map PyData.str)
 | [] => rfl
 | w :: ws => by simp [fJ, toD, xJ ws]
theorem zX : ∀ {ws : List Str}, (∀ w ∈ ws, PyData.strOk w = true) -> PyData.canLayAll0 (ws.map PyData.str) = true
 | [], _ => rfl
 | w :: ws, h => by
  simp [PyData.canLayAll0, PyData.canLay0, h w List.mem_cons_self, zX fun x hx => h x (List.mem_cons_of_mem _ hx)]
theorem vG : ∀ ws : List Str, PyData.depthAll (ws.map PyData.str) <= 1
 | [] => by simp [PyData.depthAll]
 | w :: ws => by
  have := vG ws
  simp [PyData.depthAll, PyData.depth]
  omega
theorem zY : ∀ xs ys : List Str, PyData.eqvAll (xs.map PyData.str) (ys.map PyData.str) = decide (xs = ys)
 | [], [] => rfl
 | [], _ :: _ => by simp [PyData.eqvAll]
 | _ :: _, [] => by simp [PyData.eqvAll]
 | x :: xs, y :: ys => by
  simp only [List.map_cons, PyData.eqvAll, PyData.eqv, zY xs ys]
  by_cases h : x = y
  ·subst h; simp
  ·simp [h]
theorem uw {ws : List Str} (h : ∀ w ∈ ws, PyData.strOk w = true) : SeqAt.shaped (.list (ws.map PyData.str)) = true := by
 have h1 := zX h
 have h2 := vG ws
 simp [SeqAt.shaped, PyData.canLay0, h1, PyData.depth]
 omega
theorem uM {xs ys : List Str} (hx : ∀ w ∈ xs, PyData.strOk w = true) (hy : ∀ w ∈ ys, PyData.strOk w = true) : eqP (.lst (xs.map .str)) (.lst (ys.map .str)) = some (decide (xs = ys)) := by
 have h1 := uw hx
 have h2 := uw hy
 simp [eqP, eqS, eqD, toD, xJ, h1, h2, PyData.eqv, zY]
theorem Low.ok {w : Str} (h : Low w) : PyData.strOk w = true := by
 unfold PyData.strOk
 rw [← Array.all_toList, List.all_eq_true]
 intro c hc
 have := h.codes c hc
 simp; omega
theorem jP {R : Rc} {c : Int} {k : Nat} {kind : Str} {ws L : List Str} {p : Int} (hr : atI [bR R.carriers, bR R.pairs, bR R.longs, bR R.eithers, bR R.begins, bR R.splits, .str R.run, .int R.base] (k : Int) = some (.lst (ws.map .str)))
  (hp : atI [PV.int 1, .int 2, .int 4, .int 8, .int 16, .int 32] (k : Int) = some (.int p)) (h0 : 0 < p /\ p < 1073741824) (hk : kind.length <= 10) (hw : ∀ w ∈ ws, Low w) (hn : ws.length <= 20) (hL : L.length <= 1000) :
  turn (gT [3, 4]) [3, 4, 5] dN (.tup [.int k, .str kind]) [some (aJ R), some (.int c), some (.lst (L.map .str)), none, none, none, none] =
   some [some (aJ R), some (.int c), some (.lst ((L ++ (bK (decide (c / p % 2 = 1)) kind ws).map txt).map .str)), none, none, none, none] := by
 have hc : bz [none, some (.str kind)] (gN 0) aU k_ (ws.map .str) = some (ws.map fun w => .str (txt (kind, [w]))) :=
  bx _ _ ws fun w h => ⟨_, rfl, by
   have h1 : kind.length + (Str.ofString " ").length <= 1000000 := by rw [rY]; omega
   have h2 : (kind ++ Str.ofString " ").length + w.length <= 1000000 := by rw [g8, rY]; have := (hw w h).l4; omega
   simp [k_, h1, h2, txt, Str.join]⟩
 have hl2 : ws.length <= 1000000 := by omega
 have hl3 : L.length + ws.length <= 1000000 := by omega
 have hl4 : L.length < 1000000 := by omega
 by_cases hb : c / p % 2 = 1
 ·simp [jO, dN, aJ, hr, hp, h0, hb, hc, hl2, hl3, bK, List.map_map, Function.comp_def]
 ·have hj := Px (fun w h => (hw w h).l4) hn
  have hj2 := Im (fun w h => (hw w h).l4) hn
  have h1 : kind.length + (Str.ofString " ").length <= 1000000 := by rw [rY]; omega
  have h2 : (kind ++ Str.ofString " ").length + (Str.join (Str.ofString " ") ws).length <= 1000000 := by rw [g8, rY]; omega
  have he := uM (xs := ws) (ys := []) (fun w h => (hw w h).ok) (fun w h => by cases h)
  simp only [List.map_nil] at he
  have he0 : eqP (.lst []) (.lst []) = some true := uM (xs := []) (ys := []) (fun w h => by cases h) (fun w h => by cases h)
  by_cases hz : ws = []
  ·subst hz
   simp [jO, dN, aJ, hr, hp, h0, hb, bK, Ft, he0]
  ·simp [jO, dN, aJ, hr, hp, h0, hb, bK, hz, xH, hj, h1, h2, hl4, txt, Ft, he]
end My
namespace My
open PySem L2 MR
theorem aG {f g : MR.Env -> Option Out} {env e : MR.Env} (h : f env = some (.nx e)) : aL f g env = g e := by simp [h]
theorem xK {α : Type} (f : α -> PV) (l : List α) (m : Nat) (h : m <= l.length) : je (l.map f) (some (m : Int)) none = (l.drop m).map f := by
 unfold je
 rw [HT.sIx_nat, HT.sIx_none]
 simp only [List.length_map]
 rw [Nat.min_eq_left h, ← List.map_drop, List.take_of_length_le (by simp)]
theorem xM {α : Type} (f : α -> PV) (l : List α) (m : Nat) (h : m <= l.length) : je (l.map f) none (some (m : Int)) = (l.take m).map f := by
 unfold je
 rw [HT.sIx_nat, HT.sIx_none]
 simp only [List.length_map]
 rw [Nat.min_eq_left h]
 simp
def jQ (run : Str) : List (Str × List Str) := if run = ("" : Str) then [] else [(("run" : Str), [run])]
def fU (c : Int) (R : Rc) : List (Str × List Str) := bK (decide (c / 1 % 2 = 1)) ("carry" : Str) R.carriers ++ bK (decide (c / 2 % 2 = 1)) ("one" : Str) R.pairs ++ bK (decide (c / 4 % 2 = 1)) ("long" : Str) R.longs ++
 bK (decide (c / 8 % 2 = 1)) ("either" : Str) R.eithers ++ bK (decide (c / 16 % 2 = 1)) ("begin" : Str) R.begins ++ bK (decide (c / 32 % 2 = 1)) ("split" : Str) R.splits ++ jQ R.run
theorem gA (b : Bool) (k : Str) (ws : List Str) : (bK b k ws).length <= ws.length + 1 := by
 unfold bK
 split
 ·simp
 ·split <;> simp
theorem vH {A : List (Str × List Str)} {L : List Str} {a b : Nat} (h : L.length <= a) (h' : A.length <= b) : (L ++ A.map txt).length <= a + b := by
 rw [List.length_append, List.length_map]
 exact Nat.add_le_add h h'
theorem t_ {α : Type} {A B : List α} {a b : Nat} (h : A.length <= a) (h' : B.length <= b) : (A ++ B).length <= a + b := by
 rw [List.length_append]
 exact Nat.add_le_add h h'
theorem Ar (r : Str) : (jQ r).length <= 1 := by unfold jQ; split <;> simp
theorem Cd (a : Int) (n : Nat) : ∃ m : Nat, a % ((n : Int) + 1) = (m : Int) /\ m <= n := ⟨(a % ((n : Int) + 1)).toNat, by have := Int.emod_nonneg a (b := (n : Int) + 1) (by omega); omega, by have := Int.emod_lt_of_pos a (b := (n : Int) + 1) (by omega); have := Int.emod_nonneg a (b := (n : Int) + 1) (by omega); omega⟩
theorem Gn (n : Nat) : (0 : Int) < (n : Int) + 1 := by omega
theorem Py {n : Nat} (h : n <= 1000) : n < 1000000 := by omega
theorem Lq {R : Rc} (G : R.Good) (c : Int) : ∃ rs : List (Str × List Str), (∀ x, x ∈ rs ↔ x ∈ fU c R) /\ rs.length <= 100 /\ gw [aJ R, .int c] = some (.lst ((rs.map txt).map .str)) := by
 have Lo := G.lo
 have lc : R.carriers.length <= 7 := by rw [G.car]; simp; exact G.m7
 have k1 := gA (decide (c / 1 % 2 = 1)) ("carry" : Str) R.carriers
 have k2 := gA (decide (c / 2 % 2 = 1)) ("one" : Str) R.pairs
 have k3 := gA (decide (c / 4 % 2 = 1)) ("long" : Str) R.longs
 have k4 := gA (decide (c / 8 % 2 = 1)) ("either" : Str) R.eithers
 have k5 := gA (decide (c / 16 % 2 = 1)) ("begin" : Str) R.begins
 have k6 := gA (decide (c / 32 % 2 = 1)) ("split" : Str) R.splits
 have g1 := G.l1; have g2 := G.l2; have g3 := G.l3; have g4 := G.l4; have g5 := G.l5
 have dd1 := Nat.le_trans k1 (Nat.succ_le_succ lc)
 have dd2 := Nat.le_trans k2 (Nat.succ_le_succ g1)
 have dd3 := Nat.le_trans k3 (Nat.succ_le_succ g2)
 have dd4 := Nat.le_trans k4 (Nat.succ_le_succ g3)
 have dd5 := Nat.le_trans k5 (Nat.succ_le_succ g4)
 have dd6 := Nat.le_trans k6 (Nat.succ_le_succ g5)
 have t1 := jP (R := R) (c := c) (k := 0) (kind := "carry") (ws := R.carriers) (L := []) (p := 1) rfl rfl (by decide) (by decide +kernel) Lo.c (Nat.le_trans lc (by decide)) (by simp)
 generalize hA1 : bK (decide (c / 1 % 2 = 1)) ("carry" : Str) R.carriers = A1 at t1 dd1
 have l1 := vH (L := []) (a := 0) (Nat.le_refl 0) dd1
 have t2 := jP (R := R) (c := c) (k := 1) (kind := "one") (ws := R.pairs) (L := [] ++ A1.map txt) (p := 2) rfl rfl (by decide) (by decide +kernel) Lo.p (Nat.le_trans g1 (by decide)) (Nat.le_trans l1 (by decide))
 generalize hA2 : bK (decide (c / 2 % 2 = 1)) ("one" : Str) R.pairs = A2 at t2 dd2
 have l2 := vH l1 dd2
 have t3 := jP (R := R) (c := c) (k := 2) (kind := "long") (ws := R.longs) (L := [] ++ A1.map txt ++ A2.map txt) (p := 4) rfl rfl (by decide) (by decide +kernel) Lo.l (Nat.le_trans g2 (by decide)) (Nat.le_trans l2 (by decide))
 generalize hA3 : bK (decide (c / 4 % 2 = 1)) ("long" : Str) R.longs = A3 at t3 dd3
 have l3 := vH l2 dd3
 have t4 := jP (R := R) (c := c) (k := 3) (kind := "either") (ws := R.eithers) (L := [] ++ A1.map txt ++ A2.map txt ++ A3.map txt) (p := 8) rfl rfl (by decide) (by decide +kernel) Lo.e (Nat.le_trans g3 (by decide)) (Nat.le_trans l3 (by decide))
 generalize hA4 : bK (decide (c / 8 % 2 = 1)) ("either" : Str) R.eithers = A4 at t4 dd4
 have l4 := vH l3 dd4
 have t5 := jP (R := R) (c := c) (k := 4) (kind := "begin") (ws := R.begins) (L := [] ++ A1.map txt ++ A2.map txt ++ A3.map txt ++ A4.map txt) (p := 16) rfl rfl (by decide) (by decide +kernel) Lo.b (Nat.le_trans g4 (by decide)) (Nat.le_trans l4 (by decide))
 generalize hA5 : bK (decide (c / 16 % 2 = 1)) ("begin" : Str) R.begins = A5 at t5 dd5
 have l5 := vH l4 dd5
 have t6 := jP (R := R) (c := c) (k := 5) (kind := "split") (ws := R.splits) (L := [] ++ A1.map txt ++ A2.map txt ++ A3.map txt ++ A4.map txt ++ A5.map txt) (p := 32) rfl rfl (by decide) (by decide +kernel) Lo.s (Nat.le_trans g5 (by decide)) (Nat.le_trans l5 (by decide))
 generalize hA6 : bK (decide (c / 32 % 2 = 1)) ("split" : Str) R.splits = A6 at t6 dd6
 have eL : ∃ B : List (Str × List Str), B = A1 ++ A2 ++ A3 ++ A4 ++ A5 ++ A6 := ⟨_, rfl⟩
 obtain ⟨B, hB⟩ := eL
 have lB : B.length <= 80 := by rw [hB]; exact Nat.le_trans (t_ (t_ (t_ (t_ (t_ dd1 dd2) dd3) dd4) dd5) dd6) (by decide)
 have loop : bQ (gT [3, 4]) [3, 4, 5] dN (dX 0 [.str "carry", .str "one", .str "long", .str "either", .str "begin", .str "split"]) [some (aJ R), some (.int c), some (.lst []), none, none, none, none] =
   some (.nx [some (aJ R), some (.int c), some (.lst ((B.map txt).map .str)), none, none, none, none]) := by
  refine (eY t1).trans ?_
  refine (eY t2).trans ?_
  refine (eY t3).trans ?_
  refine (eY t4).trans ?_
  refine (eY t5).trans ?_
  refine (eY t6).trans ?_
  rw [hB]
  simp [dX, bQ]
 obtain ⟨Z, hZ⟩ : ∃ Z, Z = B ++ jQ R.run := ⟨_, rfl⟩
 have lZ : Z.length <= 90 := by
  rw [hZ]; exact Nat.le_trans (t_ lB (Ar _)) (by decide)
 have hrun : sIf (tV (b2 neQ (b2 ixP (bV 0) (bC (.int 6))) (bC (.str "")))) (f9 uE 2 (b2 bN (bC (.str "run ")) (b2 ixP (bV 0) (bC (.int 6))))) sNx [some (aJ R), some (.int c), some (.lst ((B.map txt).map .str)), none, none, none, none] =
   some (.nx [some (aJ R), some (.int c), some (.lst ((Z.map txt).map .str)), none, none, none, none]) := by
  rw [hZ]
  by_cases e : R.run = ("" : Str)
  ·simp [aJ, e, jQ]
  ·have e1 : (Str.ofString "run ").length + R.run.length <= 1000000 := by
    have h1 : (Str.ofString "run ").length = 4 := by decide +kernel
    have h2 : R.run.length <= 10 := by
     rcases G.run with h | h | h | h <;> rw [h] <;> decide +kernel
    omega
   have e2 : (Str.ofString "run ") ++ R.run = txt (("run" : Str), [R.run]) := by
    unfold txt
    have : (Str.ofString "run ") = ("run" : Str) ++ (" " : Str) := by decide +kernel
    rw [this]; rfl
   have e3 : B.length < 1000000 := Py (Nat.le_trans lB (by decide))
   simp [aJ, e, e1, e2, e3, jQ]
 have hZ0 : (0 : Int) < (Z.length : Int) + 1 := Gn _
 obtain ⟨m, hm, hmZ⟩ := Cd (c / 64) Z.length
 refine ⟨Z.drop m ++ Z.take m, fun x => ?_, by simp; omega, ?_⟩
 ·have : fU c R = Z := by unfold fU; rw [hA1, hA2, hA3, hA4, hA5, hA6, hZ, hB]
  rw [this, List.mem_append, or_comm, ← List.mem_append, List.take_append_drop]
 ·have d1 := xK (fun x : Str => PV.str x) (Z.map txt) m (by simp; exact hmZ)
  have d2 := xM (fun x : Str => PV.str x) (Z.map txt) m (by simp; exact hmZ)
  have d3 : ((Z.map txt).drop m).length + ((Z.map txt).take m).length <= 1000000 := by simp; omega
  have d4 : Z.length - m + min m Z.length <= 1000000 := by omega
  have s1 : aN 2 (cL aB) [some (aJ R), some (.int c), none, none, none, none, none] = some (.nx [some (aJ R), some (.int c), some (.lst []), none, none, none, none]) := by simp
  have s2 : gf (gT [3, 4]) (iE (cL (ak (bC (.str "carry")) (ak (bC (.str "one")) (ak (bC (.str "long")) (ak (bC (.str "either")) (ak (bC (.str "begin")) (ak (bC (.str "split")) aB)))))))) [3, 4, 5] dN [some (aJ R), some (.int c), some (.lst []), none, none, none, none] =
    some (.nx [some (aJ R), some (.int c), some (.lst ((B.map txt).map .str)), none, none, none, none]) := by
   simp [-JF, loop]
  have s4 : aN 6 (b2 bU (b2 eV (bV 1) (bC (.int 64))) (b2 bN (b1 lenV (bV 2)) (bC (.int 1)))) [some (aJ R), some (.int c), some (.lst ((Z.map txt).map .str)), none, none, none, none] = some (.nx [some (aJ R), some (.int c), some (.lst ((Z.map txt).map .str)), none, none, none, some (.int m)]) := by
   simp [hZ0, hm]
  have s5 : a_ (b2 jV (bSl (bV 2) (oS (bV 6)) oN) (bSl (bV 2) oN (oS (bV 6)))) [some (aJ R), some (.int c), some (.lst ((Z.map txt).map .str)), none, none, none, some (.int m)] = some (.rt (.lst (((Z.drop m ++ Z.take m).map txt).map .str))) := by
   simp only [Bu, jT, Og, QJ, Q3, Q0, List.getElem?_cons_succ, List.getElem?_cons_zero, Option.bind_some, d1, d2, jV, List.length_map]
   rw [if_pos (by simp; omega)]
   simp
  have e : ni [some (aJ R), some (.int c), none, none, none, none, none] = some (.rt (.lst (((Z.drop m ++ Z.take m).map txt).map .str))) := by
   unfold ni
   rw [aG s1, aG s2, aG hrun, aG s4, s5]
  simp [gw, e]
end My
namespace My
open PySem L2 MR
theorem gB {b : Bool} {k : Str} {ws : List Str} {x : Str × List Str} (h : x ∈ bK b k ws) : x.1 = k /\ x.2 ≠ [] /\ (∀ w ∈ x.2, w ∈ ws) /\ x.2.length <= ws.length := by
 unfold bK at h
 split at h
 ·obtain ⟨w, hw, e⟩ := List.mem_map.mp h
  subst e
  refine ⟨rfl, by simp, fun z hz => by simp at hz; rw [hz]; exact hw, ?_⟩
  have := List.length_pos_of_mem hw
  show 1 <= ws.length
  omega
 ·split at h
  ·cases h
  ·rename_i hne
   have e : x = (k, ws) := by simpa using h
   subst e
   exact ⟨rfl, hne, fun _ z => z, Nat.le_refl _⟩
theorem cover {b : Bool} {k : Str} {ws : List Str} {w : Str} (h : w ∈ ws) : ∃ r, (k, r) ∈ bK b k ws /\ w ∈ r := by
 unfold bK
 split
 ·exact ⟨[w], List.mem_map.mpr ⟨w, h, rfl⟩, by simp⟩
 ·rw [if_neg (by intro z; rw [z] at h; cases h)]
  exact ⟨ws, by simp, h⟩
def StopW (R : Rc) (a : Str) : Prop := ∃ i : Nat, i < 12 /\ a = letter R.base ((R.many : Int) + (i : Nat))
def Pz (R : Rc) (a b : Str) : Prop := (a ∈ R.carriers ++ R.pairs /\ b ∈ R.carriers ++ R.pairs) \/ (StopW R a /\ StopW R b)
inductive RowIs (R : Rc) : Str × List Str -> Prop
 | carry {r} : r ≠ [] -> (∀ w ∈ r, w ∈ R.carriers) -> RowIs R (("carry" : Str), r)
 | one {r} : r ≠ [] -> (∀ w ∈ r, w ∈ R.pairs) -> RowIs R (("one" : Str), r)
 | long {r} : r ≠ [] -> (∀ w ∈ r, w ∈ R.longs) -> RowIs R (("long" : Str), r)
 | either {r} : r ≠ [] -> (∀ w ∈ r, w ∈ R.eithers) -> RowIs R (("either" : Str), r)
 | begin {r} : r ≠ [] -> (∀ w ∈ r, w ∈ R.begins) -> RowIs R (("begin" : Str), r)
 | split {r} : r ≠ [] -> (∀ w ∈ r, w ∈ R.splits) -> RowIs R (("split" : Str), r)
 | run : R.run ≠ ("" : Str) -> RowIs R (("run" : Str), [R.run])
 | alike {a b} : Pz R a b -> RowIs R (("alike" : Str), [a, b])
structure Tells (R : Rc) (rs : List (Str × List Str)) : Prop where
 is : ∀ x ∈ rs, RowIs R x
 len : ∀ x ∈ rs, x.2.length <= 20
 n : rs.length <= 150
 carry : ∀ w ∈ R.carriers, ∃ r, (("carry" : Str), r) ∈ rs /\ w ∈ r
 one : ∀ w ∈ R.pairs, ∃ r, (("one" : Str), r) ∈ rs /\ w ∈ r
 long : ∀ w ∈ R.longs, ∃ r, (("long" : Str), r) ∈ rs /\ w ∈ r
 either : ∀ w ∈ R.eithers, ∃ r, (("either" : Str), r) ∈ rs /\ w ∈ r
 begin : ∀ w ∈ R.begins, ∃ r, (("begin" : Str), r) ∈ rs /\ w ∈ r
 split : ∀ w ∈ R.splits, ∃ r, (("split" : Str), r) ∈ rs /\ w ∈ r
 run : R.run ≠ ("" : Str) -> (("run" : Str), [R.run]) ∈ rs
theorem tells_of {R : Rc} (G : R.Good) {c : Int} {rs : List (Str × List Str)} (h : ∀ x, x ∈ rs ↔ x ∈ fU c R) (hn : rs.length <= 100) : Tells R rs := by
 have lc : R.carriers.length <= 7 := by rw [G.car]; simp; exact G.m7
 have g1 := G.l1; have g2 := G.l2; have g3 := G.l3; have g4 := G.l4; have g5 := G.l5
 have cs : ∀ x ∈ rs, RowIs R x /\ x.2.length <= 20 := fun x hx => by
  have hx := (h x).mp hx
  unfold fU at hx
  simp only [List.mem_append] at hx
  obtain ⟨k, r⟩ := x
  rcases hx with (((((hx | hx) | hx) | hx) | hx) | hx) | hx
  ·obtain ⟨e, h1, h2, h3⟩ := gB hx; cases e; exact ⟨.carry h1 h2, by omega⟩
  ·obtain ⟨e, h1, h2, h3⟩ := gB hx; cases e; exact ⟨.one h1 h2, by omega⟩
  ·obtain ⟨e, h1, h2, h3⟩ := gB hx; cases e; exact ⟨.long h1 h2, by omega⟩
  ·obtain ⟨e, h1, h2, h3⟩ := gB hx; cases e; exact ⟨.either h1 h2, by omega⟩
  ·obtain ⟨e, h1, h2, h3⟩ := gB hx; cases e; exact ⟨.begin h1 h2, by omega⟩
  ·obtain ⟨e, h1, h2, h3⟩ := gB hx; cases e; exact ⟨.split h1 h2, by omega⟩
  ·unfold jQ at hx
   split at hx
   ·cases hx
   ·rename_i hr
    have e : (k, r) = (("run" : Str), [R.run]) := by simpa using hx
    cases e
    exact ⟨.run hr, by simp⟩
 refine ⟨fun x hx => (cs x hx).1, fun x hx => (cs x hx).2, by omega, fun w hw => ?_, fun w hw => ?_, fun w hw => ?_, fun w hw => ?_, fun w hw => ?_, fun w hw => ?_, fun hr => ?_⟩
 ·obtain ⟨r, h1, h2⟩ := cover (b := decide (c / 1 % 2 = 1)) (k := ("carry" : Str)) hw
  exact ⟨r, (h _).mpr (by unfold fU; simp only [List.mem_append]; exact .inl (.inl (.inl (.inl (.inl (.inl h1)))))), h2⟩
 ·obtain ⟨r, h1, h2⟩ := cover (b := decide (c / 2 % 2 = 1)) (k := ("one" : Str)) hw
  exact ⟨r, (h _).mpr (by unfold fU; simp only [List.mem_append]; exact .inl (.inl (.inl (.inl (.inl (.inr h1)))))), h2⟩
 ·obtain ⟨r, h1, h2⟩ := cover (b := decide (c / 4 % 2 = 1)) (k := ("long" : Str)) hw
  exact ⟨r, (h _).mpr (by unfold fU; simp only [List.mem_append]; exact .inl (.inl (.inl (.inl (.inr h1))))), h2⟩
 ·obtain ⟨r, h1, h2⟩ := cover (b := decide (c / 8 % 2 = 1)) (k := ("either" : Str)) hw
  exact ⟨r, (h _).mpr (by unfold fU; simp only [List.mem_append]; exact .inl (.inl (.inl (.inr h1)))), h2⟩
 ·obtain ⟨r, h1, h2⟩ := cover (b := decide (c / 16 % 2 = 1)) (k := ("begin" : Str)) hw
  exact ⟨r, (h _).mpr (by unfold fU; simp only [List.mem_append]; exact .inl (.inl (.inr h1))), h2⟩
 ·obtain ⟨r, h1, h2⟩ := cover (b := decide (c / 32 % 2 = 1)) (k := ("split" : Str)) hw
  exact ⟨r, (h _).mpr (by unfold fU; simp only [List.mem_append]; exact .inl (.inr h1)), h2⟩
 ·exact (h _).mpr (by unfold fU jQ; simp [hr])
theorem uN : dB ("carry" : Str) /\ ("carry" : Str).length <= 10 /\ PyData.strOk ("carry" : Str) = true := by unfold dB; decide +kernel
theorem zZ : dB ("one" : Str) /\ ("one" : Str).length <= 10 /\ PyData.strOk ("one" : Str) = true := by unfold dB; decide +kernel
theorem wy : dB ("long" : Str) /\ ("long" : Str).length <= 10 /\ PyData.strOk ("long" : Str) = true := by unfold dB; decide +kernel
theorem rZ : dB ("either" : Str) /\ ("either" : Str).length <= 10 /\ PyData.strOk ("either" : Str) = true := by unfold dB; decide +kernel
theorem uO : dB ("begin" : Str) /\ ("begin" : Str).length <= 10 /\ PyData.strOk ("begin" : Str) = true := by unfold dB; decide +kernel
theorem kd_split : dB ("split" : Str) /\ ("split" : Str).length <= 10 /\ PyData.strOk ("split" : Str) = true := by unfold dB; decide +kernel
theorem z6 : dB ("run" : Str) /\ ("run" : Str).length <= 10 /\ PyData.strOk ("run" : Str) = true := by unfold dB; decide +kernel
theorem Io : dB ("never" : Str) /\ ("never" : Str).length <= 10 /\ PyData.strOk ("never" : Str) = true := by unfold dB; decide +kernel
theorem PB : dB ("may" : Str) /\ ("may" : Str).length <= 10 /\ PyData.strOk ("may" : Str) = true := by unfold dB; decide +kernel
theorem Ls : dB ("must" : Str) /\ ("must" : Str).length <= 10 /\ PyData.strOk ("must" : Str) = true := by unfold dB; decide +kernel
theorem uP : dB ("alike" : Str) /\ ("alike" : Str).length <= 10 /\ PyData.strOk ("alike" : Str) = true := by unfold dB; decide +kernel
def cP (rs : List (Str × List Str)) : List (List Str) := rs.map fun x => x.1 :: x.2
section
variable {R : Rc} {rs : List (Str × List Str)} (G : R.Good) (T : Tells R rs)
include G
theorem uc {x : Str × List Str} (h : RowIs R x) : (∀ w ∈ x.2, dB w /\ w.length <= 10 /\ PyData.strOk w = true) /\ dB x.1 /\ x.1.length <= 10 /\ x.2 ≠ [] /\ PyData.strOk x.1 = true := by
 have Lo := G.lo
 have ok : ∀ {w : Str}, Low w -> dB w /\ w.length <= 10 /\ PyData.strOk w = true := fun h => ⟨h.noBl, by have := h.l4; omega, h.ok⟩
 cases h with
 | carry h1 h2 => exact ⟨fun w hw => ok (Lo.c w (h2 w hw)), uN.1, uN.2.1, h1, uN.2.2⟩
 | one h1 h2 => exact ⟨fun w hw => ok (Lo.p w (h2 w hw)), zZ.1, zZ.2.1, h1, zZ.2.2⟩
 | long h1 h2 => exact ⟨fun w hw => ok (Lo.l w (h2 w hw)), wy.1, wy.2.1, h1, wy.2.2⟩
 | either h1 h2 => exact ⟨fun w hw => ok (Lo.e w (h2 w hw)), rZ.1, rZ.2.1, h1, rZ.2.2⟩
 | begin h1 h2 => exact ⟨fun w hw => ok (Lo.b w (h2 w hw)), uO.1, uO.2.1, h1, uO.2.2⟩
 | split h1 h2 => exact ⟨fun w hw => ok (Lo.s w (h2 w hw)), kd_split.1, kd_split.2.1, h1, kd_split.2.2⟩
 | run hr =>
  refine ⟨fun w hw => ?_, z6.1, z6.2.1, by simp, z6.2.2⟩
  have e : w = R.run := by simpa using hw
  rw [e]
  rcases G.run with h | h | h | h
  ·exact absurd h hr
  ·rw [h]; exact Io
  ·rw [h]; exact PB
  ·rw [h]; exact Ls
 | @alike a b h =>
  have hw : ∀ w, (w ∈ R.carriers ++ R.pairs \/ StopW R w) -> Low w := fun w h => by
   rcases h with h | ⟨i, _, e⟩
   ·rcases List.mem_append.mp h with h | h
    ·exact Lo.c w h
    ·exact Lo.p w h
   ·rw [e]; exact qi _ _
  refine ⟨fun w hw' => ?_, uP.1, uP.2.1, by simp, uP.2.2⟩
  have e : w = a \/ w = b := by simpa using hw'
  rcases h with h | h
  ·rcases e with e | e
   ·rw [e]; exact ok (hw _ (.inl h.1))
   ·rw [e]; exact ok (hw _ (.inl h.2))
  ·rcases e with e | e
   ·rw [e]; exact ok (hw _ (.inr h.1))
   ·rw [e]; exact ok (hw _ (.inr h.2))
include T
theorem Gp : (rs.map txt).map j_ = cP rs := by
 unfold cP
 rw [List.map_map]
 refine List.map_congr_left fun x hx => ?_
 obtain ⟨h1, h2, _, h3, _⟩ := uc G (T.is x hx)
 show j_ (x.1 ++ (" " : Str) ++ Str.join (" " : Str) x.2) = _
 unfold j_
 rw [vC h2, vD h3 fun w hw => (h1 w hw).1]
theorem z7 {w : Str} (h : w ∈ R.carriers) : isLetter w = true := by
 rw [G.car] at h
 obtain ⟨k, _, e⟩ := List.mem_map.mp h
 rw [← e]; exact kj _ _
theorem ud {k : Str} {r : List Str} : (k :: r) ∈ cP rs ↔ (k, r) ∈ rs := by
 unfold cP
 rw [List.mem_map]
 constructor
 ·rintro ⟨⟨k', r'⟩, h, e⟩
  cases e; exact h
 ·intro h; exact ⟨_, h, rfl⟩
theorem oO {r : List Str} (h : (("carry" : Str), r) ∈ rs) : fD (("carry" : Str) :: r) = true /\ ∀ w ∈ r, w ∈ R.carriers := by
 have hi := T.is _ h
 generalize hx : ((("carry" : Str), r) : Str × List Str) = x at hi
 cases hi with
 | carry h1 h2 =>
  cases hx
  refine ⟨?_, h2⟩
  simp [fD]
  exact ⟨List.length_pos_iff.mpr h1, fun w hw => z7 G T (h2 w hw)⟩
 | _ => exact absurd (Prod.mk.inj hx).1 (by decide +kernel)
theorem mH (y : Str) : y ∈ aH (cP rs) ↔ y ∈ R.carriers := by
 unfold aH
 rw [zx]
 constructor
 ·rintro ⟨r, h1, h2⟩
  have h1 := (ud G T).mp (List.mem_filter.mp h1).1
  exact (oO G T h1).2 y h2
 ·intro h
  obtain ⟨r, h1, h2⟩ := T.carry y h
  exact ⟨r, List.mem_filter.mpr ⟨(ud G T).mpr h1, (oO G T h1).1⟩, h2⟩
theorem Gq {w : Str} (h : w ∈ R.pairs) : pairOf (inS (aH (cP rs))) w = true := by
 obtain ⟨a, ha, b, hb, e⟩ := G.prs w h
 have ca := ha; have cb := hb
 rw [G.car] at ha hb
 obtain ⟨i, _, ea⟩ := List.mem_map.mp ha
 obtain ⟨j, _, eb⟩ := List.mem_map.mp hb
 have ec : w.cps.toList = [ltn R.base i, ltn R.base j] := by
  rw [e, ← ea, ← eb, oE]; rfl
 unfold pairOf
 rw [ec]
 simp only [inS, Bool.and_eq_true, decide_eq_true_eq]
 rw [mH G T, mH G T]
 exact ⟨by rw [← ea] at ca; exact ca, by rw [← eb] at cb; exact cb⟩
theorem sr {r : List Str} (h : (("one" : Str), r) ∈ rs) : iK (inS (aH (cP rs))) (("one" : Str) :: r) = true /\ ∀ w ∈ r, w ∈ R.pairs := by
 have hi := T.is _ h
 generalize hx : ((("one" : Str), r) : Str × List Str) = x at hi
 cases hi with
 | one h1 h2 =>
  cases hx
  refine ⟨?_, h2⟩
  simp [iK]
  exact ⟨List.length_pos_iff.mpr h1, fun w hw => Gq G T (h2 w hw)⟩
 | _ => exact absurd (Prod.mk.inj hx).1 (by decide +kernel)
theorem z8 (y : Str) : y ∈ pairsOf (cP rs) ↔ y ∈ R.pairs := by
 unfold pairsOf
 rw [zx]
 constructor
 ·rintro ⟨r, h1, h2⟩
  have h1 := (ud G T).mp (List.mem_filter.mp h1).1
  exact (sr G T h1).2 y h2
 ·intro h
  obtain ⟨r, h1, h2⟩ := T.one y h
  exact ⟨r, List.mem_filter.mpr ⟨(ud G T).mpr h1, (sr G T h1).1⟩, h2⟩
theorem yF {w : Str} (h : w ∈ R.carriers ++ R.pairs) : w ∈ aH (cP rs) ++ pairsOf (cP rs) := by
 rw [List.mem_append] at h ⊢
 exact h.imp (mH G T w).mpr (z8 G T w).mpr
theorem Ce (n : Int) : iM (inS (aH (cP rs))) (lq R.base R.many n) = true := by
 have hl := uK R.base R.many n
 have m1 := G.m1; have m7 := G.m7
 simp only [iM, Bool.and_eq_true, decide_eq_true_eq]
 refine ⟨⟨by omega, by omega⟩, ?_⟩
 rw [List.all_eq_true]
 intro c hc
 rw [qg] at hc
 obtain ⟨k, _, e⟩ := List.mem_map.mp hc
 have hd := Ij n k
 simp only [j9, Bool.and_eq_true, Bool.not_eq_true', inS, decide_eq_false_iff_not]
 rw [← e]
 refine ⟨kj _ _, fun hm => ?_⟩
 rw [mH G T, G.car] at hm
 obtain ⟨j, hj, ej⟩ := List.mem_map.mp hm
 have hj := List.mem_range.mp hj
 have := qe (c := R.base) (j := (j : Nat)) (k := (R.many : Int) + dg n k) (by omega) (by omega) (by omega) (by omega) ej
 omega
theorem z9 {w : Str} (h : StopW R w) : j9 (inS (aH (cP rs))) w = true := by
 obtain ⟨i, hi, e⟩ := h
 have m1 := G.m1; have m7 := G.m7
 simp only [j9, Bool.and_eq_true, Bool.not_eq_true', inS, decide_eq_false_iff_not]
 rw [e]
 refine ⟨kj _ _, fun hm => ?_⟩
 rw [mH G T, G.car] at hm
 obtain ⟨j, hj, ej⟩ := List.mem_map.mp hm
 have hj := List.mem_range.mp hj
 have := qe (c := R.base) (j := (j : Nat)) (k := (R.many : Int) + (i : Nat)) (by omega) (by omega) (by omega) (by omega) ej
 omega
theorem Lw {x : Str × List Str} (hx : x ∈ rs) : cF (inS (aH (cP rs))) (aH (cP rs) ++ pairsOf (cP rs)) (x.1 :: x.2) = true := by
 have hi := T.is x hx
 have lo := uc G hi
 cases hi with
 | carry h1 h2 => simp [cF]; exact (oO G T hx).1
 | one h1 h2 =>
  dsimp only [cF]
  rw [if_neg (by decide +kernel), if_pos rfl]
  exact (sr G T hx).1
 | long h1 h2 =>
  dsimp only [cF]
  rw [if_neg (by decide +kernel), if_neg (by decide +kernel), if_pos (.inl rfl)]
  simp only [Bool.and_eq_true, decide_eq_true_eq, List.all_eq_true]
  exact ⟨List.length_pos_iff.mpr h1, fun w hw => yF G T (G.lng w (h2 w hw))⟩
 | either h1 h2 =>
  dsimp only [cF]
  rw [if_neg (by decide +kernel), if_neg (by decide +kernel), if_pos (.inr rfl)]
  simp only [Bool.and_eq_true, decide_eq_true_eq, List.all_eq_true]
  exact ⟨List.length_pos_iff.mpr h1, fun w hw => yF G T (G.eth w (h2 w hw))⟩
 | begin h1 h2 =>
  dsimp only [cF]
  rw [if_neg (by decide +kernel), if_neg (by decide +kernel), if_neg (by decide +kernel), if_pos (.inl rfl)]
  simp only [Bool.and_eq_true, decide_eq_true_eq, List.all_eq_true]
  exact ⟨List.length_pos_iff.mpr h1, fun w hw => by obtain ⟨n, e⟩ := G.beg w (h2 w hw); rw [e]; exact Ce G T n⟩
 | split h1 h2 =>
  dsimp only [cF]
  rw [if_neg (by decide +kernel), if_neg (by decide +kernel), if_neg (by decide +kernel), if_pos (.inr rfl)]
  simp only [Bool.and_eq_true, decide_eq_true_eq, List.all_eq_true]
  exact ⟨List.length_pos_iff.mpr h1, fun w hw => by obtain ⟨n, e⟩ := G.spl w (h2 w hw); rw [e]; exact Ce G T n⟩
 | run hr =>
  dsimp only [cF]
  rw [if_neg (by decide +kernel), if_neg (by decide +kernel), if_neg (by decide +kernel), if_neg (by decide +kernel), if_pos rfl]
  rcases G.run with h | h
  ·exact absurd h hr
  ·simp; exact h
 | @alike a b h =>
  dsimp only [cF]
  rw [if_neg (by decide +kernel), if_neg (by decide +kernel), if_neg (by decide +kernel), if_neg (by decide +kernel), if_neg (by decide +kernel)]
  simp only [jb, Bool.and_eq_true, Bool.or_eq_true, decide_eq_true_eq, List.all_eq_true]
  refine ⟨trivial, rfl, ?_⟩
  rcases h with h | h
  ·refine .inl fun w hw => ?_
   have e : w = a \/ w = b := by simpa using hw
   rcases e with e | e
   ·rw [e]; exact yF G T h.1
   ·rw [e]; exact yF G T h.2
  ·refine .inr fun w hw => ?_
   have e : w = a \/ w = b := by simpa using hw
   rcases e with e | e
   ·rw [e]; exact z9 G T h.1
   ·rw [e]; exact z9 G T h.2
theorem PJ : RowsOk (cP rs) := by
 have hn := T.n
 have hlen : (cP rs).length <= 150 := by unfold cP; rw [List.length_map]; exact hn
 refine ⟨by omega, fun ws hws => ?_, ?_, fun ws hws => ?_⟩
 ·obtain ⟨x, hx, e⟩ := List.mem_map.mp hws
  obtain ⟨h1, h2, h3, h4, _⟩ := uc G (T.is x hx)
  have := T.len x hx
  rw [← e]
  exact ⟨by simp, by simp; omega, fun w hw => by
   rcases List.mem_cons.mp hw with z | z
   ·rw [z]; omega
   ·have := (h1 w z).2.1; omega⟩
 ·have gen : ∀ l : List (List Str), (∀ ws ∈ l, ws.length <= 21) -> total l <= 21 * l.length := by
   intro l
   induction l with
   | nil => intro _; simp [total]
   | cons ws l ih =>
    intro h
    have h1 := ih fun y hy => h y (List.mem_cons_of_mem _ hy)
    have h2 := h ws List.mem_cons_self
    unfold total at *
    simp; omega
  have := gen (cP rs) fun ws hws => by
   obtain ⟨x, hx, e⟩ := List.mem_map.mp hws
   have := T.len x hx
   rw [← e]; simp; omega
  omega
 ·obtain ⟨x, hx, e⟩ := List.mem_map.mp hws
  rw [← e]; exact Lw G T hx
theorem Lx {x : Str × List Str} (hx : x ∈ rs) : (txt x).length <= 1000 := by
 obtain ⟨h1, h2, h3, h4, _⟩ := uc G (T.is x hx)
 have hl := T.len x hx
 unfold txt
 rw [g8, g8]
 have hj := StrLaws.join_length_le (" " : Str) x.2
 have hs : (x.2.map (·.length)).sum <= 10 * x.2.length := by
  have gen : ∀ l : List Str, (∀ w ∈ l, w.length <= 10) -> (l.map (·.length)).sum <= 10 * l.length := by
   intro l
   induction l with
   | nil => intro _; simp
   | cons w l ih =>
    intro h
    have := ih fun y hy => h y (List.mem_cons_of_mem _ hy)
    have := h w List.mem_cons_self
    simp; omega
  exact gen x.2 fun w hw => (h1 w hw).2.1
 have hb : (" " : Str).length = 1 := rY
 rw [hb] at hj ⊢
 omega
theorem made : cD [.lst ((rs.map txt).map .str)] = some (aF (cP rs)) := by
 have h := Lf (zs := rs.map txt) (fun z hz => by obtain ⟨x, hx, e⟩ := List.mem_map.mp hz; rw [← e]; exact Lx G T hx) (by rw [Gp G T]; exact PJ G T)
 rw [Gp G T] at h
 exact h
end
end My
namespace My
open PySem L2 MR
section
variable {R : Rc} {rs : List (Str × List Str)} (G : R.Good) (T : Tells R rs)
include G T
end
end My
namespace My
open PySem L2 MR
theorem Cg (a b : Str) (ks : List (Str × Str)) : inP (.tup [.str a, .str b]) (.dT (sdT ks)) = some (decide ((a, b) ∈ ks)) := by
 have h := zN (a, b) ks
 unfold pk at h
 simp only [inP, keysOf, keyOf, Option.map_some, h]
 by_cases h : (a, b) ∈ ks <;> simp [h]
section
variable {R : Rc} {rs : List (Str × List Str)} (G : R.Good) (T : Tells R rs)
include G T
end
end My
namespace My
open PySem L2 MR
theorem wz {ws : List Str} (h : ∀ w ∈ ws, PyData.strOk w = true) : eqP (.lst (ws.map .str)) (.lst []) = some (decide (ws = [])) := by
 have := uM (xs := ws) (ys := []) h (by simp)
 exact this
theorem mJ {l : List Str} (h : l ≠ []) (n : Int) : atI (l.map PV.str) (n % (l.length : Int)) = some (.str (pick l (n % (l.length : Int)))) /\ pick l (n % (l.length : Int)) ∈ l /\ (0 : Int) < (l.length : Int) /\ 0 < l.length := by
 have h0 : 0 < l.length := List.length_pos_iff.mpr h
 have h1 : (0 : Int) < (l.length : Int) := by omega
 exact ⟨pL (Int.emod_nonneg _ (by omega)) (Int.emod_lt_of_pos _ h1), jE (Int.emod_nonneg _ (by omega)) (Int.emod_lt_of_pos _ h1), h1, h0⟩
theorem wA {f g : MR.Env -> Option Out} {env : MR.Env} {p : PV} (h : f env = some (.rt p)) : aL f g env = some (.rt p) := by simp [h]
theorem sy {R : Rc} {n a i : Int} {m : PV} {ws : List Str} (hws : ∀ w ∈ ws, PyData.strOk w = true) (hb : ixP (aJ R) (.int i) = some (.lst (ws.map .str))) :
  sIf (tA (tV (b2 eqQ (bV 3) (bC (.int a)))) (tV (b2 neQ (b2 ixP (bV 0) (bC (.int i))) (cL aB)))) (a_ (b2 ixP (b2 ixP (bV 0) (bC (.int i))) (b2 bU (bV 4) (b1 lenV (b2 ixP (bV 0) (bC (.int i))))))) sNx [some (aJ R), some (.int n), some m, some (.int (n % 7)), some (.int (n / 7))] =
   if n % 7 = a /\ ws ≠ [] then some (.rt (.str (pick ws (n / 7 % (ws.length : Int))))) else some (.nx [some (aJ R), some (.int n), some m, some (.int (n % 7)), some (.int (n / 7))]) := by
 have e1 := wz hws
 have g0 : b2 ixP (bV 0) (bC (.int i)) [some (aJ R), some (.int n), some m, some (.int (n % 7)), some (.int (n / 7))] = some (.lst (ws.map .str)) := hb
 have g3 : tV (b2 eqQ (bV 3) (bC (.int a))) [some (aJ R), some (.int n), some m, some (.int (n % 7)), some (.int (n / 7))] = some (decide (n % 7 = a)) := by simp
 have g4 : tV (b2 neQ (b2 ixP (bV 0) (bC (.int i))) (cL aB)) [some (aJ R), some (.int n), some m, some (.int (n % 7)), some (.int (n / 7))] = some (!decide (ws = [])) := by
  rw [Jz, jT, g0]
  simp [e1]
 rw [Oi, QK, g3]
 by_cases h : n % 7 = a
 ·by_cases hw : ws = []
  ·simp only [h, hw, decide_true, Option.bind_some, if_true, ne_eq, not_true, and_false, if_false]
   rw [← h, g4]
   simp [hw]
  ·obtain ⟨a1, _, _, a4⟩ := mJ hw (n / 7)
   rw [if_pos ⟨h, hw⟩, decide_eq_true h]
   simp only [Option.bind_some, if_true]
   rw [g4, decide_eq_false hw]
   simp only [Bool.not_false, Option.bind_some, if_true]
   rw [Bu, jT, g0, jT, yu, g0]
   simp [a1, a4]
 ·rw [decide_eq_false h, if_neg (fun z => h z.1)]
  simp
theorem z_ {R : Rc} (G : R.Good) (n : Int) : ∃ w, cV [aJ R, .int n] = some (.str w) /\ Low w := by
 have Lo := G.lo
 have m1 := G.m1
 have lc : R.carriers.length = R.many := by rw [G.car]; simp
 have nc : R.carriers ≠ [] := fun e => by rw [e] at lc; simp at lc; omega
 obtain ⟨c1, c2, c3, c4⟩ := mJ nc (n / 7)
 have p1 := sy (R := R) (n := n) (a := 4) (i := 4) (m := .int R.many) (fun w hw => (Lo.b w hw).ok) rfl
 have p2 := sy (R := R) (n := n) (a := 5) (i := 5) (m := .int R.many) (fun w hw => (Lo.s w hw).ok) rfl
 have p3 := sy (R := R) (n := n) (a := 6) (i := 1) (m := .int R.many) (fun w hw => (Lo.p w hw).ok) rfl
 have z1 : aN 2 (b1 lenV (b2 ixP (bV 0) (bC (.int 0)))) [some (aJ R), some (.int n), none, none, none] = some (.nx [some (aJ R), some (.int n), some (.int R.many), none, none]) := by simp [aJ, bR, lc]
 have z2 : aN 3 (b2 bU (bV 1) (bC (.int 7))) [some (aJ R), some (.int n), some (.int R.many), none, none] = some (.nx [some (aJ R), some (.int n), some (.int R.many), some (.int (n % 7)), none]) := by simp
 have z3 : aN 4 (b2 eV (bV 1) (bC (.int 7))) [some (aJ R), some (.int n), some (.int R.many), some (.int (n % 7)), none] = some (.nx [some (aJ R), some (.int n), some (.int R.many), some (.int (n % 7)), some (.int (n / 7))]) := by simp
 have out : ∀ {w : Str}, cU [some (aJ R), some (.int n), none, none, none] = some (.rt (.str w)) -> cV [aJ R, .int n] = some (.str w) := fun {w} e => by simp [cV, e]
 by_cases h4 : n % 7 = 4 /\ R.begins ≠ []
 ·rw [if_pos h4] at p1
  refine ⟨_, out ?_, Lo.b _ (mJ h4.2 (n / 7)).2.1⟩
  unfold cU
  rw [aG z1, aG z2, aG z3, wA p1]
 rw [if_neg h4] at p1
 by_cases h5 : n % 7 = 5 /\ R.splits ≠ []
 ·rw [if_pos h5] at p2
  refine ⟨_, out ?_, Lo.s _ (mJ h5.2 (n / 7)).2.1⟩
  unfold cU
  rw [aG z1, aG z2, aG z3, aG p1, wA p2]
 rw [if_neg h5] at p2
 by_cases h6 : n % 7 = 6 /\ R.pairs ≠ []
 ·rw [if_pos h6] at p3
  refine ⟨_, out ?_, Lo.p _ (mJ h6.2 (n / 7)).2.1⟩
  unfold cU
  rw [aG z1, aG z2, aG z3, aG p1, aG p2, wA p3]
 rw [if_neg h6] at p3
 rw [lc] at c1 c2 c3 c4
 by_cases h3 : n % 7 < 3
 ·refine ⟨_, ?_, Lo.c _ c2⟩
  have e : cU [some (aJ R), some (.int n), none, none, none] = some (.rt (.str (pick R.carriers (n / 7 % (R.many : Int))))) := by
   unfold cU
   rw [aG z1, aG z2, aG z3, aG p1, aG p2, aG p3]
   simp [h3, aJ, bR, c1, c4]
  simp [cV, e]
 ·refine ⟨letter R.base ((R.many : Int) + n / 7 % 5), ?_, qi _ _⟩
  have e : cU [some (aJ R), some (.int n), none, none, none] = some (.rt (.str (letter R.base ((R.many : Int) + n / 7 % 5)))) := by
   unfold cU
   rw [aG z1, aG z2, aG z3, aG p1, aG p2, aG p3]
   simp [h3, aJ, tZ]
  simp [cV, e]
def LowT (w : Str) : Prop := ∀ c ∈ w.cps.toList, 97 <= c /\ c < 123
theorem LowT.ok {w : Str} (h : LowT w) : PyData.strOk w = true := by
 unfold PyData.strOk
 rw [← Array.all_toList, List.all_eq_true]
 intro c hc
 have := h c hc
 simp; omega
theorem km (x : Str) (lo hi : Option Int) : (bI x lo hi).cps.toList = (x.cps.toList.drop (HT.sIx x.length 0 lo)).take (HT.sIx x.length x.length hi - HT.sIx x.length 0 lo) := by simp [bI]
theorem LowT.cut {w : Str} (h : LowT w) (lo hi : Option Int) : LowT (bI w lo hi) := fun c hc => by
 rw [km] at hc
 exact h c (List.mem_of_mem_drop (List.mem_of_mem_take hc))
theorem Ip (x : Str) (lo hi : Option Int) : (bI x lo hi).length <= x.length := by
 have h := congrArg List.length (km x lo hi)
 have h1 : (bI x lo hi).cps.toList.length = (bI x lo hi).length := Array.length_toList
 have h2 : x.cps.toList.length = x.length := Array.length_toList
 rw [h1, List.length_take, List.length_drop, h2] at h
 omega
theorem qj (x : Str) (k : Nat) : (bI x none (some (k : Int))).length <= k := by
 have h := congrArg List.length (km x none (some (k : Int)))
 have h1 : (bI x none (some (k : Int))).cps.toList.length = (bI x none (some (k : Int))).length := Array.length_toList
 rw [h1, List.length_take, HT.sIx_nat, HT.sIx_none] at h
 omega
theorem LowT.app {a b : Str} (ha : LowT a) (hb : LowT b) : LowT (a ++ b) := fun c hc => by
 rw [oE] at hc
 exact (List.mem_append.mp hc).elim (ha c) (hb c)
theorem Low.t {w : Str} (h : Low w) : LowT w := h.codes
theorem Aa : LowT ("" : Str) := fun c hc => by
 have : ("" : Str).cps.toList = [] := by decide +kernel
 rw [this] at hc; cases hc
theorem xN {α : Type} : ∀ ys : List α, (ys.map fun _ => 0).sum = 0
 | [] => rfl
 | _ :: ys => by simp [xN ys]
theorem PK : eqP (.lst []) (.lst []) = some true := by
 have := wz (ws := []) (by simp)
 simpa using this
structure WordR (R : Rc) (w : Str) : Prop where
 t : LowT w
 l : w.length <= 24
 c : ∃ s ∈ w.cps.toList, (⟨#[s]⟩ : Str) ∈ R.carriers
theorem Ly {R : Rc} (G : R.Good) (c : Int) : ∃ w, fj [aJ R, .int c] = some (.str w) /\ WordR R w := by
 have Lo := G.lo
 have m1 := G.m1
 have lc : R.carriers.length = R.many := by rw [G.car]; simp
 have nc : R.carriers ≠ [] := fun e => by rw [e] at lc; simp at lc; omega
 obtain ⟨c1, c2, c3, c4⟩ := mJ nc (c / 9)
 let pc : Int -> Str := fun n => Classical.choose (z_ G n)
 have hpc : ∀ n, cV [aJ R, .int n] = some (.str (pc n)) /\ Low (pc n) := fun n => Classical.choose_spec (z_ G n)
 obtain ⟨m, hm⟩ : ∃ m : Nat, 1 + c % 9 = (m : Int) := ⟨(1 + c % 9).toNat, by omega⟩
 have hm9 : m <= 9 := by omega
 have hr : rgI (m : Int) = true := rG (by omega) (by omega)
 let stp' : Str -> Nat -> Str := fun w k => bI (w ++ pc (mx (c / 9) k)) none (some 24)
 have inv : ∀ (l : List Nat) (w : Str), (LowT w /\ w.length <= 24) -> LowT (l.foldl stp' w) /\ (l.foldl stp' w).length <= 24 := by
  intro l
  induction l with
  | nil => intro w h; exact h
  | cons k l ih => intro w h; exact ih _ ⟨(h.1.app (hpc _).2.t).cut _ _, qj _ 24⟩
 have hl := rT (g := gN 3) (ds := [3]) (body := iW) (fun k : Nat => PV.int (k : Nat)) (fun w : Str => [some (aJ R), some (.int c), some (.str w), none]) stp' (fun _ => 0) (fun _ => 0) 0 (fun w => LowT w /\ w.length <= 24) (List.range m) ("" : Str)
  ⟨Aa, by decide +kernel⟩ (by rw [xN]; exact Nat.le_refl _) fun k hk w hw _ => ⟨Nat.zero_le _, ⟨(hw.1.app (hpc _).2.t).cut _ _, qj _ 24⟩, by
   have hk := List.mem_range.mp hk
   have hmx := rR (c / 9) (k := k) (by omega)
   have hp := (hpc (mx (c / 9) k)).1
   have l4 := (hpc (mx (c / 9) k)).2.l4
   have a1 : w.length + (pc (mx (c / 9) k)).length <= 1000000 := by have := hw.2; omega
   have a2 : (w ++ pc (mx (c / 9) k)).length <= 1000000 := by rw [g8]; exact a1
   simp [jO, iW, hmx, hp, a1, a2, stp']⟩
 obtain ⟨hT, h24⟩ := inv (List.range m) ("" : Str) ⟨Aa, by decide +kernel⟩
 generalize (List.range m).foldl stp' ("" : Str) = w at hl hT h24
 have s1 : aN 2 (bC (.str "")) [some (aJ R), some (.int c), none, none] = some (.nx [some (aJ R), some (.int c), some (.str ""), none]) := by simp
 have s2 : gf (gN 3) (iR1 (b2 bN (bC (.int 1)) (b2 bU (bV 1) (bC (.int 9))))) [3] iW [some (aJ R), some (.int c), some (.str ""), none] = some (.nx [some (aJ R), some (.int c), some (.str w), none]) := by
  rw [← gZ] at hl
  simp [hm, hr]
  exact hl
 let cr : List Nat := w.cps.toList.filter fun s => decide ((⟨#[s]⟩ : Str) ∈ R.carriers)
 have hc : bz [none, some (aJ R)] (gN 0) dR dO (chV w) = some ((cr.map fun s => (⟨#[s]⟩ : Str)).map .str) := by
  rw [mF]
  have h := cR (env := [none, some (aJ R)]) (g := gN 0) (t := dR) (f := dO) (fun s : Nat => PV.str ⟨#[s]⟩) (fun s => PV.str ⟨#[s]⟩) (fun s => decide ((⟨#[s]⟩ : Str) ∈ R.carriers)) w.cps.toList fun s hs => ⟨_, rfl, by
   have i1 := uI ⟨#[s]⟩ R.carriers
   simp [dR, aJ, bR, i1], fun _ => by simp [dO]⟩
  rw [h, List.map_map]; rfl
 have hwl : w.cps.toList.length = w.length := Array.length_toList
 have hcl : (chV w).length <= 1000000 := by unfold chV; rw [List.length_map, hwl]; omega
 have okc : ∀ x ∈ cr.map (fun s => (⟨#[s]⟩ : Str)), PyData.strOk x = true := fun x hx => by
  obtain ⟨s, hs, e⟩ := List.mem_map.mp hx
  have hs := (List.mem_filter.mp hs).1
  rw [← e]
  exact LowT.ok (w := ⟨#[s]⟩) fun c hc => by
   have : c = s := by simpa using hc
   rw [this]; exact hT s hs
 have en := wz okc
 by_cases hcr : cr = []
 ·let w2 : Str := bI w none (some 23) ++ pick R.carriers (c / 9 % (R.carriers.length : Int))
  have k1 : (pick R.carriers (c / 9 % (R.carriers.length : Int))).length = 1 := by
   have := c2; rw [G.car] at this; obtain ⟨k, _, e⟩ := List.mem_map.mp this
   rw [← G.car] at e
   rw [← e]; rfl
  have s3 : sIf (tV (b2 eqQ (aY [none, some 0] (iV (bV 2)) (gN 0) dR dO) (cL aB))) (aN 2 (b2 bN (bSl (bV 2) oN (oS (bC (.int 23)))) (b2 ixP (b2 ixP (bV 0) (bC (.int 0))) (b2 bU (b2 eV (bV 1) (bC (.int 9))) (b1 lenV (b2 ixP (bV 0) (bC (.int 0)))))))) sNx [some (aJ R), some (.int c), some (.str w), none] =
    some (.nx [some (aJ R), some (.int c), some (.str w2), none]) := by
   have a1 : w.length <= 1000000 := by omega
   have a2 : (bI w none (some 23)).length + (pick R.carriers (c / 9 % (R.carriers.length : Int))).length <= 1000000 := by have := Ip w none (some 23); omega
   rw [hcr] at hc en
   have hc' : bz [none, some (aJ R)] (gN 0) dR dO (chV w) = some [] := hc
   simp [hc', hcl, PK]
   simp [aJ, bR, c1, c4, a1, a2, w2]
  refine ⟨w2, ?_, ⟨(hT.cut _ _).app (Lo.c _ c2).t, ?_, ?_⟩⟩
  ·have e : iH [some (aJ R), some (.int c), none, none] = some (.rt (.str w2)) := by
    unfold iH
    rw [aG s1, aG s2, aG s3]; simp
   simp [fj, e]
  ·have := qj w 23
   show (bI w none (some 23) ++ _).length <= 24
   rw [g8]
   have h23 : (bI w none (some 23)).length <= 23 := this
   omega
  ·have hc2 := c2
   rw [G.car] at hc2
   obtain ⟨k, _, e⟩ := List.mem_map.mp hc2
   rw [← G.car] at e
   refine ⟨ltn R.base k, ?_, ?_⟩
   ·show ltn R.base k ∈ (bI w none (some 23) ++ pick R.carriers (c / 9 % (R.carriers.length : Int))).cps.toList
    rw [oE, ← e]
    simp [letter]
   ·have : (⟨#[ltn R.base k]⟩ : Str) = letter R.base k := rfl
    rw [this, e]; exact c2
 ·have s3 : sIf (tV (b2 eqQ (aY [none, some 0] (iV (bV 2)) (gN 0) dR dO) (cL aB))) (aN 2 (b2 bN (bSl (bV 2) oN (oS (bC (.int 23)))) (b2 ixP (b2 ixP (bV 0) (bC (.int 0))) (b2 bU (b2 eV (bV 1) (bC (.int 9))) (b1 lenV (b2 ixP (bV 0) (bC (.int 0)))))))) sNx [some (aJ R), some (.int c), some (.str w), none] =
    some (.nx [some (aJ R), some (.int c), some (.str w), none]) := by
   have hne : ¬ (cr.map fun s => (⟨#[s]⟩ : Str)) = [] := by simpa using hcr
   rw [decide_eq_false hne] at en
   generalize (cr.map fun s => (⟨#[s]⟩ : Str)) = zz at hc en
   simp [hc, hcl, en]
  refine ⟨w, ?_, ⟨hT, h24, ?_⟩⟩
  ·have e : iH [some (aJ R), some (.int c), none, none] = some (.rt (.str w)) := by
    unfold iH
    rw [aG s1, aG s2, aG s3]; simp
   simp [fj, e]
  ·obtain ⟨s, hs⟩ := List.exists_mem_of_ne_nil _ hcr
   have hs := List.mem_filter.mp hs
   exact ⟨s, hs.1, by simpa using hs.2⟩
end My
namespace My
open PySem L2 MR
theorem qp (cut : List (List Str)) (x : Str) : cH [.obj 0 (aF cut), .str x] = some (.bl (decide (x ∈ aH cut))) := by
 simp [cH, lO, Dr, vq]
theorem xO (cut : List (List Str)) (x : Str) : dZ [.obj 0 (aF cut), .str x] = some (.bl (decide (x ∈ pairsOf cut))) := by
 simp [dZ, lQ, Lh, vq]
theorem qu (cut : List (List Str)) : List.lookup ("carries" : Str) (aF cut) = none := rfl
theorem xP (cut : List (List Str)) : List.lookup ("is_pair" : Str) (aF cut) = none := rfl
theorem Dv {c : MR.Env -> Option Bool} {ds : List Nat} {body : MR.Env -> Option Out} {n : Nat} {env e : MR.Env} (h : c env = some true) (h' : body env = some (.nx e)) : jq c ds body (n + 1) env = jq c ds body n (clr ds e) := by simp [jq, h, h']
theorem vI {c : MR.Env -> Option Bool} {ds : List Nat} {body : MR.Env -> Option Out} {n : Nat} {env : MR.Env} (h : c env = some false) : jq c ds body (n + 1) env = some (.nx env) := by simp [jq, h]
section
variable {R : Rc} (G : R.Good)
def ctU (w : Str) (a : Nat) (k : Nat) : Str := bI w (some (a : Int)) (some ((a : Int) + (k : Int)))
def szU (R : Rc) (w : Str) (a : Nat) : Nat := if ctU w a 2 ∈ R.pairs then 2 else 1
def un (R : Rc) (w : Str) : Nat -> Nat -> List Str
 | 0, _ => []
 | n + 1, a => if a < w.length then ctU w a (szU R w a) :: un R w n (a + szU R w a) else []
theorem Ci (w : Str) (a : Nat) : 1 <= szU R w a := by unfold szU; split <;> omega
include G
theorem Ab {x : Str} (h : x ∈ R.pairs) : x.length = 2 := by
 obtain ⟨a, ha, b, hb, e⟩ := G.prs x h
 rw [G.car] at ha hb
 obtain ⟨i, _, ea⟩ := List.mem_map.mp ha
 obtain ⟨j, _, eb⟩ := List.mem_map.mp hb
 rw [e, g8, ← ea, ← eb]; rfl
theorem Gr {w : Str} {a : Nat} (h : a < w.length) : a + szU R w a <= w.length := by
 unfold szU
 split
 ·rename_i hm
  have h2 := Ab G hm
  have hl := congrArg List.length (km w (some (a : Int)) (some ((a : Int) + 2)))
  have h1 : (bI w (some (a : Int)) (some ((a : Int) + 2))).cps.toList.length = (bI w (some (a : Int)) (some ((a : Int) + 2))).length := Array.length_toList
  have h3 : (bI w (some (a : Int)) (some ((a : Int) + 2))).length = 2 := h2
  have e2 : (some ((a : Int) + 2)) = some (((a + 2 : Nat)) : Int) := rfl
  rw [h1, h3, List.length_take, e2, HT.sIx_nat, HT.sIx_nat] at hl
  omega
 ·omega
variable {cut : List (List Str)} (hc : ∀ y, y ∈ aH cut ↔ y ∈ R.carriers) (hp : ∀ y, y ∈ pairsOf cut ↔ y ∈ R.pairs)
include hc
theorem xQ {w : Str} (W : WordR R w) : aV [.obj 0 (aF cut), .str w] = some (.bl true) := by
 have hl := W.l
 have h6 : w.length <= 1000000 := by omega
 have hwl : w.cps.toList.length = w.length := Array.length_toList
 have hcl : (chV w).length <= 1000000 := by unfold chV; rw [List.length_map, hwl]; omega
 have h24 : ¬ (24 : Int) < (w.length : Int) := by omega
 have h24' : ¬ 24 < w.length := by omega
 have k1 : bz [none] (gN 0) aU fu (chV w) = some ((w.cps.toList.map fun _ => true).map .bl) := by
  rw [mF]
  have h := bx (env := [none]) (g := gN 0) (f := fu) (fun s : Nat => PV.str ⟨#[s]⟩) (fun _ => .bl true) w.cps.toList fun s hs => ⟨_, rfl, by
   have h1 := ou (x := ⟨#[s]⟩) (by show 1 <= 1000; decide)
   rw [qU (W.t s hs).1 (W.t s hs).2] at h1
   simp [fu, h1]⟩
  rw [h, List.map_map]; rfl
 have k2 : bz [none, some (.obj 0 (aF cut))] (gN 0) aU fB (chV w) = some ((w.cps.toList.map fun s => decide ((⟨#[s]⟩ : Str) ∈ aH cut)).map .bl) := by
  rw [mF]
  have h := bx (env := [none, some (.obj 0 (aF cut))]) (g := gN 0) (f := fB) (fun s : Nat => PV.str ⟨#[s]⟩) (fun s => .bl (decide ((⟨#[s]⟩ : Str) ∈ aH cut))) w.cps.toList fun s hs => ⟨_, rfl, by
   simp [fB, qu, qp]⟩
  rw [h, List.map_map]; rfl
 have hany : ((w.cps.toList.map fun s => decide ((⟨#[s]⟩ : Str) ∈ aH cut)).any id) = true := by
  obtain ⟨s, hs, hm⟩ := W.c
  rw [List.any_eq_true]
  exact ⟨true, List.mem_map.mpr ⟨s, hs, decide_eq_true ((hc _).mpr hm)⟩, rfl⟩
 have hall : ((w.cps.toList.map fun _ => true).all id) = true := by
  rw [List.all_eq_true]
  intro b hb
  obtain ⟨_, _, e⟩ := List.mem_map.mp hb
  rw [← e]; rfl
 have bb : ∀ bs : List Bool, bools (bs.map PV.bl) = some bs := by
  intro bs
  induction bs with
  | nil => rfl
  | cons b bs ih => simp [bools, ih]
 generalize (w.cps.toList.map fun _ => true) = b1' at k1 hall
 generalize (w.cps.toList.map fun s => decide ((⟨#[s]⟩ : Str) ∈ aH cut)) = b2' at k2 hany
 simp [aV, dz, tb_str, h6, h24, h24', k1, k2, hcl, bb, hall, hany]
include hp
theorem Dw {w : Str} (W : WordR R w) : fY [.obj 0 (aF cut), .str w] = some (.lst ((un R w 24 0).map .str)) := by
 have hl := W.l
 have h6 : w.length <= 1000000 := by omega
 have hr : cN [.obj 0 (aF cut), .str w] = some .non := by
  have := xQ G hc W
  simp [cN, mj, this]
 have loop : ∀ (n a : Nat) (us : List Str) (N : Nat), a <= w.length -> w.length - a <= n -> n < N -> us.length + n <= 1000 ->
   jq fO [4] fM N [some (.obj 0 (aF cut)), some (.str w), some (.lst (us.map .str)), some (.int a), none] = some (.nx [some (.obj 0 (aF cut)), some (.str w), some (.lst ((us ++ un R w n a).map .str)), some (.int w.length), none]) := by
  intro n
  induction n with
  | zero =>
   intro a us N ha hn hN hu
   obtain ⟨N, rfl⟩ : ∃ M, N = M + 1 := ⟨N - 1, by omega⟩
   have e : a = w.length := by omega
   rw [vI (by simp [fO, h6, e]), e]
   simp [un]
  | succ n ih =>
   intro a us N ha hn hN hu
   obtain ⟨N, rfl⟩ : ∃ M, N = M + 1 := ⟨N - 1, by omega⟩
   by_cases h : a < w.length
   ·have hsz := Gr G h
    have hs1 := Ci (R := R) w a
    have hb : fM [some (.obj 0 (aF cut)), some (.str w), some (.lst (us.map .str)), some (.int a), none] = some (.nx [some (.obj 0 (aF cut)), some (.str w), some (.lst ((us ++ [ctU w a (szU R w a)]).map .str)), some (.int ((a + szU R w a : Nat) : Int)), some (.int (szU R w a : Nat))]) := by
     have hu' : us.length < 1000000 := by omega
     by_cases hm : ctU w a 2 ∈ R.pairs
     ·have hq : bI w (some (a : Int)) (some ((a : Int) + 2)) ∈ pairsOf cut := (hp _).mpr hm
      have hz : szU R w a = 2 := if_pos hm
      rw [hz]
      simp [fM, xP, xO, h6, hq, hu', ctU]
     ·have hq : ¬ bI w (some (a : Int)) (some ((a : Int) + 2)) ∈ pairsOf cut := fun z => hm ((hp _).mp z)
      have hz : szU R w a = 1 := if_neg hm
      rw [hz]
      simp [fM, xP, xO, h6, hq, hu', ctU]
    have hi : (a : Int) < (w.length : Int) := by omega
    rw [Dv (by simp [fO, h6, hi, h]) hb]
    have := ih (a + szU R w a) (us ++ [ctU w a (szU R w a)]) N hsz (by omega) (by omega) (by simp; omega)
    have e : un R w (n + 1) a = ctU w a (szU R w a) :: un R w n (a + szU R w a) := by
     rw [un, if_pos h]
    rw [e]
    rw [List.append_assoc, List.singleton_append] at this
    exact this
   ·have e : a = w.length := by omega
    have e2 : un R w (n + 1) a = [] := by rw [un, if_neg h]
    rw [vI (by simp [fO, h6, e]), e2, e]
    simp
 have l0 := loop 24 0 [] 1000000 (by omega) (by omega) (by omega) (by simp)
 have s1 : nR (aK cN (ak (bV 0) (ak (bV 1) aB))) [some (.obj 0 (aF cut)), some (.str w), none, none, none] = some (.nx [some (.obj 0 (aF cut)), some (.str w), none, none, none]) := by simp [hr]
 have s2 : aN 2 (cL aB) [some (.obj 0 (aF cut)), some (.str w), none, none, none] = some (.nx [some (.obj 0 (aF cut)), some (.str w), some (.lst []), none, none]) := by simp
 have s3 : aN 3 (bC (.int 0)) [some (.obj 0 (aF cut)), some (.str w), some (.lst []), none, none] = some (.nx [some (.obj 0 (aF cut)), some (.str w), some (.lst []), some (.int 0), none]) := by simp
 have s4 : vf 1000000 fO [4] fM [some (.obj 0 (aF cut)), some (.str w), some (.lst []), some (.int 0), none] = some (.nx [some (.obj 0 (aF cut)), some (.str w), some (.lst ((un R w 24 0).map .str)), some (.int w.length), none]) := by
  rw [FN]
  exact l0
 have e : oM [some (.obj 0 (aF cut)), some (.str w), none, none, none] = some (.rt (.lst ((un R w 24 0).map .str))) := by
  unfold oM
  rw [aG s1, aG s2, aG s3, aG s4]
  simp
 simp [fY, e]
end
end My
namespace My
open PySem L2 MR
def uQ (u : Str) : Str := ⟨#[u.cps.toList.headD 0]⟩
def oR (R : Rc) (u : Str) : Bool := decide (uQ u ∈ R.carriers)
section
variable {R : Rc} (G : R.Good)
theorem xR (w : Str) (a k : Nat) : (ctU w a k).cps.toList = (w.cps.toList.drop a).take k := by
 have hl : w.cps.toList.length = w.length := Array.length_toList
 unfold ctU
 rw [km, show ((a : Int) + (k : Int)) = ((a + k : Nat) : Int) from rfl, HT.sIx_nat, HT.sIx_nat]
 by_cases h : a <= w.length
 ·rw [Nat.min_eq_left h]
  by_cases h2 : a + k <= w.length
  ·rw [Nat.min_eq_left h2, Nat.add_sub_cancel_left]
  ·rw [Nat.min_eq_right (by omega)]
   rw [List.take_of_length_le (by rw [List.length_drop, hl]; omega), List.take_of_length_le (by rw [List.length_drop, hl]; omega)]
 ·have e1 : w.cps.toList.drop a = [] := List.drop_eq_nil_of_le (by omega)
  have e2 : w.cps.toList.drop (min a w.length) = [] := List.drop_eq_nil_of_le (by omega)
  rw [e1, e2]
  simp
def flat (us : List Str) : List Nat := (us.map fun u => u.cps.toList).flatten
include G
theorem Cj {w : Str} : ∀ (n a : Nat), w.length - a <= n -> a <= w.length -> flat (un R w n a) = w.cps.toList.drop a
 | 0, a, h1, h2 => by
  have hl : w.cps.toList.length = w.length := Array.length_toList
  rw [List.drop_eq_nil_of_le (by omega)]
  rfl
 | n + 1, a, h1, h2 => by
  have hl : w.cps.toList.length = w.length := Array.length_toList
  by_cases h : a < w.length
  ·have hsz := Gr G h
   have hs1 := Ci (R := R) w a
   have e : un R w (n + 1) a = ctU w a (szU R w a) :: un R w n (a + szU R w a) := by rw [un, if_pos h]
   have ih := Cj (w := w) n (a + szU R w a) (by omega) hsz
   have ef : flat (ctU w a (szU R w a) :: un R w n (a + szU R w a)) = (ctU w a (szU R w a)).cps.toList ++ flat (un R w n (a + szU R w a)) := rfl
   rw [e, ef, ih, xR, ← List.drop_drop, List.take_append_drop]
  ·have e : un R w (n + 1) a = [] := by rw [un, if_neg h]
   rw [e, List.drop_eq_nil_of_le (by omega)]
   rfl
theorem qw {w : Str} : ∀ (n a : Nat), ∀ u ∈ un R w n a, u ∈ R.pairs \/ ∃ c, u = ⟨#[c]⟩
 | 0, _, u, h => by cases h
 | n + 1, a, u, h => by
  unfold un at h
  split at h
  ·rename_i hlt
   rcases List.mem_cons.mp h with e | h
   ·by_cases hm : ctU w a 2 ∈ R.pairs
    ·have hz : szU R w a = 2 := if_pos hm
     rw [hz] at e
     rw [e]
     exact .inl hm
    ·have hz : szU R w a = 1 := if_neg hm
     rw [hz] at e
     have hl : w.cps.toList.length = w.length := Array.length_toList
     have hc := xR w a 1
     rw [List.drop_eq_getElem_cons (by omega : a < w.cps.toList.length), List.take_succ_cons, List.take_zero] at hc
     refine .inr ⟨w.cps.toList[a], ?_⟩
     rw [e]
     generalize ctU w a 1 = z at hc
     cases z with
     | mk cps =>
      congr 1
      exact Array.toList_inj.mp hc
   ·exact qw n _ u h
  ·cases h
theorem uR {u : Str} (h : u ∈ R.pairs) : oR R u = true /\ u.length = 2 := by
 refine ⟨?_, Ab G h⟩
 obtain ⟨a, ha, b, hb, e⟩ := G.prs u h
 have ha' := ha
 rw [G.car] at ha'
 obtain ⟨i, _, ea⟩ := List.mem_map.mp ha'
 have hf : uQ u = a := by
  rw [e, ← ea]
  unfold uQ
  rw [Str.cps_append, Array.toList_append]
  rfl
 unfold oR
 rw [hf]
 exact decide_eq_true ha
theorem Ir {w : Str} (W : WordR R w) : ∃ u ∈ un R w 24 0, oR R u = true := by
 obtain ⟨s, hs, hm⟩ := W.c
 have hj := Cj G (w := w) 24 0 (by have := W.l; omega) (by omega)
 rw [List.drop_zero] at hj
 rw [← hj] at hs
 obtain ⟨l, hl, hs'⟩ := List.mem_flatten.mp hs
 obtain ⟨u, hu, rfl⟩ := List.mem_map.mp hl
 refine ⟨u, hu, ?_⟩
 rcases qw G 24 0 u hu with z | ⟨c, z⟩
 ·exact (uR G z).1
 ·rw [z] at hs' ⊢
  have : s = c := by simpa using hs'
  subst this
  exact decide_eq_true hm
end
theorem Ck {α : Type} {p : α -> Bool} : ∀ {l : List α}, (∃ x ∈ l, p x = true) -> ∃ pre x post, l = pre ++ x :: post /\ p x = true /\ ∀ y ∈ post, p y = false
 | [], h => by obtain ⟨x, hx, _⟩ := h; cases hx
 | a :: l, h => by
  by_cases h2 : ∃ x ∈ l, p x = true
  ·obtain ⟨pre, x, post, e, h3, h4⟩ := Ck h2
   exact ⟨a :: pre, x, post, by rw [e]; rfl, h3, h4⟩
  ·obtain ⟨x, hx, hp⟩ := h
   rcases List.mem_cons.mp hx with e | e
   ·subst e
    refine ⟨[], x, l, rfl, hp, fun y hy => ?_⟩
    cases q : p y with
    | false => rfl
    | true => exact absurd ⟨y, hy, q⟩ h2
   ·exact absurd ⟨x, e, hp⟩ h2
theorem xT : ∀ l : List Nat, intsP (l.map fun k => PV.int (k : Nat)) = some (l.map fun k : Nat => (k : Int))
 | [] => rfl
 | k :: l => by simp [xT l]
def wB (p : Str -> Bool) (us : List Str) : List Nat := (us.zipIdx.filter fun y => p y.1).map (·.2)
theorem Iu {p : Str -> Bool} {pre post : List Str} {u : Str} (hu : p u = true) (hp : ∀ y ∈ post, p y = false) : ∃ k ks, wB p (pre ++ u :: post) = k :: ks /\ rJ ((wB p (pre ++ u :: post)).map fun k : Nat => (k : Int)) = (pre.length : Int) := by
 have e : wB p (pre ++ u :: post) = ((pre.zipIdx.filter fun y => p y.1).map (·.2)) ++ [pre.length] := by
  unfold wB
  rw [List.zipIdx_append, List.filter_append, List.zipIdx_cons, List.filter_cons_of_pos (by simpa using hu)]
  have : (post.zipIdx (0 + pre.length + 1)).filter (fun y => p y.1) = [] := by
   rw [List.filter_eq_nil_iff]
   intro y hy
   have := List.fst_mem_of_mem_zipIdx hy
   rw [hp _ this]
   decide
  rw [this]
  simp
 have hlt : ∀ k ∈ (pre.zipIdx.filter fun y => p y.1).map (·.2), k < pre.length := fun k hk => by
  obtain ⟨y, hy, rfl⟩ := List.mem_map.mp hk
  have := List.snd_lt_of_mem_zipIdx (List.mem_filter.mp hy).1
  simpa using this
 refine ?_
 obtain ⟨k, ks, hk⟩ : ∃ k ks, wB p (pre ++ u :: post) = k :: ks := by
  rw [e]
  cases ((pre.zipIdx.filter fun y => p y.1).map (·.2)) with
  | nil => exact ⟨_, _, rfl⟩
  | cons a b => exact ⟨_, _, rfl⟩
 refine ⟨k, ks, hk, wY ?_ fun a ha => ?_⟩
 ·rw [e]; simp
 ·rw [e, List.map_append] at ha
  rcases List.mem_append.mp ha with z | z
  ·obtain ⟨j, hj, rfl⟩ := List.mem_map.mp z
   have := hlt j hj
   omega
  ·have : a = (pre.length : Int) := by simpa using z
   omega
section
variable {R : Rc} (G : R.Good) {cut : List (List Str)} (hc : ∀ y, y ∈ aH cut ↔ y ∈ R.carriers) (hp : ∀ y, y ∈ pairsOf cut ↔ y ∈ R.pairs)
include G hc hp
theorem PL {w : Str} (W : WordR R w) : ∃ pre u post, un R w 24 0 = pre ++ u :: post /\ oR R u = true /\ (∀ y ∈ post, oR R y = false) /\ aQ [.obj 0 (aF cut), .str w] = some (.lst ((u :: post).map .str)) := by
 obtain ⟨pre, u, post, e, h1, h2⟩ := Ck (Ir G W)
 refine ⟨pre, u, post, e, h1, h2, ?_⟩
 have hu := Dw G hc hp W
 have hlu : (un R w 24 0).length <= 24 := by
  have gen : ∀ n a, (un R w n a).length <= n := by
   intro n
   induction n with
   | zero => intro a; simp [un]
   | succ n ih =>
    intro a
    unfold un
    split
    ·simp; exact ih _
    ·simp
  exact gen 24 0
 have hen := rK PV.str (un R w 24 0) 0
 have hcm := cR (env := [none, none, some (.obj 0 (aF cut))]) (g := gT [0, 1]) (t := lG) (f := lF) (fun y : Str × Nat => PV.tup [.int (y.2 : Nat), .str y.1]) (fun y : Str × Nat => PV.int (y.2 : Nat)) (fun y => oR R y.1) ((un R w 24 0).zipIdx 0) fun y hy => ⟨[some (.int (y.2 : Nat)), some (.str y.1), some (.obj 0 (aF cut))], by simp, by
  have hm : y.1 ∈ un R w 24 0 := List.fst_mem_of_mem_zipIdx hy
  have hix : ixP (.str y.1) (.int 0) = some (.str (uQ y.1)) := by
   have hlen : y.1.length <= 1000000 := by
    rcases qw G 24 0 y.1 hm with z | ⟨c, z⟩
    ·have := (uR G z).2; omega
    ·rw [z]; show 1 <= 1000000; decide
   have hne : ∃ c cs, y.1.cps.toList = c :: cs := by
    rcases qw G 24 0 y.1 hm with z | ⟨c, z⟩
    ·have h2 := (uR G z).2
     have hl : y.1.cps.toList.length = y.1.length := Array.length_toList
     cases q : y.1.cps.toList with
     | nil => rw [q] at hl; simp at hl; omega
     | cons c cs => exact ⟨c, cs, rfl⟩
    ·rw [z]; exact ⟨c, [], rfl⟩
   obtain ⟨c, cs, hcs⟩ := hne
   unfold uQ
   simp [hlen, hcs]
  have hcar := qp cut (uQ y.1)
  have hd : decide (uQ y.1 ∈ aH cut) = oR R y.1 := by
   unfold oR
   exact decide_eq_decide.mpr (hc _)
  rw [hd] at hcar
  simp [lG, -ixP, hix, qu, hcar], fun _ => by simp [lF]⟩
 obtain ⟨k, ks, hk, hmx⟩ := Iu (p := oR R) (pre := pre) (post := post) h1 h2
 have hidx : ((un R w 24 0).zipIdx 0 |>.filter fun y => oR R y.1).map (fun y : Str × Nat => PV.int (y.2 : Nat)) = (k :: ks).map fun k => PV.int (k : Nat) := by
  rw [← hk, e]
  unfold wB
  rw [List.map_map]
  rfl
 rw [hidx] at hcm
 have hii := xT (k :: ks)
 rw [hk] at hmx
 have hlen : (dX 0 ((un R w 24 0).map PV.str)).length <= 1000000 := by rw [hen]; simp; omega
 rw [← hen] at hcm
 have hcut : je ((un R w 24 0).map PV.str) (some (pre.length : Int)) none = (u :: post).map PV.str := by
  unfold je
  rw [HT.sIx_nat, HT.sIx_none, e]
  have hmin : min pre.length ((pre ++ u :: post).map PV.str).length = pre.length := by simp
  rw [hmin, List.map_append, List.drop_left' (by simp), List.take_of_length_le (by simp)]
 have s1 : aN 2 (aK fY (ak (bV 0) (ak (bV 1) aB))) [some (.obj 0 (aF cut)), some (.str w), none, none] = some (.nx [some (.obj 0 (aF cut)), some (.str w), some (.lst ((un R w 24 0).map .str)), none]) := by simp [hu]
 have s2 : aN 3 (b1 tK (aY [none, none, some 0] (iE (bV 2)) (gT [0, 1]) lG lF)) [some (.obj 0 (aF cut)), some (.str w), some (.lst ((un R w 24 0).map .str)), none] = some (.nx [some (.obj 0 (aF cut)), some (.str w), some (.lst ((un R w 24 0).map .str)), some (.int (pre.length : Nat))]) := by
  have hmv : tK (.lst ((k :: ks).map fun k => PV.int (k : Nat))) = some (.int (pre.length : Nat)) := by
   rw [List.map_cons]
   show (intsP (PV.int (k : Nat) :: ks.map fun k => PV.int (k : Nat))).map (fun ns => PV.int (rJ ns)) = _
   rw [← List.map_cons (f := fun k => PV.int (k : Nat)), hii, Option.map_some, hmx]
  generalize (un R w 24 0).map PV.str = US at *
  generalize aF cut = TF at *
  generalize ((k :: ks).map fun k => PV.int (k : Nat)) = KS at *
  simp [-tK, hlen, hcm, hmv]
 have s3 : a_ (bSl (bV 2) (oS (bV 3)) oN) [some (.obj 0 (aF cut)), some (.str w), some (.lst ((un R w 24 0).map .str)), some (.int (pre.length : Nat))] = some (.rt (.lst ((u :: post).map .str))) := by
  generalize (un R w 24 0).map PV.str = US at *
  generalize (u :: post).map PV.str = EP at *
  simp [hcut]
 have hb : oh [some (.obj 0 (aF cut)), some (.str w), none, none] = some (.rt (.lst ((u :: post).map .str))) := by
  unfold oh
  rw [aG s1, aG s2, s3]
 unfold aQ
 generalize oh = B at *
 generalize (u :: post).map PV.str = EP at *
 simp [hb]
end
end My
namespace My
open PySem L2 MR
theorem ux {α : Type} {g : PV -> MR.Env -> Option MR.Env} {ds : List Nat} {body : MR.Env -> Option Out} {env : MR.Env} (c : α -> PV) : ∀ (ys : List α), (∀ y ∈ ys, turn g ds body (c y) env = some env) -> bQ g ds body (ys.map c) env = some (.nx env)
 | [], _ => rfl
 | y :: ys, h => by
  rw [List.map_cons, eY (h y List.mem_cons_self)]
  exact ux c ys fun z hz => h z (List.mem_cons_of_mem _ hz)
theorem Gs {ts : List (Str × Str)} {cut : List (List Str)} (hl : ∀ a b, (a, b) ∈ likes cut ↔ (a, b) ∈ ts) (a b : Str) : cW [.obj 0 (aF cut), .str a, .str b] = some (.bl (decide (a = b \/ (a, b) ∈ ts \/ (b, a) ∈ ts))) := by
 have d1 : decide ((a, b) ∈ likes cut) = decide ((a, b) ∈ ts) := decide_eq_decide.mpr (hl a b)
 have d2 : decide ((b, a) ∈ likes cut) = decide ((b, a) ∈ ts) := decide_eq_decide.mpr (hl b a)
 have i1 := Cg a b (likes cut)
 have i2 := Cg b a (likes cut)
 rw [d1] at i1
 rw [d2] at i2
 by_cases h1 : a = b
 ·simp [cW, gW, h1]
 ·by_cases h2 : (a, b) ∈ ts
  ·simp [cW, gW, BZ, h1, i1, h2]
  ·by_cases h3 : (b, a) ∈ ts <;> simp [cW, gW, BZ, h1, i1, h2, i2, h3]
theorem Gu (cut : List (List Str)) : List.lookup ("alike" : Str) (aF cut) = none := rfl
end My
namespace My
open PySem L2 MR
def okP : Nat -> PV -> Prop
 | _, .non => True
 | _, .bl _ => True
 | _, .int _ => True
 | _, .str x => PyData.strOk x = true
 | n + 1, .lst xs => ∀ x ∈ xs, okP n x
 | n + 1, .tup xs => ∀ x ∈ xs, okP n x
 | _, _ => False
theorem Ac {n : Nat} (ih : ∀ p, okP n p -> ∃ d, toD p = some d /\ d.canLay0 = true /\ d.depth <= n /\ PyData.eqv d d = true) : ∀ xs : List PV, (∀ x ∈ xs, okP n x) -> ∃ ds, fJ xs = some ds /\ PyData.canLayAll0 ds = true /\ PyData.depthAll ds <= n /\ PyData.eqvAll ds ds = true
 | [], _ => ⟨[], rfl, rfl, Nat.zero_le _, rfl⟩
 | x :: xs, h => by
  obtain ⟨d, h1, h2, h3, h4⟩ := ih x (h x List.mem_cons_self)
  obtain ⟨ds, g1, g2, g3, g4⟩ := Ac ih xs fun z hz => h z (List.mem_cons_of_mem _ hz)
  refine ⟨d :: ds, by simp [fJ, h1, g1], by simp [PyData.canLayAll0, h2, g2], ?_, by simp [PyData.eqvAll, h4, g4]⟩
  simp only [PyData.depthAll]
  omega
theorem Dy : ∀ (n : Nat) (p : PV), okP n p -> ∃ d, toD p = some d /\ d.canLay0 = true /\ d.depth <= n /\ PyData.eqv d d = true
 | n, .non, _ => ⟨.none, by simp [toD], by simp [PyData.canLay0], by simp [PyData.depth], by simp [PyData.eqv]⟩
 | n, .bl b, _ => ⟨.bool b, by simp [toD], by simp [PyData.canLay0], by simp [PyData.depth], by simp [PyData.eqv]⟩
 | n, .int b, _ => ⟨.int b, by simp [toD], by simp [PyData.canLay0], by simp [PyData.depth], by simp [PyData.eqv]⟩
 | n, .str b, h => ⟨.str b, by simp [toD], by simpa [PyData.canLay0, okP] using h, by simp [PyData.depth], by simp [PyData.eqv]⟩
 | n + 1, .lst xs, h => by
  obtain ⟨ds, g1, g2, g3, g4⟩ := Ac (Dy n) xs (by simpa [okP] using h)
  exact ⟨.list ds, by simp [toD, g1], by simp [PyData.canLay0, g2], by simp only [PyData.depth]; omega, by simp [PyData.eqv, g4]⟩
 | n + 1, .tup xs, h => by
  obtain ⟨ds, g1, g2, g3, g4⟩ := Ac (Dy n) xs (by simpa [okP] using h)
  exact ⟨.tuple ds, by simp [toD, g1], by simp [PyData.canLay0, g2], by simp only [PyData.depth]; omega, by simp [PyData.eqv, g4]⟩
 | 0, .lst _, h => by simp [okP] at h
 | 0, .tup _, h => by simp [okP] at h
 | _, .frz _, h => by simp [okP] at h
 | _, .ktp _, h => by simp [okP] at h
 | _, .dK _, h => by simp [okP] at h
 | _, .dT _, h => by simp [okP] at h
 | _, .obj _ _, h => by simp [okP] at h
theorem Iv {n : Nat} {p : PV} (h : okP n p) (hn : n <= 64) : eqD p p = some true := by
 obtain ⟨d, h1, h2, h3, h4⟩ := Dy n p h
 have hs : SeqAt.shaped d = true := by
  unfold SeqAt.shaped
  rw [h2, Bool.true_and, decide_eq_true_eq]
  omega
 simp [eqD, h1, hs, h4]
theorem Iw {p : PV} {k : Bool} (h : eqS p p = some k) : k = true := by
 cases p <;> simp at h <;> first | exact h | exact h.symm | cases h
theorem Iz {n : Nat} {p : PV} (h : okP n p) (hn : n <= 64) : eqP p p = some true := by
 unfold eqP
 cases q : eqS p p with
 | none => exact Iv h hn
 | some k => rw [Iw q]
end My
namespace My
open PySem L2 MR
def alB (ts : List (Str × Str)) (a b : Str) : Bool := decide (a = b \/ (a, b) ∈ ts \/ (b, a) ∈ ts)
theorem IK (ts : List (Str × Str)) (a b : Str) : alB ts a b = alB ts b a := by
 unfold alB
 refine decide_eq_decide.mpr ⟨fun h => ?_, fun h => ?_⟩ <;>
 ·rcases h with h | h | h
  ·exact .inl h.symm
  ·exact .inr (.inr h)
  ·exact .inr (.inl h)
theorem IV (ts : List (Str × Str)) (a : Str) : alB ts a a = true := decide_eq_true (.inl rfl)
def rhB (ts : List (Str × Str)) (e1 e2 : List Str) : Bool := decide (e1.length = e2.length) && (e1.zip e2).all fun z => alB ts z.1 z.2
theorem sE (ts : List (Str × Str)) : ∀ e1 e2 : List Str, ((e1.zip e2).all fun z => alB ts z.1 z.2) = ((e2.zip e1).all fun z => alB ts z.1 z.2)
 | [], e2 => by cases e2 <;> rfl
 | a :: e1, [] => rfl
 | a :: e1, b :: e2 => by
  have ih := sE ts e1 e2
  simp only [List.zip_cons_cons, List.all_cons, ih, IK ts a b]
theorem I_ (ts : List (Str × Str)) (e1 e2 : List Str) : rhB ts e1 e2 = rhB ts e2 e1 := by
 unfold rhB
 rw [sE]
 congr 1
 exact decide_eq_decide.mpr ⟨fun h => h.symm, fun h => h.symm⟩
theorem Ja (ts : List (Str × Str)) (e : List Str) : rhB ts e e = true := by
 unfold rhB
 rw [decide_eq_true rfl, Bool.true_and]
 induction e with
 | nil => rfl
 | cons a e ih => rw [List.zip_cons_cons, List.all_cons, IV, ih]; rfl
theorem sG : ∀ e1 e2 : List Str, uG (e1.map .str) (e2.map .str) = (e1.zip e2).map fun z => PV.tup [.str z.1, .str z.2]
 | [], e2 => by cases e2 <;> rfl
 | a :: e1, [] => rfl
 | a :: e1, b :: e2 => by
  have ih := sG e1 e2
  unfold uG at ih ⊢
  simp only [List.map_cons, List.zipWith_cons_cons, List.zip_cons_cons, ih]
theorem Rg {cut : List (List Str)} {ts : List (Str × Str)} (hl : ∀ a b, (a, b) ∈ likes cut ↔ (a, b) ∈ ts) {e1 e2 : List Str} (la : e1.length <= 24) (lb : e2.length <= 24) : cA [.obj 0 (aF cut), .lst (e1.map .str), .lst (e2.map .str)] = some (.bl (rhB ts e1 e2)) := by
 have hcm := bx (env := [none, none, some (.obj 0 (aF cut))]) (g := gT [0, 1]) (f := fW) (fun z : Str × Str => PV.tup [.str z.1, .str z.2]) (fun z => PV.bl (alB ts z.1 z.2)) (e1.zip e2) fun z _ => ⟨[some (.str z.1), some (.str z.2), some (.obj 0 (aF cut))], by simp, by
  have := Gs hl z.1 z.2
  unfold alB
  simp [fW, Gu, this]⟩
 rw [← sG] at hcm
 have hbm : bools ((e1.zip e2).map fun z => PV.bl (alB ts z.1 z.2)) = some ((e1.zip e2).map fun z => alB ts z.1 z.2) := by
  generalize e1.zip e2 = l
  induction l with
  | nil => rfl
  | cons a l ih => simp [ih]
 have hall : (((e1.zip e2).map fun z => alB ts z.1 z.2).all id) = (e1.zip e2).all fun z => alB ts z.1 z.2 := by rw [List.all_map]; rfl
 have hzl : (uG (e1.map .str) (e2.map .str)).length <= 1000000 := by rw [sG, List.length_map, List.length_zip]; omega
 have l1 : lenV (.lst (e1.map PV.str)) = some (.int (e1.length : Nat)) := by simp
 have l2 : lenV (.lst (e2.map PV.str)) = some (.int (e2.length : Nat)) := by simp
 unfold cA qT rhB
 by_cases h : e1.length = e2.length
 ·have h' : ((e1.length : Int) = (e2.length : Int)) := by omega
  rw [decide_eq_true h, Bool.true_and, ← hall]
  generalize aF cut = TF at *
  generalize e1.map PV.str = E1 at *
  generalize e2.map PV.str = E2 at *
  generalize ((e1.zip e2).map fun z => PV.bl (alB ts z.1 z.2)) = BL at *
  generalize ((e1.zip e2).map fun z => alB ts z.1 z.2) = BB at *
  have w2 : aY [none, none, some 0] (iZ (bV 1) (bV 2)) (gT [0, 1]) aU fW [some (.obj 0 TF), some (.lst E1), some (.lst E2)] = some (.lst BL) := by
   simp [-JF, hzl, hcm]
  generalize aY [none, none, some 0] (iZ (bV 1) (bV 2)) (gT [0, 1]) aU fW = BC at *
  simp [-lenV, l1, l2, h, h', w2, hbm]
 ·have h' : ¬ ((e1.length : Int) = (e2.length : Int)) := by omega
  rw [decide_eq_false h, Bool.false_and]
  generalize aF cut = TF at *
  generalize e1.map PV.str = E1 at *
  generalize e2.map PV.str = E2 at *
  simp [-lenV, l1, l2, h, h']
end My
namespace My
open PySem L2 MR
abbrev nI (k : Nat) : PV := .int (k : Nat)
def nL (l : List Nat) : PV := .lst (l.map nI)
theorem Cm : ∀ l : List Nat, fJ (l.map nI) = some (l.map fun k => PyData.int (k : Nat))
 | [] => rfl
 | k :: l => by simp [fJ, toD, Cm l]
theorem Gv : ∀ l : List Nat, PyData.canLayAll0 (l.map fun k => PyData.int ((k : Nat) : Int)) = true /\ PyData.depthAll (l.map fun k => PyData.int ((k : Nat) : Int)) <= 0
 | [] => ⟨rfl, Nat.le_refl _⟩
 | k :: l => by
  obtain ⟨a, b⟩ := Gv l
  refine ⟨by simp [PyData.canLayAll0, PyData.canLay0, a], ?_⟩
  simp only [List.map_cons, PyData.depthAll, PyData.depth]
  omega
theorem Gw : ∀ a b : List Nat, PyData.eqvAll (a.map fun k => PyData.int ((k : Nat) : Int)) (b.map fun k => PyData.int ((k : Nat) : Int)) = decide (a = b)
 | [], [] => by simp [PyData.eqvAll]
 | [], _ :: _ => by simp [PyData.eqvAll]
 | _ :: _, [] => by simp [PyData.eqvAll]
 | x :: a, y :: b => by
  have ih := Gw a b
  simp only [List.map_cons, PyData.eqvAll, PyData.eqv, ih]
  by_cases h1 : x = y <;> by_cases h2 : a = b <;> simp [h1, h2] <;> omega
theorem PN (a b : List Nat) : eqP (nL a) (nL b) = some (decide (a = b)) := by
 have f : ∀ l : List Nat, SeqAt.shaped (.list (l.map fun k => PyData.int ((k : Nat) : Int))) = true := fun l => by
  obtain ⟨h1, h2⟩ := Gv l
  have e1 : (PyData.list (l.map fun k => PyData.int ((k : Nat) : Int))).canLay0 = true := by simp [PyData.canLay0, h1]
  have e2 : (PyData.list (l.map fun k => PyData.int ((k : Nat) : Int))).depth <= 64 := by simp only [PyData.depth]; omega
  simp [SeqAt.shaped, e1, e2]
 have h1 := f a
 have h2 := f b
 simp [nL, eqP, eqS, eqD, toD, Cm, h1, h2, PyData.eqv, Gw]
theorem uy {α : Type} (c : α -> PV) (d : α) : ∀ (L : List α) (k : Nat), dX k (L.map c) = (List.range L.length).map fun j => PV.tup [nI (k + j), c (L.getD j d)]
 | [], _ => rfl
 | x :: L, k => by
  have ih := uy c d L (k + 1)
  rw [List.map_cons, List.length_cons, List.range_succ_eq_map, List.map_cons, List.map_map]
  show PV.tup [.int (k : Nat), c x] :: dX (k + 1) (L.map c) = _
  rw [ih]
  congr 1
  apply List.map_congr_left
  intro j _
  show PV.tup [nI (k + 1 + j), c (L.getD j d)] = PV.tup [nI (k + (j + 1)), c ((x :: L).getD (j + 1) d)]
  rw [show k + 1 + j = k + (j + 1) by omega]
  rfl
theorem sH (f : Nat -> PV) (n : Nat) : dX 0 ((List.range n).map f) = (List.range n).map fun j => PV.tup [nI j, f j] := by
 rw [uy f 0, List.length_range]
 apply List.map_congr_left
 intro j hj
 have hj' := List.mem_range.mp hj
 rw [Nat.zero_add, List.getD_eq_getElem?_getD, List.getElem?_range hj']
 rfl
theorem PP {f : Nat -> PV} {n j : Nat} (h : j < n) : atI ((List.range n).map f) (j : Int) = some (f j) :=
 b_ (by rw [List.getElem?_map, List.getElem?_range h]; rfl)
theorem qC {α : Type} {g : PV -> MR.Env -> Option MR.Env} {ds : List Nat} {body : MR.Env -> Option Out} {env : MR.Env} (c : α -> PV) (K : α -> Prop) (V : α -> PV -> Prop) : ∀ (ys : List α),
  (∀ y ∈ ys, (K y /\ turn g ds body (c y) env = some env) \/ ∃ v, V y v /\ ∃ e1, g (c y) env = some e1 /\ body e1 = some (.rt v)) ->
  ((∀ y ∈ ys, K y) /\ bQ g ds body (ys.map c) env = some (.nx env)) \/ ∃ y ∈ ys, ∃ v, V y v /\ bQ g ds body (ys.map c) env = some (.rt v)
 | [], _ => .inl ⟨fun y h => (nomatch h), rfl⟩
 | y :: ys, h => by
  rcases h y List.mem_cons_self with ⟨k, t⟩ | ⟨v, hv, e1, h1, h2⟩
  ·have ih := qC c K V ys fun z hz => h z (List.mem_cons_of_mem _ hz)
   rw [List.map_cons, eY t]
   rcases ih with ⟨a, b⟩ | ⟨z, hz, v, hv, b⟩
   ·exact .inl ⟨fun z hz => by
     rcases List.mem_cons.mp hz with e | e
     ·exact e ▸ k
     ·exact a z e, b⟩
   ·exact .inr ⟨z, List.mem_cons_of_mem _ hz, v, hv, b⟩
  ·exact .inr ⟨y, List.mem_cons_self, v, hv, by simp [bQ, h1, h2]⟩
theorem Jb {κ : Type} [DecidableEq κ] (kvs : List (κ × PV)) (k : κ) (v : PV) (j : κ) : (d8 (jf kvs k v) j).isSome = ((d8 kvs j).isSome || decide (k = j)) := by
 have key : ∀ l : List (κ × PV), (d8 l j).isSome = l.any fun kv => decide (kv.1 = j) := by
  intro l
  induction l with
  | nil => rfl
  | cons x l ih =>
   unfold d8 at ih ⊢
   simp only [List.find?_cons, List.any_cons]
   by_cases h : x.1 = j
   ·simp [h]
   ·simp only [decide_eq_false h, Bool.false_or]
    exact ih
 rw [key, key]
 unfold jf
 split
 ·rename_i h
  have e : ∀ l : List (κ × PV), ((l.map fun kv => if kv.1 = k then (kv.1, v) else kv).any fun kv => decide (kv.1 = j)) = l.any fun kv => decide (kv.1 = j) := by
   intro l
   rw [List.any_map]
   congr 1
   funext kv
   by_cases hk : kv.1 = k <;> simp [hk]
  rw [e]
  by_cases hj : k = j
  ·subst hj; simp only [decide_true, Bool.or_true]; exact h
  ·simp [hj]
 ·simp
theorem xU (j : Int) : ∀ (l : List Nat) (acc : List (Key × PV)), (d8 (nY (l.map fun k => ((.inl ((k : Nat) : Int) : Key), PV.bl true)) acc) (.inl j)).isSome = ((d8 acc (.inl j)).isSome || decide (∃ k ∈ l, ((k : Nat) : Int) = j))
 | [], acc => by simp [nY]
 | k :: l, acc => by
  have ih := xU j l (jf acc (.inl ((k : Nat) : Int)) (.bl true))
  show (d8 (nY (l.map fun k => ((.inl ((k : Nat) : Int) : Key), PV.bl true)) (jf acc (.inl ((k : Nat) : Int)) (.bl true))) (.inl j)).isSome = _
  rw [ih, Jb]
  by_cases h : ((k : Nat) : Int) = j
  ·simp [h]
  ·simp [h, show ¬ ((.inl ((k : Nat) : Int) : Key) = .inl j) from fun z => h (Sum.inl.inj z)]
def bD (l : List Nat) : PV := .dK (nY (l.map fun k => ((.inl ((k : Nat) : Int) : Key), PV.bl true)) [])
theorem PQ (l : List Nat) (x : Nat) : inP (nI x) (bD l) = some (decide (x ∈ l)) := by
 have h := xU (x : Int) l []
 have e : (decide (∃ k ∈ l, ((k : Nat) : Int) = (x : Int))) = decide (x ∈ l) := by
  apply decide_eq_decide.mpr
  constructor
  ·rintro ⟨k, hk, e⟩; have : k = x := by omega
   exact this ▸ hk
  ·intro hx; exact ⟨x, hx, rfl⟩
 rw [e] at h
 have h0 : (d8 ([] : List (Key × PV)) (.inl (x : Int))).isSome = false := rfl
 rw [h0, Bool.false_or] at h
 unfold bD nI inP
 simp [h]
theorem Gx : ∀ l : List Nat, prs (l.map fun k => PV.tup [nI k, .bl true]) = some (l.map fun k => ((.inl ((k : Nat) : Int) : Key), PV.bl true))
 | [] => rfl
 | k :: l => by simp [prs, Gx l]
theorem PX (l : List Nat) (h : l.length <= 1000000) : zG (.lst (l.map fun k => PV.tup [nI k, .bl true])) = some (bD l) := by
 show ((prs (l.map fun k => PV.tup [nI k, .bl true])).bind fun l => if l.length <= 1000000 then some (PV.dK (nY l [])) else none) = _
 rw [Gx]
 simp [h, bD]
end My
namespace My
open PySem L2 MR
def Nb (n : Nat) (r : Nat -> Nat -> Bool) (i : Nat) : List Nat := (List.range n).filter (r i)
theorem mem_Nb {n : Nat} {r : Nat -> Nat -> Bool} {i j : Nat} : j ∈ Nb n r i ↔ j < n /\ r i j = true := by simp [Nb]
theorem Gy {n : Nat} {r : Nat -> Nat -> Bool} {i : Nat} : (Nb n r i).length <= n := by
 have := List.length_filter_le (r i) (List.range n)
 rwa [List.length_range] at this
def bu (n : Nat) (r : Nat -> Nat -> Bool) : PV := .lst ((List.range n).map fun i => nL (Nb n r i))
def Xb (n : Nat) (r : Nat -> Nat -> Bool) (i j : Nat) : List Nat := (Nb n r j).filter fun k => !decide (k ∈ Nb n r i)
section
variable {n : Nat} {r : Nat -> Nat -> Bool} (hn : n <= 1000)
include hn
theorem Lz {i j : Nat} (hj : j < n) : aN 5 (bIf (tV (b2 eqQ (b2 ixP (bV 0) (bV 4)) (bV 2))) (cL aB) (aY [none, some 3] (iV (b2 ixP (bV 0) (bV 4))) (gN 0) eQ eO)) [some (bu n r), some (nI i), some (nL (Nb n r i)), some (bD (Nb n r i)), some (nI j), none] = some (.nx [some (bu n r), some (nI i), some (nL (Nb n r i)), some (bD (Nb n r i)), some (nI j), some (nL (Xb n r i j))]) := by
 have hix : ixP (bu n r) (nI j) = some (nL (Nb n r j)) := PP (f := fun i => nL (Nb n r i)) hj
 have he := PN (Nb n r j) (Nb n r i)
 have hX : Nb n r j = Nb n r i -> Xb n r i j = [] := fun e => by
  unfold Xb
  rw [e]
  exact List.filter_eq_nil_iff.mpr fun k hk => by simp [hk]
 have hcm := cR (env := [none, some (bD (Nb n r i))]) (g := gN 0) (t := eQ) (f := eO) nI nI (fun k => !decide (k ∈ Nb n r i)) (Nb n r j) fun k _ => ⟨[some (nI k), some (bD (Nb n r i))], by simp, by
  have := PQ (Nb n r i) k
  generalize bD (Nb n r i) = B at *
  simp [-inP, eQ, this], fun _ => by simp [eO]⟩
 have hl : (Nb n r j).length <= 1000000 := Nat.le_trans Gy (by omega)
 have hv : bz [none, some (bD (Nb n r i))] (gN 0) eQ eO ((Nb n r j).map nI) = some ((Xb n r i j).map nI) := hcm
 generalize bu n r = P at *
 generalize bD (Nb n r i) = B at *
 by_cases h : Nb n r j = Nb n r i
 ·rw [hX h]
  rw [decide_eq_true h] at he
  generalize nL (Nb n r j) = A at *
  generalize nL (Nb n r i) = A' at *
  simp [-ixP, hix, he, nL]
 ·rw [decide_eq_false h] at he
  have hit : itV (nL (Nb n r j)) = some ((Nb n r j).map nI) := rfl
  have hl' : ((Nb n r j).map nI).length <= 1000000 := by rw [List.length_map]; exact hl
  generalize nL (Nb n r j) = A at *
  generalize nL (Nb n r i) = A' at *
  generalize (Nb n r j).map nI = L at *
  simp [-ixP, -itV, hix, he, hit, hl', hv, nL]
theorem fb4 {i j : Nat} (hj : j < n) : (Xb n r i j = [] /\ turn (gN 4) [4, 5] cC (nI j) [some (bu n r), some (nI i), some (nL (Nb n r i)), some (bD (Nb n r i)), none, none] = some [some (bu n r), some (nI i), some (nL (Nb n r i)), some (bD (Nb n r i)), none, none])
  \/ ∃ v, (∃ k ∈ Xb n r i j, v = PV.tup [nI i, nI j, nI k]) /\ ∃ e1, gN 4 (nI j) [some (bu n r), some (nI i), some (nL (Nb n r i)), some (bD (Nb n r i)), none, none] = some e1 /\ cC e1 = some (.rt v) := by
 have s := Lz hn (r := r) (i := i) hj
 cases hx : Xb n r i j with
 | nil =>
  left
  refine ⟨rfl, ?_⟩
  rw [hx] at s
  have hb : cC [some (bu n r), some (nI i), some (nL (Nb n r i)), some (bD (Nb n r i)), some (nI j), none] = some (.nx [some (bu n r), some (nI i), some (nL (Nb n r i)), some (bD (Nb n r i)), some (nI j), some (nL [])]) := by
   unfold cC
   rw [aG s]
   generalize bu n r = P at *
   generalize nL (Nb n r i) = A at *
   generalize bD (Nb n r i) = B at *
   simp [nL]
  simp [jO, hb]
 | cons k ks =>
  right
  refine ⟨_, ⟨k, by simp, rfl⟩, _, rfl, ?_⟩
  rw [hx] at s
  show cC [some (bu n r), some (nI i), some (nL (Nb n r i)), some (bD (Nb n r i)), some (nI j), none] = _
  unfold cC
  rw [aG s]
  generalize bu n r = P at *
  generalize nL (Nb n r i) = A at *
  generalize bD (Nb n r i) = B at *
  have h0 : ixP (nL (k :: ks)) (.int 0) = some (nI k) := at0 _ _
  have h1 : lenV (nL (k :: ks)) = some (.int ((ks.length + 1 : Nat))) := by simp [nL]
  have h2 : (0 : Int) < ((ks.length + 1 : Nat) : Int) := by omega
  generalize nL (k :: ks) = K at *
  generalize ((ks.length + 1 : Nat) : Int) = m at *
  simp [-ixP, -lenV, h0, h1, h2]
theorem LC {i : Nat} : aN 3 (b1 zG (aY [none] (iV (bV 2)) (gN 0) aU gb)) [some (bu n r), some (nI i), some (nL (Nb n r i)), none, none, none] = some (.nx [some (bu n r), some (nI i), some (nL (Nb n r i)), some (bD (Nb n r i)), none, none]) := by
 have hl : (Nb n r i).length <= 1000000 := Nat.le_trans Gy (by omega)
 have hd := PX (Nb n r i) hl
 have hcm := bx (env := [none]) (g := gN 0) (f := gb) nI (fun k => PV.tup [nI k, .bl true]) (Nb n r i) fun k _ => ⟨_, rfl, by simp [gb]⟩
 have hit : itV (nL (Nb n r i)) = some ((Nb n r i).map nI) := rfl
 have hl' : ((Nb n r i).map nI).length <= 1000000 := by rw [List.length_map]; exact hl
 generalize bu n r = P at *
 generalize bD (Nb n r i) = B at *
 generalize nL (Nb n r i) = A at *
 generalize (Nb n r i).map nI = L at *
 generalize (Nb n r i).map (fun k => PV.tup [nI k, .bl true]) = L2 at *
 simp [-itV, hit, hl', hcm, hd]
theorem fb5 {i : Nat} (hi : i < n) : ((∀ j ∈ Nb n r i, Xb n r i j = []) /\ turn (gT [1, 2]) [1, 2, 3, 4, 5] bj (.tup [nI i, nL (Nb n r i)]) [some (bu n r), none, none, none, none, none] = some [some (bu n r), none, none, none, none, none])
  \/ ∃ v, (∃ j ∈ Nb n r i, ∃ k ∈ Xb n r i j, v = PV.tup [nI i, nI j, nI k]) /\ ∃ e1, gT [1, 2] (.tup [nI i, nL (Nb n r i)]) [some (bu n r), none, none, none, none, none] = some e1 /\ bj e1 = some (.rt v) := by
 have s := LC hn (r := r) (i := i)
 have lp := qC (g := gN 4) (ds := [4, 5]) (body := cC) (env := [some (bu n r), some (nI i), some (nL (Nb n r i)), some (bD (Nb n r i)), none, none]) nI (fun j => Xb n r i j = []) (fun j v => ∃ k ∈ Xb n r i j, v = PV.tup [nI i, nI j, nI k]) (Nb n r i) fun j hj => fb4 hn (mem_Nb.mp hj).1
 have hit : itV (nL (Nb n r i)) = some ((Nb n r i).map nI) := rfl
 generalize bu n r = P at *
 generalize bD (Nb n r i) = B at *
 generalize hA : nL (Nb n r i) = A at *
 rcases lp with ⟨h1, h2⟩ | ⟨j, hj, v, hv, h2⟩
 ·left
  refine ⟨h1, ?_⟩
  generalize (Nb n r i).map nI = L at *
  have hb : bj [some P, some (nI i), some A, none, none, none] = some (.nx [some P, some (nI i), some A, some B, none, none]) := by
   unfold bj
   rw [aG s]
   simp [-itV, hit, h2]
  simp [jO, hb]
 ·right
  refine ⟨v, ⟨j, hj, hv⟩, _, rfl, ?_⟩
  show bj [some P, some (nI i), some A, none, none, none] = _
  generalize (Nb n r i).map nI = L at *
  unfold bj
  rw [aG s]
  simp [-itV, hit, h2]
theorem Rh : ((∀ i < n, ∀ j ∈ Nb n r i, Xb n r i j = []) /\ bM [bu n r] = some .non) \/ ∃ i < n, ∃ j ∈ Nb n r i, ∃ k ∈ Xb n r i j, bM [bu n r] = some (PV.tup [nI i, nI j, nI k]) := by
 have lp := qC (g := gT [1, 2]) (ds := [1, 2, 3, 4, 5]) (body := bj) (env := [some (bu n r), none, none, none, none, none]) (fun i => PV.tup [nI i, nL (Nb n r i)]) (fun i => ∀ j ∈ Nb n r i, Xb n r i j = []) (fun i v => ∃ j ∈ Nb n r i, ∃ k ∈ Xb n r i j, v = PV.tup [nI i, nI j, nI k]) (List.range n) fun i hi => fb5 hn (List.mem_range.mp hi)
 have hen : iE (bV 0) [some (bu n r), none, none, none, none, none] = some ((List.range n).map fun i => PV.tup [nI i, nL (Nb n r i)]) := by
  show some (dX 0 ((List.range n).map fun i => nL (Nb n r i))) = _
  rw [sH]
 have key : ∀ o, bQ (gT [1, 2]) [1, 2, 3, 4, 5] bj ((List.range n).map fun i => PV.tup [nI i, nL (Nb n r i)]) [some (bu n r), none, none, none, none, none] = some o -> gf (gT [1, 2]) (iE (bV 0)) [1, 2, 3, 4, 5] bj [some (bu n r), none, none, none, none, none] = some o := fun o h => by
  rw [Ku, hen]
  exact h
 generalize bu n r = P at *
 rcases lp with ⟨h1, h2⟩ | ⟨i, hi, v, hv, h2⟩
 ·left
  refine ⟨fun i hi => h1 i (List.mem_range.mpr hi), ?_⟩
  have := key _ h2
  generalize gf (gT [1, 2]) (iE (bV 0)) [1, 2, 3, 4, 5] bj = F at *
  unfold bM j8
  simp_all
 ·right
  obtain ⟨j, hj, k, hk, rfl⟩ := hv
  refine ⟨i, List.mem_range.mp hi, j, hj, k, hk, ?_⟩
  have := key _ h2
  unfold bM j8
  generalize gf (gT [1, 2]) (iE (bV 0)) [1, 2, 3, 4, 5] bj = F at *
  simp [this]
end
end My
namespace My
open PySem L2 MR
def hdN (n : Nat) (r : Nat -> Nat -> Bool) (i : Nat) : Nat := (Nb n r i).headD 0
structure EqvN (n : Nat) (r : Nat -> Nat -> Bool) : Prop where
 refl : ∀ i < n, r i i = true
 symm : ∀ i < n, ∀ j < n, r i j = true -> r j i = true
 trans : ∀ i < n, ∀ j < n, ∀ k < n, r i j = true -> r j k = true -> r i k = true
section
variable {n : Nat} {r : Nat -> Nat -> Bool}
theorem LK {i : Nat} (hi : i < n) (h : r i i = true) : ∃ t, Nb n r i = hdN n r i :: t := by
 have hm : i ∈ Nb n r i := mem_Nb.mpr ⟨hi, h⟩
 unfold hdN
 cases e : Nb n r i with
 | nil => rw [e] at hm; cases hm
 | cons a t => exact ⟨t, rfl⟩
end
def yG (n : Nat) (r : Nat -> Nat -> Bool) : List Nat := (List.range n).filter fun i => decide (hdN n r i = i)
end My
namespace My
open PySem L2 MR
def rgL (n : Nat) (W : Nat -> PV) : PV := .lst ((List.range n).map W)
theorem Gz {n : Nat} {W : Nat -> PV} : itV (rgL n W) = some ((List.range n).map W) := rfl
section
variable {n : Nat} {r : Nat -> Nat -> Bool} {T : PV} {W E : Nat -> PV} (hn : n <= 1000) (hE : ∀ i < n, aQ [T, W i] = some (E i)) (hER : ∀ i < n, ∀ j < n, cA [T, E i, E j] = some (.bl (r i j)))
 (rr : ∀ i < n, r i i = true) (rs : ∀ i < n, ∀ j < n, r i j = true -> r j i = true)
include hn hER
theorem Jc {i : Nat} (hi : i < n) : iB [T, rgL n E, E i] = some (nL (Nb n r i)) := by
 have hcm := cR (env := [none, none, some T, some (E i)]) (g := gT [0, 1]) (t := fQ) (f := fP) (fun j => PV.tup [nI j, E j]) nI (fun j => r i j) (List.range n) fun j hj => ⟨[some (nI j), some (E j), some T, some (E i)], by simp, by
  have := hER i hi j (List.mem_range.mp hj)
  unfold fQ
  generalize cA = m at *
  simp [this], fun _ => by simp [fP]⟩
 have hen : iE (bV 1) [some T, some (rgL n E), some (E i)] = some ((List.range n).map fun j => PV.tup [nI j, E j]) := by
  show some (dX 0 ((List.range n).map E)) = _
  rw [sH]
 have hl : ((List.range n).map fun j => PV.tup [nI j, E j]).length <= 1000000 := by simp; omega
 have hv : (List.map nI ((List.range n).filter fun j => r i j)) = (Nb n r i).map nI := rfl
 rw [hv] at hcm
 have hb : aY [none, none, some 0, some 2] (iE (bV 1)) (gT [0, 1]) fQ fP [some T, some (rgL n E), some (E i)] = some (nL (Nb n r i)) := by
  rw [uF, hen]
  show (if _ then (bz [none, none, some T, some (E i)] (gT [0, 1]) fQ fP _).bind _ else none) = _
  rw [if_pos hl, hcm]
  rfl
 unfold iB uv
 generalize aY [none, none, some 0, some 2] (iE (bV 1)) (gT [0, 1]) fQ fP = F at *
 generalize rgL n E = P at *
 simp [hb]
include hE
theorem Ri : aN 2 (aY [none, some 0] (iV (bV 1)) (gN 0) aU iY) [some T, some (rgL n W), none, none, none] = some (.nx [some T, some (rgL n W), some (rgL n E), none, none]) := by
 have hcm := bx (env := [none, some T]) (g := gN 0) (f := iY) W E (List.range n) fun i hi => ⟨[some (W i), some T], rfl, by
  have := hE i (List.mem_range.mp hi)
  unfold iY
  generalize aQ = m at *
  simp [this]⟩
 have hl : ((List.range n).map W).length <= 1000000 := by simp; omega
 have hit := Gz (n := n) (W := W)
 have e : rgL n E = .lst ((List.range n).map E) := rfl
 rw [e]
 generalize rgL n W = P at *
 generalize (List.range n).map W = L at *
 generalize (List.range n).map E = L2 at *
 simp [-itV, hit, hl, hcm]
theorem Rj : aN 3 (aY [none, some 0, some 2] (iV (bV 2)) (gN 0) aU i_) [some T, some (rgL n W), some (rgL n E), none, none] = some (.nx [some T, some (rgL n W), some (rgL n E), some (bu n r), none]) := by
 have hcm := bx (env := [none, some T, some (rgL n E)]) (g := gN 0) (f := i_) E (fun i => nL (Nb n r i)) (List.range n) fun i hi => ⟨[some (E i), some T, some (rgL n E)], rfl, by
  have := Jc hn hER (List.mem_range.mp hi)
  unfold i_
  generalize iB = m at *
  generalize rgL n E = P at *
  simp [this]⟩
 have hl : ((List.range n).map E).length <= 1000000 := by simp; omega
 have hit := Gz (n := n) (W := E)
 have e : bu n r = .lst ((List.range n).map fun i => nL (Nb n r i)) := rfl
 rw [e]
 generalize rgL n W = P at *
 generalize rgL n E = P2 at *
 generalize (List.range n).map E = L at *
 generalize ((List.range n).map fun i => nL (Nb n r i)) = L2 at *
 simp [-itV, hit, hl, hcm]
include rr
theorem Rk : a_ (jU (ak (bC (.str "classes")) (ak (aY [none, none] (iE (bV 3)) (gT [0, 1]) dW dU) aB))) [some T, some (rgL n W), some (rgL n E), some (bu n r), some .non] = some (.rt (.tup [.str "classes", .lst ((yG n r).map fun g => nL (Nb n r g))])) := by
 have hcm := cR (env := [none, none]) (g := gT [0, 1]) (t := dW) (f := dU) (fun j => PV.tup [nI j, nL (Nb n r j)]) (fun j => nL (Nb n r j)) (fun j => decide (hdN n r j = j)) (List.range n) fun j hj => ⟨[some (nI j), some (nL (Nb n r j))], by simp, by
  have hj := List.mem_range.mp hj
  obtain ⟨t, e⟩ := LK hj (rr j hj)
  have h0 : ixP (nL (Nb n r j)) (.int 0) = some (nI (hdN n r j)) := by rw [e]; exact at0 _ _
  generalize nL (Nb n r j) = A at *
  generalize hdN n r j = a at *
  have : (decide ((a : Int) = (j : Int))) = decide (a = j) := decide_eq_decide.mpr (by omega)
  simp [-ixP, dW, h0, ← this], fun _ => by simp [dU]⟩
 have hen : iE (bV 3) [some T, some (rgL n W), some (rgL n E), some (bu n r), some .non] = some ((List.range n).map fun j => PV.tup [nI j, nL (Nb n r j)]) := by
  show some (dX 0 ((List.range n).map fun j => nL (Nb n r j))) = _
  rw [sH]
 have hl : ((List.range n).map fun j => PV.tup [nI j, nL (Nb n r j)]).length <= 1000000 := by simp; omega
 have hb : aY [none, none] (iE (bV 3)) (gT [0, 1]) dW dU [some T, some (rgL n W), some (rgL n E), some (bu n r), some .non] = some (.lst ((yG n r).map fun g => nL (Nb n r g))) := by
  rw [uF, hen]
  show (if _ then (bz [none, none] (gT [0, 1]) dW dU _).bind _ else none) = _
  rw [if_pos hl, hcm]
  rfl
 generalize aY [none, none] (iE (bV 3)) (gT [0, 1]) dW dU = F at *
 generalize rgL n W = P at *
 generalize rgL n E = P2 at *
 generalize bu n r = P3 at *
 generalize ((yG n r).map fun g => nL (Nb n r g)) = L2 at *
 simp [hb]
include rs
theorem Rm : (EqvN n r /\ bZ [T, rgL n W] = some (.tup [.str "classes", .lst ((yG n r).map fun g => nL (Nb n r g))])) \/ ∃ i < n, ∃ j < n, ∃ k < n, r i j = true /\ r j k = true /\ r i k = false /\ bZ [T, rgL n W] = some (.tup [.str "broken", .tup [nI i, nI j, nI k]]) := by
 have s2 := Ri hn hE hER
 have s3 := Rj (W := W) hn hE hER
 have s6 := Rk (W := W) hn hE hER rr
 have fin : ∀ v, iI [some T, some (rgL n W), none, none, none] = some (.rt v) -> bZ [T, rgL n W] = some v := fun v h => by
  unfold bZ
  generalize iI = B at *
  generalize rgL n W = P at *
  simp [h]
 rcases Rh hn (r := r) with ⟨h1, h2⟩ | ⟨i, hi, j, hj, k, hk, h2⟩
 ·left
  refine ⟨⟨rr, rs, fun i hi j hj k hk a b => ?_⟩, ?_⟩
  ·have := h1 i hi j (mem_Nb.mpr ⟨hj, a⟩)
   unfold Xb at this
   have := List.filter_eq_nil_iff.mp this k (mem_Nb.mpr ⟨hk, b⟩)
   have : k ∈ Nb n r i := by simpa using this
   exact (mem_Nb.mp this).2
  ·apply fin
   have s4 : aN 4 (aK bM (ak (bV 3) aB)) [some T, some (rgL n W), some (rgL n E), some (bu n r), none] = some (.nx [some T, some (rgL n W), some (rgL n E), some (bu n r), some .non]) := by
    generalize bM = m at *
    generalize rgL n W = P at *
    generalize rgL n E = P2 at *
    generalize bu n r = P3 at *
    simp [h2]
   have s5 : sIf (tV (b2 mU (bV 4) (bC .non))) (a_ (jU (ak (bC (.str "broken")) (ak (bV 4) aB)))) sNx [some T, some (rgL n W), some (rgL n E), some (bu n r), some .non] = some (.nx [some T, some (rgL n W), some (rgL n E), some (bu n r), some .non]) := by
    generalize rgL n W = P at *
    generalize rgL n E = P2 at *
    generalize bu n r = P3 at *
    simp
   unfold iI
   rw [aG s2, aG s3, aG s4, aG s5, s6]
 ·right
  have hk' := List.mem_filter.mp hk
  have hk1 := mem_Nb.mp hk'.1
  have hj1 := mem_Nb.mp hj
  refine ⟨i, hi, j, hj1.1, k, hk1.1, hj1.2, hk1.2, ?_, ?_⟩
  ·have h3 : ¬ k ∈ Nb n r i := by simpa using hk'.2
   cases z : r i k with
   | false => rfl
   | true => exact absurd (mem_Nb.mpr ⟨hk1.1, z⟩) h3
  ·apply fin
   have s4 : aN 4 (aK bM (ak (bV 3) aB)) [some T, some (rgL n W), some (rgL n E), some (bu n r), none] = some (.nx [some T, some (rgL n W), some (rgL n E), some (bu n r), some (.tup [nI i, nI j, nI k])]) := by
    generalize bM = m at *
    generalize rgL n W = P at *
    generalize rgL n E = P2 at *
    generalize bu n r = P3 at *
    simp [h2]
   unfold iI
   rw [aG s2, aG s3, aG s4]
   generalize rgL n W = P at *
   generalize rgL n E = P2 at *
   generalize bu n r = P3 at *
   simp
end
end My
namespace My
open PySem L2 MR
def lu (s : Nat) : Bool := isLetter ⟨#[s]⟩
def isW (R : Rc) (x : Str) : Bool := !decide (24 < x.length) && (x.cps.toList.all lu && x.cps.toList.any fun s => decide ((⟨#[s]⟩ : Str) ∈ R.carriers))
theorem uT : ∀ bs : List Bool, bools (bs.map PV.bl) = some bs
 | [] => rfl
 | b :: bs => by simp [bools, uT bs]
section
variable {R : Rc} {cut : List (List Str)} (hc : ∀ y, y ∈ aH cut ↔ y ∈ R.carriers)
include hc
theorem P0 {w : Str} (hl : w.length <= 1000) : aV [.obj 0 (aF cut), .str w] = some (.bl (isW R w)) := by
 have h6 : w.length <= 1000000 := by omega
 have hwl : w.cps.toList.length = w.length := Array.length_toList
 have hcl : (chV w).length <= 1000000 := by unfold chV; rw [List.length_map, hwl]; omega
 unfold isW
 by_cases h24 : 24 < w.length
 ·have h24' : (24 : Int) < (w.length : Int) := by omega
  simp [aV, dz, tb_str, h6, h24, h24']
 ·have h24' : ¬ (24 : Int) < (w.length : Int) := by omega
  have k1 : bz [none] (gN 0) aU fu (chV w) = some ((w.cps.toList.map lu).map .bl) := by
   rw [mF]
   have h := bx (env := [none]) (g := gN 0) (f := fu) (fun s : Nat => PV.str ⟨#[s]⟩) (fun s => .bl (lu s)) w.cps.toList fun s hs => ⟨_, rfl, by
    have h1 := ou (x := ⟨#[s]⟩) (by show 1 <= 1000; decide)
    simp [fu, h1, lu]⟩
   rw [h, List.map_map]; rfl
  have k2 : bz [none, some (.obj 0 (aF cut))] (gN 0) aU fB (chV w) = some ((w.cps.toList.map fun s => decide ((⟨#[s]⟩ : Str) ∈ aH cut)).map .bl) := by
   rw [mF]
   have h := bx (env := [none, some (.obj 0 (aF cut))]) (g := gN 0) (f := fB) (fun s : Nat => PV.str ⟨#[s]⟩) (fun s => .bl (decide ((⟨#[s]⟩ : Str) ∈ aH cut))) w.cps.toList fun s hs => ⟨_, rfl, by
    simp [fB, qu, qp]⟩
   rw [h, List.map_map]; rfl
  have e1 : (w.cps.toList.map lu).all id = w.cps.toList.all lu := by rw [List.all_map]; rfl
  have e2 : (w.cps.toList.map fun s => decide ((⟨#[s]⟩ : Str) ∈ aH cut)).any id = w.cps.toList.any fun s => decide ((⟨#[s]⟩ : Str) ∈ R.carriers) := by
   rw [List.any_map]
   congr 1
   funext s
   exact decide_eq_decide.mpr (hc _)
  rw [← e1, ← e2]
  generalize w.cps.toList.map lu = b1' at *
  generalize (w.cps.toList.map fun s => decide ((⟨#[s]⟩ : Str) ∈ aH cut)) = b2' at *
  cases hb : b1'.all id with
  | true => simp [-List.all_eq_true, aV, dz, tb_str, h6, h24, h24', k1, k2, hcl, uT, hb]
  | false => simp [-List.all_eq_false, -List.all_eq_true, aV, dz, tb_str, h6, h24, h24', k1, k2, hcl, uT, hb]
end
theorem Cp {R : Rc} {x : Str} {s : Nat} (hs : s ∈ x.cps.toList) (hl : lu s = false) : isW R x = false := by
 have : x.cps.toList.all lu = false := by
  rw [List.all_eq_false]
  exact ⟨s, hs, by rw [hl]; exact Bool.false_ne_true⟩
 unfold isW
 rw [this]; simp
theorem Jd {R : Rc} {x : Str} (h : 24 < x.length) : isW R x = false := by unfold isW; simp [h]
theorem xV {R : Rc} {x : Str} (h : ∀ s ∈ x.cps.toList, (⟨#[s]⟩ : Str) ∉ R.carriers) : isW R x = false := by
 have : (x.cps.toList.any fun s => decide ((⟨#[s]⟩ : Str) ∈ R.carriers)) = false := by
  rw [List.any_eq_false]
  intro s hs
  simp [h s hs]
 unfold isW
 rw [this]; simp
theorem LQ : ∀ k, k < 26 -> lu (65 + k) = false := by
 have : (List.range 26).all (fun k => !lu (65 + k)) = true := by decide +kernel
 intro k hk
 have := List.all_eq_true.mp this k (List.mem_range.mpr hk)
 simpa using this
theorem vJ : ∀ k, k < 26 -> Unicode.upperOf (97 + k) = [65 + k] := by
 have : (List.range 26).all (fun k => decide (Unicode.upperOf (97 + k) = [65 + k])) = true := by decide +kernel
 intro k hk
 exact of_decide_eq_true (List.all_eq_true.mp this k (List.mem_range.mpr hk))
theorem GC {x : Str} {c s : Nat} (h : c ∈ x.cps.toList) (hs : Unicode.upperOf c = [s]) : s ∈ (Txt.upper x).cps.toList := by
 show s ∈ (Array.flatten (x.cps.mapIdx fun i c => (Unicode.upperOf c).toArray)).toList
 rw [Array.mem_toList_iff, Array.mem_flatten]
 obtain ⟨i, hi, e⟩ := List.mem_iff_getElem.mp h
 refine ⟨#[s], ?_, by simp⟩
 rw [Array.mem_mapIdx]
 have hi' : i < x.cps.size := by rw [← Array.length_toList]; exact hi
 refine ⟨i, hi', ?_⟩
 have : x.cps[i] = c := by rw [← e]; simp
 rw [this, hs]
theorem GD {R : Rc} {w : Str} (W : WordR R w) : isW R (Txt.upper w) = false := by
 obtain ⟨c, hc, _⟩ := W.c
 obtain ⟨h1, h2⟩ := W.t c hc
 obtain ⟨k, rfl⟩ : ∃ k, c = 97 + k := ⟨c - 97, by omega⟩
 have hk : k < 26 := by omega
 exact Cp (GC hc (vJ k hk)) (LQ k hk)
end My
namespace My
open PySem L2 MR
theorem uz : ∀ (l : List (Array Nat)) (a : Array Nat), (l.foldl (· ++ ·) a).toList = a.toList ++ (l.map Array.toList).flatten
 | [], a => by simp
 | x :: l, a => by
  show (l.foldl (· ++ ·) (a ++ x)).toList = _
  rw [uz l (a ++ x)]
  simp
theorem vK (x : Str) (n : Nat) : (jw x n).cps.toList = (List.replicate n x.cps.toList).flatten := by
 show ((List.replicate n x.cps).foldl (· ++ ·) #[]).toList = _
 rw [uz]
 simp
theorem Je {x : Str} {n s : Nat} (h : s ∈ (jw x n).cps.toList) : s ∈ x.cps.toList := by
 rw [vK] at h
 obtain ⟨l, hl, hs⟩ := List.mem_flatten.mp h
 rw [List.eq_of_mem_replicate hl] at hs
 exact hs
theorem Jf (x : Str) (n : Nat) : (jw x n).length = n * x.length := by
 have h1 : (jw x n).cps.toList.length = (jw x n).length := Array.length_toList
 have h2 : x.cps.toList.length = x.length := Array.length_toList
 rw [← h1, vK, List.length_flatten, List.map_replicate, List.sum_replicate_nat, h2]
theorem app_mem {x y : Str} {s : Nat} : s ∈ (x ++ y).cps.toList ↔ s ∈ x.cps.toList \/ s ∈ y.cps.toList := by
 rw [Str.cps_append, Array.toList_append, List.mem_append]
inductive BadP (R : Rc) : PV -> Prop where
 | str {x : Str} (hl : x.length <= 1000) (h : isW R x = false) : BadP R (.str x)
 | non : BadP R .non
 | int (n : Int) : BadP R (.int n)
 | bl : BadP R (.bl true)
 | lst (w : Str) : BadP R (.lst [.str w])
 | tup (w : Str) : BadP R (.tup [.str w])
 | dct : BadP R (.dK [])
theorem LR {R : Rc} {cut : List (List Str)} (hc : ∀ y, y ∈ aH cut ↔ y ∈ R.carriers) {b : PV} (h : BadP R b) : aV [.obj 0 (aF cut), b] = some (.bl false) := by
 cases h with
 | str hl h => rw [P0 hc hl, h]
 | non => simp [aV, dz, tb_str, tyN, List.lookup]
 | int n => simp [aV, dz, tb_str, tyN, List.lookup]
 | bl => simp [aV, dz, tb_str, tyN, List.lookup]
 | lst w => simp [aV, dz, tb_str, tyN, List.lookup]
 | tup w => simp [aV, dz, tb_str, tyN, List.lookup]
 | dct => simp [aV, dz, tb_str, tyN, List.lookup]
section
variable {R : Rc} (G : R.Good)
include G
theorem Jg {d : Int} (h0 : 0 <= d) (h1 : d <= 12) : (⟨#[ltn R.base ((R.many : Int) + d)]⟩ : Str) ∉ R.carriers := by
 have m1 := G.m1; have m7 := G.m7
 intro hm
 rw [G.car] at hm
 obtain ⟨j, hj, ej⟩ := List.mem_map.mp hm
 have hj := List.mem_range.mp hj
 have := qe (c := R.base) (j := (j : Nat)) (k := (R.many : Int) + d) (by omega) (by omega) (by omega) (by omega) ej
 omega
theorem L_ : ∃ k rest, k < 26 /\ R.carriers = (⟨#[97 + k]⟩ : Str) :: rest := by
 have m1 := G.m1
 obtain ⟨n, hn⟩ : ∃ n, R.many = n + 1 := ⟨R.many - 1, by omega⟩
 have e : R.carriers = letter R.base ((0 : Nat) : Int) :: (List.range' 1 n).map fun k => letter R.base (k : Nat) := by
  rw [G.car, hn, List.range_succ_eq_map, List.map_cons, List.map_map, List.range'_eq_map_range, List.map_map]
  congr 1
  refine List.map_congr_left fun k _ => ?_
  simp [Nat.add_comm]
 have h := jN R.base ((0 : Nat) : Int)
 refine ⟨ltn R.base ((0 : Nat) : Int) - 97, (List.range' 1 n).map fun k => letter R.base (k : Nat), by omega, ?_⟩
 rw [e, show 97 + (ltn R.base ((0 : Nat) : Int) - 97) = ltn R.base ((0 : Nat) : Int) by omega]
 rfl
end
theorem Jh : ∀ s ∈ [32, 45, 49, 46, 39], lu s = false := by
 have : [32, 45, 49, 46, 39].all (fun s => !lu s) = true := by decide +kernel
 intro s hs
 simpa using List.all_eq_true.mp this s hs
end My
namespace My
open PySem L2 MR
theorem mul_one {x : Str} {n : Int} (hx : x.length = 1) (h1 : 1 <= n) (h2 : n <= 1000) : ∃ y, lE (.str x) (.int n) = some (.str y) /\ y.length = n.toNat /\ ∀ s ∈ y.cps.toList, s ∈ x.cps.toList := by
 by_cases h : n = 1
 ·subst h; exact ⟨x, by simp [lE], by simp [hx], fun s hs => hs⟩
 ·have hl := Jf x n.toNat
  rw [hx, Nat.mul_one] at hl
  refine ⟨jw x n.toNat, ?_, hl, fun s hs => Je hs⟩
  have q : 2 <= n /\ n <= 1000 /\ 1 <= x.length /\ (jw x n.toNat).length <= 1000000 /\ x.length <= 1000 := by omega
  show (if n = 1 then some (PV.str x) else if 2 <= n /\ n <= 1000 /\ 1 <= x.length /\ (jw x n.toNat).length <= 1000000 /\ x.length <= 1000 then some (PV.str (jw x n.toNat)) else none) = _
  rw [if_neg h, if_pos q]
end My
namespace My
open PySem L2 MR
theorem qD {x : Str} (h : ∀ s ∈ x.cps.toList, s < 1114112) : PyData.strOk x = true := by
 unfold PyData.strOk
 rw [Array.all_eq_true']
 intro s hs
 exact decide_eq_true (h s (Array.mem_toList_iff.mpr hs))
theorem Ji {x : Str} (h : PyData.strOk x = true) : ∀ s ∈ x.cps.toList, s < 1114112 := fun s hs => by
 unfold PyData.strOk at h
 rw [Array.all_eq_true'] at h
 exact of_decide_eq_true (h s (Array.mem_toList_iff.mp hs))
theorem Av {x : Str} {s : Nat} (h : s ∈ (Txt.upper x).cps.toList) : ∃ c ∈ x.cps.toList, s ∈ Unicode.upperOf c := by
 have h : s ∈ (Array.flatten (x.cps.mapIdx fun i c => (Unicode.upperOf c).toArray)).toList := h
 rw [Array.mem_toList_iff, Array.mem_flatten] at h
 obtain ⟨l, hl, hs⟩ := h
 rw [Array.mem_mapIdx] at hl
 obtain ⟨i, hi, rfl⟩ := hl
 exact ⟨x.cps[i], Array.mem_toList_iff.mpr (Array.getElem_mem hi), by simpa using hs⟩
theorem Jj {R : Rc} {w : Str} (W : WordR R w) : PyData.strOk (Txt.upper w) = true := qD fun s hs => by
 obtain ⟨c, hc, h⟩ := Av hs
 obtain ⟨h1, h2⟩ := W.t c hc
 obtain ⟨k, rfl⟩ : ∃ k, c = 97 + k := ⟨c - 97, by omega⟩
 rw [vJ k (by omega)] at h
 have : s = 65 + k := by simpa using h
 omega
section
variable {R : Rc} (G : R.Good)
include G
theorem P_ {w : Str} (W : WordR R w) (c : Int) : ∃ b, iy [aJ R, .str w, .int c] = some b /\ BadP R b /\ okP 1 b := by
 obtain ⟨k, rest, hk, hcar⟩ := L_ G
 have hl := W.l
 have h6 : w.length <= 1000000 := by omega
 have m1 := G.m1; have m7 := G.m7
 have x0 : ixP (aJ R) (.int 0) = some (.lst (R.carriers.map .str)) := rfl
 have x7 : ixP (aJ R) (.int 7) = some (.int R.base) := rfl
 have hlc : lenV (.lst (R.carriers.map .str)) = some (.int (R.many : Nat)) := by simp [G.car]
 have x00 : ixP (.lst (R.carriers.map .str)) (.int 0) = some (.str ⟨#[97 + k]⟩) := by
  rw [hcar]
  show atI _ ((0 : Nat) : Int) = _
  exact b_ rfl
 have hlw : lenV (.str w) = some (.int (w.length : Nat)) := by simp [h6]
 obtain ⟨y1, hy1, ly1, my1⟩ := mul_one (x := ⟨#[97 + k]⟩) (n := 25 - (w.length : Int)) rfl (by omega) (by omega)
 have hd0 : 0 <= c / 16 % 5 := by omega
 have hd1 : c / 16 % 5 < 5 := by omega
 have hlet : bB [.int R.base, .int ((R.many : Int) + c / 16 % 5)] = some (.str (letter R.base ((R.many : Int) + c / 16 % 5))) := tZ _ _
 obtain ⟨y2, hy2, ly2, my2⟩ := mul_one (x := letter R.base ((R.many : Int) + c / 16 % 5)) (n := 1 + c / 16 % 24) rfl (by omega) (by omega)
 have e2 : ∀ s ∈ y2.cps.toList, s = ltn R.base ((R.many : Int) + c / 16 % 5) := fun s hs => by
  have := my2 s hs
  simpa [letter] using this
 have hst : ∀ s ∈ y2.cps.toList, (⟨#[s]⟩ : Str) ∉ R.carriers := fun s hs => by
  rw [e2 s hs]; exact Jg G hd0 (by omega)
 have hupw : mD (.str w) = some (.str (Txt.upper w)) := by
  have : w.length <= 1000 := by omega
  simp [mD, this]
 have lupw : (Txt.upper w).length <= 1000 := by have := PyProof.Rows.len_upper w; omega
 have ladd : (w.length + y1.length) <= 1000000 := by omega
 have wc := Ji W.t.ok
 have ok1 : PyData.strOk (w ++ y1) = true := qD fun s hs => by
  rcases app_mem.mp hs with z | z
  ·exact wc s z
  ·have := my1 s z
   have : s = 97 + k := by simpa using this
   omega
 have ok2 : PyData.strOk y2 = true := qD fun s hs => by
  rw [e2 s hs]
  have := jN R.base ((R.many : Int) + c / 16 % 5)
  omega
 have hcut : ∀ s ∈ (bI w none (some 11)).cps.toList, s ∈ w.cps.toList := fun s hs => by
  unfold bI at hs
  simp at hs
  first | exact hs.1 | exact List.mem_of_mem_take hs | exact List.mem_of_mem_drop (List.mem_of_mem_take hs) | (have := hs; simp_all)
 have lcut : (bI w none (some 11)).length <= w.length := by
  have a : (bI w none (some 11)).cps.toList.length = (bI w none (some 11)).length := Array.length_toList
  have b : w.cps.toList.length = w.length := Array.length_toList
  rw [← a, ← b]
  unfold bI
  simp
  omega
 let v : Str := bI w none (some 11) ++ (" " : Str)
 have sp : (" " : Str) = ⟨#[32]⟩ := by decide +kernel
 have hv32 : (32 : Nat) ∈ v.cps.toList := app_mem.mpr (.inr (by rw [sp]; simp))
 have vl : v.length <= 1000 := by
  show (bI w none (some 11) ++ (" " : Str)).length <= 1000
  have a : v.cps.toList.length = v.length := Array.length_toList
  have b : (bI w none (some 11)).cps.toList.length = (bI w none (some 11)).length := Array.length_toList
  have c' : (" " : Str).cps.toList.length = 1 := by rw [sp]; rfl
  have d : v.cps.toList = (bI w none (some 11)).cps.toList ++ (" " : Str).cps.toList := by
   show (bI w none (some 11) ++ (" " : Str)).cps.toList = _
   rw [Str.cps_append, Array.toList_append]
  have : v.length = (bI w none (some 11)).length + 1 := by rw [← a, d, List.length_append, b, c']
  show v.length <= 1000
  omega
 have ok3 : PyData.strOk v = true := qD fun s hs => by
  rcases app_mem.mp hs with z | z
  ·exact wc s (hcut s z)
  ·rw [sp] at z
   have : s = 32 := by simpa using z
   omega
 have eS : ("" : Str).cps.toList = [] := by decide +kernel
 let T8 : List PV := [.non, .str "", .str (w ++ y1), .str y2, .str (Txt.upper w), .str v, .int 0, .lst [.str w]]
 have bad8 : ∀ p ∈ T8, BadP R p /\ okP 1 p := by
  intro p hp
  rcases List.mem_cons.mp hp with e | hp
  ·rw [e]; exact ⟨.non, trivial⟩
  rcases List.mem_cons.mp hp with e | hp
  ·rw [e]
   exact ⟨.str (by decide +kernel) (xV fun s hs => by rw [eS] at hs; cases hs), by show PyData.strOk ("" : Str) = true; decide +kernel⟩
  rcases List.mem_cons.mp hp with e | hp
  ·rw [e]
   have a : (w ++ y1).length = w.length + y1.length := by
    have a : (w ++ y1).cps.toList.length = (w ++ y1).length := Array.length_toList
    have b : w.cps.toList.length = w.length := Array.length_toList
    have c' : y1.cps.toList.length = y1.length := Array.length_toList
    rw [← a, Str.cps_append, Array.toList_append, List.length_append, b, c']
   exact ⟨.str (by rw [a]; omega) (Jd (by rw [a]; omega)), ok1⟩
  rcases List.mem_cons.mp hp with e | hp
  ·rw [e]; exact ⟨.str (by omega) (xV hst), ok2⟩
  rcases List.mem_cons.mp hp with e | hp
  ·rw [e]; exact ⟨.str lupw (GD W), Jj W⟩
  rcases List.mem_cons.mp hp with e | hp
  ·rw [e]; exact ⟨.str vl (Cp hv32 (Jh 32 (by decide))), ok3⟩
  rcases List.mem_cons.mp hp with e | hp
  ·rw [e]; exact ⟨.int 0, trivial⟩
  rcases List.mem_cons.mp hp with e | hp
  ·rw [e]; exact ⟨.lst w, by intro x hx; rcases List.mem_singleton.mp hx with rfl; exact W.t.ok⟩
  ·cases hp
 have hm0 : 0 <= c % 8 := by omega
 have hm1 : c % 8 < 8 := by omega
 obtain ⟨b, hb⟩ : ∃ b, atI T8 (c % 8) = some b := by
  obtain ⟨m, hm⟩ : ∃ m : Nat, c % 8 = (m : Int) := ⟨(c % 8).toNat, by omega⟩
  have hl8 : m < T8.length := by show m < 8; omega
  exact ⟨T8[m], by rw [hm]; exact b_ (List.getElem?_eq_getElem hl8)⟩
 have hbm : b ∈ T8 := by
  unfold atI at hb
  obtain ⟨j, _, hj⟩ := aA hb
  exact List.mem_of_getElem? hj
 refine ⟨b, ?_, bad8 b hbm⟩
 have hl' : w.length <= 1000 := by omega
 have vadd : (bI w none (some 11)).length + (" " : Str).length <= 1000000 := by
  have : (" " : Str).length = 1 := by rw [sp]; rfl
  omega
 have s1 : aN 3 (aK bB (ak (b2 ixP (bV 0) (bC (.int 7))) (ak (b2 bN (b1 lenV (b2 ixP (bV 0) (bC (.int 0)))) (b2 bU (b2 eV (bV 2) (bC (.int 16))) (bC (.int 5)))) aB))) [some (aJ R), some (.str w), some (.int c), none, none] = some (.nx [some (aJ R), some (.str w), some (.int c), some (.str (letter R.base ((R.many : Int) + c / 16 % 5))), none]) := by
  generalize aJ R = RP at *
  generalize R.carriers.map PV.str = CL at *
  generalize bB = ml at *
  simp [-ixP, -lenV, x0, x7, hlc, hlet]
 have s2 : aN 4 (cL (ak (bC .non) (ak (bC (.str "")) (ak (b2 bN (bV 1) (b2 lE (b2 ixP (b2 ixP (bV 0) (bC (.int 0))) (bC (.int 0))) (b2 subV (bC (.int 25)) (b1 lenV (bV 1))))) (ak (b2 lE (bV 3) (b2 bN (bC (.int 1)) (b2 bU (b2 eV (bV 2) (bC (.int 16))) (bC (.int 24))))) aB))))) [some (aJ R), some (.str w), some (.int c), some (.str (letter R.base ((R.many : Int) + c / 16 % 5))), none] =
   some (.nx [some (aJ R), some (.str w), some (.int c), some (.str (letter R.base ((R.many : Int) + c / 16 % 5))), some (.lst [.non, .str "", .str (w ++ y1), .str y2])]) := by
  generalize aJ R = RP at *
  generalize R.carriers.map PV.str = CL at *
  generalize letter R.base ((R.many : Int) + c / 16 % 5) = LT at *
  generalize (⟨#[97 + k]⟩ : Str) = K0 at *
  simp [-ixP, -lenV, -lE, x0, x00, hlw, hy1, hy2, ladd]
 have hsl : (bSl (bV 1) oN (oS (bC (.int 11)))) [some (aJ R), some (.str w), some (.int c), some (.str (letter R.base ((R.many : Int) + c / 16 % 5))), some (.lst [.non, .str "", .str (w ++ y1), .str y2])] = some (.str (bI w none (some 11))) := by
  generalize aJ R = RP at *
  simp [h6]
 have e : oK [some (aJ R), some (.str w), some (.int c), none, none] = some (.rt b) := by
  unfold oK
  rw [aG s1, aG s2]
  generalize bSl (bV 1) oN (oS (bC (.int 11))) = SL at *
  have hb' : atI ([.non, .str "", .str (w ++ y1), .str y2] ++ [.str (Txt.upper w), .str v, .int 0, .lst [.str w]] : List PV) (c % 8) = some b := hb
  generalize letter R.base ((R.many : Int) + c / 16 % 5) = LT at *
  generalize aJ R = RP at *
  simp [hsl, -mD, hupw, vadd, hl']
  rw [show atI [PV.non, PV.str (Str.ofString ""), PV.str (w ++ y1), PV.str y2, PV.str (Txt.upper w), PV.str (bI w none (some 11) ++ Str.ofString " "), PV.int 0, PV.lst [PV.str w]] (c % 8) = some b from hb']
  rfl
 simp [iy, e]
end
end My
namespace My
open PySem L2 MR
theorem Qa {O b : PV} {k : Bool} (h : aV [O, b] = some (.bl k)) : dD [O, b] = if k = true then none else some 14 := by
 cases k <;> simp [dD, mq, h]
theorem Qc {O b : PV} : iz [O, b] = dD [O, b] := by simp [iz, ut]
theorem pM {O b : PV} {k : Bool} (h : aV [O, b] = some (.bl k)) : bh [O, b] = if k = true then none else some 14 := by
 have : iz [O, b] = if k = true then none else some 14 := by rw [Qc, Qa h]
 cases k <;> simp [bh, xq, this]
theorem yH {O a b : PV} : cZ [O, a, b] = match bh [O, a] with
  | some c => some c
  | none => (aQ [O, a]).bind fun _ => bh [O, b] := by
 unfold cZ xx
 generalize bh = x at *
 generalize aQ = m at *
 first
  | (simp; done)
  | (simp; cases x [O, a] <;> rfl)
theorem qF {O : PV} : ∀ ws : List PV, (∀ w ∈ ws, aV [O, w] = some (.bl true) /\ ∃ v, aQ [O, w] = some v) -> ∀ rest, ig [none, some O] (gN 0) aU bY (fH (ak (bV 1) (ak (bV 0) aB)) bh) (ws ++ rest) = ig [none, some O] (gN 0) aU bY (fH (ak (bV 1) (ak (bV 0) aB)) bh) rest
 | [], _, rest => rfl
 | w :: ws, h, rest => by
  obtain ⟨h1, v, h2⟩ := h w (by simp)
  have ih := qF ws (fun x hx => h x (List.mem_cons_of_mem _ hx)) rest
  have h3 := pM h1
  rw [if_pos rfl] at h3
  rw [List.cons_append, ← ih]
  have hce : bY [some w, some O] = some v := by
   unfold bY
   generalize aQ = m at *
   simp [h2]
  generalize bY = CE at *
  generalize bh = x at *
  generalize ws ++ rest = l at *
  simp [ig, h3, hce]
theorem Rn {O : PV} {ws : List PV} (hl : ws.length <= 1000) (h : ∀ w ∈ ws, aV [O, w] = some (.bl true) /\ ∃ v, aQ [O, w] = some v) : b7 [O, .lst ws] = none := by
 have := qF ws h []
 rw [List.append_nil] at this
 have hz : ig [none, some O] (gN 0) aU bY (fH (ak (bV 1) (ak (bV 0) aB)) bh) [] = none := rfl
 rw [hz] at this
 have q : ws.length <= 1000000 := by omega
 unfold b7 nj
 generalize fH (ak (bV 1) (ak (bV 0) aB)) bh = XX at *
 generalize bY = CE at *
 simp [q, this]
theorem Qd {O b : PV} {us ws : List PV} (hl : us.length + ws.length <= 1000) (h : ∀ w ∈ us, aV [O, w] = some (.bl true) /\ ∃ v, aQ [O, w] = some v) (hb : aV [O, b] = some (.bl false)) : b7 [O, .lst (us ++ b :: ws)] = some 14 := by
 have := qF us h (b :: ws)
 have h3 := pM hb
 rw [if_neg (by decide)] at h3
 have hz : ig [none, some O] (gN 0) aU bY (fH (ak (bV 1) (ak (bV 0) aB)) bh) (b :: ws) = some 14 := by
  generalize bh = x at *
  generalize bY = CE at *
  simp [ig, h3]
 rw [hz] at this
 have q : (us ++ b :: ws).length <= 1000000 := by simp; omega
 unfold b7 nj
 generalize us ++ b :: ws = l at *
 generalize fH (ak (bV 1) (ak (bV 0) aB)) bh = XX at *
 generalize bY = CE at *
 simp [q, this]
theorem Jk {O b w WS : PV} {way : Int} (h0 : 0 <= way) (h3 : way <= 3) (hw : aV [O, w] = some (.bl true)) (hv : ∃ v, aQ [O, w] = some v) (hb : aV [O, b] = some (.bl false)) (hc : b7 [O, WS] = some 14) : bc [O, .int way, w, b, WS] = some (.str "no word") := by
 have e1 := pM hb
 rw [if_neg (by decide)] at e1
 have e2 := pM hw
 rw [if_pos rfl] at e2
 obtain ⟨v, hv⟩ := hv
 have r1 : cZ [O, b, w] = some 14 := by rw [yH, e1]
 have r2 : cZ [O, w, b] = some 14 := by rw [yH, e2, hv]; exact e1
 have hx : cB [some O, some (.int way), some w, some b, some WS, some .non, none] = some 14 := by
  unfold cB
  generalize bh = x1 at *
  generalize cZ = x2 at *
  generalize b7 = x3 at *
  by_cases q0 : way = 0
  ·simp [q0, e1]
  by_cases q1 : way = 1
  ·simp [q1, r1]
  by_cases q2 : way = 2
  ·simp [q2, r2]
  simp [q0, q1, q2, hc]
 have e : fC [some O, some (.int way), some w, some b, some WS, none, none] = some (.rt (.str "no word")) := by
  unfold fC
  generalize cB = tx at *
  generalize dh = tb at *
  simp [hx]
 simp [bc, e]
theorem GF {O a w WS p2 p3 p4 : PV} {way : Int} (hw : aV [O, w] = some (.bl true)) (hv : ∃ v, aQ [O, w] = some v) (ha : aV [O, a] = some (.bl true)) (hu : ∃ v, aQ [O, a] = some v) (h2 : d7 [O, a, w] = some p2) (h3 : d7 [O, w, a] = some p3) (h4 : bZ [O, WS] = some p4) (hc : b7 [O, WS] = none) : bc [O, .int way, w, a, WS] = some (.str "told") := by
 have e1 := pM ha
 rw [if_pos rfl] at e1
 have e2 := pM hw
 rw [if_pos rfl] at e2
 obtain ⟨v, hv⟩ := hv
 obtain ⟨u, hu⟩ := hu
 have r1 : cZ [O, a, w] = none := by rw [yH, e1, hu]; exact e2
 have r2 : cZ [O, w, a] = none := by rw [yH, e2, hv]; exact e1
 have hx : cB [some O, some (.int way), some w, some a, some WS, some .non, none] = none := by
  unfold cB
  generalize bh = x1 at *
  generalize cZ = x2 at *
  generalize b7 = x3 at *
  by_cases q0 : way = 0
  ·simp [q0, e1]
  by_cases q1 : way = 1
  ·simp [q1, r1]
  by_cases q2 : way = 2
  ·simp [q2, r2]
  simp [q0, q1, q2, hc]
 have hb : dh [some O, some (.int way), some w, some a, some WS, some .non, none] = some (.nx [some O, some (.int way), some w, some a, some WS, some .non, none]) := by
  unfold dh
  generalize aQ = x1 at *
  generalize d7 = x2 at *
  generalize bZ = x3 at *
  by_cases q0 : way = 0
  ·simp [q0, hu]
  by_cases q1 : way = 1
  ·simp [q1, h2]
  by_cases q2 : way = 2
  ·simp [q2, h3]
  simp [q0, q1, q2, h4]
 have e : fC [some O, some (.int way), some w, some a, some WS, none, none] = some (.rt (.str "told")) := by
  unfold fC
  generalize cB = tx at *
  generalize dh = tb at *
  simp [hx, hb]
 simp [bc, e]
end My
namespace My
open PySem L2 MR
theorem GJ {α : Type} (c : α -> PV) (d : α) : ∀ L : List α, L.map c = (List.range L.length).map fun j => c (L.getD j d)
 | [] => rfl
 | x :: L => by
  have ih := GJ c d L
  rw [List.map_cons, List.length_cons, List.range_succ_eq_map, List.map_cons, List.map_map, ih]
  rfl
section
variable {R : Rc} (G : R.Good) {cut : List (List Str)} (hc : ∀ y, y ∈ aH cut ↔ y ∈ R.carriers) (hp : ∀ y, y ∈ pairsOf cut ↔ y ∈ R.pairs)
include G
theorem Ad : ∀ cs : List Int, ∃ ws : List Str, (∀ w ∈ ws, WordR R w) /\ ws.length = cs.length /\ bz [none, some (aJ R)] (gN 0) aU iJ (cs.map .int) = some (ws.map .str)
 | [] => ⟨[], fun _ h => (nomatch h), rfl, rfl⟩
 | c :: cs => by
  obtain ⟨ws, h1, h2, h3⟩ := Ad cs
  obtain ⟨w, hw, W⟩ := Ly G c
  refine ⟨w :: ws, fun x hx => ?_, by simp [h2], ?_⟩
  ·rcases List.mem_cons.mp hx with e | e
   ·exact e ▸ W
   ·exact h1 x e
  ·have hce : iJ [some (.int c), some (aJ R)] = some (.str w) := by
    unfold iJ
    generalize fj = m at *
    generalize aJ R = RP at *
    simp [hw]
   generalize iJ = CE at *
   generalize aJ R = RP at *
   simp [bz, hce, h3]
include hc hp
theorem Qe : ∃ en : Str -> List Str, ∀ w, WordR R w -> aQ [.obj 0 (aF cut), .str w] = some (.lst ((en w).map .str)) /\ (en w).length <= 24 := by
 have one : ∀ w, WordR R w -> ∃ e : List Str, aQ [.obj 0 (aF cut), .str w] = some (.lst (e.map .str)) /\ e.length <= 24 := fun w W => by
  obtain ⟨pre, u, post, e, h1, h2, h⟩ := PL G hc hp W
  refine ⟨u :: post, h, ?_⟩
  have gen : ∀ n a, (un R w n a).length <= n := by
   intro n
   induction n with
   | zero => intro a; simp [un]
   | succ n ih =>
    intro a
    unfold un
    split
    ·simp; exact ih _
    ·simp
  have := gen 24 0
  rw [e] at this
  simp at this ⊢
  omega
 classical
 refine ⟨fun w => if h : WordR R w then (one w h).choose else [], fun w W => ?_⟩
 have e : (if h : WordR R w then (one w h).choose else []) = (one w W).choose := dif_pos W
 show aQ _ = some (.lst ((if h : WordR R w then (one w h).choose else []).map .str)) /\ (if h : WordR R w then (one w h).choose else []).length <= 24
 rw [e]
 exact (one w W).choose_spec
theorem Jl {ws : List Str} (hws : ∀ w ∈ ws, WordR R w) (lw : ws.length <= 1000) : (∀ a ∈ ws, ∀ b ∈ ws, ∃ p, d7 [.obj 0 (aF cut), .str a, .str b] = some p) /\ (∃ p, bZ [.obj 0 (aF cut), .lst (ws.map .str)] = some p) /\ ∀ w ∈ ws, ∃ v, aQ [.obj 0 (aF cut), .str w] = some v := by
 obtain ⟨en, hen⟩ := Qe G hc hp
 have er : ∀ a ∈ ws, ∀ b ∈ ws, cA [.obj 0 (aF cut), .lst ((en a).map .str), .lst ((en b).map .str)] = some (.bl (rhB (likes cut) (en a) (en b))) := fun a ha b hb => Rg (fun _ _ => Iff.rfl) (hen a (hws a ha)).2 (hen b (hws b hb)).2
 refine ⟨fun a ha b hb => ?_, ?_, fun w hw => ⟨_, (hen w (hws w hw)).1⟩⟩
 ·have h1 := (hen a (hws a ha)).1
  have h2 := (hen b (hws b hb)).1
  have h3 := er a ha b hb
  refine ⟨.bl (rhB (likes cut) (en a) (en b)), ?_⟩
  unfold d7 xu
  generalize cA = m1 at *
  generalize aQ = m2 at *
  generalize aF cut = TF at *
  generalize (en a).map PV.str = E1 at *
  generalize (en b).map PV.str = E2 at *
  simp [h1, h2, h3]
 ·have hm : ∀ i < ws.length, ws.getD i "" ∈ ws := fun i hi => by
   rw [List.getD_eq_getElem?_getD, List.getElem?_eq_getElem hi]
   exact List.getElem_mem hi
  have hW : (.lst (ws.map .str) : PV) = rgL ws.length fun i => .str (ws.getD i "") := by unfold rgL; rw [GJ PV.str "" ws]
  rw [hW]
  have ch := Rm (n := ws.length) (r := fun i j => rhB (likes cut) (en (ws.getD i "")) (en (ws.getD j ""))) (T := .obj 0 (aF cut)) (W := fun i => .str (ws.getD i "")) (E := fun i => .lst ((en (ws.getD i "")).map .str)) lw (fun i hi => (hen _ (hws _ (hm i hi))).1) (fun i hi j hj => er _ (hm i hi) _ (hm j hj)) (fun i _ => Ja _ _) fun i _ j _ h => by rw [I_]; exact h
  rcases ch with ⟨_, h⟩ | ⟨_, _, _, _, _, _, _, _, _, h⟩
  ·exact ⟨_, h⟩
  ·exact ⟨_, h⟩
end
theorem Ro {O b w WS p4 : PV} (h4 : bZ [O, WS] = some p4) (hc : b7 [O, WS] = none) : bc [O, .int 3, w, b, WS] = some (.str "told") := by
 have hx : cB [some O, some (.int 3), some w, some b, some WS, some .non, none] = none := by
  unfold cB
  generalize bh = x1 at *
  generalize cZ = x2 at *
  generalize b7 = x3 at *
  simp [hc]
 have hb : dh [some O, some (.int 3), some w, some b, some WS, some .non, none] = some (.nx [some O, some (.int 3), some w, some b, some WS, some .non, none]) := by
  unfold dh
  generalize aQ = x1 at *
  generalize d7 = x2 at *
  generalize bZ = x3 at *
  simp [h4]
 have e : fC [some O, some (.int 3), some w, some b, some WS, none, none] = some (.rt (.str "told")) := by
  unfold fC
  generalize cB = tx at *
  generalize dh = tb at *
  simp [hx, hb]
 simp [bc, e]
theorem law_true (ns : List Int) (h63 : ns.length <= 63) : vA [.frz (ns.map PV.int)] = some (.bl true) := by
 obtain ⟨R, G, hR⟩ := Gm ns 1
 obtain ⟨rs, hrs, hn, hrows⟩ := Lq G (cell ns 0)
 have T := tells_of G hrs hn
 have hmade := made G T
 have hc := mH G T
 have hp := z8 G T
 have hcell := pK ns 0
 have hcell7 := pK ns 7
 have hcell8 := pK ns 8
 have hcell9 := pK ns 9
 obtain ⟨cs, hcs, lcs⟩ : ∃ cs : List Int, je (ns.map PV.int) (some 10) (some 15) = cs.map PV.int /\ cs.length <= 63 := by
  refine ⟨(ns.drop (HT.sIx ns.length 0 (some 10))).take (HT.sIx ns.length ns.length (some 15) - HT.sIx ns.length 0 (some 10)), ?_, ?_⟩
  ·unfold je; simp [List.map_drop, List.map_take]
  ·simp; omega
 obtain ⟨ws, hws, lws, hcw⟩ := Ad G (cell ns 9 :: cs)
 have lw : ws.length <= 64 := by rw [lws]; simp; omega
 obtain ⟨w0, wr, ew⟩ : ∃ w0 wr, ws = w0 :: wr := by
  cases ws with
  | nil => simp at lws
  | cons a l => exact ⟨a, l, rfl⟩
 have hlast : ∃ wl ∈ ws, atI (ws.map PV.str) (-1) = some (.str wl) := by
  have hne : ws ≠ [] := by rw [ew]; simp
  refine ⟨ws.getLast hne, List.getLast_mem hne, ?_⟩
  unfold atI ixN
  have hl1 : 1 <= (ws.map PV.str).length := by rw [List.length_map, ew]; simp
  rw [if_neg (by omega), if_pos (by omega)]
  have e : ((-1 : Int) + ((ws.map PV.str).length : Nat)).toNat = ws.length - 1 := by rw [List.length_map] at *; omega
  simp only [Option.bind_some]
  rw [e, List.getElem?_map, List.getLast_eq_getElem, List.getElem?_eq_getElem]
  rfl
 obtain ⟨wl, hwl, hat⟩ := hlast
 have W0 : WordR R w0 := hws w0 (by rw [ew]; simp)
 have good := fun w (h : w ∈ ws) => xQ G hc (hws w h)
 obtain ⟨rh, ⟨p4, hch⟩, hend⟩ := Jl G hc hp hws (by omega)
 obtain ⟨b, hb, Bb, okb⟩ := P_ G W0 (cell ns 7)
 have hbw := LR hc Bb
 obtain ⟨m, hm, hmZ⟩ := Cd (cell ns 8) ws.length
 have d1 := xK (fun x : Str => PV.str x) ws m hmZ
 have d2 := xM (fun x : Str => PV.str x) ws m hmZ
 have hg : ∀ x ∈ ws.map PV.str, aV [.obj 0 (aF (cP rs)), x] = some (.bl true) /\ ∃ v, aQ [.obj 0 (aF (cP rs)), x] = some v := fun x hx => by
  obtain ⟨w, hw, rfl⟩ := List.mem_map.mp hx
  exact ⟨good w hw, hend w hw⟩
 have xg := Rn (ws := ws.map PV.str) (by simp; omega) hg
 have xb := Qd (us := (ws.take m).map PV.str) (ws := (ws.drop m).map PV.str) (by simp; omega) (fun x hx => hg x (by
  obtain ⟨w, hw, rfl⟩ := List.mem_map.mp hx
  exact List.mem_map.mpr ⟨w, List.mem_of_mem_take hw, rfl⟩)) hbw
 have m0 : w0 ∈ ws := by rw [ew]; simp
 obtain ⟨p2, h2⟩ := rh wl hwl w0 m0
 obtain ⟨p3, h3⟩ := rh w0 m0 wl hwl
 have tg : ∀ way : Int, bc [.obj 0 (aF (cP rs)), .int way, .str w0, .str wl, .lst (ws.map .str)] = some (.str "told") := fun way => GF (good w0 m0) (hend w0 m0) (good wl hwl) (hend wl hwl) h2 h3 hch xg
 have tb : ∀ way : Int, 0 <= way -> way <= 3 -> bc [.obj 0 (aF (cP rs)), .int way, .str w0, b, .lst ((ws.take m).map PV.str ++ b :: (ws.drop m).map PV.str)] = some (.str "no word") := fun way a c => Jk a c (good w0 m0) (hend w0 m0) hbw xb
 have t3 : bc [.obj 0 (aF (cP rs)), .int 3, .str w0, b, .lst (ws.map .str)] = some (.str "told") := Ro hch xg
 have hx0 : atI (ws.map PV.str) 0 = some (.str w0) := by rw [ew]; exact at0 _ _
 have okm : eqP (.lst ((ws.take m).map PV.str ++ b :: (ws.drop m).map PV.str)) (.lst ((ws.take m).map PV.str ++ b :: (ws.drop m).map PV.str)) = some true := by
  refine Iz (n := 2) ?_ (by decide)
  show ∀ x ∈ _, okP 1 x
  intro x hx
  rcases List.mem_append.mp hx with z | z
  ·obtain ⟨w, hw, rfl⟩ := List.mem_map.mp z
   exact (hws w (List.mem_of_mem_take hw)).t.ok
  ·rcases List.mem_cons.mp z with e | z
   ·exact e ▸ okb
   ·obtain ⟨w, hw, rfl⟩ := List.mem_map.mp z
    exact (hws w (List.mem_of_mem_drop hw)).t.ok
 have lmix : (ws.take m).map PV.str ++ [b] = (ws.take m).map PV.str ++ [b] := rfl
 have hmix : ((ws.take m).map PV.str ++ [b]) ++ (ws.drop m).map PV.str = (ws.take m).map PV.str ++ b :: (ws.drop m).map PV.str := by simp
 have ll1 : ((ws.take m).map PV.str).length + 1 <= 1000000 := by simp; omega
 have ll2 : ((ws.take m).map PV.str ++ [b]).length + ((ws.drop m).map PV.str).length <= 1000000 := by simp; omega
 generalize hcut : cP rs = cut at *
 generalize hzs : rs.map txt = zs at hrows hmade
 let S : PV := .frz (ns.map PV.int)
 let O : PV := .obj 0 (aF cut)
 have s1 : aN 1 (aK dJ (ak (bV 0) (ak (bC (.int 1)) aB))) [some S, none, none, none, none, none, none, none, none] = some (.nx [some S, some (aJ R), none, none, none, none, none, none, none]) := by
  have : dJ [.frz (ns.map PV.int), .int 1] = some (aJ R) := hR
  simp [S, this]
 have s2 : aN 2 (yC 0 cD (ak (aK gw (ak (bV 1) (ak (aK aP (ak (bV 0) (ak (bC (.int 0)) aB))) aB))) aB)) [some S, some (aJ R), none, none, none, none, none, none, none] = some (.nx [some S, some (aJ R), some O, none, none, none, none, none, none]) := by
  have : aP [.frz (ns.map PV.int), .int 0] = some (.int (cell ns 0)) := hcell
  simp [S, O, this, hrows, hmade]
 have s3 : aN 3 (aY [none, some 1] (iV (b2 jV (cL (ak (aK aP (ak (bV 0) (ak (bC (.int 9)) aB))) aB)) (bSl (bV 0) (oS (bC (.int 10))) (oS (bC (.int 15)))))) (gN 0) aU iJ) [some S, some (aJ R), some O, none, none, none, none, none, none] = some (.nx [some S, some (aJ R), some O, some (.lst (ws.map .str)), none, none, none, none, none]) := by
  have h0 : aP [.frz (ns.map PV.int), .int 9] = some (.int (cell ns 9)) := hcell9
  have q : 1 + cs.length <= 1000000 := by omega
  have q' : cs.length + 1 <= 1000000 := by omega
  have hcw' : bz [none, some (aJ R)] (gN 0) aU iJ (.int (cell ns 9) :: cs.map .int) = some (ws.map .str) := hcw
  generalize aJ R = RP at *
  generalize O = O' at *
  generalize iJ = CE at *
  generalize ws.map PV.str = WL at *
  simp [S, h0, hcs, q, q', hcw']
 have s4 : aN 4 (aK iy (ak (bV 1) (ak (b2 ixP (bV 3) (bC (.int 0))) (ak (aK aP (ak (bV 0) (ak (bC (.int 7)) aB))) aB)))) [some S, some (aJ R), some O, some (.lst (ws.map .str)), none, none, none, none, none] = some (.nx [some S, some (aJ R), some O, some (.lst (ws.map .str)), some b, none, none, none, none]) := by
  have h0 : aP [S, .int 7] = some (.int (cell ns 7)) := hcell7
  generalize aJ R = RP at *
  generalize O = O' at *
  generalize S = S' at *
  generalize ws.map PV.str = WL at *
  simp [h0, hx0, hb]
 have s5 : aN 5 (b2 bU (aK aP (ak (bV 0) (ak (bC (.int 8)) aB))) (b2 bN (b1 lenV (bV 3)) (bC (.int 1)))) [some S, some (aJ R), some O, some (.lst (ws.map .str)), some b, none, none, none, none] = some (.nx [some S, some (aJ R), some O, some (.lst (ws.map .str)), some b, some (.int (m : Nat)), none, none, none]) := by
  have h0 : aP [S, .int 8] = some (.int (cell ns 8)) := hcell8
  have l1 : lenV (.lst (ws.map PV.str)) = some (.int (ws.length : Nat)) := by simp
  have hZ0 : (0 : Int) < (ws.length : Int) + 1 := by omega
  generalize aJ R = RP at *
  generalize O = O' at *
  generalize S = S' at *
  generalize ws.map PV.str = WL at *
  generalize aP = mc at *
  simp [-lenV, h0, l1, hZ0, hm]
 have s6 : aN 6 (b2 jV (b2 jV (bSl (bV 3) oN (oS (bV 5))) (cL (ak (bV 4) aB))) (bSl (bV 3) (oS (bV 5)) oN)) [some S, some (aJ R), some O, some (.lst (ws.map .str)), some b, some (.int (m : Nat)), none, none, none] = some (.nx [some S, some (aJ R), some O, some (.lst (ws.map .str)), some b, some (.int (m : Nat)), some (.lst ((ws.take m).map PV.str ++ b :: (ws.drop m).map PV.str)), none, none]) := by
  have ll2' : ((ws.take m).map PV.str).length + 1 + ((ws.drop m).map PV.str).length <= 1000000 := by simp; omega
  generalize aJ R = RP at *
  generalize O = O' at *
  generalize S = S' at *
  generalize (ws.take m).map PV.str = A1 at *
  generalize (ws.drop m).map PV.str = A2 at *
  generalize ws.map PV.str = WL at *
  generalize ((m : Nat) : Int) = mm at *
  simp [d1, d2, ll1, ll2, ll2']
 generalize hMX : (.lst ((ws.take m).map PV.str ++ b :: (ws.drop m).map PV.str) : PV) = MX at *
 have s7 : aN 7 (b1 lD (bV 6)) [some S, some (aJ R), some O, some (.lst (ws.map .str)), some b, some (.int (m : Nat)), some MX, none, none] = some (.nx [some S, some (aJ R), some O, some (.lst (ws.map .str)), some b, some (.int (m : Nat)), some MX, some MX, none]) := by
  have : lD MX = some MX := by rw [← hMX]; simp
  generalize aJ R = RP at *
  generalize O = O' at *
  generalize S = S' at *
  simp [-lD, this]
 have hWL : ∀ i : Int, ixP (.lst (ws.map PV.str)) (.int i) = atI (ws.map PV.str) i := fun _ => rfl
 have tg' : ∀ way : Int, bc [O, .int way, .str w0, .str wl, .lst (ws.map .str)] = some (.str "told") := tg
 have tb' : ∀ way : Int, 0 <= way -> way <= 3 -> bc [O, .int way, .str w0, b, MX] = some (.str "no word") := tb
 have t3' : bc [O, .int 3, .str w0, b, .lst (ws.map .str)] = some (.str "told") := t3
 have lp := ux (g := gN 8) (ds := [8]) (body := nq) (env := [some S, some (aJ R), some O, some (.lst (ws.map .str)), some b, some (.int (m : Nat)), some MX, some MX, none]) (fun k : Nat => PV.int (k : Nat)) (List.range 4) fun k hk => by
  have hk := List.mem_range.mp hk
  have g1 := tg' (k : Int)
  have g2 := tb' (k : Int) (by omega) (by omega)
  unfold nq
  generalize (.lst (ws.map PV.str) : PV) = WL at *
  generalize bc = mt at *
  generalize aJ R = RP at *
  generalize O = O' at *
  generalize S = S' at *
  have a0 : ixP WL (.int 0) = some (.str w0) := (hWL 0).trans hx0
  have a1 : ixP WL (.int (-1)) = some (.str wl) := (hWL (-1)).trans hat
  generalize (k : Int) = kk at *
  simp [jO, -ixP, a0, a1, g1, g2]
 have hr4 : (List.range 4).map (fun k : Nat => PV.int (k : Nat)) = eX 0 4 := by rw [show (4 : Int) = ((4 : Nat) : Int) from rfl, gZ]
 rw [hr4] at lp
 have hg4 : rgI 4 = true := rG (by omega) (by omega)
 have s8 : gf (gN 8) (iR1 (bC (.int 4))) [8] nq [some S, some (aJ R), some O, some (.lst (ws.map .str)), some b, some (.int (m : Nat)), some MX, some MX, none] = some (.nx [some S, some (aJ R), some O, some (.lst (ws.map .str)), some b, some (.int (m : Nat)), some MX, some MX, none]) := by
  generalize nq = lb at *
  generalize aJ R = RP at *
  generalize O = O' at *
  generalize S = S' at *
  generalize ws.map PV.str = WL at *
  simp [hg4, lp]
 have e : vz [some S, none, none, none, none, none, none, none, none] = some (.rt (.bl true)) := by
  unfold vz
  rw [aG s1, aG s2, aG s3, aG s4, aG s5, aG s6, aG s7, aG s8]
  generalize (.lst (ws.map PV.str) : PV) = WL at *
  have a0 : ixP WL (.int 0) = some (.str w0) := (hWL 0).trans hx0
  generalize bc = mt at *
  generalize aJ R = RP at *
  generalize O = O' at *
  generalize S = S' at *
  simp [-ixP, okm, a0, t3']
 have e' : vz [some (.frz (ns.map PV.int)), none, none, none, none, none, none, none, none] = some (.rt (.bl true)) := e
 simp [vA, e']
end My
namespace My
open PySem L2 MR
def top (i : Nat) : Stmt := PySem.Challenge.pw_lilt_k62_no_words_to_rhyme.main.body.getD i (.Pass ⟨0, 0, 0, 0⟩)
abbrev lA : Stmt := top 40
abbrev lX : Stmt := top 41
abbrev qG : Stmt := top 42
abbrev lC : Stmt := top 43
abbrev cJ : Stmt := top 44
abbrev lY : Stmt := top 23
abbrev qH : Stmt := top 24
abbrev nu : Stmt := top 25
abbrev oU : Stmt := top 15
abbrev jc : Stmt := top 16
abbrev nF : Stmt := top 17
abbrev kE : Stmt := top 18
abbrev sI : Stmt := top 19
abbrev eU : Stmt := top 21
abbrev kI : Stmt := top 20
abbrev lR : Stmt := top 22
abbrev di : Stmt := inClass (top 26) 0
abbrev qI : Stmt := top 48
abbrev lH : Stmt := top 45
abbrev nJ : Stmt := top 46
abbrev lJ : Stmt := top 47
abbrev jl : Stmt := inClass (top 26) 1
abbrev lU : Stmt := top 29
abbrev jF : Stmt := top 30
abbrev jm : Stmt := inClass (top 26) 2
abbrev qJ : Stmt := top 31
abbrev qK : Stmt := top 33
abbrev kJ : Stmt := inClass (top 26) 7
abbrev kO : Stmt := top 34
abbrev uU : Stmt := top 35
abbrev gC : Stmt := top 37
abbrev mz : Stmt := top 36
abbrev fZ : Stmt := top 38
abbrev oV : Stmt := top 50
abbrev qL : Stmt := top 51
abbrev l_ : Stmt := top 49
abbrev qM : List Str := ["_law_script", "_law_at", "_law_cells", "_law_base", "_law_many", "_law_carriers", "_law_pairs", "_law_k", "_law_number", "_law_weights", "_law_some", "_law_longs", "_law_eithers", "_law_begins", "_law_splits", "_law_run"]
abbrev JM : List Str := ["carrying", "pairs", "row", "kind", "words", "carriers"]
abbrev Dz : List Str := ["self", "rows", "cut", "at", "row"]
abbrev yI : List Str := ["tongue", "words", "ends", "mates", "broken"]
theorem vL : FnScope ["_law_script", "_law_k"] ["_law_script", "_law_k"] (aq lA) := fsc
theorem sc__law_letter : FnScope ["_law_cell", "_law_k", "_law_step"] ["_law_cell", "_law_k"] (aq lX) := fsc
theorem Aw : FnScope ["_law_cell", "_law_k"] ["_law_cell", "_law_k"] (aq qG) := fsc
theorem sc__law_cluster : FnScope ["_law_base", "_law_many", "_law_number", "_law_found", "_law_k"] ["_law_base", "_law_many", "_law_number"] (aq lC) := fsc
theorem sc__law_record : FnScope ["_law_script", "_law_at", "_law_cells", "_law_base", "_law_many", "_law_carriers", "_law_pairs", "_law_k", "_law_number", "_law_weights", "_law_some", "_law_longs", "_law_eithers", "_law_begins", "_law_splits", "_law_run"] ["_law_script", "_law_at"] (aq cJ) := fsc
theorem sc_told_behind : FnScope ["kind", "rows", "told", "row", "word"] ["kind", "rows"] (aq lY) := fsc
theorem sc_last_run : FnScope ["rows", "told", "row"] ["rows"] (aq qH) := fsc
theorem sc_told_alike : FnScope ["rows", "told", "row"] ["rows"] (aq nu) := fsc
theorem Ae : FnScope ["text"] ["text"] (aq oU) := fsc
theorem vM : FnScope ["row"] ["row"] (aq jc) := fsc
theorem xY : FnScope ["carrying", "word"] ["carrying", "word"] (aq nF) := fsc
theorem xZ : FnScope ["carrying", "row"] ["carrying", "row"] (aq kE) := fsc
theorem DG : FnScope ["carrying", "text"] ["carrying", "text"] (aq sI) := fsc
theorem sJ : FnScope ["carrying", "carriers", "words"] ["carrying", "carriers", "words"] (aq eU) := fsc
theorem x_ : FnScope ["carrying", "word"] ["carrying", "word"] (aq kI) := fsc
theorem sc_is_rule : FnScope ["carrying", "pairs", "row", "kind", "words", "carriers"] ["carrying", "pairs", "row"] (aq lR) := fsc
theorem sc_Tongue____init__ : FnScope ["self", "rows", "cut", "at", "row"] ["self", "rows"] (aq di) := fsc
theorem sc__law_bad : FnScope ["_law_record_here", "_law_word_here", "_law_cell", "_law_stop", "_law_some"] ["_law_record_here", "_law_word_here", "_law_cell"] (aq qI) := fsc
theorem sc__law_rows : FnScope ["_law_record_here", "_law_cell", "_law_rows_here", "_law_k", "_law_word_here", "_law_some", "_law_middle"] ["_law_record_here", "_law_cell"] (aq lH) := fsc
theorem sc__law_piece : FnScope ["_law_record_here", "_law_number", "_law_many", "_law_way", "_law_more"] ["_law_record_here", "_law_number"] (aq nJ) := fsc
theorem sc__law_word : FnScope ["_law_record_here", "_law_cell", "_law_word_here", "_law_k"] ["_law_record_here", "_law_cell"] (aq lJ) := fsc
theorem sO : FnScope ["self", "letter"] ["self", "letter"] (aq jl) := fsc
theorem DK : FnScope ["tongue", "thing"] ["tongue", "thing"] (aq lU) := fsc
theorem ue : FnScope ["tongue", "thing"] ["tongue", "thing"] (aq jF) := fsc
theorem sS : FnScope ["self", "pair"] ["self", "pair"] (aq jm) := fsc
theorem sc_units_of : FnScope ["tongue", "word", "units", "at", "size"] ["tongue", "word"] (aq qJ) := fsc
theorem sc_end_of : FnScope ["tongue", "word", "units", "last"] ["tongue", "word"] (aq qK) := fsc
theorem uV : FnScope ["self", "one", "other"] ["self", "one", "other"] (aq kJ) := fsc
theorem yc : FnScope ["tongue", "one", "other"] ["tongue", "one", "other"] (aq kO) := fsc
theorem GK : FnScope ["tongue", "one", "other"] ["tongue", "one", "other"] (aq uU) := fsc
theorem sc_first_broken : FnScope ["mates", "one", "near", "beside", "middle", "far"] ["mates"] (aq gC) := fsc
theorem Ax : FnScope ["tongue", "ends", "end"] ["tongue", "ends", "end"] (aq mz) := fsc
theorem sc_chains_of : FnScope ["tongue", "words", "ends", "mates", "broken"] ["tongue", "words"] (aq fZ) := fsc
theorem sc__law_told : FnScope ["_law_tongue", "_law_way", "_law_word_here", "_law_thing", "_law_words", "_law_wrong", "_law_e"] ["_law_tongue", "_law_way", "_law_word_here", "_law_thing", "_law_words"] (aq oV) := fsc
theorem sc_law : FnScope ["_law_script", "_law_record_here", "_law_tongue", "_law_words", "_law_thing", "_law_at", "_law_mixed", "_law_kept", "_law_way"] ["_law_script"] (aq qL) := fsc
theorem wC : FnScope ["_law_e"] ["_law_e"] (aq l_) := fsc
structure Adr where
 a0 : Nat := 0
 t_LEAST_STOPS : Tok
 t_LETTERS : Tok
 t_MOST_LETTERS : Tok
 t_MOST_STOPS : Tok
 a_RUNS : Addr
structure Q7 (P : Program) (w : World) (K : W.Frag) (mg : Str -> Option Value) (base : Heap) (cl : Nat -> Addr) (A : Adr) : Prop
section
variable (P : Program) (w : World) (K : W.Frag) (mg : Str -> Option Value) (base : Heap) (cl : Nat -> Addr) (A : Adr)
structure Tx__law_others : Prop where
 q : Q7 P w K mg base cl A
 z_isinstance : mg "isinstance" = none
 k_NoWord_NoForm : PySem.W.kitOne K (.ref (cl 14)) (.ref (cl 13)) = some false
 k_NoWord_NoMetre : PySem.W.kitOne K (.ref (cl 14)) (.ref (cl 12)) = some false
 k_NoWord_NoName : PySem.W.kitOne K (.ref (cl 14)) (.ref (cl 16)) = some false
 k_NoWord_NoReading : PySem.W.kitOne K (.ref (cl 14)) (.ref (cl 15)) = some false
 k_NoWord_NoRow : PySem.W.kitOne K (.ref (cl 14)) (.ref (cl 17)) = some false
 k_NoWord_NoRule : PySem.W.kitOne K (.ref (cl 14)) (.ref (cl 11)) = some false
 m_NoForm : mg "NoForm" = some (.ref (cl 13))
 m_NoMetre : mg "NoMetre" = some (.ref (cl 12))
 m_NoName : mg "NoName" = some (.ref (cl 16))
 m_NoReading : mg "NoReading" = some (.ref (cl 15))
 m_NoRow : mg "NoRow" = some (.ref (cl 17))
 m_NoRule : mg "NoRule" = some (.ref (cl 11))
 xc_NoWord : XCls K (cl 14)
structure Tx__law_cell_at : Prop where
 q : Q7 P w K mg base cl A
 z_len : mg "len" = none
structure Tx__law_letter : Prop where
 q : Q7 P w K mg base cl A
structure Tx__law_mix : Prop where
 q : Q7 P w K mg base cl A
structure Tx__law_cluster : Prop where
 q : Q7 P w K mg base cl A
 z_range : mg "range" = none
 c__law_letter : Cal P w K mg base 1 "_law_letter" ["_law_cell", "_law_k"] (spM ⟨K, cl⟩ bB false)
structure Tx__law_record : Prop where
 q : Q7 P w K mg base cl A
 z_len : mg "len" = none
 z_range : mg "range" = none
 c__law_cell_at : Cal P w K mg base 1 "_law_cell_at" ["_law_script", "_law_k"] (spM ⟨K, cl⟩ aP false)
 c__law_cluster : Cal P w K mg base 2 "_law_cluster" ["_law_base", "_law_many", "_law_number"] (spM ⟨K, cl⟩ d9 false)
 c__law_letter : Cal P w K mg base 1 "_law_letter" ["_law_cell", "_law_k"] (spM ⟨K, cl⟩ bB false)
 c__law_mix : Cal P w K mg base 1 "_law_mix" ["_law_cell", "_law_k"] (spM ⟨K, cl⟩ dq false)
structure Tx_told_behind : Prop where
 q : Q7 P w K mg base cl A
structure Tx_last_run : Prop where
 q : Q7 P w K mg base cl A
structure Tx_told_alike : Prop where
 q : Q7 P w K mg base cl A
structure Tx_is_letter : Prop where
 q : Q7 P w K mg base cl A
 z_len : mg "len" = none
 g_LETTERS : mg "LETTERS" = some (.str "abcdefghijklmnopqrstuvwxyz" A.t_LETTERS)
structure Tx_is_carry_row : Prop where
 q : Q7 P w K mg base cl A
 z_all : mg "all" = none
 z_len : mg "len" = none
 c_is_letter : Cal P w K mg base 1 "is_letter" ["text"] (spM ⟨K, cl⟩ dw false)
structure Tx_is_pair_of : Prop where
 q : Q7 P w K mg base cl A
 z_len : mg "len" = none
structure Tx_is_one_row : Prop where
 q : Q7 P w K mg base cl A
 z_all : mg "all" = none
 z_len : mg "len" = none
 c_is_pair_of : Cal P w K mg base 1 "is_pair_of" ["carrying", "word"] (spM ⟨K, cl⟩ ik false)
structure Tx_is_stop : Prop where
 q : Q7 P w K mg base cl A
 c_is_letter : Cal P w K mg base 1 "is_letter" ["text"] (spM ⟨K, cl⟩ dw false)
structure Tx_are_alike_units : Prop where
 q : Q7 P w K mg base cl A
 z_all : mg "all" = none
 z_len : mg "len" = none
 c_is_stop : Cal P w K mg base 2 "is_stop" ["carrying", "text"] (spM ⟨K, cl⟩ gQ false)
structure Tx_is_cluster : Prop where
 q : Q7 P w K mg base cl A
 z_all : mg "all" = none
 z_len : mg "len" = none
 g_LEAST_STOPS : mg "LEAST_STOPS" = some (.int 2 A.t_LEAST_STOPS)
 g_MOST_STOPS : mg "MOST_STOPS" = some (.int 4 A.t_MOST_STOPS)
 c_is_stop : Cal P w K mg base 2 "is_stop" ["carrying", "text"] (spM ⟨K, cl⟩ gQ false)
structure Tx_is_rule : Prop where
 q : Q7 P w K mg base cl A
 z_all : mg "all" = none
 z_len : mg "len" = none
 z_list : mg "list" = none
 g_RUNS : mg "RUNS" = some (.ref A.a_RUNS)
 r_RUNS : ∀ (B : Addr -> Prop) (H : Hp), Rep ⟨K, cl⟩ B H (.ref A.a_RUNS) pG
 c_are_alike_units : Cal P w K mg base 3 "are_alike_units" ["carrying", "carriers", "words"] (spM ⟨K, cl⟩ dY false)
 c_is_carry_row : Cal P w K mg base 2 "is_carry_row" ["row"] (spM ⟨K, cl⟩ cO false)
 c_is_cluster : Cal P w K mg base 3 "is_cluster" ["carrying", "word"] (spM ⟨K, cl⟩ il false)
 c_is_one_row : Cal P w K mg base 2 "is_one_row" ["carrying", "row"] (spM ⟨K, cl⟩ dF false)
structure Tx_Tongue____init__ : Prop where
 q : Q7 P w K mg base cl A
 z_enumerate : mg "enumerate" = none
 cl_Tongue : Cls K (cl 0)
 n_Tongue_beginnings : NoAttr K (cl 0) "beginnings"
 n_Tongue_carrying : NoAttr K (cl 0) "carrying"
 n_Tongue_eithers : NoAttr K (cl 0) "eithers"
 n_Tongue_likes : NoAttr K (cl 0) "likes"
 n_Tongue_longs : NoAttr K (cl 0) "longs"
 n_Tongue_pairs : NoAttr K (cl 0) "pairs"
 n_Tongue_running : NoAttr K (cl 0) "running"
 n_Tongue_splittings : NoAttr K (cl 0) "splittings"
 c_is_carry_row : Cal P w K mg base 2 "is_carry_row" ["row"] (spM ⟨K, cl⟩ cO false)
 c_is_one_row : Cal P w K mg base 2 "is_one_row" ["carrying", "row"] (spM ⟨K, cl⟩ dF false)
 c_is_rule : Cal P w K mg base 4 "is_rule" ["carrying", "pairs", "row"] (spM ⟨K, cl⟩ j7 false)
 c_last_run : Cal P w K mg base 1 "last_run" ["rows"] (spM ⟨K, cl⟩ iu false)
 c_told_alike : Cal P w K mg base 1 "told_alike" ["rows"] (spM ⟨K, cl⟩ fL false)
 c_told_behind : Cal P w K mg base 1 "told_behind" ["kind", "rows"] (spM ⟨K, cl⟩ bf false)
structure Tx__law_bad : Prop where
 q : Q7 P w K mg base cl A
 z_len : mg "len" = none
 c__law_letter : Cal P w K mg base 1 "_law_letter" ["_law_cell", "_law_k"] (spM ⟨K, cl⟩ bB false)
structure Tx__law_rows : Prop where
 q : Q7 P w K mg base cl A
 z_enumerate : mg "enumerate" = none
 z_len : mg "len" = none
structure Tx__law_piece : Prop where
 q : Q7 P w K mg base cl A
 z_len : mg "len" = none
 c__law_letter : Cal P w K mg base 1 "_law_letter" ["_law_cell", "_law_k"] (spM ⟨K, cl⟩ bB false)
structure Tx__law_word : Prop where
 q : Q7 P w K mg base cl A
 z_len : mg "len" = none
 z_range : mg "range" = none
 c__law_mix : Cal P w K mg base 1 "_law_mix" ["_law_cell", "_law_k"] (spM ⟨K, cl⟩ dq false)
 c__law_piece : Cal P w K mg base 2 "_law_piece" ["_law_record_here", "_law_number"] (spM ⟨K, cl⟩ cV false)
structure Tx_Tongue__carries : Prop where
 q : Q7 P w K mg base cl A
 cl_Tongue : Cls K (cl 0)
 n_Tongue_carrying : NoAttr K (cl 0) "carrying"
structure Tx_is_word : Prop where
 q : Q7 P w K mg base cl A
 z_all : mg "all" = none
 z_any : mg "any" = none
 z_isinstance : mg "isinstance" = none
 z_len : mg "len" = none
 z_str : mg "str" = none
 is_str : ∀ t k, (t, k) ∈ tb_str -> PySem.W.kitOne K (.type t) (.type "str") = some k
 g_MOST_LETTERS : mg "MOST_LETTERS" = some (.int 24 A.t_MOST_LETTERS)
 cl_Tongue : Cls K (cl 0)
 c_is_letter : Cal P w K mg base 1 "is_letter" ["text"] (spM ⟨K, cl⟩ dw false)
 m_Tongue__carries : CalM P w K mg base (cl 0) 1 "carries" ["self", "letter"] (spM ⟨K, cl⟩ cH false)
structure Tx_refuse_no_word : Prop where
 q : Q7 P w K mg base cl A
 c_is_word : Cal P w K mg base 2 "is_word" ["tongue", "thing"] (spM ⟨K, cl⟩ aV false)
 e_NoWord : PySem.W.excIn K (cl 14) [.type "ValueError", .type "Exception", .type "BaseException", .type "object"] "ValueError.__new__" = true
 m_NoWord : mg "NoWord" = some (.ref (cl 14))
structure Tx_Tongue__is_pair : Prop where
 q : Q7 P w K mg base cl A
 cl_Tongue : Cls K (cl 0)
 n_Tongue_pairs : NoAttr K (cl 0) "pairs"
structure Tx_units_of : Prop where
 q : Q7 P w K mg base cl A
 z_len : mg "len" = none
 cl_Tongue : Cls K (cl 0)
 c_refuse_no_word : Cal P w K mg base 3 "refuse_no_word" ["tongue", "thing"] (spM ⟨K, cl⟩ cN false)
 m_Tongue__is_pair : CalM P w K mg base (cl 0) 1 "is_pair" ["self", "pair"] (spM ⟨K, cl⟩ dZ false)
 x_refuse_no_word : CalX P w K mg base 3 "refuse_no_word" ["tongue", "thing"] (spX ⟨K, cl⟩ cN false dD)
structure Tx_end_of : Prop where
 q : Q7 P w K mg base cl A
 z_enumerate : mg "enumerate" = none
 z_max : mg "max" = none
 cl_Tongue : Cls K (cl 0)
 c_units_of : Cal P w K mg base 4 "units_of" ["tongue", "word"] (spM ⟨K, cl⟩ fY false)
 m_Tongue__carries : CalM P w K mg base (cl 0) 1 "carries" ["self", "letter"] (spM ⟨K, cl⟩ cH false)
 x_units_of : CalX P w K mg base 4 "units_of" ["tongue", "word"] (spX ⟨K, cl⟩ fY false iz)
structure Tx_Tongue__alike : Prop where
 q : Q7 P w K mg base cl A
 cl_Tongue : Cls K (cl 0)
 n_Tongue_likes : NoAttr K (cl 0) "likes"
structure Tx_ends_rhyme : Prop where
 q : Q7 P w K mg base cl A
 z_all : mg "all" = none
 z_len : mg "len" = none
 z_zip : mg "zip" = none
 cl_Tongue : Cls K (cl 0)
 m_Tongue__alike : CalM P w K mg base (cl 0) 1 "alike" ["self", "one", "other"] (spM ⟨K, cl⟩ cW false)
structure Tx_rhymes : Prop where
 q : Q7 P w K mg base cl A
 c_end_of : Cal P w K mg base 5 "end_of" ["tongue", "word"] (spM ⟨K, cl⟩ aQ false)
 c_ends_rhyme : Cal P w K mg base 2 "ends_rhyme" ["tongue", "one", "other"] (spM ⟨K, cl⟩ cA false)
 x_end_of : CalX P w K mg base 5 "end_of" ["tongue", "word"] (spX ⟨K, cl⟩ aQ false bh)
structure Tx_first_broken : Prop where
 q : Q7 P w K mg base cl A
 z_dict : mg "dict" = none
 z_enumerate : mg "enumerate" = none
 z_len : mg "len" = none
structure Tx_mates_of : Prop where
 q : Q7 P w K mg base cl A
 z_enumerate : mg "enumerate" = none
 c_ends_rhyme : Cal P w K mg base 2 "ends_rhyme" ["tongue", "one", "other"] (spM ⟨K, cl⟩ cA false)
structure Tx_chains_of : Prop where
 q : Q7 P w K mg base cl A
 z_enumerate : mg "enumerate" = none
 c_end_of : Cal P w K mg base 5 "end_of" ["tongue", "word"] (spM ⟨K, cl⟩ aQ false)
 c_first_broken : Cal P w K mg base 1 "first_broken" ["mates"] (spM ⟨K, cl⟩ bM false)
 c_mates_of : Cal P w K mg base 3 "mates_of" ["tongue", "ends", "end"] (spM ⟨K, cl⟩ iB false)
 x_end_of : CalX P w K mg base 5 "end_of" ["tongue", "word"] (spX ⟨K, cl⟩ aQ false bh)
structure Tx__law_told : Prop where
 q : Q7 P w K mg base cl A
 z_ValueError : mg "ValueError" = none
 z_isinstance : mg "isinstance" = none
 c_chains_of : Cal P w K mg base 6 "chains_of" ["tongue", "words"] (spM ⟨K, cl⟩ bZ false)
 c_end_of : Cal P w K mg base 5 "end_of" ["tongue", "word"] (spM ⟨K, cl⟩ aQ false)
 c_rhymes : Cal P w K mg base 6 "rhymes" ["tongue", "one", "other"] (spM ⟨K, cl⟩ d7 false)
 k_NoWord_NoWord : PySem.W.kitOne K (.ref (cl 14)) (.ref (cl 14)) = some true
 k_NoWord_ValueError : PySem.W.kitOne K (.ref (cl 14)) (.type "ValueError") = some true
 m_LiltError : mg "LiltError" = some (.ref (cl 10))
 m_NoWord : mg "NoWord" = some (.ref (cl 14))
 q__law_others_NoWord : Cal P w K mg base 1 "_law_others" ["_law_e"] (spE (cl 14) (.bl false))
 x_chains_of : CalX P w K mg base 6 "chains_of" ["tongue", "words"] (spX ⟨K, cl⟩ bZ false b7)
 x_end_of : CalX P w K mg base 5 "end_of" ["tongue", "word"] (spX ⟨K, cl⟩ aQ false bh)
 x_rhymes : CalX P w K mg base 6 "rhymes" ["tongue", "one", "other"] (spX ⟨K, cl⟩ d7 false cZ)
 xc_NoWord : XCls K (cl 14)
 xm_NoWord_LiltError : PySem.W.exmOne K (.ref (cl 14)) (.ref (cl 10)) = some true
structure Tx_law : Prop where
 q : Q7 P w K mg base cl A
 z_len : mg "len" = none
 z_list : mg "list" = none
 z_range : mg "range" = none
 c__law_bad : Cal P w K mg base 2 "_law_bad" ["_law_record_here", "_law_word_here", "_law_cell"] (spM ⟨K, cl⟩ iy false)
 c__law_cell_at : Cal P w K mg base 1 "_law_cell_at" ["_law_script", "_law_k"] (spM ⟨K, cl⟩ aP false)
 c__law_record : Cal P w K mg base 3 "_law_record" ["_law_script", "_law_at"] (spM ⟨K, cl⟩ dJ false)
 c__law_rows : Cal P w K mg base 1 "_law_rows" ["_law_record_here", "_law_cell"] (spM ⟨K, cl⟩ gw true)
 c__law_told : Cal P w K mg base 7 "_law_told" ["_law_tongue", "_law_way", "_law_word_here", "_law_thing", "_law_words"] (spM ⟨K, cl⟩ bc false)
 c__law_word : Cal P w K mg base 3 "_law_word" ["_law_record_here", "_law_cell"] (spM ⟨K, cl⟩ fj false)
 i_Tongue : CalI P w K mg base (cl 0) 5 "Tongue" ["self", "rows"] (spI ⟨K, cl⟩ 0 cD)
end
section
variable {P : Program} {w : World} {K : PySem.W.Frag} {mg : Str -> Option Value} {base : Heap} {cl : Nat -> Addr} {A : Adr} {f : Addr} {fd : FuncData}
theorem oW {f : Addr} {fd : FuncData} (F : Fun K "_law_others" "_law_others" l_ f fd) (T : Tx__law_others P w K mg base cl A) : FnOk P w K mg base CX0 1 f fd ["_law_e"] (spE (cl 14) (.bl false)) := by
 refine O_ F wC fun cdv A' outer s H E hr => ?_
 exact (Gb (PW.pt (JK (j := false) (k := false) (pD (m8 0 T.xc_NoWord T.k_NoWord_NoRule T.z_isinstance T.m_NoRule)) (JK (j := false) (k := false) (pD (m8 0 T.xc_NoWord T.k_NoWord_NoMetre T.z_isinstance T.m_NoMetre)) (O5 (pD (m8 0 T.xc_NoWord T.k_NoWord_NoReading T.z_isinstance T.m_NoReading)))))) (Ga (JH (j := false) (k := false) (m8 0 T.xc_NoWord T.k_NoWord_NoForm T.z_isinstance T.m_NoForm) (JH (j := false) (k := false) (m8 0 T.xc_NoWord T.k_NoWord_NoName T.z_isinstance T.m_NoName) (O4 (m8 0 T.xc_NoWord T.k_NoWord_NoRow T.z_isinstance T.m_NoRow))))))
theorem vN (F : Fun K "_law_cell_at" "_law_cell_at" lA f fd) (T : Tx__law_cell_at P w K mg base cl A) : FnOk P w K mg base CX0 1 f fd ["_law_script", "_law_k"] (spM ⟨K, cl⟩ aP false) := by
 refine fok F vL (G := []) (G' := []) (L := []) fun _ _ _ _ _ _ hr _ _ => ?_
 exact (az (du (aX (Dd (aj 1) (bW T.z_len (aj 0)))) (aD (aZ (aM hr (aj 0) (aj 1)))) cz) (aD (aZ ao)))
theorem wD (F : Fun K "_law_letter" "_law_letter" lX f fd) (T : Tx__law_letter P w K mg base cl A) : FnOk P w K mg base CX0 1 f fd ["_law_cell", "_law_k"] (spM ⟨K, cl⟩ bB false) := by
 refine fok F sc__law_letter (G := []) (G' := []) (L := []) fun _ _ _ _ _ _ hr _ _ => ?_
 exact (az (bA 2 sc__law_letter.nd (aM hr (cY (aa ao (aa ao (aa ao (aa ao (aa ao (aa ao (aa ao (aa ao au))))))))) (bL (e_ (aj 0) ao) ao))) (aD (aZ (aM hr aW (bL (bH (aj 0) (rC (aj 1) (aj 2))) ao)))))
theorem Ay (F : Fun K "_law_mix" "_law_mix" qG f fd) (T : Tx__law_mix P w K mg base cl A) : FnOk P w K mg base CX0 1 f fd ["_law_cell", "_law_k"] (spM ⟨K, cl⟩ dq false) := by
 refine fok F Aw (G := []) (G' := []) (L := []) fun _ _ _ _ _ _ hr _ _ => ?_
 exact (aD (aZ (bL (bH (rC (bL (aj 0) ao) (bH ao (rC (rC ao (aj 1)) (aj 1)))) (rC ao (aj 1))) ao)))
theorem vO (F : Fun K "_law_cluster" "_law_cluster" lC f fd) (T : Tx__law_cluster P w K mg base cl A) : FnOk P w K mg base CX0 2 f fd ["_law_base", "_law_many", "_law_number"] (spM ⟨K, cl⟩ d9 false) := by
 refine fok F sc__law_cluster (G := []) (G' := []) (L := []) fun _ _ _ _ _ _ hr _ _ => ?_
 exact (az (bA 3 sc__law_cluster.nd aW) (az (jo [4] (jZ T.z_range (bH ao (bL (aj 2) ao))) (p6 4 sc__law_cluster.nd) (aD (bA 3 sc__law_cluster.nd (bH (aj 3) (aC T.c__law_letter hr (aa (aj 0) (aa (bH (aj 1) (bL (e_ (aj 2) (aM hr (cY (aa ao (aa ao (aa ao (aa ao au))))) (aj 4))) (aM hr (cY (aa ao (aa ao au))) (bL (e_ (aj 2) ao) ao)))) au)))))) PassesOwn.never) (aD (aZ (aj 3)))))
theorem wF (F : Fun K "_law_record" "_law_record" cJ f fd) (T : Tx__law_record P w K mg base cl A) : FnOk P w K mg base CX0 3 f fd ["_law_script", "_law_at"] (spM ⟨K, cl⟩ dJ false) := by
 refine fok F sc__law_record (G := [6]) (G' := []) (L := []) fun _ _ _ _ _ _ hr _ _ => ?_
 exact (az (bA 2 sc__law_record.nd (SE.val (cg (osc := (aq cJ)) (ON := qM) (N := ["_law_k", "_law_script", "_law_at"]) (cap := [none, some 0, some 1]) csc (dH 0) (jZ T.z_range ao) (fun _ _ _ _ => cG 0) (fun _ _ _ _ => bJ) (fun _ _ _ _ => (aC T.c__law_cell_at hr (aa (aj 1) (aa (bH (aj 2) (aj 0)) au))))))) (az (bA 3 sc__law_record.nd (aM hr (aj 2) ao)) (az (bA 4 sc__law_record.nd (bH ao (bL (aM hr (aj 2) ao) ao))) (az (lL 5 sc__law_record.nd (osc := (aq cJ)) (ON := qM) (N := ["_law_k", "_law_base"]) (cap := [none, some 3]) csc (dH 0) (jZ T.z_range (aj 4)) (fun _ _ _ _ => cG 0) (fun _ _ _ _ => bJ) (fun _ _ _ _ => (aC T.c__law_letter hr (aa (aj 1) (aa (aj 0) au))))) (az (ph 6 sc__law_record.nd (cY au)) (az (jo [7, 8] (jZ T.z_range (bL (e_ (aM hr (aj 2) ao) ao) ao)) (p6 7 sc__law_record.nd) (az (bA 8 sc__law_record.nd (aC T.c__law_mix hr (aa (aM hr (aj 2) ao) (aa (aj 7) au)))) (aD (yz 6 (bH (aM hr (aj 5) (bL (aj 8) (aj 4))) (aM hr (aj 5) (bL (e_ (aj 8) ao) (aj 4))))))) PassesOwn.never) (az (bA 9 sc__law_record.nd (SE.val (cg (osc := (aq cJ)) (ON := qM) (N := ["_law_k", "_law_cells"]) (cap := [none, some 2]) csc (dH 0) (jZ T.z_range (bH (aj 4) (bW T.z_len (pU 6)))) (fun _ _ _ _ => cG 0) (fun _ _ _ _ => bJ) (fun _ _ _ _ => (bL (aC T.c__law_mix hr (aa (aM hr (aj 1) ao) (aa (aj 0) au))) ao))))) (az (bA 10 sc__law_record.nd (bH (aj 5) (pU 6))) (az (lL 11 sc__law_record.nd (osc := (aq cJ)) (ON := qM) (N := ["_law_k", "_law_some", "_law_weights"]) (cap := [none, some 10, some 9]) csc (dH 0) (jZ T.z_range (bW T.z_len (aj 10))) (fun _ _ _ _ => cG 0) (fun _ _ _ _ => gH (aX (jn hr (aM hr (aj 2) (aj 0)) (jX (aa ao (aa ao au)))))) (fun _ _ _ _ => (aM hr (aj 1) (aj 0)))) (az (lL 12 sc__law_record.nd (osc := (aq cJ)) (ON := qM) (N := ["_law_k", "_law_some", "_law_weights"]) (cap := [none, some 10, some 9]) csc (dH 0) (jZ T.z_range (bW T.z_len (aj 10))) (fun _ _ _ _ => cG 0) (fun _ _ _ _ => gH (aX (pY (aM hr (aj 2) (aj 0)) ao))) (fun _ _ _ _ => (aM hr (aj 1) (aj 0)))) (az (lL 13 sc__law_record.nd (osc := (aq cJ)) (ON := qM) (N := ["_law_k", "_law_base", "_law_many", "_law_cells"]) (cap := [none, some 3, some 4, some 2]) csc (dH 0) (jZ T.z_range (bL (e_ (aM hr (aj 2) ao) ao) ao)) (fun _ _ _ _ => cG 0) (fun _ _ _ _ => bJ) (fun _ _ _ _ => (aC T.c__law_cluster hr (aa (aj 1) (aa (aj 2) (aa (aC T.c__law_mix hr (aa (aM hr (aj 3) ao) (aa (aj 0) au))) au)))))) (az (lL 14 sc__law_record.nd (osc := (aq cJ)) (ON := qM) (N := ["_law_k", "_law_base", "_law_many", "_law_cells"]) (cap := [none, some 3, some 4, some 2]) csc (dH 0) (jZ T.z_range (bL (e_ (aM hr (aj 2) ao) ao) ao)) (fun _ _ _ _ => cG 0) (fun _ _ _ _ => bJ) (fun _ _ _ _ => (aC T.c__law_cluster hr (aa (aj 1) (aa (aj 2) (aa (aC T.c__law_mix hr (aa (aM hr (aj 3) ao) (aa (aj 0) au))) au)))))) (az (bA 15 sc__law_record.nd (aM hr (cY (aa aW (aa aW (aa aW (aa aW au))))) (bL (e_ (aM hr (aj 2) ao) ao) ao))) (vd (G1 := []) (aD (aZ (jX (aa (aj 5) (aa (aj 6) (aa (aj 11) (aa (aj 12) (aa (aj 13) (aa (aj 14) (aa (aj 15) (aa (aj 3) au)))))))))))))))))))))))))
theorem wG (F : Fun K "told_behind" "told_behind" lY f fd) (T : Tx_told_behind P w K mg base cl A) : FnOk P w K mg base CX0 1 f fd ["kind", "rows"] (spM ⟨K, cl⟩ bf false) := by
 refine fok F sc_told_behind (G := [2]) (G' := []) (L := []) fun _ _ _ _ _ _ hr _ _ => ?_
 exact (az (ph 2 sc_told_behind.nd QX) (az (jo [3, 4] (eF (aj 1) (fun _ => by intro z; cases z)) (p6 3 sc_told_behind.nd) (aD (du (aX (bT hr (aM hr (aj 3) ao) (aj 0))) (aD (jo [4] (eF (gJ (aj 3) (cQ ao) fK) (fun _ => by intro z; cases z)) (p6 4 sc_told_behind.nd) (aD (JD 2 hr (aj 4) pR)) PassesOwn.never)) cz)) PassesOwn.never) (vd (G1 := []) (aD (aZ (aj 2))))))
theorem Az (F : Fun K "last_run" "last_run" qH f fd) (T : Tx_last_run P w K mg base cl A) : FnOk P w K mg base CX0 1 f fd ["rows"] (spM ⟨K, cl⟩ iu false) := by
 refine fok F sc_last_run (G := []) (G' := []) (L := []) fun _ _ _ _ _ _ hr _ _ => ?_
 exact (az (bA 1 sc_last_run.nd aW) (az (jo [2] (eF (aj 0) (fun _ => by intro z; cases z)) (p6 2 sc_last_run.nd) (aD (du (aX (bT hr (aM hr (aj 2) ao) aW)) (aD (bA 1 sc_last_run.nd (aM hr (aj 2) ao))) cz)) PassesOwn.never) (aD (aZ (aj 1)))))
theorem yd (F : Fun K "told_alike" "told_alike" nu f fd) (T : Tx_told_alike P w K mg base cl A) : FnOk P w K mg base CX0 1 f fd ["rows"] (spM ⟨K, cl⟩ fL false) := by
 refine fok F sc_told_alike (G := [1]) (G' := []) (L := []) fun _ _ _ _ _ _ hr _ _ => ?_
 exact (az (ph 1 sc_told_alike.nd QZ) (az (jo [2] (eF (aj 0) (fun _ => by intro z; cases z)) (p6 2 sc_told_alike.nd) (aD (du (aX (bT hr (aM hr (aj 2) ao) aW)) (aD (JD 1 hr (jX (aa (aM hr (aj 2) ao) (aa (aM hr (aj 2) ao) au))) pR)) cz)) PassesOwn.never) (vd (G1 := []) (aD (aZ (aj 1))))))
theorem Af (F : Fun K "is_letter" "is_letter" oU f fd) (T : Tx_is_letter P w K mg base cl A) : FnOk P w K mg base CX0 1 f fd ["text"] (spM ⟨K, cl⟩ dw false) := by
 refine fok F Ae (G := []) (G' := []) (L := []) fun _ _ _ _ _ _ hr _ _ => ?_
 exact (aD (aZ (eN (cu (bT hr (bW T.z_len (aj 0)) ao)) (fc (cu (jn hr (aj 0) (QM T.g_LETTERS)))))))
theorem vP (F : Fun K "is_carry_row" "is_carry_row" jc f fd) (T : Tx_is_carry_row P w K mg base cl A) : FnOk P w K mg base CX0 2 f fd ["row"] (spM ⟨K, cl⟩ cO false) := by
 refine fok F vM (G := []) (G' := []) (L := []) fun _ _ _ _ _ _ hr _ _ => ?_
 exact (aD (aZ (eN (cu (bT hr (aM hr (aj 0) ao) aW)) (eN (cu (pY (bW T.z_len (aj 0)) ao)) (fc (jY T.z_all (cg (osc := (aq jc)) (ON := ["row"]) (N := ["word"]) (cap := [none]) csc (dH 0) (eF (gJ (aj 0) (cQ ao) fK) (fun z => by cases z)) (fun _ _ _ _ => cG 0) (fun _ _ _ _ => bJ) (fun _ _ _ _ => (aC T.c_is_letter hr (aa (aj 0) au))))))))))
theorem ye (F : Fun K "is_pair_of" "is_pair_of" nF f fd) (T : Tx_is_pair_of P w K mg base cl A) : FnOk P w K mg base CX0 1 f fd ["carrying", "word"] (spM ⟨K, cl⟩ ik false) := by
 refine fok F xY (G := []) (G' := []) (L := []) fun _ _ _ _ _ _ hr _ _ => ?_
 exact (aD (aZ (eN (cu (bT hr (bW T.z_len (aj 1)) ao)) (eN (cu (jn hr (aM hr (aj 1) ao) (aj 0))) (fc (cu (jn hr (aM hr (aj 1) ao) (aj 0))))))))
theorem yf (F : Fun K "is_one_row" "is_one_row" kE f fd) (T : Tx_is_one_row P w K mg base cl A) : FnOk P w K mg base CX0 2 f fd ["carrying", "row"] (spM ⟨K, cl⟩ dF false) := by
 refine fok F xZ (G := []) (G' := []) (L := []) fun _ _ _ _ _ _ hr _ _ => ?_
 exact (aD (aZ (eN (cu (bT hr (aM hr (aj 1) ao) aW)) (eN (cu (pY (bW T.z_len (aj 1)) ao)) (fc (jY T.z_all (cg (osc := (aq kE)) (ON := ["carrying", "row"]) (N := ["word", "carrying"]) (cap := [none, some 0]) csc (dH 0) (eF (gJ (aj 1) (cQ ao) fK) (fun z => by cases z)) (fun _ _ _ _ => cG 0) (fun _ _ _ _ => bJ) (fun _ _ _ _ => (aC T.c_is_pair_of hr (aa (aj 1) (aa (aj 0) au)))))))))))
theorem DN (F : Fun K "is_stop" "is_stop" sI f fd) (T : Tx_is_stop P w K mg base cl A) : FnOk P w K mg base CX0 2 f fd ["carrying", "text"] (spM ⟨K, cl⟩ gQ false) := by
 refine fok F DG (G := []) (G' := []) (L := []) fun _ _ _ _ _ _ hr _ _ => ?_
 exact (aD (aZ (eN (aC T.c_is_letter hr (aa (aj 1) au)) (fc (cu (zb hr (aj 1) (aj 0)))))))
theorem sU (F : Fun K "are_alike_units" "are_alike_units" eU f fd) (T : Tx_are_alike_units P w K mg base cl A) : FnOk P w K mg base CX0 3 f fd ["carrying", "carriers", "words"] (spM ⟨K, cl⟩ dY false) := by
 refine fok F sJ (G := []) (G' := []) (L := []) fun _ _ _ _ _ _ hr _ _ => ?_
 exact (az (du (aX (nP hr (bW T.z_len (aj 2)) ao)) (aD (aZ pR)) cz) (aD (aZ (De (jY T.z_all (cg (osc := (aq eU)) (ON := ["carrying", "carriers", "words"]) (N := ["word", "carriers"]) (cap := [none, some 1]) csc (dH 0) (eF (aj 2) (fun z => by cases z)) (fun _ _ _ _ => cG 0) (fun _ _ _ _ => bJ) (fun _ _ _ _ => (cu (jn hr (aj 0) (aj 1)))))) (fc (jY T.z_all (cg (osc := (aq eU)) (ON := ["carrying", "carriers", "words"]) (N := ["word", "carrying"]) (cap := [none, some 0]) csc (dH 0) (eF (aj 2) (fun z => by cases z)) (fun _ _ _ _ => cG 0) (fun _ _ _ _ => bJ) (fun _ _ _ _ => (aC T.c_is_stop hr (aa (aj 1) (aa (aj 0) au)))))))))))
theorem yg (F : Fun K "is_cluster" "is_cluster" kI f fd) (T : Tx_is_cluster P w K mg base cl A) : FnOk P w K mg base CX0 3 f fd ["carrying", "word"] (spM ⟨K, cl⟩ il false) := by
 refine fok F x_ (G := []) (G' := []) (L := []) fun _ _ _ _ _ _ hr _ _ => ?_
 exact (aD (aZ (eN (Ht Jq Jq (C_ T.g_LEAST_STOPS) (bW T.z_len (aj 1)) (C_ T.g_MOST_STOPS)) (fc (jY T.z_all (cg (osc := (aq kI)) (ON := ["carrying", "word"]) (N := ["sign", "carrying"]) (cap := [none, some 0]) csc (dH 0) (eF (aj 1) (fun z => by cases z)) (fun _ _ _ _ => cG 0) (fun _ _ _ _ => bJ) (fun _ _ _ _ => (aC T.c_is_stop hr (aa (aj 1) (aa (aj 0) au))))))))))
theorem DP (F : Fun K "is_rule" "is_rule" lR f fd) (T : Tx_is_rule P w K mg base cl A) : FnOk P w K mg base CX0 4 f fd ["carrying", "pairs", "row"] (spM ⟨K, cl⟩ j7 false) := by
 refine fok F sc_is_rule (G := []) (G' := []) (L := []) fun _ _ _ _ _ _ hr _ _ => ?_
 exact (az (bA 3 sc_is_rule.nd (aM hr (aj 2) ao)) (az (bA 4 sc_is_rule.nd (gJ (aj 2) (cQ ao) fK)) (az (bA 5 sc_is_rule.nd (bH (v4 T.z_list (aj 0)) (v4 T.z_list (aj 1)))) (az (du (aX (bT hr (aj 3) aW)) (aD (aZ (aC T.c_is_carry_row hr (aa (aj 2) au)))) cz) (az (du (aX (bT hr (aj 3) aW)) (aD (aZ (aC T.c_is_one_row hr (aa (aj 0) (aa (aj 2) au))))) cz) (az (du (SW.st (Df (aX (bT hr (aj 3) aW)) (zc (aX (bT hr (aj 3) aW))))) (aD (aZ (eN (cu (pY (bW T.z_len (aj 4)) ao)) (fc (jY T.z_all (cg (osc := (aq lR)) (ON := JM) (N := ["word", "carriers"]) (cap := [none, some 5]) csc (dH 0) (eF (aj 4) (fun z => by cases z)) (fun _ _ _ _ => cG 0) (fun _ _ _ _ => bJ) (fun _ _ _ _ => (cu (jn hr (aj 0) (aj 1)))))))))) cz) (az (du (SW.st (Df (aX (bT hr (aj 3) aW)) (zc (aX (bT hr (aj 3) aW))))) (aD (aZ (eN (cu (pY (bW T.z_len (aj 4)) ao)) (fc (jY T.z_all (cg (osc := (aq lR)) (ON := JM) (N := ["word", "carrying"]) (cap := [none, some 0]) csc (dH 0) (eF (aj 4) (fun z => by cases z)) (fun _ _ _ _ => cG 0) (fun _ _ _ _ => bJ) (fun _ _ _ _ => (aC T.c_is_cluster hr (aa (aj 1) (aa (aj 0) au)))))))))) cz) (az (du (aX (bT hr (aj 3) aW)) (aD (aZ (eN (cu (bT hr (bW T.z_len (aj 4)) ao)) (fc (cu (jn hr (aM hr (aj 4) ao) (QQ T.g_RUNS (T.r_RUNS)))))))) cz) (aD (aZ (eN (cu (bT hr (aj 3) aW)) (fc (aC T.c_are_alike_units hr (aa (aj 0) (aa (aj 5) (aa (aj 4) au))))))))))))))))
theorem qW {f : Addr} {fd : FuncData} (F : Fun K "__init__" "Tongue.__init__" di f fd) (T : Tx_Tongue____init__ P w K mg base cl A) : FnOk P w K mg base CX0 5 f fd ["self", "rows"] (spI ⟨K, cl⟩ 0 cD) := by
 refine F.ok sc_Tongue____init__ (fun vs H Q E h => Kz h) (fun cdv A' outer s H vs Q E hr h => Ky (G := [0]) (G' := [0]) (L := []) (N := ["self", "rows", "cut", "at", "row"]) rfl (by decide) (by decide) (by decide) (by decide) (fun B H' x => ?_) h)
 exact (az (lL 2 sc_Tongue____init__.nd (osc := (aq di)) (ON := Dz) (N := ["row"]) (cap := [none]) csc (dH 0) (eF (aj 1) (fun z => by cases z)) (fun _ _ _ _ => cG 0) (fun _ _ _ _ => bJ) (fun _ _ _ _ => (SE.val (Hx (aj 0) aW)))) (az (nU 0 (c := 0) T.cl_Tongue T.n_Tongue_carrying (aC T.c_told_behind hr (aa aW (aa (SE.val (cg (osc := (aq di)) (ON := Dz) (N := ["row"]) (cap := [none]) csc (dH 0) (eF (aj 2) (fun z => by cases z)) (fun _ _ _ _ => cG 0) (fun _ _ _ _ => gH (jW (aC T.c_is_carry_row hr (aa (aj 0) au)))) (fun _ _ _ _ => (aj 0)))) au)))) (az (nU 0 (c := 0) T.cl_Tongue T.n_Tongue_pairs (aC T.c_told_behind hr (aa aW (aa (SE.val (cg (osc := (aq di)) (ON := Dz) (N := ["row", "self"]) (cap := [none, some 0]) csc (dH 0) (eF (aj 2) (fun z => by cases z)) (fun _ _ _ _ => cG 0) (fun _ _ _ _ => gH (jW (aC T.c_is_one_row hr (aa (mV (c := 0) T.cl_Tongue T.n_Tongue_carrying (pU 1)) (aa (aj 0) au))))) (fun _ _ _ _ => (aj 0)))) au)))) (az (jo [3, 4] (mC T.z_enumerate (aj 2) (fun _ => by intro z; cases z)) (HB (kZ 3 sc_Tongue____init__.nd (kZ 4 sc_Tongue____init__.nd v9))) (aD (du (u6 (jW (aC T.c_is_rule hr (aa (mV (c := 0) T.cl_Tongue T.n_Tongue_carrying (pU 0)) (aa (mV (c := 0) T.cl_Tongue T.n_Tongue_pairs (pU 0)) (aa (aj 4) au)))))) (aD Oj) cz)) PassesOwn.never) (az (nU 0 (c := 0) T.cl_Tongue T.n_Tongue_longs (aC T.c_told_behind hr (aa aW (aa (aj 2) au)))) (az (nU 0 (c := 0) T.cl_Tongue T.n_Tongue_eithers (aC T.c_told_behind hr (aa aW (aa (aj 2) au)))) (az (nU 0 (c := 0) T.cl_Tongue T.n_Tongue_beginnings (aC T.c_told_behind hr (aa aW (aa (aj 2) au)))) (az (nU 0 (c := 0) T.cl_Tongue T.n_Tongue_splittings (aC T.c_told_behind hr (aa aW (aa (aj 2) au)))) (az (nU 0 (c := 0) T.cl_Tongue T.n_Tongue_running (aC T.c_last_run hr (aa (aj 2) au))) (aD (nU 0 (c := 0) T.cl_Tongue T.n_Tongue_likes (aC T.c_told_alike hr (aa (aj 2) au)))))))))))))
theorem A_ (F : Fun K "_law_bad" "_law_bad" qI f fd) (T : Tx__law_bad P w K mg base cl A) : FnOk P w K mg base CX0 2 f fd ["_law_record_here", "_law_word_here", "_law_cell"] (spM ⟨K, cl⟩ iy false) := by
 refine fok F sc__law_bad (G := []) (G' := []) (L := []) fun _ _ _ _ _ _ hr _ _ => ?_
 exact (az (bA 3 sc__law_bad.nd (aC T.c__law_letter hr (aa (aM hr (aj 0) ao) (aa (bH (bW T.z_len (aM hr (aj 0) ao)) (bL (e_ (aj 2) ao) ao)) au)))) (az (bA 4 sc__law_bad.nd (SE.val (cY (aa rB (aa aW (aa (bH (aj 1) (BJ (aM hr (aM hr (aj 0) ao) ao) (N7 ao (bW T.z_len (aj 1))))) (aa (BJ (aj 3) (bH ao (bL (e_ (aj 2) ao) ao))) au))))))) (aD (aZ (aM hr (o9 (aj 4) (cY (aa (Ge (aj 1)) (aa (bH (gJ (aj 1) fK (cQ ao)) aW) (aa ao (aa (SE.val (cY (aa (aj 1) au))) au)))))) (bL (aj 2) ao))))))
theorem Ag (F : Fun K "_law_rows" "_law_rows" lH f fd) (T : Tx__law_rows P w K mg base cl A) : FnOk P w K mg base CX0 1 f fd ["_law_record_here", "_law_cell"] (spM ⟨K, cl⟩ gw true) := by
 refine fok F sc__law_rows (G := [2]) (G' := [2]) (L := []) fun _ _ _ _ _ _ hr _ _ => ?_
 exact (az (ph 2 sc__law_rows.nd (cY au)) (az (jo [3, 4, 5] (mC T.z_enumerate (cY (aa aW (aa aW (aa aW (aa aW (aa aW (aa aW au))))))) (fun _ => by intro z; cases z)) (HB (kZ 3 sc__law_rows.nd (kZ 4 sc__law_rows.nd v9))) (az (bA 5 sc__law_rows.nd (aM hr (aj 0) (aj 3))) (aD (du (aX (bT hr (bL (e_ (aj 1) (aM hr (cY (aa ao (aa ao (aa ao (aa ao (aa ao (aa ao au))))))) (aj 3))) ao) ao)) (aD (ph 2 sc__law_rows.nd (o9 (pU 2) (cg (osc := (aq lH)) (ON := ["_law_record_here", "_law_cell", "_law_rows_here", "_law_k", "_law_word_here", "_law_some", "_law_middle"]) (N := ["_law_one", "_law_word_here"]) (cap := [none, some 4]) csc (dH 0) (eF (aj 5) (fun z => by cases z)) (fun _ _ _ _ => cG 0) (fun _ _ _ _ => bJ) (fun _ _ _ _ => (bH (bH (aj 1) aW) (aj 0))))))) (aD (du (aX (nP hr (aj 5) (cY au))) (aD (yz 2 (bH (bH (aj 4) aW) (Kq aW (aj 5))))) cz))))) PassesOwn.never) (az (du (aX (nP hr (aM hr (aj 0) ao) aW)) (aD (yz 2 (bH aW (aM hr (aj 0) ao)))) cz) (az (bA 6 sc__law_rows.nd (bL (e_ (aj 1) ao) (bH (bW T.z_len (pU 2)) ao))) (aD (Om (o9 (gJ (pU 2) (cQ (aj 6)) fK) (gJ (pU 2) fK (cQ (aj 6))))))))))
theorem yh (F : Fun K "_law_piece" "_law_piece" nJ f fd) (T : Tx__law_piece P w K mg base cl A) : FnOk P w K mg base CX0 2 f fd ["_law_record_here", "_law_number"] (spM ⟨K, cl⟩ cV false) := by
 refine fok F sc__law_piece (G := []) (G' := []) (L := []) fun _ _ _ _ _ _ hr _ _ => ?_
 exact (az (bA 2 sc__law_piece.nd (bW T.z_len (aM hr (aj 0) ao))) (az (bA 3 sc__law_piece.nd (bL (aj 1) ao)) (az (bA 4 sc__law_piece.nd (e_ (aj 1) ao)) (az (du (SW.st (zf (aX (bT hr (aj 3) ao)) (vZ (aX (nP hr (aM hr (aj 0) ao) (cY au)))))) (aD (aZ (aM hr (aM hr (aj 0) ao) (bL (aj 4) (bW T.z_len (aM hr (aj 0) ao)))))) cz) (az (du (SW.st (zf (aX (bT hr (aj 3) ao)) (vZ (aX (nP hr (aM hr (aj 0) ao) (cY au)))))) (aD (aZ (aM hr (aM hr (aj 0) ao) (bL (aj 4) (bW T.z_len (aM hr (aj 0) ao)))))) cz) (az (du (SW.st (zf (aX (bT hr (aj 3) ao)) (vZ (aX (nP hr (aM hr (aj 0) ao) (cY au)))))) (aD (aZ (aM hr (aM hr (aj 0) ao) (bL (aj 4) (bW T.z_len (aM hr (aj 0) ao)))))) cz) (az (du (aX (Dd (aj 3) ao)) (aD (aZ (aM hr (aM hr (aj 0) ao) (bL (aj 4) (aj 2))))) cz) (aD (aZ (aC T.c__law_letter hr (aa (aM hr (aj 0) ao) (aa (bH (aj 2) (bL (aj 4) ao)) au))))))))))))
theorem Ah (F : Fun K "_law_word" "_law_word" lJ f fd) (T : Tx__law_word P w K mg base cl A) : FnOk P w K mg base CX0 3 f fd ["_law_record_here", "_law_cell"] (spM ⟨K, cl⟩ fj false) := by
 refine fok F sc__law_word (G := []) (G' := []) (L := []) fun _ _ _ _ _ _ hr _ _ => ?_
 exact (az (bA 2 sc__law_word.nd aW) (az (jo [3] (jZ T.z_range (bH ao (bL (aj 1) ao))) (p6 3 sc__law_word.nd) (aD (bA 2 sc__law_word.nd (gJ (bH (aj 2) (aC T.c__law_piece hr (aa (aj 0) (aa (aC T.c__law_mix hr (aa (e_ (aj 1) ao) (aa (aj 3) au))) au)))) fK (cQ ao)))) PassesOwn.never) (az (du (aX (bT hr (cg (osc := (aq lJ)) (ON := ["_law_record_here", "_law_cell", "_law_word_here", "_law_k"]) (N := ["_law_sign", "_law_record_here"]) (cap := [none, some 0]) csc (dH 0) (eF (aj 2) (fun z => by cases z)) (fun _ _ _ _ => cG 0) (fun _ _ _ _ => gH (aX (jn hr (aj 0) (aM hr (aj 1) ao)))) (fun _ _ _ _ => (aj 0))) (cY au))) (aD (bA 2 sc__law_word.nd (bH (gJ (aj 2) fK (cQ ao)) (aM hr (aM hr (aj 0) ao) (bL (e_ (aj 1) ao) (bW T.z_len (aM hr (aj 0) ao))))))) cz) (aD (aZ (aj 2))))))
theorem sV (F : Fun K "carries" "Tongue.carries" jl f fd) (T : Tx_Tongue__carries P w K mg base cl A) : FnOk P w K mg base CX0 1 f fd ["self", "letter"] (spM ⟨K, cl⟩ cH false) := by
 refine fok F sO (G := []) (G' := []) (L := []) fun _ _ _ _ _ _ hr _ _ => ?_
 exact (aD (aZ (cu (jn hr (aj 1) (mV (c := 0) T.cl_Tongue T.n_Tongue_carrying (aj 0))))))
theorem DQ (F : Fun K "is_word" "is_word" lU f fd) (T : Tx_is_word P w K mg base cl A) : FnOk P w K mg base CX0 2 f fd ["tongue", "thing"] (spM ⟨K, cl⟩ aV false) := by
 refine fok F DK (G := []) (G' := []) (L := []) fun _ _ _ _ _ _ hr _ _ => ?_
 exact (az (du (SW.st (Df (u6 (jW (Ot tb_str T.is_str T.z_isinstance T.z_str PyProof.Rows.boot_str (aj 1)))) (zc (aX (pY (bW T.z_len (aj 1)) (C_ T.g_MOST_LETTERS)))))) (aD (aZ pR)) cz) (aD (aZ (eN (jY T.z_all (cg (osc := (aq lU)) (ON := ["tongue", "thing"]) (N := ["sign"]) (cap := [none]) csc (dH 0) (eF (aj 1) (fun z => by cases z)) (fun _ _ _ _ => cG 0) (fun _ _ _ _ => bJ) (fun _ _ _ _ => (aC T.c_is_letter hr (aa (aj 0) au))))) (fc (Oh T.z_any (cg (osc := (aq lU)) (ON := ["tongue", "thing"]) (N := ["sign", "tongue"]) (cap := [none, some 0]) csc (dH 0) (eF (aj 1) (fun z => by cases z)) (fun _ _ _ _ => cG 0) (fun _ _ _ _ => bJ) (fun _ _ _ _ => (pZ (c := 0) T.m_Tongue__carries T.cl_Tongue hr (aj 1) (aa (aj 0) au))))))))))
theorem sW {f : Addr} {fd : FuncData} (F : Fun K "refuse_no_word" "refuse_no_word" jF f fd) (T : Tx_refuse_no_word P w K mg base cl A) : FnOk P w K mg base (CXW P w) 3 f fd ["tongue", "thing"] (spX ⟨K, cl⟩ cN false dD) := by
 refine pC F ue (fun vs H Q E h => pB rfl h) (fun cdv A' outer s H vs Q E hr h => mY (G := []) (G' := []) (L := []) (N := ["tongue", "thing"]) rfl (by decide) (by decide) (fun B H' => ?_) (fun B H' => ?_) h)
 ·exact (aD (du (u6 (jW (aC T.c_is_word hr (aa (aj 0) (aa (aj 1) au))))) (aD Oj) cz))
 ·exact (dI (yD p_ (u6 (jW (aC T.c_is_word hr (aa (aj 0) (aa (aj 1) au))))) (dI (HJ 14 PySem.F.excBase_ValueError T.e_NoWord T.m_NoWord (aa aW au))) O1))
theorem sX (F : Fun K "is_pair" "Tongue.is_pair" jm f fd) (T : Tx_Tongue__is_pair P w K mg base cl A) : FnOk P w K mg base CX0 1 f fd ["self", "pair"] (spM ⟨K, cl⟩ dZ false) := by
 refine fok F sS (G := []) (G' := []) (L := []) fun _ _ _ _ _ _ hr _ _ => ?_
 exact (aD (aZ (cu (jn hr (aj 1) (mV (c := 0) T.cl_Tongue T.n_Tongue_pairs (aj 0))))))
theorem Ai {f : Addr} {fd : FuncData} (F : Fun K "units_of" "units_of" qJ f fd) (T : Tx_units_of P w K mg base cl A) : FnOk P w K mg base (CXW P w) 4 f fd ["tongue", "word"] (spX ⟨K, cl⟩ fY false iz) := by
 refine pC F sc_units_of (fun vs H Q E h => pB rfl h) (fun cdv A' outer s H vs Q E hr h => mY (G := [2]) (G' := []) (L := []) (N := ["tongue", "word", "units", "at", "size"]) rfl (by decide) (by decide) (fun B H' => ?_) (fun B H' => ?_) h)
 ·exact (az (rF (aC T.c_refuse_no_word hr (aa (aj 0) (aa (aj 1) au)))) (az (ph 2 sc_units_of.nd (cY au)) (az (bA 3 sc_units_of.nd ao) (az (Kv 1000000 [4] (aX (Dd (aj 3) (bW T.z_len (aj 1)))) (az (bA 4 sc_units_of.nd (JB (jW (pZ (c := 0) T.m_Tongue__is_pair T.cl_Tongue hr (aj 0) (aa (gJ (aj 1) (cQ (aj 3)) (cQ (bH (aj 3) ao))) au))) ao ao)) (az (yz 2 (gJ (aj 1) (cQ (aj 3)) (cQ (bH (aj 3) (aj 4))))) (aD (bA 3 sc_units_of.nd (bH (aj 3) (aj 4)))))) PassesOwn.never) (vd (G1 := []) (aD (aZ (aj 2))))))))
 ·exact (dI (pA (jK p_ T.x_refuse_no_word hr (aa (aj 0) (aa (aj 1) au)))))
theorem DR {f : Addr} {fd : FuncData} (F : Fun K "end_of" "end_of" qK f fd) (T : Tx_end_of P w K mg base cl A) : FnOk P w K mg base (CXW P w) 5 f fd ["tongue", "word"] (spX ⟨K, cl⟩ aQ false bh) := by
 refine pC F sc_end_of (fun vs H Q E h => pB rfl h) (fun cdv A' outer s H vs Q E hr h => mY (G := []) (G' := []) (L := []) (N := ["tongue", "word", "units", "last"]) rfl (by decide) (by decide) (fun B H' => ?_) (fun B H' => ?_) h)
 ·exact (az (bA 2 sc_end_of.nd (aC T.c_units_of hr (aa (aj 0) (aa (aj 1) au)))) (az (bA 3 sc_end_of.nd (KD T.z_max (cg (osc := (aq qK)) (ON := ["tongue", "word", "units", "last"]) (N := ["at", "unit", "tongue"]) (cap := [none, none, some 0]) csc (Dj [0, 1]) (mC T.z_enumerate (aj 2) (fun z => by cases z)) (fun _ _ _ _ => qX rfl (gF (cG 0) (gF (cG 1) oY))) (fun _ _ _ _ => gH (jW (pZ (c := 0) T.m_Tongue__carries T.cl_Tongue hr (aj 2) (aa (aM hr (aj 1) ao) au)))) (fun _ _ _ _ => (aj 0))))) (aD (aZ (gJ (aj 2) (cQ (aj 3)) fK)))))
 ·exact (dI (FW (jK p_ T.x_units_of hr (aa (aj 0) (aa (aj 1) au)))))
theorem uW (F : Fun K "alike" "Tongue.alike" kJ f fd) (T : Tx_Tongue__alike P w K mg base cl A) : FnOk P w K mg base CX0 1 f fd ["self", "one", "other"] (spM ⟨K, cl⟩ cW false) := by
 refine fok F uV (G := []) (G' := []) (L := []) fun _ _ _ _ _ _ hr _ _ => ?_
 exact (aD (aZ (De (cu (bT hr (aj 1) (aj 2))) (De (cu (jn hr (jX (aa (aj 1) (aa (aj 2) au))) (mV (c := 0) T.cl_Tongue T.n_Tongue_likes (aj 0)))) (fc (cu (jn hr (jX (aa (aj 2) (aa (aj 1) au))) (mV (c := 0) T.cl_Tongue T.n_Tongue_likes (aj 0)))))))))
theorem yj (F : Fun K "ends_rhyme" "ends_rhyme" kO f fd) (T : Tx_ends_rhyme P w K mg base cl A) : FnOk P w K mg base CX0 2 f fd ["tongue", "one", "other"] (spM ⟨K, cl⟩ cA false) := by
 refine fok F yc (G := []) (G' := []) (L := []) fun _ _ _ _ _ _ hr _ _ => ?_
 exact (aD (aZ (eN (cu (bT hr (bW T.z_len (aj 1)) (bW T.z_len (aj 2)))) (fc (jY T.z_all (cg (osc := (aq kO)) (ON := ["tongue", "one", "other"]) (N := ["unit", "beside", "tongue"]) (cap := [none, none, some 0]) csc (Dj [0, 1]) (Ou T.z_zip (aj 1) (aj 2) (fun z => by cases z) (fun z => by cases z)) (fun _ _ _ _ => qX rfl (gF (cG 0) (gF (cG 1) oY))) (fun _ _ _ _ => bJ) (fun _ _ _ _ => (pZ (c := 0) T.m_Tongue__alike T.cl_Tongue hr (aj 2) (aa (aj 0) (aa (aj 1) au))))))))))
theorem DW {f : Addr} {fd : FuncData} (F : Fun K "rhymes" "rhymes" uU f fd) (T : Tx_rhymes P w K mg base cl A) : FnOk P w K mg base (CXW P w) 6 f fd ["tongue", "one", "other"] (spX ⟨K, cl⟩ d7 false cZ) := by
 refine pC F GK (fun vs H Q E h => pB rfl h) (fun cdv A' outer s H vs Q E hr h => mY (G := []) (G' := []) (L := []) (N := ["tongue", "one", "other"]) rfl (by decide) (by decide) (fun B H' => ?_) (fun B H' => ?_) h)
 ·exact (aD (aZ (aC T.c_ends_rhyme hr (aa (aj 0) (aa (aC T.c_end_of hr (aa (aj 0) (aa (aj 1) au))) (aa (aC T.c_end_of hr (aa (aj 0) (aa (aj 2) au))) au))))))
 ·exact (dI (OD (K9 T.c_ends_rhyme (BP p_ (aj 0) (Q8 (BK (jK p_ T.x_end_of hr (aa (aj 0) (aa (aj 1) au)))) (BP p_ (aC T.c_end_of hr (aa (aj 0) (aa (aj 1) au))) (BK (jK p_ T.x_end_of hr (aa (aj 0) (aa (aj 2) au))))))))))
theorem vQ (F : Fun K "first_broken" "first_broken" gC f fd) (T : Tx_first_broken P w K mg base cl A) : FnOk P w K mg base CX0 1 f fd ["mates"] (spM ⟨K, cl⟩ bM false) := by
 refine fok F sc_first_broken (G := []) (G' := []) (L := []) fun _ _ _ _ _ _ hr _ _ => ?_
 exact (az (jo [1, 2, 3, 4, 5] (mC T.z_enumerate (aj 0) (fun _ => by intro z; cases z)) (HB (kZ 1 sc_first_broken.nd (kZ 2 sc_first_broken.nd v9))) (az (bA 3 sc_first_broken.nd (SE.val (Ia T.z_dict (cg (osc := (aq gC)) (ON := ["mates", "one", "near", "beside", "middle", "far"]) (N := ["number"]) (cap := [none]) csc (dH 0) (eF (aj 2) (fun z => by cases z)) (fun _ _ _ _ => cG 0) (fun _ _ _ _ => bJ) (fun _ _ _ _ => (jX (aa (aj 0) (aa pR au)))))))) (aD (jo [4, 5] (eF (aj 2) (fun _ => by intro z; cases z)) (p6 4 sc_first_broken.nd) (az (bA 5 sc_first_broken.nd (JB (aX (bT hr (aM hr (aj 0) (aj 4)) (aj 2))) (SE.val (cY au)) (SE.val (cg (osc := (aq gC)) (ON := ["mates", "one", "near", "beside", "middle", "far"]) (N := ["number", "beside"]) (cap := [none, some 3]) csc (dH 0) (eF (aM hr (aj 0) (aj 4)) (fun z => by cases z)) (fun _ _ _ _ => cG 0) (fun _ _ _ _ => gH (aX (zb hr (aj 0) (aj 1)))) (fun _ _ _ _ => (aj 0)))))) (aD (du (aX (pY (bW T.z_len (aj 5)) ao)) (aD (aZ (jX (aa (aj 1) (aa (aj 4) (aa (aM hr (aj 5) ao) au)))))) cz))) PassesOwn.never))) PassesOwn.never) (aD (aZ rB)))
theorem Ba (F : Fun K "mates_of" "mates_of" mz f fd) (T : Tx_mates_of P w K mg base cl A) : FnOk P w K mg base CX0 3 f fd ["tongue", "ends", "end"] (spM ⟨K, cl⟩ iB false) := by
 refine fok F Ax (G := []) (G' := []) (L := []) fun _ _ _ _ _ _ hr _ _ => ?_
 exact (aD (aZ (SE.val (cg (osc := (aq mz)) (ON := ["tongue", "ends", "end"]) (N := ["number", "other", "tongue", "end"]) (cap := [none, none, some 0, some 2]) csc (Dj [0, 1]) (mC T.z_enumerate (aj 1) (fun z => by cases z)) (fun _ _ _ _ => qX rfl (gF (cG 0) (gF (cG 1) oY))) (fun _ _ _ _ => gH (jW (aC T.c_ends_rhyme hr (aa (aj 2) (aa (aj 3) (aa (aj 1) au)))))) (fun _ _ _ _ => (aj 0))))))
theorem ym {f : Addr} {fd : FuncData} (F : Fun K "chains_of" "chains_of" fZ f fd) (T : Tx_chains_of P w K mg base cl A) : FnOk P w K mg base (CXW P w) 6 f fd ["tongue", "words"] (spX ⟨K, cl⟩ bZ false b7) := by
 refine pC F sc_chains_of (fun vs H Q E h => pB rfl h) (fun cdv A' outer s H vs Q E hr h => mY (G := []) (G' := []) (L := []) (N := ["tongue", "words", "ends", "mates", "broken"]) rfl (by decide) (by decide) (fun B H' => ?_) (fun B H' => ?_) h)
 ·exact (az (bA 2 sc_chains_of.nd (SE.val (cg (osc := (aq fZ)) (ON := yI) (N := ["word", "tongue"]) (cap := [none, some 0]) csc (dH 0) (eF (aj 1) (fun z => by cases z)) (fun _ _ _ _ => cG 0) (fun _ _ _ _ => bJ) (fun _ _ _ _ => (aC T.c_end_of hr (aa (aj 1) (aa (aj 0) au))))))) (az (lL 3 sc_chains_of.nd (osc := (aq fZ)) (ON := yI) (N := ["end", "tongue", "ends"]) (cap := [none, some 0, some 2]) csc (dH 0) (eF (aj 2) (fun z => by cases z)) (fun _ _ _ _ => cG 0) (fun _ _ _ _ => bJ) (fun _ _ _ _ => (aC T.c_mates_of hr (aa (aj 1) (aa (aj 2) (aa (aj 0) au)))))) (az (bA 4 sc_chains_of.nd (aC T.c_first_broken hr (aa (aj 3) au))) (az (du (aX (Hs (aj 4) rB)) (aD (aZ (jX (aa aW (aa (aj 4) au))))) cz) (aD (aZ (jX (aa aW (aa (SE.val (cg (osc := (aq fZ)) (ON := yI) (N := ["number", "near"]) (cap := [none, none]) csc (Dj [0, 1]) (mC T.z_enumerate (aj 3) (fun z => by cases z)) (fun _ _ _ _ => qX rfl (gF (cG 0) (gF (cG 1) oY))) (fun _ _ _ _ => gH (aX (bT hr (aM hr (aj 1) ao) (aj 0)))) (fun _ _ _ _ => (aj 1)))) au)))))))))
 ·exact (dI (FW (K8 (osc := (aq fZ)) (ON := yI) (N := ["word", "tongue"]) (cap := [none, some 0]) csc (dH 0) (eF (aj 1) (fun z => by cases z)) (fun _ _ _ _ => cG 0) (fun _ _ _ _ => bJ) (fun _ _ _ _ => (aC T.c_end_of hr (aa (aj 1) (aa (aj 0) au)))) (fun _ _ _ _ => (K7 T.x_end_of hr (aa (aj 1) (aa (aj 0) au)))))))
theorem Aj (F : Fun K "_law_told" "_law_told" oV f fd) (T : Tx__law_told P w K mg base cl A) : FnOk P w K mg base CX0 7 f fd ["_law_tongue", "_law_way", "_law_word_here", "_law_thing", "_law_words"] (spM ⟨K, cl⟩ bc false) := by
 refine fok F sc__law_told (G := []) (G' := []) (L := []) fun _ _ _ _ _ _ hr _ _ => ?_
 exact (az (bA 5 sc__law_told.nd rB) (O9 5 6 14 (p := (.str "no word")) rfl sc__law_told.nd T.m_LiltError T.xm_NoWord_LiltError (aD (du (aX (bT hr (aj 1) ao)) (aD (rF (aC T.c_end_of hr (aa (aj 0) (aa (aj 3) au))))) (aD (du (aX (bT hr (aj 1) ao)) (aD (rF (aC T.c_rhymes hr (aa (aj 0) (aa (aj 3) (aa (aj 2) au)))))) (aD (du (aX (bT hr (aj 1) ao)) (aD (rF (aC T.c_rhymes hr (aa (aj 0) (aa (aj 2) (aa (aj 3) au)))))) (aD (rF (aC T.c_chains_of hr (aa (aj 0) (aa (aj 4) au))))))))))) (fun _ => (dI (yD (p8 rfl) (aX (bT hr (aj 1) ao)) (dI (pA (jK (p8 rfl) T.x_end_of hr (aa (aj 0) (aa (aj 3) au))))) (dI (yD (p8 rfl) (aX (bT hr (aj 1) ao)) (dI (pA (jK (p8 rfl) T.x_rhymes hr (aa (aj 0) (aa (aj 3) (aa (aj 2) au)))))) (dI (yD (p8 rfl) (aX (bT hr (aj 1) ao)) (dI (pA (jK (p8 rfl) T.x_rhymes hr (aa (aj 0) (aa (aj 2) (aa (aj 3) au)))))) (dI (pA (jK (p8 rfl) T.x_chains_of hr (aa (aj 0) (aa (aj 4) au)))))))))))) (az (du (aX (QW (aj 5) rB)) (aD (aZ aW)) cz) Q4) (Gb (O3 5) (O8 (PW.pt (F_ (j := true) (k := true) (pD (m8 5 T.xc_NoWord T.k_NoWord_NoWord T.z_isinstance T.m_NoWord)) (F_ (j := true) (k := true) (pD (KY 5 (dn' := "ValueError") T.xc_NoWord T.k_NoWord_ValueError T.z_isinstance T.z_ValueError)) (K1 (O6 (j := false) (pD (KZ 5 T.q__law_others_NoWord hr))))))) (Ga O7)))))
theorem Qf (F : Fun K "law" "law" qL f fd) (T : Tx_law P w K mg base cl A) : FnOk P w K mg base CX0 8 f fd ["_law_script"] (spM ⟨K, cl⟩ vA false) := by
 refine fok F sc_law (G := []) (G' := []) (L := []) fun _ _ _ _ _ _ hr _ _ => ?_
 exact (az (bA 1 sc_law.nd (aC T.c__law_record hr (aa (aj 0) (aa ao au)))) (az (bA 2 sc_law.nd (SE.val (KC (c := 0) T.i_Tongue hr (aa (SE.val (Hz T.c__law_rows hr (aa (aj 1) (aa (aC T.c__law_cell_at hr (aa (aj 0) (aa ao au))) au)))) au)))) (az (lL 3 sc_law.nd (osc := (aq qL)) (ON := ["_law_script", "_law_record_here", "_law_tongue", "_law_words", "_law_thing", "_law_at", "_law_mixed", "_law_kept", "_law_way"]) (N := ["_law_cell", "_law_record_here"]) (cap := [none, some 1]) csc (dH 0) (eF (o9 (cY (aa (aC T.c__law_cell_at hr (aa (aj 0) (aa ao au))) au)) (gJ (aj 0) (cQ ao) (cQ ao))) (fun z => by cases z)) (fun _ _ _ _ => cG 0) (fun _ _ _ _ => bJ) (fun _ _ _ _ => (aC T.c__law_word hr (aa (aj 1) (aa (aj 0) au))))) (az (bA 4 sc_law.nd (aC T.c__law_bad hr (aa (aj 1) (aa (aM hr (aj 3) ao) (aa (aC T.c__law_cell_at hr (aa (aj 0) (aa ao au))) au))))) (az (bA 5 sc_law.nd (bL (aC T.c__law_cell_at hr (aa (aj 0) (aa ao au))) (bH (bW T.z_len (aj 3)) ao))) (az (bA 6 sc_law.nd (SE.val (o9 (o9 (gJ (aj 3) fK (cQ (aj 5))) (cY (aa (aj 4) au))) (gJ (aj 3) (cQ (aj 5)) fK)))) (az (bA 7 sc_law.nd (SE.val (v4 T.z_list (aj 6)))) (az (jo [8] (jZ T.z_range ao) (p6 8 sc_law.nd) (az (du (aX (nP hr (aC T.c__law_told hr (aa (aj 2) (aa (aj 8) (aa (aM hr (aj 3) ao) (aa (aM hr (aj 3) (Oe ao)) (aa (aj 3) au)))))) aW)) (aD (aZ pR)) cz) (aD (du (aX (nP hr (aC T.c__law_told hr (aa (aj 2) (aa (aj 8) (aa (aM hr (aj 3) ao) (aa (aj 4) (aa (aj 6) au)))))) aW)) (aD (aZ pR)) cz))) PassesOwn.never) (aD (aZ (eN (cu (bT hr (aj 6) (aj 7))) (fc (cu (bT hr (aC T.c__law_told hr (aa (aj 2) (aa ao (aa (aM hr (aj 3) ao) (aa (aj 4) (aa (aj 3) au)))))) aW))))))))))))))
end
end My
namespace My
open PySem L2 MR
def yJ (K : W.Frag) : Sp := fun vs H Q _ => ∃ (a : Addr) (ns : List Int), vs = [V.ref a] /\ Only H /\ SqL K H a (ns.map V.int) /\ ns.length <= 63 /\ ∀ J, Q (.bl true) J
theorem Qg {K : W.Frag} {cl : Nat -> Addr} {vs : List V} {H : Hp} {Q : VK} {E : XK} (h : yJ K vs H Q E) : spM ⟨K, cl⟩ vA false vs H Q E := by
 obtain ⟨a, ns, rfl, ho, hs, hl, k⟩ := h
 have ri : Reps ⟨K, cl⟩ (fun _ => True) H (ns.map V.int) (ns.map PV.int) := vX _ _ (fun i => .int i) ns
 refine ⟨fun _ => True, [.frz (ns.map PV.int)], .bl true, .cons ?_ .nil, law_true ns hl, fun v H' s r => ?_⟩
 ·rcases hs with (hs | ⟨o, hs⟩) | hs
  ·rcases ho a with z | ⟨o, xs, z⟩
   ·rw [z] at hs; cases hs
   ·rw [z] at hs; cases hs
  ·exact .lstF hs ri
  ·exact .lstK (.inr hs) ri
 ·cases r
  exact k _
theorem all_mk {l : W.OpenLaw} {w : World} {K : W.Frag} {h : Heap} {mg : Str -> Option Value} {fa : Addr} (X : K.In h) (G : h.Ns mainGlobals mg) (hfa : mg "law" = some (.ref fa))
  (aC_Tongue : W.nsIn K mainGlobals "Tongue" = some (some (.ref C_Tongue)))
  (aC_LiltError : W.nsIn K mainGlobals "LiltError" = some (some (.ref C_LiltError)))
  (aC_NoForm : W.nsIn K mainGlobals "NoForm" = some (some (.ref C_NoForm)))
  (aC_NoMetre : W.nsIn K mainGlobals "NoMetre" = some (some (.ref C_NoMetre)))
  (aC_NoName : W.nsIn K mainGlobals "NoName" = some (some (.ref C_NoName)))
  (aC_NoReading : W.nsIn K mainGlobals "NoReading" = some (some (.ref C_NoReading)))
  (aC_NoRow : W.nsIn K mainGlobals "NoRow" = some (some (.ref C_NoRow)))
  (aC_NoRule : W.nsIn K mainGlobals "NoRule" = some (some (.ref C_NoRule)))
  (aC_NoWord : W.nsIn K mainGlobals "NoWord" = some (some (.ref C_NoWord)))
  (a_0 : W.nsIn K mainGlobals "_law_cell_at" = some (some (.ref f_0)))
  (F_0 : Fun K "_law_cell_at" "_law_cell_at" lA f_0 d_0)
  (a_1 : W.nsIn K mainGlobals "_law_letter" = some (some (.ref f_1)))
  (F_1 : Fun K "_law_letter" "_law_letter" lX f_1 d_1)
  (a_2 : W.nsIn K mainGlobals "_law_mix" = some (some (.ref f_2)))
  (F_2 : Fun K "_law_mix" "_law_mix" qG f_2 d_2)
  (a_3 : W.nsIn K mainGlobals "_law_cluster" = some (some (.ref f_3)))
  (F_3 : Fun K "_law_cluster" "_law_cluster" lC f_3 d_3)
  (a_4 : W.nsIn K mainGlobals "_law_record" = some (some (.ref f_4)))
  (F_4 : Fun K "_law_record" "_law_record" cJ f_4 d_4)
  (a_5 : W.nsIn K mainGlobals "told_behind" = some (some (.ref f_5)))
  (F_5 : Fun K "told_behind" "told_behind" lY f_5 d_5)
  (a_6 : W.nsIn K mainGlobals "last_run" = some (some (.ref f_6)))
  (F_6 : Fun K "last_run" "last_run" qH f_6 d_6)
  (a_7 : W.nsIn K mainGlobals "told_alike" = some (some (.ref f_7)))
  (F_7 : Fun K "told_alike" "told_alike" nu f_7 d_7)
  (a_8 : W.nsIn K mainGlobals "is_letter" = some (some (.ref f_8)))
  (F_8 : Fun K "is_letter" "is_letter" oU f_8 d_8)
  (a_9 : W.nsIn K mainGlobals "is_carry_row" = some (some (.ref f_9)))
  (F_9 : Fun K "is_carry_row" "is_carry_row" jc f_9 d_9)
  (a_10 : W.nsIn K mainGlobals "is_pair_of" = some (some (.ref f_10)))
  (F_10 : Fun K "is_pair_of" "is_pair_of" nF f_10 d_10)
  (a_11 : W.nsIn K mainGlobals "is_one_row" = some (some (.ref f_11)))
  (F_11 : Fun K "is_one_row" "is_one_row" kE f_11 d_11)
  (a_12 : W.nsIn K mainGlobals "is_stop" = some (some (.ref f_12)))
  (F_12 : Fun K "is_stop" "is_stop" sI f_12 d_12)
  (a_13 : W.nsIn K mainGlobals "are_alike_units" = some (some (.ref f_13)))
  (F_13 : Fun K "are_alike_units" "are_alike_units" eU f_13 d_13)
  (a_14 : W.nsIn K mainGlobals "is_cluster" = some (some (.ref f_14)))
  (F_14 : Fun K "is_cluster" "is_cluster" kI f_14 d_14)
  (a_15 : W.nsIn K mainGlobals "is_rule" = some (some (.ref f_15)))
  (F_15 : Fun K "is_rule" "is_rule" lR f_15 d_15)
  (a_16 : W.findIn K (.ref C_Tongue) "__init__" = some (some (.ref f_16)))
  (i_16 : W.isFn K (.ref f_16) = true)
  (F_16 : Fun K "__init__" "Tongue.__init__" di f_16 d_16)
  (a_17 : W.nsIn K mainGlobals "_law_bad" = some (some (.ref f_17)))
  (F_17 : Fun K "_law_bad" "_law_bad" qI f_17 d_17)
  (a_18 : W.nsIn K mainGlobals "_law_rows" = some (some (.ref f_18)))
  (F_18 : Fun K "_law_rows" "_law_rows" lH f_18 d_18)
  (a_19 : W.nsIn K mainGlobals "_law_piece" = some (some (.ref f_19)))
  (F_19 : Fun K "_law_piece" "_law_piece" nJ f_19 d_19)
  (a_20 : W.nsIn K mainGlobals "_law_word" = some (some (.ref f_20)))
  (F_20 : Fun K "_law_word" "_law_word" lJ f_20 d_20)
  (a_21 : W.findIn K (.ref C_Tongue) "carries" = some (some (.ref f_21)))
  (i_21 : W.isFn K (.ref f_21) = true)
  (F_21 : Fun K "carries" "Tongue.carries" jl f_21 d_21)
  (a_22 : W.nsIn K mainGlobals "is_word" = some (some (.ref f_22)))
  (F_22 : Fun K "is_word" "is_word" lU f_22 d_22)
  (a_23 : W.nsIn K mainGlobals "refuse_no_word" = some (some (.ref f_23)))
  (F_23 : Fun K "refuse_no_word" "refuse_no_word" jF f_23 d_23)
  (a_24 : W.findIn K (.ref C_Tongue) "is_pair" = some (some (.ref f_24)))
  (i_24 : W.isFn K (.ref f_24) = true)
  (F_24 : Fun K "is_pair" "Tongue.is_pair" jm f_24 d_24)
  (a_25 : W.nsIn K mainGlobals "units_of" = some (some (.ref f_25)))
  (F_25 : Fun K "units_of" "units_of" qJ f_25 d_25)
  (a_26 : W.nsIn K mainGlobals "end_of" = some (some (.ref f_26)))
  (F_26 : Fun K "end_of" "end_of" qK f_26 d_26)
  (a_27 : W.findIn K (.ref C_Tongue) "alike" = some (some (.ref f_27)))
  (i_27 : W.isFn K (.ref f_27) = true)
  (F_27 : Fun K "alike" "Tongue.alike" kJ f_27 d_27)
  (a_28 : W.nsIn K mainGlobals "ends_rhyme" = some (some (.ref f_28)))
  (F_28 : Fun K "ends_rhyme" "ends_rhyme" kO f_28 d_28)
  (a_29 : W.nsIn K mainGlobals "rhymes" = some (some (.ref f_29)))
  (F_29 : Fun K "rhymes" "rhymes" uU f_29 d_29)
  (a_30 : W.nsIn K mainGlobals "first_broken" = some (some (.ref f_30)))
  (F_30 : Fun K "first_broken" "first_broken" gC f_30 d_30)
  (a_31 : W.nsIn K mainGlobals "mates_of" = some (some (.ref f_31)))
  (F_31 : Fun K "mates_of" "mates_of" mz f_31 d_31)
  (a_32 : W.nsIn K mainGlobals "chains_of" = some (some (.ref f_32)))
  (F_32 : Fun K "chains_of" "chains_of" fZ f_32 d_32)
  (a_33 : W.nsIn K mainGlobals "_law_told" = some (some (.ref f_33)))
  (F_33 : Fun K "_law_told" "_law_told" oV f_33 d_33)
  (a_34 : W.nsIn K mainGlobals "law" = some (some (.ref f_34)))
  (F_34 : Fun K "law" "law" qL f_34 d_34)
  (a_35 : W.nsIn K mainGlobals "_law_others" = some (some (.ref f_35)))
  (F_35 : Fun K "_law_others" "_law_others" l_ f_35 d_35)
  (pg_Tongue : W.plainGet K C_Tongue Str.empty = true)
  (hd_Tongue : W.hasDictIn K C_Tongue = true)
  (po_Tongue : W.plainOver K C_Tongue = true)
  (sa_Tongue : W.findIn K (.ref C_Tongue) "__setattr__" = some (some (.builtin "object.__setattr__")))
  (mk_Tongue : W.makesIn K C_Tongue = true)
  (kc_Tongue : W.keepIn K (.ref C_Tongue) = true)
  (nf_Tongue_beginnings : W.findIn K (.ref C_Tongue) "beginnings" = some none)
  (nf_Tongue_carrying : W.findIn K (.ref C_Tongue) "carrying" = some none)
  (nf_Tongue_eithers : W.findIn K (.ref C_Tongue) "eithers" = some none)
  (nf_Tongue_likes : W.findIn K (.ref C_Tongue) "likes" = some none)
  (nf_Tongue_longs : W.findIn K (.ref C_Tongue) "longs" = some none)
  (nf_Tongue_pairs : W.findIn K (.ref C_Tongue) "pairs" = some none)
  (nf_Tongue_running : W.findIn K (.ref C_Tongue) "running" = some none)
  (nf_Tongue_splittings : W.findIn K (.ref C_Tongue) "splittings" = some none)
  (z_ValueError : W.nsIn K mainGlobals "ValueError" = some none)
  (z_all : W.nsIn K mainGlobals "all" = some none)
  (z_any : W.nsIn K mainGlobals "any" = some none)
  (z_dict : W.nsIn K mainGlobals "dict" = some none)
  (z_enumerate : W.nsIn K mainGlobals "enumerate" = some none)
  (z_isinstance : W.nsIn K mainGlobals "isinstance" = some none)
  (z_len : W.nsIn K mainGlobals "len" = some none)
  (z_list : W.nsIn K mainGlobals "list" = some none)
  (z_max : W.nsIn K mainGlobals "max" = some none)
  (z_range : W.nsIn K mainGlobals "range" = some none)
  (z_str : W.nsIn K mainGlobals "str" = some none)
  (z_zip : W.nsIn K mainGlobals "zip" = some none)
  (g_LEAST_STOPS : W.nsIn K mainGlobals "LEAST_STOPS" = some (some (.int 2 t_LEAST_STOPS)))
  (g_LETTERS : W.nsIn K mainGlobals "LETTERS" = some (some (.str "abcdefghijklmnopqrstuvwxyz" t_LETTERS)))
  (g_MOST_LETTERS : W.nsIn K mainGlobals "MOST_LETTERS" = some (some (.int 24 t_MOST_LETTERS)))
  (g_MOST_STOPS : W.nsIn K mainGlobals "MOST_STOPS" = some (some (.int 4 t_MOST_STOPS)))
  (g_RUNS : W.nsIn K mainGlobals "RUNS" = some (some (.ref a_RUNS)))
  (lk_RUNS : K.lookup a_RUNS = some ⟨.type "tuple", o_RUNS, .seq #[.str "never" t_RUNS_0, .str "may" t_RUNS_1, .str "must" t_RUNS_2] n_RUNS, sl_RUNS⟩)
  (is_str : ∀ t k, (t, k) ∈ tb_str -> W.kitOne K (.type t) (.type "str") = some k)
  (xa_NoWord : W.findIn K (.ref C_NoWord) "__getattribute__" = some (some (.builtin "BaseException.__getattribute__")))
  (xb_NoWord : W.findIn K (.ref C_NoWord) "__getattr__" = some none)
  (xd_NoWord : W.findIn K (.ref C_NoWord) "__class__" = some (some (.builtin "object.__class__")))
  (xe_NoWord : W.mroIn K C_NoWord (.type "object") = some true)
  (xf_NoWord : W.mroIn K C_NoWord (.type "BaseException") = some true)
  (xi_NoWord : W.excIn K C_NoWord [.type "ValueError", .type "Exception", .type "BaseException", .type "object"] "ValueError.__new__" = true)
  (xk_NoWord_NoForm : W.kitOne K (.ref C_NoWord) (.ref C_NoForm) = some false)
  (xk_NoWord_NoMetre : W.kitOne K (.ref C_NoWord) (.ref C_NoMetre) = some false)
  (xk_NoWord_NoName : W.kitOne K (.ref C_NoWord) (.ref C_NoName) = some false)
  (xk_NoWord_NoReading : W.kitOne K (.ref C_NoWord) (.ref C_NoReading) = some false)
  (xk_NoWord_NoRow : W.kitOne K (.ref C_NoWord) (.ref C_NoRow) = some false)
  (xk_NoWord_NoRule : W.kitOne K (.ref C_NoWord) (.ref C_NoRule) = some false)
  (xk_NoWord_NoWord : W.kitOne K (.ref C_NoWord) (.ref C_NoWord) = some true)
  (xk_NoWord_ValueError : W.kitOne K (.ref C_NoWord) (.type "ValueError") = some true)
  (xm_NoWord_LiltError : W.exmOne K (.ref C_NoWord) (.ref C_LiltError) = some true) :
  ∃ fd : FuncData, (∀ (s : Shared) (v : Value), BindsTo s fd ⟨[v], []⟩ [("_law_script", v)]) /\ ∀ base : Heap, K.In base -> base.Ns mainGlobals mg -> FnOk l.prog w K mg base CX0 8 fa fd ["_law_script"] (yJ K) := by
 have mo {x : Str} {v : Value} (h : W.nsIn K mainGlobals x = some (some v)) : mg x = some v := W.mg_of X G h
 have e := hfa.symm.trans (mo a_34)
 cases e
 replace z_ValueError := W.mg_none_of X G z_ValueError
 replace z_all := W.mg_none_of X G z_all
 replace z_any := W.mg_none_of X G z_any
 replace z_dict := W.mg_none_of X G z_dict
 replace z_enumerate := W.mg_none_of X G z_enumerate
 replace z_isinstance := W.mg_none_of X G z_isinstance
 replace z_len := W.mg_none_of X G z_len
 replace z_list := W.mg_none_of X G z_list
 replace z_max := W.mg_none_of X G z_max
 replace z_range := W.mg_none_of X G z_range
 replace z_str := W.mg_none_of X G z_str
 replace z_zip := W.mg_none_of X G z_zip
 obtain ⟨_, _, kV_34, dc_34, pm_34, an_34, cd_34, ct_34, _, rfl, _, _⟩ := F_34.ex
 refine ⟨W.fnOf "law" "law" (iT qL) (eZ qL) (aq qL) .none kV_34 dc_34 pm_34 an_34 cd_34 ct_34, fun s v => .of_eq rfl, fun base _ _ => ?_⟩
 let cl : Nat -> Addr := fun n => match n with | 0 => C_Tongue | 10 => C_LiltError | 13 => C_NoForm | 12 => C_NoMetre | 16 => C_NoName | 15 => C_NoReading | 17 => C_NoRow | 11 => C_NoRule | 14 => C_NoWord | _ => 0
 let A : Adr := { t_LEAST_STOPS := t_LEAST_STOPS, t_LETTERS := t_LETTERS, t_MOST_LETTERS := t_MOST_LETTERS, t_MOST_STOPS := t_MOST_STOPS, a_RUNS := a_RUNS }
 have cl_Tongue : Cls K (cl 0) := ⟨pg_Tongue, hd_Tongue, po_Tongue, sa_Tongue⟩
 have r_RUNS : ∀ (B : Addr -> Prop) (H : Hp), Rep ⟨K, cl⟩ B H (.ref a_RUNS) pG := fun B H => .tupK (vs := [V.str "never", V.str "may", V.str "must"]) (.inr ⟨_, _, _, lk_RUNS, rfl, rfl, (by show 3 <= sizeLine; decide), (.cons ⟨_, rfl⟩ (.cons ⟨_, rfl⟩ (.cons ⟨_, rfl⟩ .nil)))⟩) (.cons (.str _) (.cons (.str _) (.cons (.str _) .nil)))
 have q7 : Q7 l.prog w K mg base cl A := ⟨⟩
 have kq__law_others_NoWord := b8 F_35 (mo a_35) F_35.bd1 (oW F_35 ⟨q7, z_isinstance, xk_NoWord_NoForm, xk_NoWord_NoMetre, xk_NoWord_NoName, xk_NoWord_NoReading, xk_NoWord_NoRow, xk_NoWord_NoRule, mo aC_NoForm, mo aC_NoMetre, mo aC_NoName, mo aC_NoReading, mo aC_NoRow, mo aC_NoRule, ⟨xa_NoWord, xb_NoWord, xd_NoWord, xe_NoWord, xf_NoWord⟩⟩)
 have k__law_cell_at := b8 F_0 (mo a_0) F_0.bd2 (vN F_0 ⟨q7, z_len⟩)
 have k__law_letter := b8 F_1 (mo a_1) F_1.bd2 (wD F_1 ⟨q7⟩)
 have k__law_mix := b8 F_2 (mo a_2) F_2.bd2 (Ay F_2 ⟨q7⟩)
 have k__law_cluster := b8 F_3 (mo a_3) F_3.bd3 (vO F_3 ⟨q7, z_range, k__law_letter⟩)
 have k__law_record := b8 F_4 (mo a_4) F_4.bd2 (wF F_4 ⟨q7, z_len, z_range, k__law_cell_at, k__law_cluster, k__law_letter, k__law_mix⟩)
 have k_told_behind := b8 F_5 (mo a_5) F_5.bd2 (wG F_5 ⟨q7⟩)
 have k_last_run := b8 F_6 (mo a_6) F_6.bd1 (Az F_6 ⟨q7⟩)
 have k_told_alike := b8 F_7 (mo a_7) F_7.bd1 (yd F_7 ⟨q7⟩)
 have k_is_letter := b8 F_8 (mo a_8) F_8.bd1 (Af F_8 ⟨q7, z_len, mo g_LETTERS⟩)
 have k_is_carry_row := b8 F_9 (mo a_9) F_9.bd1 (vP F_9 ⟨q7, z_all, z_len, k_is_letter⟩)
 have k_is_pair_of := b8 F_10 (mo a_10) F_10.bd2 (ye F_10 ⟨q7, z_len⟩)
 have k_is_one_row := b8 F_11 (mo a_11) F_11.bd2 (yf F_11 ⟨q7, z_all, z_len, k_is_pair_of⟩)
 have k_is_stop := b8 F_12 (mo a_12) F_12.bd2 (DN F_12 ⟨q7, k_is_letter⟩)
 have k_are_alike_units := b8 F_13 (mo a_13) F_13.bd3 (sU F_13 ⟨q7, z_all, z_len, k_is_stop⟩)
 have k_is_cluster := b8 F_14 (mo a_14) F_14.bd2 (yg F_14 ⟨q7, z_all, z_len, mo g_LEAST_STOPS, mo g_MOST_STOPS, k_is_stop⟩)
 have k_is_rule := b8 F_15 (mo a_15) F_15.bd3 (DP F_15 ⟨q7, z_all, z_len, z_list, mo g_RUNS, r_RUNS, k_are_alike_units, k_is_carry_row, k_is_cluster, k_is_one_row⟩)
 have G_16 := qW F_16 ⟨q7, z_enumerate, cl_Tongue, nf_Tongue_beginnings, nf_Tongue_carrying, nf_Tongue_eithers, nf_Tongue_likes, nf_Tongue_longs, nf_Tongue_pairs, nf_Tongue_running, nf_Tongue_splittings, k_is_carry_row, k_is_one_row, k_is_rule, k_last_run, k_told_alike, k_told_behind⟩
 have k_Tongue____init__ : CalI l.prog w K mg base (cl 0) _ "Tongue" _ _ := ⟨_, _, G_16, F_16.bd2, ⟨mk_Tongue, a_16, i_16, kc_Tongue⟩, mo aC_Tongue⟩
 have k__law_bad := b8 F_17 (mo a_17) F_17.bd3 (A_ F_17 ⟨q7, z_len, k__law_letter⟩)
 have k__law_rows := b8 F_18 (mo a_18) F_18.bd2 (Ag F_18 ⟨q7, z_enumerate, z_len⟩)
 have k__law_piece := b8 F_19 (mo a_19) F_19.bd2 (yh F_19 ⟨q7, z_len, k__law_letter⟩)
 have k__law_word := b8 F_20 (mo a_20) F_20.bd2 (Ah F_20 ⟨q7, z_len, z_range, k__law_mix, k__law_piece⟩)
 have G_21 := sV F_21 ⟨q7, cl_Tongue, nf_Tongue_carrying⟩
 have k_Tongue__carries : CalM l.prog w K mg base (cl 0) _ "carries" _ _ := ⟨_, _, G_21, F_21.bd2, ⟨a_21, i_21, F_21.kp⟩⟩
 have k_is_word := b8 F_22 (mo a_22) F_22.bd2 (DQ F_22 ⟨q7, z_all, z_any, z_isinstance, z_len, z_str, is_str, mo g_MOST_LETTERS, cl_Tongue, k_is_letter, k_Tongue__carries⟩)
 have kx_refuse_no_word := pq F_23 (mo a_23) F_23.bd2 (sW F_23 ⟨q7, k_is_word, xi_NoWord, mo aC_NoWord⟩)
 have k_refuse_no_word := mZ kx_refuse_no_word
 have G_24 := sX F_24 ⟨q7, cl_Tongue, nf_Tongue_pairs⟩
 have k_Tongue__is_pair : CalM l.prog w K mg base (cl 0) _ "is_pair" _ _ := ⟨_, _, G_24, F_24.bd2, ⟨a_24, i_24, F_24.kp⟩⟩
 have kx_units_of := pq F_25 (mo a_25) F_25.bd2 (Ai F_25 ⟨q7, z_len, cl_Tongue, k_refuse_no_word, k_Tongue__is_pair, kx_refuse_no_word⟩)
 have k_units_of := mZ kx_units_of
 have kx_end_of := pq F_26 (mo a_26) F_26.bd2 (DR F_26 ⟨q7, z_enumerate, z_max, cl_Tongue, k_units_of, k_Tongue__carries, kx_units_of⟩)
 have k_end_of := mZ kx_end_of
 have G_27 := uW F_27 ⟨q7, cl_Tongue, nf_Tongue_likes⟩
 have k_Tongue__alike : CalM l.prog w K mg base (cl 0) _ "alike" _ _ := ⟨_, _, G_27, F_27.bd3, ⟨a_27, i_27, F_27.kp⟩⟩
 have k_ends_rhyme := b8 F_28 (mo a_28) F_28.bd3 (yj F_28 ⟨q7, z_all, z_len, z_zip, cl_Tongue, k_Tongue__alike⟩)
 have kx_rhymes := pq F_29 (mo a_29) F_29.bd3 (DW F_29 ⟨q7, k_end_of, k_ends_rhyme, kx_end_of⟩)
 have k_rhymes := mZ kx_rhymes
 have k_first_broken := b8 F_30 (mo a_30) F_30.bd1 (vQ F_30 ⟨q7, z_dict, z_enumerate, z_len⟩)
 have k_mates_of := b8 F_31 (mo a_31) F_31.bd3 (Ba F_31 ⟨q7, z_enumerate, k_ends_rhyme⟩)
 have kx_chains_of := pq F_32 (mo a_32) F_32.bd2 (ym F_32 ⟨q7, z_enumerate, k_end_of, k_first_broken, k_mates_of, kx_end_of⟩)
 have k_chains_of := mZ kx_chains_of
 have k__law_told := b8 F_33 (mo a_33) F_33.bd5 (Aj F_33 ⟨q7, z_ValueError, z_isinstance, k_chains_of, k_end_of, k_rhymes, xk_NoWord_NoWord, xk_NoWord_ValueError, mo aC_LiltError, mo aC_NoWord, kq__law_others_NoWord, kx_chains_of, kx_end_of, kx_rhymes, ⟨xa_NoWord, xb_NoWord, xd_NoWord, xe_NoWord, xf_NoWord⟩, xm_NoWord_LiltError⟩)
 have G_34 := Qf F_34 ⟨q7, z_len, z_list, z_range, k__law_bad, k__law_cell_at, k__law_record, k__law_rows, k__law_told, k__law_word, k_Tongue____init__⟩
 exact G_34.imp fun vs H Q E h => Qg h
theorem walk {l : W.OpenLaw} {q : Program} {loose : List Str} {XP : (Str -> Option Value) -> Heap -> Prop} {YP : World -> Heap -> Prop} {d : DefRec} {K : Params -> W.Frag} (hn : l.most = some 63) (hdf : d.params.defaults = [])
  (hY : ∀ (w : World) (h : Heap), YP w h -> (K w.params).In h)
  (F : ∀ (w : World) (mg : Str -> Option Value) (fa : Addr) (h : Heap), (K w.params).In h -> h.Ns mainGlobals mg -> mg d.name = some (.ref fa) ->
   ∃ fd : FuncData, (∀ (s : Shared) (u : Value), BindsTo s fd ⟨[u], []⟩ [("_law_script", u)]) /\ ∀ base : Heap, (K w.params).In base -> base.Ns mainGlobals mg -> FnOk l.prog w (K w.params) mg base CX0 8 fa fd ["_law_script"] (yJ (K w.params))) :
  W.WalkO q loose XP YP l.row.toRowW d [] (fun f vs => PySem.call f vs) :=
 L2.walk_of (n := 63) (k := 8) (x := "_law_script") (CX := fun _ => CX0) (sp := fun w => yJ (K w.params)) hn (by decide) hdf ⟨rfl, by decide, by decide⟩ hY F (fun _ _ a ns hl hO hS => ⟨a, ns, rfl, hO, hS, hl, fun _ => rfl⟩) fun _ _ _ _ _ z => z
end My
open PySem PySem.W PyProof.Rows
def PySem.W.Fast.tw10131415841809252306 := ()
def PySem.W.Fast.tw9007416204907457037 := ()
def PySem.W.Fast.tw7050184732171375845 := ()
def PySem.W.Fast.tw14035804042704270861 := ()
def PySem.W.Fast.tw13326939942151611542 := ()
def PySem.W.Fast.tw9505163546178244256 := ()
def PySem.W.Fast.tw4199473500778565273 := ()
def PySem.W.Fast.tw4171161853223216649 := ()
def PySem.W.Fast.tw5107852010217604497 := ()
def PySem.W.Fast.tw11368453516562815697 := ()
def PySem.W.Fast.tw2707299540533597202 := ()
def PySem.W.Fast.tw5608754221397406406 := ()
def PySem.W.Fast.tw1706031004778456767 := ()
def PySem.W.Fast.tw16878703454401239836 := ()
def PySem.W.Fast.tw17095761958946480234 := ()
def PySem.W.Fast.tw11380504568705254747 := ()
def PySem.W.Fast.tw3619376594460544715 := ()
def PySem.W.Fast.tw8048353440646318471 := ()
def PySem.W.Fast.tw13476091410129726871 := ()
def PySem.W.Fast.tw12255441976635566722 := ()
def PySem.W.Fast.tw12094417151185182428 := ()
def PySem.W.Fast.tw15304475651262100807 := ()
def PySem.W.Fast.tw12679952754153172 := ()
def PySem.W.Fast.tw6798007944890363600 := ()
def PySem.W.Fast.tw758472913578929687 := ()
def PySem.W.Fast.tw8668244459230276627 := ()
def PySem.W.Fast.tw7238116912683192385 := ()
def PySem.W.Fast.tw5226872008344533045 := ()
def PySem.W.Fast.tw12884734582901734673 := ()
def PySem.W.Fast.tw8393003090592195667 := ()
def PySem.W.Fast.tw10552551651465000416 := ()
def PySem.W.Fast.tw6754411568543075646 := ()
def PySem.W.Fast.tw16972304267747507520 := ()
def PySem.W.Fast.tw12330628550270994699 := ()
def PySem.W.Fast.tw3887339917101991745 := ()
def PySem.W.Fast.tw11841528288534482614 := ()
def PySem.W.Fast.tw6765776257182421196 := ()
def PySem.W.Fast.tw10904630780789407394 := ()
def PySem.W.Fast.tw8251131010718162019 := ()
def PySem.W.Fast.tw2386556750244701213 := ()
def PySem.W.Fast.tw7392913092155985110 := ()
def PySem.W.Fast.tw12631005279564169651 := ()
def PySem.W.Fast.tw14725604069495524803 := ()
def PySem.W.Fast.tw2526811879940302086 := ()
def PySem.W.Fast.tw16768022302140174912 := ()
def PySem.W.Fast.tw15923271017747625729 := ()
set_option maxRecDepth 100000 in
set_option maxHeartbeats 0 in
theorem PySem.Challenge.cw_lilt_k62_no_words_to_rhyme_holds : PySem.Challenge.rw_lilt_k62_no_words_to_rhyme.Holds := by
 w_on; o_law; k_head; (case hw => w_witness2)
 k_fill
 refine My.walk (l := PySem.Challenge.rw_lilt_k62_no_words_to_rhyme) rfl rfl (fun w h Y => PySem.W.kIn_of Y) ?F
 case F =>
  intro w mg fa h KX G hmg
  refine' My.all_mk KX G hmg ?aC_Tongue ?aC_LiltError ?aC_NoForm ?aC_NoMetre ?aC_NoName ?aC_NoReading ?aC_NoRow ?aC_NoRule ?aC_NoWord ?a_0 ?F_0 ?a_1 ?F_1 ?a_2 ?F_2 ?a_3 ?F_3 ?a_4 ?F_4 ?a_5 ?F_5 ?a_6 ?F_6 ?a_7 ?F_7 ?a_8 ?F_8 ?a_9 ?F_9 ?a_10 ?F_10 ?a_11 ?F_11 ?a_12 ?F_12 ?a_13 ?F_13 ?a_14 ?F_14 ?a_15 ?F_15 ?a_16 ?i_16 ?F_16 ?a_17 ?F_17 ?a_18 ?F_18 ?a_19 ?F_19 ?a_20 ?F_20 ?a_21 ?i_21 ?F_21 ?a_22 ?F_22 ?a_23 ?F_23 ?a_24 ?i_24 ?F_24 ?a_25 ?F_25 ?a_26 ?F_26 ?a_27 ?i_27 ?F_27 ?a_28 ?F_28 ?a_29 ?F_29 ?a_30 ?F_30 ?a_31 ?F_31 ?a_32 ?F_32 ?a_33 ?F_33 ?a_34 ?F_34 ?a_35 ?F_35 ?pg_Tongue ?hd_Tongue ?po_Tongue ?sa_Tongue ?mk_Tongue ?kc_Tongue ?nf_Tongue_beginnings ?nf_Tongue_carrying ?nf_Tongue_eithers ?nf_Tongue_likes ?nf_Tongue_longs ?nf_Tongue_pairs ?nf_Tongue_running ?nf_Tongue_splittings ?z_ValueError ?z_all ?z_any ?z_dict ?z_enumerate ?z_isinstance ?z_len ?z_list ?z_max ?z_range ?z_str ?z_zip ?g_LEAST_STOPS ?g_LETTERS ?g_MOST_LETTERS ?g_MOST_STOPS ?g_RUNS ?lk_RUNS ?is_str ?xa_NoWord ?xb_NoWord ?xd_NoWord ?xe_NoWord ?xf_NoWord ?xi_NoWord ?xk_NoWord_NoForm ?xk_NoWord_NoMetre ?xk_NoWord_NoName ?xk_NoWord_NoReading ?xk_NoWord_NoRow ?xk_NoWord_NoRule ?xk_NoWord_NoWord ?xk_NoWord_ValueError ?xm_NoWord_LiltError
  (case aC_Tongue | aC_LiltError | aC_NoForm | aC_NoMetre | aC_NoName | aC_NoReading | aC_NoRow | aC_NoRule | aC_NoWord | a_0 | a_1 | a_2 | a_3 | a_4 | a_5 | a_6 | a_7 | a_8 | a_9 | a_10 | a_11 | a_12 | a_13 | a_14 | a_15 | a_16 | i_16 | a_17 | a_18 | a_19 | a_20 | a_21 | i_21 | a_22 | a_23 | a_24 | i_24 | a_25 | a_26 | a_27 | i_27 | a_28 | a_29 | a_30 | a_31 | a_32 | a_33 | a_34 | a_35 | pg_Tongue | hd_Tongue | po_Tongue | sa_Tongue | mk_Tongue | kc_Tongue | nf_Tongue_beginnings | nf_Tongue_carrying | nf_Tongue_eithers | nf_Tongue_likes | nf_Tongue_longs | nf_Tongue_pairs | nf_Tongue_running | nf_Tongue_splittings | z_ValueError | z_all | z_any | z_dict | z_enumerate | z_isinstance | z_len | z_list | z_max | z_range | z_str | z_zip | g_LEAST_STOPS | g_LETTERS | g_MOST_LETTERS | g_MOST_STOPS | g_RUNS | lk_RUNS => k_is)
  (case F_0 | F_1 | F_2 | F_3 | F_4 | F_5 | F_6 | F_7 | F_8 | F_9 | F_10 | F_11 | F_12 | F_13 | F_14 | F_15 | F_16 | F_17 | F_18 | F_19 | F_20 | F_21 | F_22 | F_23 | F_24 | F_25 | F_26 | F_27 | F_28 | F_29 | F_30 | F_31 | F_32 | F_33 | F_34 | F_35 => refine' L2.fun_mk ?l ?c ?k; (case l => k_is); (case c => k_is); (case k => k_is))
  (case is_str => intro t k hm; simp only [My.tb_str, List.mem_cons, List.not_mem_nil, or_false, Prod.mk.injEq] at hm; rcases hm with ⟨rfl, rfl⟩ | ⟨rfl, rfl⟩ | ⟨rfl, rfl⟩ | ⟨rfl, rfl⟩ | ⟨rfl, rfl⟩ | ⟨rfl, rfl⟩ | ⟨rfl, rfl⟩ <;> first | rfl | k_is)
  (case xi_NoWord => k_exc)
  (case xm_NoWord_LiltError => kts_exm)
  (case xk_NoWord_NoForm | xk_NoWord_NoMetre | xk_NoWord_NoName | xk_NoWord_NoReading | xk_NoWord_NoRow | xk_NoWord_NoRule | xk_NoWord_NoWord | xk_NoWord_ValueError => first | rfl | k_is | kit_is)
  (case xa_NoWord | xb_NoWord | xd_NoWord | xe_NoWord | xf_NoWord => k_is)
