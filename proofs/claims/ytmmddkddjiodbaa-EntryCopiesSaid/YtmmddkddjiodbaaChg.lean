/- What is proved here: what it is that of what was there certain blocks alone have turned; blocks of two and three cells. No program's type is named. -/
import Derived.Test.YtmmddkddjiodbaaCommon
import Derived.Maps.OwnSet
import Derived.Deep.Draws
namespace Go.Proofs.Ytmmddkddjiodbaa
open Go Go.RowKit Go.Maps Go.ChangeMaps Go.MapKept Go.WideMaps Go.WideShapes

/-- Of what was there nothing has turned but blocks of which Φ speaks. -/
structure Chg (Φ : Nat → Prop) (w w' : World) : Prop where
  os : w'.os = w.os
  tape : w'.tape = w.tape
  output : w'.output = w.output
  size : w.heap.size ≤ w'.heap.size
  block : ∀ k, k < w.heap.size → ¬ Φ k → w'.heap[k]? = w.heap[k]?

section
variable {Φ Ψ : Nat → Prop} {a b c w w' : World}
theorem Chg.refl (Φ : Nat → Prop) (w : World) : Chg Φ w w := ⟨rfl, rfl, rfl, Nat.le_refl _, fun _ _ _ => rfl⟩
theorem Chg.trans (h : Chg Φ a b) (k : Chg Ψ b c) (hs : ∀ i, i < a.heap.size → Ψ i → Φ i) : Chg Φ a c :=
  ⟨k.os.trans h.os, k.tape.trans h.tape, k.output.trans h.output, Nat.le_trans h.size k.size, fun i hi hn =>
    (k.block i (Nat.lt_of_lt_of_le hi h.size) fun hp => hn (hs i hi hp)).trans (h.block i hi hn)⟩
theorem Chg.mono (h : Chg Φ a b) (hs : ∀ i, i < a.heap.size → Φ i → Ψ i) : Chg Ψ a b :=
  ⟨h.os, h.tape, h.output, h.size, fun i hi hn => h.block i hi fun hp => hn (hs i hi hp)⟩
theorem Chg.of_below (h : Below a.heap.size a b) : Chg Φ a b := ⟨h.os, h.tape, h.output, h.size, fun i hi _ => h.block i hi⟩
theorem Chg.below {B : Nat} (h : Chg Φ a b) (hB : B ≤ a.heap.size) (hs : ∀ i, Φ i → B ≤ i) : Below B a b :=
  ⟨h.os, h.tape, h.output, h.size, fun i hi => h.block i (by omega) fun hp => by have := hs i hp; omega⟩
theorem Chg.setCell (w : World) (p : Addr) (u : Value) : Chg (fun k => k = p.block) w (w.setCell p u) :=
  ⟨rfl, rfl, rfl, by simp [World.setCell], fun i _ hn => Below.heap_setCell _ _ _ _ hn⟩
theorem Chg.set (w : World) (p i : Nat) (u : Value) : Chg (fun k => k = p) w (w.setCell ⟨p, i, none⟩ u) := Chg.setCell w ⟨p, i, none⟩ u
theorem Chg.alloc (w : World) (o : Obj) : Chg Φ w (w.alloc o) := Chg.of_below ((Below.refl _ _).alloc (Nat.le_refl _) o)
theorem Chg.drewN (w : World) (n : Nat) : Chg Φ w (w.drewN n) := ⟨rfl, rfl, rfl, Nat.le_refl _, fun _ _ _ => rfl⟩
theorem Chg.drew (w : World) : Chg Φ w w.drew := ⟨rfl, rfl, rfl, Nat.le_refl _, fun _ _ _ => rfl⟩
theorem Chg.of_grown {row : Option Nat} (h : a.grownBy b row) : Chg (fun k => row = some k) a b :=
  ⟨h.os, h.tape, h.output, h.size, fun i hi hn => h.block i hi fun e => hn e.symm⟩
theorem Chg.of_turned {m : Nat} (h : a.mapTurned b m) : Chg (fun k => k = m) a b :=
  (Chg.of_grown h.grown).mono fun _ _ e => (Option.some.inj e).symm
theorem Chg.heap (h : Chg Φ w w') {k : Nat} {o : Obj} (hk : w.heap[k]? = some o) (hn : ¬ Φ k) : w'.heap[k]? = some o :=
  (h.block k (Array.getElem?_eq_some_iff.1 hk).1 hn).trans hk
theorem Chg.cell (h : Chg Φ w w') {p : Addr} (hp : p.block < w.heap.size) (hn : ¬ Φ p.block) : w'.cell? p = w.cell? p := World.cell?_of_block (h.block _ hp hn)
theorem Chg.own {base e size n : Nat} {v : Value} {xs : List Value} (h : Chg Φ w w') (ho : w.ownsRow base e size v n xs) (hn : ∀ g, v.ownBlock = some g → ¬ Φ g) : w'.ownsRow base e size v n xs := by
  refine ⟨ho.1, ?_⟩
  rcases ho.2 with h1 | ⟨g, cap, cur, rfl, hb, hg, r⟩
  · exact .inl h1
  · exact .inr ⟨g, cap, cur, rfl, hb, h.heap hg (hn g rfl), r⟩
theorem Chg.rd {B n q : Nat} {k : IntKind} {A : Option Addr} {xs : List Int} (h : Chg Φ w w') (hr : Rd w B k A n q xs) (hB : B ≤ w.heap.size) (hn : ∀ i, i < B → ¬ Φ i) : Rd w' B k A n q xs :=
  hr.keep fun p hp => h.cell (by omega) (hn _ hp)
end

/-! ### blocks of two and three cells -/
section
variable {w : World} {b : Nat} {x y z : Value} {t : TypeId}
theorem two_cells (h : w.heap[b]? = some (.cells #[x, y] t (0, 0))) :
    w.cell? ⟨b, 0, none⟩ = some x ∧ w.cell? ⟨b, 1, none⟩ = some y ∧ w.frozen? ⟨b, 0, none⟩ = false ∧ w.frozen? ⟨b, 1, none⟩ = false := by
  simp [World.cell?, World.frozen?, h]
theorem three_cells (h : w.heap[b]? = some (.cells #[x, y, z] t (0, 0))) :
    w.cell? ⟨b, 0, none⟩ = some x ∧ w.cell? ⟨b, 1, none⟩ = some y ∧ w.cell? ⟨b, 2, none⟩ = some z ∧ w.frozen? ⟨b, 0, none⟩ = false ∧ w.frozen? ⟨b, 1, none⟩ = false ∧ w.frozen? ⟨b, 2, none⟩ = false := by
  simp [World.cell?, World.frozen?, h]
theorem heap_setCell_same {cs : Array Value} {fr : Nat × Nat} (h : w.heap[b]? = some (.cells cs t fr)) (i : Nat) (u : Value) : (w.setCell ⟨b, i, none⟩ u).heap[b]? = some (.cells (cs.setIfInBounds i u) t fr) := by
  obtain ⟨hlt, h'⟩ := Array.getElem?_eq_some_iff.1 h
  show (w.heap.modify b _)[b]? = _
  rw [Array.getElem?_eq_getElem (by simpa using hlt), Array.getElem_modify_self, h']
  rfl
theorem two_set0 (h : w.heap[b]? = some (.cells #[x, y] t (0, 0))) (u : Value) : (w.setCell ⟨b, 0, none⟩ u).heap[b]? = some (.cells #[u, y] t (0, 0)) := heap_setCell_same h 0 u
theorem two_set1 (h : w.heap[b]? = some (.cells #[x, y] t (0, 0))) (u : Value) : (w.setCell ⟨b, 1, none⟩ u).heap[b]? = some (.cells #[x, u] t (0, 0)) := heap_setCell_same h 1 u
theorem three_set1 (h : w.heap[b]? = some (.cells #[x, y, z] t (0, 0))) (u : Value) : (w.setCell ⟨b, 1, none⟩ u).heap[b]? = some (.cells #[x, u, z] t (0, 0)) := heap_setCell_same h 1 u
theorem heap_setCell_but {cs : Array Value} {fr : Nat × Nat} {p : Nat} (h : w.heap[b]? = some (.cells cs t fr)) (hp : b ≠ p) (i : Nat) (u : Value) : (w.setCell ⟨p, i, none⟩ u).heap[b]? = some (.cells cs t fr) := by
  rw [Below.heap_setCell _ _ _ _ hp]; exact h
end

theorem ownsMap_tight {H : Type} {w : World} {P : Program} {k : TypeId} {R : Value → Option (DataW H × List MemPlace)} {b n : Nat} {D : DataW H} (h : w.ownsMap P k R b n D) : w.ownsMap P k R b (Maps.size D) D := by
  obtain ⟨es, clock, hb, F, _, rfl⟩ := h
  exact ⟨es, clock, hb, F, by simp [Maps.size, length_sorted], rfl⟩

end Go.Proofs.Ytmmddkddjiodbaa
