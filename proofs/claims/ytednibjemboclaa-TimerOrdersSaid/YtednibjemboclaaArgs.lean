/- What is proved here: how the things, and the calls, that come in are read. -/
import Derived.Test.YtednibjemboclaaAwake
import Derived.Deep.Slices
import Derived.Deep.Fields
import Derived.SizedLaws
import Derived.ChangeSlices
import Derived.ChangeArms
import Derived.OpenShut
namespace Go.Proofs.Ytednibjemboclaa
open Go Go.RowKit Go.ChangeShapes Go.WideShapes Go.Deep

/-- A slice of structs of k numbers that came in. -/
structure KRd (w : World) (k : Nat) (A : Option Addr) (n c : Nat) (l : List (List Int)) : Prop where
  len : l.length = n
  cap : n ≤ c
  max : c ≤ maxLen
  nil : A = none → n = 0 ∧ c = 0
  place : ∀ j r, l[j]? = some r → r.length = k ∧ (∀ x ∈ r, wfk x) ∧ ∃ b o, A = some ⟨b, o, none⟩ ∧ b < w.heap.size ∧ ∀ i u, r[i]? = some u → w.cell? ⟨b, o + (j * k + i), none⟩ = some (.int .i64 u)
section
variable {H : Type} {enc : TypeId × Value → H} {w : World} {spare : Nat → Bool} {held : Bool} {base : Nat}
theorem one_num {t : TypeId} {fuel : Nat} {v : Value} {x : DataW H × List MemPlace} (ht : Try.prog.underlying t = some (.int .i64)) (h : DataW.trod enc Try.prog w base spare held fuel t [v] = some x) : ∃ n : Int, v = .int .i64 n ∧ wfk n := by
  obtain ⟨n, hcs, _, hwf⟩ := DataW.trod_int ht h
  simp at hcs
  exact ⟨n, hcs, bounds_i64 hwf⟩
theorem add_form {a : Addr} {u : Value} (h : w.cell? (a.add 0) = some u) : a = ⟨a.block, a.off, none⟩ := by
  obtain ⟨b, o, sp⟩ := a
  cases sp with
  | none => rfl
  | some x =>
    exfalso
    unfold World.cell? at h
    simp [Addr.add] at h
    split at h
    · cases h
    · cases h
theorem list_two {α : Type} {l : List α} (h : l.length = 2) : ∃ a b, l = [a, b] := by
  match l, h with
  | [a, b], _ => exact ⟨a, b, rfl⟩
theorem list_three {α : Type} {l : List α} (h : l.length = 3) : ∃ a b c, l = [a, b, c] := by
  match l, h with
  | [a, b, c], _ => exact ⟨a, b, c, rfl⟩
theorem item_of_trod {fuel : Nat} {cs : List Value} {x : DataW H × List MemPlace} (h : DataW.trod enc Try.prog w base (fun _ => true) held fuel 44 cs = some x) : ∃ r : List Int, r.length = 2 ∧ (∀ x ∈ r, wfk x) ∧ cs = r.map (Value.int .i64) := by
  obtain ⟨xs, n, _, hx, hlen, hxl, hg⟩ := DataW.trod_struct Try.underlying44 h
  have hC : Try.prog.cellsOf 44 = 2 := by kernel_rfl
  obtain ⟨v0, v1, rfl⟩ := list_two (hlen.trans hC)
  obtain ⟨y0, y1, rfl⟩ := list_two hxl
  have k3 : Try.prog.cellsOf 3 = 1 := by kernel_rfl
  have g0 := hg 0 _ rfl
  have g1 := hg 1 _ rfl
  simp [k3] at g0 g1
  obtain ⟨n0, rfl, i0⟩ := one_num Try.underlying3 g0
  obtain ⟨n1, rfl, i1⟩ := one_num Try.underlying3 g1
  refine ⟨[n0, n1], rfl, fun x hx => ?_, rfl⟩
  simp at hx
  rcases hx with rfl | rfl
  · exact i0
  · exact i1
theorem op_of_trod {fuel : Nat} {cs : List Value} {x : DataW H × List MemPlace} (h : DataW.trod enc Try.prog w base (fun _ => true) held fuel 28 cs = some x) : ∃ r : List Int, r.length = 3 ∧ (∀ x ∈ r, wfk x) ∧ cs = r.map (Value.int .i64) := by
  obtain ⟨xs, n, _, hx, hlen, hxl, hg⟩ := DataW.trod_struct Try.underlying28 h
  have hC : Try.prog.cellsOf 28 = 3 := by kernel_rfl
  obtain ⟨v0, v1, v2, rfl⟩ := list_three (hlen.trans hC)
  obtain ⟨y0, y1, y2, rfl⟩ := list_three hxl
  have k3 : Try.prog.cellsOf 3 = 1 := by kernel_rfl
  have g0 := hg 0 _ rfl
  have g1 := hg 1 _ rfl
  have g2 := hg 2 _ rfl
  simp [k3] at g0 g1 g2
  obtain ⟨n0, rfl, i0⟩ := one_num Try.underlying3 g0
  obtain ⟨n1, rfl, i1⟩ := one_num Try.underlying3 g1
  obtain ⟨n2, rfl, i2⟩ := one_num Try.underlying3 g2
  refine ⟨[n0, n1, n2], rfl, fun x hx => ?_, rfl⟩
  simp at hx
  rcases hx with rfl | rfl | rfl
  · exact i0
  · exact i1
  · exact i2
theorem structs_in {t e : TypeId} {k : Nat} (hk : 0 < k) (hu : Try.prog.underlying t = some (.slice e)) (hC : Try.prog.cellsOf e = k) (hone : ∀ fuel cs x, DataW.trod enc Try.prog w base (fun _ => true) held fuel e cs = some x → ∃ r : List Int, r.length = k ∧ (∀ x ∈ r, wfk x) ∧ cs = r.map (Value.int .i64))
    {fuel : Nat} {v : Value} {x : DataW H × List MemPlace} (h : DataW.trod enc Try.prog w base (fun _ => true) held fuel t [v] = some x) : ∃ A n c l, v = .slice A n c ∧ KRd w k A n c l := by
  rcases open_slice hu h with ⟨hcs, _⟩ | ⟨a, len, cap, m, n, D, Pl, hcs, _, hl, hm, hmm, hx, hi⟩
  · simp at hcs
    subst hcs
    exact ⟨none, 0, 0, [], rfl, rfl, Nat.le_refl _, Nat.zero_le _, fun _ => ⟨rfl, rfl⟩, fun j p hj => by simp at hj⟩
  · simp at hcs
    subst hcs
    simp only [if_true] at hmm
    have key0 : ∀ i, i < len → ∃ r : List Int, r.length = k ∧ (∀ x ∈ r, wfk x) ∧ ∀ j u, r[j]? = some u → w.cell? (a.add (i * k + j)) = some (.int .i64 u) := by
      intro i hil
      obtain ⟨cs', hc, ht⟩ := hi i (by omega)
      obtain ⟨_, hcl, hat⟩ := World.cells?_some hc
      obtain ⟨r, hr, hwf, hcs'⟩ := hone _ _ _ ht
      rw [hC] at hat
      refine ⟨r, hr, hwf, fun j u hu => ?_⟩
      have hj : j < k := by rw [← hr]; exact (List.getElem?_eq_some_iff.1 hu).1
      have := hat j hj
      rw [add_add, hcs', List.getElem?_map, hu] at this
      exact this
    have hform : 0 < len → a = ⟨a.block, a.off, none⟩ := fun h0 => by
      obtain ⟨r, hr, _, hp⟩ := key0 0 h0
      have h1 : r[0]? = some (r[0]'(by omega)) := List.getElem?_eq_getElem (by omega)
      have h2 := hp 0 _ h1
      rw [Nat.zero_mul, Nat.zero_add] at h2
      exact add_form h2
    have key : ∀ i, i < len → ∃ r : List Int, r.length = k ∧ (∀ x ∈ r, wfk x) ∧ a = ⟨a.block, a.off, none⟩ ∧ a.block < w.heap.size ∧ ∀ j u, r[j]? = some u → w.cell? ⟨a.block, a.off + (i * k + j), none⟩ = some (.int .i64 u) := by
      intro i hil
      obtain ⟨r, hr, hwf, hp⟩ := key0 i hil
      have hfm := hform (by omega)
      have hcell : ∀ j u, r[j]? = some u → w.cell? ⟨a.block, a.off + (i * k + j), none⟩ = some (.int .i64 u) := fun j u hu => by
        have := hp j u hu
        rw [hfm, Addr.add_lit] at this
        exact this
      have h1 : r[0]? = some (r[0]'(by omega)) := List.getElem?_eq_getElem (by omega)
      exact ⟨r, hr, hwf, hfm, World.block_lt_of_cell? w ⟨a.block, a.off + (i * k + 0), none⟩ (hcell 0 _ h1), hcell⟩
    obtain ⟨f, hf⟩ := choose_lt key
    refine ⟨some a, len, cap, (List.range len).map f, rfl, by simp, hl, hm, (fun e => by cases e), fun j p hj => ?_⟩
    rw [List.getElem?_map] at hj
    obtain ⟨i, hi', rfl⟩ := Option.map_eq_some_iff.1 hj
    obtain ⟨h1, h2⟩ := List.getElem?_eq_some_iff.1 hi'
    simp at h1 h2
    subst h2
    obtain ⟨q1, q2, e, hB, hc⟩ := hf j h1
    exact ⟨q1, q2, a.block, a.off, by rw [← e], hB, hc⟩
theorem items_in {fuel : Nat} {v : Value} {x : DataW H × List MemPlace} (h : DataW.trod enc Try.prog w base (fun _ => true) held fuel 26 [v] = some x) : ∃ A n c l, v = .slice A n c ∧ KRd w 2 A n c l :=
  structs_in (by omega) Try.underlying26 (by kernel_rfl) (fun _ _ _ ht => item_of_trod ht) h
theorem ops_in {fuel : Nat} {v : Value} {x : DataW H × List MemPlace} (h : DataW.trod enc Try.prog w base (fun _ => true) held fuel 22 [v] = some x) : ∃ A n c l, v = .slice A n c ∧ KRd w 3 A n c l :=
  structs_in (by omega) Try.underlying22 (by kernel_rfl) (fun _ _ _ ht => op_of_trod ht) h
end
/-- .. as a row of things. -/
def items (l : List (List Int)) : List It := l.map fun r => (r.getD 0 0, r.getD 1 0)
theorem KRd.items {w : World} {A : Option Addr} {n c : Nat} {l : List (List Int)} (h : KRd w 2 A n c l) : IRd w (fun k => k < w.heap.size) A n c (items l) ∧ ∀ x ∈ items l, wfk x.1 ∧ wfk x.2 := by
  have hat : ∀ j (hj : j < n), ∃ x y, l[j]? = some [x, y] ∧ g (Go.Proofs.Ytednibjemboclaa.items l) j = (x, y) ∧ wfk x ∧ wfk y := fun j hj => by
    have hjl : j < l.length := by rw [h.len]; exact hj
    obtain ⟨hr, hw, _⟩ := h.place j _ (List.getElem?_eq_getElem hjl)
    obtain ⟨x, y, e⟩ := list_two hr
    refine ⟨x, y, by rw [List.getElem?_eq_getElem hjl, e], ?_, hw x (by rw [e]; simp), hw y (by rw [e]; simp)⟩
    rw [← g_get (show j < (Go.Proofs.Ytednibjemboclaa.items l).length by simpa [Go.Proofs.Ytednibjemboclaa.items] using hjl)]
    simp [Go.Proofs.Ytednibjemboclaa.items, e]
  refine ⟨⟨by simpa [Go.Proofs.Ytednibjemboclaa.items] using h.len, h.cap, h.max, h.nil, fun j hj => ?_⟩, fun x hx => ?_⟩
  · obtain ⟨x, y, e, hg, _⟩ := hat j hj
    obtain ⟨_, _, b, o, hA, hb, hc⟩ := h.place j _ e
    rw [hg]
    exact ⟨b, o, hA, hb, hb, hc 0 x rfl, hc 1 y rfl⟩
  · obtain ⟨j, hj, rfl⟩ := mem_g hx
    have hj' : j < n := by simp [Go.Proofs.Ytednibjemboclaa.items] at hj; rw [← h.len]; exact hj
    obtain ⟨x, y, _, hg, h1, h2⟩ := hat j hj'
    rw [hg]
    exact ⟨h1, h2⟩
end Go.Proofs.Ytednibjemboclaa
