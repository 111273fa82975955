/- What is proved here: plain facts on rows of numbers in memory, and on their bytes. -/
import Derived.Test.YtkdncnhjlgidnaaGreatDoorReader
import Derived.OpenShut
namespace Go.Proofs.YtkdncnhjlgidnaaGreatDoor
open Go Go.RowKit

theorem Rd.lit (w : World) (k : IntKind) (t : TypeId) (xs : List Int) (hl : xs.length ≤ maxLen) : Rd (w.alloc (.cells (xs.map (Value.int k)).toArray t)) (w.heap.size + 1) k (some ⟨w.heap.size, 0, none⟩) xs.length xs.length xs :=
  ⟨rfl, Nat.le_refl _, hl, (fun h => by cases h), fun j u hu => ⟨w.heap.size, 0, rfl, Nat.lt_succ_self _, by
    rw [Nat.zero_add, cell_of_row _ _ _ _ _ _ (heap_alloc_new w _)]
    simp [hu]⟩⟩
theorem below_grow {w w' : World} {g B : Nat} (h : w.grownBy w' (some g)) (hg : B ≤ g) (hB : B ≤ w.heap.size) : Below B w w' :=
  (Below.refl _ _).grown h hB (fun k hk => by injection hk with hk; omega)
theorem example_enc : enc 300 = [172, 2] := by
  rw [enc_big (by decide), enc_small (by decide)]
  rfl
theorem example_three : enc 3 = [3] := enc_small (by decide)

theorem enc_eq (n m : Nat) : decide (enc n = enc m) = decide (n = m) := by
  by_cases h : n = m
  · subst h; simp
  · rw [decide_eq_false h, decide_eq_false]
    intro e
    exact h (enc_inj n m [] [] (by rw [List.append_nil, List.append_nil]; exact e)).1
theorem text_eq (s t : ByteArray) : decide (enc s.size ++ nums s = enc t.size ++ nums t) = (s.toList == t.toList) := by
  by_cases h : s = t
  · subst h; simp
  · rw [decide_eq_false, eq_comm, beq_eq_false_iff_ne]
    · intro e
      rw [ByteArray.toList_eq, ByteArray.toList_eq] at e
      apply h
      cases s; cases t
      simpa using e
    · intro e
      exact h (nums_inj (enc_inj _ _ _ _ e).2)
theorem app_bytes {xs ys : List Int} (hx : ∀ x ∈ xs, 0 ≤ x ∧ x < 256) (hy : ∀ x ∈ ys, 0 ≤ x ∧ x < 256) : ∀ x ∈ xs ++ ys, 0 ≤ x ∧ x < 256 := by
  intro x h
  rcases List.mem_append.1 h with h | h
  · exact hx x h
  · exact hy x h

theorem Rd.of_own' {w : World} {base e n : Nat} {k : IntKind} {v : Value} {xs : List Int} (h : w.ownsRow base e 1 v n (xs.map (Value.int k))) : ∃ A n c, v = .slice A n c ∧ Rd w w.heap.size k A n c xs := by
  obtain ⟨A, c, hv, hr⟩ := Rd.of_own h
  exact ⟨A, n, c, hv, hr⟩
theorem num_same (n m : Int) (h : 0 ≤ n) (k : 0 ≤ m) : decide (enc n.toNat = enc m.toNat) = (n == m) := by
  rw [enc_eq, Bool.eq_iff_iff, decide_eq_true_iff, beq_iff_eq]
  omega
theorem num_yes (n m : Int) (h : n.toNat = m.toNat) : decide (enc n.toNat = enc m.toNat) = true := by rw [enc_eq, decide_eq_true_iff]; exact h
theorem num_not (n m : Int) (h : n.toNat ≠ m.toNat) : decide (enc n.toNat = enc m.toNat) = false := by rw [enc_eq, decide_eq_false_iff_not]; exact h

/-- What came in as a row reads as a list. -/
theorem Rd.of_row {w : World} {k : IntKind} {a : Option Addr} {len cap : Nat} {zs : List Int}
    (h : (a = none ∧ len = 0 ∧ cap = 0 ∧ zs = []) ∨ ∃ x, a = some x ∧ len ≤ cap ∧ cap ≤ maxLen ∧ zs.length = cap ∧ (∀ i, i < zs.length → w.cell? (x.add i) = some (.int k (zs.getD i 0))) ∧ ∀ n ∈ zs, (Lit.int k n).wf = true) :
    Rd w w.heap.size k a len cap (zs.take len) ∧ ∀ n ∈ zs.take len, (Lit.int k n).wf = true := by
  rcases h with ⟨rfl, rfl, rfl, rfl⟩ | ⟨x, rfl, hl, hm, hz, hc, hw⟩
  · exact ⟨Rd.none_ _ _ _, fun n hn => by simp at hn⟩
  · refine ⟨⟨by rw [List.length_take, hz]; omega, hl, hm, (fun h => by cases h), fun j u hu => ?_⟩, fun n hn => hw n (List.mem_of_mem_take hn)⟩
    have hj : j < zs.length := by
      have := (List.getElem?_eq_some_iff.1 hu).1
      rw [List.length_take] at this
      omega
    obtain ⟨b, o, rfl, hcell⟩ := ints_at hc (by omega)
    have h1 := hcell j hj
    refine ⟨b, o, rfl, World.block_lt_of_cell? w _ h1, ?_⟩
    rw [h1]
    rw [List.getElem?_take] at hu
    split at hu
    · rw [List.getD_eq_getElem?_getD, hu]
      rfl
    · cases hu
theorem wf_list {zs : List Int} (h : ∀ n ∈ zs, (Lit.int .i64 n).wf = true) : ∀ x ∈ zs, -9223372036854775808 ≤ x ∧ x ≤ 9223372036854775807 := fun x hx => bounds_i64 (h x hx)
theorem wf_bytes {zs : List Int} (h : ∀ n ∈ zs, (Lit.int .u8 n).wf = true) : ∀ x ∈ zs, 0 ≤ x ∧ x < 256 := fun x hx => by
  have := bounds_u8 (h x hx)
  omega

end Go.Proofs.YtkdncnhjlgidnaaGreatDoor
