/- What is proved here: the document's Read and the program's tell the same of any bytes. -/
import Derived.Test.YtkdncnhjlgidnaaDoorCRead10
import Derived.Test.YtkdncnhjlgidnaaDoorCAwake
namespace Go.Proofs.YtkdncnhjlgidnaaDoor
open Go Go.RowKit Go.Maps

theorem list_eleven : ∀ (l : List Nat), l.length = 11 → l = [l.getD 0 0, l.getD 1 0, l.getD 2 0, l.getD 3 0, l.getD 4 0, l.getD 5 0, l.getD 6 0, l.getD 7 0, l.getD 8 0, l.getD 9 0, l.getD 10 0]
  | [_, _, _, _, _, _, _, _, _, _, _], _ => rfl
theorem list_six : ∀ (l : List (List Int)), l.length = 6 → l = [l.getD 0 [], l.getD 1 [], l.getD 2 [], l.getD 3 [], l.getD 4 [], l.getD 5 []]
  | [_, _, _, _, _, _], _ => rfl
theorem raw_lens (K L : Nat) (xs : List Int) : (raw K L xs).ns.length = K ∧ (raw K L xs).ts.length = L ∧ (raw K L xs).bs.length = min (raw K L xs).many 10 :=
  ⟨rdN_len xs 0 0 K, rdT_len _ _ _ L, rdT_len _ _ _ _⟩
theorem nums_back {l : List Int} (h : ∀ x ∈ l, 0 ≤ x ∧ x < 256) : nums (strOfNums l) = l := strOfNums_eq (fun x hx => nums_bytes _ x hx) h (by rw [strOfNums_nums])
/-- The numbers and texts of a command that was read. -/
theorem got_rns (R : Raw) (bA : Option Addr) (bc : Nat) (hn : R.ns.length = 11) (h3 : ∀ v ∈ R.ns, v < 9223372036854775808) (h1 : R.ns.getD 10 0 ≤ 1) : (CM.gotR R bA bc).rns = R.ns := by
  have h := list_eleven R.ns hn
  have hv : R.ns.getD 3 0 < 9223372036854775808 := by
    rw [List.getD_eq_getElem?_getD, List.getElem?_eq_getElem (show 3 < R.ns.length by omega)]
    exact h3 _ (List.getElem_mem _)
  have hw : wrap64 (((R.ns.getD 3 0 : Nat) : Int) - 1 + 1) = (R.ns.getD 3 0 : Nat) := by unfold wrap64; omega
  have hf : (if (((R.ns.getD 10 0 : Nat) : Int) == (1 : Int)) = true then 1 else 0) = R.ns.getD 10 0 := by
    generalize R.ns.getD 10 0 = x at h1
    have : x = 0 ∨ x = 1 := by omega
    rcases this with rfl | rfl <;> rfl
  unfold CM.rns CM.gotR CM.of CM.shift CM.ns
  simp only [hw, hf, List.map_cons, List.map_nil, Int.toNat_natCast, List.cons_append, List.nil_append]
  exact h.symm
theorem got_rts (R : Raw) (bA : Option Addr) (bc : Nat) (ht : R.ts.length = 6) (hb : ∀ s ∈ R.ts, ∀ x ∈ s, 0 ≤ x ∧ x < 256) : (CM.gotR R bA bc).rts = R.ts := by
  have h := list_six R.ts ht
  have hx : ∀ i, i < 6 → nums (strOfNums (R.ts.getD i [])) = R.ts.getD i [] := fun i hi => nums_back (by
    rw [List.getD_eq_getElem?_getD, List.getElem?_eq_getElem (show i < R.ts.length by omega)]
    exact hb _ (List.getElem_mem _))
  unfold CM.rts CM.gotR CM.of CM.ts
  simp only [List.map_cons, List.map_nil, hx 0 (by omega), hx 1 (by omega), hx 2 (by omega), hx 3 (by omega), hx 4 (by omega), hx 5 (by omega)]
  exact h.symm
theorem got_bytes {R : Raw} {xs : List Int} (hR : raw 11 6 xs = R) (hb : ∀ x ∈ xs, 0 ≤ x ∧ x < 256) (h0 : R.why = 0) (hp : R.p = xs.length) (h1 : R.ns.getD 10 0 ≤ 1) (hm : R.many ≤ 10) : (CM.gotR R none 0).bytes (gotLR R) = xs := by
  have hk := raw_lens 11 6 xs
  have hbk := raw_back (K := 11) (L := 6) hb (by rw [hR]; exact h0)
  rw [hR] at hk hbk
  obtain ⟨l1, l2, l3⟩ := hk
  obtain ⟨b1, b2, b3, b4, b5⟩ := hbk
  have e1 : gotLR R = R.bs.map strOfNums := rfl
  have e2 : (R.bs.map strOfNums).map nums = R.bs := by
    rw [List.map_map]
    conv => rhs; rw [← List.map_id R.bs]
    exact List.map_congr_left fun s hs => nums_back (b5 s hs).1
  have e3 : (R.bs.map strOfNums).length = R.many := by rw [List.length_map, l3]; omega
  unfold CM.bytes
  rw [got_rns R none 0 l1 b2 h1, got_rts R none 0 l2 (fun s hs => (b4 s hs).1), e1, e2, e3, ← b1.2, hp, List.take_length]
theorem no_same {R : Raw} {xs : List Int} (hR : raw 11 6 xs = R) (hb : ∀ x ∈ xs, 0 ≤ x ∧ x < 256) :
    no10R R xs.length = noCmdR R xs ∧ (noCmdR R xs = 0 → (CM.gotR R none 0).right (gotLR R) = true ∧ (CM.gotR R none 0).bytes (gotLR R) = xs) := by
  have hk := raw_lens 11 6 xs
  have hok := raw_ok 11 6 xs
  rw [hR] at hk hok
  unfold no10R noCmdR
  by_cases h0 : R.why = 0
  · have hno : ¬ (R.why ≠ 0) := by omega
    simp only [if_neg hno]
    by_cases h1 : R.p < xs.length
    · simp only [if_pos h1]
      exact ⟨trivial, fun h => by omega⟩
    · simp only [if_neg h1]
      have hp : R.p = xs.length := by have := hok.1; omega
      by_cases h2 : 1 < R.ns.getD 10 0 ∨ 10 < R.many ∨ (CM.gotR R none 0).right (gotLR R) = false
      · rw [if_pos h2]
        have : ¬ ((CM.gotR R none 0).right (gotLR R) && decide ((CM.gotR R none 0).bytes (gotLR R) = xs)) = true := fun h => by
          rw [Bool.and_eq_true, decide_eq_true_eq] at h
          have hl : (gotLR R).length = (CM.gotR R none 0).bn := by show (R.bs.map strOfNums).length = R.bs.length; simp
          have hw := raw_bytes (CM.good h.1) hl []
          rw [List.append_nil, h.2, hR] at hw
          rcases h2 with h2 | h2 | h2
          · have e : (CM.gotR R none 0).rns.getD 10 0 = if (CM.gotR R none 0).ff then 1 else 0 := rfl
            have h5 : R.ns = (CM.gotR R none 0).rns := congrArg Raw.ns hw
            rw [h5, e] at h2
            split at h2 <;> omega
          · have h5 : R.many = (gotLR R).length := congrArg Raw.many hw
            have h6 := (CM.good h.1).few
            omega
          · rw [h2] at h; exact absurd h.1 (by decide)
        rw [if_neg this]
        exact ⟨rfl, fun h => by omega⟩
      · rw [if_neg h2]
        have hr : (CM.gotR R none 0).right (gotLR R) = true := by
          cases h : (CM.gotR R none 0).right (gotLR R)
          · exact absurd (.inr (.inr h)) h2
          · rfl
        have hbt := got_bytes hR hb h0 hp (by omega) (by omega)
        rw [hr, hbt, decide_eq_true rfl]
        exact ⟨rfl, fun _ => ⟨rfl, rfl⟩⟩
  · simp only [if_pos h0]
    exact ⟨trivial, fun h => absurd h h0⟩
end Go.Proofs.YtkdncnhjlgidnaaDoor
