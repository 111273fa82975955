/- What is proved here: what is read of bytes as an answer, by the document, and by the program; and that the law on it returns true. -/
import Derived.Test.YtkdncnhjlgidnaaGreatDoorABack
import Derived.Test.YtkdncnhjlgidnaaGreatDoorCRead10
import Derived.Test.YtkdncnhjlgidnaaGreatDoorCNum1
import Derived.Test.YtkdncnhjlgidnaaGreatDoorCRead
import Derived.Test.YtkdncnhjlgidnaaGreatDoorCRdr10
import Derived.Test.YtkdncnhjlgidnaaGreatDoorARight10
import Derived.Test.YtkdncnhjlgidnaaGreatDoorAAns
import Derived.Deep.DeepCutAuto
import Derived.Test.YtkdncnhjlgidnaaGreatDoorAWrite10
import Derived.Test.YtkdncnhjlgidnaaGreatDoorCAwake
namespace Go.Proofs.YtkdncnhjlgidnaaGreatDoor
open Go Go.RowKit

theorem nums_back {l : List Int} (h : ∀ x ∈ l, 0 ≤ x ∧ x < 256) : nums (strOfNums l) = l := strOfNums_eq (fun x hx => nums_bytes _ x hx) h (by rw [strOfNums_nums])
theorem rdN_le {xs : List Int} {q : Nat} : ∀ k, q ≤ (rdN xs q 0 k).2.1
  | 0 => Nat.le_refl _
  | k + 1 => by
    have ih := rdN_le (xs := xs) (q := q) k
    rw [rdN]
    refine Nat.le_trans ih ?_
    show (rdN xs q 0 k).2.1 ≤ (goNum xs (rdN xs q 0 k).2.1 (rdN xs q 0 k).2.2).2.1
    generalize rdN xs q 0 k = T
    unfold goNum
    split
    · split
      · exact Nat.le_add_right _ _
      · exact Nat.le_refl _
    · exact Nat.le_refl _
/-- Row of numbers behind so many of them. -/
theorem numsF_rdN {xs : List Int} {q : Nat} (hq : q ≤ xs.length) : ∀ (j k : Nat), (rdN xs q 0 j).2.2 = 0 → numsF (j + k) [] 0 (xs.drop q) = numsF k ((rdN xs q 0 j).1.map Int.ofNat) ((rdN xs q 0 j).2.1 - q) (xs.drop (rdN xs q 0 j).2.1)
  | 0, k, _ => by simp [rdN]
  | j + 1, k, h => by
    have h0 : (rdN xs q 0 j).2.2 = 0 := by
      by_cases h0 : (rdN xs q 0 j).2.2 = 0
      · exact h0
      · rw [rdN, goNum_stop h0] at h; exact absurd h h0
    have hle := rdN_le (xs := xs) (q := q) j
    rw [show j + 1 + k = j + (k + 1) by omega, numsF_rdN hq j (k + 1) h0]
    rw [rdN, h0] at h
    simp only at h
    rw [rdN, h0]
    generalize rdN xs q 0 j = T at *
    obtain ⟨L, p, y⟩ := T
    dsimp only at *
    unfold goNum at h ⊢
    rw [if_pos rfl] at h ⊢
    rcases numF_is 9 0 0 (xs.drop p) (by simp) (by omega) with ⟨v', u, e, hv, hu0, hul⟩ | ⟨er, e, he⟩
    · rw [numsF_on e, e, if_pos rfl]
      simp only [List.map_append, List.map_cons, List.map_nil, List.drop_drop]
      rw [show p - q + u = p + u - q by omega]
      rfl
    · rw [e, if_neg (by show ¬ er = 0; omega)] at h
      simp only at h
      omega
theorem numsF_rdN_no {xs : List Int} {q : Nat} (hq : q ≤ xs.length) {j v er : Nat} (h : (rdN xs q 0 j).2.2 = 0) (hj : j < v) (hg : (goNum xs (rdN xs q 0 j).2.1 0).2.2 = er) (he : er ≠ 0) : numsF v [] 0 (xs.drop q) = ([], 0, er) := by
  obtain ⟨k, rfl⟩ : ∃ k, v = j + (k + 1) := ⟨v - j - 1, by omega⟩
  rw [numsF_rdN hq j (k + 1) h]
  generalize rdN xs q 0 j = T at *
  obtain ⟨L, p, y⟩ := T
  dsimp only at *
  unfold goNum at hg
  rw [if_pos rfl] at hg
  rcases numF_is 9 0 0 (xs.drop p) (by simp) (by omega) with ⟨v', u, e, hv, hu0, hul⟩ | ⟨er', e, he'⟩
  · rw [e, if_pos rfl] at hg
    exact absurd hg.symm he
  · rw [e, if_neg (by show ¬ er' = 0; omega)] at hg
    simp only at hg
    subst hg
    exact numsF_no e he' _ _ _
theorem numF_of_goNum {xs : List Int} {p v q : Nat} (h : goNum xs p 0 = (v, q, 0)) : numF 9 0 0 (xs.drop p) = (v, q - p, 0) ∧ p ≤ q := by
  unfold goNum at h
  rw [if_pos rfl] at h
  rcases numF_is 9 0 0 (xs.drop p) (by simp) (by omega) with ⟨v', u, e, hv, hu0, hul⟩ | ⟨er, e, he⟩
  · rw [e, if_pos rfl] at h
    simp only [Prod.mk.injEq, and_true] at h
    obtain ⟨rfl, rfl⟩ := h
    rw [e]
    exact ⟨by rw [show p + u - p = u by omega], by omega⟩
  · rw [e, if_neg (by show ¬ er = 0; omega)] at h
    simp only [Prod.mk.injEq] at h
    omega
/-- A row of numbers whose length can't be read, or is too great. -/
theorem goNums_head {xs : List Int} {p er : Nat} {most : Int} (h : (goNum xs p 0).2.2 = er) (he : er ≠ 0) : goNums xs p 0 most = ([], p, er) := by
  unfold goNum at h
  rw [if_pos rfl] at h
  unfold goNums numsR
  rw [if_pos rfl]
  rcases numF_is 9 0 0 (xs.drop p) (by simp) (by omega) with ⟨v', u, e, hv, hu0, hul⟩ | ⟨er', e, he'⟩
  · rw [e, if_pos rfl] at h
    exact absurd h.symm he
  · rw [e, if_neg (by show ¬ er' = 0; omega)] at h
    simp only at h
    subst h
    simp only [e, if_neg (show ¬ er' = 0 from he)]
theorem goNums_much {xs : List Int} {p v q : Nat} {most : Int} (h : goNum xs p 0 = (v, q, 0)) (hm : most < v) : goNums xs p 0 most = ([], p, 2) := by
  obtain ⟨e, hq⟩ := numF_of_goNum h
  unfold goNums numsR
  rw [if_pos rfl, e]
  simp only [if_true, if_pos hm]
  rfl
theorem goNums_bad {xs : List Int} {p v q j er : Nat} {most : Int} (h : goNum xs p 0 = (v, q, 0)) (hm : (v : Int) ≤ most) (hq : q ≤ xs.length) (h0 : (rdN xs q 0 j).2.2 = 0) (hj : j < v) (hg : (goNum xs (rdN xs q 0 j).2.1 0).2.2 = er) (he : er ≠ 0) : goNums xs p 0 most = ([], p, er) := by
  obtain ⟨e, hpq⟩ := numF_of_goNum h
  unfold goNums numsR
  rw [if_pos rfl, e]
  simp only [if_true, if_neg (show ¬ most < (v : Int) by omega)]
  rw [show p + (q - p) = q by omega, numsF_rdN_no hq h0 hj hg he]
  rw [if_neg (by show ¬ er = 0; exact he)]
theorem goNums_good {xs : List Int} {p v q : Nat} {most : Int} (h : goNum xs p 0 = (v, q, 0)) (hm : (v : Int) ≤ most) (hq : q ≤ xs.length) (h0 : (rdN xs q 0 v).2.2 = 0) : goNums xs p 0 most = ((rdN xs q 0 v).1.map Int.ofNat, (rdN xs q 0 v).2.1, 0) := by
  obtain ⟨e, hpq⟩ := numF_of_goNum h
  have hle := rdN_le (xs := xs) (q := q) v
  have hf := numsF_rdN hq v 0 h0
  rw [Nat.add_zero] at hf
  unfold goNums numsR
  rw [if_pos rfl, e]
  simp only [if_true, if_neg (show ¬ most < (v : Int) by omega)]
  rw [show p + (q - p) = q by omega, hf]
  simp only [numsF, if_true]
  rw [show p + (q - p + ((rdN xs q 0 v).2.1 - q)) = (rdN xs q 0 v).2.1 by omega]
/-- What was read as a row of numbers is written as the bytes that were read. -/
theorem goNums_back {xs a I : List Int} {p p' : Nat} {most : Int} (hb : ∀ x ∈ xs, 0 ≤ x ∧ x < 256) (ha : At xs p a) (hN : goNums xs p 0 most = (I, p', 0)) :
    At xs p' (a ++ (enc I.length ++ encAll I)) ∧ (I.length : Int) ≤ most ∧ ∀ x ∈ I, 0 ≤ x ∧ x < 9223372036854775808 := by
  rcases goNum_cases xs p with ⟨v, q, h⟩ | h | h
  · obtain ⟨m1, m2⟩ := goNum_back hb ha h
    by_cases hm : most < (v : Int)
    · rw [goNums_much h hm] at hN; simp only [Prod.mk.injEq] at hN; omega
    · by_cases h0 : (rdN xs q 0 v).2.2 = 0
      · rw [goNums_good h (by omega) m1.1 h0] at hN
        simp only [Prod.mk.injEq, and_true] at hN
        obtain ⟨rfl, rfl⟩ := hN
        obtain ⟨_, n1, n2⟩ := rdN_back hb m1 0 v h0
        have hl : (rdN xs q 0 v).1.length = v := rdN_len xs q 0 v
        refine ⟨?_, by rw [List.length_map, hl]; omega, fun x hx => ?_⟩
        · have e : encAll ((rdN xs q 0 v).1.map Int.ofNat) = encN (rdN xs q 0 v).1 := by
            unfold encAll encN
            rw [List.flatMap_map]
            rfl
          rw [List.length_map, hl, e, ← List.append_assoc]
          exact n1
        · obtain ⟨y, hy, rfl⟩ := List.mem_map.1 hx
          have := n2 y hy
          show (0 : Int) ≤ (y : Int) ∧ (y : Int) < _
          omega
      · exfalso
        have : ∀ k, k ≤ v → (rdN xs q 0 k).2.2 ≠ 0 → goNums xs p 0 most = ([], p, (rdN xs q 0 k).2.2) := fun k => by
          induction k with
          | zero => intro _ h; exact absurd rfl h
          | succ k ih =>
            intro hk h2
            by_cases h3 : (rdN xs q 0 k).2.2 = 0
            · refine goNums_bad h (by omega) m1.1 h3 (by omega) ?_ h2
              rw [rdN, h3]
            · rw [rdN, goNum_stop h3]
              exact ih (by omega) h3
        rw [this v (Nat.le_refl _) h0] at hN
        simp only [Prod.mk.injEq] at hN
        exact h0 hN.2.2
  · rw [goNums_head (er := 2) (by rw [h]) (by omega)] at hN; simp only [Prod.mk.injEq] at hN; omega
  · rw [goNums_head (er := 3) (by rw [h]) (by omega)] at hN; simp only [Prod.mk.injEq] at hN; omega
theorem goNum_zero {xs : List Int} {p y : Nat} (h : (goNum xs p y).2.2 = 0) : y = 0 ∧ goNum xs p 0 = ((goNum xs p y).1, (goNum xs p y).2.1, 0) := by
  by_cases h0 : y = 0
  · subst h0
    exact ⟨rfl, Prod.ext rfl (Prod.ext rfl h)⟩
  · rw [goNum_stop h0] at h
    exact absurd h h0
theorem goText_zero {xs : List Int} {p y : Nat} {most : Int} (h : (goText xs p y most).2.2 = 0) : y = 0 ∧ goText xs p 0 most = ((goText xs p y most).1, (goText xs p y most).2.1, 0) := by
  by_cases h0 : y = 0
  · subst h0
    exact ⟨rfl, Prod.ext rfl (Prod.ext rfl h)⟩
  · rw [goText_stop h0] at h
    exact absurd h h0
theorem tkR_back {xs a : List Int} {p y : Nat} (hb : ∀ x ∈ xs, 0 ≤ x ∧ x < 256) (ha : At xs p a) (h : (tkR xs p y).2.2 = 0) : y = 0 ∧ At xs (tkR xs p y).2.1 (a ++ tkB (tkR xs p y).1) := by
  unfold tkR at h ⊢
  dsimp only at h ⊢
  obtain ⟨y4, e5⟩ := goText_zero h
  obtain ⟨y3, e4⟩ := goText_zero y4
  obtain ⟨y2, e3⟩ := goText_zero y3
  obtain ⟨y1, e2⟩ := goNum_zero y2
  obtain ⟨y0, e1⟩ := goNum_zero y1
  obtain ⟨h1, v1⟩ := goNum_back hb ha e1
  obtain ⟨h2, v2⟩ := goNum_back hb h1 e2
  obtain ⟨h3, b3, _⟩ := goText_back hb h2 e3
  obtain ⟨h4, b4, _⟩ := goText_back hb h3 e4
  obtain ⟨h5, b5, _⟩ := goText_back hb h4 e5
  refine ⟨y0, ?_⟩
  unfold tkB
  dsimp only
  rw [nums_back b3, nums_back b4, nums_back b5, Int.toNat_natCast, Int.toNat_natCast]
  simp only [List.append_assoc] at h5 ⊢
  exact h5
theorem rdK_back {xs a : List Int} {p : Nat} (hb : ∀ x ∈ xs, 0 ≤ x ∧ x < 256) (ha : At xs p a) (why : Nat) : ∀ k, (rdK xs p why k).2.2 = 0 → why = 0 ∧ At xs (rdK xs p why k).2.1 (a ++ (rdK xs p why k).1.flatMap tkB)
  | 0, h => ⟨h, by simpa [rdK] using ha⟩
  | k + 1, h => by
    rw [rdK] at h ⊢
    dsimp only at h ⊢
    have hy : (rdK xs p why k).2.2 = 0 := by
      by_cases h0 : (rdK xs p why k).2.2 = 0
      · exact h0
      · exfalso
        unfold tkR at h
        dsimp only at h
        exact h0 (goNum_zero (goNum_zero (goText_zero (goText_zero (goText_zero h).1).1).1).1).1
    obtain ⟨y0, ih⟩ := rdK_back hb ha why k hy
    obtain ⟨_, h2⟩ := tkR_back hb ih h
    refine ⟨y0, ?_⟩
    rw [List.flatMap_append, List.flatMap_cons, List.flatMap_nil, List.append_nil, ← List.append_assoc]
    exact h2
/-- Why the document has no answer of bytes; 0 if it has one. -/
def noA (R : ARaw) (n : Nat) : Nat := if R.why ≠ 0 then R.why else if R.p < n then 2 else if 10 < R.many ∨ aRight R.cd R.ids R.tks = false then 2 else 0
theorem araw_took {R : ARaw} {xs : List Int} (hR : araw xs = R) (hb : ∀ x ∈ xs, 0 ≤ x ∧ x < 256) (h0 : R.why = 0) (hp : R.p = xs.length) (hm : R.many ≤ 10) : aBytes R.cd R.ids R.tks = xs := by
  subst hR
  unfold araw at *
  dsimp only at *
  generalize hc : goNum xs 0 0 = C at *
  generalize hi : goNums xs C.2.1 C.2.2 10 = I at *
  generalize hM : goNum xs I.2.1 I.2.2 = M at *
  have hM2 : M.2.2 = 0 := by
    by_cases h : M.2.2 = 0
    · exact h
    · exfalso
      have : ∀ k, (rdK xs M.2.1 M.2.2 k).2.2 = M.2.2 := fun k => by
        induction k with
        | zero => rfl
        | succ k ih =>
          rw [rdK]
          dsimp only
          rw [ih]
          unfold tkR
          dsimp only
          rw [goNum_stop h, goNum_stop h, goText_stop h, goText_stop h, goText_stop h]
      rw [this] at h0
      exact h h0
  have hI2 : I.2.2 = 0 := by
    rw [← hM] at hM2
    exact (goNum_zero hM2).1
  have hC2 : C.2.2 = 0 := by
    by_cases h : C.2.2 = 0
    · exact h
    · rw [goNums_stop h] at hi
      rw [← hi] at hI2
      exact absurd hI2 h
  obtain ⟨h1, v1⟩ := goNum_back (v := C.1) (p' := C.2.1) hb (At.zero xs) (by rw [hc]; exact Prod.ext rfl (Prod.ext rfl hC2))
  rw [hC2] at hi
  obtain ⟨h2, v2, v3⟩ := goNums_back (I := I.1) (p' := I.2.1) hb h1 (by rw [hi]; exact Prod.ext rfl (Prod.ext rfl hI2))
  rw [hI2] at hM
  obtain ⟨h3, v4⟩ := goNum_back (v := M.1) (p' := M.2.1) hb h2 (by rw [hM]; exact Prod.ext rfl (Prod.ext rfl hM2))
  obtain ⟨_, h4⟩ := rdK_back hb h3 M.2.2 _ h0
  have hl := rdK_len xs M.2.1 M.2.2 (min M.1 10)
  unfold aBytes aHead
  rw [Int.toNat_natCast, hl, show min M.1 10 = M.1 by omega]
  rw [hp] at h4
  have h5 := h4.2
  rw [List.take_length, show min M.1 10 = M.1 by omega] at h5
  simp only [List.nil_append] at h5
  exact h5.symm
theorem tells_no {R : ARaw} {xs : List Int} (hR : araw xs = R) (hb : ∀ x ∈ xs, 0 ≤ x ∧ x < 256) :
    noA R xs.length = whyA xs R.p R.why R.cd R.ids R.tks ∧ (noA R xs.length = 0 → aRight R.cd R.ids R.tks = true ∧ aBytes R.cd R.ids R.tks = xs) := by
  have hok : R.p ≤ xs.length := by
    rw [← hR]
    have h1 : (goNum xs 0 0).2.1 ≤ xs.length ∧ Ok3 (goNum xs 0 0).2.2 := ⟨goNum_le (Nat.zero_le _), goNum_ok3 (.inl rfl)⟩
    have h2 := goNums_ok (most := 10) h1.1 h1.2
    have h3 : (goNum xs (goNums xs (goNum xs 0 0).2.1 (goNum xs 0 0).2.2 10).2.1 (goNums xs (goNum xs 0 0).2.1 (goNum xs 0 0).2.2 10).2.2).2.1 ≤ xs.length ∧ Ok3 (goNum xs (goNums xs (goNum xs 0 0).2.1 (goNum xs 0 0).2.2 10).2.1 (goNums xs (goNum xs 0 0).2.1 (goNum xs 0 0).2.2 10).2.2).2.2 := ⟨goNum_le h2.1, goNum_ok3 h2.2⟩
    exact (rdK_ok h3.1 h3.2 _).1
  unfold noA whyA
  by_cases h0 : R.why = 0
  · have hno : ¬ (R.why ≠ 0) := by omega
    simp only [if_neg hno]
    by_cases h1 : R.p < xs.length
    · simp only [if_pos h1]
      exact ⟨trivial, fun h => by omega⟩
    · simp only [if_neg h1]
      have hp : R.p = xs.length := by omega
      by_cases h2 : 10 < R.many ∨ aRight R.cd R.ids R.tks = false
      · rw [if_pos h2]
        have : ¬ (aRight R.cd R.ids R.tks && decide (aBytes R.cd R.ids R.tks = xs)) = true := fun h => by
          rw [Bool.and_eq_true, decide_eq_true_eq] at h
          have hw := araw_back h.1
          rw [h.2, hR] at hw
          rcases h2 with h2 | h2
          · have h5 : R.many = R.tks.length := congrArg ARaw.many hw
            have h6 := (aGood h.1).few
            omega
          · rw [h2] at h; exact absurd h.1 (by decide)
        rw [if_neg this]
        exact ⟨rfl, fun h => by omega⟩
      · rw [if_neg h2]
        have hr : aRight R.cd R.ids R.tks = true := by
          cases h : aRight R.cd R.ids R.tks
          · exact absurd (.inr h) h2
          · rfl
        have hbt := araw_took hR hb h0 hp (by omega)
        rw [hr, hbt, decide_eq_true rfl]
        exact ⟨rfl, fun _ => ⟨rfl, rfl⟩⟩
  · simp only [if_pos h0]
    exact ⟨trivial, fun h => absurd h h0⟩
end Go.Proofs.YtkdncnhjlgidnaaGreatDoor

namespace Go.Proofs.YtkdncnhjlgidnaaGreatDoor
open Go Go.RowKit Go.Maps

theorem info_int1 : (Tryz.prog.info? 3).map (fun i => (i.zero, i.size, i.bytes)) = some (some (.int .i64 0), 1, 8) := by kernel_rfl
theorem info_int0 : ∃ i, Tryz.prog.info? 3 = some i ∧ i.zero = some (.int .i64 0) ∧ i.size = 1 ∧ i.bytes = 8 := by
  obtain ⟨i, h1, h2⟩ := Option.map_eq_some_iff.1 info_int1
  simp only [Prod.mk.injEq] at h2
  exact ⟨i, h1, h2.1, h2.2.1, h2.2.2⟩
/-- What ReadNums answers. -/
def NumsSaid (w : World) (T : List Int × Nat × Nat) (e : Ending) (w' : World) : Prop :=
  ∃ (A' : Option Addr) (c k : Nat), e = .returned (.tuple #[.slice A' k c, .int .i64 T.2.1, .int .i64 T.2.2]) ∧ k = T.1.length ∧ w'.ownsRow w.heap.size 3 1 (.slice A' k c) k (T.1.map (Value.int .i64)) ∧ Below w.heap.size w w'
theorem NumsSaid.no {w w' : World} {T : List Int × Nat × Nat} {p er : Nat} (h : T = ([], p, er)) (hb : Below w.heap.size w w') : NumsSaid w T (.returned (.tuple #[.slice none 0 0, .int .i64 p, .int .i64 er])) w' := by
  subst h
  exact ⟨none, 0, 0, rfl, rfl, World.ownsRow_nil _ _ _ _, hb⟩

set_option maxHeartbeats 3200000 in
set_option maxRecDepth 100000 in
theorem ReadNums1_any (A : Option Addr) (n d : Nat) (xs : List Int) (p : Nat) (w : World) (h : Rd w w.heap.size .u8 A n d xs) (hx : ∀ x ∈ xs, 0 ≤ x ∧ x < 256) (hn : n ≤ 1000000) (hp : p ≤ n) :
    Calls Tryz.prog 21 #[.slice A n d, .int .i64 p, .int .i64 10] w (NumsSaid w (goNums xs p 0 10)) := by
  have hlen := h.len
  have HR := Lib.hid (fun (W : World) (q : Nat) (hW : Below w.heap.size w W) (hq : q ≤ n) => Read1_any A n d xs q W ((h.below hW).more hW.size) hx hn hq)
  have HLEN := Lib.hid hlen
  have hcs := goNum_cases xs p
  have HC : Hid (∀ q, (∃ v q', goNum xs q 0 = (v, q', 0)) ∨ goNum xs q 0 = (0, q, 2) ∨ goNum xs q 0 = (0, q, 3)) := Lib.hid (goNum_cases xs)
  obtain ⟨T, hT⟩ : ∃ T, T = goNums xs p 0 10 := ⟨_, rfl⟩
  rw [← hT]
  have HT := Lib.hid hT
  clear h hlen hx hT
  rcases hcs with ⟨v, q, hN⟩ | hN | hN
  · have hq := goNum_more hN (by rw [HLEN.out]; exact hp)
    rw [HLEN.out] at hq
    have HN := Lib.hid hN
    have HR1 := Lib.hid (HR.out w p (Below.refl _ _) hp)
    rw [hN] at HR1
    clear hN
    by_cases h1 : 10 < v
    · have HS : Hid (T = ([], p, 2)) := Lib.hid (HT.out.trans (goNums_much HN.out (by omega)))
      have h1z : (10 : Int) < v := by omega
      clear hq
      go_enter Tryz.func21, Tryz.ntmps21
      go_wp2_with (go_at_call 46; refine HR1.out.mono ?_; rintro e w1 ⟨rfl, hb⟩; have HB := Lib.hid hb; clear hb)
      go_ret3
      exact NumsSaid.no HS.out HB.out
    · have hm : ¬ (10 : Int) < v := by omega
      have HQ := Lib.hid hq
      clear hq
      obtain ⟨i0, hi, hz0, hz1, hz2⟩ := info_int0
      go_enter Tryz.func21, Tryz.ntmps21
      go_upto_region 6 with (go_at_call 46; refine HR1.out.mono ?_; rintro e w1 ⟨rfl, hb⟩; have HB := Lib.hid hb; clear hb)
      have hqz : (0 : Int) ≤ q := by omega
      go_wp2_with fail
      go_loopw [10, 12, 13] (fun v10 v12 v13 wr => ∃ (k pk : Nat) (bA : Option Addr) (c : Nat), k ≤ v ∧ v13 = .int .i64 k ∧ v12 = .slice bA k c ∧ v10 = .int .i64 pk ∧ Hid ((rdN xs q 0 k).2.2 = 0 ∧ (rdN xs q 0 k).2.1 = pk ∧ pk ≤ n) ∧ Hid (wr.ownsRow w.heap.size 3 1 (.slice bA k c) k (((rdN xs q 0 k).1.map Int.ofNat).map (Value.int .i64))) ∧ Hid (Below w.heap.size w wr)) (fun _ _ i _ => v - (intOf i).toNat)
      case atStart => exact ⟨0, q, none, 0, Nat.zero_le _, rfl, rfl, rfl, Lib.hid ⟨rfl, rfl, HQ.out.1⟩, Lib.hid (World.ownsRow_nil _ _ _ _), HB⟩
      case round =>
        obtain ⟨k, pk, bA, c, hk, rfl, rfl, rfl, hst, hrow, hbr⟩ := hrel
        clear HB
        by_cases hlt : k < v
        · have hkz : (k : Int) < v := by omega
          have w3 : IntKind.i64.wrap ((k : Int) + 1) = k + 1 := IntWalk.i64_in _ (by omega)
          have HP := Lib.hid (HR.out wr pk hbr.out hst.out.2.2)
          rcases HC.out pk with ⟨x, q', hN2⟩ | hN2 | hN2
          · rw [hN2] at HP
            have HN2 := Lib.hid hN2
            have HQ2 : Hid (q' ≤ n) := Lib.hid (by
              have := (goNum_more hN2 (by rw [HLEN.out]; exact hst.out.2.2)).1
              rw [HLEN.out] at this; exact this)
            clear hN2
            go_upto_region 13 with (go_at_call 46; refine HP.out.mono ?_; rintro e w1 ⟨rfl, hb⟩
                                    have HB2 := Lib.hid (hbr.out.trans (hb.mono hbr.out.size))
                                    have HO2 := Lib.hid (own_chg hrow.out (Chg.of_below (Φ := fun _ => False) hb) fun _ _ h => h)
                                    clear hb)
            have HNW := Lib.hid (news_new w1 (.int .i64 x) 3)
            go_wp2_with (with_reducible refine at_dst (o := ⟨some 51, _, _, _, _, _⟩) (some 51) rfl ?_
                         refine wpList_append_src rfl (.tmp 48) (.tmp 50) 24 rfl w.heap.size 3 i0 _ 1 8 Tryz.underlying24 hi hz0 hz1 hz2 rfl (by omega) (.slice bA k c) k _ rfl (HO2.out.alloc _) (some ⟨w1.heap.size, 0, none⟩) 1 1 [.int .i64 x] rfl rfl (fun h => by cases h) HNW.out (by intro u hu; rw [List.mem_singleton.1 hu]; rfl) (by unfold maxLen; omega) (by omega) (by have := HB2.out.size; simp; omega) ?_
                         intro v7 w7 ho7 hg7
                         obtain ⟨g7, c7, rfl, hgb, _⟩ := ho7.form (by omega)
                         have HO7 := Lib.hid ho7
                         have HB7 : Hid (Below w.heap.size w w7) := Lib.hid ((HB2.out.alloc (by simpa using HB2.out.size) _).trans ((Chg.of_grown hg7).below (by have := HB2.out.size; simp; omega) (fun q e => (HO2.out.lt q e).1)))
                         clear ho7 hg7 hgb)
            go_roundw
            case rel =>
              refine ⟨k + 1, q', some ⟨g7, 0, none⟩, c7, by omega, by go_num, by go_num, rfl, Lib.hid ?_, Lib.hid ?_, HB7⟩
              · rw [rdN, hst.out.1, hst.out.2.1, HN2.out]
                exact ⟨rfl, rfl, HQ2.out⟩
              · rw [rdN, hst.out.1, hst.out.2.1, HN2.out, List.map_append, List.map_append]
                exact HO7.out
            case measure => simp [intOf]; omega
          · rw [hN2] at HP
            have HS : Hid (T = ([], p, 2)) := Lib.hid (HT.out.trans (goNums_bad HN.out (by omega) (by rw [HLEN.out]; exact HQ.out.1) hst.out.1 hlt (by rw [hst.out.2.1, hN2]) (by omega)))
            clear hN2
            go_wp2_with (go_at_call 46; refine HP.out.mono ?_; rintro e w1 ⟨rfl, hb⟩
                         have HB2 := Lib.hid (hbr.out.trans (hb.mono hbr.out.size))
                         clear hb)
            go_ret3
            exact NumsSaid.no HS.out HB2.out
          · rw [hN2] at HP
            have HS : Hid (T = ([], p, 3)) := Lib.hid (HT.out.trans (goNums_bad HN.out (by omega) (by rw [HLEN.out]; exact HQ.out.1) hst.out.1 hlt (by rw [hst.out.2.1, hN2]) (by omega)))
            clear hN2
            go_wp2_with (go_at_call 46; refine HP.out.mono ?_; rintro e w1 ⟨rfl, hb⟩
                         have HB2 := Lib.hid (hbr.out.trans (hb.mono hbr.out.size))
                         clear hb)
            go_ret3
            exact NumsSaid.no HS.out HB2.out
        · obtain rfl : k = v := by omega
          have HS : Hid (T = ((rdN xs q 0 k).1.map Int.ofNat, pk, 0)) := Lib.hid (by rw [HT.out, goNums_good HN.out (by omega) (by rw [HLEN.out]; exact HQ.out.1) hst.out.1, hst.out.2.1])
          have HL := Lib.hid (rdN_len xs q 0 k)
          go_wp2_with fail
          go_ret3
          exact ⟨bA, c, k, by rw [HS.out]; rfl, by rw [HS.out]; simp [HL.out], by rw [HS.out]; exact hrow.out, hbr.out⟩
  · have HS : Hid (T = ([], p, 2)) := Lib.hid (HT.out.trans (goNums_head (er := 2) (by rw [hN]) (by omega)))
    have HR1 := Lib.hid (HR.out w p (Below.refl _ _) hp)
    rw [hN] at HR1
    clear hN
    go_enter Tryz.func21, Tryz.ntmps21
    go_wp2_with (go_at_call 46; refine HR1.out.mono ?_; rintro e w1 ⟨rfl, hb⟩; have HB := Lib.hid hb; clear hb)
    go_ret3
    exact NumsSaid.no HS.out HB.out
  · have HS : Hid (T = ([], p, 3)) := Lib.hid (HT.out.trans (goNums_head (er := 3) (by rw [hN]) (by omega)))
    have HR1 := Lib.hid (HR.out w p (Below.refl _ _) hp)
    rw [hN] at HR1
    clear hN
    go_enter Tryz.func21, Tryz.ntmps21
    go_wp2_with (go_at_call 46; refine HR1.out.mono ?_; rintro e w1 ⟨rfl, hb⟩; have HB := Lib.hid hb; clear hb)
    go_ret3
    exact NumsSaid.no HS.out HB.out
end Go.Proofs.YtkdncnhjlgidnaaGreatDoor

namespace Go.Proofs.YtkdncnhjlgidnaaGreatDoor
open Go Go.RowKit Go.Maps

section
variable {w W W1 : World} {L : List (Nat × TypeId × Array Value)} {b : Nat} {A : Option Addr} {n d p why c : Nat} {v : TypeId} {es : Array Value}
/-- The row that was filled ahead is filled again. -/
theorem RS.back {c' : Nat} {v' : TypeId} {es' : Array Value} (h : RS w ((c', v', es') :: L) b A n d p why c v es W) (hc : w.heap.size ≤ c') (hL : ∀ x ∈ L, x.1 ≠ c') : RS w L b A n d p why c' v' es' W :=
  ⟨h.bel, fun x hx => h.keep x (List.mem_cons_of_mem _ hx), h.rdr, h.keep _ (List.mem_cons_self ..), h.hb, hc, fun e => (h.out _ (List.mem_cons_self ..)).1 e.symm, fun x hx => ⟨(h.out x (List.mem_cons_of_mem _ hx)).1, hL x hx⟩⟩
theorem RS.place (h : RS w L b A n d p why c v es W) (p' why' : Nat) : RS w L b A n d p' why' c v es ((W.setCell ⟨b, 1, none⟩ (.int .i64 p')).setCell ⟨b, 2, none⟩ (.int .i64 why')) :=
  ⟨(h.bel.setCell h.hb _).setCell h.hb _, fun x hx => ((h.keep x hx).other (p := ⟨b, 1, none⟩) (h.out x hx).1 _).other (p := ⟨b, 2, none⟩) (h.out x hx).1 _,
    (h.rdr.set 1 _).set 2 _, (h.arr.other (p := ⟨b, 1, none⟩) h.ne.symm _).other (p := ⟨b, 2, none⟩) h.ne.symm _, h.hb, h.hc, h.ne, h.out⟩
end
theorem own_four {w : World} {base e s m g x i : Nat} {v : Value} {ys : List Value} {a b c d : Value} (h : w.ownsRow base e s v m ys) (hq : ∀ q, v.ownBlock = some q → q ≠ g ∧ q ≠ x) : ((((w.setCell ⟨g, 0, none⟩ a).setCell ⟨g, 1, none⟩ b).setCell ⟨g, 2, none⟩ c).setCell ⟨x, i, none⟩ d).ownsRow base e s v m ys :=
  (Chg.set _ x i d).own ((Chg.set _ g 2 c).own ((Chg.set _ g 1 b).own ((Chg.set w g 0 a).own h fun q k e => (hq q k).1 e) fun q k e => (hq q k).1 e) fun q k e => (hq q k).1 e) fun q k e => (hq q k).2 e
theorem noA_cases (R : ARaw) (n dn : Nat) (hd : dn = if R.why = 0 ∧ R.p < n then 2 else R.why) :
    (dn ≠ 0 → noA R n = dn) ∧ (dn = 0 → 10 < R.many ∨ aRight R.cd R.ids R.tks = false → noA R n = 2) ∧ (dn = 0 → ¬ 10 < R.many → aRight R.cd R.ids R.tks = true → noA R n = 0) := by
  unfold noA
  by_cases h0 : R.why = 0
  · by_cases h1 : R.p < n
    · rw [if_pos ⟨h0, h1⟩] at hd
      rw [if_neg (by omega), if_pos h1]
      exact ⟨fun _ => hd.symm, fun h => by omega, fun h => by omega⟩
    · rw [if_neg (by omega)] at hd
      rw [if_neg (by omega), if_neg h1]
      refine ⟨fun h => by omega, fun _ h => by rw [if_pos h], fun _ h2 h3 => ?_⟩
      rw [if_neg]
      rintro (h | h)
      · exact h2 h
      · rw [h3] at h; cases h
  · rw [if_neg (by omega)] at hd
    rw [if_pos h0]
    exact ⟨fun _ => hd.symm, fun h => by omega, fun h => by omega⟩
/-- What the document's ReadAnswer answers. -/
def TPost (R : ARaw) (n : Nat) (a : AM) (er : Nat) (w : World) : Prop :=
  (noA R n ≠ 0 ∧ a = AM.zero ∧ er = noA R n) ∨ (noA R n = 0 ∧ er = 0 ∧ a.cd = R.cd ∧ Rd w w.heap.size .i64 a.iA a.iN a.iC R.ids ∧ KRd w w.heap.size a.tA a.tN a.tC R.tks)
def TEnd (w : World) (R : ARaw) (n : Nat) (e : Ending) (w' : World) : Prop := ∃ (a : AM) (er : Nat), e = .returned (.tuple #[.agg a.cells, .int .i64 er]) ∧ Below w.heap.size w w' ∧ TPost R n a er w'
theorem info_k5 : (Tryz.prog.info? 68).map (·.size) = some 5 := by kernel_rfl
theorem info_k68 : ∃ i, Tryz.prog.info? 68 = some i ∧ i.zero = some (.agg TK.zero.cells) ∧ i.size = 5 ∧ i.bytes = 64 := by
  obtain ⟨i, h1, h2⟩ := Option.map_eq_some_iff.1 info_rtk
  simp only [Prod.mk.injEq] at h2
  exact ⟨i, h1, h2.1, h2.2.1, h2.2.2⟩

set_option maxHeartbeats 12800000 in
set_option maxRecDepth 100000 in
theorem ReadAnswer10_any (A : Option Addr) (n d : Nat) (xs : List Int) (w : World) (h : Rd w w.heap.size .u8 A n d xs) (hx : ∀ x ∈ xs, 0 ≤ x ∧ x < 256) (hn : n ≤ 1000000) (R : ARaw) (hR : araw xs = R) :
    Calls Tryz.prog 6 #[.slice A n d] w (TEnd w R n) := by
  have HNUM : Hid (∀ (W : World) (p why : Nat), Below w.heap.size w W → p ≤ n → Calls Tryz.prog 20 #[.agg #[.slice A n d, .int .i64 p, .int .i64 why]] W fun e w' => e = .returned (.tuple #[.agg #[.slice A n d, .int .i64 (goNum xs p why).2.1, .int .i64 (goNum xs p why).2.2], .int .i64 (goNum xs p why).1]) ∧ Below W.heap.size W w') :=
    Lib.hid fun W p why hW hp => num10_any A n d xs p why W ((h.below hW).more hW.size) hx hn hp
  have HTXT : Hid (∀ (W : World) (p why : Nat), Below w.heap.size w W → p ≤ n → Calls Tryz.prog 22 #[.agg #[.slice A n d, .int .i64 p, .int .i64 why]] W fun e w' => e = .returned (.tuple #[.agg #[.slice A n d, .int .i64 (goText xs p why 256).2.1, .int .i64 (goText xs p why 256).2.2], .string (strOfNums (goText xs p why 256).1)]) ∧ Below W.heap.size W w') :=
    Lib.hid fun W p why hW hp => text10_any A n d xs p why W ((h.below hW).more hW.size) hx hn hp
  have HNS : Hid (∀ (W : World) (p : Nat), Below w.heap.size w W → p ≤ n → Calls Tryz.prog 21 #[.slice A n d, .int .i64 p, .int .i64 10] W (NumsSaid W (goNums xs p 0 10))) :=
    Lib.hid fun W p hW hp => ReadNums1_any A n d xs p W ((h.below hW).more hW.size) hx hn hp
  have HLEN := Lib.hid h.len
  have HR0 := Lib.hid hR
  have HRK : Hid (∀ p y k, p ≤ n → Ok3 y → (rdK xs p y k).2.1 ≤ n ∧ Ok3 (rdK xs p y k).2.2) := Lib.hid fun p y k hp hy => by
    rw [← HLEN.out] at hp ⊢
    exact rdK_ok hp hy k
  have HGN : Hid (∀ p y, p ≤ n → Ok3 y → (goNum xs p y).2.1 ≤ n ∧ Ok3 (goNum xs p y).2.2) := Lib.hid fun p y hp hy => by
    rw [← HLEN.out] at hp ⊢
    exact ⟨goNum_le hp, goNum_ok3 hy⟩
  have HGT : Hid (∀ p y, p ≤ n → Ok3 y → (goText xs p y 256).2.1 ≤ n ∧ Ok3 (goText xs p y 256).2.2) := Lib.hid fun p y hp hy => by
    rw [← HLEN.out] at hp ⊢
    exact ⟨(goText_ok3 hp hy).2, (goText_ok3 hp hy).1⟩
  have HGS : Hid (∀ p y, p ≤ n → Ok3 y → (goNums xs p y 10).2.1 ≤ n ∧ Ok3 (goNums xs p y 10).2.2) := Lib.hid fun p y hp hy => by
    rw [← HLEN.out] at hp ⊢
    exact goNums_ok hp hy
  clear h hx hR
  have HK1 := Lib.hid (HGN.out 0 0 (Nat.zero_le _) (.inl rfl))
  have HN1 : Hid (∀ W, Below w.heap.size w W → Calls Tryz.prog 20 #[.agg #[.slice A n d, .int .i64 0, .int .i64 0]] W fun e w' => e = .returned (.tuple #[.agg #[.slice A n d, .int .i64 (goNum xs 0 0).2.1, .int .i64 (goNum xs 0 0).2.2], .int .i64 (goNum xs 0 0).1]) ∧ Below W.heap.size W w') := Lib.hid fun W hW => HNUM.out W 0 0 hW (Nat.zero_le _)
  obtain ⟨T1, hT1⟩ : ∃ T1, goNum xs 0 0 = T1 := ⟨_, rfl⟩
  rw [hT1] at HN1 HK1
  have HT1 := Lib.hid hT1
  clear hT1
  obtain ⟨cd, p1, y1⟩ := T1
  dsimp only at HN1 HK1
  have HK2 := Lib.hid (HGS.out p1 y1 HK1.out.1 HK1.out.2)
  obtain ⟨T2, hT2⟩ : ∃ T2, goNums xs p1 y1 10 = T2 := ⟨_, rfl⟩
  rw [hT2] at HK2
  have HT2 := Lib.hid hT2
  clear hT2
  obtain ⟨ids, p2, y2⟩ := T2
  dsimp only at HK2
  have HK3 := Lib.hid (HGN.out p2 y2 HK2.out.1 HK2.out.2)
  have HN3 : Hid (∀ W, Below w.heap.size w W → Calls Tryz.prog 20 #[.agg #[.slice A n d, .int .i64 p2, .int .i64 y2]] W fun e w' => e = .returned (.tuple #[.agg #[.slice A n d, .int .i64 (goNum xs p2 y2).2.1, .int .i64 (goNum xs p2 y2).2.2], .int .i64 (goNum xs p2 y2).1]) ∧ Below W.heap.size W w') := Lib.hid fun W hW => HNUM.out W p2 y2 hW HK2.out.1
  have HLT3 := Lib.hid (goNum_lt xs p2 y2)
  obtain ⟨T3, hT3⟩ : ∃ T3, goNum xs p2 y2 = T3 := ⟨_, rfl⟩
  rw [hT3] at HN3 HK3 HLT3
  have HT3 := Lib.hid hT3
  clear hT3
  obtain ⟨mv, p3, y3⟩ := T3
  dsimp only at HN3 HK3 HLT3
  go_enter Tryz.func6, Tryz.ntmps6
  go_upto_region 3 with fail
  obtain ⟨hz0, hz1, hz2, hbel⟩ := three_blocks w AM.zero.cells AM.zero.cells #[.slice A n d, .int .i64 0, .int .i64 0] 34 34 63
  have hsz : (((w.alloc (.cells AM.zero.cells 34)).alloc (.cells AM.zero.cells 34)).alloc (.cells #[.slice A n d, .int .i64 0, .int .i64 0] 63)).heap.size = w.heap.size + 3 := by simp
  change Code.wp _ _ _ _ (((w.alloc (.cells AM.zero.cells 34)).alloc (.cells AM.zero.cells 34)).alloc (.cells #[.slice A n d, .int .i64 0, .int .i64 0] 63))
  generalize ((w.alloc (.cells AM.zero.cells 34)).alloc (.cells AM.zero.cells 34)).alloc (.cells #[.slice A n d, .int .i64 0, .int .i64 0] 63) = W0 at *
  have H0 : Hid (RS w [(w.heap.size, 34, AM.zero.cells)] (w.heap.size + 1 + 1) A n d 0 0 (w.heap.size + 1) 34 AM.zero.cells W0) := Lib.hid ⟨hbel, fun x hx => by obtain rfl := List.mem_singleton.1 hx; exact hz0, hz2, hz1, by omega, by omega, by omega, fun x hx => by obtain rfl := List.mem_singleton.1 hx; exact ⟨by show w.heap.size ≠ _; omega, by show w.heap.size ≠ _; omega⟩⟩
  have HSZ := Lib.hid hsz
  clear hbel hz0 hz1 hz2 hsz
  generalize hga : w.heap.size + 1 = ga at *
  generalize hgr : ga + 1 = gr at *
  have HGA : Hid (ga = w.heap.size + 1 ∧ gr = w.heap.size + 2 ∧ W0.heap.size = w.heap.size + 3) := Lib.hid ⟨hga.symm, by omega, HSZ.out⟩
  clear hga hgr
  have c0 := H0.out.rdr.cell 0
  have c1 := H0.out.rdr.cell 1
  have c2 := H0.out.rdr.cell 2
  have f0 := H0.out.rdr.free 0
  have f1 := H0.out.rdr.free 1
  have f2 := H0.out.rdr.free 2
  simp at c0 c1 c2
  have z0 : W0.cell? ⟨ga, 0, none⟩ = some (.int .i64 0) := H0.out.arr.cell 0
  have g0 := H0.out.arr.free 0
  have hne := H0.out.ne
  have hne2 : ga ≠ gr := fun e => hne e.symm
  go_upto_region 4 with (go_at_call 20; refine (HN1.out _ H0.out.bel).mono ?_; rintro e w1 ⟨rfl, hb⟩
                         have H1 := Lib.hid (H0.out.below hb)
                         have HW1 : Hid (w.heap.size + 3 ≤ w1.heap.size) := Lib.hid (by have := hb.size; have := HGA.out; omega)
                         clear c0 c1 c2 f0 f1 f2 z0 g0 hb
                         have c0 := H1.out.rdr.cell 0
                         have c1 := H1.out.rdr.cell 1
                         have c2 := H1.out.rdr.cell 2
                         have f0 := H1.out.rdr.free 0
                         have f1 := H1.out.rdr.free 1
                         have f2 := H1.out.rdr.free 2
                         simp at c0 c1 c2
                         have z0 : w1.cell? ⟨ga, 0, none⟩ = some (.int .i64 0) := H1.out.arr.cell 0
                         have g0 := H1.out.arr.free 0)
  have hr2 := (H1.out.read p1 y1).fill 0 (.int .i64 cd)
  have hes : AM.zero.cells.setIfInBounds 0 (.int .i64 (cd : Int)) = #[.int .i64 cd, .slice none 0 0, .slice none 0 0] := rfl
  rw [hes] at hr2
  have hs2 : w.heap.size + 3 ≤ ((((w1.setCell ⟨gr, 0, none⟩ (.slice A n d)).setCell ⟨gr, 1, none⟩ (.int .i64 p1)).setCell ⟨gr, 2, none⟩ (.int .i64 y1)).setCell ⟨ga, 0, none⟩ (.int .i64 cd)).heap.size := by simpa using HW1.out
  generalize (((w1.setCell ⟨gr, 0, none⟩ (.slice A n d)).setCell ⟨gr, 1, none⟩ (.int .i64 p1)).setCell ⟨gr, 2, none⟩ (.int .i64 y1)).setCell ⟨ga, 0, none⟩ (.int .i64 cd) = w2 at *
  have H2 := Lib.hid hr2
  have HS2 := Lib.hid hs2
  clear hne hne2 hes hr2 hs2 c0 c1 c2 f0 f1 f2 z0 g0 H1 HN1
  have c0 := H2.out.rdr.cell 0
  have c1 := H2.out.rdr.cell 1
  have c2 := H2.out.rdr.cell 2
  have f0 := H2.out.rdr.free 0
  have f1 := H2.out.rdr.free 1
  have f2 := H2.out.rdr.free 2
  simp at c0 c1 c2
  have z1 := H2.out.arr.cell 1
  have g1 := H2.out.arr.free 1
  simp at z1
  have hne := H2.out.ne
  have hne2 : ga ≠ gr := fun e => hne e.symm
  go_upto_if 22 with fail
  go_cut [6, 7, 8] (fun _ _ _ wx => ∃ (iA : Option Addr) (iC : Nat), Hid (w.heap.size + 3 ≤ wx.heap.size) ∧ Hid (RS w [(w.heap.size, 34, AM.zero.cells)] gr A n d p2 y2 ga 34 #[.int .i64 cd, .slice iA ids.length iC, .slice none 0 0] wx) ∧ Hid (wx.ownsRow (w.heap.size + 3) 3 1 (.slice iA ids.length iC) ids.length (ids.map (Value.int .i64))))
  case first =>
    by_cases hy : y1 = 0
    · subst hy
      have HS := Lib.hid (HNS.out w2 p1 H2.out.bel HK1.out.1)
      rw [HT2.out] at HS
      go_wp2_with (go_at_call 21; refine HS.out.mono ?_; rintro e w3 ⟨iA, iC, k3, rfl, rfl, hown, hb⟩
                   have H3 := Lib.hid (H2.out.below hb); have HO3 := Lib.hid hown; have HW3 : Hid (w2.heap.size ≤ w3.heap.size) := Lib.hid hb.size
                   have HL3 := Lib.hid H2.out.lts
                   clear hb hown c0 c1 c2 f0 f1 f2 z1 g1
                   have c0 := H3.out.rdr.cell 0
                   have c1 := H3.out.rdr.cell 1
                   have c2 := H3.out.rdr.cell 2
                   have f0 := H3.out.rdr.free 0
                   have f1 := H3.out.rdr.free 1
                   have f2 := H3.out.rdr.free 2
                   simp at c0 c1 c2
                   have z1 := H3.out.arr.cell 1
                   have g1 := H3.out.arr.free 1
                   simp at z1)
      go_meet
      case rel =>
        refine ⟨iA, iC, Lib.hid (by have := HS2.out; have := HW3.out; simp; omega), Lib.hid ?_, Lib.hid ?_⟩
        · exact (H3.out.fill 1 (.slice iA ids.length iC)).place p2 y2
        · refine own_base ?_ HS2.out
          exact own_chg (own_chg (own_chg HO3.out (Chg.set w3 ga 1 _) (fun q hq e => by have := HL3.out; omega)) (Chg.set _ gr 1 _) (fun q hq e => by have := HL3.out; omega)) (Chg.set _ gr 2 _) (fun q hq e => by have := HL3.out; omega)
    · have hy0 : ((y1 : Int) == 0) = false := by simpa using hy
      have hst := goNums_stop (xs := xs) (p := p1) (most := 10) hy
      rw [HT2.out] at hst
      simp only [Prod.mk.injEq] at hst
      obtain ⟨rfl, rfl, rfl⟩ := hst
      go_wp2_with fail
      go_meet
      case rel => exact ⟨none, 0, HS2, H2, Lib.hid (World.ownsRow_nil _ _ _ _)⟩
  case rest =>
    obtain ⟨iA, iC, HWC, H8, HI8⟩ := hcut
    have hb0 : ∀ q, (Value.slice iA ids.length iC).ownBlock = some q → w.heap.size + 3 ≤ q ∧ q < wc.heap.size := fun q hq => HI8.out.lt q hq
    clear z1 g1 c0 c1 c2 f0 f1 f2 hne hne2 H2 HS2 HNS
    have c0 := H8.out.rdr.cell 0
    have c1 := H8.out.rdr.cell 1
    have c2 := H8.out.rdr.cell 2
    have f0 := H8.out.rdr.free 0
    have f1 := H8.out.rdr.free 1
    have f2 := H8.out.rdr.free 2
    simp at c0 c1 c2
    have hne : gr ≠ ga := H8.out.ne
    go_upto_region 10 with (go_at_call 20; refine (HN3.out _ H8.out.bel).mono ?_; rintro e w7 ⟨rfl, hb⟩
                            have H7 := Lib.hid (H8.out.below hb); have HI7 := Lib.hid (own_chg HI8.out (Chg.of_below (Φ := fun _ => False) hb) fun _ _ h => h)
                            have HL7 : Hid (w.heap.size + 3 ≤ w7.heap.size ∧ ∀ q, (Value.slice iA ids.length iC).ownBlock = some q → q < w7.heap.size) := Lib.hid ⟨by have := HWC.out; have := hb.size; omega, fun q hq => by have := (hb0 q hq).2; have := hb.size; omega⟩
                            clear c0 c1 c2 f0 f1 f2 hb
                            have c0 := H7.out.rdr.cell 0
                            have c1 := H7.out.rdr.cell 1
                            have c2 := H7.out.rdr.cell 2
                            have f0 := H7.out.rdr.free 0
                            have f1 := H7.out.rdr.free 1
                            have f2 := H7.out.rdr.free 2
                            simp at c0 c1 c2)
    have hr8 := H7.out.read p3 y3
    have hi8 := own_chg (own_chg (own_chg HI7.out (Chg.set w7 gr 0 (.slice A n d)) (fun q hq e => by have := HGA.out; omega)) (Chg.set _ gr 1 (.int .i64 p3)) (fun q hq e => by have := HGA.out; omega)) (Chg.set _ gr 2 (.int .i64 y3)) (fun q hq e => by have := HGA.out; omega)
    have hl8 : w.heap.size + 3 ≤ (((w7.setCell ⟨gr, 0, none⟩ (.slice A n d)).setCell ⟨gr, 1, none⟩ (.int .i64 p3)).setCell ⟨gr, 2, none⟩ (.int .i64 y3)).heap.size ∧ ∀ q, (Value.slice iA ids.length iC).ownBlock = some q → q < (((w7.setCell ⟨gr, 0, none⟩ (.slice A n d)).setCell ⟨gr, 1, none⟩ (.int .i64 p3)).setCell ⟨gr, 2, none⟩ (.int .i64 y3)).heap.size := by simpa using HL7.out
    generalize ((w7.setCell ⟨gr, 0, none⟩ (.slice A n d)).setCell ⟨gr, 1, none⟩ (.int .i64 p3)).setCell ⟨gr, 2, none⟩ (.int .i64 y3) = w8 at *
    have HS8 := Lib.hid hr8; have HI9 := Lib.hid hi8; have HL8 := Lib.hid hl8
    clear hr8 hi8 hl8 c0 c1 c2 f0 f1 f2 H7 HI7 HL7 H8 HI8 hb0 HN3 HWC
    go_wp2_with fail
    obtain ⟨K, hK⟩ : ∃ K, K = min mv 10 := ⟨_, rfl⟩
    have hK10 : K ≤ 10 := by omega
    have HKK := Lib.hid hK
    clear hK
    obtain ⟨i0, hi, hz0, hz1, hz2⟩ := info_k68
    go_loopw [10, 11] (fun v10 _ wr => ∃ (k : Nat) (tA : Option Addr) (tC : Nat), k ≤ K ∧ v10 = .int .i64 k ∧ Hid (RS w [(w.heap.size, 34, AM.zero.cells)] gr A n d (rdK xs p3 y3 k).2.1 (rdK xs p3 y3 k).2.2 ga 34 #[.int .i64 cd, .slice iA ids.length iC, .slice tA k tC] wr) ∧ Hid (wr.ownsRow w8.heap.size 68 5 (.slice tA k tC) k ((rdK xs p3 y3 k).1.flatMap TK.l)) ∧ Hid (wr.ownsRow (w.heap.size + 3) 3 1 (.slice iA ids.length iC) ids.length (ids.map (Value.int .i64))) ∧ Hid (w8.heap.size ≤ wr.heap.size)) (fun i _ _ => K - (intOf i).toNat)
    case atStart => exact ⟨0, none, 0, Nat.zero_le _, rfl, HS8, Lib.hid (World.ownsRow_nil _ _ _ _), HI9, Lib.hid (Nat.le_refl _)⟩
    case round =>
      obtain ⟨k, tA, tC, hk, rfl, hall, hrow, hids, hz⟩ := hrel
      clear HS8 HI9
      by_cases hlt : k < K
      · have hkz : (k : Int) < mv := by have := HKK.out; omega
        have hk10 : (k : Int) < 10 := by omega
        have w3 : IntKind.i64.wrap ((k : Int) + 1) = k + 1 := IntWalk.i64_in _ (by omega)
        have HOKK := Lib.hid (HRK.out p3 y3 k HK3.out.1 HK3.out.2)
        have HNX : Hid (rdK xs p3 y3 (k + 1) = ((rdK xs p3 y3 k).1 ++ [(tkR xs (rdK xs p3 y3 k).2.1 (rdK xs p3 y3 k).2.2).1], (tkR xs (rdK xs p3 y3 k).2.1 (rdK xs p3 y3 k).2.2).2)) := Lib.hid rfl
        generalize (rdK xs p3 y3 k).2.1 = q0 at *
        generalize (rdK xs p3 y3 k).2.2 = u0 at *
        generalize (rdK xs p3 y3 k).1 = tl at *
        have HK1x := Lib.hid (HGN.out q0 u0 HOKK.out.1 HOKK.out.2)
        have HC1 : Hid (∀ W, Below w.heap.size w W → Calls Tryz.prog 20 #[.agg #[.slice A n d, .int .i64 q0, .int .i64 u0]] W fun e w' => e = .returned (.tuple #[.agg #[.slice A n d, .int .i64 (goNum xs q0 u0).2.1, .int .i64 (goNum xs q0 u0).2.2], .int .i64 (goNum xs q0 u0).1]) ∧ Below W.heap.size W w') := Lib.hid fun W hW => HNUM.out W q0 u0 hW HOKK.out.1
        obtain ⟨X1, hX1⟩ : ∃ X1, goNum xs q0 u0 = X1 := ⟨_, rfl⟩
        rw [hX1] at HC1 HK1x
        have E1 := Lib.hid hX1
        clear hX1
        obtain ⟨v1, q1, u1⟩ := X1
        dsimp only at HC1 HK1x
        have HK2x := Lib.hid (HGN.out q1 u1 HK1x.out.1 HK1x.out.2)
        have HC2 : Hid (∀ W, Below w.heap.size w W → Calls Tryz.prog 20 #[.agg #[.slice A n d, .int .i64 q1, .int .i64 u1]] W fun e w' => e = .returned (.tuple #[.agg #[.slice A n d, .int .i64 (goNum xs q1 u1).2.1, .int .i64 (goNum xs q1 u1).2.2], .int .i64 (goNum xs q1 u1).1]) ∧ Below W.heap.size W w') := Lib.hid fun W hW => HNUM.out W q1 u1 hW HK1x.out.1
        obtain ⟨X2, hX2⟩ : ∃ X2, goNum xs q1 u1 = X2 := ⟨_, rfl⟩
        rw [hX2] at HC2 HK2x
        have E2 := Lib.hid hX2
        clear hX2
        obtain ⟨v2, q2, u2⟩ := X2
        dsimp only at HC2 HK2x
        have HK3x := Lib.hid (HGT.out q2 u2 HK2x.out.1 HK2x.out.2)
        have HC3 : Hid (∀ W, Below w.heap.size w W → Calls Tryz.prog 22 #[.agg #[.slice A n d, .int .i64 q2, .int .i64 u2]] W fun e w' => e = .returned (.tuple #[.agg #[.slice A n d, .int .i64 (goText xs q2 u2 256).2.1, .int .i64 (goText xs q2 u2 256).2.2], .string (strOfNums (goText xs q2 u2 256).1)]) ∧ Below W.heap.size W w') := Lib.hid fun W hW => HTXT.out W q2 u2 hW HK2x.out.1
        obtain ⟨X3, hX3⟩ : ∃ X3, goText xs q2 u2 256 = X3 := ⟨_, rfl⟩
        rw [hX3] at HC3 HK3x
        have E3 := Lib.hid hX3
        clear hX3
        obtain ⟨v3, q3, u3⟩ := X3
        dsimp only at HC3 HK3x
        have HK4x := Lib.hid (HGT.out q3 u3 HK3x.out.1 HK3x.out.2)
        have HC4 : Hid (∀ W, Below w.heap.size w W → Calls Tryz.prog 22 #[.agg #[.slice A n d, .int .i64 q3, .int .i64 u3]] W fun e w' => e = .returned (.tuple #[.agg #[.slice A n d, .int .i64 (goText xs q3 u3 256).2.1, .int .i64 (goText xs q3 u3 256).2.2], .string (strOfNums (goText xs q3 u3 256).1)]) ∧ Below W.heap.size W w') := Lib.hid fun W hW => HTXT.out W q3 u3 hW HK3x.out.1
        obtain ⟨X4, hX4⟩ : ∃ X4, goText xs q3 u3 256 = X4 := ⟨_, rfl⟩
        rw [hX4] at HC4 HK4x
        have E4 := Lib.hid hX4
        clear hX4
        obtain ⟨v4, q4, u4⟩ := X4
        dsimp only at HC4 HK4x
        have HK5x := Lib.hid (HGT.out q4 u4 HK4x.out.1 HK4x.out.2)
        have HC5 : Hid (∀ W, Below w.heap.size w W → Calls Tryz.prog 22 #[.agg #[.slice A n d, .int .i64 q4, .int .i64 u4]] W fun e w' => e = .returned (.tuple #[.agg #[.slice A n d, .int .i64 (goText xs q4 u4 256).2.1, .int .i64 (goText xs q4 u4 256).2.2], .string (strOfNums (goText xs q4 u4 256).1)]) ∧ Below W.heap.size W w') := Lib.hid fun W hW => HTXT.out W q4 u4 hW HK4x.out.1
        obtain ⟨X5, hX5⟩ : ∃ X5, goText xs q4 u4 256 = X5 := ⟨_, rfl⟩
        rw [hX5] at HC5 HK5x
        have E5 := Lib.hid hX5
        clear hX5
        obtain ⟨v5, q5, u5⟩ := X5
        dsimp only at HC5 HK5x
        have HTK : Hid (tkR xs q0 u0 = (⟨v1, v2, strOfNums v3, strOfNums v4, strOfNums v5⟩, q5, u5)) := Lib.hid (by unfold tkR; simp only [E1.out, E2.out, E3.out, E4.out, E5.out])
        rw [HTK.out] at HNX
        generalize strOfNums v3 = s3 at *
        generalize strOfNums v4 = s4 at *
        generalize strOfNums v5 = s5 at *
        clear HTK
        go_upto_region 14 with fail
        have H13 := Lib.hid (hall.out.next 68 TK.zero.cells)
        have HO := Lib.hid (hrow.out.alloc (.cells TK.zero.cells 68)); have HJ := Lib.hid (hids.out.alloc (.cells TK.zero.cells 68))
        have HZ : Hid (w8.heap.size ≤ wr.heap.size ∧ wr.heap.size ≤ (wr.alloc (.cells TK.zero.cells 68)).heap.size) := Lib.hid ⟨hz.out, by simp⟩
        change Code.wp _ _ _ _ (wr.alloc (.cells TK.zero.cells 68))
        have HQO : Hid (∀ q, (Value.slice tA k tC).ownBlock = some q → q ≠ gr ∧ q ≠ wr.heap.size) := Lib.hid fun q hq => ⟨by have := (hrow.out.lt q hq).1; have := HL8.out.1; have := HGA.out; omega, by have := (hrow.out.lt q hq).2; omega⟩
        have HQJ : Hid (∀ q, (Value.slice iA ids.length iC).ownBlock = some q → q ≠ gr ∧ q ≠ wr.heap.size) := Lib.hid fun q hq => ⟨by have := (hids.out.lt q hq).1; have := HGA.out; omega, by have := (hids.out.lt q hq).2; omega⟩
        clear hall hrow hids hz
        generalize wr.alloc (.cells TK.zero.cells 68) = b0 at *
        generalize wr.heap.size = gx at *
        have HZ0 : Hid (w8.heap.size ≤ b0.heap.size) := Lib.hid (by have := HZ.out; omega)
        have HX0 : Hid (gx ≠ gr ∧ gx ≠ ga ∧ w8.heap.size ≤ gx) := Lib.hid ⟨fun e => H13.out.ne e.symm, fun e => by have := (H13.out.out _ (List.mem_cons_self ..)).2; exact this e.symm, HZ.out.1⟩
        have c0 := H13.out.rdr.cell 0
        have c1 := H13.out.rdr.cell 1
        have c2 := H13.out.rdr.cell 2
        have f0 := H13.out.rdr.free 0
        have f1 := H13.out.rdr.free 1
        have f2 := H13.out.rdr.free 2
        simp at c0 c1 c2
        have z0 : b0.cell? ⟨gx, 0, none⟩ = some (.int .i64 0) := H13.out.arr.cell 0
        have g0 := H13.out.arr.free 0
        have hne := H13.out.ne
        have hne2 : gx ≠ gr := fun e => hne e.symm
        go_upto_region 15 with (
          go_at_call 20; refine (HC1.out _ H13.out.bel).mono ?_; rintro e a1 ⟨rfl, hb⟩
          have M1 := Lib.hid (H13.out.below hb); have P1 := Lib.hid (own_below HO.out hb); have Q1 := Lib.hid (own_below HJ.out hb)
          have Z1 : Hid (w8.heap.size ≤ a1.heap.size) := Lib.hid (Nat.le_trans HZ0.out hb.size)
          clear c0 c1 c2 f0 f1 f2 z0 g0 hb
          have c0 := M1.out.rdr.cell 0
          have c1 := M1.out.rdr.cell 1
          have c2 := M1.out.rdr.cell 2
          have f0 := M1.out.rdr.free 0
          have f1 := M1.out.rdr.free 1
          have f2 := M1.out.rdr.free 2
          simp at c0 c1 c2
          have z0 : a1.cell? ⟨gx, 0, none⟩ = some (.int .i64 0) := M1.out.arr.cell 0
          have g0 := M1.out.arr.free 0)
        have r1 := (M1.out.read q1 u1).fill 0 (.int .i64 v1)
        have o1 := own_four (a := .slice A n d) (b := .int .i64 q1) (c := .int .i64 u1) (d := .int .i64 v1) (i := 0) P1.out HQO.out
        have j1 := own_four (a := .slice A n d) (b := .int .i64 q1) (c := .int .i64 u1) (d := .int .i64 v1) (i := 0) Q1.out HQJ.out
        have t1 : w8.heap.size ≤ ((((a1.setCell ⟨gr, 0, none⟩ (.slice A n d)).setCell ⟨gr, 1, none⟩ (.int .i64 q1)).setCell ⟨gr, 2, none⟩ (.int .i64 u1)).setCell ⟨gx, 0, none⟩ (.int .i64 v1)).heap.size := by simpa using Z1.out
        generalize (((a1.setCell ⟨gr, 0, none⟩ (.slice A n d)).setCell ⟨gr, 1, none⟩ (.int .i64 q1)).setCell ⟨gr, 2, none⟩ (.int .i64 u1)).setCell ⟨gx, 0, none⟩ (.int .i64 v1) = b1 at *
        have H14 := Lib.hid r1; have HO1 := Lib.hid o1; have HJ1 := Lib.hid j1; have HZ1 := Lib.hid t1
        clear r1 o1 j1 t1 c0 c1 c2 f0 f1 f2 z0 g0 M1 P1 Q1 Z1 HC1 H13 HO HJ HZ0

        have c0 := H14.out.rdr.cell 0
        have c1 := H14.out.rdr.cell 1
        have c2 := H14.out.rdr.cell 2
        have f0 := H14.out.rdr.free 0
        have f1 := H14.out.rdr.free 1
        have f2 := H14.out.rdr.free 2
        simp at c0 c1 c2
        have z0 : b1.cell? ⟨gx, 1, none⟩ = some (.int .i64 0) := H14.out.arr.cell 1
        have g0 := H14.out.arr.free 1
        have hne := H14.out.ne
        have hne2 : gx ≠ gr := fun e => hne e.symm
        go_upto_region 16 with (
          go_at_call 20; refine (HC2.out _ H14.out.bel).mono ?_; rintro e a2 ⟨rfl, hb⟩
          have M2 := Lib.hid (H14.out.below hb); have P2 := Lib.hid (own_below HO1.out hb); have Q2 := Lib.hid (own_below HJ1.out hb)
          have Z2 : Hid (w8.heap.size ≤ a2.heap.size) := Lib.hid (Nat.le_trans HZ1.out hb.size)
          clear c0 c1 c2 f0 f1 f2 z0 g0 hb
          have c0 := M2.out.rdr.cell 0
          have c1 := M2.out.rdr.cell 1
          have c2 := M2.out.rdr.cell 2
          have f0 := M2.out.rdr.free 0
          have f1 := M2.out.rdr.free 1
          have f2 := M2.out.rdr.free 2
          simp at c0 c1 c2
          have z0 : a2.cell? ⟨gx, 1, none⟩ = some (.int .i64 0) := M2.out.arr.cell 1
          have g0 := M2.out.arr.free 1)
        have r2 := (M2.out.read q2 u2).fill 1 (.int .i64 v2)
        have o2 := own_four (a := .slice A n d) (b := .int .i64 q2) (c := .int .i64 u2) (d := .int .i64 v2) (i := 1) P2.out HQO.out
        have j2 := own_four (a := .slice A n d) (b := .int .i64 q2) (c := .int .i64 u2) (d := .int .i64 v2) (i := 1) Q2.out HQJ.out
        have t2 : w8.heap.size ≤ ((((a2.setCell ⟨gr, 0, none⟩ (.slice A n d)).setCell ⟨gr, 1, none⟩ (.int .i64 q2)).setCell ⟨gr, 2, none⟩ (.int .i64 u2)).setCell ⟨gx, 1, none⟩ (.int .i64 v2)).heap.size := by simpa using Z2.out
        generalize (((a2.setCell ⟨gr, 0, none⟩ (.slice A n d)).setCell ⟨gr, 1, none⟩ (.int .i64 q2)).setCell ⟨gr, 2, none⟩ (.int .i64 u2)).setCell ⟨gx, 1, none⟩ (.int .i64 v2) = b2 at *
        have H15 := Lib.hid r2; have HO2 := Lib.hid o2; have HJ2 := Lib.hid j2; have HZ2 := Lib.hid t2
        clear r2 o2 j2 t2 c0 c1 c2 f0 f1 f2 z0 g0 M2 P2 Q2 Z2 HC2 H14 HO1 HJ1 HZ1

        have c0 := H15.out.rdr.cell 0
        have c1 := H15.out.rdr.cell 1
        have c2 := H15.out.rdr.cell 2
        have f0 := H15.out.rdr.free 0
        have f1 := H15.out.rdr.free 1
        have f2 := H15.out.rdr.free 2
        simp at c0 c1 c2
        have z0 : b2.cell? ⟨gx, 2, none⟩ = some (.string ⟨#[]⟩) := H15.out.arr.cell 2
        have g0 := H15.out.arr.free 2
        have hne := H15.out.ne
        have hne2 : gx ≠ gr := fun e => hne e.symm
        go_upto_region 17 with (
          go_at_call 22; refine (HC3.out _ H15.out.bel).mono ?_; rintro e a3 ⟨rfl, hb⟩
          have M3 := Lib.hid (H15.out.below hb); have P3 := Lib.hid (own_below HO2.out hb); have Q3 := Lib.hid (own_below HJ2.out hb)
          have Z3 : Hid (w8.heap.size ≤ a3.heap.size) := Lib.hid (Nat.le_trans HZ2.out hb.size)
          clear c0 c1 c2 f0 f1 f2 z0 g0 hb
          have c0 := M3.out.rdr.cell 0
          have c1 := M3.out.rdr.cell 1
          have c2 := M3.out.rdr.cell 2
          have f0 := M3.out.rdr.free 0
          have f1 := M3.out.rdr.free 1
          have f2 := M3.out.rdr.free 2
          simp at c0 c1 c2
          have z0 : a3.cell? ⟨gx, 2, none⟩ = some (.string ⟨#[]⟩) := M3.out.arr.cell 2
          have g0 := M3.out.arr.free 2)
        have r3 := (M3.out.read q3 u3).fill 2 (.string s3)
        have o3 := own_four (a := .slice A n d) (b := .int .i64 q3) (c := .int .i64 u3) (d := .string s3) (i := 2) P3.out HQO.out
        have j3 := own_four (a := .slice A n d) (b := .int .i64 q3) (c := .int .i64 u3) (d := .string s3) (i := 2) Q3.out HQJ.out
        have t3 : w8.heap.size ≤ ((((a3.setCell ⟨gr, 0, none⟩ (.slice A n d)).setCell ⟨gr, 1, none⟩ (.int .i64 q3)).setCell ⟨gr, 2, none⟩ (.int .i64 u3)).setCell ⟨gx, 2, none⟩ (.string s3)).heap.size := by simpa using Z3.out
        generalize (((a3.setCell ⟨gr, 0, none⟩ (.slice A n d)).setCell ⟨gr, 1, none⟩ (.int .i64 q3)).setCell ⟨gr, 2, none⟩ (.int .i64 u3)).setCell ⟨gx, 2, none⟩ (.string s3) = b3 at *
        have H16 := Lib.hid r3; have HO3 := Lib.hid o3; have HJ3 := Lib.hid j3; have HZ3 := Lib.hid t3
        clear r3 o3 j3 t3 c0 c1 c2 f0 f1 f2 z0 g0 M3 P3 Q3 Z3 HC3 H15 HO2 HJ2 HZ2

        have c0 := H16.out.rdr.cell 0
        have c1 := H16.out.rdr.cell 1
        have c2 := H16.out.rdr.cell 2
        have f0 := H16.out.rdr.free 0
        have f1 := H16.out.rdr.free 1
        have f2 := H16.out.rdr.free 2
        simp at c0 c1 c2
        have z0 : b3.cell? ⟨gx, 3, none⟩ = some (.string ⟨#[]⟩) := H16.out.arr.cell 3
        have g0 := H16.out.arr.free 3
        have hne := H16.out.ne
        have hne2 : gx ≠ gr := fun e => hne e.symm
        go_upto_region 18 with (
          go_at_call 22; refine (HC4.out _ H16.out.bel).mono ?_; rintro e a4 ⟨rfl, hb⟩
          have M4 := Lib.hid (H16.out.below hb); have P4 := Lib.hid (own_below HO3.out hb); have Q4 := Lib.hid (own_below HJ3.out hb)
          have Z4 : Hid (w8.heap.size ≤ a4.heap.size) := Lib.hid (Nat.le_trans HZ3.out hb.size)
          clear c0 c1 c2 f0 f1 f2 z0 g0 hb
          have c0 := M4.out.rdr.cell 0
          have c1 := M4.out.rdr.cell 1
          have c2 := M4.out.rdr.cell 2
          have f0 := M4.out.rdr.free 0
          have f1 := M4.out.rdr.free 1
          have f2 := M4.out.rdr.free 2
          simp at c0 c1 c2
          have z0 : a4.cell? ⟨gx, 3, none⟩ = some (.string ⟨#[]⟩) := M4.out.arr.cell 3
          have g0 := M4.out.arr.free 3)
        have r4 := (M4.out.read q4 u4).fill 3 (.string s4)
        have o4 := own_four (a := .slice A n d) (b := .int .i64 q4) (c := .int .i64 u4) (d := .string s4) (i := 3) P4.out HQO.out
        have j4 := own_four (a := .slice A n d) (b := .int .i64 q4) (c := .int .i64 u4) (d := .string s4) (i := 3) Q4.out HQJ.out
        have t4 : w8.heap.size ≤ ((((a4.setCell ⟨gr, 0, none⟩ (.slice A n d)).setCell ⟨gr, 1, none⟩ (.int .i64 q4)).setCell ⟨gr, 2, none⟩ (.int .i64 u4)).setCell ⟨gx, 3, none⟩ (.string s4)).heap.size := by simpa using Z4.out
        generalize (((a4.setCell ⟨gr, 0, none⟩ (.slice A n d)).setCell ⟨gr, 1, none⟩ (.int .i64 q4)).setCell ⟨gr, 2, none⟩ (.int .i64 u4)).setCell ⟨gx, 3, none⟩ (.string s4) = b4 at *
        have H17 := Lib.hid r4; have HO4 := Lib.hid o4; have HJ4 := Lib.hid j4; have HZ4 := Lib.hid t4
        clear r4 o4 j4 t4 c0 c1 c2 f0 f1 f2 z0 g0 M4 P4 Q4 Z4 HC4 H16 HO3 HJ3 HZ3

        have c0 := H17.out.rdr.cell 0
        have c1 := H17.out.rdr.cell 1
        have c2 := H17.out.rdr.cell 2
        have f0 := H17.out.rdr.free 0
        have f1 := H17.out.rdr.free 1
        have f2 := H17.out.rdr.free 2
        simp at c0 c1 c2
        have z0 : b4.cell? ⟨gx, 4, none⟩ = some (.string ⟨#[]⟩) := H17.out.arr.cell 4
        have g0 := H17.out.arr.free 4
        have hne := H17.out.ne
        have hne2 : gx ≠ gr := fun e => hne e.symm
        go_upto_region 19 with (
          go_at_call 22; refine (HC5.out _ H17.out.bel).mono ?_; rintro e a5 ⟨rfl, hb⟩
          have M5 := Lib.hid (H17.out.below hb); have P5 := Lib.hid (own_below HO4.out hb); have Q5 := Lib.hid (own_below HJ4.out hb)
          have Z5 : Hid (w8.heap.size ≤ a5.heap.size) := Lib.hid (Nat.le_trans HZ4.out hb.size)
          clear c0 c1 c2 f0 f1 f2 z0 g0 hb
          have c0 := M5.out.rdr.cell 0
          have c1 := M5.out.rdr.cell 1
          have c2 := M5.out.rdr.cell 2
          have f0 := M5.out.rdr.free 0
          have f1 := M5.out.rdr.free 1
          have f2 := M5.out.rdr.free 2
          simp at c0 c1 c2
          have z0 : a5.cell? ⟨gx, 4, none⟩ = some (.string ⟨#[]⟩) := M5.out.arr.cell 4
          have g0 := M5.out.arr.free 4)
        have r5 := (M5.out.read q5 u5).fill 4 (.string s5)
        have o5 := own_four (a := .slice A n d) (b := .int .i64 q5) (c := .int .i64 u5) (d := .string s5) (i := 4) P5.out HQO.out
        have j5 := own_four (a := .slice A n d) (b := .int .i64 q5) (c := .int .i64 u5) (d := .string s5) (i := 4) Q5.out HQJ.out
        have t5 : w8.heap.size ≤ ((((a5.setCell ⟨gr, 0, none⟩ (.slice A n d)).setCell ⟨gr, 1, none⟩ (.int .i64 q5)).setCell ⟨gr, 2, none⟩ (.int .i64 u5)).setCell ⟨gx, 4, none⟩ (.string s5)).heap.size := by simpa using Z5.out
        generalize (((a5.setCell ⟨gr, 0, none⟩ (.slice A n d)).setCell ⟨gr, 1, none⟩ (.int .i64 q5)).setCell ⟨gr, 2, none⟩ (.int .i64 u5)).setCell ⟨gx, 4, none⟩ (.string s5) = b5 at *
        have H18 := Lib.hid r5; have HO5 := Lib.hid o5; have HJ5 := Lib.hid j5; have HZ5 := Lib.hid t5
        clear r5 o5 j5 t5 c0 c1 c2 f0 f1 f2 z0 g0 M5 P5 Q5 Z5 HC5 H17 HO4 HJ4 HZ4
        have hx5 : (((((TK.zero.cells.setIfInBounds 0 (.int .i64 v1)).setIfInBounds 1 (.int .i64 v2)).setIfInBounds 2 (.string s3)).setIfInBounds 3 (.string s4)).setIfInBounds 4 (.string s5)) = (TK.mk v1 v2 s3 s4 s5).cells := rfl
        rw [hx5] at H18
        have x0 : b5.cell? ⟨gx, 0, none⟩ = some (.int .i64 v1) := H18.out.arr.cell 0
        have x1 : b5.cell? ⟨gx, 1, none⟩ = some (.int .i64 v2) := H18.out.arr.cell 1
        have x2 : b5.cell? ⟨gx, 2, none⟩ = some (.string s3) := H18.out.arr.cell 2
        have x3 : b5.cell? ⟨gx, 3, none⟩ = some (.string s4) := H18.out.arr.cell 3
        have x4 : b5.cell? ⟨gx, 4, none⟩ = some (.string s5) := H18.out.arr.cell 4
        have H19 := Lib.hid (H18.out.back (by have := HGA.out; omega) (fun x hx => by obtain rfl := List.mem_singleton.1 hx; have := HGA.out; show w.heap.size ≠ ga; omega))
        have c2a : b5.cell? ⟨ga, 2, none⟩ = some (.slice tA k tC) := H19.out.arr.cell 2
        have HNW := Lib.hid (news_k b5 (TK.mk v1 v2 s3 s4 s5) 68)
        clear hx5 H18
        go_wp2_with (first
          | (with_reducible refine at_dst (o := ⟨some 85, _, _, _, _, _⟩) (some 85) rfl ?_
             refine wpList_append_src rfl (.tmp 82) (.tmp 84) 32 rfl w8.heap.size 68 i0 _ 5 64 Tryz.underlying32 hi hz0 hz1 hz2 rfl (by omega) (.slice tA k tC) k _ rfl (HO5.out.alloc _) (some ⟨b5.heap.size, 0, none⟩) 1 1 (TK.mk v1 v2 s3 s4 s5).l rfl rfl (fun h => by cases h) HNW.out (ones_k _) (by unfold maxLen; omega) (by omega) (by have := HZ5.out; simp; omega) ?_
             intro v7 w7 ho7 hg7
             have hlt8 := H19.out.lts
             have HR7 := Lib.hid ((H19.out.alloc (.cells #[.int .i64 v1, .int .i64 v2, .string s3, .string s4, .string s5] 68)).chg (B := w8.heap.size) (Chg.of_grown hg7) (fun q e => (HO5.out.lt q e).1) (by have := HL8.out.1; omega) (by have := HGA.out; have := HL8.out.1; omega) (by have := HGA.out; have := HL8.out.1; omega) (fun x hx => by obtain rfl := List.mem_singleton.1 hx; have := HL8.out.1; show w.heap.size < _; omega))
             obtain ⟨g7, c7, rfl, hgb, _⟩ := ho7.form (by omega)
             have HO7 := Lib.hid ho7
             have HJ7 := Lib.hid ((Chg.of_grown hg7).own (HJ5.out.alloc (.cells #[.int .i64 v1, .int .i64 v2, .string s3, .string s4, .string s5] 68)) (fun q hq e => by have h1 := HL8.out.2 q hq; have h2 := (HO5.out.lt q e).1; omega))
             have HZ7 : Hid (w8.heap.size ≤ w7.heap.size) := Lib.hid (by have := HZ5.out; have := hg7.size; simp at this; omega)
             clear c2a x0 x1 x2 x3 x4
             have c2a : w7.cell? ⟨ga, 2, none⟩ = some (.slice tA k tC) := HR7.out.arr.cell 2
             have f2a := HR7.out.arr.free 2
             clear ho7 hg7 hlt8 hgb))
        go_roundw
        case rel =>
          refine ⟨k + 1, some ⟨g7, 0, none⟩, c7, by omega, by go_num, Lib.hid ?_, Lib.hid ?_, Lib.hid ?_, Lib.hid (by simpa using HZ7.out)⟩
          · rw [HNX.out]
            exact HR7.out.fill 2 (.slice (some ⟨g7, 0, none⟩) (k + 1) c7)
          · rw [HNX.out]
            dsimp only
            rw [List.flatMap_append]
            have := own_chg HO7.out (Chg.set w7 ga 2 (.slice (some ⟨g7, 0, none⟩) (k + 1) c7)) (fun q hq e => by have := HGA.out; have := HL8.out.1; omega)
            simpa using this
          · exact own_chg HJ7.out (Chg.set w7 ga 2 (.slice (some ⟨g7, 0, none⟩) (k + 1) c7)) (fun q hq e => by have := HGA.out; omega)
        case measure => simp [intOf]; omega
      · obtain rfl : k = K := by omega
        have HRAW : Hid (R = ⟨cd, ids, mv, (rdK xs p3 y3 k).1, (rdK xs p3 y3 k).2.1, (rdK xs p3 y3 k).2.2⟩) := Lib.hid (HR0.out.symm.trans (araw_is HT1.out HT2.out HT3.out HKK.out))
        have HKL := Lib.hid (rdK_len xs p3 y3 k)
        obtain ⟨dn, hdn⟩ : ∃ dn : Nat, dn = if (rdK xs p3 y3 k).2.2 = 0 ∧ (rdK xs p3 y3 k).2.1 < n then 2 else (rdK xs p3 y3 k).2.2 := ⟨_, rfl⟩
        have HD : Hid (∀ W, Calls Tryz.prog 23 #[.agg #[.slice A n d, .int .i64 (rdK xs p3 y3 k).2.1, .int .i64 (rdK xs p3 y3 k).2.2]] W fun e w' => e = .returned (.int .i64 dn) ∧ Below W.heap.size W w') := Lib.hid (by rw [hdn]; exact done10_any A n d (rdK xs p3 y3 k).2.1 (rdK xs p3 y3 k).2.2)
        have HWHY := noA_cases R n dn (by rw [HRAW.out]; exact hdn)
        rw [HRAW.out] at HWHY
        dsimp only at HWHY
        have HWHY := Lib.hid HWHY
        clear hdn
        generalize (rdK xs p3 y3 k).2.1 = p at *
        generalize (rdK xs p3 y3 k).2.2 = why at *
        generalize (rdK xs p3 y3 k).1 = tks at *
        obtain ⟨iA', iC', e1, hrdI⟩ := Rd.of_own hids.out
        obtain ⟨tA', tC', e2, hrdT, _⟩ := KRd.of_own hrow.out HKL.out
        obtain ⟨rfl, _, rfl⟩ := Value.slice.inj e1
        obtain ⟨rfl, _, rfl⟩ := Value.slice.inj e2
        obtain ⟨q, hq⟩ : ∃ q, q = aRight cd ids tks := ⟨_, rfl⟩
        rw [← hq] at HWHY
        have HRT : Hid (∀ W, Below wr.heap.size wr W → Calls Tryz.prog 24 #[.agg #[.int .i64 cd, .slice iA ids.length iC, .slice tA k tC]] W fun e w' => e = .returned (.bool q) ∧ Below W.heap.size W w') := Lib.hid fun W hW => by
          rw [hq]
          exact RightAnswer10_any ⟨cd, iA, ids.length, iC, tA, k, tC⟩ ids tks W (hrdI.later hW) (hrdT.later hW)
        clear e1 e2 hrdI hrdT hq
        have HBB := Lib.hid (hall.out.keep _ (List.mem_cons_self ..))
        dsimp only at HBB
        have c0 := hall.out.rdr.cell 0
        have c1 := hall.out.rdr.cell 1
        have c2 := hall.out.rdr.cell 2
        simp at c0 c1 c2
        by_cases hmv : k < mv
        · have n1 : (k : Int) < mv := by omega
          have n2 : ¬ (k : Int) < 10 := by have := HKK.out; omega
          by_cases hd0 : dn = 0
          · subst hd0
            have HW2 := Lib.hid (HWHY.out.2.1 rfl); have HW3 := Lib.hid (HWHY.out.2.2 rfl)
            go_wp2_with fail
            refine (HD.out _).mono ?_
            rintro e w1 ⟨rfl, hb⟩
            have S1 := Lib.hid (hall.out.below hb); have B1 := Lib.hid (HBB.out.below hb HBB.out.lt); have W1 := Lib.hid (hb)
            have O1 := Lib.hid (own_below hrow.out hb); have J1 := Lib.hid (own_below hids.out hb)
            clear c0 c1 c2 hb
            have c0 := S1.out.rdr.cell 0
            have c1 := S1.out.rdr.cell 1
            have c2 := S1.out.rdr.cell 2
            have a0 := S1.out.arr.cell 0
            have a1 := S1.out.arr.cell 1
            have a2 := S1.out.arr.cell 2
            have y0 : w1.cell? ⟨w.heap.size, 0, none⟩ = some (.int .i64 0) := B1.out.cell 0
            have y1 : w1.cell? ⟨w.heap.size, 1, none⟩ = some (.slice none 0 0) := B1.out.cell 1
            have y2 : w1.cell? ⟨w.heap.size, 2, none⟩ = some (.slice none 0 0) := B1.out.cell 2
            have e0 := B1.out.free 0
            have e1 := B1.out.free 1
            have e2 := B1.out.free 2
            simp at c0 c1 c2 a0 a1 a2
            go_upto_region 22 with fail
            have hm10 : 10 < mv := by have := HKK.out; omega
            have HNO := Lib.hid (HW2.out (.inl hm10))
            have dm : decide ((10 : Int) < mv) = true := decide_eq_true (by omega)
            go_wp2_with fail
            have k3 : Blk (((w1.setCell ⟨w.heap.size, 0, none⟩ (.int .i64 0)).setCell ⟨w.heap.size, 1, none⟩ (.slice none 0 0)).setCell ⟨w.heap.size, 2, none⟩ (.slice none 0 0)) w.heap.size 34 #[.int .i64 0, .slice none 0 0, .slice none 0 0] := ((B1.out.set 0 (.int .i64 0)).set 1 (.slice none 0 0)).set 2 (.slice none 0 0)
            refine bodyPost_ret (v := .tuple #[.agg #[.int .i64 0, .slice none 0 0, .slice none 0 0], .int .i64 2]) ?_ rfl ?_
            · refine Eq.trans (results_cell_row_tmp (p := 2) (u := 3) Tryz.results6 _ _ w.heap.size 34 #[.int .i64 0, .slice none 0 0, .slice none 0 0] (0, 0) _ ?_ k3 Tryz.underlying34 rfl (show (Tryz.prog.info? 34).map (·.size) = some 3 from info_ref_ans)) ?_
              · rfl
              · rfl
            · exact ⟨AM.zero, 2, rfl, ((S1.out.bel.setCell (Nat.le_refl _) _).setCell (Nat.le_refl _) _).setCell (Nat.le_refl _) _, .inl (by rw [HRAW.out]; exact ⟨by rw [HNO.out]; omega, rfl, HNO.out.symm⟩)⟩
          · have HNO := Lib.hid (HWHY.out.1 hd0)
            have dd : ((dn : Int) == 0) = false := by simpa using hd0
            go_wp2_with fail
            refine (HD.out _).mono ?_
            rintro e w1 ⟨rfl, hb⟩
            have S1 := Lib.hid (hall.out.below hb); have B1 := Lib.hid (HBB.out.below hb HBB.out.lt); have W1 := Lib.hid (hb)
            have O1 := Lib.hid (own_below hrow.out hb); have J1 := Lib.hid (own_below hids.out hb)
            clear c0 c1 c2 hb
            have c0 := S1.out.rdr.cell 0
            have c1 := S1.out.rdr.cell 1
            have c2 := S1.out.rdr.cell 2
            have a0 := S1.out.arr.cell 0
            have a1 := S1.out.arr.cell 1
            have a2 := S1.out.arr.cell 2
            have y0 : w1.cell? ⟨w.heap.size, 0, none⟩ = some (.int .i64 0) := B1.out.cell 0
            have y1 : w1.cell? ⟨w.heap.size, 1, none⟩ = some (.slice none 0 0) := B1.out.cell 1
            have y2 : w1.cell? ⟨w.heap.size, 2, none⟩ = some (.slice none 0 0) := B1.out.cell 2
            have e0 := B1.out.free 0
            have e1 := B1.out.free 1
            have e2 := B1.out.free 2
            simp at c0 c1 c2 a0 a1 a2
            go_upto_region 21 with fail
            go_wp2_with (
              go_at_call 23; refine (HD.out _).mono ?_; rintro e w2 ⟨rfl, hb⟩
              have S2 := Lib.hid (S1.out.below hb); have B2 := Lib.hid (B1.out.below hb B1.out.lt); have W2 := Lib.hid (W1.out.trans (hb.mono W1.out.size))
              have O2 := Lib.hid (own_below O1.out hb); have J2 := Lib.hid (own_below J1.out hb)
              clear a0 a1 a2 y0 y1 y2 e0 e1 e2 c0 c1 c2 hb
              have c0 := S2.out.rdr.cell 0
              have c1 := S2.out.rdr.cell 1
              have c2 := S2.out.rdr.cell 2
              have a0 := S2.out.arr.cell 0
              have a1 := S2.out.arr.cell 1
              have a2 := S2.out.arr.cell 2
              have y0 : w2.cell? ⟨w.heap.size, 0, none⟩ = some (.int .i64 0) := B2.out.cell 0
              have y1 : w2.cell? ⟨w.heap.size, 1, none⟩ = some (.slice none 0 0) := B2.out.cell 1
              have y2 : w2.cell? ⟨w.heap.size, 2, none⟩ = some (.slice none 0 0) := B2.out.cell 2
              have e0 := B2.out.free 0
              have e1 := B2.out.free 1
              have e2 := B2.out.free 2
              simp at c0 c1 c2 a0 a1 a2)
            have k3 : Blk (((w2.setCell ⟨w.heap.size, 0, none⟩ (.int .i64 0)).setCell ⟨w.heap.size, 1, none⟩ (.slice none 0 0)).setCell ⟨w.heap.size, 2, none⟩ (.slice none 0 0)) w.heap.size 34 #[.int .i64 0, .slice none 0 0, .slice none 0 0] := ((B2.out.set 0 (.int .i64 0)).set 1 (.slice none 0 0)).set 2 (.slice none 0 0)
            refine bodyPost_ret (v := .tuple #[.agg #[.int .i64 0, .slice none 0 0, .slice none 0 0], .int .i64 dn]) ?_ rfl ?_
            · refine Eq.trans (results_cell_row_tmp (p := 2) (u := 3) Tryz.results6 _ _ w.heap.size 34 #[.int .i64 0, .slice none 0 0, .slice none 0 0] (0, 0) _ ?_ k3 Tryz.underlying34 rfl (show (Tryz.prog.info? 34).map (·.size) = some 3 from info_ref_ans)) ?_
              · rfl
              · rfl
            · exact ⟨AM.zero, dn, rfl, ((S2.out.bel.setCell (Nat.le_refl _) _).setCell (Nat.le_refl _) _).setCell (Nat.le_refl _) _, .inl (by rw [HRAW.out]; exact ⟨by rw [HNO.out]; exact hd0, rfl, HNO.out.symm⟩)⟩
        · have n1 : ¬ (k : Int) < mv := by omega
          by_cases hd0 : dn = 0
          · subst hd0
            have HW2 := Lib.hid (HWHY.out.2.1 rfl); have HW3 := Lib.hid (HWHY.out.2.2 rfl)
            go_wp2_with fail
            refine (HD.out _).mono ?_
            rintro e w1 ⟨rfl, hb⟩
            have S1 := Lib.hid (hall.out.below hb); have B1 := Lib.hid (HBB.out.below hb HBB.out.lt); have W1 := Lib.hid (hb)
            have O1 := Lib.hid (own_below hrow.out hb); have J1 := Lib.hid (own_below hids.out hb)
            clear c0 c1 c2 hb
            have c0 := S1.out.rdr.cell 0
            have c1 := S1.out.rdr.cell 1
            have c2 := S1.out.rdr.cell 2
            have a0 := S1.out.arr.cell 0
            have a1 := S1.out.arr.cell 1
            have a2 := S1.out.arr.cell 2
            have y0 : w1.cell? ⟨w.heap.size, 0, none⟩ = some (.int .i64 0) := B1.out.cell 0
            have y1 : w1.cell? ⟨w.heap.size, 1, none⟩ = some (.slice none 0 0) := B1.out.cell 1
            have y2 : w1.cell? ⟨w.heap.size, 2, none⟩ = some (.slice none 0 0) := B1.out.cell 2
            have e0 := B1.out.free 0
            have e1 := B1.out.free 1
            have e2 := B1.out.free 2
            simp at c0 c1 c2 a0 a1 a2
            go_upto_region 22 with fail
            have hm10 : ¬ 10 < mv := by have := HKK.out; omega
            · have dm : decide ((10 : Int) < mv) = false := decide_eq_false (by omega)
              rcases q with _ | _
              · have HNO := Lib.hid (HW2.out (.inr rfl))
                go_wp2_with (
                  go_at_call 24; refine (HRT.out _ W1.out).mono ?_; rintro e w2 ⟨rfl, hb⟩
                  have S2 := Lib.hid (S1.out.below hb); have B2 := Lib.hid (B1.out.below hb B1.out.lt); have W2 := Lib.hid (W1.out.trans (hb.mono W1.out.size))
                  have O2 := Lib.hid (own_below O1.out hb); have J2 := Lib.hid (own_below J1.out hb)
                  clear a0 a1 a2 y0 y1 y2 e0 e1 e2 c0 c1 c2 hb
                  have c0 := S2.out.rdr.cell 0
                  have c1 := S2.out.rdr.cell 1
                  have c2 := S2.out.rdr.cell 2
                  have a0 := S2.out.arr.cell 0
                  have a1 := S2.out.arr.cell 1
                  have a2 := S2.out.arr.cell 2
                  have y0 : w2.cell? ⟨w.heap.size, 0, none⟩ = some (.int .i64 0) := B2.out.cell 0
                  have y1 : w2.cell? ⟨w.heap.size, 1, none⟩ = some (.slice none 0 0) := B2.out.cell 1
                  have y2 : w2.cell? ⟨w.heap.size, 2, none⟩ = some (.slice none 0 0) := B2.out.cell 2
                  have e0 := B2.out.free 0
                  have e1 := B2.out.free 1
                  have e2 := B2.out.free 2
                  simp at c0 c1 c2 a0 a1 a2)
                have k3 : Blk (((w2.setCell ⟨w.heap.size, 0, none⟩ (.int .i64 0)).setCell ⟨w.heap.size, 1, none⟩ (.slice none 0 0)).setCell ⟨w.heap.size, 2, none⟩ (.slice none 0 0)) w.heap.size 34 #[.int .i64 0, .slice none 0 0, .slice none 0 0] := ((B2.out.set 0 (.int .i64 0)).set 1 (.slice none 0 0)).set 2 (.slice none 0 0)
                refine bodyPost_ret (v := .tuple #[.agg #[.int .i64 0, .slice none 0 0, .slice none 0 0], .int .i64 2]) ?_ rfl ?_
                · refine Eq.trans (results_cell_row_tmp (p := 2) (u := 3) Tryz.results6 _ _ w.heap.size 34 #[.int .i64 0, .slice none 0 0, .slice none 0 0] (0, 0) _ ?_ k3 Tryz.underlying34 rfl (show (Tryz.prog.info? 34).map (·.size) = some 3 from info_ref_ans)) ?_
                  · rfl
                  · rfl
                · exact ⟨AM.zero, 2, rfl, ((S2.out.bel.setCell (Nat.le_refl _) _).setCell (Nat.le_refl _) _).setCell (Nat.le_refl _) _, .inl (by rw [HRAW.out]; exact ⟨by rw [HNO.out]; omega, rfl, HNO.out.symm⟩)⟩
              · have HNO := Lib.hid (HW3.out hm10 rfl)
                go_wp2_with (
                  go_at_call 24; refine (HRT.out _ W1.out).mono ?_; rintro e w2 ⟨rfl, hb⟩
                  have S2 := Lib.hid (S1.out.below hb); have B2 := Lib.hid (B1.out.below hb B1.out.lt); have W2 := Lib.hid (W1.out.trans (hb.mono W1.out.size))
                  have O2 := Lib.hid (own_below O1.out hb); have J2 := Lib.hid (own_below J1.out hb)
                  clear a0 a1 a2 y0 y1 y2 e0 e1 e2 c0 c1 c2 hb
                  have c0 := S2.out.rdr.cell 0
                  have c1 := S2.out.rdr.cell 1
                  have c2 := S2.out.rdr.cell 2
                  have a0 := S2.out.arr.cell 0
                  have a1 := S2.out.arr.cell 1
                  have a2 := S2.out.arr.cell 2
                  have y0 : w2.cell? ⟨w.heap.size, 0, none⟩ = some (.int .i64 0) := B2.out.cell 0
                  have y1 : w2.cell? ⟨w.heap.size, 1, none⟩ = some (.slice none 0 0) := B2.out.cell 1
                  have y2 : w2.cell? ⟨w.heap.size, 2, none⟩ = some (.slice none 0 0) := B2.out.cell 2
                  have e0 := B2.out.free 0
                  have e1 := B2.out.free 1
                  have e2 := B2.out.free 2
                  simp at c0 c1 c2 a0 a1 a2)
                have k3 : Blk (((w2.setCell ⟨w.heap.size, 0, none⟩ (.int .i64 cd)).setCell ⟨w.heap.size, 1, none⟩ (.slice iA ids.length iC)).setCell ⟨w.heap.size, 2, none⟩ (.slice tA k tC)) w.heap.size 34 #[.int .i64 cd, .slice iA ids.length iC, .slice tA k tC] := ((B2.out.set 0 (.int .i64 cd)).set 1 (.slice iA ids.length iC)).set 2 (.slice tA k tC)
                refine bodyPost_ret (v := .tuple #[.agg #[.int .i64 cd, .slice iA ids.length iC, .slice tA k tC], .int .i64 0]) ?_ rfl ?_
                · refine Eq.trans (results_cell_row_tmp (p := 2) (u := 3) Tryz.results6 _ _ w.heap.size 34 #[.int .i64 cd, .slice iA ids.length iC, .slice tA k tC] (0, 0) _ ?_ k3 Tryz.underlying34 rfl (show (Tryz.prog.info? 34).map (·.size) = some 3 from info_ref_ans)) ?_
                  · rfl
                  · rfl
                · refine ⟨⟨cd, iA, ids.length, iC, tA, k, tC⟩, 0, rfl, ((S2.out.bel.setCell (Nat.le_refl _) _).setCell (Nat.le_refl _) _).setCell (Nat.le_refl _) _, .inr ?_⟩
                  rw [HRAW.out]
                  have hi := own_chg (own_chg (own_chg J2.out (Chg.set w2 w.heap.size 0 (.int .i64 cd)) (fun q hq e => by omega)) (Chg.set _ w.heap.size 1 (.slice iA ids.length iC)) (fun q hq e => by omega)) (Chg.set _ w.heap.size 2 (.slice tA k tC)) (fun q hq e => by omega)
                  have ht := own_chg (own_chg (own_chg O2.out (Chg.set w2 w.heap.size 0 (.int .i64 cd)) (fun q hq e => by have := HL8.out.1; omega)) (Chg.set _ w.heap.size 1 (.slice iA ids.length iC)) (fun q hq e => by have := HL8.out.1; omega)) (Chg.set _ w.heap.size 2 (.slice tA k tC)) (fun q hq e => by have := HL8.out.1; omega)
                  obtain ⟨iA', iC', e1, hrdI⟩ := Rd.of_own hi
                  obtain ⟨tA', tC', e2, hrdT, _⟩ := KRd.of_own ht HKL.out
                  obtain ⟨rfl, _, rfl⟩ := Value.slice.inj e1
                  obtain ⟨rfl, _, rfl⟩ := Value.slice.inj e2
                  exact ⟨HNO.out, rfl, rfl, hrdI, hrdT⟩
          · have HNO := Lib.hid (HWHY.out.1 hd0)
            have dd : ((dn : Int) == 0) = false := by simpa using hd0
            go_wp2_with fail
            refine (HD.out _).mono ?_
            rintro e w1 ⟨rfl, hb⟩
            have S1 := Lib.hid (hall.out.below hb); have B1 := Lib.hid (HBB.out.below hb HBB.out.lt); have W1 := Lib.hid (hb)
            have O1 := Lib.hid (own_below hrow.out hb); have J1 := Lib.hid (own_below hids.out hb)
            clear c0 c1 c2 hb
            have c0 := S1.out.rdr.cell 0
            have c1 := S1.out.rdr.cell 1
            have c2 := S1.out.rdr.cell 2
            have a0 := S1.out.arr.cell 0
            have a1 := S1.out.arr.cell 1
            have a2 := S1.out.arr.cell 2
            have y0 : w1.cell? ⟨w.heap.size, 0, none⟩ = some (.int .i64 0) := B1.out.cell 0
            have y1 : w1.cell? ⟨w.heap.size, 1, none⟩ = some (.slice none 0 0) := B1.out.cell 1
            have y2 : w1.cell? ⟨w.heap.size, 2, none⟩ = some (.slice none 0 0) := B1.out.cell 2
            have e0 := B1.out.free 0
            have e1 := B1.out.free 1
            have e2 := B1.out.free 2
            simp at c0 c1 c2 a0 a1 a2
            go_upto_region 21 with fail
            go_wp2_with (
              go_at_call 23; refine (HD.out _).mono ?_; rintro e w2 ⟨rfl, hb⟩
              have S2 := Lib.hid (S1.out.below hb); have B2 := Lib.hid (B1.out.below hb B1.out.lt); have W2 := Lib.hid (W1.out.trans (hb.mono W1.out.size))
              have O2 := Lib.hid (own_below O1.out hb); have J2 := Lib.hid (own_below J1.out hb)
              clear a0 a1 a2 y0 y1 y2 e0 e1 e2 c0 c1 c2 hb
              have c0 := S2.out.rdr.cell 0
              have c1 := S2.out.rdr.cell 1
              have c2 := S2.out.rdr.cell 2
              have a0 := S2.out.arr.cell 0
              have a1 := S2.out.arr.cell 1
              have a2 := S2.out.arr.cell 2
              have y0 : w2.cell? ⟨w.heap.size, 0, none⟩ = some (.int .i64 0) := B2.out.cell 0
              have y1 : w2.cell? ⟨w.heap.size, 1, none⟩ = some (.slice none 0 0) := B2.out.cell 1
              have y2 : w2.cell? ⟨w.heap.size, 2, none⟩ = some (.slice none 0 0) := B2.out.cell 2
              have e0 := B2.out.free 0
              have e1 := B2.out.free 1
              have e2 := B2.out.free 2
              simp at c0 c1 c2 a0 a1 a2)
            have k3 : Blk (((w2.setCell ⟨w.heap.size, 0, none⟩ (.int .i64 0)).setCell ⟨w.heap.size, 1, none⟩ (.slice none 0 0)).setCell ⟨w.heap.size, 2, none⟩ (.slice none 0 0)) w.heap.size 34 #[.int .i64 0, .slice none 0 0, .slice none 0 0] := ((B2.out.set 0 (.int .i64 0)).set 1 (.slice none 0 0)).set 2 (.slice none 0 0)
            refine bodyPost_ret (v := .tuple #[.agg #[.int .i64 0, .slice none 0 0, .slice none 0 0], .int .i64 dn]) ?_ rfl ?_
            · refine Eq.trans (results_cell_row_tmp (p := 2) (u := 3) Tryz.results6 _ _ w.heap.size 34 #[.int .i64 0, .slice none 0 0, .slice none 0 0] (0, 0) _ ?_ k3 Tryz.underlying34 rfl (show (Tryz.prog.info? 34).map (·.size) = some 3 from info_ref_ans)) ?_
              · rfl
              · rfl
            · exact ⟨AM.zero, dn, rfl, ((S2.out.bel.setCell (Nat.le_refl _) _).setCell (Nat.le_refl _) _).setCell (Nat.le_refl _) _, .inl (by rw [HRAW.out]; exact ⟨by rw [HNO.out]; exact hd0, rfl, HNO.out.symm⟩)⟩
end Go.Proofs.YtkdncnhjlgidnaaGreatDoor

namespace Go.Proofs.YtkdncnhjlgidnaaGreatDoor
open Go Go.RowKit Go.Maps

theorem drewn2 (w : World) (m : Nat) : Below w.heap.size w (w.drewN m) := drewn_below w m
set_option maxHeartbeats 3200000 in
set_option maxRecDepth 100000 in
theorem Alike_any (a b : AM) (I : List Int) (T : List TK) (w : World) (hc : a.cd = b.cd) (i1 : Rd w w.heap.size .i64 a.iA a.iN a.iC I) (i2 : Rd w w.heap.size .i64 b.iA b.iN b.iC I) (t1 : KRd w w.heap.size a.tA a.tN a.tC T) (t2 : KRd w w.heap.size b.tA b.tN b.tC T) (hi : a.iN ≤ 1000000) (ht : a.tN ≤ 1000000) :
    Calls Tryz.prog 8 #[.agg a.cells, .agg b.cells] w fun e w' => e = .returned (.bool true) ∧ Below w.heap.size w w' := by
  obtain ⟨cd, iA, iN, iC, tA, tN, tC⟩ := a
  obtain ⟨cd2, iA2, iN2, iC2, tA2, tN2, tC2⟩ := b
  dsimp only at *
  obtain rfl := hc
  obtain rfl : iN = iN2 := by rw [← i1.len, ← i2.len]
  obtain rfl : tN = tN2 := by rw [← t1.len, ← t2.len]
  unfold AM.cells
  dsimp only
  have I1 := Lib.hid i1; have I2 := Lib.hid i2; have T1 := Lib.hid t1; have T2 := Lib.hid t2
  clear i1 i2 t1 t2
  go_enter Tryz.func8, Tryz.ntmps8
  go_upto_region 1 with fail
  have b1 : Blk ((w.alloc (.cells #[.int .i64 cd, .slice iA iN iC, .slice tA tN tC] 34)).alloc (.cells #[.int .i64 cd, .slice iA2 iN iC2, .slice tA2 tN tC2] 34)) w.heap.size 34 #[.int .i64 cd, .slice iA iN iC, .slice tA tN tC] := (Blk.fresh w _ _).alloc _
  have b2 : Blk ((w.alloc (.cells #[.int .i64 cd, .slice iA iN iC, .slice tA tN tC] 34)).alloc (.cells #[.int .i64 cd, .slice iA2 iN iC2, .slice tA2 tN tC2] 34)) (w.heap.size + 1) 34 #[.int .i64 cd, .slice iA2 iN iC2, .slice tA2 tN tC2] := by simpa using Blk.fresh (w.alloc (.cells #[.int .i64 cd, .slice iA iN iC, .slice tA tN tC] 34)) 34 #[.int .i64 cd, .slice iA2 iN iC2, .slice tA2 tN tC2]
  have hbel : Below w.heap.size w ((w.alloc (.cells #[.int .i64 cd, .slice iA iN iC, .slice tA tN tC] 34)).alloc (.cells #[.int .i64 cd, .slice iA2 iN iC2, .slice tA2 tN tC2] 34)) := ((Below.refl _ _).alloc (Nat.le_refl _) _).alloc (by simp) _
  generalize (w.alloc (.cells #[.int .i64 cd, .slice iA iN iC, .slice tA tN tC] 34)).alloc (.cells #[.int .i64 cd, .slice iA2 iN iC2, .slice tA2 tN tC2] 34) = W at *
  generalize hgb : w.heap.size + 1 = gb at *
  have B1 := Lib.hid b1; have B2 := Lib.hid b2; have HBEL := Lib.hid hbel
  have J1 := Lib.hid (I1.out.later hbel); have J2 := Lib.hid (I2.out.later hbel); have S1 := Lib.hid (T1.out.later hbel); have S2 := Lib.hid (T2.out.later hbel)
  have x0 := b1.cell 0
  have x1 := b1.cell 1
  have x2 := b1.cell 2
  have y0 := b2.cell 0
  have y1 := b2.cell 1
  have y2 := b2.cell 2
  simp at x0 x1 x2 y0 y1 y2
  clear b1 b2 hbel hgb I1 I2 T1 T2
  go_upto_region 4 with fail
  clear x0 x1 x2 y0 y1 y2
  go_wp2_with fail
  go_loopw [33] (fun v33 wr => ∃ (j : Nat), j ≤ iN ∧ v33 = .int .i64 j ∧ Hid (Below W.heap.size W wr)) (fun i _ => iN - (intOf i).toNat)
  case atStart => exact ⟨0, by omega, rfl, Lib.hid (Below.refl _ _)⟩
  case round =>
    obtain ⟨j, hj, rfl, hbw⟩ := hrel
    by_cases hlt : j < iN
    · have hjz : (j : Int) < iN := by omega
      obtain ⟨c, o, rfl, _, k0⟩ := (J1.out.below hbw.out).cell hlt
      obtain ⟨c2, o2, rfl, _, l0⟩ := (J2.out.below hbw.out).cell hlt
      have w3 : IntKind.i64.wrap ((j : Int) + 1) = j + 1 := IntWalk.i64_in _ (by omega)
      generalize I.getD j 0 = x at *
      have p1 : wr.cell? ⟨w.heap.size, 1, none⟩ = some (.slice (some ⟨c, o, none⟩) iN iC) := (hbw.out.cell B1.out.lt).trans (B1.out.cell 1)
      have p2 : wr.cell? ⟨gb, 1, none⟩ = some (.slice (some ⟨c2, o2, none⟩) iN iC2) := (hbw.out.cell B2.out.lt).trans (B2.out.cell 1)
      have HDR : Hid (∀ m, Below W.heap.size W (wr.drewN m)) := Lib.hid fun m => hbw.out.trans ((drewn2 wr m).mono hbw.out.size)
      go_upto_region 6 with fail
      go_quiet (fail)
      have HBQ := Lib.hid (HDR.out nq)
      generalize wr.drewN nq = wr3 at *
      go_wp2_with fail
      go_roundw
      case rel => exact ⟨j + 1, by omega, by go_num, HBQ⟩
      case measure => simp [intOf]; omega
    · have hje : ¬ (j : Int) < iN := by omega
      have x2 : wr.cell? ⟨w.heap.size, 2, none⟩ = some (.slice tA tN tC) := (hbw.out.cell B1.out.lt).trans (B1.out.cell 2)
      obtain rfl : j = iN := by omega
      go_wp2_with fail
      clear x2
      go_loopw [51] (fun v51 wr => ∃ (j : Nat), j ≤ tN ∧ v51 = .int .i64 j ∧ Hid (Below W.heap.size W wr)) (fun i _ => tN - (intOf i).toNat)
      case atStart => exact ⟨0, by omega, rfl, hbw⟩
      case round =>
        obtain ⟨i, hi2, rfl, hbq⟩ := hrel
        by_cases hlt2 : i < tN
        · have hiz : (i : Int) < tN := by omega
          obtain ⟨c, o, rfl, _, k0, k1, k2, k3, k4⟩ := (S1.out.below hbq.out).cell hlt2
          obtain ⟨c2, o2, rfl, _, l0, l1, l2, l3, l4⟩ := (S2.out.below hbq.out).cell hlt2
          have w3 : IntKind.i64.wrap ((i : Int) + 1) = i + 1 := IntWalk.i64_in _ (by omega)
          generalize (T.getD i TK.zero).id = x0 at *
          generalize (T.getD i TK.zero).ct = x1 at *
          generalize (T.getD i TK.zero).rc = x2 at *
          generalize (T.getD i TK.zero).bd = x3 at *
          generalize (T.getD i TK.zero).gr = x4 at *
          have p1 : wr.cell? ⟨w.heap.size, 2, none⟩ = some (.slice (some ⟨c, o, none⟩) tN tC) := (hbq.out.cell B1.out.lt).trans (B1.out.cell 2)
          have p2 : wr.cell? ⟨gb, 2, none⟩ = some (.slice (some ⟨c2, o2, none⟩) tN tC2) := (hbq.out.cell B2.out.lt).trans (B2.out.cell 2)
          have HDR : Hid (∀ m, Below W.heap.size W (wr.drewN m)) := Lib.hid fun m => hbq.out.trans ((drewn2 wr m).mono hbq.out.size)
          go_upto_region 12 with fail
          go_quiet (fail)
          have HBQ := Lib.hid (HDR.out nq)
          generalize wr.drewN nq = wr3 at *
          go_wp2_with fail
          go_roundw
          case rel => exact ⟨i + 1, by omega, by go_num, HBQ⟩
          case measure => simp [intOf]; omega
        · have hie : ¬ (i : Int) < tN := by omega
          go_wp2_with fail
          go_ret
          exact ⟨rfl, HBEL.out.trans (hbq.out.mono HBEL.out.size)⟩
end Go.Proofs.YtkdncnhjlgidnaaGreatDoor

namespace Go.Proofs.YtkdncnhjlgidnaaGreatDoor
open Go Go.RowKit Go.Maps

theorem AM.size3 (c : AM) : c.cells.size = 3 := rfl
theorem boxed_ans (w : World) (cs : Array Value) : Blk ((w.alloc (.cells AM.zero.cells 27)).setRow w.heap.size cs) w.heap.size 27 cs ∧ Below w.heap.size w ((w.alloc (.cells AM.zero.cells 27)).setRow w.heap.size cs) :=
  ⟨setRow_heap _ _ _ cs _ _ (heap_alloc_new w (.cells AM.zero.cells 27)), below_setRow ((Below.refl _ _).alloc (Nat.le_refl _) _) (Nat.le_refl _) _⟩
theorem boxed_refA (w : World) (cs : Array Value) : Blk ((w.alloc (.cells AM.zero.cells 34)).setRow w.heap.size cs) w.heap.size 34 cs ∧ Below w.heap.size w ((w.alloc (.cells AM.zero.cells 34)).setRow w.heap.size cs) :=
  ⟨setRow_heap _ _ _ cs _ _ (heap_alloc_new w (.cells AM.zero.cells 34)), below_setRow ((Below.refl _ _).alloc (Nat.le_refl _) _) (Nat.le_refl _) _⟩
/-- An answer as the document has it is alike the document's. -/
def AnsSaid (cs2 : Array Value) (W : World) (e : Ending) (w' : World) : Prop :=
  ∃ cs3 : Array Value, e = .returned (.agg cs3) ∧ Below W.heap.size W w' ∧ Hid (∀ W', Below w'.heap.size w' W' → Calls Tryz.prog 8 #[.agg cs3, .agg cs2] W' fun e w2 => e = .returned (.bool true) ∧ Below W'.heap.size W' w2)
theorem ans_alike (a b : AM) (I : List Int) (T : List TK) (w : World) (hc : a.cd = b.cd) (i1 : Rd w w.heap.size .i64 a.iA a.iN a.iC I) (i2 : Rd w w.heap.size .i64 b.iA b.iN b.iC I) (t1 : KRd w w.heap.size a.tA a.tN a.tC T) (t2 : KRd w w.heap.size b.tA b.tN b.tC T) (hi : a.iN ≤ 1000) (ht : a.tN ≤ 1000) (W : World) (hW : Below w.heap.size w W) :
    Calls Tryz.prog 9 #[.agg a.cells] W (AnsSaid b.cells W) := by
  refine (RefAns_any a T W (t1.later hW) ht).mono ?_
  rintro e w' ⟨tA, tC, rfl, hb, hk⟩
  refine ⟨_, rfl, hb, Lib.hid fun W' hW' => ?_⟩
  have hb2 := hb.trans (hW'.mono hb.size)
  exact Alike_any ⟨a.cd, a.iA, a.iN, a.iC, tA, a.tN, tC⟩ b I T W' hc ((i1.later hW).later hb2) ((i2.later hW).later hb2) (hk.later hW') ((t2.later hW).later hb2) (by show a.iN ≤ 1000000; omega) (by show a.tN ≤ 1000000; omega)
theorem goNums_few (xs : List Int) (p y : Nat) : (goNums xs p y 10).1.length ≤ 10 := by
  by_cases h : y = 0
  · subst h
    rcases goNum_cases xs p with ⟨v, q, h⟩ | h | h
    · by_cases hm : (10 : Int) < v
      · rw [goNums_much h hm]; simp
      · obtain ⟨e, hq⟩ := numF_of_goNum h
        unfold goNums numsR
        rw [if_pos rfl, e]
        simp only [if_true, if_neg hm]
        rcases numsF_is v [] 0 (xs.drop (p + (q - p))) with ⟨r, u, e2, _, _, h3⟩ | ⟨er, e2, he⟩
        · rw [e2]
          simp only [if_true]
          simp at h3
          omega
        · rw [e2, if_neg (by show ¬ er = 0; omega)]
          simp
    · rw [goNums_head (er := 2) (by rw [h]) (by omega)]; simp
    · rw [goNums_head (er := 3) (by rw [h]) (by omega)]; simp
  · rw [goNums_stop h]; simp
/-- What both reads answer, side by side. -/
theorem tells_same {R : ARaw} {xs : List Int} (hR : araw xs = R) (hb : ∀ x ∈ xs, 0 ≤ x ∧ x < 256) {n : Nat} (hn : n = xs.length) {w1 w3 w4 : World} {a1 a2 : AM} {er : Value} {er2 : Nat} (hE : ErrType w4)
    (h1 : APost R xs a1 er w1) (h2 : TPost R n a2 er2 w3) (b1 : Below w1.heap.size w1 w4) (b3 : Below w3.heap.size w3 w4) :
    (∀ W, Below w4.heap.size w4 W → Calls Tryz.prog 7 #[er] W fun e w' => e = .returned (.int .i64 (er2 : Nat)) ∧ Below W.heap.size W w') ∧
      (∀ W, Below w4.heap.size w4 W → Calls Tryz.prog 9 #[.agg a1.cells] W (AnsSaid a2.cells W)) ∧
      (er2 = 0 → ∀ W, Below w4.heap.size w4 W → Calls Tryz.prog 11 #[.agg a2.cells] W fun e w' => ∃ v, e = .returned v ∧ Own10 w' W.heap.size v xs ∧ Below W.heap.size W w') := by
  subst hn
  obtain ⟨ns, nb⟩ := tells_no hR hb
  have hk : R.tks.length ≤ 10 ∧ R.ids.length ≤ 10 := by
    rw [← hR]
    refine ⟨?_, goNums_few xs _ _⟩
    show (rdK xs _ _ (min _ 10)).1.length ≤ 10
    rw [rdK_len]
    omega
  unfold APost at h1
  unfold TPost at h2
  rw [ns] at h2
  rcases h1 with ⟨k1, rfl, k3⟩ | ⟨k1, rfl, k2, k3, k4⟩
  · rcases h2 with ⟨m1, rfl, rfl⟩ | ⟨m1, _⟩
    · refine ⟨fun W hW => ?_, fun W hW => ?_, fun h => absurd h k1⟩
      · obtain ⟨u, x, rfl⟩ := k3.iface
        exact Code_c _ u x W (hE.below hW) (k3.below (b1.trans (hW.mono b1.size)))
      · exact ans_alike AM.zero AM.zero [] [] W rfl (Rd.none_ _ _ _) (Rd.none_ _ _ _) (KRd.none_ _ _) (KRd.none_ _ _) (by decide) (by decide) W (Below.refl _ _)
    · exact absurd m1 k1
  · rcases h2 with ⟨m1, _⟩ | ⟨_, rfl, m2, m3, m4⟩
    · exact absurd k1 m1
    · have c1 := (k3.later b1); have c2 := (k4.later b1); have c3 := (m3.later b3); have c4 := (m4.later b3)
      refine ⟨fun W hW => Code_nil W, fun W hW => ?_, fun _ W hW => ?_⟩
      · exact ans_alike a1 a2 R.ids R.tks w4 (k2.trans m2.symm) c1 c3 c2 c4 (by rw [← k3.len]; omega) (by rw [← k4.len]; omega) W hW
      · rw [ns] at nb
        obtain ⟨n1, n2⟩ := nb k1
        have := WriteAnswer10_any a2 R.ids R.tks W (c3.later hW) (c4.later hW) (by rw [m2]; exact n1)
        rw [m2, n2] at this
        exact this

set_option maxHeartbeats 12800000 in
set_option maxRecDepth 100000 in
theorem tells_any (A : Option Addr) (n d : Nat) (xs : List Int) (w : World) (hE : ErrType w) (h : Rd w w.heap.size .u8 A n d xs) (hx : ∀ x ∈ xs, 0 ≤ x ∧ x < 256) :
    Calls Tryz.prog 3 #[.slice A n d] w fun e w' => e = .returned (.bool true) ∧ Below w.heap.size w w' := by
  have hlen := h.len
  by_cases h3 : 3000 < n
  · have h3z : (3000 : Int) < n := by omega
    clear h hx hE
    go_enter Tryz.func3, Tryz.ntmps3
    go_wp2_with (go_at_call 4; refine (awake_any _).mono ?_; rintro e w2 ⟨rfl, hb2⟩; have HB := Lib.hid hb2; clear hb2)
    go_ret
    exact ⟨rfl, HB.out⟩
  · have h3z : ¬ (3000 : Int) < n := by omega
    obtain ⟨R, hR⟩ : ∃ R, araw xs = R := ⟨_, rfl⟩
    have HRD := Lib.hid h; have HX := Lib.hid hx; have HE := Lib.hid hE; have HR := Lib.hid hR; have HLEN := Lib.hid hlen
    have HP : Hid (∀ W, Below w.heap.size w W → Calls Tryz.prog 5 #[.slice A n d] W fun e w' => ∃ (c : AM) (er : Value), e = .returned (.tuple #[.agg c.cells, er]) ∧ Below W.heap.size W w' ∧ APost R xs c er w') := Lib.hid fun W hW => ReadAnswer_any A n d xs W ((h.below hW).more hW.size) hx (by omega) R hR
    have HQ : Hid (∀ W, Below w.heap.size w W → Calls Tryz.prog 6 #[.slice A n d] W fun e w' => ∃ (c : AM) (er : Nat), e = .returned (.tuple #[.agg c.cells, .int .i64 er]) ∧ Below W.heap.size W w' ∧ TPost R n c er w') := Lib.hid fun W hW => ReadAnswer10_any A n d xs W ((h.below hW).more hW.size) hx (by omega) R hR
    clear h hx hE hR hlen
    go_enter Tryz.func3, Tryz.ntmps3
    go_upto_region 4 with (first
      | (go_at_call 5; refine (HP.out _ (Below.refl _ _)).mono ?_; rintro e w1 ⟨c1, er, rfl, hb1, hp1⟩
         have HB1 := Lib.hid hb1; have HP1 := Lib.hid hp1; have I1 := Lib.hid c1.info; have O1 := Lib.hid c1.ones; have S1 := Lib.hid c1.size3
         obtain ⟨cs1, hcs1⟩ : ∃ cs1, cs1 = c1.cells := ⟨_, rfl⟩
         rw [← hcs1] at I1 O1 S1
         rw [← hcs1]
         have HC1 := Lib.hid hcs1
         clear hb1 hp1 hcs1)
      | (with_reducible refine at_dst (o := ⟨none, .store 27 (.tmp 3) (.tmp 14), _, _, _, _⟩) none rfl ?_
         refine wpList_store_row rfl 27 (.tmp 3) (.tmp 14) rfl w1.heap.size cs1 rfl rfl 27 AM.zero.cells (heap_alloc_new w1 _) I1.out (by rw [S1.out]; rfl) O1.out ?_))
    change Code.wp _ _ _ _ ((w1.alloc (.cells AM.zero.cells 27)).setRow w1.heap.size cs1)
    obtain ⟨hx1, hx2⟩ := boxed_ans w1 cs1
    generalize (w1.alloc (.cells AM.zero.cells 27)).setRow w1.heap.size cs1 = w2 at *
    have HX1 := Lib.hid hx1; have HB12 := Lib.hid hx2; have HB2 := Lib.hid (HB1.out.trans (hx2.mono HB1.out.size))
    clear hx1 hx2
    generalize w1.heap.size = p3 at HX1 ⊢
    go_upto_region 5 with (first
      | (go_at_call 6; refine (HQ.out w2 HB2.out).mono ?_; rintro e w3 ⟨c2, er2, rfl, hb3, hp3⟩
         have HB3 := Lib.hid (HB2.out.trans (hb3.mono HB2.out.size)); have HB13 := Lib.hid (HB12.out.trans (hb3.mono HB12.out.size)); have HP3 := Lib.hid hp3; have HX3 := Lib.hid (HX1.out.below hb3 HX1.out.lt)
         have I2 : Hid ((Tryz.prog.info? 34).map (·.size) = some c2.cells.size) := Lib.hid info_ref_ans
         have O2 := Lib.hid c2.ones; have S2 := Lib.hid c2.size3
         obtain ⟨cs2, hcs2⟩ : ∃ cs2, cs2 = c2.cells := ⟨_, rfl⟩
         rw [← hcs2] at I2 O2 S2
         rw [← hcs2]
         have HC2 := Lib.hid hcs2
         clear hb3 hp3 hcs2)
      | (with_reducible refine at_dst (o := ⟨none, .store 34 (.tmp 5) (.tmp 19), _, _, _, _⟩) none rfl ?_
         refine wpList_store_row rfl 34 (.tmp 5) (.tmp 19) rfl w3.heap.size cs2 rfl rfl 34 AM.zero.cells (heap_alloc_new w3 _) I2.out (by rw [S2.out]; rfl) O2.out ?_))
    change Code.wp _ _ _ _ ((w3.alloc (.cells AM.zero.cells 34)).setRow w3.heap.size cs2)
    obtain ⟨hx1, hx2⟩ := boxed_refA w3 cs2
    generalize (w3.alloc (.cells AM.zero.cells 34)).setRow w3.heap.size cs2 = w4 at *
    have HBEL := Lib.hid (HB3.out.trans (hx2.mono HB3.out.size))
    obtain ⟨hc, hs, hw⟩ := tells_same HR.out HX.out HLEN.out.symm (HE.out.below (HBEL.out.mono (Nat.le_refl _))) HP1.out HP3.out (HB13.out.trans (hx2.mono HB13.out.size)) hx2
    rw [← HC1.out, ← HC2.out] at hs
    rw [← HC2.out] at hw
    have HRC := Lib.hid hs
    have HCO := Lib.hid hc; have HWR := Lib.hid hw
    have hS0 : Blk w4.drew p3 27 cs1 ∧ Blk w4.drew w3.heap.size 34 cs2 := ⟨(HX3.out.below hx2 HX3.out.lt).drew, hx1.drew⟩
    clear hc hs hw hx1 hx2 HP HQ HP1 HP3 HB1 HB12 HB2 HB3 HB13 HX1 HX3
    generalize w3.heap.size = p5 at hS0 ⊢
    have HB4 : Hid (Below w4.heap.size w4 w4.drew) := Lib.hid ((Below.refl _ _).drew)
    refine wp_region_G (fun w' => Blk w' p3 27 cs1 ∧ Blk w' p5 34 cs2) 11 (by kernel_rfl) ?_
    have HBD : Hid (Below w.heap.size w w4.drew) := Lib.hid HBEL.out.drew
    generalize hwd : w4.drew = wd at *
    clear hwd
    refine wpAnyG_take (i := 0) (oi := ⟨some 21, _, _, _, _, _⟩) (v := er) rfl (by kernel_rfl) (by kernel_rfl) (by kernel_rfl) (by kernel_rfl) (fun _ _ _ h => h) (Or.inl ⟨by kernel_rfl, ?_⟩) hS0 ?_
    · intro wS hSw
      clear hSw
      go_simp
      try rfl
    try simp only [Act.put]
    refine wpAnyG_take (i := 2) (oi := ⟨some 23, _, _, _, _, _⟩) (v := .int .i64 (er2 : Nat)) rfl (by kernel_rfl) (by kernel_rfl) (by kernel_rfl) (by kernel_rfl) (fun _ _ _ h => h) (Or.inl ⟨by kernel_rfl, ?_⟩) hS0 ?_
    · intro wS hSw
      clear hSw
      go_simp
      try rfl
    try simp only [Act.put]
    refine wpAnyG_one (i := 1) (o := ⟨some 22, _, _, _, _, _⟩) (by kernel_rfl) rfl (fun K hK => ?_)
    go_simp
    refine (HCO.out wd HB4.out).mono ?_
    rintro e w5 ⟨rfl, hb⟩
    have HB5 := Lib.hid (HB4.out.trans (hb.mono HB4.out.size))
    have hS1 : Blk w5 p3 27 cs1 ∧ Blk w5 p5 34 cs2 := ⟨hS0.1.below hb hS0.1.lt, hS0.2.below hb hS0.2.lt⟩
    clear hb hS0
    have hS0 := hS1
    clear hS1
    dsimp only
    refine hK.out _ _ (fun _ => hS0) ?_
    clear hK K
    try simp only [Act.put]
    refine wpAnyG_take (i := 3) (oi := ⟨some 24, _, _, _, _, _⟩) (v := .bool false) rfl (by kernel_rfl) (by kernel_rfl) (by kernel_rfl) (by kernel_rfl) (fun _ _ _ h => h) (Or.inl ⟨by kernel_rfl, ?_⟩) hS0 ?_
    · intro wS hSw
      clear hSw
      go_simp
      try rfl
    try simp only [Act.put]
    refine wpAnyG_take (i := 4) (oi := ⟨some 25, _, _, _, _, _⟩) (v := .bool false) rfl (by kernel_rfl) (by kernel_rfl) (by kernel_rfl) (by kernel_rfl) (fun _ _ _ h => h) (Or.inl ⟨by kernel_rfl, ?_⟩) hS0 ?_
    · intro wS hSw
      clear hSw
      go_simp
      try rfl
    try simp only [Act.put]
    refine wpAnyG_take (i := 5) (oi := ⟨some 26, _, _, _, _, _⟩) (v := .agg cs1) rfl (by kernel_rfl) (by kernel_rfl) (by kernel_rfl) (by kernel_rfl) (fun _ _ _ h => h) (Or.inl ⟨by kernel_rfl, ?_⟩) hS0 ?_
    · intro wS hSw
      exact yields_row10 27 (.tmp 3) rfl p3 (by kernel_rfl) 27 cs1 (0, 0) _ hSw.1 Tryz.underlying27 rfl I1.out
    try simp only [Act.put]
    refine wpAnyG_take (i := 7) (oi := ⟨some 28, _, _, _, _, _⟩) (v := .agg cs2) rfl (by kernel_rfl) (by kernel_rfl) (by kernel_rfl) (by kernel_rfl) (fun _ _ _ h => h) (Or.inl ⟨by kernel_rfl, ?_⟩) hS0 ?_
    · intro wS hSw
      exact yields_row10 34 (.tmp 5) rfl p5 (by kernel_rfl) 34 cs2 (0, 0) _ hSw.2 Tryz.underlying34 rfl I2.out
    try simp only [Act.put]
    refine wpAnyG_one (i := 6) (o := ⟨some 27, _, _, _, _, _⟩) (by kernel_rfl) rfl (fun K hK => ?_)
    rw [if_pos (by kernel_rfl)]
    go_simp
    refine (HRC.out w5 HB5.out).mono ?_
    rintro e w6 ⟨cs3, rfl, hb, HSA⟩
    have HB6 := Lib.hid (HB5.out.trans (hb.mono HB5.out.size))
    have hS1 : Blk w6 p3 27 cs1 ∧ Blk w6 p5 34 cs2 := ⟨hS0.1.below hb hS0.1.lt, hS0.2.below hb hS0.2.lt⟩
    clear hb hS0
    have hS0 := hS1
    clear hS1
    dsimp only
    refine hK.out _ _ (fun _ => hS0) ?_
    clear hK K
    try simp only [Act.put]
    refine wpAnyG_one (i := 8) (o := ⟨some 29, _, _, _, _, _⟩) (by kernel_rfl) rfl (fun K hK => ?_)
    rw [if_pos (by kernel_rfl)]
    go_simp
    refine (HSA.out w6 (Below.refl _ _)).mono ?_
    rintro e w7 ⟨rfl, hb⟩
    have HB7 := Lib.hid (HB6.out.trans (hb.mono HB6.out.size))
    have hS1 : Blk w7 p3 27 cs1 ∧ Blk w7 p5 34 cs2 := ⟨hS0.1.below hb hS0.1.lt, hS0.2.below hb hS0.2.lt⟩
    clear hb hS0
    have hS0 := hS1
    clear hS1
    dsimp only
    refine hK.out _ _ (fun _ => hS0) ?_
    clear hK K
    try simp only [Act.put]
    refine wpAnyG_take (i := 9) (oi := ⟨some 30, _, _, _, _, _⟩) (v := .bool false) rfl (by kernel_rfl) (by kernel_rfl) (by kernel_rfl) (by kernel_rfl) (fun _ _ _ h => h) (Or.inl ⟨by kernel_rfl, ?_⟩) hS0 ?_
    · intro wS hSw
      clear hSw
      go_simp
      try rfl
    try simp only [Act.put]
    refine wpAnyG_take (i := 10) (oi := ⟨some 31, _, _, _, _, _⟩) (v := .bool false) rfl (by kernel_rfl) (by kernel_rfl) (by kernel_rfl) (by kernel_rfl) (fun _ _ _ h => h) (Or.inl ⟨by kernel_rfl, ?_⟩) hS0 ?_
    · intro wS hSw
      clear hSw
      go_simp
      try rfl
    try simp only [Act.put]
    refine wpAnyG_done (by kernel_rfl) ?_ _
    have HB8 := Lib.hid (HBEL.out.trans (HB7.out.mono HBEL.out.size))
    have HX8 := Lib.hid hS0.2
    clear hS0 HCO HRC HB4 HBD HB5 HB6
    by_cases he : er2 = 0
    · subst he
      have HW10 := Lib.hid (HWR.out rfl w7 HB7.out)
      have HRW := Lib.hid ((HRD.out.below HB8.out).more HB8.out.size)
      clear HWR HRD
      go_wp2_with (first
        | (with_reducible refine at_dst (o := ⟨some 35, _, _, _, _, _⟩) (some 35) rfl ?_
           refine load_row_g (by kernel_rfl) 34 (.tmp 5) rfl p5 rfl 34 cs2 (0, 0) _ HX8.out Tryz.underlying34 rfl I2.out ?_)
        | (go_at_call 11; refine HW10.out.mono ?_; rintro e w9 ⟨v9, rfl, hown, hb⟩
           have HB9 := Lib.hid (HB8.out.trans (hb.mono HB8.out.size)); have HRW9 := Lib.hid ((HRW.out.below hb).more hb.size)
           obtain ⟨A9, d9, rfl, hr9⟩ := Rd.of_own hown
           have HR9 := Lib.hid hr9
           clear hown hr9 hb)
        | (go_at_call 10; refine (Equal_any A9 A _ d9 n d _ _ xs xs w9 HR9.out HRW9.out HX.out HX.out).mono ?_; rw [decide_eq_true rfl]; rintro e w10 ⟨rfl, rfl⟩)
        | (go_at_call 4; refine (awake_any _).mono ?_; rintro e w11 ⟨rfl, hb⟩; have HB11 := Lib.hid (HB9.out.trans (hb.mono HB9.out.size)); clear hb))
      go_ret
      exact ⟨rfl, HB11.out⟩
    · have dd : ((er2 : Int) == 0) = false := by simpa using he
      clear HWR HRD
      go_wp2_with (go_at_call 4; refine (awake_any _).mono ?_; rintro e w11 ⟨rfl, hb⟩; have HB11 := Lib.hid (HB8.out.trans (hb.mono HB8.out.size)); clear hb)
      go_ret
      exact ⟨rfl, HB11.out⟩
end Go.Proofs.YtkdncnhjlgidnaaGreatDoor
