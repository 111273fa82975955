/- What is proved here: plain lemmas on frames: what was sealed is read. No program is named. -/
import Derived.Test.YtnomicnmpllajaaGreatDoorPFu7
section
namespace Go.Proofs.YtnomicnmpllajaaGreatDoor
open Go Go.RowKit

theorem sealF_app (xs ys : List Int) : sealF xs ++ ys = headF xs ++ (lowB 4 (sumL (headF xs ++ xs)) ++ (xs ++ ys)) := by
  unfold sealF; rw [List.append_assoc, List.append_assoc]
theorem headF_bytes (xs : List Int) : ∀ x ∈ headF xs, 0 ≤ x ∧ x < 256 := lowB_bytes _ _
theorem take_app {l m : List Int} {k : Nat} (h : l.length = k) : (l ++ m).take k = l := by subst h; exact List.take_left
theorem drop_app {l m : List Int} {k : Nat} (h : l.length = k) : (l ++ m).drop k = m := by subst h; exact List.drop_left
theorem seal_take2 (xs ys : List Int) : (sealF xs ++ ys).take 2 = headF xs := by rw [sealF_app, take_app (headF_length xs)]
theorem seal_sum (xs ys : List Int) : ((sealF xs ++ ys).drop 2).take 4 = lowB 4 (sumL (headF xs ++ xs)) := by
  rw [sealF_app, drop_app (headF_length xs), take_app (lowB_length _ _)]
theorem seal_drop6 (xs ys : List Int) : (sealF xs ++ ys).drop 6 = xs ++ ys := by
  rw [sealF_app, ← List.append_assoc]
  exact drop_app (by rw [List.length_append, headF_length, lowB_length])
theorem headF_low {xs : List Int} (h : xs.length < 65536) : lowN (headF xs) = xs.length := by
  unfold headF
  rw [lowN_lowB]
  exact Nat.mod_eq_of_lt h
theorem seal_size {xs : List Int} (h : xs.length < 65536) (ys : List Int) : sizeF (sealF xs ++ ys) = xs.length := by
  unfold sizeF; rw [seal_take2, headF_low h]
theorem seal_body {xs : List Int} (h : xs.length < 65536) (ys : List Int) : ((sealF xs ++ ys).drop 6).take (sizeF (sealF xs ++ ys)) = xs := by
  rw [seal_size h, seal_drop6, take_app rfl]
theorem seal_rest {xs : List Int} (h : xs.length < 65536) (ys : List Int) : (sealF xs ++ ys).drop (6 + sizeF (sealF xs ++ ys)) = ys := by
  rw [seal_size h]
  exact drop_app (by rw [sealF_length]; omega)
theorem sum_low {xs : List Int} (h : ∀ x ∈ xs, 0 ≤ x ∧ x < 256) : lowN (lowB 4 (sumL xs)) = sumL xs := by
  rw [lowN_lowB]
  exact Nat.mod_eq_of_lt (sumL_lt xs h)
theorem seal_sumF {xs : List Int} (h : xs.length < 65536) (hx : ∀ x ∈ xs, 0 ≤ x ∧ x < 256) (ys : List Int) : sumF (sealF xs ++ ys) = true := by
  unfold sumF
  rw [seal_sum, seal_body h, seal_take2, sum_low (bytes_app (headF_bytes xs) hx)]
  exact decide_eq_true rfl
theorem seal_why {xs : List Int} (h : xs.length ≤ 4096) (hx : ∀ x ∈ xs, 0 ≤ x ∧ x < 256) (ys : List Int) : whyF (sealF xs ++ ys) = 0 := by
  unfold whyF
  rw [if_neg (by rw [List.length_append, sealF_length]; omega), seal_size (by omega), if_neg (by omega), if_neg (by rw [List.length_append, sealF_length]; omega), seal_sumF (by omega) hx, if_pos rfl]
/-- Where a frame begins, it is one. -/
theorem why_zero {xs : List Int} (hx : ∀ x ∈ xs, 0 ≤ x ∧ x < 256) (h : whyF xs = 0) : 6 + sizeF xs ≤ xs.length ∧ sizeF xs ≤ 4096 ∧ xs.take (6 + sizeF xs) = sealF ((xs.drop 6).take (sizeF xs)) := by
  unfold whyF at h
  split at h
  · omega
  · rename_i h1
    split at h
    · omega
    · rename_i h2
      split at h
      · omega
      · rename_i h3
        split at h
        · rename_i h4
          refine ⟨by omega, by omega, ?_⟩
          have hl : ((xs.drop 6).take (sizeF xs)).length = sizeF xs := by rw [List.length_take, List.length_drop]; omega
          have e1 : xs.take (6 + sizeF xs) = xs.take 2 ++ ((xs.drop 2).take 4 ++ (xs.drop 6).take (sizeF xs)) := by
            rw [List.take_add, show (6 : Nat) = 2 + 4 from rfl, List.take_add, List.append_assoc]
          have e2 : xs.take 2 = headF ((xs.drop 6).take (sizeF xs)) := by
            unfold headF
            rw [hl]
            have := lowB_lowN (xs.take 2) (take_bytes hx 2)
            rw [show (xs.take 2).length = 2 by rw [List.length_take]; omega] at this
            exact this.symm
          have e3 : (xs.drop 2).take 4 = lowB 4 (sumL (headF ((xs.drop 6).take (sizeF xs)) ++ (xs.drop 6).take (sizeF xs))) := by
            unfold sumF at h4
            rw [decide_eq_true_eq] at h4
            rw [← e2, ← h4]
            have := lowB_lowN ((xs.drop 2).take 4) (take_bytes (drop_bytes hx 2) 4)
            rw [show ((xs.drop 2).take 4).length = 4 by rw [List.length_take, List.length_drop]; omega] at this
            exact this.symm
          rw [e1]
          unfold sealF
          rw [← e2, ← List.append_assoc]
          congr 1
          congr 1
          rw [e3, ← e2]
        · omega
end Go.Proofs.YtnomicnmpllajaaGreatDoor
end
