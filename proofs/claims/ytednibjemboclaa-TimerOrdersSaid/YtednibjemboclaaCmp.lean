/- What is proved here: what 'compare', and the library's two functions that it calls, answer. -/
import Derived.Test.YtednibjemboclaaPut
import Derived.Sort.Grow
import Derived.Outline
namespace Go.Proofs.Ytednibjemboclaa
open Go Go.RowKit Go.Sort

def cmp1 (a b : Int) : Int := if a < b then -1 else if b < a then 1 else 0
theorem Compare_any (a b : Int) (w : World) : Calls Try.prog 37 #[.int .i64 a, .int .i64 b] w fun e w' => e = .returned (.int .i64 (cmp1 a b)) ∧ w' = w := by
  rcases Int.lt_trichotomy a b with h | h | h
  · have HC : Hid (cmp1 a b = -1) := Lib.hid (by unfold cmp1; rw [if_pos h])
    go_enter Try.func37, Try.ntmps37
    go_wp2
    go_ret
    exact ⟨by rw [HC.out]; rfl, rfl⟩
  · subst h
    have HC : Hid (cmp1 a a = 0) := Lib.hid (by unfold cmp1; rw [if_neg (by omega), if_neg (by omega)])
    go_enter Try.func37, Try.ntmps37
    go_wp2
    go_ret
    exact ⟨by rw [HC.out]; rfl, rfl⟩
  · have HC : Hid (cmp1 a b = 1) := Lib.hid (by unfold cmp1; rw [if_neg (by omega), if_pos h])
    have h2 : ¬ a < b := by omega
    go_enter Try.func37, Try.ntmps37
    go_wp2
    go_ret
    exact ⟨by rw [HC.out]; rfl, rfl⟩
def or2 (a b : Int) : Int := if a = 0 then b else a
theorem Or_any (a b : Int) (r : Nat) (w : World) (h0 : w.cell? ⟨r, 0, none⟩ = some (.int .i64 a)) (h1 : w.cell? ⟨r, 1, none⟩ = some (.int .i64 b)) :
    Calls Try.prog 36 #[.slice (some ⟨r, 0, none⟩) 2 2] w fun e w' => e = .returned (.int .i64 (or2 a b)) ∧ w' = w := by
  by_cases ha : a = 0
  · subst ha
    have HC : Hid (or2 0 b = b) := Lib.hid rfl
    go_enter Try.func36, Try.ntmps36
    go_wp2
    go_loop [8] (fun i => ∃ k : Nat, i = .int .i64 k ∧ k ≤ 2 ∧ (k = 2 → b = 0)) (fun i => 2 - (intOf i).toNat)
    case atStart => exact ⟨0, rfl, by omega, fun h => by omega⟩
    case round =>
      obtain ⟨k, rfl, hk, hb⟩ := hrel
      have hk3 : k = 0 ∨ k = 1 ∨ k = 2 := by omega
      rcases hk3 with rfl | rfl | rfl
      · go_wp2
        go_round
        case rel => exact ⟨1, rfl, by omega, fun h => by omega⟩
        case measure => simp [intOf]
      · clear hb
        by_cases hb2 : b = 0
        · subst hb2
          go_wp2
          go_round
          case rel => exact ⟨2, rfl, by omega, fun h => by first | rfl | trivial⟩
          case measure => simp [intOf]
        · have hb3 : (b == 0) = false := by simpa using hb2
          clear hb2
          go_wp2
          go_ret
          exact ⟨by rw [HC.out]; rfl, rfl⟩
      · obtain rfl := hb rfl
        go_wp2
        go_ret
        exact ⟨by rw [HC.out]; rfl, rfl⟩
  · have ha2 : (a == 0) = false := by simpa using ha
    have HC : Hid (or2 a b = a) := Lib.hid (by unfold or2; rw [if_neg ha])
    clear ha
    go_enter Try.func36, Try.ntmps36
    go_wp2
    refine wp_loop_rounds 3 ?_
    simp only [rounds_succ]
    go_wp2
    go_ret
    exact ⟨by rw [HC.out]; rfl, rfl⟩
theorem cmpf_or (x y : It) : or2 (cmp1 x.2 y.2) (cmp1 x.1 y.1) = cmpf x y := by
  unfold or2 cmp1 cmpf
  by_cases h1 : x.2 < y.2
  · simp [h1]
  · by_cases h2 : y.2 < x.2
    · simp [h1, h2]
    · simp [h1, h2]

set_option maxHeartbeats 800000 in
set_option maxRecDepth 100000 in
theorem compare_any (x y : It) (w : World) :
    Calls Try.prog 29 #[.agg #[.int .i64 x.1, .int .i64 x.2], .agg #[.int .i64 y.1, .int .i64 y.2]] w fun e w' => e = .returned (.int .i64 (cmpf x y)) ∧ ∃ q os', w' = grow (w.drewN q) os' := by
  obtain ⟨W, hW⟩ : ∃ W, W = (w.alloc (.cells #[.int .i64 x.1, .int .i64 x.2] 41)).alloc (.cells #[.int .i64 y.1, .int .i64 y.2] 41) := ⟨_, rfl⟩
  have q0 : W.cell? ⟨w.heap.size, 0, none⟩ = some (.int .i64 x.1) := by rw [hW]; simp
  have q1 : W.cell? ⟨w.heap.size, 1, none⟩ = some (.int .i64 x.2) := by rw [hW]; simp
  have q2 : W.cell? ⟨w.heap.size + 1, 0, none⟩ = some (.int .i64 y.1) := by rw [hW]; simp
  have q3 : W.cell? ⟨w.heap.size + 1, 1, none⟩ = some (.int .i64 y.2) := by rw [hW]; simp
  have HW := Lib.hid hW
  have HC := Lib.hid (cmpf_or x y)
  clear hW
  go_enter Try.func29, Try.ntmps29
  go_wp2_with fail
  rw [← HW.out]
  go_still_tail 10, (by kernel_rfl)
  still_call (Compare_any x.2 y.2 _)
  repeat still_step
  still_call (Compare_any x.1 y.1 _)
  refine wpStill_nil ?_
  change wpList _ _ _ _ _ W.drew
  generalize hWd : W.drew = W2
  have HD := Lib.hid hWd
  clear hWd q0 q1 q2 q3
  go_wp2_with (go_at_call 36; refine (Or_any (cmp1 x.2 y.2) (cmp1 x.1 y.1) W2.heap.size _ (by simp) (by simp)).mono ?_; rintro e w1 ⟨rfl, rfl⟩)
  go_ret
  refine ⟨by rw [← HC.out]; rfl, 1, #[.cells #[.int .i64 x.1, .int .i64 x.2] 41, .cells #[.int .i64 y.1, .int .i64 y.2] 41, .cells #[.int .i64 (cmp1 x.2 y.2), .int .i64 (cmp1 x.1 y.1)] 3], ?_⟩
  rw [← HD.out, HW.out]
  rw [alloc_eq_grow, alloc_eq_grow, alloc_eq_grow]
  rfl
end Go.Proofs.Ytednibjemboclaa
