/- What is proved here: 'FrameApart' returns true for any two rows of bytes, whatever the memory in which it is called, and nothing that was there has changed. -/
import Derived.Test.YtbdfhlgpbhcjcaaAwake
namespace Go.Proofs.Ytbdfhlgpbhcjcaa
open Go Go.RowKit

theorem sealF_inj (xs ys : List Int) : decide (sealF xs = sealF ys) = decide (xs = ys) := by
  by_cases h : xs = ys
  · subst h; simp
  · rw [decide_eq_false h, decide_eq_false]
    intro e
    apply h
    have h1 := seal_drop6 xs []
    have h2 := seal_drop6 ys []
    rw [List.append_nil, List.append_nil] at h1 h2
    rw [← h1, ← h2, e]

set_option maxHeartbeats 1600000 in
set_option maxRecDepth 100000 in
theorem apart_short (A B : Option Addr) (n c m d : Nat) (xs ys : List Int) (w : World) (h : Rd w w.heap.size .u8 A n c xs) (hx : ∀ x ∈ xs, 0 ≤ x ∧ x < 256) (k : Rd w w.heap.size .u8 B m d ys) (hy : ∀ x ∈ ys, 0 ≤ x ∧ x < 256) (hn : n ≤ 600) (hm : m ≤ 600) :
    Calls Try.prog 9 #[.slice A n c, .slice B m d] w fun e w' => e = .returned (.bool true) ∧ Below w.heap.size w w' := by
  have h1 : ¬ ((600 : Int) < n) := by omega
  have h2 : ¬ ((600 : Int) < m) := by omega
  have h3 : decide ((600 : Int) < n) = false := by simpa using h1
  have h4 : decide ((600 : Int) < m) = false := by simpa using h2
  have HX := Lib.hid hx
  have HY := Lib.hid hy
  clear hx hy
  go_enter Try.func9, Try.ntmps9
  go_wp2_with fail
  refine (Seal_any A n c xs w h HX.out (by omega)).mono ?_
  rintro e w1 ⟨v1, rfl, hown1, hb1⟩
  obtain ⟨A1, c1, rfl, hr1⟩ := Rd.of_own hown1
  clear hown1
  go_wp2_with fail
  refine (Seal_any B m d ys w1 ((k.below hb1).more hb1.size) HY.out (by omega)).mono ?_
  rintro e w2 ⟨v2, rfl, hown2, hb2⟩
  obtain ⟨A2, c2, rfl, hr2⟩ := Rd.of_own hown2
  have hb := hb1.trans (hb2.mono hb1.size)
  have hr1' := hr1.below hb2
  have H1 := Equal_any A1 A2 (n + 6) c1 (m + 6) c2 _ _ (sealF xs) (sealF ys) w2 hr1' hr2 (sealF_bytes HX.out) (sealF_bytes HY.out)
  have H2 := Equal_any A B n c m d _ _ xs ys w2 (h.below hb) (k.below hb) HX.out HY.out
  rw [sealF_inj] at H1
  have HH1 := Lib.hid H1
  have HH2 := Lib.hid H2
  clear hown2 H1 H2 hr1 hr2 hr1' hb1 hb2
  generalize decide (xs = ys) = q at *
  go_wp2_with fail
  refine HH1.out.mono ?_
  rintro e w2' ⟨rfl, rfl⟩
  go_wp2_with fail
  refine HH2.out.mono ?_
  rintro e w2' ⟨rfl, rfl⟩
  clear HH1 HH2
  go_wp2_with fail
  refine (awake_any w2).mono ?_
  rintro e w3 ⟨rfl, hb3⟩
  go_wp2_with fail
  go_ret
  exact ⟨rfl, hb.trans (hb3.mono hb.size)⟩
theorem apart_any (A B : Option Addr) (n c m d : Nat) (xs ys : List Int) (w : World) (h : Rd w w.heap.size .u8 A n c xs) (hx : ∀ x ∈ xs, 0 ≤ x ∧ x < 256) (k : Rd w w.heap.size .u8 B m d ys) (hy : ∀ x ∈ ys, 0 ≤ x ∧ x < 256) :
    Calls Try.prog 9 #[.slice A n c, .slice B m d] w fun e w' => e = .returned (.bool true) ∧ Below w.heap.size w w' := by
  by_cases hn : n ≤ 600
  · by_cases hm : m ≤ 600
    · exact apart_short A B n c m d xs ys w h hx k hy hn hm
    · have h2 : ((600 : Int) < m) := by omega
      have h1 : ¬ ((600 : Int) < n) := by omega
      have h3 : decide ((600 : Int) < n) = false := by simpa using h1
      go_enter Try.func9, Try.ntmps9
      go_wp2_with (go_at_call 11; refine (awake_any w).mono ?_; rintro e w1 ⟨rfl, hb1⟩)
      go_ret
      exact ⟨rfl, hb1⟩
  · have h1 : ((600 : Int) < n) := by omega
    go_enter Try.func9, Try.ntmps9
    go_wp2_with (go_at_call 11; refine (awake_any w).mono ?_; rintro e w1 ⟨rfl, hb1⟩)
    go_ret
    exact ⟨rfl, hb1⟩
end Go.Proofs.Ytbdfhlgpbhcjcaa
