/- What is proved here: 'FrameSums', 'FrameBits' and 'FrameApart' return true whatever they are given and whatever the memory in which they are called, and nothing that was there has changed. -/
import Derived.Test.YtbdfhlgpbhcjcaaRefSum
namespace Go.Proofs.Ytbdfhlgpbhcjcaa
open Go Go.RowKit

set_option maxHeartbeats 800000 in
theorem sums_any (A : Option Addr) (n c : Nat) (xs : List Int) (w : World) (h : Rd w w.heap.size .u8 A n c xs) (hx : ∀ x ∈ xs, 0 ≤ x ∧ x < 256) :
    Calls Try.prog 3 #[.slice A n c] w fun e w' => e = .returned (.bool true) ∧ Below w.heap.size w w' := by
  have hm := h.max
  have hc := h.cap
  unfold maxLen at hm
  by_cases h1 : n ≤ 600
  · have HX := Lib.hid hx
    clear hx
    go_enter Try.func3, Try.ntmps3
    go_wp2_with fail
    refine (Sum_any A n c xs w h HX.out (by omega)).mono ?_
    rintro e w1 ⟨rfl, hb1⟩
    go_wp2_with fail
    refine (refSum_any A n c xs w1 ((h.below hb1).more hb1.size) HX.out (by omega)).mono ?_
    rintro e w2 ⟨rfl, hb2⟩
    have hb := hb1.trans (hb2.mono hb1.size)
    generalize sumL xs = S at *
    clear hb1 hb2
    go_wp2_with fail
    refine (awake_any w2).mono ?_
    rintro e w3 ⟨rfl, hb3⟩
    go_wp2_with fail
    go_ret
    exact ⟨rfl, hb.trans (hb3.mono hb.size)⟩
  · have h1' : (600 : Int) < n := by omega
    go_enter Try.func3, Try.ntmps3
    go_wp2_with (go_at_call 11; refine (awake_any w).mono ?_; rintro e w1 ⟨rfl, hb1⟩)
    go_ret
    exact ⟨rfl, hb1⟩
end Go.Proofs.Ytbdfhlgpbhcjcaa
