/- What is proved here: the texts of an error's number and of a fault, whatever the memory in which they are asked for (strconv's table as its text lays it). -/
import Derived.Test.YtogennogjnleaaaDoorErr
import Derived.Test.YtogennogjnleaaaDoorShelf
import Derived.WalkSmall
import Derived.Lib.AppendIntMem
import Derived.Defers
import Derived.Recover
import Derived.Deep.RegionHeld3
namespace Go.Proofs.YtogennogjnleaaaDoor
open Go Go.RowKit

/-- strconv's table of powers. -/
def Tab (w : World) : Prop := Lib.TabIs Tryd.prog w "internal/strconv.uint64pow10" .u64 Lib.pow10Tab
theorem tab_global : Tryd.prog.globalNamed "internal/strconv.uint64pow10" = some 1 := by kernel_rfl
theorem Tab.lt {w : World} (h : Tab w) : 1 < w.heap.size := World.block_lt_of_cell? w _ (h.cell tab_global 0 (by decide))
theorem Tab.below {w w' : World} (h : Tab w) (hb : Below w.heap.size w w') : Tab w' := var?_below hb tab_global h.lt h
theorem Tab.drew {w : World} (h : Tab w) : Tab w.drew := h.below (Below.refl _ _).drew

/-- The digits of a number. -/
def digs (n : Int) : ByteArray := ⟨(Lib.itoa n).toArray⟩
theorem dec_len : ∀ (k u : Nat), u < 10 ^ (k + 1) → (Lib.decDigits u).length ≤ k + 1
  | 0, u, h => by
    rw [Lib.decDigits, dif_pos (by simpa using h)]
    simp
  | k + 1, u, h => by
    rw [Lib.decDigits]
    by_cases hu : u < 10
    · rw [dif_pos hu]; simp
    · rw [dif_neg hu, List.length_append]
      have := dec_len k (u / 10) (by
        rw [Nat.div_lt_iff_lt_mul (by omega)]
        rw [Nat.pow_succ] at h
        exact h)
      simp only [List.length_cons, List.length_nil]
      omega
theorem digs_size (n : Int) (h0 : -9223372036854775808 ≤ n) (h1 : n ≤ 9223372036854775807) : (digs n).size ≤ 20 := by
  have hp : (10 : Nat) ^ (18 + 1) = 10000000000000000000 := by decide
  show (Lib.itoa n).length ≤ 20
  unfold Lib.itoa
  split
  · have := dec_len 18 n.natAbs (by rw [hp]; omega)
    simp only [List.length_cons]
    omega
  · have := dec_len 18 n.toNat (by rw [hp]; omega)
    omega
theorem Itoa_any (n : Int) (w : World) (h0 : -9223372036854775808 ≤ n) (h1 : n ≤ 9223372036854775807) (ht : Tab w) :
    Calls Tryd.prog 29 #[.int .i64 n] w fun e w' => e = .returned (.string (digs n)) ∧ Below w.heap.size w w' :=
  (Tryd.strconv_Itoa n h0 h1 w ht).mono fun _ _ ⟨he, k, os, hw⟩ => ⟨he, hw ▸ Lib.below_grow w.heap.size w (Nat.le_refl _) k os⟩

set_option maxHeartbeats 400000 in
theorem ErrnoError_any (n : Int) (w : World) (h0 : -9223372036854775808 ≤ n) (h1 : n ≤ 9223372036854775807) (ht : Tab w) :
    Calls Tryd.prog 15 #[.int .i64 n] w fun e w' => e = .returned (.string (ByteArray.mk #[100, 97, 105, 115, 121, 99, 104, 97, 105, 110, 32] ++ digs n)) ∧ Below w.heap.size w w' := by
  have H := Lib.hid (Itoa_any n w h0 h1 ht)
  have hd := digs_size n h0 h1
  generalize digs n = D at *
  go_enter Tryd.func15, Tryd.ntmps15
  go_wp2_with (go_at_call 29; refine H.out.mono ?_; rintro e w1 ⟨rfl, hb⟩)
  go_ret
  exact ⟨rfl, hb⟩

theorem catch_idle (w : World) : CallsD Tryd.prog 43 #[] .returning w fun e u' w' => e = .returned (.tuple #[]) ∧ u' = .returning ∧ w' = w := by
  refine callsD_of_wpS Tryd.func43 rfl fun c₀ cs hu => ?_
  apply wpS_region
  cases c₀
  simp_all [wpOpsS, go_sem, recoverD, Tryd.ntmps43, bodyPostS, results, Tryd.results43]

/-- An error that has a text: none, or a number. -/
theorem method_error (n : Int) (w : World) : (Go.method 239 32 (.int .i64 n) "Error").run Tryd.prog w = .ok (15, .int .i64 n) w := by kernel_rfl
set_option maxHeartbeats 400000 in
theorem textOf_nil (w : World) : Calls Tryd.prog 30 #[.nilIface] w fun e w' => e = .returned (.string ⟨#[]⟩) ∧ w' = w := by
  go_enter_defers Tryd.func30, Tryd.ntmps30
  go_wp2
  exact ⟨_, results_tmp rfl _ _ _, rfl, rfl⟩
set_option maxHeartbeats 400000 in
theorem textOf_num (n : Int) (w : World) (h0 : -9223372036854775808 ≤ n) (h1 : n ≤ 9223372036854775807) (ht : Tab w) :
    Calls Tryd.prog 30 #[.iface 32 (.int .i64 n)] w fun e w' => e = .returned (.string (ByteArray.mk #[100, 97, 105, 115, 121, 99, 104, 97, 105, 110, 32] ++ digs n)) ∧ Below w.heap.size w w' := by
  have H := Lib.hid (ErrnoError_any n w h0 h1 ht)
  have mE := method_error
  generalize digs n = D at *
  go_enter_defers Tryd.func30, Tryd.ntmps30
  go_wp2_with (go_at_call 15; refine H.out.mono ?_; rintro e w1 ⟨rfl, hb⟩)
  refine leaves_cons (f := 43) (args := #[]) (by simp) (by simp [go_sem]) ?_
  refine (catch_idle _).mono ?_
  rintro e u' w'' ⟨rfl, rfl, rfl⟩
  exact ⟨_, results_tmp rfl _ _ _, rfl, hb⟩
end Go.Proofs.YtogennogjnleaaaDoor
