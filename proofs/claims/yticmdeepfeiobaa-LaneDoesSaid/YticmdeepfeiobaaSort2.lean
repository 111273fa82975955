/- What is proved here: what slices.SortFunc does with two things. -/
import Derived.Test.YticmdeepfeiobaaCmp
import Derived.BigRegion
import Derived.Outline
namespace Go.Proofs.Yticmdeepfeiobaa
open Go Go.RowKit Go.Maps Go.WideMaps Go.Sort

/-- Bits of 2. -/
theorem len2_any (w : World) : Calls Try.prog 39 #[.int .u64 2] w fun e w' => e = .returned (.int .i64 2) ∧ w' = w := by
  go_enter Try.func39, Try.ntmps39
  go_wp2
  go_ret
  exact ⟨by kernel_rfl, rfl⟩

set_option maxHeartbeats 1600000 in
set_option maxRecDepth 100000 in
theorem ins2_skip {w : World} {l N rb cap : Nat} {L : List Th} {Φ : Nat → Prop} (h : LaneAt w l L N Φ) {x y : Th} (hx : x ∈ L) (hy : y ∈ L) (ho : w.ownsRow 0 3 1 (.slice (some ⟨rb, 0, none⟩) 2 cap) 2 [.int .i64 x.id, .int .i64 y.id]) (hlt : ¬ y.tn < x.tn) :
    Calls Try.prog 43 #[.slice (some ⟨rb, 0, none⟩) 2 cap, .int .i64 0, .int .i64 2, .func (.func 31) #[.pointer (some ⟨l, 0, none⟩)] #[]] w fun e w' => e = .returned (.tuple #[]) ∧ ∃ q, w' = w.drewN q := by
  have c0 : w.cell? ⟨rb, 0, none⟩ = some (.int .i64 x.id) := by have := ho.cellAt 0 (by simp); simpa using this
  have c1 : w.cell? ⟨rb, 1, none⟩ = some (.int .i64 y.id) := by have := ho.cellAt 1 (by simp); simpa using this
  have HC : Hid (∀ q, Calls Try.prog 31 #[.pointer (some ⟨l, 0, none⟩), .int .i64 y.id, .int .i64 x.id] (w.drewN q) fun e w' => e = .returned (.int .i64 (cmp1 y.tn x.tn)) ∧ ∃ m, w' = (w.drewN q).drewN m) := Lib.hid fun q => compare_any (h.keep (Ψ := fun _ => False) (Chg.drewN _ q) fun _ _ => id) hy hx
  have hd : decide (cmp1 y.tn x.tn < 0) = false := by
    unfold cmp1
    rw [if_neg (by omega)]
    split <;> simp
  have hcap := own_cells ho
  obtain ⟨_, _, _, hcap⟩ := hcap
  unfold maxLen at hcap
  clear h hx hy ho
  go_enter Try.func43, Try.ntmps43
  go_wp2
  refine wp_loop_rounds 2 ?_
  simp only [rounds_succ]
  go_wp2
  refine wp_loop_rounds 1 ?_
  simp only [rounds_succ]
  go_wp2_with fail
  go_quiet ((go_at_call 31; exact Calls.quiet_of (HC.out _)))
  go_wp2
  simp only [rounds_succ]
  go_wp2
  go_end0
  exact ⟨rfl, _, rfl⟩

set_option maxHeartbeats 1600000 in
set_option maxRecDepth 100000 in
theorem ins2_swap {w : World} {l N rb cap : Nat} {L : List Th} {Φ : Nat → Prop} (h : LaneAt w l L N Φ) {x y : Th} (hx : x ∈ L) (hy : y ∈ L) (ho : w.ownsRow 0 3 1 (.slice (some ⟨rb, 0, none⟩) 2 cap) 2 [.int .i64 x.id, .int .i64 y.id]) (hlt : y.tn < x.tn) :
    Calls Try.prog 43 #[.slice (some ⟨rb, 0, none⟩) 2 cap, .int .i64 0, .int .i64 2, .func (.func 31) #[.pointer (some ⟨l, 0, none⟩)] #[]] w fun e w' => e = .returned (.tuple #[]) ∧ ∃ q, w' = ((w.setCell ⟨rb, 1, none⟩ (.int .i64 x.id)).setCell ⟨rb, 0, none⟩ (.int .i64 y.id)).drewN q := by
  have c0 : w.cell? ⟨rb, 0, none⟩ = some (.int .i64 x.id) := by have := ho.cellAt 0 (by simp); simpa using this
  have c1 : w.cell? ⟨rb, 1, none⟩ = some (.int .i64 y.id) := by have := ho.cellAt 1 (by simp); simpa using this
  have f0 := ho.frozenAt 0
  have f1 := ho.frozenAt 1
  have HC : Hid (∀ q, Calls Try.prog 31 #[.pointer (some ⟨l, 0, none⟩), .int .i64 y.id, .int .i64 x.id] (w.drewN q) fun e w' => e = .returned (.int .i64 (cmp1 y.tn x.tn)) ∧ ∃ m, w' = (w.drewN q).drewN m) := Lib.hid fun q => compare_any (h.keep (Ψ := fun _ => False) (Chg.drewN _ q) fun _ _ => id) hy hx
  have hd : cmp1 y.tn x.tn = -1 := by
    unfold cmp1
    rw [if_pos (by omega)]
  rw [hd] at HC
  have hcap := own_cells ho
  obtain ⟨_, _, _, hcap⟩ := hcap
  unfold maxLen at hcap
  clear h hx hy ho hd
  go_enter Try.func43, Try.ntmps43
  go_wp2
  refine wp_loop_rounds 2 ?_
  simp only [rounds_succ]
  go_wp2
  refine wp_loop_rounds 2 ?_
  simp only [rounds_succ]
  go_wp2_with fail
  go_quiet ((go_at_call 31; exact Calls.quiet_of (HC.out _)))
  go_wp2_with fail
  go_region
  go_wp2
  simp only [rounds_succ]
  have HW : Hid (((w.drewN (nq + 1)).setCell ⟨rb, 1, none⟩ (.int .i64 x.id)).setCell ⟨rb, 0, none⟩ (.int .i64 y.id) = ((w.setCell ⟨rb, 1, none⟩ (.int .i64 x.id)).setCell ⟨rb, 0, none⟩ (.int .i64 y.id)).drewN (nq + 1)) := Lib.hid rfl
  rw [HW.out]
  generalize hW2 : (w.setCell ⟨rb, 1, none⟩ (.int .i64 x.id)).setCell ⟨rb, 0, none⟩ (.int .i64 y.id) = W2
  have HW2 := Lib.hid hW2
  clear HC HW c0 c1 f0 f1 hW2
  generalize nq + 1 = n2
  go_wp2_with fail
  go_quiet (fail)
  go_wp2
  simp only [rounds_succ]
  go_wp2
  go_end0
  exact ⟨rfl, n2 + nq, by rw [HW2.out]⟩

/-- What SortFunc leaves of a row of things. -/
def SortSaid (rb cap : Nat) (xs : List Th) (w : World) (e : Ending) (w' : World) : Prop :=
  e = .returned (.tuple #[]) ∧ ∃ ys : List Th, ys.Perm xs ∧ ys.Pairwise (fun a b => a.tn ≤ b.tn) ∧ w'.ownsRow 0 3 1 (.slice (some ⟨rb, 0, none⟩) xs.length cap) xs.length ((ys.map Th.id).map (Value.int .i64)) ∧ Chg (fun i => i = rb) w w'
def SortOK (n : Nat) : Prop := ∀ (w : World) (l N : Nat) (L : List Th) (Φ : Nat → Prop) (rb cap : Nat) (xs : List Th), LaneAt w l L N Φ → xs.length = n → (∀ x ∈ xs, x ∈ L) → ¬ Φ rb → w.ownsRow 0 3 1 (.slice (some ⟨rb, 0, none⟩) xs.length cap) xs.length ((xs.map Th.id).map (Value.int .i64)) →
  Calls Try.prog 32 #[.slice (some ⟨rb, 0, none⟩) xs.length cap, .func (.func 31) #[.pointer (some ⟨l, 0, none⟩)] #[]] w (SortSaid rb cap xs w)
theorem ins2_any {w : World} {l N rb cap : Nat} {L : List Th} {Φ : Nat → Prop} (h : LaneAt w l L N Φ) {x y : Th} (hx : x ∈ L) (hy : y ∈ L) (ho : w.ownsRow 0 3 1 (.slice (some ⟨rb, 0, none⟩) 2 cap) 2 [.int .i64 x.id, .int .i64 y.id]) :
    Calls Try.prog 43 #[.slice (some ⟨rb, 0, none⟩) 2 cap, .int .i64 0, .int .i64 2, .func (.func 31) #[.pointer (some ⟨l, 0, none⟩)] #[]] w (SortSaid rb cap [x, y] w) := by
  by_cases hlt : y.tn < x.tn
  · refine (ins2_swap h hx hy ho hlt).mono ?_
    rintro e w' ⟨rfl, q, rfl⟩
    have h1 := ho.stored 1 (.int .i64 x.id)
    have h2 := h1.1.stored 0 (.int .i64 y.id)
    refine ⟨rfl, [y, x], List.Perm.swap _ _ _, ?_, ?_, ?_⟩
    · simp
      omega
    · have h3 := (Chg.drewN (Φ := fun _ => False) ((w.setCell ⟨rb, 1, none⟩ (.int .i64 x.id)).setCell ⟨rb, 0, none⟩ (.int .i64 y.id)) q).own h2.1 fun _ _ => id
      simpa using h3
    · exact (((Chg.set w rb 1 _).trans (Chg.set _ rb 0 _) fun _ _ e => e).trans (Chg.drewN (Φ := fun _ => False) _ q) fun _ _ e => e.elim)
  · refine (ins2_skip h hx hy ho hlt).mono ?_
    rintro e w' ⟨rfl, q, rfl⟩
    refine ⟨rfl, [x, y], List.Perm.refl _, ?_, ?_, Chg.drewN _ _⟩
    · simp
      omega
    · have h3 := (Chg.drewN (Φ := fun _ => False) w q).own ho fun _ _ => id
      simpa using h3

set_option maxHeartbeats 800000 in
set_option maxRecDepth 100000 in
theorem pdq2_any {w : World} {l N rb cap : Nat} {L : List Th} {Φ : Nat → Prop} (h : LaneAt w l L N Φ) {x y : Th} (hx : x ∈ L) (hy : y ∈ L) (ho : w.ownsRow 0 3 1 (.slice (some ⟨rb, 0, none⟩) 2 cap) 2 [.int .i64 x.id, .int .i64 y.id]) :
    Calls Try.prog 38 #[.slice (some ⟨rb, 0, none⟩) 2 cap, .int .i64 0, .int .i64 2, .int .i64 2, .func (.func 31) #[.pointer (some ⟨l, 0, none⟩)] #[]] w (SortSaid rb cap [x, y] w) := by
  have HI := Lib.hid (ins2_any h hx hy ho)
  clear h hx hy ho
  go_enter Try.func38, Try.ntmps38
  go_wp2
  refine wp_loop_rounds 1 ?_
  simp only [rounds_succ]
  go_wp2_with (go_at_call 43; refine HI.out.mono ?_; rintro e w2 HY; obtain rfl := HY.1; have HZ := Lib.hid HY; clear HY)
  refine bodyPost_ret (results_none rfl _ _ _) rfl ?_
  exact HZ.out

set_option maxHeartbeats 800000 in
set_option maxRecDepth 100000 in
theorem sort2 : SortOK 2 := by
  intro w l N L Φ rb cap xs h hn hL hrb ho
  obtain ⟨x, y, rfl⟩ : ∃ x y, xs = [x, y] := by
    match xs, hn with
    | [x, y], _ => exact ⟨x, y, rfl⟩
  have HI := Lib.hid (pdq2_any h (hL x (by simp)) (hL y (by simp)) ho)
  have HL := Lib.hid (len2_any w)
  clear h hL hrb ho hn
  show Calls _ _ #[.slice (some ⟨rb, 0, none⟩) 2 cap, _] _ _
  go_enter Try.func32, Try.ntmps32
  go_wp2_with (first
    | (go_at_call 39; refine HL.out.mono ?_; rintro e w1 ⟨rfl, rfl⟩)
    | (go_at_call 38; refine HI.out.mono ?_; rintro e w2 HY; obtain rfl := HY.1; have HZ := Lib.hid HY; clear HY))
  go_end0
  exact HZ.out
end Go.Proofs.Yticmdeepfeiobaa
