/- What is proved here: what slices.SortFunc does with one text, or with none. -/
import Derived.Test.YtcdjahmnobjpkaaLed
import Derived.BigRegion
import Derived.Sort.Grow
namespace Go.Proofs.Ytcdjahmnobjpkaa
open Go Go.RowKit Go.Maps Go.WideMaps Go.Sort

set_option maxRecDepth 100000 in
theorem bits0 (w : World) : Calls Try.prog 35 #[.int .u64 0] w fun e w' => e = .returned (.int .i64 0) ∧ w' = w := by
  go_enter Try.func35, Try.ntmps35
  go_wp2
  go_ret
  exact ⟨by kernel_rfl, rfl⟩
set_option maxRecDepth 100000 in
theorem bits1 (w : World) : Calls Try.prog 35 #[.int .u64 1] w fun e w' => e = .returned (.int .i64 1) ∧ w' = w := by
  go_enter Try.func35, Try.ntmps35
  go_wp2
  go_ret
  exact ⟨by kernel_rfl, rfl⟩

set_option maxHeartbeats 800000 in
set_option maxRecDepth 100000 in
theorem ins0 (A : Option Addr) (c : Nat) (fv : Value) (w : World) : Calls Try.prog 43 #[.slice A 0 c, .int .i64 0, .int .i64 0, fv] w fun e w' => e = .returned (.tuple #[]) ∧ w' = w := by
  go_enter Try.func43, Try.ntmps43
  go_wp2
  refine wp_loop_rounds 1 ?_
  simp only [rounds_succ]
  go_wp2
  go_end0
  exact ⟨rfl, rfl⟩
set_option maxHeartbeats 800000 in
set_option maxRecDepth 100000 in
theorem pdq0 (A : Option Addr) (c : Nat) (fv : Value) (w : World) : Calls Try.prog 34 #[.slice A 0 c, .int .i64 0, .int .i64 0, .int .i64 0, fv] w fun e w' => e = .returned (.tuple #[]) ∧ w' = w := by
  have HI := Lib.hid (ins0 A c fv w)
  go_enter Try.func34, Try.ntmps34
  go_wp2
  refine wp_loop_rounds 1 ?_
  simp only [rounds_succ]
  go_wp2_with (go_at_call 43; refine HI.out.mono ?_; rintro e w2 ⟨rfl, rfl⟩)
  refine bodyPost_ret (results_none rfl _ _ _) rfl ?_
  exact ⟨rfl, rfl⟩
set_option maxHeartbeats 800000 in
set_option maxRecDepth 100000 in
theorem sortT0 (A : Option Addr) (c : Nat) (fv : Value) (w : World) : Calls Try.prog 29 #[.slice A 0 c, fv] w fun e w' => e = .returned (.tuple #[]) ∧ w' = w := by
  have HI := Lib.hid (pdq0 A c fv w)
  have HL := Lib.hid (bits0 w)
  go_enter Try.func29, Try.ntmps29
  go_wp2_with (first
    | (go_at_call 35; refine HL.out.mono ?_; rintro e w1 ⟨rfl, rfl⟩)
    | (go_at_call 34; refine HI.out.mono ?_; rintro e w2 ⟨rfl, rfl⟩))
  go_end0
  exact ⟨rfl, rfl⟩

set_option maxHeartbeats 800000 in
set_option maxRecDepth 100000 in
theorem ins1 (A : Option Addr) (c : Nat) (fv : Value) (w : World) : Calls Try.prog 43 #[.slice A 1 c, .int .i64 0, .int .i64 1, fv] w fun e w' => e = .returned (.tuple #[]) ∧ w' = w := by
  go_enter Try.func43, Try.ntmps43
  go_wp2
  refine wp_loop_rounds 1 ?_
  simp only [rounds_succ]
  go_wp2
  go_end0
  exact ⟨rfl, rfl⟩
set_option maxHeartbeats 800000 in
set_option maxRecDepth 100000 in
theorem pdq1 (A : Option Addr) (c : Nat) (fv : Value) (w : World) : Calls Try.prog 34 #[.slice A 1 c, .int .i64 0, .int .i64 1, .int .i64 1, fv] w fun e w' => e = .returned (.tuple #[]) ∧ w' = w := by
  have HI := Lib.hid (ins1 A c fv w)
  go_enter Try.func34, Try.ntmps34
  go_wp2
  refine wp_loop_rounds 1 ?_
  simp only [rounds_succ]
  go_wp2_with (go_at_call 43; refine HI.out.mono ?_; rintro e w2 ⟨rfl, rfl⟩)
  refine bodyPost_ret (results_none rfl _ _ _) rfl ?_
  exact ⟨rfl, rfl⟩
set_option maxHeartbeats 800000 in
set_option maxRecDepth 100000 in
theorem sortT1 (A : Option Addr) (c : Nat) (fv : Value) (w : World) : Calls Try.prog 29 #[.slice A 1 c, fv] w fun e w' => e = .returned (.tuple #[]) ∧ w' = w := by
  have HI := Lib.hid (pdq1 A c fv w)
  have HL := Lib.hid (bits1 w)
  go_enter Try.func29, Try.ntmps29
  go_wp2_with (first
    | (go_at_call 35; refine HL.out.mono ?_; rintro e w1 ⟨rfl, rfl⟩)
    | (go_at_call 34; refine HI.out.mono ?_; rintro e w2 ⟨rfl, rfl⟩))
  go_end0
  exact ⟨rfl, rfl⟩

def keyV (x : En) : Value := .string x.k
/-- Which one goes first. -/
def befE (a b : En) : Prop := a.t < b.t ∨ (a.t = b.t ∧ bytesBefore a.nm b.nm = true)
/-- What SortFunc leaves of a row of keys. -/
def SortSaid (rb cap : Nat) (xs : List En) (w : World) (e : Ending) (w' : World) : Prop :=
  e = .returned (.tuple #[]) ∧ ∃ ys : List En, ys.Perm xs ∧ ys.Pairwise (fun a b => ¬ befE b a) ∧ w'.ownsRow 0 9 1 (.slice (some ⟨rb, 0, none⟩) xs.length cap) xs.length (ys.map keyV) ∧ Chg (fun i => i = rb) w w'
def SortOK (n : Nat) : Prop := ∀ (w : World) (l room : Nat) (L : List En) (Φ : Nat → Prop) (rb cap : Nat) (xs : List En), LedAt w l room L Φ → xs.length = n → (∀ x ∈ xs, x ∈ L) → ¬ Φ rb → w.ownsRow 0 9 1 (.slice (some ⟨rb, 0, none⟩) xs.length cap) xs.length (xs.map keyV) →
  Calls Try.prog 29 #[.slice (some ⟨rb, 0, none⟩) xs.length cap, .func (.func 30) #[.pointer (some ⟨l, 0, none⟩)] #[]] w (SortSaid rb cap xs w)
theorem sort1 : SortOK 1 := by
  intro w l room L Φ rb cap xs _ hn _ _ ho
  obtain ⟨x, rfl⟩ : ∃ x, xs = [x] := by
    match xs, hn with
    | [x], _ => exact ⟨x, rfl⟩
  refine (sortT1 (some ⟨rb, 0, none⟩) cap _ w).mono ?_
  rintro e w' ⟨rfl, rfl⟩
  exact ⟨rfl, [x], List.Perm.refl _, by simp, ho, Chg.refl _ _⟩
end Go.Proofs.Ytcdjahmnobjpkaa
