/- What is proved here: what 'compare', and the library's function that it calls, answer. -/
import Derived.Test.YticmdeepfeiobaaDrop
import Derived.Sort.Grow
namespace Go.Proofs.Yticmdeepfeiobaa
open Go Go.RowKit Go.Maps Go.WideMaps Go.Sort

def cmp1 (a b : Int) : Int := if a < b then -1 else if b < a then 1 else 0
theorem Compare_any (a b : Int) (w : World) : Calls Try.prog 37 #[.int .i64 a, .int .i64 b] w fun e w' => e = .returned (.int .i64 (cmp1 a b)) ∧ w' = w := by
  rcases Int.lt_trichotomy a b with h | h | h
  · have HC : Hid (cmp1 a b = -1) := Lib.hid (by unfold cmp1; rw [if_pos h])
    go_enter Try.func37, Try.ntmps37
    go_wp2
    go_ret
    exact ⟨by rw [HC.out]; rfl, rfl⟩
  · subst h
    have HC : Hid (cmp1 a a = 0) := Lib.hid (by unfold cmp1; rw [if_neg (by omega), if_neg (by omega)])
    go_enter Try.func37, Try.ntmps37
    go_wp2
    go_ret
    exact ⟨by rw [HC.out]; rfl, rfl⟩
  · have HC : Hid (cmp1 a b = 1) := Lib.hid (by unfold cmp1; rw [if_neg (by omega), if_pos h])
    have h2 : ¬ a < b := by omega
    go_enter Try.func37, Try.ntmps37
    go_wp2
    go_ret
    exact ⟨by rw [HC.out]; rfl, rfl⟩

theorem LaneL.placeW {w : World} {l gm pm N Ng : Nat} {L : List Th} {fg fp : Lit → Option Value} {Φ : Nat → Prop} (h : LaneL w l gm pm L N Ng fg fp Φ) {x : Th} (hx : x ∈ L) :
    (Instr.lookup 52 (.map (some pm)) (.int .i64 x.id) false).run Try.prog w = .ok (.agg #[.string x.g, .int .i64 x.tn]) w := by
  have := h.plc.look keyed_int Try.underlying52 (zero_place w) (key_int (h.wf x hx).1)
  rw [this, h.pl]
  have hs : at_ L x.id = some x := by
    cases ha : at_ L x.id with
    | none => exact absurd rfl (at_none.1 ha x hx)
    | some y =>
      obtain ⟨hy, he⟩ := at_some ha
      rw [nodup_id h.nodup hy hx he]
  rw [hs]
  rfl

set_option maxHeartbeats 800000 in
set_option maxRecDepth 100000 in
theorem compare_any {w : World} {l N : Nat} {L : List Th} {Φ : Nat → Prop} (h : LaneAt w l L N Φ) {x y : Th} (hx : x ∈ L) (hy : y ∈ L) :
    Calls Try.prog 31 #[.pointer (some ⟨l, 0, none⟩), .int .i64 x.id, .int .i64 y.id] w fun e w' => e = .returned (.int .i64 (cmp1 x.tn y.tn)) ∧ ∃ q, w' = w.drewN q := by
  obtain ⟨gm, pm, Ng, fg, fp, h⟩ := h
  obtain ⟨c0, c1, c2, _⟩ := three_cells h.blk
  have l1 := fun q => (h.keep (Ψ := fun _ => False) (Chg.drewN _ q) fun _ _ => id).placeW hx
  have l2 := fun q => (h.keep (Ψ := fun _ => False) (Chg.drewN _ q) fun _ _ => id).placeW hy
  have k1 : ∀ W, (Instr.field 56 (.agg #[.string x.g, .int .i64 x.tn]) 1).run Try.prog W = .ok (.int .i64 x.tn) W := fun W => by kernel_rfl
  have k2 : ∀ W, (Instr.field 56 (.agg #[.string y.g, .int .i64 y.tn]) 1).run Try.prog W = .ok (.int .i64 y.tn) W := fun W => by kernel_rfl
  clear h
  go_enter Try.func31, Try.ntmps31
  go_wp2_with fail
  go_quiet ((go_at_call 37; exact Calls.quiet_of_same (Compare_any x.tn y.tn _)))
  go_wp2
  go_ret
  exact ⟨rfl, _, rfl⟩
end Go.Proofs.Yticmdeepfeiobaa
