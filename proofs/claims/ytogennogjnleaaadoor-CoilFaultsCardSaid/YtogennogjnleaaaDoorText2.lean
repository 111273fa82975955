/- What is proved here: a fault's text: the place and the text of what it wraps. -/
import Derived.Test.YtogennogjnleaaaDoorText
namespace Go.Proofs.YtogennogjnleaaaDoor
open Go Go.RowKit

/-- A fault that lies where it lay, in a later world in which strconv's table stands. -/
def Still (w w' : World) : Prop := Below w.heap.size w w' ∧ Tab w'
theorem Still.drew {w w' : World} (h : Still w w') : Still w w'.drew := ⟨h.1.drew, h.2.drew⟩
theorem Still.below {w w' : World} (h : Still w w') : Below w.heap.size w w' := h.1
theorem Still.on {w w' w'' : World} (h : Still w w') (hb : Below w'.heap.size w' w'') : Still w w'' := ⟨h.1.trans (hb.mono h.1.size), h.2.below hb⟩

/-- The text of a fault. -/
def faultText (at_ : Int) (T : ByteArray) : ByteArray := ByteArray.mk #[98, 121, 116, 101, 32] ++ digs at_ ++ ByteArray.mk #[58, 32] ++ T

section
variable (f : Nat) (at_ : Int) (E : Value) (T : ByteArray) (w : World) (h0 : -9223372036854775808 ≤ at_) (h1 : at_ ≤ 9223372036854775807) (ht : Tab w) (hf : Blk w f 39 #[.int .i64 at_, E])
  (hT : ∀ W, Tab W → Calls Tryd.prog 30 #[E] W fun e w' => e = .returned (.string T) ∧ Below W.heap.size W w') (hts : T.size ≤ 100)
include h0 h1 hf in
theorem Itoa_still (W : World) (hS : Still w W) : Calls Tryd.prog 29 #[.int .i64 at_] W fun e w' => e = .returned (.string (digs at_)) ∧ w'.cell? ⟨f, 0, none⟩ = some (.int .i64 at_) ∧ w'.cell? ⟨f, 1, none⟩ = some E ∧ Still w w' :=
  (Itoa_any at_ W h0 h1 hS.2).mono fun e w' ⟨he, hb⟩ => by
    have hk := hf.below (hS.on hb).1 hf.lt
    have c0 := hk.cell 0
    have c1 := hk.cell 1
    simp at c0 c1
    exact ⟨he, c0, c1, hS.on hb⟩
include hf hT in
theorem textOf_still (W : World) (hS : Still w W) : Calls Tryd.prog 30 #[E] W fun e w' => e = .returned (.string T) ∧ w'.cell? ⟨f, 0, none⟩ = some (.int .i64 at_) ∧ w'.cell? ⟨f, 1, none⟩ = some E ∧ Still w w' :=
  (hT W hS.2).mono fun e w' ⟨he, hb⟩ => by
    have hk := hf.below (hS.on hb).1 hf.lt
    have c0 := hk.cell 0
    have c1 := hk.cell 1
    simp at c0 c1
    exact ⟨he, c0, c1, hS.on hb⟩

include h0 h1 ht hf hT hts in
set_option maxHeartbeats 1000000 in
theorem FaultError_any : Calls Tryd.prog 14 #[.pointer (some ⟨f, 0, none⟩)] w fun e w' => e = .returned (.string (faultText at_ T)) ∧ Below w.heap.size w w' := by
  have hI := Lib.hid (fun W hS => Itoa_still f at_ E w h0 h1 hf W hS)
  have hX := Lib.hid (fun W hS => textOf_still f at_ E T w hf hT W hS)
  have c0 := hf.cell 0
  have c1 := hf.cell 1
  simp at c0 c1
  have hd := digs_size at_ h0 h1
  have hst : Still w w := ⟨Below.refl _ _, ht⟩
  have HST := Lib.hid hst
  unfold faultText
  clear ht hf hT hst
  generalize digs at_ = D at *
  have q1 : ¬ 9223372036854775807 < 5 + D.size := by omega
  have q2 : ¬ 9223372036854775807 < 5 + D.size + 2 := by omega
  have q3 : ¬ 9223372036854775807 < 5 + D.size + 2 + T.size := by omega
  go_enter Tryd.func14, Tryd.ntmps14
  go_wp2_with fail
  go_region_held3 (fun w' => w'.cell? ⟨f, 0, none⟩ = some (.int .i64 at_) ∧ w'.cell? ⟨f, 1, none⟩ = some E ∧ Still w w')
    (first | exact ⟨by assumption, by assumption, by assumption⟩ | exact ⟨c0, c1, HST.out⟩ | exact ⟨by assumption, by assumption, Still.drew (by assumption)⟩ | exact ⟨c0, c1, HST.out.drew⟩)
    (first
      | (go_at_call 29; refine (hI.out _ (by first | assumption | exact HST.out | exact HST.out.drew)).mono ?_; rintro e w' ⟨rfl, h1, h2, h3⟩)
      | (go_at_call 30; refine (hX.out _ (by first | assumption | exact HST.out | exact HST.out.drew)).mono ?_; rintro e w' ⟨rfl, h1, h2, h3⟩))
  all_goals
    go_wp2_with fail
    go_ret
    exact ⟨rfl, Still.below (by assumption)⟩
end
end Go.Proofs.YtogennogjnleaaaDoor
