/- What is proved here: the laws' own 'same', of two rows that say the same numbers. -/
import Derived.Test.YticmdeepfeiobaaHeads
import Derived.Deep.DeepFit
namespace Go.Proofs.Yticmdeepfeiobaa
open Go Go.RowKit Go.Maps Go.WideMaps

/-- Two rows in memory that say one list. -/
def TwoRows (w : World) (A B : Option Addr) (n ca cb : Nat) (xs : List Int) : Prop :=
  w.ownsRow 0 3 1 (.slice A n ca) n (xs.map (Value.int .i64)) ∧ w.ownsRow 0 3 1 (.slice B n cb) n (xs.map (Value.int .i64))
set_option maxHeartbeats 1600000 in
set_option maxRecDepth 100000 in
theorem same_true {w : World} {A B : Option Addr} {n ca cb : Nat} {xs : List Int} (h : TwoRows w A B n ca cb xs) (hn : n < 1000000) :
    Calls Try.prog 16 #[.slice A n ca, .slice B n cb] w fun e w' => e = .returned (.bool true) ∧ ∃ q, w' = w.drewN q := by
  have HT := Lib.hid h
  have hx : xs.length = n := by have := h.1.1; simpa using this
  have HX := Lib.hid hx
  clear h hx
  go_enter Try.func16, Try.ntmps16
  go_wp2
  go_loopw [13] (fun iv wr => ∃ (j q : Nat), iv = .int .i64 j ∧ j ≤ n ∧ wr = w.drewN q) (fun iv _ => n - (intOf iv).toNat)
  case atStart => exact ⟨0, 0, rfl, Nat.zero_le _, rfl⟩
  case round =>
    obtain ⟨j, q, rfl, hjn, rfl⟩ := hrel
    by_cases hj : j < n
    · have hjz : (j : Int) < (n : Int) := by omega
      obtain ⟨b1, c1, e1, _⟩ := HT.out.1.form (by omega)
      obtain ⟨b2, c2, e2, _⟩ := HT.out.2.form (by omega)
      obtain ⟨rfl, rfl⟩ : A = some ⟨b1, 0, none⟩ ∧ ca = c1 := by simpa using e1
      obtain ⟨rfl, rfl⟩ : B = some ⟨b2, 0, none⟩ ∧ cb = c2 := by simpa using e2
      have hxl : j < xs.length := by rw [HX.out]; exact hj
      obtain ⟨x, hx⟩ : ∃ x, xs[j]? = some x := ⟨_, List.getElem?_eq_getElem hxl⟩
      have k1 : (w.drewN q).cell? ⟨b1, j, none⟩ = some (.int .i64 x) := by
        have := HT.out.1.cellAt j (by omega)
        rw [List.getElem?_map, hx] at this
        exact this
      have k2 : (w.drewN q).cell? ⟨b2, j, none⟩ = some (.int .i64 x) := by
        have := HT.out.2.cellAt j (by omega)
        rw [List.getElem?_map, hx] at this
        exact this
      generalize hW : w.drewN q = W at *
      have HW := Lib.hid hW
      clear hW hx hxl e1 e2
      go_wp2_with fail
      go_quiet (fail)
      have HW2 : Hid (W.drewN nq = w.drewN (q + nq)) := Lib.hid (by rw [← HW.out]; simp [World.drewN, Nat.add_assoc])
      go_wp2
      go_roundw
      case rel => exact ⟨j + 1, q + nq, by go_num, by omega, HW2.out⟩
      case measure => simp [intOf]; omega
    · have hjz : ¬ (j : Int) < (n : Int) := by omega
      go_wp2
      go_ret
      exact ⟨rfl, q, rfl⟩
end Go.Proofs.Yticmdeepfeiobaa
