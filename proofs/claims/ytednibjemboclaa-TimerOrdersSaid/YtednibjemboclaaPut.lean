/- What is proved here: what 'put' does. -/
import Derived.Test.YtednibjemboclaaMem
import Derived.StillTailTactics
import Derived.Deep.QuietTactic
import Derived.BigQuiet

namespace Go.Proofs.Ytednibjemboclaa
open Go Go.RowKit Go.Maps

theorem two_cells' {w : World} {b : Nat} {x y : Value} {t : TypeId} (h : w.heap[b]? = some (.cells #[x, y] t (0, 0))) :
    w.cell? ⟨b, 0, none⟩ = some x ∧ w.cell? ⟨b, 1, none⟩ = some y := ⟨(two_cells h).1, (two_cells h).2.1⟩
theorem lt_of_block {w : World} {b : Nat} {o : Obj} (h : w.heap[b]? = some o) : b < w.heap.size := (Array.getElem?_eq_some_iff.1 h).1

def PutSaid (t m rb cap : Nat) (H : List It) (f : Int → Option Nat) (N : Nat) (w : World) (e : Ending) (w' : World) : Prop :=
  e = .returned (.tuple #[]) ∧ Held w' t m rb cap H f N ∧ Chg (foot m rb) w w'

set_option maxHeartbeats 800000 in
set_option maxRecDepth 100000 in
theorem put_any {w : World} {t m rb cap N : Nat} {H : List It} {f : Int → Option Nat} (h : Held w t m rb cap H f N) {j : Nat} (hj : j < H.length) (hl : H.length < 1000000) (hN : N < 1000000) (y : It) (hy : wfk y.1) {N' : Nat} (hN' : N' = if (f y.1).isSome then N else N + 1) :
    Calls Try.prog 30 #[.pointer (some ⟨t, 0, none⟩), .int .i64 j, .agg #[.int .i64 y.1, .int .i64 y.2]] w
      (PutSaid t m rb cap (H.set j y) (upd f y.1 j) N' w) := by
  obtain ⟨W, hW⟩ : ∃ W, W = w.alloc (.cells #[.int .i64 y.1, .int .i64 y.2] 41) := ⟨_, rfl⟩
  have hb : Below w.heap.size w W := by rw [hW]; exact (Below.refl _ _).alloc (Nat.le_refl _) _
  have hH := h.below hb
  have q0 : W.cell? ⟨w.heap.size, 0, none⟩ = some (.int .i64 y.1) := by rw [hW]; simp
  have q1 : W.cell? ⟨w.heap.size, 1, none⟩ = some (.int .i64 y.2) := by rw [hW]; simp
  obtain ⟨c0, c1⟩ := two_cells' hH.blk
  obtain ⟨r0, r1⟩ := hH.cell hj
  have f0 := hH.row.frozenAt (j * 2)
  have f1 := hH.row.frozenAt (j * 2 + 1)
  have hcap := hH.rowb
  obtain ⟨cur, _, hc1, hc2⟩ := hcap
  unfold maxLen at hc2
  have HW := Lib.hid hW
  obtain ⟨W2, hW2⟩ : ∃ W2, W2 = ((W.setCell ⟨rb, j * 2, none⟩ (.int .i64 y.1)).setCell ⟨rb, j * 2 + 1, none⟩ (.int .i64 y.2)).drew := ⟨_, rfl⟩
  have hst : Held W2 t m rb cap (H.set j y) f N ∧ Chg (fun k => k = rb) W W2 := by
    have h1 := hH.stored j y
    rw [hW2]
    exact ⟨h1.1.keep (Φ := fun _ => False) (Chg.drew _) id id id, h1.2.trans (Chg.drew (Φ := fun _ => False) _) fun _ _ e => e.elim⟩
  have hrb : rb < w.heap.size := by
    rcases Nat.lt_or_ge rb w.heap.size with e | e
    · exact e
    · have := h.row.lt rb rfl
      omega
  have p0 : W2.cell? ⟨w.heap.size, 0, none⟩ = some (.int .i64 y.1) := (hst.2.cell (p := ⟨w.heap.size, 0, none⟩) (by rw [hW]; simp) (fun e => by have e2 : w.heap.size = rb := e; omega)).trans q0
  obtain ⟨d0, d1⟩ := two_cells' hst.1.blk
  have HE : Hid (∃ w3, (Instr.mapUpdate 53 (.map (some m)) (.int .i64 y.1) (.int .i64 j)).run Try.prog (W2.drew) = .ok () w3 ∧
      PutSaid t m rb cap (H.set j y) (upd f y.1 j) N' w (.returned (.tuple #[])) w3) := Lib.hid (by
    have h2 := hst.1.keep (Φ := fun _ => False) (Chg.drew _) id id id
    obtain ⟨w3, hr, h3, h4⟩ := h2.map.put (by omega) hy (p := j) (by omega)
    refine ⟨w3, hr, rfl, ⟨h4.heap h2.blk h2.t_m, h4.own h2.row (fun g hg => by simp [Value.ownBlock] at hg; rw [← hg]; exact h2.rb_m), by rw [hN']; exact h3⟩, ?_⟩
    have e1 : Chg (foot m rb) w W := Chg.of_below hb
    have e3 := e1.trans hst.2 fun _ _ e => .inr e
    have e4 := e3.trans (Chg.drew (Φ := fun _ => False) _) fun _ _ e => e.elim
    exact e4.trans h4 fun _ _ e => .inl e)
  obtain ⟨w3, hr, hE⟩ := HE.out
  have HX := Lib.hid hE
  have HW := Lib.hid hW
  have HW2 := Lib.hid hW2
  clear h hW hst hW2 hE HE
  go_enter Try.func30, Try.ntmps30
  go_wp2_with fail
  rw [← HW.out]
  go_still_tail 7, (by kernel_rfl)
  change wpList _ _ _ _ _ W.drew
  go_wp2_with fail
  rw [← HW2.out]
  go_still_tail 7, (by kernel_rfl)
  change wpList _ _ _ _ _ W2.drew
  go_wp2_with fail
  go_end0
  exact HX.out
end Go.Proofs.Ytednibjemboclaa
