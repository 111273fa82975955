/- What is proved here: what the document's own 'numbers' and 'texts' of a command return: its numbers, its texts, in new memory. -/
import Derived.Test.YtkdncnhjlgidnaaDoorCRefC
import Derived.Test.YtkdncnhjlgidnaaDoorCSame
import Derived.Test.YtkdncnhjlgidnaaDoorAwakeC
namespace Go.Proofs.YtkdncnhjlgidnaaDoor
open Go Go.RowKit Go.Maps

def CM.ns11 (c : CM) : List Int := [c.cl, c.rq, c.kd, wrap64 (c.n + 1), c.m, c.vi, c.re, c.de, c.wi, c.mx, if c.ff then 1 else 0]
theorem CM.rns_of (c : CM) : c.ns11.map Int.toNat = c.rns := by
  unfold CM.ns11 CM.rns CM.shift CM.ns
  cases c.ff <;> rfl
theorem TRd.lit (w : World) (t : TypeId) (L : List ByteArray) (hl : L.length ≤ maxLen) : TRd (w.alloc (.cells (L.map Value.string).toArray t)) (w.heap.size + 1) (some ⟨w.heap.size, 0, none⟩) L.length L.length L := by
  refine ⟨rfl, Nat.le_refl _, hl, (fun e => by cases e), fun j s hs => ⟨w.heap.size, 0, rfl, by omega, ?_⟩⟩
  rw [(Blk.fresh w t (L.map Value.string).toArray).cell]
  simp [hs]

set_option maxHeartbeats 3200000 in
set_option maxRecDepth 100000 in
theorem refNumbers_any (c : CM) (w : World) : Calls Tryd.prog 33 #[.agg c.cells] w fun e w' => ∃ s, e = .returned (.slice (some ⟨s, 0, none⟩) 11 11) ∧ Blk w' s 3 (c.ns11.map (Value.int .i64)).toArray ∧ Below w.heap.size w w' := by
  obtain ⟨cs, hcs⟩ : ∃ cs, cs = c.cells := ⟨_, rfl⟩
  rw [← hcs]
  have HCS := Lib.hid hcs
  clear hcs
  go_enter Tryd.func33, Tryd.ntmps33
  go_upto_region 1 with fail
  have hb1 : Blk (w.alloc (.cells cs 37)) w.heap.size 37 c.cells := by rw [← HCS.out]; exact Blk.fresh _ _ _
  have hbel : Below w.heap.size w (w.alloc (.cells cs 37)) := (Below.refl _ _).alloc (Nat.le_refl _) _
  generalize w.alloc (.cells cs 37) = W at *
  have y0 : W.cell? ⟨w.heap.size, 0, none⟩ = some (.int .i64 c.cl) := hb1.cell 0
  have y1 : W.cell? ⟨w.heap.size, 1, none⟩ = some (.int .i64 c.rq) := hb1.cell 1
  have y2 : W.cell? ⟨w.heap.size, 2, none⟩ = some (.int .i64 c.kd) := hb1.cell 2
  have y16 : W.cell? ⟨w.heap.size, 16, none⟩ = some (.int .i64 c.n) := hb1.cell 16
  have y17 : W.cell? ⟨w.heap.size, 17, none⟩ = some (.int .i64 c.m) := hb1.cell 17
  have y4 : W.cell? ⟨w.heap.size, 4, none⟩ = some (.int .i64 c.vi) := hb1.cell 4
  have y5 : W.cell? ⟨w.heap.size, 5, none⟩ = some (.int .i64 c.re) := hb1.cell 5
  have y6 : W.cell? ⟨w.heap.size, 6, none⟩ = some (.int .i64 c.de) := hb1.cell 6
  have y7 : W.cell? ⟨w.heap.size, 7, none⟩ = some (.int .i64 c.wi) := hb1.cell 7
  have y8 : W.cell? ⟨w.heap.size, 8, none⟩ = some (.int .i64 c.mx) := hb1.cell 8
  have y10 : W.cell? ⟨w.heap.size, 10, none⟩ = some (.bool c.ff) := hb1.cell 10
  have HBEL := Lib.hid hbel
  clear hb1 hbel
  have HN : Hid (c.ns11 = [c.cl, c.rq, c.kd, wrap64 (c.n + 1), c.m, c.vi, c.re, c.de, c.wi, c.mx, if c.ff then 1 else 0]) := Lib.hid rfl
  generalize c.ff = ff at *
  cases ff
  all_goals
    go_wp2_with fail
    go_ret
    refine ⟨_, rfl, ?_, HBEL.out.alloc (by have := HBEL.out.size; omega) _⟩
    rw [HN.out]
    exact Blk.fresh W _ _
set_option maxHeartbeats 3200000 in
set_option maxRecDepth 100000 in
theorem refTexts_any (c : CM) (w : World) : Calls Tryd.prog 34 #[.agg c.cells] w fun e w' => ∃ s, e = .returned (.slice (some ⟨s, 0, none⟩) 6 6) ∧ w.heap.size ≤ s ∧ Blk w' s 9 (c.ts.map Value.string).toArray ∧ Below w.heap.size w w' := by
  obtain ⟨cs, hcs⟩ : ∃ cs, cs = c.cells := ⟨_, rfl⟩
  rw [← hcs]
  have HCS := Lib.hid hcs
  clear hcs
  go_enter Tryd.func34, Tryd.ntmps34
  go_upto_region 1 with fail
  have hb1 : Blk (w.alloc (.cells cs 37)) w.heap.size 37 c.cells := by rw [← HCS.out]; exact Blk.fresh _ _ _
  have hbel : Below w.heap.size w (w.alloc (.cells cs 37)) := (Below.refl _ _).alloc (Nat.le_refl _) _
  generalize w.alloc (.cells cs 37) = W at *
  have y3 : W.cell? ⟨w.heap.size, 3, none⟩ = some (.string c.qn) := hb1.cell 3
  have y9 : W.cell? ⟨w.heap.size, 9, none⟩ = some (.string c.dd) := hb1.cell 9
  have y11 : W.cell? ⟨w.heap.size, 11, none⟩ = some (.string c.bo) := hb1.cell 11
  have y12 : W.cell? ⟨w.heap.size, 12, none⟩ = some (.string c.gr) := hb1.cell 12
  have y13 : W.cell? ⟨w.heap.size, 13, none⟩ = some (.string c.ky) := hb1.cell 13
  have y14 : W.cell? ⟨w.heap.size, 14, none⟩ = some (.string c.rc) := hb1.cell 14
  have HBEL := Lib.hid hbel
  clear hb1 hbel
  go_wp2_with fail
  go_ret
  refine ⟨_, rfl, by have := HBEL.out.size; omega, ?_, HBEL.out.alloc (by have := HBEL.out.size; omega) _⟩
  exact Blk.fresh W _ _
end Go.Proofs.YtkdncnhjlgidnaaDoor
