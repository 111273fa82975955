/- What is proved here: what the laws' own Cmd and Attr return: the same command, of the document's type. -/
import Derived.Test.YtkdncnhjlgidnaaDoorCFew
import Derived.Test.YtkdncnhjlgidnaaDoorCChg
namespace Go.Proofs.YtkdncnhjlgidnaaDoor
open Go Go.RowKit Go.Maps

def CM.att (c : CM) : Array Value := #[.int .i64 c.vi, .int .i64 c.re, .int .i64 c.de, .int .i64 c.wi, .int .i64 c.mx, .string c.dd, .bool c.ff]
set_option maxHeartbeats 1600000 in
set_option maxRecDepth 100000 in
theorem AttrL_any (c : CM) (w : World) : Calls Tryd.prog 17 #[.agg c.att] w fun e w' => e = .returned (.agg c.att) ∧ Below w.heap.size w w' := by
  unfold CM.att
  go_enter Tryd.func17, Tryd.ntmps17
  go_wp2
  exact bodyPost_ret (v := .agg #[.int .i64 c.vi, .int .i64 c.re, .int .i64 c.de, .int .i64 c.wi, .int .i64 c.mx, .string c.dd, .bool c.ff]) (by simp [results, Tryd.results17, go_sem]) rfl ⟨rfl, ((Below.refl _ _).alloc (Nat.le_refl _) _).alloc (by simp) _⟩
theorem info_ref : (Tryd.prog.info? 37).map (·.size) = some 18 := by kernel_rfl

set_option maxHeartbeats 6400000 in
set_option maxRecDepth 100000 in
theorem RefCmd_any (c : CM) (w : World) : Calls Tryd.prog 9 #[.agg c.cells] w fun e w' => e = .returned (.agg c.cells) ∧ Below w.heap.size w w' := by
  obtain ⟨cs, hcs⟩ : ∃ cs, cs = c.cells := ⟨_, rfl⟩
  have o1 := c.ones
  have s1 := c.size
  rw [← hcs] at o1 s1
  rw [← hcs]
  have _ := o1; have S1 := Lib.hid s1; have HCS := Lib.hid hcs
  clear o1 s1 hcs
  go_enter Tryd.func9, Tryd.ntmps9
  go_upto_region 1 with fail
  change Code.wp _ _ _ _ ((w.alloc (.cells cs 26)).alloc (.cells CM.zero.cells 37))
  have hb1 : Blk ((w.alloc (.cells cs 26)).alloc (.cells CM.zero.cells 37)) w.heap.size 26 c.cells := by rw [← HCS.out]; exact (Blk.fresh w _ _).alloc _
  have hb2 : Blk ((w.alloc (.cells cs 26)).alloc (.cells CM.zero.cells 37)) (w.heap.size + 1) 37 CM.zero.cells := by simpa using Blk.fresh (w.alloc (.cells cs 26)) 37 CM.zero.cells
  have hbel : Below w.heap.size w ((w.alloc (.cells cs 26)).alloc (.cells CM.zero.cells 37)) := ((Below.refl _ _).alloc (Nat.le_refl _) _).alloc (by simp) _
  generalize (w.alloc (.cells cs 26)).alloc (.cells CM.zero.cells 37) = W at *
  have HB1 := Lib.hid hb1; have HB2 := Lib.hid hb2; have HBEL := Lib.hid hbel
  clear hb1 hb2 hbel
  refine wp_region_G (fun w' => Blk w' w.heap.size 26 c.cells) 26 (by kernel_rfl) ?_
  have hS0 : Blk W.drew w.heap.size 26 c.cells := HB1.out
  refine wpAnyG_take (i := 0) (oi := _) (v := ?_) rfl (by kernel_rfl) (by kernel_rfl) (by kernel_rfl) (by kernel_rfl) (fun _ _ _ h => h) (Or.inl ⟨by rfl, ?_⟩) hS0 ?_
  rotate_left
  · intro wS hSw
    clear hSw
    go_simp
    try with_reducible rfl
  try simp only [Act.put]
  refine wpAnyG_take (i := 1) (oi := _) (v := ?_) rfl (by kernel_rfl) (by kernel_rfl) (by kernel_rfl) (by kernel_rfl) (fun _ _ _ h => h) (Or.inl ⟨by rfl, ?_⟩) hS0 ?_
  rotate_left
  · intro wS hSw
    have y0 : wS.cell? ⟨w.heap.size, 0, none⟩ = some (.int .i64 c.cl) := hSw.cell 0
    clear hSw
    go_simp
    try with_reducible rfl
  try simp only [Act.put]
  refine wpAnyG_take (i := 2) (oi := _) (v := ?_) rfl (by kernel_rfl) (by kernel_rfl) (by kernel_rfl) (by kernel_rfl) (fun _ _ _ h => h) (Or.inl ⟨by rfl, ?_⟩) hS0 ?_
  rotate_left
  · intro wS hSw
    clear hSw
    go_simp
    try with_reducible rfl
  try simp only [Act.put]
  refine wpAnyG_take (i := 3) (oi := _) (v := ?_) rfl (by kernel_rfl) (by kernel_rfl) (by kernel_rfl) (by kernel_rfl) (fun _ _ _ h => h) (Or.inl ⟨by rfl, ?_⟩) hS0 ?_
  rotate_left
  · intro wS hSw
    have y1 : wS.cell? ⟨w.heap.size, 1, none⟩ = some (.int .i64 c.rq) := hSw.cell 1
    clear hSw
    go_simp
    try with_reducible rfl
  try simp only [Act.put]
  refine wpAnyG_take (i := 4) (oi := _) (v := ?_) rfl (by kernel_rfl) (by kernel_rfl) (by kernel_rfl) (by kernel_rfl) (fun _ _ _ h => h) (Or.inl ⟨by rfl, ?_⟩) hS0 ?_
  rotate_left
  · intro wS hSw
    clear hSw
    go_simp
    try with_reducible rfl
  try simp only [Act.put]
  refine wpAnyG_take (i := 5) (oi := _) (v := ?_) rfl (by kernel_rfl) (by kernel_rfl) (by kernel_rfl) (by kernel_rfl) (fun _ _ _ h => h) (Or.inl ⟨by rfl, ?_⟩) hS0 ?_
  rotate_left
  · intro wS hSw
    have y2 : wS.cell? ⟨w.heap.size, 2, none⟩ = some (.int .i64 c.kd) := hSw.cell 2
    clear hSw
    go_simp
    try with_reducible rfl
  try simp only [Act.put]
  refine wpAnyG_take (i := 6) (oi := _) (v := ?_) rfl (by kernel_rfl) (by kernel_rfl) (by kernel_rfl) (by kernel_rfl) (fun _ _ _ h => h) (Or.inl ⟨by rfl, ?_⟩) hS0 ?_
  rotate_left
  · intro wS hSw
    clear hSw
    go_simp
    try with_reducible rfl
  try simp only [Act.put]
  refine wpAnyG_take (i := 7) (oi := _) (v := ?_) rfl (by kernel_rfl) (by kernel_rfl) (by kernel_rfl) (by kernel_rfl) (fun _ _ _ h => h) (Or.inl ⟨by rfl, ?_⟩) hS0 ?_
  rotate_left
  · intro wS hSw
    have y3 : wS.cell? ⟨w.heap.size, 3, none⟩ = some (.string c.qn) := hSw.cell 3
    clear hSw
    go_simp
    try with_reducible rfl
  try simp only [Act.put]
  refine wpAnyG_take (i := 8) (oi := _) (v := ?_) rfl (by kernel_rfl) (by kernel_rfl) (by kernel_rfl) (by kernel_rfl) (fun _ _ _ h => h) (Or.inl ⟨by rfl, ?_⟩) hS0 ?_
  rotate_left
  · intro wS hSw
    clear hSw
    go_simp
    try with_reducible rfl
  try simp only [Act.put]
  refine wpAnyG_take (i := 9) (oi := _) (v := ?_) rfl (by kernel_rfl) (by kernel_rfl) (by kernel_rfl) (by kernel_rfl) (fun _ _ _ h => h) (Or.inl ⟨by rfl, ?_⟩) hS0 ?_
  rotate_left
  · intro wS hSw
    have y4 : wS.cell? ⟨w.heap.size, 4, none⟩ = some (.int .i64 c.vi) := hSw.cell 4
    have y5 : wS.cell? ⟨w.heap.size, 5, none⟩ = some (.int .i64 c.re) := hSw.cell 5
    have y6 : wS.cell? ⟨w.heap.size, 6, none⟩ = some (.int .i64 c.de) := hSw.cell 6
    have y7 : wS.cell? ⟨w.heap.size, 7, none⟩ = some (.int .i64 c.wi) := hSw.cell 7
    have y8 : wS.cell? ⟨w.heap.size, 8, none⟩ = some (.int .i64 c.mx) := hSw.cell 8
    have y9 : wS.cell? ⟨w.heap.size, 9, none⟩ = some (.string c.dd) := hSw.cell 9
    have y10 : wS.cell? ⟨w.heap.size, 10, none⟩ = some (.bool c.ff) := hSw.cell 10
    clear hSw
    go_simp
    try with_reducible rfl
  try simp only [Act.put]
  refine wpAnyG_take (i := 11) (oi := _) (v := ?_) rfl (by kernel_rfl) (by kernel_rfl) (by kernel_rfl) (by kernel_rfl) (fun _ _ _ h => h) (Or.inl ⟨by rfl, ?_⟩) hS0 ?_
  rotate_left
  · intro wS hSw
    clear hSw
    go_simp
    try with_reducible rfl
  try simp only [Act.put]
  refine wpAnyG_take (i := 12) (oi := _) (v := ?_) rfl (by kernel_rfl) (by kernel_rfl) (by kernel_rfl) (by kernel_rfl) (fun _ _ _ h => h) (Or.inl ⟨by rfl, ?_⟩) hS0 ?_
  rotate_left
  · intro wS hSw
    have y11 : wS.cell? ⟨w.heap.size, 11, none⟩ = some (.string c.bo) := hSw.cell 11
    clear hSw
    go_simp
    try with_reducible rfl
  try simp only [Act.put]
  refine wpAnyG_take (i := 13) (oi := _) (v := ?_) rfl (by kernel_rfl) (by kernel_rfl) (by kernel_rfl) (by kernel_rfl) (fun _ _ _ h => h) (Or.inl ⟨by rfl, ?_⟩) hS0 ?_
  rotate_left
  · intro wS hSw
    clear hSw
    go_simp
    try with_reducible rfl
  try simp only [Act.put]
  refine wpAnyG_take (i := 14) (oi := _) (v := ?_) rfl (by kernel_rfl) (by kernel_rfl) (by kernel_rfl) (by kernel_rfl) (fun _ _ _ h => h) (Or.inl ⟨by rfl, ?_⟩) hS0 ?_
  rotate_left
  · intro wS hSw
    have y12 : wS.cell? ⟨w.heap.size, 12, none⟩ = some (.string c.gr) := hSw.cell 12
    clear hSw
    go_simp
    try with_reducible rfl
  try simp only [Act.put]
  refine wpAnyG_take (i := 15) (oi := _) (v := ?_) rfl (by kernel_rfl) (by kernel_rfl) (by kernel_rfl) (by kernel_rfl) (fun _ _ _ h => h) (Or.inl ⟨by rfl, ?_⟩) hS0 ?_
  rotate_left
  · intro wS hSw
    clear hSw
    go_simp
    try with_reducible rfl
  try simp only [Act.put]
  refine wpAnyG_take (i := 16) (oi := _) (v := ?_) rfl (by kernel_rfl) (by kernel_rfl) (by kernel_rfl) (by kernel_rfl) (fun _ _ _ h => h) (Or.inl ⟨by rfl, ?_⟩) hS0 ?_
  rotate_left
  · intro wS hSw
    have y13 : wS.cell? ⟨w.heap.size, 13, none⟩ = some (.string c.ky) := hSw.cell 13
    clear hSw
    go_simp
    try with_reducible rfl
  try simp only [Act.put]
  refine wpAnyG_take (i := 17) (oi := _) (v := ?_) rfl (by kernel_rfl) (by kernel_rfl) (by kernel_rfl) (by kernel_rfl) (fun _ _ _ h => h) (Or.inl ⟨by rfl, ?_⟩) hS0 ?_
  rotate_left
  · intro wS hSw
    clear hSw
    go_simp
    try with_reducible rfl
  try simp only [Act.put]
  refine wpAnyG_take (i := 18) (oi := _) (v := ?_) rfl (by kernel_rfl) (by kernel_rfl) (by kernel_rfl) (by kernel_rfl) (fun _ _ _ h => h) (Or.inl ⟨by rfl, ?_⟩) hS0 ?_
  rotate_left
  · intro wS hSw
    have y14 : wS.cell? ⟨w.heap.size, 14, none⟩ = some (.string c.rc) := hSw.cell 14
    clear hSw
    go_simp
    try with_reducible rfl
  try simp only [Act.put]
  refine wpAnyG_take (i := 19) (oi := _) (v := ?_) rfl (by kernel_rfl) (by kernel_rfl) (by kernel_rfl) (by kernel_rfl) (fun _ _ _ h => h) (Or.inl ⟨by rfl, ?_⟩) hS0 ?_
  rotate_left
  · intro wS hSw
    clear hSw
    go_simp
    try with_reducible rfl
  try simp only [Act.put]
  refine wpAnyG_take (i := 20) (oi := _) (v := ?_) rfl (by kernel_rfl) (by kernel_rfl) (by kernel_rfl) (by kernel_rfl) (fun _ _ _ h => h) (Or.inl ⟨by rfl, ?_⟩) hS0 ?_
  rotate_left
  · intro wS hSw
    have y15 : wS.cell? ⟨w.heap.size, 15, none⟩ = some (.slice c.bA c.bn c.bc) := hSw.cell 15
    clear hSw
    go_simp
    try with_reducible rfl
  try simp only [Act.put]
  refine wpAnyG_take (i := 21) (oi := _) (v := ?_) rfl (by kernel_rfl) (by kernel_rfl) (by kernel_rfl) (by kernel_rfl) (fun _ _ _ h => h) (Or.inl ⟨by rfl, ?_⟩) hS0 ?_
  rotate_left
  · intro wS hSw
    clear hSw
    go_simp
    try with_reducible rfl
  try simp only [Act.put]
  refine wpAnyG_take (i := 22) (oi := _) (v := ?_) rfl (by kernel_rfl) (by kernel_rfl) (by kernel_rfl) (by kernel_rfl) (fun _ _ _ h => h) (Or.inl ⟨by rfl, ?_⟩) hS0 ?_
  rotate_left
  · intro wS hSw
    have y16 : wS.cell? ⟨w.heap.size, 16, none⟩ = some (.int .i64 c.n) := hSw.cell 16
    clear hSw
    go_simp
    try with_reducible rfl
  try simp only [Act.put]
  refine wpAnyG_take (i := 23) (oi := _) (v := ?_) rfl (by kernel_rfl) (by kernel_rfl) (by kernel_rfl) (by kernel_rfl) (fun _ _ _ h => h) (Or.inl ⟨by rfl, ?_⟩) hS0 ?_
  rotate_left
  · intro wS hSw
    clear hSw
    go_simp
    try with_reducible rfl
  try simp only [Act.put]
  refine wpAnyG_take (i := 24) (oi := _) (v := ?_) rfl (by kernel_rfl) (by kernel_rfl) (by kernel_rfl) (by kernel_rfl) (fun _ _ _ h => h) (Or.inl ⟨by rfl, ?_⟩) hS0 ?_
  rotate_left
  · intro wS hSw
    have y17 : wS.cell? ⟨w.heap.size, 17, none⟩ = some (.int .i64 c.m) := hSw.cell 17
    clear hSw
    go_simp
    try with_reducible rfl
  try simp only [Act.put]
  refine wpAnyG_one (i := 10) (o := ⟨some 13, _, _, _, _, _⟩) (by kernel_rfl) rfl (fun K hK => ?_)
  go_simp
  refine (AttrL_any c _).mono ?_
  rintro e w5 ⟨rfl, hb5⟩
  have HBEL5 := Lib.hid (HBEL.out.drew.trans (hb5.mono HBEL.out.size))
  have HB25 : Hid (Blk w5 (w.heap.size + 1) 37 CM.zero.cells) := Lib.hid (Blk.below (w := W.drew) HB2.out hb5 HB2.out.lt)
  have hS5 : Blk w5 w.heap.size 26 c.cells := Blk.below (w := W.drew) HB1.out hb5 HB1.out.lt
  clear hb5 hS0
  dsimp only
  refine hK.out _ _ (fun _ => hS5) ?_
  clear hK K
  try simp only [Act.put]
  have hS0 := hS5
  unfold CM.att
  refine wpAnyG_take (i := 25) (oi := ⟨some 28, _, _, _, _, _⟩) (v := ?_) rfl (by kernel_rfl) (by kernel_rfl) (by kernel_rfl) (by kernel_rfl) (fun _ _ _ h => h) (Or.inl ⟨by rfl, ?_⟩) hS0 ?_
  rotate_left
  · intro wS hSw
    clear hSw
    go_simp
    try with_reducible rfl
  try simp only [Act.put]
  refine wpAnyG_one (i := 26) (o := ⟨none, _, _, _, _, _⟩) (by kernel_rfl) rfl (fun K hK => ?_)
  rw [if_pos (by simp [Region.wanted])]
  refine wp_store_row (o := ⟨none, .store 37 (.tmp 2) (.tmp 28), _, _, _, _⟩) 37 (.tmp 2) (.tmp 28) rfl (w.heap.size + 1) c.cells rfl rfl 37 CM.zero.cells HB25.out info_ref rfl c.ones ?_
  refine hK.out _ _ (fun h => absurd h (by decide)) ?_
  clear hK K
  try simp only [Act.put]
  refine wpAnyG_done (by kernel_rfl) ?_ _
  have HF := Lib.hid (HB25.out.row (cs' := c.cells))
  have HBF := Lib.hid (below_setRow HBEL5.out (Nat.le_succ _) c.cells)
  generalize w5.setRow (w.heap.size + 1) c.cells = wf at *
  rw [← HCS.out] at HF
  go_wp2_with fail
  refine bodyPost_ret (v := .agg cs) ?_ rfl ⟨rfl, HBF.out⟩
  exact results_cell_row rfl _ _ (w.heap.size + 1) 37 cs (0, 0) _ rfl HF.out Tryd.underlying37 rfl (by rw [S1.out]; exact info_ref)
end Go.Proofs.YtkdncnhjlgidnaaDoor
