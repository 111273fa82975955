/- What is proved here: 'CmdWrites' returns true for any command, whatever the memory in which it is called, and nothing that was there has changed. -/
import Derived.Test.YtkdncnhjlgidnaaDoorCOne
import Derived.Test.YtkdncnhjlgidnaaDoorCSame
import Derived.Test.YtkdncnhjlgidnaaDoorCRight10
namespace Go.Proofs.YtkdncnhjlgidnaaDoor
open Go Go.RowKit Go.Maps

theorem boxed_ref (w : World) (cs : Array Value) : Blk ((w.alloc (.cells CM.zero.cells 37)).setRow w.heap.size cs) w.heap.size 37 cs ∧ Below w.heap.size w ((w.alloc (.cells CM.zero.cells 37)).setRow w.heap.size cs) :=
  ⟨setRow_heap _ _ _ cs _ _ (heap_alloc_new w (.cells CM.zero.cells 37)), below_setRow ((Below.refl _ _).alloc (Nat.le_refl _) _) (Nat.le_refl _) _⟩
theorem same_at (c : CM) (bA : Option Addr) (bc : Nat) (L : List ByteArray) (w : World) (h1 : TRd w w.heap.size bA c.bn bc L) (h2 : TRd w w.heap.size c.bA c.bn c.bc L) (hn : c.bn ≤ 1000000) :
    Calls Tryd.prog 16 #[.agg (c.at_ bA bc).cells, .agg c.cells] w fun e w' => e = .returned (.bool true) ∧ Below w.heap.size w w' := by
  obtain ⟨x1, x2, x3, x4, x5, x6, x7, x8, x9, x10, x11, x12, x13, x14, x15, x16, x17, x18, x19, x20⟩ := c
  refine (Same_any x1 x2 x3 x5 x6 x7 x8 x9 x19 x20 x1 x2 x3 x5 x6 x7 x8 x9 x19 x20 x4 x10 x12 x13 x14 x15 x4 x10 x12 x13 x14 x15 x11 x11 bA x16 x17 bc x17 x18 L L w h1 h2 hn).mono ?_
  rintro e w' ⟨rfl, hb⟩
  exact ⟨by simp, hb⟩

set_option maxHeartbeats 12800000 in
set_option maxRecDepth 100000 in
theorem writes_any (c : CM) (L : List ByteArray) (w : World) (hE : ErrType w) (hL : TRd w w.heap.size c.bA c.bn c.bc L) (hf : c.Fits L) (hn : I64 c.n) :
    Calls Tryd.prog 3 #[.agg c.cells] w fun e w' => e = .returned (.bool true) ∧ Below w.heap.size w w' := by
  have hat : c.cells[4]? = some (.int .i64 c.vi) ∧ c.cells[5]? = some (.int .i64 c.re) ∧ c.cells[6]? = some (.int .i64 c.de) ∧ c.cells[7]? = some (.int .i64 c.wi) ∧ c.cells[8]? = some (.int .i64 c.mx) ∧ c.cells[9]? = some (.string c.dd) ∧ c.cells[10]? = some (.bool c.ff) := ⟨rfl, rfl, rfl, rfl, rfl, rfl, rfl⟩
  have hrc := RefCmd_any c
  have hri := Right_any c L; have hr10 := Right10_any c L
  have hwo := Write_ok c L; have hwn := Write_no c L
  have hw10 := Write10_any c L
  obtain ⟨cs, hcs⟩ : ∃ cs, cs = c.cells := ⟨_, rfl⟩
  have i1 := c.info; have o1 := c.ones; have s1 := c.size
  rw [← hcs] at i1 o1 s1 hat hrc hri hr10 hwo hwn hw10
  rw [← hcs]
  have i2 : (Tryd.prog.info? 37).map (·.size) = some cs.size := by rw [s1]; exact info_ref
  have I1 := Lib.hid i1; have I2 := Lib.hid i2; have O1 := Lib.hid o1; have S1 := Lib.hid s1; have HCS := Lib.hid hcs; have AT := Lib.hid hat
  have HRC := Lib.hid hrc; have HRI := Lib.hid hri; have HR10 := Lib.hid hr10; have HWO := Lib.hid hwo; have HWN := Lib.hid hwn; have HW10 := Lib.hid hw10
  have HLL := Lib.hid hL; have HE := Lib.hid hE; have HF := Lib.hid hf; have HN := Lib.hid hn
  clear i1 i2 o1 s1 hcs hL hE hf hn hat hrc hri hr10 hwo hwn hw10
  go_enter Tryd.func3, Tryd.ntmps3
  go_upto_region 1 with fail
  have hb1 : Blk (w.alloc (.cells cs 26)) w.heap.size 26 cs := Blk.fresh _ _ _
  have hbel : Below w.heap.size w (w.alloc (.cells cs 26)) := (Below.refl _ _).alloc (Nat.le_refl _) _
  generalize w.alloc (.cells cs 26) = W at *
  have HB1 := Lib.hid hb1; have HBEL := Lib.hid hbel
  clear hb1 hbel
  go_wp2_with (first
    | (refine wpList_load_row (o := ⟨some 9, .load 26 (.tmp 1), _, _, _, _⟩) rfl 26 (.tmp 1) rfl w.heap.size rfl 26 cs (0, 0) _ HB1.out Tryd.underlying26 rfl I1.out ?_)
    | (refine build_one (o := ⟨some 10, .buildSlice 28 1 #[(0, .tmp 9)], _, _, _, _⟩) rfl (.tmp 9) rfl c cs HCS.out rfl ?_))
  have hbk : Blk (W.alloc (.cells cs 26)) W.heap.size 26 cs := Blk.fresh _ _ _
  have hbel : Below w.heap.size w (W.alloc (.cells cs 26)) := HBEL.out.alloc HBEL.out.size _
  have hb11 : Blk (W.alloc (.cells cs 26)) w.heap.size 26 cs := HB1.out.alloc _
  generalize W.alloc (.cells cs 26) = W1 at *
  have HBK := Lib.hid hbk; have HBEL1 := Lib.hid hbel; have HB11 := Lib.hid hb11
  clear hbk hbel hb11
  refine (Few_any W.heap.size c L W1 (by rw [← HCS.out]; exact HBK.out) ((HLL.out.below HBEL1.out).more HBEL1.out.size) HF.out).mono ?_
  rintro e w1 ⟨b, rfl, hbn, hbl⟩
  have HB2 := Lib.hid (HB11.out.below hbl HB11.out.lt)
  have HBEL2 := Lib.hid (HBEL1.out.trans (hbl.mono HBEL1.out.size))
  clear hbl HBK HB11 HBEL1 HB1 HBEL
  rcases b with _ | _
  · go_wp2_with (go_at_call 7; refine (awake_any _).mono ?_; rintro e w2 ⟨rfl, hb2⟩; have HB := Lib.hid (HBEL2.out.trans (hb2.mono HBEL2.out.size)); clear hb2)
    go_ret
    exact ⟨rfl, HB.out⟩
  have hbn := hbn rfl
  have HLW : Hid (∀ W, Below w.heap.size w W → TRd W W.heap.size c.bA c.bn c.bc L) := Lib.hid fun W hW => (HLL.out.below hW).more hW.size
  obtain ⟨q, hq⟩ : ∃ q, q = c.right L := ⟨_, rfl⟩
  have HQ := Lib.hid hq
  clear hq
  have HRT : Hid (∀ W, Below w.heap.size w W → Calls Tryd.prog 11 #[.agg cs] W fun e w' => e = .returned (.bool q) ∧ Below W.heap.size W w') := Lib.hid fun W hW => by rw [HQ.out]; exact HRI.out W (HLW.out W hW) (by omega)
  have HRF : Hid (∀ W, Below w.heap.size w W → Calls Tryd.prog 10 #[.agg cs] W fun e w' => e = .returned (.bool q) ∧ Below W.heap.size W w') := Lib.hid fun W hW => by rw [HQ.out]; exact HR10.out W (HLW.out W hW) HN.out (by omega)
  clear HRI HR10
  rcases q with _ | _
  · go_upto_region 5 with (first
      | (refine wpList_store_row (o := ⟨none, .store 37 (.tmp 5) (.tmp 20), _, _, _, _⟩) rfl 37 (.tmp 5) (.tmp 20) rfl w3.heap.size cs rfl rfl 37 CM.zero.cells (heap_alloc_new w3 _) I2.out (by rw [S1.out]; rfl) O1.out ?_)
      | (refine wpList_load_row (o := ⟨some 15, .load 26 (.tmp 1), _, _, _, _⟩) rfl 26 (.tmp 1) rfl w.heap.size rfl 26 cs (0, 0) _ HB2.out Tryd.underlying26 rfl I1.out ?_)
      | (go_at_call 8; refine (HWN.out w1 (HLW.out w1 HBEL2.out) (by omega) HQ.out.symm).mono ?_; rintro e w2 ⟨f, s, rfl, hf, hb⟩
         have HFB := Lib.hid hf; have HBEL3 := Lib.hid (HBEL2.out.trans (hb.mono HBEL2.out.size)); have HB3 := Lib.hid (HB2.out.below hb HB2.out.lt); clear hf hb)
      | (refine wpList_load_row (o := ⟨some 19, .load 26 (.tmp 1), _, _, _, _⟩) rfl 26 (.tmp 1) rfl w.heap.size rfl 26 cs (0, 0) _ HB3.out Tryd.underlying26 rfl I1.out ?_)
      | (go_at_call 9; refine (HRC.out w2).mono ?_; rintro e w3 ⟨rfl, hb⟩
         have HFB3 := Lib.hid (HFB.out.below hb HFB.out.lt); have HBEL4 := Lib.hid (HBEL3.out.trans (hb.mono HBEL3.out.size)); have HB4 := Lib.hid (HB3.out.below hb HB3.out.lt); clear hb))
    change Code.wp _ _ _ _ ((w3.alloc (.cells CM.zero.cells 37)).setRow w3.heap.size cs)
    obtain ⟨hx1, hx2⟩ := boxed_ref w3 cs
    generalize (w3.alloc (.cells CM.zero.cells 37)).setRow w3.heap.size cs = w4 at *
    have HX1 := Lib.hid hx1; have HBEL5 := Lib.hid (HBEL4.out.trans (hx2.mono HBEL4.out.size)); have HB5 := Lib.hid (HB4.out.below hx2 HB4.out.lt); have HFB4 := Lib.hid (HFB3.out.below hx2 HFB3.out.lt)
    clear hx1 hx2
    go_wp2_with (first
      | (refine wpList_load_row (o := ⟨some 21, .load 37 (.tmp 5), _, _, _, _⟩) rfl 37 (.tmp 5) rfl w3.heap.size rfl 37 cs (0, 0) _ HX1.out Tryd.underlying37 rfl I2.out ?_)
      | (go_at_call 10; refine (HRF.out w4 HBEL5.out).mono ?_; rintro e w5 ⟨rfl, hb⟩
         have HBEL6 := Lib.hid (HBEL5.out.trans (hb.mono HBEL5.out.size)); have HB6 := Lib.hid (HB5.out.below hb HB5.out.lt); have HFB5 := Lib.hid (HFB4.out.below hb HFB4.out.lt); clear hb)
      | (refine wpList_load_row (o := ⟨some 23, .load 26 (.tmp 1), _, _, _, _⟩) rfl 26 (.tmp 1) rfl w.heap.size rfl 26 cs (0, 0) _ HB6.out Tryd.underlying26 rfl I1.out ?_)
      | (go_at_call 11; refine (HRT.out w5 HBEL6.out).mono ?_; rintro e w6 ⟨rfl, hb⟩
         have HBEL7 := Lib.hid (HBEL6.out.trans (hb.mono HBEL6.out.size)); have HFB6 := Lib.hid (HFB5.out.below hb HFB5.out.lt); clear hb)
      | (go_at_call 12; refine (Code_c 1 _ _ w6 (HE.out.below (HBEL7.out.mono (Nat.le_refl _))) (.inr ⟨f, s, rfl, HFB6.out⟩)).mono ?_; rintro e w7 ⟨rfl, hb⟩
         have HBEL8 := Lib.hid (HBEL7.out.trans (hb.mono HBEL7.out.size)); clear hb)
      | (go_at_call 7; refine (awake_any _).mono ?_; rintro e w8 ⟨rfl, hb⟩; have HB := Lib.hid (HBEL8.out.trans (hb.mono HBEL8.out.size)); clear hb))
    go_ret
    exact ⟨rfl, HB.out⟩
  · go_upto_region 5 with (first
      | (refine wpList_store_row (o := ⟨none, .store 37 (.tmp 5) (.tmp 20), _, _, _, _⟩) rfl 37 (.tmp 5) (.tmp 20) rfl w3.heap.size cs rfl rfl 37 CM.zero.cells (heap_alloc_new w3 _) I2.out (by rw [S1.out]; rfl) O1.out ?_)
      | (refine wpList_load_row (o := ⟨some 15, .load 26 (.tmp 1), _, _, _, _⟩) rfl 26 (.tmp 1) rfl w.heap.size rfl 26 cs (0, 0) _ HB2.out Tryd.underlying26 rfl I1.out ?_)
      | (go_at_call 8; refine (HWO.out w1 (HLW.out w1 HBEL2.out) HQ.out.symm).mono ?_; rintro e w2 ⟨A, n, d, rfl, hrd, hb⟩
         have HRD := Lib.hid hrd; have HBEL3 := Lib.hid (HBEL2.out.trans (hb.mono HBEL2.out.size)); have HB3 := Lib.hid (HB2.out.below hb HB2.out.lt); clear hrd hb)
      | (refine wpList_load_row (o := ⟨some 19, .load 26 (.tmp 1), _, _, _, _⟩) rfl 26 (.tmp 1) rfl w.heap.size rfl 26 cs (0, 0) _ HB3.out Tryd.underlying26 rfl I1.out ?_)
      | (go_at_call 9; refine (HRC.out w2).mono ?_; rintro e w3 ⟨rfl, hb⟩
         have HRD3 := Lib.hid ((HRD.out.below hb).more hb.size); have HBEL4 := Lib.hid (HBEL3.out.trans (hb.mono HBEL3.out.size)); have HB4 := Lib.hid (HB3.out.below hb HB3.out.lt); clear hb))
    change Code.wp _ _ _ _ ((w3.alloc (.cells CM.zero.cells 37)).setRow w3.heap.size cs)
    obtain ⟨hx1, hx2⟩ := boxed_ref w3 cs
    generalize (w3.alloc (.cells CM.zero.cells 37)).setRow w3.heap.size cs = w4 at *
    have HX1 := Lib.hid hx1; have HBEL5 := Lib.hid (HBEL4.out.trans (hx2.mono HBEL4.out.size)); have HB5 := Lib.hid (HB4.out.below hx2 HB4.out.lt); have HRD4 := Lib.hid ((HRD3.out.below hx2).more hx2.size)
    clear hx1 hx2
    generalize w3.heap.size = p5 at *
    have hn6 : n ≤ 6000 := by rw [← HRD4.out.len]; exact (CM.good HQ.out.symm).len HLL.out.len
    have HEB : Hid (∀ x ∈ c.bytes L, 0 ≤ x ∧ x < 256) := Lib.hid (CM.bytes_ok c L)
    have HBK := Lib.hid (read_back HQ.out.symm HLL.out.len HN.out)
    go_wp2_with (first
      | (refine wpList_load_row (o := ⟨some 21, .load 37 (.tmp 5), _, _, _, _⟩) rfl 37 (.tmp 5) rfl p5 rfl 37 cs (0, 0) _ HX1.out Tryd.underlying37 rfl I2.out ?_)
      | (go_at_call 10; refine (HRF.out w4 HBEL5.out).mono ?_; rintro e w5 ⟨rfl, hb⟩
         have HBEL6 := Lib.hid (HBEL5.out.trans (hb.mono HBEL5.out.size)); have HB6 := Lib.hid (HB5.out.below hb HB5.out.lt); have HRD5 := Lib.hid ((HRD4.out.below hb).more hb.size); have HX2 := Lib.hid (HX1.out.below hb HX1.out.lt); clear hb)
      | (refine wpList_load_row (o := ⟨some 23, .load 26 (.tmp 1), _, _, _, _⟩) rfl 26 (.tmp 1) rfl w.heap.size rfl 26 cs (0, 0) _ HB6.out Tryd.underlying26 rfl I1.out ?_)
      | (go_at_call 11; refine (HRT.out w5 HBEL6.out).mono ?_; rintro e w6 ⟨rfl, hb⟩
         have HBEL7 := Lib.hid (HBEL6.out.trans (hb.mono HBEL6.out.size)); have HRD6 := Lib.hid ((HRD5.out.below hb).more hb.size); have HX3 := Lib.hid (HX2.out.below hb HX2.out.lt); clear hb))
    clear HX1 HX2 HBEL5 HBEL6 HB2 HB3 HB4 HB5 HB6 HRD HRD3 HRD4 HRD5 HBEL2 HBEL3 HBEL4 HRF HRT HWO HWN
    refine (Read_any A n d (c.bytes L) w6 HRD6.out HEB.out (by omega)).mono ?_
    rintro e w7 ⟨c2, er2, rfl, hb7, hp⟩
    obtain ⟨bA2, bc2, rfl, rfl, ht2⟩ : ∃ bA bc, c2 = c.at_ bA bc ∧ er2 = .nilIface ∧ TRd w7 w7.heap.size bA c.bn bc L := by
      obtain ⟨k1, k2, k3, k4⟩ := HBK.out
      unfold noCmd at k1
      rcases hp with ⟨h, _⟩ | ⟨_, bA, bc, h2, h3, h4⟩
      · exact absurd k1 h
      · refine ⟨bA, bc, ?_, h3, ?_⟩
        · rw [h2]
          exact k2 bA bc
        · rw [k4] at h4
          have k3' : gotLR (raw 11 6 (c.bytes L)) = L := k3
          rw [k3'] at h4
          exact h4
    clear hp HBK
    have HT2 := Lib.hid ht2; have HBEL8 := Lib.hid (HBEL7.out.trans (hb7.mono HBEL7.out.size)); have HRD7 := Lib.hid ((HRD6.out.below hb7).more hb7.size); have HX4 := Lib.hid (HX3.out.below hb7 HX3.out.lt)
    clear ht2 hb7 HRD6 HX3 HBEL7
    have HSA : Hid (∀ W, Below w7.heap.size w7 W → Calls Tryd.prog 16 #[.agg (c.at_ bA2 bc2).cells, .agg cs] W fun e w' => e = .returned (.bool true) ∧ Below W.heap.size W w') := Lib.hid fun W hW => by
      rw [HCS.out]
      exact same_at c bA2 bc2 L W ((HT2.out.below hW).more hW.size) (HLW.out W (HBEL8.out.trans (hW.mono HBEL8.out.size))) (by omega)
    have HRC2 : Hid (∀ W, Calls Tryd.prog 9 #[.agg (c.at_ bA2 bc2).cells] W fun e w' => e = .returned (.agg (c.at_ bA2 bc2).cells) ∧ Below W.heap.size W w') := Lib.hid (RefCmd_any _)
    have AT2 : Hid ((c.at_ bA2 bc2).cells[4]? = some (.int .i64 c.vi) ∧ (c.at_ bA2 bc2).cells[5]? = some (.int .i64 c.re) ∧ (c.at_ bA2 bc2).cells[6]? = some (.int .i64 c.de) ∧ (c.at_ bA2 bc2).cells[7]? = some (.int .i64 c.wi) ∧ (c.at_ bA2 bc2).cells[8]? = some (.int .i64 c.mx) ∧ (c.at_ bA2 bc2).cells[9]? = some (.string c.dd) ∧ (c.at_ bA2 bc2).cells[10]? = some (.bool c.ff)) := Lib.hid ⟨rfl, rfl, rfl, rfl, rfl, rfl, rfl⟩
    have J1 := Lib.hid (c.at_ bA2 bc2).info; have J2 := Lib.hid (c.at_ bA2 bc2).ones; have J3 := Lib.hid (c.at_ bA2 bc2).size
    generalize (c.at_ bA2 bc2).cells = cs2 at *
    go_upto_region 11 with (refine wpList_store_row (o := ⟨none, .store 26 (.tmp 7) (.tmp 43), _, _, _, _⟩) rfl 26 (.tmp 7) (.tmp 43) rfl w7.heap.size cs2 rfl rfl 26 CM.zero.cells (heap_alloc_new w7 _) J1.out (by rw [J3.out]; rfl) J2.out ?_)
    change Code.wp _ _ _ _ ((w7.alloc (.cells CM.zero.cells 26)).setRow w7.heap.size cs2)
    obtain ⟨hx1, hx2⟩ := boxed_row w7 cs2
    have HSA8 : Hid (∀ W, Below ((w7.alloc (.cells CM.zero.cells 26)).setRow w7.heap.size cs2).heap.size ((w7.alloc (.cells CM.zero.cells 26)).setRow w7.heap.size cs2) W → Calls Tryd.prog 16 #[.agg cs2, .agg cs] W fun e w' => e = .returned (.bool true) ∧ Below W.heap.size W w') := Lib.hid fun W hW => HSA.out W (hx2.trans (hW.mono hx2.size))
    generalize (w7.alloc (.cells CM.zero.cells 26)).setRow w7.heap.size cs2 = w8 at *
    have HBEL9 := Lib.hid (HBEL8.out.trans (hx2.mono HBEL8.out.size)); have HRD8 := Lib.hid ((HRD7.out.below hx2).more hx2.size)
    have HX5 := Lib.hid (HX4.out.below hx2 HX4.out.lt); have HY := Lib.hid hx1
    clear hx1 hx2 HSA HRD7 HX4 HBEL8 HT2
    generalize w7.heap.size = p7 at *
    have hS0 : Blk w8.drew p5 37 cs ∧ Blk w8.drew p7 26 cs2 := ⟨HX5.out, HY.out⟩
    have HRDd : Hid (Rd w8.drew w8.heap.size .u8 A n d (c.bytes L)) := Lib.hid (HRD8.out.below ((Below.refl _ _).drew))
    have HBd := Lib.hid HBEL9.out.drew
    have HB8 : Hid (Below w8.heap.size w8 w8.drew) := Lib.hid ((Below.refl _ _).drew)
    clear HRD8 HBEL9 HX5 HY
    refine wp_region_G (fun w' => Blk w' p5 37 cs ∧ Blk w' p7 26 cs2) 29 (by kernel_rfl) ?_
    generalize hwd : w8.drew = wd at *
    have hwz : wd.heap.size = w8.heap.size := by rw [← hwd]; rfl
    clear hwd
    refine wpAnyG_take (i := 0) (oi := ⟨some 45, _, _, _, _, _⟩) (v := .nilIface) rfl (by kernel_rfl) (by kernel_rfl) (by kernel_rfl) (by kernel_rfl) (fun _ _ _ h => h) (Or.inl ⟨by rfl, ?_⟩) hS0 ?_
    · intro wS hSw
      clear hSw
      go_simp
      try rfl
    try simp only [Act.put]
    refine wpAnyG_take (i := 1) (oi := ⟨some 46, _, _, _, _, _⟩) (v := .bool true) rfl (by kernel_rfl) (by kernel_rfl) (by kernel_rfl) (by kernel_rfl) (fun _ _ _ h => h) (Or.inl ⟨by rfl, ?_⟩) hS0 ?_
    · intro wS hSw
      clear hSw
      go_simp
      try rfl
    try simp only [Act.put]
    refine wpAnyG_take (i := 2) (oi := ⟨some 47, _, _, _, _, _⟩) (v := .bool true) rfl (by kernel_rfl) (by kernel_rfl) (by kernel_rfl) (by kernel_rfl) (fun _ _ _ h => h) (Or.inl ⟨by rfl, ?_⟩) hS0 ?_
    · intro wS hSw
      clear hSw
      go_simp
      try rfl
    try simp only [Act.put]
    refine wpAnyG_take (i := 3) (oi := ⟨some 48, _, _, _, _, _⟩) (v := .nilIface) rfl (by kernel_rfl) (by kernel_rfl) (by kernel_rfl) (by kernel_rfl) (fun _ _ _ h => h) (Or.inl ⟨by rfl, ?_⟩) hS0 ?_
    · intro wS hSw
      clear hSw
      go_simp
      try rfl
    try simp only [Act.put]
    refine wpAnyG_take (i := 4) (oi := ⟨some 49, _, _, _, _, _⟩) (v := .bool true) rfl (by kernel_rfl) (by kernel_rfl) (by kernel_rfl) (by kernel_rfl) (fun _ _ _ h => h) (Or.inl ⟨by rfl, ?_⟩) hS0 ?_
    · intro wS hSw
      clear hSw
      go_simp
      try rfl
    try simp only [Act.put]
    refine wpAnyG_take (i := 5) (oi := ⟨some 50, _, _, _, _, _⟩) (v := .bool true) rfl (by kernel_rfl) (by kernel_rfl) (by kernel_rfl) (by kernel_rfl) (fun _ _ _ h => h) (Or.inl ⟨by rfl, ?_⟩) hS0 ?_
    · intro wS hSw
      clear hSw
      go_simp
      try rfl
    try simp only [Act.put]
    refine wpAnyG_take (i := 6) (oi := ⟨some 51, _, _, _, _, _⟩) (v := .bool true) rfl (by kernel_rfl) (by kernel_rfl) (by kernel_rfl) (by kernel_rfl) (fun _ _ _ h => h) (Or.inl ⟨by rfl, ?_⟩) hS0 ?_
    · intro wS hSw
      clear hSw
      go_simp
      try rfl
    try simp only [Act.put]
    refine wpAnyG_take (i := 7) (oi := ⟨some 52, _, _, _, _, _⟩) (v := .slice A n d) rfl (by kernel_rfl) (by kernel_rfl) (by kernel_rfl) (by kernel_rfl) (fun _ _ _ h => h) (Or.inl ⟨by kernel_rfl, ?_⟩) hS0 ?_
    · intro wS hSw
      clear hSw
      go_simp
      try rfl
    try simp only [Act.put]
    refine wpAnyG_take (i := 8) (oi := ⟨some 53, _, _, _, _, _⟩) (v := .agg cs) rfl (by kernel_rfl) (by kernel_rfl) (by kernel_rfl) (by kernel_rfl) (fun _ _ _ h => h) (Or.inl ⟨by kernel_rfl, ?_⟩) hS0 ?_
    · intro wS hSw
      exact yields_row10 37 (.tmp 5) rfl p5 (by kernel_rfl) 37 cs (0, 0) _ hSw.1 Tryd.underlying37 rfl I2.out
    try simp only [Act.put]
    refine wpAnyG_one (i := 9) (o := ⟨some 54, _, _, _, _, _⟩) (by kernel_rfl) rfl (fun K hK => ?_)
    rw [if_pos (by kernel_rfl)]
    go_simp
    refine (HW10.out wd (HLW.out wd HBd.out) HQ.out.symm).mono ?_
    rintro e w9 ⟨v9, rfl, hown, hb⟩
    have HB9 := Lib.hid (HBd.out.trans (hb.mono HBd.out.size))
    have hS1 : Blk w9 p5 37 cs ∧ Blk w9 p7 26 cs2 := ⟨hS0.1.below hb hS0.1.lt, hS0.2.below hb hS0.2.lt⟩
    have HB89 := Lib.hid (HB8.out.trans (hb.mono HB8.out.size))
    obtain ⟨A9, d9, rfl, hr9⟩ := Rd.of_own hown
    have HR9 := Lib.hid hr9
    have HRD9 := Lib.hid (HRDd.out.below (hb.mono (Nat.le_of_eq hwz.symm)))
    clear hown hr9
    clear hb hS0
    have hS0 := hS1
    clear hS1
    dsimp only
    refine hK.out _ _ (fun _ => hS0) ?_
    clear hK K
    try simp only [Act.put]
    refine wpAnyG_one (i := 10) (o := ⟨some 55, _, _, _, _, _⟩) (by kernel_rfl) rfl (fun K hK => ?_)
    rw [if_pos (by kernel_rfl)]
    go_simp
    refine (Equal_any A A9 n d _ d9 _ _ (c.bytes L) (c.bytes L) w9 HRD9.out HR9.out HEB.out HEB.out).mono ?_
    rw [decide_eq_true rfl]
    rintro e w10 ⟨rfl, rfl⟩
    dsimp only
    refine hK.out _ _ (fun _ => hS0) ?_
    clear hK K
    try simp only [Act.put]
    refine wpAnyG_take (i := 11) (oi := ⟨some 56, _, _, _, _, _⟩) (v := .bool true) rfl (by kernel_rfl) (by kernel_rfl) (by kernel_rfl) (by kernel_rfl) (fun _ _ _ h => h) (Or.inl ⟨by kernel_rfl, ?_⟩) hS0 ?_
    · intro wS hSw
      clear hSw
      go_simp
      try rfl
    try simp only [Act.put]
    refine wpAnyG_take (i := 12) (oi := ⟨some 57, _, _, _, _, _⟩) (v := .bool true) rfl (by kernel_rfl) (by kernel_rfl) (by kernel_rfl) (by kernel_rfl) (fun _ _ _ h => h) (Or.inl ⟨by kernel_rfl, ?_⟩) hS0 ?_
    · intro wS hSw
      clear hSw
      go_simp
      try rfl
    try simp only [Act.put]
    refine wpAnyG_take (i := 13) (oi := ⟨some 58, _, _, _, _, _⟩) (v := .agg cs2) rfl (by kernel_rfl) (by kernel_rfl) (by kernel_rfl) (by kernel_rfl) (fun _ _ _ h => h) (Or.inl ⟨by kernel_rfl, ?_⟩) hS0 ?_
    · intro wS hSw
      exact yields_row10 26 (.tmp 7) rfl p7 (by kernel_rfl) 26 cs2 (0, 0) _ hSw.2 Tryd.underlying26 rfl J1.out
    try simp only [Act.put]
    refine wpAnyG_take (i := 15) (oi := ⟨some 60, _, _, _, _, _⟩) (v := .agg cs) rfl (by kernel_rfl) (by kernel_rfl) (by kernel_rfl) (by kernel_rfl) (fun _ _ _ h => h) (Or.inl ⟨by kernel_rfl, ?_⟩) hS0 ?_
    · intro wS hSw
      exact yields_row10 37 (.tmp 5) rfl p5 (by kernel_rfl) 37 cs (0, 0) _ hSw.1 Tryd.underlying37 rfl I2.out
    try simp only [Act.put]
    refine wpAnyG_one (i := 14) (o := ⟨some 59, _, _, _, _, _⟩) (by kernel_rfl) rfl (fun K hK => ?_)
    rw [if_pos (by kernel_rfl)]
    go_simp
    refine (HRC2.out w9).mono ?_
    rintro e w11 ⟨rfl, hb⟩
    have HB11 := Lib.hid (HB9.out.trans (hb.mono HB9.out.size))
    have hS1 : Blk w11 p5 37 cs ∧ Blk w11 p7 26 cs2 := ⟨hS0.1.below hb hS0.1.lt, hS0.2.below hb hS0.2.lt⟩
    have HB811 := Lib.hid (HB89.out.trans (hb.mono HB89.out.size))
    clear hb hS0
    have hS0 := hS1
    clear hS1
    dsimp only
    refine hK.out _ _ (fun _ => hS0) ?_
    clear hK K
    try simp only [Act.put]
    refine wpAnyG_one (i := 16) (o := ⟨some 61, _, _, _, _, _⟩) (by kernel_rfl) rfl (fun K hK => ?_)
    rw [if_pos (by kernel_rfl)]
    go_simp
    refine (HSA8.out w11 HB811.out).mono ?_
    rintro e w12 ⟨rfl, hb⟩
    have HB12 := Lib.hid (HB11.out.trans (hb.mono HB11.out.size))
    have hS1 : Blk w12 p5 37 cs ∧ Blk w12 p7 26 cs2 := ⟨hS0.1.below hb hS0.1.lt, hS0.2.below hb hS0.2.lt⟩
    clear hb hS0
    have hS0 := hS1
    clear hS1
    dsimp only
    refine hK.out _ _ (fun _ => hS0) ?_
    clear hK K
    try simp only [Act.put]
    refine wpAnyG_take (i := 17) (oi := ⟨some 62, _, _, _, _, _⟩) (v := .bool true) rfl (by kernel_rfl) (by kernel_rfl) (by kernel_rfl) (by kernel_rfl) (fun _ _ _ h => h) (Or.inl ⟨by kernel_rfl, ?_⟩) hS0 ?_
    · intro wS hSw
      clear hSw
      go_simp
      try rfl
    try simp only [Act.put]
    refine wpAnyG_take (i := 18) (oi := ⟨some 63, _, _, _, _, _⟩) (v := .bool true) rfl (by kernel_rfl) (by kernel_rfl) (by kernel_rfl) (by kernel_rfl) (fun _ _ _ h => h) (Or.inl ⟨by kernel_rfl, ?_⟩) hS0 ?_
    · intro wS hSw
      clear hSw
      go_simp
      try rfl
    try simp only [Act.put]
    refine wpAnyG_take (i := 19) (oi := ⟨some 64, _, _, _, _, _⟩) (v := .pointer (some ⟨p7, 4, none⟩)) rfl (by kernel_rfl) (by kernel_rfl) (by kernel_rfl) (by kernel_rfl) (fun _ _ _ h => h) (Or.inl ⟨by kernel_rfl, ?_⟩) hS0 ?_
    · intro wS hSw
      clear hSw
      go_simp
      try rfl
    try simp only [Act.put]
    refine wpAnyG_take (i := 20) (oi := ⟨some 65, _, _, _, _, _⟩) (v := .agg #[.int .i64 c.vi, .int .i64 c.re, .int .i64 c.de, .int .i64 c.wi, .int .i64 c.mx, .string c.dd, .bool c.ff]) rfl (by kernel_rfl) (by kernel_rfl) (by kernel_rfl) (by kernel_rfl) (fun _ _ _ h => h) (Or.inl ⟨by kernel_rfl, ?_⟩) hS0 ?_
    · intro wS hSw
      have y0 : wS.cell? ⟨p7, 4, none⟩ = some (.int .i64 c.vi) := (hSw.2.cell 4).trans AT2.out.1
      have y1 : wS.cell? ⟨p7, 5, none⟩ = some (.int .i64 c.re) := (hSw.2.cell 5).trans AT2.out.2.1
      have y2 : wS.cell? ⟨p7, 6, none⟩ = some (.int .i64 c.de) := (hSw.2.cell 6).trans AT2.out.2.2.1
      have y3 : wS.cell? ⟨p7, 7, none⟩ = some (.int .i64 c.wi) := (hSw.2.cell 7).trans AT2.out.2.2.2.1
      have y4 : wS.cell? ⟨p7, 8, none⟩ = some (.int .i64 c.mx) := (hSw.2.cell 8).trans AT2.out.2.2.2.2.1
      have y5 : wS.cell? ⟨p7, 9, none⟩ = some (.string c.dd) := (hSw.2.cell 9).trans AT2.out.2.2.2.2.2.1
      have y6 : wS.cell? ⟨p7, 10, none⟩ = some (.bool c.ff) := (hSw.2.cell 10).trans AT2.out.2.2.2.2.2.2
      clear hSw
      go_simp
      try rfl
    try simp only [Act.put]
    refine wpAnyG_take (i := 22) (oi := ⟨some 67, _, _, _, _, _⟩) (v := .pointer (some ⟨p5, 4, none⟩)) rfl (by kernel_rfl) (by kernel_rfl) (by kernel_rfl) (by kernel_rfl) (fun _ _ _ h => h) (Or.inl ⟨by kernel_rfl, ?_⟩) hS0 ?_
    · intro wS hSw
      clear hSw
      go_simp
      try rfl
    try simp only [Act.put]
    refine wpAnyG_take (i := 23) (oi := ⟨some 68, _, _, _, _, _⟩) (v := .agg #[.int .i64 c.vi, .int .i64 c.re, .int .i64 c.de, .int .i64 c.wi, .int .i64 c.mx, .string c.dd, .bool c.ff]) rfl (by kernel_rfl) (by kernel_rfl) (by kernel_rfl) (by kernel_rfl) (fun _ _ _ h => h) (Or.inl ⟨by kernel_rfl, ?_⟩) hS0 ?_
    · intro wS hSw
      have y0 : wS.cell? ⟨p5, 4, none⟩ = some (.int .i64 c.vi) := (hSw.1.cell 4).trans AT.out.1
      have y1 : wS.cell? ⟨p5, 5, none⟩ = some (.int .i64 c.re) := (hSw.1.cell 5).trans AT.out.2.1
      have y2 : wS.cell? ⟨p5, 6, none⟩ = some (.int .i64 c.de) := (hSw.1.cell 6).trans AT.out.2.2.1
      have y3 : wS.cell? ⟨p5, 7, none⟩ = some (.int .i64 c.wi) := (hSw.1.cell 7).trans AT.out.2.2.2.1
      have y4 : wS.cell? ⟨p5, 8, none⟩ = some (.int .i64 c.mx) := (hSw.1.cell 8).trans AT.out.2.2.2.2.1
      have y5 : wS.cell? ⟨p5, 9, none⟩ = some (.string c.dd) := (hSw.1.cell 9).trans AT.out.2.2.2.2.2.1
      have y6 : wS.cell? ⟨p5, 10, none⟩ = some (.bool c.ff) := (hSw.1.cell 10).trans AT.out.2.2.2.2.2.2
      clear hSw
      go_simp
      try rfl
    try simp only [Act.put]
    refine wpAnyG_one (i := 21) (o := ⟨some 66, _, _, _, _, _⟩) (by kernel_rfl) rfl (fun K hK => ?_)
    rw [if_pos (by kernel_rfl)]
    go_simp
    refine (AttrL_any c w12).mono ?_
    rintro e w13 ⟨rfl, hb⟩
    have HB13 := Lib.hid (HB12.out.trans (hb.mono HB12.out.size))
    have hS1 : Blk w13 p5 37 cs ∧ Blk w13 p7 26 cs2 := ⟨hS0.1.below hb hS0.1.lt, hS0.2.below hb hS0.2.lt⟩
    clear hb hS0
    have hS0 := hS1
    clear hS1
    dsimp only
    refine hK.out _ _ (fun _ => hS0) ?_
    clear hK K
    try simp only [Act.put]
    unfold CM.att
    refine wpAnyG_take (i := 24) (oi := ⟨some 69, _, _, _, _, _⟩) (v := .bool true) rfl (by kernel_rfl) (by kernel_rfl) (by kernel_rfl) (by kernel_rfl) (fun _ _ _ h => h) (Or.inl ⟨by kernel_rfl, ?_⟩) hS0 ?_
    · intro wS hSw
      clear hSw
      go_simp
      try rfl
    try simp only [Act.put]
    refine wpAnyG_take (i := 25) (oi := ⟨some 70, _, _, _, _, _⟩) (v := .bool true) rfl (by kernel_rfl) (by kernel_rfl) (by kernel_rfl) (by kernel_rfl) (fun _ _ _ h => h) (Or.inl ⟨by kernel_rfl, ?_⟩) hS0 ?_
    · intro wS hSw
      clear hSw
      go_simp
      try rfl
    try simp only [Act.put]
    refine wpAnyG_take (i := 26) (oi := ⟨some 71, _, _, _, _, _⟩) (v := .bool true) rfl (by kernel_rfl) (by kernel_rfl) (by kernel_rfl) (by kernel_rfl) (fun _ _ _ h => h) (Or.inl ⟨by kernel_rfl, ?_⟩) hS0 ?_
    · intro wS hSw
      clear hSw
      go_simp
      try rfl
    try simp only [Act.put]
    refine wpAnyG_one (i := 27) (o := ⟨some 72, _, _, _, _, _⟩) (by kernel_rfl) rfl (fun K hK => ?_)
    rw [if_pos (by kernel_rfl)]
    go_simp
    refine (awake_any w13).mono ?_
    rintro e w14 ⟨rfl, hb⟩
    have HB14 := Lib.hid (HB13.out.trans (hb.mono HB13.out.size))
    have hS1 : Blk w14 p5 37 cs ∧ Blk w14 p7 26 cs2 := ⟨hS0.1.below hb hS0.1.lt, hS0.2.below hb hS0.2.lt⟩
    clear hb hS0
    have hS0 := hS1
    clear hS1
    dsimp only
    refine hK.out _ _ (fun _ => hS0) ?_
    clear hK K
    try simp only [Act.put]
    refine wpAnyG_take (i := 28) (oi := ⟨some 73, _, _, _, _, _⟩) (v := .bool true) rfl (by kernel_rfl) (by kernel_rfl) (by kernel_rfl) (by kernel_rfl) (fun _ _ _ h => h) (Or.inl ⟨by kernel_rfl, ?_⟩) hS0 ?_
    · intro wS hSw
      clear hSw
      go_simp
      try rfl
    try simp only [Act.put]
    refine wpAnyG_one (i := 29) (o := ⟨some 2, _, _, _, _, _⟩) (by kernel_rfl) rfl (fun K hK => ?_)
    go_simp
    refine hK.out _ _ (fun h => absurd h (by decide)) ?_
    clear hK K
    try simp only [Act.put]
    refine wpAnyG_done (by kernel_rfl) ?_ _
    go_wp2_with fail
    go_ret
    exact ⟨rfl, HB14.out⟩
end Go.Proofs.YtkdncnhjlgidnaaDoor
