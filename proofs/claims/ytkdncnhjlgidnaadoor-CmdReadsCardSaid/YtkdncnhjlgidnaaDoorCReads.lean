/- What is proved here: 'CmdReads' returns true for any bytes, whatever the memory in which it is called, and nothing that was there has changed. -/
import Derived.Test.YtkdncnhjlgidnaaDoorCNo10
import Derived.Test.YtkdncnhjlgidnaaDoorCWrites
namespace Go.Proofs.YtkdncnhjlgidnaaDoor
open Go Go.RowKit Go.Maps

/-- What both reads answer, side by side. -/
theorem reads_same {R : Raw} {xs : List Int} (hR : raw 11 6 xs = R) (hb : ∀ x ∈ xs, 0 ≤ x ∧ x < 256) {n : Nat} (hn : n = xs.length) {w1 w3 w4 : World} {c1 c2 : CM} {er : Value} {er2 : Nat} (hE : ErrType w4)
    (h1 : ReadPost xs c1 er w1) (h2 : P10 R n c2 er2 w3) (b1 : Below w1.heap.size w1 w4) (b3 : Below w3.heap.size w3 w4) :
    (∀ W, Below w4.heap.size w4 W → Calls Tryd.prog 12 #[er] W fun e w' => e = .returned (.int .i64 (er2 : Nat)) ∧ Below W.heap.size W w') ∧
      (∀ W, Below w4.heap.size w4 W → Calls Tryd.prog 16 #[.agg c1.cells, .agg c2.cells] W fun e w' => e = .returned (.bool true) ∧ Below W.heap.size W w') ∧
      (er2 = 0 → ∃ L, TRd w4 w4.heap.size c2.bA c2.bn c2.bc L ∧ c2.right L = true ∧ c2.bytes L = xs) := by
  unfold ReadPost at h1
  rw [hR] at h1
  subst hn
  obtain ⟨ns, nb⟩ := no_same hR hb
  unfold P10 at h2
  rw [ns] at h2
  rcases h1 with ⟨k1, rfl, k3⟩ | ⟨k1, bA, bc, rfl, rfl, k4⟩
  · rcases h2 with ⟨m1, rfl, rfl⟩ | ⟨m1, _⟩
    · refine ⟨fun W hW => ?_, fun W hW => ?_, fun h => absurd h k1⟩
      · obtain ⟨u, x, rfl⟩ := k3.iface
        exact Code_c _ u x W (hE.below hW) (k3.below (b1.trans (hW.mono b1.size)))
      · exact same_at CM.zero none 0 [] W (TRd.none_ _ _) (TRd.none_ _ _) (by decide)
    · exact absurd m1 k1
  · rcases h2 with ⟨m1, _⟩ | ⟨_, rfl, bA2, bc2, rfl, m4⟩
    · exact absurd k1 m1
    · have hfew : R.bs.length ≤ 10 := by rw [← hR]; exact raw_few 11 6 xs
      refine ⟨fun W hW => Code_nil W, fun W hW => ?_, fun _ => ⟨gotLR R, (m4.below b3).more b3.size, (nb k1).1, (nb k1).2⟩⟩
      have b1' := b1.trans (hW.mono b1.size)
      have b3' := b3.trans (hW.mono b3.size)
      exact same_at (CM.gotR R bA2 bc2) bA bc (gotLR R) W ((k4.below b1').more b1'.size) ((m4.below b3').more b3'.size) (by show R.bs.length ≤ 1000000; omega)

set_option maxHeartbeats 12800000 in
set_option maxRecDepth 100000 in
theorem reads_any (A : Option Addr) (n d : Nat) (xs : List Int) (w : World) (hE : ErrType w) (h : Rd w w.heap.size .u8 A n d xs) (hx : ∀ x ∈ xs, 0 ≤ x ∧ x < 256) :
    Calls Tryd.prog 4 #[.slice A n d] w fun e w' => e = .returned (.bool true) ∧ Below w.heap.size w w' := by
  have hlen := h.len
  by_cases h3 : 3000 < n
  · have h3z : (3000 : Int) < n := by omega
    clear h hx hE
    go_enter Tryd.func4, Tryd.ntmps4
    go_wp2_with (go_at_call 7; refine (awake_any _).mono ?_; rintro e w2 ⟨rfl, hb2⟩; have HB := Lib.hid hb2; clear hb2)
    go_ret
    exact ⟨rfl, HB.out⟩
  · have h3z : ¬ (3000 : Int) < n := by omega
    obtain ⟨R, hR⟩ : ∃ R, raw 11 6 xs = R := ⟨_, rfl⟩
    have HRD := Lib.hid h; have HX := Lib.hid hx; have HE := Lib.hid hE; have HR := Lib.hid hR; have HLEN := Lib.hid hlen
    have HP : Hid (∀ W, Below w.heap.size w W → Calls Tryd.prog 13 #[.slice A n d] W fun e w' => ∃ (c : CM) (er : Value), e = .returned (.tuple #[.agg c.cells, er]) ∧ Below W.heap.size W w' ∧ ReadPost xs c er w') := Lib.hid fun W hW => Read_any A n d xs W ((h.below hW).more hW.size) hx (by omega)
    have HQ : Hid (∀ W, Below w.heap.size w W → Calls Tryd.prog 18 #[.slice A n d] W fun e w' => ∃ (c : CM) (er : Nat), e = .returned (.tuple #[.agg c.cells, .int .i64 er]) ∧ Below W.heap.size W w' ∧ P10 R n c er w') := Lib.hid fun W hW => Read10_any A n d xs W ((h.below hW).more hW.size) hx (by omega) R hR
    clear h hx hE hR hlen
    go_enter Tryd.func4, Tryd.ntmps4
    go_upto_region 4 with (first
      | (go_at_call 13; refine (HP.out _ (Below.refl _ _)).mono ?_; rintro e w1 ⟨c1, er, rfl, hb1, hp1⟩
         have HB1 := Lib.hid hb1; have HP1 := Lib.hid hp1; have I1 := Lib.hid c1.info; have O1 := Lib.hid c1.ones; have S1 := Lib.hid c1.size
         obtain ⟨cs1, hcs1⟩ : ∃ cs1, cs1 = c1.cells := ⟨_, rfl⟩
         rw [← hcs1] at I1 O1 S1
         rw [← hcs1]
         have HC1 := Lib.hid hcs1
         clear hb1 hp1 hcs1)
      | (with_reducible refine at_dst (o := ⟨none, .store 26 (.tmp 3) (.tmp 14), _, _, _, _⟩) none rfl ?_
         refine wpList_store_row rfl 26 (.tmp 3) (.tmp 14) rfl w1.heap.size cs1 rfl rfl 26 CM.zero.cells (heap_alloc_new w1 _) I1.out (by rw [S1.out]; rfl) O1.out ?_))
    change Code.wp _ _ _ _ ((w1.alloc (.cells CM.zero.cells 26)).setRow w1.heap.size cs1)
    obtain ⟨hx1, hx2⟩ := boxed_row w1 cs1
    generalize (w1.alloc (.cells CM.zero.cells 26)).setRow w1.heap.size cs1 = w2 at *
    have HX1 := Lib.hid hx1; have HB12 := Lib.hid hx2; have HB2 := Lib.hid (HB1.out.trans (hx2.mono HB1.out.size))
    clear hx1 hx2
    generalize w1.heap.size = p3 at HX1 ⊢
    go_upto_region 5 with (first
      | (go_at_call 18; refine (HQ.out w2 HB2.out).mono ?_; rintro e w3 ⟨c2, er2, rfl, hb3, hp3⟩
         have HB3 := Lib.hid (HB2.out.trans (hb3.mono HB2.out.size)); have HB13 := Lib.hid (HB12.out.trans (hb3.mono HB12.out.size)); have HP3 := Lib.hid hp3; have HX3 := Lib.hid (HX1.out.below hb3 HX1.out.lt)
         have I2 : Hid ((Tryd.prog.info? 37).map (·.size) = some c2.cells.size) := Lib.hid info_ref
         have O2 := Lib.hid c2.ones; have S2 := Lib.hid c2.size
         obtain ⟨cs2, hcs2⟩ : ∃ cs2, cs2 = c2.cells := ⟨_, rfl⟩
         rw [← hcs2] at I2 O2 S2
         rw [← hcs2]
         have HC2 := Lib.hid hcs2
         clear hb3 hp3 hcs2)
      | (with_reducible refine at_dst (o := ⟨none, .store 37 (.tmp 5) (.tmp 19), _, _, _, _⟩) none rfl ?_
         refine wpList_store_row rfl 37 (.tmp 5) (.tmp 19) rfl w3.heap.size cs2 rfl rfl 37 CM.zero.cells (heap_alloc_new w3 _) I2.out (by rw [S2.out]; rfl) O2.out ?_))
    change Code.wp _ _ _ _ ((w3.alloc (.cells CM.zero.cells 37)).setRow w3.heap.size cs2)
    obtain ⟨hx1, hx2⟩ := boxed_ref w3 cs2
    generalize (w3.alloc (.cells CM.zero.cells 37)).setRow w3.heap.size cs2 = w4 at *
    have HBEL := Lib.hid (HB3.out.trans (hx2.mono HB3.out.size))
    obtain ⟨hc, hs, hw⟩ := reads_same HR.out HX.out HLEN.out.symm (HE.out.below (HBEL.out.mono (Nat.le_refl _))) HP1.out HP3.out (HB13.out.trans (hx2.mono HB13.out.size)) hx2
    have HRC : Hid (∀ W, Calls Tryd.prog 9 #[.agg cs1] W fun e w' => e = .returned (.agg cs1) ∧ Below W.heap.size W w') := Lib.hid (by rw [HC1.out]; exact RefCmd_any c1)
    rw [← HC1.out, ← HC2.out] at hs
    have HCO := Lib.hid hc; have HSA := Lib.hid hs; have HWR := Lib.hid hw
    have hS0 : Blk w4.drew p3 26 cs1 ∧ Blk w4.drew w3.heap.size 37 cs2 := ⟨(HX3.out.below hx2 HX3.out.lt).drew, hx1.drew⟩
    clear hc hs hw hx1 hx2 HP HQ HP1 HP3 HB1 HB12 HB2 HB3 HB13 HX1 HX3
    generalize w3.heap.size = p5 at hS0 ⊢
    have HB4 : Hid (Below w4.heap.size w4 w4.drew) := Lib.hid ((Below.refl _ _).drew)
    refine wp_region_G (fun w' => Blk w' p3 26 cs1 ∧ Blk w' p5 37 cs2) 11 (by kernel_rfl) ?_
    have HBD : Hid (Below w.heap.size w w4.drew) := Lib.hid HBEL.out.drew
    generalize hwd : w4.drew = wd at *
    clear hwd
    refine wpAnyG_take (i := 0) (oi := ⟨some 21, _, _, _, _, _⟩) (v := er) rfl (by kernel_rfl) (by kernel_rfl) (by kernel_rfl) (by kernel_rfl) (fun _ _ _ h => h) (Or.inl ⟨by kernel_rfl, ?_⟩) hS0 ?_
    · intro wS hSw
      clear hSw
      go_simp
      try rfl
    try simp only [Act.put]
    refine wpAnyG_take (i := 2) (oi := ⟨some 23, _, _, _, _, _⟩) (v := .int .i64 (er2 : Nat)) rfl (by kernel_rfl) (by kernel_rfl) (by kernel_rfl) (by kernel_rfl) (fun _ _ _ h => h) (Or.inl ⟨by kernel_rfl, ?_⟩) hS0 ?_
    · intro wS hSw
      clear hSw
      go_simp
      try rfl
    try simp only [Act.put]
    refine wpAnyG_one (i := 1) (o := ⟨some 22, _, _, _, _, _⟩) (by kernel_rfl) rfl (fun K hK => ?_)
    go_simp
    refine (HCO.out wd HB4.out).mono ?_
    rintro e w5 ⟨rfl, hb⟩
    have HB5 := Lib.hid (HB4.out.trans (hb.mono HB4.out.size))
    have hS1 : Blk w5 p3 26 cs1 ∧ Blk w5 p5 37 cs2 := ⟨hS0.1.below hb hS0.1.lt, hS0.2.below hb hS0.2.lt⟩
    clear hb hS0
    have hS0 := hS1
    clear hS1
    dsimp only
    refine hK.out _ _ (fun _ => hS0) ?_
    clear hK K
    try simp only [Act.put]
    refine wpAnyG_take (i := 3) (oi := ⟨some 24, _, _, _, _, _⟩) (v := .bool false) rfl (by kernel_rfl) (by kernel_rfl) (by kernel_rfl) (by kernel_rfl) (fun _ _ _ h => h) (Or.inl ⟨by kernel_rfl, ?_⟩) hS0 ?_
    · intro wS hSw
      clear hSw
      go_simp
      try rfl
    try simp only [Act.put]
    refine wpAnyG_take (i := 4) (oi := ⟨some 25, _, _, _, _, _⟩) (v := .bool false) rfl (by kernel_rfl) (by kernel_rfl) (by kernel_rfl) (by kernel_rfl) (fun _ _ _ h => h) (Or.inl ⟨by kernel_rfl, ?_⟩) hS0 ?_
    · intro wS hSw
      clear hSw
      go_simp
      try rfl
    try simp only [Act.put]
    refine wpAnyG_take (i := 5) (oi := ⟨some 26, _, _, _, _, _⟩) (v := .agg cs1) rfl (by kernel_rfl) (by kernel_rfl) (by kernel_rfl) (by kernel_rfl) (fun _ _ _ h => h) (Or.inl ⟨by kernel_rfl, ?_⟩) hS0 ?_
    · intro wS hSw
      exact yields_row10 26 (.tmp 3) rfl p3 (by kernel_rfl) 26 cs1 (0, 0) _ hSw.1 Tryd.underlying26 rfl I1.out
    try simp only [Act.put]
    refine wpAnyG_take (i := 7) (oi := ⟨some 28, _, _, _, _, _⟩) (v := .agg cs2) rfl (by kernel_rfl) (by kernel_rfl) (by kernel_rfl) (by kernel_rfl) (fun _ _ _ h => h) (Or.inl ⟨by kernel_rfl, ?_⟩) hS0 ?_
    · intro wS hSw
      exact yields_row10 37 (.tmp 5) rfl p5 (by kernel_rfl) 37 cs2 (0, 0) _ hSw.2 Tryd.underlying37 rfl I2.out
    try simp only [Act.put]
    refine wpAnyG_one (i := 6) (o := ⟨some 27, _, _, _, _, _⟩) (by kernel_rfl) rfl (fun K hK => ?_)
    rw [if_pos (by kernel_rfl)]
    go_simp
    refine (HRC.out w5).mono ?_
    rintro e w6 ⟨rfl, hb⟩
    have HB6 := Lib.hid (HB5.out.trans (hb.mono HB5.out.size))
    have hS1 : Blk w6 p3 26 cs1 ∧ Blk w6 p5 37 cs2 := ⟨hS0.1.below hb hS0.1.lt, hS0.2.below hb hS0.2.lt⟩
    clear hb hS0
    have hS0 := hS1
    clear hS1
    dsimp only
    refine hK.out _ _ (fun _ => hS0) ?_
    clear hK K
    try simp only [Act.put]
    refine wpAnyG_one (i := 8) (o := ⟨some 29, _, _, _, _, _⟩) (by kernel_rfl) rfl (fun K hK => ?_)
    rw [if_pos (by kernel_rfl)]
    go_simp
    refine (HSA.out w6 HB6.out).mono ?_
    rintro e w7 ⟨rfl, hb⟩
    have HB7 := Lib.hid (HB6.out.trans (hb.mono HB6.out.size))
    have hS1 : Blk w7 p3 26 cs1 ∧ Blk w7 p5 37 cs2 := ⟨hS0.1.below hb hS0.1.lt, hS0.2.below hb hS0.2.lt⟩
    clear hb hS0
    have hS0 := hS1
    clear hS1
    dsimp only
    refine hK.out _ _ (fun _ => hS0) ?_
    clear hK K
    try simp only [Act.put]
    refine wpAnyG_take (i := 9) (oi := ⟨some 30, _, _, _, _, _⟩) (v := .bool false) rfl (by kernel_rfl) (by kernel_rfl) (by kernel_rfl) (by kernel_rfl) (fun _ _ _ h => h) (Or.inl ⟨by kernel_rfl, ?_⟩) hS0 ?_
    · intro wS hSw
      clear hSw
      go_simp
      try rfl
    try simp only [Act.put]
    refine wpAnyG_take (i := 10) (oi := ⟨some 31, _, _, _, _, _⟩) (v := .bool false) rfl (by kernel_rfl) (by kernel_rfl) (by kernel_rfl) (by kernel_rfl) (fun _ _ _ h => h) (Or.inl ⟨by kernel_rfl, ?_⟩) hS0 ?_
    · intro wS hSw
      clear hSw
      go_simp
      try rfl
    try simp only [Act.put]
    refine wpAnyG_done (by kernel_rfl) ?_ _
    have HB8 := Lib.hid (HBEL.out.trans (HB7.out.mono HBEL.out.size))
    have HX8 := Lib.hid hS0.2
    clear hS0 HCO HSA HRC HB4 HBD HB5 HB6
    by_cases he : er2 = 0
    · subst he
      obtain ⟨L, hL, hr, hbt⟩ := HWR.out rfl
      have hw7 := HB7.out
      have HW10 := Lib.hid (Write10_any c2 L w7 ((hL.below hw7).more hw7.size) hr)
      rw [hbt, ← HC2.out] at HW10
      have HRW := Lib.hid ((HRD.out.below HB8.out).more HB8.out.size)
      clear hL hr hbt hw7 HWR HRD
      go_wp2_with (first
        | (with_reducible refine at_dst (o := ⟨some 35, _, _, _, _, _⟩) (some 35) rfl ?_
           refine load_row_g (by kernel_rfl) 37 (.tmp 5) rfl p5 rfl 37 cs2 (0, 0) _ HX8.out Tryd.underlying37 rfl I2.out ?_)
        | (go_at_call 15; refine HW10.out.mono ?_; rintro e w9 ⟨v9, rfl, hown, hb⟩
           have HB9 := Lib.hid (HB8.out.trans (hb.mono HB8.out.size)); have HRW9 := Lib.hid ((HRW.out.below hb).more hb.size)
           obtain ⟨A9, d9, rfl, hr9⟩ := Rd.of_own hown
           have HR9 := Lib.hid hr9
           clear hown hr9 hb)
        | (go_at_call 14; refine (Equal_any A9 A _ d9 n d _ _ xs xs w9 HR9.out HRW9.out HX.out HX.out).mono ?_; rw [decide_eq_true rfl]; rintro e w10 ⟨rfl, rfl⟩)
        | (go_at_call 7; refine (awake_any _).mono ?_; rintro e w11 ⟨rfl, hb⟩; have HB11 := Lib.hid (HB9.out.trans (hb.mono HB9.out.size)); clear hb))
      go_ret
      exact ⟨rfl, HB11.out⟩
    · have dd : ((er2 : Int) == 0) = false := by simpa using he
      clear HWR HRD
      go_wp2_with (go_at_call 7; refine (awake_any _).mono ?_; rintro e w11 ⟨rfl, hb⟩; have HB11 := Lib.hid (HB8.out.trans (hb.mono HB8.out.size)); clear hb)
      go_ret
      exact ⟨rfl, HB11.out⟩
end Go.Proofs.YtkdncnhjlgidnaaDoor
