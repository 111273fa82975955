/- What is proved here: whether the laws' own SameCmd tells that two commands are the same. -/
import Derived.Test.YtkdncnhjlgidnaaDoorCRefC
namespace Go.Proofs.YtkdncnhjlgidnaaDoor
open Go Go.RowKit Go.Maps

theorem tl_eq (x y : ByteArray) : (x.toList == y.toList) = decide (x = y) := by
  by_cases h : x = y
  · subst h; simp
  · rw [decide_eq_false h, beq_eq_false_iff_ne]
    intro hh
    rw [ByteArray.toList_eq, ByteArray.toList_eq] at hh
    apply h
    cases x; cases y
    simpa using hh
set_option maxHeartbeats 12800000 in
set_option maxRecDepth 100000 in
theorem Same_any (x1 x2 x3 x5 x6 x7 x8 x9 xn xm y1 y2 y3 y5 y6 y7 y8 y9 yn ym : Int) (xq xd xb xg xk xr yq yd yb yg yk yr : ByteArray) (xf yf : Bool) (A B : Option Addr) (n c m d : Nat) (La Lb : List ByteArray) (w : World)
    (hA : TRd w w.heap.size A n c La) (hB : TRd w w.heap.size B m d Lb) (hn : n ≤ 1000000) :
    Calls Tryd.prog 16 #[.agg (CM.mk x1 x2 x3 xq x5 x6 x7 x8 x9 xd xf xb xg xk xr A n c xn xm).cells, .agg (CM.mk y1 y2 y3 yq y5 y6 y7 y8 y9 yd yf yb yg yk yr B m d yn ym).cells] w fun e w' =>
      e = .returned (.bool (decide (La = Lb ∧ x1 = y1 ∧ x2 = y2 ∧ x3 = y3 ∧ xn = yn ∧ xm = ym ∧ (x5 = y5 ∧ x6 = y6 ∧ x7 = y7 ∧ x8 = y8 ∧ x9 = y9 ∧ xd = yd ∧ xf = yf) ∧ xq = yq ∧ xb = yb ∧ xg = yg ∧ xk = yk ∧ xr = yr))) ∧ Below w.heap.size w w' := by
  obtain ⟨q, hq⟩ : ∃ q, q = decide (La = Lb ∧ x1 = y1 ∧ x2 = y2 ∧ x3 = y3 ∧ xn = yn ∧ xm = ym ∧ (x5 = y5 ∧ x6 = y6 ∧ x7 = y7 ∧ x8 = y8 ∧ x9 = y9 ∧ xd = yd ∧ xf = yf) ∧ xq = yq ∧ xb = yb ∧ xg = yg ∧ xk = yk ∧ xr = yr) := ⟨_, rfl⟩
  rw [← hq]
  have HQ := Lib.hid hq
  clear hq
  have HLA := hA.len; have HLB := hB.len
  have HAA := Lib.hid hA; have HBB := Lib.hid hB
  have e0 : n = 0 ∨ ∃ b o, A = some ⟨b, o, none⟩ := by
    rcases Nat.eq_zero_or_pos n with h | h
    · exact .inl h
    · obtain ⟨b, o, e, _⟩ := hA.cell h
      exact .inr ⟨b, o, e⟩
  have e1 : m = 0 ∨ ∃ b o, B = some ⟨b, o, none⟩ := by
    rcases Nat.eq_zero_or_pos m with h | h
    · exact .inl h
    · obtain ⟨b, o, e, _⟩ := hB.cell h
      exact .inr ⟨b, o, e⟩
  have HE0 := Lib.hid e0; have HE1 := Lib.hid e1
  obtain ⟨ca, hca⟩ : ∃ ca, ca = (CM.mk x1 x2 x3 xq x5 x6 x7 x8 x9 xd xf xb xg xk xr A n c xn xm).cells := ⟨_, rfl⟩
  obtain ⟨cb, hcb⟩ : ∃ cb, cb = (CM.mk y1 y2 y3 yq y5 y6 y7 y8 y9 yd yf yb yg yk yr B m d yn ym).cells := ⟨_, rfl⟩
  rw [← hca, ← hcb]
  have HCA := Lib.hid hca; have HCB := Lib.hid hcb
  clear hA hB e0 e1 hca hcb
  go_enter Tryd.func16, Tryd.ntmps16
  go_upto_region 1 with fail
  have b1 : Blk ((w.alloc (.cells ca 37)).alloc (.cells cb 37)) w.heap.size 37 ca := (Blk.fresh w _ ca).alloc _
  have b2 : Blk ((w.alloc (.cells ca 37)).alloc (.cells cb 37)) (w.heap.size + 1) 37 cb := by simpa using Blk.fresh (w.alloc (.cells ca 37)) 37 cb
  have hbel : Below w.heap.size w ((w.alloc (.cells ca 37)).alloc (.cells cb 37)) := ((Below.refl _ _).alloc (Nat.le_refl _) _).alloc (by simp) _
  generalize (w.alloc (.cells ca 37)).alloc (.cells cb 37) = W at *
  rw [HCA.out] at b1
  rw [HCB.out] at b2
  have HAW := Lib.hid ((HAA.out.below hbel).more hbel.size); have HBW := Lib.hid ((HBB.out.below hbel).more hbel.size)
  have HBEL := Lib.hid hbel
  clear hbel HAA HBB
  have p15 : W.cell? ⟨w.heap.size, 15, none⟩ = some (.slice A n c) := b1.cell 15
  have q15 : W.cell? ⟨w.heap.size + 1, 15, none⟩ = some (.slice B m d) := b2.cell 15
  have HB1 := Lib.hid b1; have HB2 := Lib.hid b2
  clear b1 b2
  by_cases hnm : n = m
  · subst hnm
    go_wp2_with fail
    go_loopw [17] (fun v17 wr => ∃ j : Nat, v17 = .int .i64 j ∧ j ≤ n ∧ Hid (∀ i, i < j → La.getD i ⟨#[]⟩ = Lb.getD i ⟨#[]⟩) ∧ Below W.heap.size W wr) (fun i _ => n - (intOf i).toNat)
    case atStart => exact ⟨0, rfl, Nat.zero_le _, Lib.hid fun i hi => absurd hi (Nat.not_lt_zero _), Below.refl _ _⟩
    case round =>
      obtain ⟨j, rfl, hj, hsame, hbw⟩ := hrel
      by_cases hlt : j < n
      · have hjz : (j : Int) < n := by omega
        rcases HE0.out with h0 | ⟨b0, o0, rfl⟩
        · omega
        rcases HE1.out with h0 | ⟨b3, o3, rfl⟩
        · omega
        obtain ⟨b', o', e', hb', c1⟩ := (HAW.out.below hbw).cell hlt
        obtain ⟨rfl, rfl⟩ : b0 = b' ∧ o0 = o' := by simpa using e'
        obtain ⟨b'', o'', e'', hb'', c2⟩ := (HBW.out.below hbw).cell hlt
        obtain ⟨rfl, rfl⟩ : b3 = b'' ∧ o3 = o'' := by simpa using e''
        have p15' := (hbw.cell (p := ⟨w.heap.size, 15, none⟩) HB1.out.lt).trans p15
        have q15' := (hbw.cell (p := ⟨w.heap.size + 1, 15, none⟩) HB2.out.lt).trans q15
        clear e' e'' hb' hb''
        by_cases hs : La.getD j ⟨#[]⟩ = Lb.getD j ⟨#[]⟩
        · have HS : Hid (∀ i, i < j + 1 → La.getD i ⟨#[]⟩ = Lb.getD i ⟨#[]⟩) := Lib.hid fun i hi => by
            by_cases e : i = j
            · rw [e]; exact hs
            · exact hsame.out i (by omega)
          rw [hs] at c1
          clear hs
          generalize Lb.getD j ⟨#[]⟩ = t at *
          go_upto_region 6 with fail
          go_region
          go_wp2_with fail
          go_roundw
          case rel => exact ⟨j + 1, by go_num, by omega, HS, hbw.drew⟩
          case measure => simp [intOf]; omega
        · have HNE : Hid (La ≠ Lb) := Lib.hid fun h => hs (by rw [h])
          have hd := tl_eq (La.getD j ⟨#[]⟩) (Lb.getD j ⟨#[]⟩)
          rw [decide_eq_false hs] at hd
          clear hs
          generalize La.getD j ⟨#[]⟩ = t1 at *
          generalize Lb.getD j ⟨#[]⟩ = t2 at *
          go_upto_region 6 with fail
          go_region
          go_wp2_with fail
          go_ret
          exact ⟨by rw [HQ.out, decide_eq_false (fun h => HNE.out h.1)]; rfl, HBEL.out.trans (hbw.drew.mono HBEL.out.size)⟩
      · obtain rfl : j = n := by omega
        have hd0 : decide ((j : Int) < (j : Int)) = false := decide_eq_false (by omega)
        have HLL : La = Lb := by
          apply List.ext_getElem (by rw [HLA, HLB])
          intro i h1 h2
          have := hsame.out i (by omega)
          rwa [List.getD_eq_getElem?_getD, List.getD_eq_getElem?_getD, List.getElem?_eq_getElem h1, List.getElem?_eq_getElem h2] at this
        have c0 : wr.cell? ⟨w.heap.size, 0, none⟩ = some (.int .i64 x1) := (hbw.cell (p := ⟨w.heap.size, 0, none⟩) HB1.out.lt).trans (HB1.out.cell 0)
        have d0 : wr.cell? ⟨w.heap.size + 1, 0, none⟩ = some (.int .i64 y1) := (hbw.cell (p := ⟨w.heap.size + 1, 0, none⟩) HB2.out.lt).trans (HB2.out.cell 0)
        have c1 : wr.cell? ⟨w.heap.size, 1, none⟩ = some (.int .i64 x2) := (hbw.cell (p := ⟨w.heap.size, 1, none⟩) HB1.out.lt).trans (HB1.out.cell 1)
        have d1 : wr.cell? ⟨w.heap.size + 1, 1, none⟩ = some (.int .i64 y2) := (hbw.cell (p := ⟨w.heap.size + 1, 1, none⟩) HB2.out.lt).trans (HB2.out.cell 1)
        have c2 : wr.cell? ⟨w.heap.size, 2, none⟩ = some (.int .i64 x3) := (hbw.cell (p := ⟨w.heap.size, 2, none⟩) HB1.out.lt).trans (HB1.out.cell 2)
        have d2 : wr.cell? ⟨w.heap.size + 1, 2, none⟩ = some (.int .i64 y3) := (hbw.cell (p := ⟨w.heap.size + 1, 2, none⟩) HB2.out.lt).trans (HB2.out.cell 2)
        have c3 : wr.cell? ⟨w.heap.size, 3, none⟩ = some (.string xq) := (hbw.cell (p := ⟨w.heap.size, 3, none⟩) HB1.out.lt).trans (HB1.out.cell 3)
        have d3 : wr.cell? ⟨w.heap.size + 1, 3, none⟩ = some (.string yq) := (hbw.cell (p := ⟨w.heap.size + 1, 3, none⟩) HB2.out.lt).trans (HB2.out.cell 3)
        have c4 : wr.cell? ⟨w.heap.size, 4, none⟩ = some (.int .i64 x5) := (hbw.cell (p := ⟨w.heap.size, 4, none⟩) HB1.out.lt).trans (HB1.out.cell 4)
        have d4 : wr.cell? ⟨w.heap.size + 1, 4, none⟩ = some (.int .i64 y5) := (hbw.cell (p := ⟨w.heap.size + 1, 4, none⟩) HB2.out.lt).trans (HB2.out.cell 4)
        have c5 : wr.cell? ⟨w.heap.size, 5, none⟩ = some (.int .i64 x6) := (hbw.cell (p := ⟨w.heap.size, 5, none⟩) HB1.out.lt).trans (HB1.out.cell 5)
        have d5 : wr.cell? ⟨w.heap.size + 1, 5, none⟩ = some (.int .i64 y6) := (hbw.cell (p := ⟨w.heap.size + 1, 5, none⟩) HB2.out.lt).trans (HB2.out.cell 5)
        have c6 : wr.cell? ⟨w.heap.size, 6, none⟩ = some (.int .i64 x7) := (hbw.cell (p := ⟨w.heap.size, 6, none⟩) HB1.out.lt).trans (HB1.out.cell 6)
        have d6 : wr.cell? ⟨w.heap.size + 1, 6, none⟩ = some (.int .i64 y7) := (hbw.cell (p := ⟨w.heap.size + 1, 6, none⟩) HB2.out.lt).trans (HB2.out.cell 6)
        have c7 : wr.cell? ⟨w.heap.size, 7, none⟩ = some (.int .i64 x8) := (hbw.cell (p := ⟨w.heap.size, 7, none⟩) HB1.out.lt).trans (HB1.out.cell 7)
        have d7 : wr.cell? ⟨w.heap.size + 1, 7, none⟩ = some (.int .i64 y8) := (hbw.cell (p := ⟨w.heap.size + 1, 7, none⟩) HB2.out.lt).trans (HB2.out.cell 7)
        have c8 : wr.cell? ⟨w.heap.size, 8, none⟩ = some (.int .i64 x9) := (hbw.cell (p := ⟨w.heap.size, 8, none⟩) HB1.out.lt).trans (HB1.out.cell 8)
        have d8 : wr.cell? ⟨w.heap.size + 1, 8, none⟩ = some (.int .i64 y9) := (hbw.cell (p := ⟨w.heap.size + 1, 8, none⟩) HB2.out.lt).trans (HB2.out.cell 8)
        have c9 : wr.cell? ⟨w.heap.size, 9, none⟩ = some (.string xd) := (hbw.cell (p := ⟨w.heap.size, 9, none⟩) HB1.out.lt).trans (HB1.out.cell 9)
        have d9 : wr.cell? ⟨w.heap.size + 1, 9, none⟩ = some (.string yd) := (hbw.cell (p := ⟨w.heap.size + 1, 9, none⟩) HB2.out.lt).trans (HB2.out.cell 9)
        have c10 : wr.cell? ⟨w.heap.size, 10, none⟩ = some (.bool xf) := (hbw.cell (p := ⟨w.heap.size, 10, none⟩) HB1.out.lt).trans (HB1.out.cell 10)
        have d10 : wr.cell? ⟨w.heap.size + 1, 10, none⟩ = some (.bool yf) := (hbw.cell (p := ⟨w.heap.size + 1, 10, none⟩) HB2.out.lt).trans (HB2.out.cell 10)
        have c11 : wr.cell? ⟨w.heap.size, 11, none⟩ = some (.string xb) := (hbw.cell (p := ⟨w.heap.size, 11, none⟩) HB1.out.lt).trans (HB1.out.cell 11)
        have d11 : wr.cell? ⟨w.heap.size + 1, 11, none⟩ = some (.string yb) := (hbw.cell (p := ⟨w.heap.size + 1, 11, none⟩) HB2.out.lt).trans (HB2.out.cell 11)
        have c12 : wr.cell? ⟨w.heap.size, 12, none⟩ = some (.string xg) := (hbw.cell (p := ⟨w.heap.size, 12, none⟩) HB1.out.lt).trans (HB1.out.cell 12)
        have d12 : wr.cell? ⟨w.heap.size + 1, 12, none⟩ = some (.string yg) := (hbw.cell (p := ⟨w.heap.size + 1, 12, none⟩) HB2.out.lt).trans (HB2.out.cell 12)
        have c13 : wr.cell? ⟨w.heap.size, 13, none⟩ = some (.string xk) := (hbw.cell (p := ⟨w.heap.size, 13, none⟩) HB1.out.lt).trans (HB1.out.cell 13)
        have d13 : wr.cell? ⟨w.heap.size + 1, 13, none⟩ = some (.string yk) := (hbw.cell (p := ⟨w.heap.size + 1, 13, none⟩) HB2.out.lt).trans (HB2.out.cell 13)
        have c14 : wr.cell? ⟨w.heap.size, 14, none⟩ = some (.string xr) := (hbw.cell (p := ⟨w.heap.size, 14, none⟩) HB1.out.lt).trans (HB1.out.cell 14)
        have d14 : wr.cell? ⟨w.heap.size + 1, 14, none⟩ = some (.string yr) := (hbw.cell (p := ⟨w.heap.size + 1, 14, none⟩) HB2.out.lt).trans (HB2.out.cell 14)
        have c16 : wr.cell? ⟨w.heap.size, 16, none⟩ = some (.int .i64 xn) := (hbw.cell (p := ⟨w.heap.size, 16, none⟩) HB1.out.lt).trans (HB1.out.cell 16)
        have d16 : wr.cell? ⟨w.heap.size + 1, 16, none⟩ = some (.int .i64 yn) := (hbw.cell (p := ⟨w.heap.size + 1, 16, none⟩) HB2.out.lt).trans (HB2.out.cell 16)
        have c17 : wr.cell? ⟨w.heap.size, 17, none⟩ = some (.int .i64 xm) := (hbw.cell (p := ⟨w.heap.size, 17, none⟩) HB1.out.lt).trans (HB1.out.cell 17)
        have d17 : wr.cell? ⟨w.heap.size + 1, 17, none⟩ = some (.int .i64 ym) := (hbw.cell (p := ⟨w.heap.size + 1, 17, none⟩) HB2.out.lt).trans (HB2.out.cell 17)
        have HBF := Lib.hid (HBEL.out.trans (hbw.mono HBEL.out.size))
        have HQL := Lib.hid HLL
        clear HB1 HB2 HAW HBW HBEL hbw hsame HCA HCB HLL p15 q15 HLA HLB HE0 HE1
        by_cases hne : x1 = y1
        rotate_left
        · have HNE2 : Hid (q = false) := Lib.hid (by rw [HQ.out]; exact decide_eq_false (by rintro ⟨_, qq, _, _, _, _, _, _, _, _, _, _⟩; exact hne qq))
          have hg : (x1 == y1) = false := by simpa using hne
          clear HQ
          go_wp2_with fail
          go_ret
          exact ⟨by rw [HNE2.out]; rfl, HBF.out⟩
        subst hne
        by_cases hne : x2 = y2
        rotate_left
        · have HNE2 : Hid (q = false) := Lib.hid (by rw [HQ.out]; exact decide_eq_false (by rintro ⟨_, _, qq, _, _, _, _, _, _, _, _, _⟩; exact hne qq))
          have hg : (x2 == y2) = false := by simpa using hne
          clear HQ
          go_wp2_with fail
          go_ret
          exact ⟨by rw [HNE2.out]; rfl, HBF.out⟩
        subst hne
        by_cases hne : x3 = y3
        rotate_left
        · have HNE2 : Hid (q = false) := Lib.hid (by rw [HQ.out]; exact decide_eq_false (by rintro ⟨_, _, _, qq, _, _, _, _, _, _, _, _⟩; exact hne qq))
          have hg : (x3 == y3) = false := by simpa using hne
          clear HQ
          go_wp2_with fail
          go_ret
          exact ⟨by rw [HNE2.out]; rfl, HBF.out⟩
        subst hne
        by_cases hne : xn = yn
        rotate_left
        · have HNE2 : Hid (q = false) := Lib.hid (by rw [HQ.out]; exact decide_eq_false (by rintro ⟨_, _, _, _, qq, _, _, _, _, _, _, _⟩; exact hne qq))
          have hg : (xn == yn) = false := by simpa using hne
          clear HQ
          go_wp2_with fail
          go_ret
          exact ⟨by rw [HNE2.out]; rfl, HBF.out⟩
        subst hne
        by_cases hne : xm = ym
        rotate_left
        · have HNE2 : Hid (q = false) := Lib.hid (by rw [HQ.out]; exact decide_eq_false (by rintro ⟨_, _, _, _, _, qq, _, _, _, _, _, _⟩; exact hne qq))
          have hg : (xm == ym) = false := by simpa using hne
          clear HQ
          go_wp2_with fail
          go_ret
          exact ⟨by rw [HNE2.out]; rfl, HBF.out⟩
        subst hne
        by_cases hne : x5 = y5
        rotate_left
        · have HNE2 : Hid (q = false) := Lib.hid (by rw [HQ.out]; exact decide_eq_false (by rintro ⟨_, _, _, _, _, _, ⟨qq, _, _, _, _, _, _⟩, _, _, _, _, _⟩; exact hne qq))
          have hg : (x5 == y5) = false := by simpa using hne
          clear HQ
          go_wp2_with fail
          go_ret
          exact ⟨by rw [HNE2.out]; rfl, HBF.out⟩
        subst hne
        by_cases hne : x6 = y6
        rotate_left
        · have HNE2 : Hid (q = false) := Lib.hid (by rw [HQ.out]; exact decide_eq_false (by rintro ⟨_, _, _, _, _, _, ⟨_, qq, _, _, _, _, _⟩, _, _, _, _, _⟩; exact hne qq))
          have hg : (x6 == y6) = false := by simpa using hne
          clear HQ
          go_wp2_with fail
          go_ret
          exact ⟨by rw [HNE2.out]; rfl, HBF.out⟩
        subst hne
        by_cases hne : x7 = y7
        rotate_left
        · have HNE2 : Hid (q = false) := Lib.hid (by rw [HQ.out]; exact decide_eq_false (by rintro ⟨_, _, _, _, _, _, ⟨_, _, qq, _, _, _, _⟩, _, _, _, _, _⟩; exact hne qq))
          have hg : (x7 == y7) = false := by simpa using hne
          clear HQ
          go_wp2_with fail
          go_ret
          exact ⟨by rw [HNE2.out]; rfl, HBF.out⟩
        subst hne
        by_cases hne : x8 = y8
        rotate_left
        · have HNE2 : Hid (q = false) := Lib.hid (by rw [HQ.out]; exact decide_eq_false (by rintro ⟨_, _, _, _, _, _, ⟨_, _, _, qq, _, _, _⟩, _, _, _, _, _⟩; exact hne qq))
          have hg : (x8 == y8) = false := by simpa using hne
          clear HQ
          go_wp2_with fail
          go_ret
          exact ⟨by rw [HNE2.out]; rfl, HBF.out⟩
        subst hne
        by_cases hne : x9 = y9
        rotate_left
        · have HNE2 : Hid (q = false) := Lib.hid (by rw [HQ.out]; exact decide_eq_false (by rintro ⟨_, _, _, _, _, _, ⟨_, _, _, _, qq, _, _⟩, _, _, _, _, _⟩; exact hne qq))
          have hg : (x9 == y9) = false := by simpa using hne
          clear HQ
          go_wp2_with fail
          go_ret
          exact ⟨by rw [HNE2.out]; rfl, HBF.out⟩
        subst hne
        by_cases hne : xd = yd
        rotate_left
        · have HNE2 : Hid (q = false) := Lib.hid (by rw [HQ.out]; exact decide_eq_false (by rintro ⟨_, _, _, _, _, _, ⟨_, _, _, _, _, qq, _⟩, _, _, _, _, _⟩; exact hne qq))
          have hg : (xd.toList == yd.toList) = false := by rw [tl_eq]; exact decide_eq_false hne
          clear HQ
          go_wp2_with fail
          go_ret
          exact ⟨by rw [HNE2.out]; rfl, HBF.out⟩
        subst hne
        by_cases hne : xf = yf
        rotate_left
        · have HNE2 : Hid (q = false) := Lib.hid (by rw [HQ.out]; exact decide_eq_false (by rintro ⟨_, _, _, _, _, _, ⟨_, _, _, _, _, _, qq⟩, _, _, _, _, _⟩; exact hne qq))
          clear HQ
          go_wp2_with fail
          go_ret
          exact ⟨by rw [HNE2.out]; rfl, HBF.out⟩
        subst hne
        by_cases hne : xq = yq
        rotate_left
        · have HNE2 : Hid (q = false) := Lib.hid (by rw [HQ.out]; exact decide_eq_false (by rintro ⟨_, _, _, _, _, _, _, qq, _, _, _, _⟩; exact hne qq))
          have hg : (xq.toList == yq.toList) = false := by rw [tl_eq]; exact decide_eq_false hne
          clear HQ
          go_wp2_with fail
          go_ret
          exact ⟨by rw [HNE2.out]; rfl, HBF.out⟩
        subst hne
        by_cases hne : xb = yb
        rotate_left
        · have HNE2 : Hid (q = false) := Lib.hid (by rw [HQ.out]; exact decide_eq_false (by rintro ⟨_, _, _, _, _, _, _, _, qq, _, _, _⟩; exact hne qq))
          have hg : (xb.toList == yb.toList) = false := by rw [tl_eq]; exact decide_eq_false hne
          clear HQ
          go_wp2_with fail
          go_ret
          exact ⟨by rw [HNE2.out]; rfl, HBF.out⟩
        subst hne
        by_cases hne : xg = yg
        rotate_left
        · have HNE2 : Hid (q = false) := Lib.hid (by rw [HQ.out]; exact decide_eq_false (by rintro ⟨_, _, _, _, _, _, _, _, _, qq, _, _⟩; exact hne qq))
          have hg : (xg.toList == yg.toList) = false := by rw [tl_eq]; exact decide_eq_false hne
          clear HQ
          go_wp2_with fail
          go_ret
          exact ⟨by rw [HNE2.out]; rfl, HBF.out⟩
        subst hne
        by_cases hne : xk = yk
        rotate_left
        · have HNE2 : Hid (q = false) := Lib.hid (by rw [HQ.out]; exact decide_eq_false (by rintro ⟨_, _, _, _, _, _, _, _, _, _, qq, _⟩; exact hne qq))
          have hg : (xk.toList == yk.toList) = false := by rw [tl_eq]; exact decide_eq_false hne
          clear HQ
          go_wp2_with fail
          go_ret
          exact ⟨by rw [HNE2.out]; rfl, HBF.out⟩
        subst hne
        by_cases hne : xr = yr
        rotate_left
        · have HNE2 : Hid (q = false) := Lib.hid (by rw [HQ.out]; exact decide_eq_false (by rintro ⟨_, _, _, _, _, _, _, _, _, _, _, qq⟩; exact hne qq))
          have hg : (xr.toList == yr.toList) = false := by rw [tl_eq]; exact decide_eq_false hne
          clear HQ
          go_wp2_with fail
          go_ret
          exact ⟨by rw [HNE2.out]; rfl, HBF.out⟩
        subst hne
        have HQT : Hid (q = true) := Lib.hid (by rw [HQ.out]; exact decide_eq_true ⟨HQL.out, rfl, rfl, rfl, rfl, rfl, ⟨rfl, rfl, rfl, rfl, rfl, rfl, rfl⟩, rfl, rfl, rfl, rfl, rfl⟩)
        clear HQ
        go_wp2_with fail
        go_ret
        exact ⟨by rw [HQT.out]; rfl, HBF.out⟩
  · have HNE : Hid (La ≠ Lb) := Lib.hid fun h => hnm (by rw [← HLA, ← HLB, h])
    go_wp2_with fail
    go_ret
    exact ⟨by rw [HQ.out, decide_eq_false (fun h => HNE.out h.1)]; rfl, HBEL.out⟩
end Go.Proofs.YtkdncnhjlgidnaaDoor
