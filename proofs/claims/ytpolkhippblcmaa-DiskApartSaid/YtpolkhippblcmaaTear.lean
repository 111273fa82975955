/- What is proved here: the walk through the document's own 'crash'. -/
import Derived.Test.YtpolkhippblcmaaTorn
import Derived.Test.YtpolkhippblcmaaTwo
import Derived.Test.YtpolkhippblcmaaLast
namespace Go.Proofs.Ytpolkhippblcmaa
open Go Go.RowKit Go.Maps

theorem ones3 (s : ByteArray) (A : Option Addr) (n c : Nat) (z : Int) : ∀ u ∈ [Value.string s, .slice A n c, .int .i64 z], u.oneCell' = true := by
  intro u hu
  simp at hu
  rcases hu with rfl | rfl | rfl <;> rfl
theorem set_far {w64 : World} {z u : Value} {bo fb i k : Nat} (h : bo < fb) (hf : fb < w64.heap.size) (hc : w64.cell? ⟨fb, i, none⟩ = some u) : (w64.setCell ⟨bo, k, none⟩ z).cell? ⟨fb, i, none⟩ = some u := by
  rw [(Chg.set w64 bo k z).cell (p := ⟨fb, i, none⟩) hf (fun e => by have : fb = bo := e; omega)]
  exact hc
theorem far_cell {w60 w64 : World} {o : Obj} {v u : Value} {fb i : Nat} (hg : (w60.alloc o).grownBy w64 v.ownBlock) (hf : fb < w60.heap.size) (hv : v.ownBlock ≠ some fb) (h : w60.cell? ⟨fb, i, none⟩ = some u) : w64.cell? ⟨fb, i, none⟩ = some u := by
  rw [(Chg.of_grown hg).cell (p := ⟨fb, i, none⟩) (by simp; omega) hv, (Chg.alloc (Φ := fun _ => False) w60 o).cell (p := ⟨fb, i, none⟩) hf id]
  exact h
set_option maxHeartbeats 6400000 in
set_option maxRecDepth 100000 in
theorem tear_any {w : World} {Ψ : Nat → Prop} {A : Option Addr} {n c : Nat} {L : List RV} {room : Int} (h : RRd w Ψ A n c L) (hn : n ≤ 1000000) {AK : Option Addr} {nK cK : Nat} {ks : List Int} (hk : Rd w w.heap.size .i64 AK nK cK ks) (hks : ∀ z ∈ ks, -9223372036854775808 ≤ z ∧ z ≤ 9223372036854775807) :
    Calls Try.prog 22 #[.agg #[.int .i64 room, .slice A n c], .slice AK nK cK] w (RefSaid room Ψ w fun L' => L'.map RV.f = crashF ks (L.map RV.f)) := by
  obtain ⟨i0, hi, hz0, hz1, hz2⟩ := info_parts info_file
  obtain ⟨j0, hj, jz0, jz1, jz2⟩ := info_parts info_u8
  obtain ⟨W, hW⟩ : ∃ W, W = (w.alloc (.cells #[.int .i64 room, .slice A n c] 29)).alloc (.cells #[.int .i64 0, .slice none 0 0] 29) := ⟨_, rfl⟩
  have hWs : W.heap.size = w.heap.size + 2 := by rw [hW]; simp
  have hb : Below w.heap.size w W := by rw [hW]; exact ((Below.refl _ _).alloc (Nat.le_refl _) _).alloc (by simp) _
  have hbx : W.heap[w.heap.size]? = some (.cells #[.int .i64 room, .slice A n c] 29 (0, 0)) := by
    rw [hW, Below.heap_alloc _ _ _ (by simp)]
    exact heap_alloc_new w _
  have hrs : W.heap[w.heap.size + 1]? = some (.cells #[.int .i64 0, .slice none 0 0] 29 (0, 0)) := by
    rw [hW]
    have := heap_alloc_new (w.alloc (.cells #[.int .i64 room, .slice A n c] 29)) (.cells #[.int .i64 0, .slice none 0 0] 29)
    simpa using this
  have hO0 := Torn.begin W room ks L
  rw [show W.heap.size = w.heap.size + 1 + 1 from hWs] at hO0
  have HO0 := Lib.hid hO0
  clear hO0
  have hc := h.cap
  have hm := h.max
  unfold maxLen at hm
  have hc2 := hk.cap
  have hm2 := hk.max
  unfold maxLen at hm2
  have HR := Lib.hid h
  have HL := Lib.hid h.len
  have HKN := Lib.hid hk.len
  have HB := Lib.hid hb
  have HBX := Lib.hid hbx
  have HRS := Lib.hid hrs
  have HWS := Lib.hid hWs
  have HKS := Lib.hid hks
  have HKEEP := Lib.hid hk
  have HLIT := Lib.hid (fun (W : World) => World.ownsRow_lit (e := 5) (size := 1) W #[] 0 (Nat.le_refl _) (by decide) rfl)
  -- what stands in every round
  have HF : Hid (∀ k v O w3, Torn W (w.heap.size + 1 + 1) room ks L k v O w3 → k ≤ n → ∃ A3 m3 c3, v = .slice A3 m3 c3 ∧ k = m3 ∧ m3 ≤ c3 ∧ c3 ≤ 9223372036854775807 ∧ Hid (O.length = m3) ∧ Hid (w3.ownsRow (w.heap.size + 1 + 1 + 1) 48 3 (.slice A3 m3 c3) m3 (flat O)) ∧ w.heap.size + 1 + 1 < w3.heap.size ∧
      w3.cell? ⟨w.heap.size + 1 + 1, 0, none⟩ = some (.int .i64 room) ∧ w3.cell? ⟨w.heap.size + 1 + 1, 1, none⟩ = some (.slice A3 m3 c3) ∧ w3.frozen? ⟨w.heap.size + 1 + 1, 1, none⟩ = false ∧
      w3.cell? ⟨w.heap.size, 0, none⟩ = some (.int .i64 room) ∧ w3.cell? ⟨w.heap.size, 1, none⟩ = some (.slice A n c) ∧ Hid (Below w.heap.size w w3) ∧ Hid (RRd w3 Ψ A n c L)) := Lib.hid (by
    intro k v O w3 hT hk
    obtain ⟨Av, cv, rfl, hcv, hmv⟩ := shape3 hT.out.own
    have hl := hT.len (by rw [HL.out]; exact hk)
    obtain ⟨o0, o1, _, g1⟩ := two_cells hT.out.out
    have hb0 : w3.heap[w.heap.size]? = _ := (hT.out.below.block w.heap.size (by omega)).trans HBX.out
    obtain ⟨p0, p1, _⟩ := two_cells hb0
    have hbw : Below w.heap.size w w3 := HB.out.trans (hT.out.below.mono (by omega))
    exact ⟨Av, _, cv, rfl, hl.symm, hcv, hmv, Lib.hid rfl, Lib.hid hT.out.own, lt_of_block hT.out.out, o0, o1, g1, p0, p1, Lib.hid hbw, Lib.hid (HR.out.later hbw)⟩)
  have HW := Lib.hid hW
  clear h hb hbx hrs hWs hW hk hks
  go_enter Try.func22, Try.ntmps22
  go_wp2_with fail
  rw [← HW.out]
  go_loopw [6, 7, 8] (fun i _ _ wr => ∃ (k : Nat) (v : Value) (O : List RV), i = .int .i64 k ∧ k ≤ n ∧ Hid (Torn W (w.heap.size + 1 + 1) room ks L k v O wr)) (fun i _ _ _ => n - (intOf i).toNat)
  case atStart => exact ⟨0, _, [], rfl, Nat.zero_le _, HO0⟩
  case round =>
    obtain ⟨k, v, O, rfl, hk, HO⟩ := hrel
    obtain ⟨Av, m, cv, rfl, hmk, hcv, hmv, HM, HOWN, hbB, o0, o1, g1, p0, p1, HBW, HR3⟩ := HF.out _ _ _ _ HO.out hk
    subst hmk
    by_cases hkn : k < n
    · obtain ⟨⟨ysv, yb, ys, yA, yc⟩, b, o, hy, hym, rfl, hbY, hcell, hok⟩ := HR3.out.at hkn
      have e0 : wr.cell? ⟨b, o + k * 3, none⟩ = some (.string ysv) := hcell 0 _ rfl
      have e1 : wr.cell? ⟨b, o + k * 3 + 1, none⟩ = some (.slice yA yb.length yc) := hcell 1 _ rfl
      have e2 : wr.cell? ⟨b, o + k * 3 + 2, none⟩ = some (.int .i64 ys) := hcell 2 _ rfl
      have hkn' : (k : Int) < n := by omega
      have HY := Lib.hid hy
      have HOK := Lib.hid hok
      have hsy : ys ≤ yb.length := hok.syn
      have hly : yb.length ≤ 1048576 := hok.len
      have hyc : yb.length ≤ yc := hok.rd.cap
      have hym2 : yc ≤ 9223372036854775807 := hok.rd.max
      have HRD : Hid (Rd wr wr.heap.size .u8 yA yb.length yc yb) := Lib.hid hok.rd
      clear hcell hok hy hym
      generalize hbl : yb.length = bl at e1 hsy hly hyc HRD
      have HBL := Lib.hid hbl
      by_cases hkk : k < nK
      · obtain ⟨bk, ok, rfl, hbk, ck⟩ := (HKEEP.out.below HBW.out).cell hkk
        have hkk' : (k : Int) < nK := by omega
        have hbk2 : bk < wr.heap.size := by have := HBW.out.size; omega
        have hzr := HKS.out (ks.getD k 0) (by rw [List.getD_eq_getElem?_getD, List.getElem?_eq_getElem (by rw [HKN.out]; exact hkk)]; exact List.getElem_mem _)
        by_cases hpos : 0 < ks.getD k 0
        · have hsv : survN ks k (RV.f ⟨ysv, yb, ys, yA, yc⟩) = (ks.getD k 0 % (((bl - ys : Nat) : Int) + 1)).toNat := by
            unfold survN; rw [if_pos ⟨by rw [HKN.out]; exact hkk, hpos⟩, ← hbl]; rfl
          have hsl := survN_le ks k (RV.f ⟨ysv, yb, ys, yA, yc⟩)
          have hsl2 : survN ks k (RV.f ⟨ysv, yb, ys, yA, yc⟩) ≤ bl - ys := by rw [← hbl]; exact hsl
          clear hsl hbl
          generalize ks.getD k 0 = z at *
          generalize hq : survN ks k (RV.f ⟨ysv, yb, ys, yA, yc⟩) = q at *
          obtain ⟨N, hNs⟩ : ∃ N, N = ys + survN ks k (RV.f ⟨ysv, yb, ys, yA, yc⟩) := ⟨_, rfl⟩
          have hNq : N = ys + q := by rw [hNs, hq]
          have hNl : N ≤ bl := by omega
          have hz2 := Int.emod_nonneg z (show (((bl - ys : Nat) : Int) + 1) ≠ 0 by omega)
          have hz1 : z % (((bl - ys : Nat) : Int) + 1) = (q : Int) := by omega
          clear hsv hz2 hq
          go_upto_region 8 with fail
          obtain ⟨l, hl⟩ : ∃ l, l = bl - ys := ⟨_, rfl⟩
          rw [← hl] at hz1
          obtain ⟨hw1, hw2, htm, hw3⟩ : IntKind.i64.wrap ((bl : Int) - ys) = (l : Int) ∧ IntKind.i64.wrap ((l : Int) + 1) = (l : Int) + 1 ∧ z.tmod ((l : Int) + 1) = (q : Int) ∧ IntKind.i64.wrap ((ys : Int) + q) = (N : Int) := ⟨by rw [IntWalk.i64_in _ (by omega)]; omega, IntWalk.i64_in _ (by omega), by rw [Int.tmod_eq_emod_of_nonneg (by omega), hz1], by rw [IntWalk.i64_in _ (by omega)]; omega⟩
          have HNS := Lib.hid hNs
          clear hl hNq hNs
          go_quiet (fail)
          clear hw1 hw2 htm hw3 hz1
          have hNs := HNS.out
          go_upto_region 9 with fail
          have HNE : Hid (N = ys + survN ks k (RV.f ⟨ysv, yb, ys, yA, yc⟩)) := Lib.hid hNs
          have HNL : Hid (N ≤ yb.length) := Lib.hid (by rw [HBL.out]; exact hNl)
          have HBB : Hid (w.heap.size + 1 + 1 < wr.heap.size) := Lib.hid hbB
          have HFB : Hid ((Value.slice Av k cv).ownBlock ≠ some wr.heap.size) := Lib.hid fun e => by have := (HOWN.out.lt _ e).2; omega
          have HT3 : Hid (Torn W (w.heap.size + 1 + 1) room ks L k (.slice Av k cv) O ((wr.alloc (.cells #[.string ysv, .slice yA bl yc, .int .i64 ys] 48)).drewN nq)) := Lib.hid (HO.out.later (below_draws ((Below.refl _ wr).alloc (Nat.le_refl _) _) nq))
          have HRT : Hid (Rd ((wr.alloc (.cells #[.string ysv, .slice yA bl yc, .int .i64 ys] 48)).drewN nq) wr.heap.size .u8 yA N yc (yb.take N)) := Lib.hid ((HRD.out.take hNl).below (below_draws ((Below.refl _ wr).alloc (Nat.le_refl _) _) nq))
          obtain ⟨d0, d1, d2, _⟩ := three_cells (show ((wr.alloc (.cells #[.string ysv, .slice yA bl yc, .int .i64 ys] 48)).drewN nq).heap[wr.heap.size]? = some (.cells #[.string ysv, .slice yA bl yc, .int .i64 ys] 48 (0, 0)) from heap_alloc_new wr _)
          have hws : wr.heap.size < ((wr.alloc (.cells #[.string ysv, .slice yA bl yc, .int .i64 ys] 48)).drewN nq).heap.size := by simp
          obtain ⟨A3, m3, c3, e3, hm3, _, _, _, _, _, s0, s1, sg, t0, t1, _, _⟩ := HF.out _ _ _ _ HT3.out hk
          cases e3
          clear hNs e0 e1 e2 o0 o1 g1 p0 p1 HOWN hbB HR3 hbY hm3
          generalize (wr.alloc (.cells #[.string ysv, .slice yA bl yc, .int .i64 ys] 48)).drewN nq = w3 at *
          generalize wr.heap.size = fb at *
          have HRT2 : Hid (Rd w3 w3.heap.size .u8 yA N yc (yb.take N)) := Lib.hid (HRT.out.more (by omega))
          have HLN : Hid (((yb.take N).map (Value.int .u8)).length = N * 1) := Lib.hid (by rw [List.length_map, List.length_take]; have := HNL.out; omega)
          have hNy : (N : Int) ≤ yc := by omega
          clear HRT
          rcases yA with _ | ad
          · refine wp_region_G (fun w' => w'.cell? ⟨w.heap.size + 1 + 1, 1, none⟩ = some (.slice Av k cv) ∧ w'.cell? ⟨fb, 0, none⟩ = some (.string ysv) ∧ w'.cell? ⟨fb, 1, none⟩ = some (.slice none bl yc)) 15 (by kernel_rfl) ?_
            have hS0 : w3.drew.cell? ⟨w.heap.size + 1 + 1, 1, none⟩ = some (.slice Av k cv) ∧ w3.drew.cell? ⟨fb, 0, none⟩ = some (.string ysv) ∧ w3.drew.cell? ⟨fb, 1, none⟩ = some (.slice none bl yc) := ⟨s1, d0, d1⟩
            refine wpAnyG_take (i := 0) (oi := _) (v := ?_) rfl (by kernel_rfl) (by kernel_rfl) (by kernel_rfl) (by kernel_rfl) (fun _ _ _ h => h) (Or.inl ⟨by rfl, ?_⟩) hS0 ?_
            rotate_left
            · (intro wS hSw; obtain ⟨y1, y2, y3⟩ := hSw; go_simp; try with_reducible rfl)
            try simp only [Act.put]
            refine wpAnyG_take (i := 1) (oi := _) (v := ?_) rfl (by kernel_rfl) (by kernel_rfl) (by kernel_rfl) (by kernel_rfl) (fun _ _ _ h => h) (Or.inl ⟨by rfl, ?_⟩) hS0 ?_
            rotate_left
            · (intro wS hSw; obtain ⟨y1, y2, y3⟩ := hSw; go_simp; try with_reducible rfl)
            try simp only [Act.put]
            refine wpAnyG_take (i := 2) (oi := _) (v := ?_) rfl (by kernel_rfl) (by kernel_rfl) (by kernel_rfl) (by kernel_rfl) (fun _ _ _ h => h) (Or.inl ⟨by rfl, ?_⟩) hS0 ?_
            rotate_left
            · (intro wS hSw; obtain ⟨y1, y2, y3⟩ := hSw; go_simp; try with_reducible rfl)
            try simp only [Act.put]
            refine wpAnyG_take (i := 3) (oi := _) (v := ?_) rfl (by kernel_rfl) (by kernel_rfl) (by kernel_rfl) (by kernel_rfl) (fun _ _ _ h => h) (Or.inl ⟨by rfl, ?_⟩) hS0 ?_
            rotate_left
            · (intro wS hSw; obtain ⟨y1, y2, y3⟩ := hSw; go_simp; try with_reducible rfl)
            try simp only [Act.put]
            refine wpAnyG_take (i := 5) (oi := _) (v := ?_) rfl (by kernel_rfl) (by kernel_rfl) (by kernel_rfl) (by kernel_rfl) (fun _ _ _ h => h) (Or.inl ⟨by rfl, ?_⟩) hS0 ?_
            rotate_left
            · (intro wS hSw; obtain ⟨y1, y2, y3⟩ := hSw; go_simp; try with_reducible rfl)
            try simp only [Act.put]
            refine wpAnyG_take (i := 6) (oi := _) (v := ?_) rfl (by kernel_rfl) (by kernel_rfl) (by kernel_rfl) (by kernel_rfl) (fun _ _ _ h => h) (Or.inl ⟨by rfl, ?_⟩) hS0 ?_
            rotate_left
            · (intro wS hSw; obtain ⟨y1, y2, y3⟩ := hSw; go_simp; try with_reducible rfl)
            try simp only [Act.put]
            refine wpAnyG_take (i := 7) (oi := _) (v := ?_) rfl (by kernel_rfl) (by kernel_rfl) (by kernel_rfl) (by kernel_rfl) (fun _ _ _ h => h) (Or.inl ⟨by rfl, ?_⟩) hS0 ?_
            rotate_left
            · (intro wS hSw; obtain ⟨y1, y2, y3⟩ := hSw; go_simp; try with_reducible rfl)
            try simp only [Act.put]
            refine wpAnyG_take (i := 8) (oi := _) (v := ?_) rfl (by kernel_rfl) (by kernel_rfl) (by kernel_rfl) (by kernel_rfl) (fun _ _ _ h => h) (Or.inl ⟨by rfl, ?_⟩) hS0 ?_
            rotate_left
            · (intro wS hSw; obtain ⟨y1, y2, y3⟩ := hSw; go_simp; try with_reducible rfl)
            try simp only [Act.put]
            refine wpAnyG_take (i := 10) (oi := _) (v := ?_) rfl (by kernel_rfl) (by kernel_rfl) (by kernel_rfl) (by kernel_rfl) (fun _ _ _ h => h) (Or.inl ⟨by rfl, ?_⟩) hS0 ?_
            rotate_left
            · (intro wS hSw; obtain ⟨y1, y2, y3⟩ := hSw; go_simp; try with_reducible rfl)
            try simp only [Act.put]
            refine wpAnyG_one (i := 4) (o := ⟨some 55, _, _, _, _, _⟩) (by kernel_rfl) rfl (fun K hK => ?_)
            go_simp
            refine hK.out _ _ (fun _ => by (refine ⟨?_, ?_, ?_⟩ <;> go_keep)) ?_
            clear hK K
            try simp only [Act.put]
            refine wpAnyG_one (i := 9) (o := ⟨some 60, _, _, _, _, _⟩) (by kernel_rfl) rfl (fun K hK => ?_)
            refine step_append_where (o := ⟨some 60, _, _, _, _, _⟩) rfl (.tmp 55) (.tmp 59) 31 rfl w3.heap.size 5 j0 _ 1 1 Try.underlying31 hj jz0 jz1 jz2 rfl (by omega) _ 0 [] rfl (HLIT.out w3.drew) _ N yc ((yb.take N).map (Value.int .u8)) rfl HLN.out HRT2.out.nil ((HRT2.out.below (((Below.refl _ w3).drew).alloc (Nat.le_refl _) _)).news) (ints_oneCell _ _) (by unfold maxLen; omega) (by omega) (by simp) ?_
            intro v60 w60 ho60 hg60 _
            obtain ⟨hT60, hb60, A60, c60, rfl, hr60, hA60⟩ := HT3.out.mid (N := N) (ys := yb.take N) (by simpa using ho60) hg60
            obtain ⟨A5, m5, c5, e5, _, _, _, _, HOWN60, hbB60, q0, q1, qg, _, _, _, _⟩ := HF.out _ _ _ _ hT60 hk
            cases e5
            have r0 := (hb60.cell (p := ⟨fb, 0, none⟩) hws).trans d0; have r1 := (hb60.cell (p := ⟨fb, 1, none⟩) hws).trans d1
            have HT60 := Lib.hid hT60
            have HR60 := Lib.hid hr60
            have HA60 := Lib.hid hA60
            have hcap60 := hr60.cap
            have hf60 : fb < w60.heap.size := Nat.lt_of_lt_of_le hws hb60.size
            clear ho60 hg60 hT60 hb60 hr60 hA60
            refine hK.out _ _ (fun _ => ⟨q1, r0, r1⟩) ?_
            clear hK K
            try simp only [Act.put]
            refine wpAnyG_one (i := 11) (o := ⟨some 62, _, _, _, _, _⟩) (by kernel_rfl) rfl (fun K hK => ?_)
            go_simp
            refine hK.out _ _ (fun _ => ⟨q1, r0, r1⟩) ?_
            clear hK K
            try simp only [Act.put]
            refine wpAnyG_one (i := 12) (o := ⟨some 63, _, _, _, _, _⟩) (by kernel_rfl) rfl (fun K hK => ?_)
            go_simp
            refine hK.out _ _ (fun _ => by (refine ⟨?_, ?_, ?_⟩ <;> go_keep)) ?_
            clear hK K
            try simp only [Act.put]
            refine wpAnyG_one (i := 13) (o := ⟨some 64, _, _, _, _, _⟩) (by kernel_rfl) rfl (fun K hK => ?_)
            refine step_append_where (o := ⟨some 64, _, _, _, _, _⟩) rfl (.tmp 52) (.tmp 63) 27 rfl (w.heap.size + 1 + 1 + 1) 48 i0 _ 3 48 Try.underlying27 hi hz0 hz1 hz2 rfl (by omega) _ k _ rfl (HOWN60.out.alloc _) (some ⟨w60.heap.size, 0, none⟩) 1 1 [.string ysv, .slice A60 N c60, .int .i64 N] rfl rfl (fun e => by cases e) (news3 w60 _ _ _ _) (ones3 _ _ _ _ _) (by unfold maxLen; omega) (by omega) (by simp; omega) ?_
            intro v64 w64 ho64 hg64 hw64
            have x0 := far_cell hg64 hf60 HFB.out r0
            have x1 := far_cell hg64 hf60 HFB.out r1
            obtain ⟨A64, c64, O2, rfl, u1, ug, hT64⟩ := HT60.out.step (by rw [HM.out]) HY.out HOK.out HNE.out HNL.out HR60.out HA60.out ho64 hg64 hw64
            have HT64 := Lib.hid hT64
            clear ho64 hg64 hw64 hT64
            refine hK.out _ _ (fun _ => ⟨u1, x0, x1⟩) ?_
            clear hK K
            try simp only [Act.put]
            refine wpAnyG_one (i := 14) (o := ⟨some 65, _, _, _, _, _⟩) (by kernel_rfl) rfl (fun K hK => ?_)
            go_simp
            refine hK.out _ _ (fun _ => ⟨u1, x0, x1⟩) ?_
            clear hK K
            try simp only [Act.put]
            refine wpAnyG_one (i := 15) (o := ⟨none, _, _, _, _, _⟩) (by kernel_rfl) rfl (fun K hK => ?_)
            go_simp
            refine hK.out _ _ (fun h => absurd h (by decide)) ?_
            clear hK K
            try simp only [Act.put]
            refine wpAnyG_done (by kernel_rfl) ?_ _
            all_goals
              go_wp2_with fail
              go_roundw
              case rel => exact ⟨k + 1, _, O2, by go_num, by omega, HT64⟩
              case measure => simp [intOf]; omega
          · refine wp_region_G (fun w' => w'.cell? ⟨w.heap.size + 1 + 1, 1, none⟩ = some (.slice Av k cv) ∧ w'.cell? ⟨fb, 0, none⟩ = some (.string ysv) ∧ w'.cell? ⟨fb, 1, none⟩ = some (.slice (some ad) bl yc)) 15 (by kernel_rfl) ?_
            have hS0 : w3.drew.cell? ⟨w.heap.size + 1 + 1, 1, none⟩ = some (.slice Av k cv) ∧ w3.drew.cell? ⟨fb, 0, none⟩ = some (.string ysv) ∧ w3.drew.cell? ⟨fb, 1, none⟩ = some (.slice (some ad) bl yc) := ⟨s1, d0, d1⟩
            refine wpAnyG_take (i := 0) (oi := _) (v := ?_) rfl (by kernel_rfl) (by kernel_rfl) (by kernel_rfl) (by kernel_rfl) (fun _ _ _ h => h) (Or.inl ⟨by rfl, ?_⟩) hS0 ?_
            rotate_left
            · (intro wS hSw; obtain ⟨y1, y2, y3⟩ := hSw; go_simp; try with_reducible rfl)
            try simp only [Act.put]
            refine wpAnyG_take (i := 1) (oi := _) (v := ?_) rfl (by kernel_rfl) (by kernel_rfl) (by kernel_rfl) (by kernel_rfl) (fun _ _ _ h => h) (Or.inl ⟨by rfl, ?_⟩) hS0 ?_
            rotate_left
            · (intro wS hSw; obtain ⟨y1, y2, y3⟩ := hSw; go_simp; try with_reducible rfl)
            try simp only [Act.put]
            refine wpAnyG_take (i := 2) (oi := _) (v := ?_) rfl (by kernel_rfl) (by kernel_rfl) (by kernel_rfl) (by kernel_rfl) (fun _ _ _ h => h) (Or.inl ⟨by rfl, ?_⟩) hS0 ?_
            rotate_left
            · (intro wS hSw; obtain ⟨y1, y2, y3⟩ := hSw; go_simp; try with_reducible rfl)
            try simp only [Act.put]
            refine wpAnyG_take (i := 3) (oi := _) (v := ?_) rfl (by kernel_rfl) (by kernel_rfl) (by kernel_rfl) (by kernel_rfl) (fun _ _ _ h => h) (Or.inl ⟨by rfl, ?_⟩) hS0 ?_
            rotate_left
            · (intro wS hSw; obtain ⟨y1, y2, y3⟩ := hSw; go_simp; try with_reducible rfl)
            try simp only [Act.put]
            refine wpAnyG_take (i := 5) (oi := _) (v := ?_) rfl (by kernel_rfl) (by kernel_rfl) (by kernel_rfl) (by kernel_rfl) (fun _ _ _ h => h) (Or.inl ⟨by rfl, ?_⟩) hS0 ?_
            rotate_left
            · (intro wS hSw; obtain ⟨y1, y2, y3⟩ := hSw; go_simp; try with_reducible rfl)
            try simp only [Act.put]
            refine wpAnyG_take (i := 6) (oi := _) (v := ?_) rfl (by kernel_rfl) (by kernel_rfl) (by kernel_rfl) (by kernel_rfl) (fun _ _ _ h => h) (Or.inl ⟨by rfl, ?_⟩) hS0 ?_
            rotate_left
            · (intro wS hSw; obtain ⟨y1, y2, y3⟩ := hSw; go_simp; try with_reducible rfl)
            try simp only [Act.put]
            refine wpAnyG_take (i := 7) (oi := _) (v := ?_) rfl (by kernel_rfl) (by kernel_rfl) (by kernel_rfl) (by kernel_rfl) (fun _ _ _ h => h) (Or.inl ⟨by rfl, ?_⟩) hS0 ?_
            rotate_left
            · (intro wS hSw; obtain ⟨y1, y2, y3⟩ := hSw; go_simp; try with_reducible rfl)
            try simp only [Act.put]
            refine wpAnyG_take (i := 8) (oi := _) (v := ?_) rfl (by kernel_rfl) (by kernel_rfl) (by kernel_rfl) (by kernel_rfl) (fun _ _ _ h => h) (Or.inl ⟨by rfl, ?_⟩) hS0 ?_
            rotate_left
            · (intro wS hSw; obtain ⟨y1, y2, y3⟩ := hSw; go_simp; try with_reducible rfl)
            try simp only [Act.put]
            refine wpAnyG_take (i := 10) (oi := _) (v := ?_) rfl (by kernel_rfl) (by kernel_rfl) (by kernel_rfl) (by kernel_rfl) (fun _ _ _ h => h) (Or.inl ⟨by rfl, ?_⟩) hS0 ?_
            rotate_left
            · (intro wS hSw; obtain ⟨y1, y2, y3⟩ := hSw; go_simp; try with_reducible rfl)
            try simp only [Act.put]
            refine wpAnyG_one (i := 4) (o := ⟨some 55, _, _, _, _, _⟩) (by kernel_rfl) rfl (fun K hK => ?_)
            go_simp
            refine hK.out _ _ (fun _ => by (refine ⟨?_, ?_, ?_⟩ <;> go_keep)) ?_
            clear hK K
            try simp only [Act.put]
            refine wpAnyG_one (i := 9) (o := ⟨some 60, _, _, _, _, _⟩) (by kernel_rfl) rfl (fun K hK => ?_)
            refine step_append_where (o := ⟨some 60, _, _, _, _, _⟩) rfl (.tmp 55) (.tmp 59) 31 rfl w3.heap.size 5 j0 _ 1 1 Try.underlying31 hj jz0 jz1 jz2 rfl (by omega) _ 0 [] rfl (HLIT.out w3.drew) _ N yc ((yb.take N).map (Value.int .u8)) rfl HLN.out HRT2.out.nil ((HRT2.out.below (((Below.refl _ w3).drew).alloc (Nat.le_refl _) _)).news) (ints_oneCell _ _) (by unfold maxLen; omega) (by omega) (by simp) ?_
            intro v60 w60 ho60 hg60 _
            obtain ⟨hT60, hb60, A60, c60, rfl, hr60, hA60⟩ := HT3.out.mid (N := N) (ys := yb.take N) (by simpa using ho60) hg60
            obtain ⟨A5, m5, c5, e5, _, _, _, _, HOWN60, hbB60, q0, q1, qg, _, _, _, _⟩ := HF.out _ _ _ _ hT60 hk
            cases e5
            have r0 := (hb60.cell (p := ⟨fb, 0, none⟩) hws).trans d0; have r1 := (hb60.cell (p := ⟨fb, 1, none⟩) hws).trans d1
            have HT60 := Lib.hid hT60
            have HR60 := Lib.hid hr60
            have HA60 := Lib.hid hA60
            have hcap60 := hr60.cap
            have hf60 : fb < w60.heap.size := Nat.lt_of_lt_of_le hws hb60.size
            clear ho60 hg60 hT60 hb60 hr60 hA60
            refine hK.out _ _ (fun _ => ⟨q1, r0, r1⟩) ?_
            clear hK K
            try simp only [Act.put]
            refine wpAnyG_one (i := 11) (o := ⟨some 62, _, _, _, _, _⟩) (by kernel_rfl) rfl (fun K hK => ?_)
            go_simp
            refine hK.out _ _ (fun _ => ⟨q1, r0, r1⟩) ?_
            clear hK K
            try simp only [Act.put]
            refine wpAnyG_one (i := 12) (o := ⟨some 63, _, _, _, _, _⟩) (by kernel_rfl) rfl (fun K hK => ?_)
            go_simp
            refine hK.out _ _ (fun _ => by (refine ⟨?_, ?_, ?_⟩ <;> go_keep)) ?_
            clear hK K
            try simp only [Act.put]
            refine wpAnyG_one (i := 13) (o := ⟨some 64, _, _, _, _, _⟩) (by kernel_rfl) rfl (fun K hK => ?_)
            refine step_append_where (o := ⟨some 64, _, _, _, _, _⟩) rfl (.tmp 52) (.tmp 63) 27 rfl (w.heap.size + 1 + 1 + 1) 48 i0 _ 3 48 Try.underlying27 hi hz0 hz1 hz2 rfl (by omega) _ k _ rfl (HOWN60.out.alloc _) (some ⟨w60.heap.size, 0, none⟩) 1 1 [.string ysv, .slice A60 N c60, .int .i64 N] rfl rfl (fun e => by cases e) (news3 w60 _ _ _ _) (ones3 _ _ _ _ _) (by unfold maxLen; omega) (by omega) (by simp; omega) ?_
            intro v64 w64 ho64 hg64 hw64
            have x0 := far_cell hg64 hf60 HFB.out r0
            have x1 := far_cell hg64 hf60 HFB.out r1
            obtain ⟨A64, c64, O2, rfl, u1, ug, hT64⟩ := HT60.out.step (by rw [HM.out]) HY.out HOK.out HNE.out HNL.out HR60.out HA60.out ho64 hg64 hw64
            have HT64 := Lib.hid hT64
            clear ho64 hg64 hw64 hT64
            refine hK.out _ _ (fun _ => ⟨u1, x0, x1⟩) ?_
            clear hK K
            try simp only [Act.put]
            refine wpAnyG_one (i := 14) (o := ⟨some 65, _, _, _, _, _⟩) (by kernel_rfl) rfl (fun K hK => ?_)
            go_simp
            refine hK.out _ _ (fun _ => ⟨u1, x0, x1⟩) ?_
            clear hK K
            try simp only [Act.put]
            refine wpAnyG_one (i := 15) (o := ⟨none, _, _, _, _, _⟩) (by kernel_rfl) rfl (fun K hK => ?_)
            go_simp
            refine hK.out _ _ (fun h => absurd h (by decide)) ?_
            clear hK K
            try simp only [Act.put]
            refine wpAnyG_done (by kernel_rfl) ?_ _
            all_goals
              go_wp2_with fail
              go_roundw
              case rel => exact ⟨k + 1, _, O2, by go_num, by omega, HT64⟩
              case measure => simp [intOf]; omega
        · have hsv : survN ks k (RV.f ⟨ysv, yb, ys, yA, yc⟩) = 0 := by unfold survN; rw [if_neg fun e => hpos e.2]
          have HSV := Lib.hid hsv
          clear hsv hbl
          generalize ks.getD k 0 = z at *
          go_upto_region 9 with fail
          have HNE : Hid (ys = ys + survN ks k (RV.f ⟨ysv, yb, ys, yA, yc⟩)) := Lib.hid (by rw [HSV.out]; rfl)
          have HNL : Hid (ys ≤ yb.length) := Lib.hid (by rw [HBL.out]; exact hsy)
          have HBB : Hid (w.heap.size + 1 + 1 < wr.heap.size) := Lib.hid hbB
          have HFB : Hid ((Value.slice Av k cv).ownBlock ≠ some wr.heap.size) := Lib.hid fun e => by have := (HOWN.out.lt _ e).2; omega
          have HT3 : Hid (Torn W (w.heap.size + 1 + 1) room ks L k (.slice Av k cv) O (wr.alloc (.cells #[.string ysv, .slice yA bl yc, .int .i64 ys] 48))) := Lib.hid (HO.out.later ((Below.refl _ wr).alloc (Nat.le_refl _) _))
          have HRT : Hid (Rd (wr.alloc (.cells #[.string ysv, .slice yA bl yc, .int .i64 ys] 48)) wr.heap.size .u8 yA ys yc (yb.take ys)) := Lib.hid ((HRD.out.take hsy).below ((Below.refl _ wr).alloc (Nat.le_refl _) _))
          obtain ⟨d0, d1, d2, _⟩ := three_cells (show (wr.alloc (.cells #[.string ysv, .slice yA bl yc, .int .i64 ys] 48)).heap[wr.heap.size]? = some (.cells #[.string ysv, .slice yA bl yc, .int .i64 ys] 48 (0, 0)) from heap_alloc_new wr _)
          have hws : wr.heap.size < (wr.alloc (.cells #[.string ysv, .slice yA bl yc, .int .i64 ys] 48)).heap.size := by simp
          obtain ⟨A3, m3, c3, e3, hm3, _, _, _, _, _, s0, s1, sg, t0, t1, _, _⟩ := HF.out _ _ _ _ HT3.out hk
          cases e3
          clear e0 e1 e2 o0 o1 g1 p0 p1 HOWN hbB HR3 hbY hm3
          generalize wr.alloc (.cells #[.string ysv, .slice yA bl yc, .int .i64 ys] 48) = w3 at *
          generalize wr.heap.size = fb at *
          have HRT2 : Hid (Rd w3 w3.heap.size .u8 yA ys yc (yb.take ys)) := Lib.hid (HRT.out.more (by omega))
          have HLN : Hid (((yb.take ys).map (Value.int .u8)).length = ys * 1) := Lib.hid (by rw [List.length_map, List.length_take]; have := HNL.out; omega)
          have hNy : (ys : Int) ≤ yc := by omega
          clear HRT
          rcases yA with _ | ad
          · refine wp_region_G (fun w' => w'.cell? ⟨w.heap.size + 1 + 1, 1, none⟩ = some (.slice Av k cv) ∧ w'.cell? ⟨fb, 0, none⟩ = some (.string ysv) ∧ w'.cell? ⟨fb, 1, none⟩ = some (.slice none bl yc)) 15 (by kernel_rfl) ?_
            have hS0 : w3.drew.cell? ⟨w.heap.size + 1 + 1, 1, none⟩ = some (.slice Av k cv) ∧ w3.drew.cell? ⟨fb, 0, none⟩ = some (.string ysv) ∧ w3.drew.cell? ⟨fb, 1, none⟩ = some (.slice none bl yc) := ⟨s1, d0, d1⟩
            refine wpAnyG_take (i := 0) (oi := _) (v := ?_) rfl (by kernel_rfl) (by kernel_rfl) (by kernel_rfl) (by kernel_rfl) (fun _ _ _ h => h) (Or.inl ⟨by rfl, ?_⟩) hS0 ?_
            rotate_left
            · (intro wS hSw; obtain ⟨y1, y2, y3⟩ := hSw; go_simp; try with_reducible rfl)
            try simp only [Act.put]
            refine wpAnyG_take (i := 1) (oi := _) (v := ?_) rfl (by kernel_rfl) (by kernel_rfl) (by kernel_rfl) (by kernel_rfl) (fun _ _ _ h => h) (Or.inl ⟨by rfl, ?_⟩) hS0 ?_
            rotate_left
            · (intro wS hSw; obtain ⟨y1, y2, y3⟩ := hSw; go_simp; try with_reducible rfl)
            try simp only [Act.put]
            refine wpAnyG_take (i := 2) (oi := _) (v := ?_) rfl (by kernel_rfl) (by kernel_rfl) (by kernel_rfl) (by kernel_rfl) (fun _ _ _ h => h) (Or.inl ⟨by rfl, ?_⟩) hS0 ?_
            rotate_left
            · (intro wS hSw; obtain ⟨y1, y2, y3⟩ := hSw; go_simp; try with_reducible rfl)
            try simp only [Act.put]
            refine wpAnyG_take (i := 3) (oi := _) (v := ?_) rfl (by kernel_rfl) (by kernel_rfl) (by kernel_rfl) (by kernel_rfl) (fun _ _ _ h => h) (Or.inl ⟨by rfl, ?_⟩) hS0 ?_
            rotate_left
            · (intro wS hSw; obtain ⟨y1, y2, y3⟩ := hSw; go_simp; try with_reducible rfl)
            try simp only [Act.put]
            refine wpAnyG_take (i := 5) (oi := _) (v := ?_) rfl (by kernel_rfl) (by kernel_rfl) (by kernel_rfl) (by kernel_rfl) (fun _ _ _ h => h) (Or.inl ⟨by rfl, ?_⟩) hS0 ?_
            rotate_left
            · (intro wS hSw; obtain ⟨y1, y2, y3⟩ := hSw; go_simp; try with_reducible rfl)
            try simp only [Act.put]
            refine wpAnyG_take (i := 6) (oi := _) (v := ?_) rfl (by kernel_rfl) (by kernel_rfl) (by kernel_rfl) (by kernel_rfl) (fun _ _ _ h => h) (Or.inl ⟨by rfl, ?_⟩) hS0 ?_
            rotate_left
            · (intro wS hSw; obtain ⟨y1, y2, y3⟩ := hSw; go_simp; try with_reducible rfl)
            try simp only [Act.put]
            refine wpAnyG_take (i := 7) (oi := _) (v := ?_) rfl (by kernel_rfl) (by kernel_rfl) (by kernel_rfl) (by kernel_rfl) (fun _ _ _ h => h) (Or.inl ⟨by rfl, ?_⟩) hS0 ?_
            rotate_left
            · (intro wS hSw; obtain ⟨y1, y2, y3⟩ := hSw; go_simp; try with_reducible rfl)
            try simp only [Act.put]
            refine wpAnyG_take (i := 8) (oi := _) (v := ?_) rfl (by kernel_rfl) (by kernel_rfl) (by kernel_rfl) (by kernel_rfl) (fun _ _ _ h => h) (Or.inl ⟨by rfl, ?_⟩) hS0 ?_
            rotate_left
            · (intro wS hSw; obtain ⟨y1, y2, y3⟩ := hSw; go_simp; try with_reducible rfl)
            try simp only [Act.put]
            refine wpAnyG_take (i := 10) (oi := _) (v := ?_) rfl (by kernel_rfl) (by kernel_rfl) (by kernel_rfl) (by kernel_rfl) (fun _ _ _ h => h) (Or.inl ⟨by rfl, ?_⟩) hS0 ?_
            rotate_left
            · (intro wS hSw; obtain ⟨y1, y2, y3⟩ := hSw; go_simp; try with_reducible rfl)
            try simp only [Act.put]
            refine wpAnyG_one (i := 4) (o := ⟨some 55, _, _, _, _, _⟩) (by kernel_rfl) rfl (fun K hK => ?_)
            go_simp
            refine hK.out _ _ (fun _ => by (refine ⟨?_, ?_, ?_⟩ <;> go_keep)) ?_
            clear hK K
            try simp only [Act.put]
            refine wpAnyG_one (i := 9) (o := ⟨some 60, _, _, _, _, _⟩) (by kernel_rfl) rfl (fun K hK => ?_)
            refine step_append_where (o := ⟨some 60, _, _, _, _, _⟩) rfl (.tmp 55) (.tmp 59) 31 rfl w3.heap.size 5 j0 _ 1 1 Try.underlying31 hj jz0 jz1 jz2 rfl (by omega) _ 0 [] rfl (HLIT.out w3.drew) _ ys yc ((yb.take ys).map (Value.int .u8)) rfl HLN.out HRT2.out.nil ((HRT2.out.below (((Below.refl _ w3).drew).alloc (Nat.le_refl _) _)).news) (ints_oneCell _ _) (by unfold maxLen; omega) (by omega) (by simp) ?_
            intro v60 w60 ho60 hg60 _
            obtain ⟨hT60, hb60, A60, c60, rfl, hr60, hA60⟩ := HT3.out.mid (N := ys) (ys := yb.take ys) (by simpa using ho60) hg60
            obtain ⟨A5, m5, c5, e5, _, _, _, _, HOWN60, hbB60, q0, q1, qg, _, _, _, _⟩ := HF.out _ _ _ _ hT60 hk
            cases e5
            have r0 := (hb60.cell (p := ⟨fb, 0, none⟩) hws).trans d0; have r1 := (hb60.cell (p := ⟨fb, 1, none⟩) hws).trans d1
            have HT60 := Lib.hid hT60
            have HR60 := Lib.hid hr60
            have HA60 := Lib.hid hA60
            have hcap60 := hr60.cap
            have hf60 : fb < w60.heap.size := Nat.lt_of_lt_of_le hws hb60.size
            clear ho60 hg60 hT60 hb60 hr60 hA60
            refine hK.out _ _ (fun _ => ⟨q1, r0, r1⟩) ?_
            clear hK K
            try simp only [Act.put]
            refine wpAnyG_one (i := 11) (o := ⟨some 62, _, _, _, _, _⟩) (by kernel_rfl) rfl (fun K hK => ?_)
            go_simp
            refine hK.out _ _ (fun _ => ⟨q1, r0, r1⟩) ?_
            clear hK K
            try simp only [Act.put]
            refine wpAnyG_one (i := 12) (o := ⟨some 63, _, _, _, _, _⟩) (by kernel_rfl) rfl (fun K hK => ?_)
            go_simp
            refine hK.out _ _ (fun _ => by (refine ⟨?_, ?_, ?_⟩ <;> go_keep)) ?_
            clear hK K
            try simp only [Act.put]
            refine wpAnyG_one (i := 13) (o := ⟨some 64, _, _, _, _, _⟩) (by kernel_rfl) rfl (fun K hK => ?_)
            refine step_append_where (o := ⟨some 64, _, _, _, _, _⟩) rfl (.tmp 52) (.tmp 63) 27 rfl (w.heap.size + 1 + 1 + 1) 48 i0 _ 3 48 Try.underlying27 hi hz0 hz1 hz2 rfl (by omega) _ k _ rfl (HOWN60.out.alloc _) (some ⟨w60.heap.size, 0, none⟩) 1 1 [.string ysv, .slice A60 ys c60, .int .i64 ys] rfl rfl (fun e => by cases e) (news3 w60 _ _ _ _) (ones3 _ _ _ _ _) (by unfold maxLen; omega) (by omega) (by simp; omega) ?_
            intro v64 w64 ho64 hg64 hw64
            have x0 := far_cell hg64 hf60 HFB.out r0
            have x1 := far_cell hg64 hf60 HFB.out r1
            obtain ⟨A64, c64, O2, rfl, u1, ug, hT64⟩ := HT60.out.step (by rw [HM.out]) HY.out HOK.out HNE.out HNL.out HR60.out HA60.out ho64 hg64 hw64
            have HT64 := Lib.hid hT64
            clear ho64 hg64 hw64 hT64
            refine hK.out _ _ (fun _ => ⟨u1, x0, x1⟩) ?_
            clear hK K
            try simp only [Act.put]
            refine wpAnyG_one (i := 14) (o := ⟨some 65, _, _, _, _, _⟩) (by kernel_rfl) rfl (fun K hK => ?_)
            go_simp
            refine hK.out _ _ (fun _ => ⟨u1, x0, x1⟩) ?_
            clear hK K
            try simp only [Act.put]
            refine wpAnyG_one (i := 15) (o := ⟨none, _, _, _, _, _⟩) (by kernel_rfl) rfl (fun K hK => ?_)
            go_simp
            refine hK.out _ _ (fun h => absurd h (by decide)) ?_
            clear hK K
            try simp only [Act.put]
            refine wpAnyG_done (by kernel_rfl) ?_ _
            all_goals
              go_wp2_with fail
              go_roundw
              case rel => exact ⟨k + 1, _, O2, by go_num, by omega, HT64⟩
              case measure => simp [intOf]; omega
          · refine wp_region_G (fun w' => w'.cell? ⟨w.heap.size + 1 + 1, 1, none⟩ = some (.slice Av k cv) ∧ w'.cell? ⟨fb, 0, none⟩ = some (.string ysv) ∧ w'.cell? ⟨fb, 1, none⟩ = some (.slice (some ad) bl yc)) 15 (by kernel_rfl) ?_
            have hS0 : w3.drew.cell? ⟨w.heap.size + 1 + 1, 1, none⟩ = some (.slice Av k cv) ∧ w3.drew.cell? ⟨fb, 0, none⟩ = some (.string ysv) ∧ w3.drew.cell? ⟨fb, 1, none⟩ = some (.slice (some ad) bl yc) := ⟨s1, d0, d1⟩
            refine wpAnyG_take (i := 0) (oi := _) (v := ?_) rfl (by kernel_rfl) (by kernel_rfl) (by kernel_rfl) (by kernel_rfl) (fun _ _ _ h => h) (Or.inl ⟨by rfl, ?_⟩) hS0 ?_
            rotate_left
            · (intro wS hSw; obtain ⟨y1, y2, y3⟩ := hSw; go_simp; try with_reducible rfl)
            try simp only [Act.put]
            refine wpAnyG_take (i := 1) (oi := _) (v := ?_) rfl (by kernel_rfl) (by kernel_rfl) (by kernel_rfl) (by kernel_rfl) (fun _ _ _ h => h) (Or.inl ⟨by rfl, ?_⟩) hS0 ?_
            rotate_left
            · (intro wS hSw; obtain ⟨y1, y2, y3⟩ := hSw; go_simp; try with_reducible rfl)
            try simp only [Act.put]
            refine wpAnyG_take (i := 2) (oi := _) (v := ?_) rfl (by kernel_rfl) (by kernel_rfl) (by kernel_rfl) (by kernel_rfl) (fun _ _ _ h => h) (Or.inl ⟨by rfl, ?_⟩) hS0 ?_
            rotate_left
            · (intro wS hSw; obtain ⟨y1, y2, y3⟩ := hSw; go_simp; try with_reducible rfl)
            try simp only [Act.put]
            refine wpAnyG_take (i := 3) (oi := _) (v := ?_) rfl (by kernel_rfl) (by kernel_rfl) (by kernel_rfl) (by kernel_rfl) (fun _ _ _ h => h) (Or.inl ⟨by rfl, ?_⟩) hS0 ?_
            rotate_left
            · (intro wS hSw; obtain ⟨y1, y2, y3⟩ := hSw; go_simp; try with_reducible rfl)
            try simp only [Act.put]
            refine wpAnyG_take (i := 5) (oi := _) (v := ?_) rfl (by kernel_rfl) (by kernel_rfl) (by kernel_rfl) (by kernel_rfl) (fun _ _ _ h => h) (Or.inl ⟨by rfl, ?_⟩) hS0 ?_
            rotate_left
            · (intro wS hSw; obtain ⟨y1, y2, y3⟩ := hSw; go_simp; try with_reducible rfl)
            try simp only [Act.put]
            refine wpAnyG_take (i := 6) (oi := _) (v := ?_) rfl (by kernel_rfl) (by kernel_rfl) (by kernel_rfl) (by kernel_rfl) (fun _ _ _ h => h) (Or.inl ⟨by rfl, ?_⟩) hS0 ?_
            rotate_left
            · (intro wS hSw; obtain ⟨y1, y2, y3⟩ := hSw; go_simp; try with_reducible rfl)
            try simp only [Act.put]
            refine wpAnyG_take (i := 7) (oi := _) (v := ?_) rfl (by kernel_rfl) (by kernel_rfl) (by kernel_rfl) (by kernel_rfl) (fun _ _ _ h => h) (Or.inl ⟨by rfl, ?_⟩) hS0 ?_
            rotate_left
            · (intro wS hSw; obtain ⟨y1, y2, y3⟩ := hSw; go_simp; try with_reducible rfl)
            try simp only [Act.put]
            refine wpAnyG_take (i := 8) (oi := _) (v := ?_) rfl (by kernel_rfl) (by kernel_rfl) (by kernel_rfl) (by kernel_rfl) (fun _ _ _ h => h) (Or.inl ⟨by rfl, ?_⟩) hS0 ?_
            rotate_left
            · (intro wS hSw; obtain ⟨y1, y2, y3⟩ := hSw; go_simp; try with_reducible rfl)
            try simp only [Act.put]
            refine wpAnyG_take (i := 10) (oi := _) (v := ?_) rfl (by kernel_rfl) (by kernel_rfl) (by kernel_rfl) (by kernel_rfl) (fun _ _ _ h => h) (Or.inl ⟨by rfl, ?_⟩) hS0 ?_
            rotate_left
            · (intro wS hSw; obtain ⟨y1, y2, y3⟩ := hSw; go_simp; try with_reducible rfl)
            try simp only [Act.put]
            refine wpAnyG_one (i := 4) (o := ⟨some 55, _, _, _, _, _⟩) (by kernel_rfl) rfl (fun K hK => ?_)
            go_simp
            refine hK.out _ _ (fun _ => by (refine ⟨?_, ?_, ?_⟩ <;> go_keep)) ?_
            clear hK K
            try simp only [Act.put]
            refine wpAnyG_one (i := 9) (o := ⟨some 60, _, _, _, _, _⟩) (by kernel_rfl) rfl (fun K hK => ?_)
            refine step_append_where (o := ⟨some 60, _, _, _, _, _⟩) rfl (.tmp 55) (.tmp 59) 31 rfl w3.heap.size 5 j0 _ 1 1 Try.underlying31 hj jz0 jz1 jz2 rfl (by omega) _ 0 [] rfl (HLIT.out w3.drew) _ ys yc ((yb.take ys).map (Value.int .u8)) rfl HLN.out HRT2.out.nil ((HRT2.out.below (((Below.refl _ w3).drew).alloc (Nat.le_refl _) _)).news) (ints_oneCell _ _) (by unfold maxLen; omega) (by omega) (by simp) ?_
            intro v60 w60 ho60 hg60 _
            obtain ⟨hT60, hb60, A60, c60, rfl, hr60, hA60⟩ := HT3.out.mid (N := ys) (ys := yb.take ys) (by simpa using ho60) hg60
            obtain ⟨A5, m5, c5, e5, _, _, _, _, HOWN60, hbB60, q0, q1, qg, _, _, _, _⟩ := HF.out _ _ _ _ hT60 hk
            cases e5
            have r0 := (hb60.cell (p := ⟨fb, 0, none⟩) hws).trans d0; have r1 := (hb60.cell (p := ⟨fb, 1, none⟩) hws).trans d1
            have HT60 := Lib.hid hT60
            have HR60 := Lib.hid hr60
            have HA60 := Lib.hid hA60
            have hcap60 := hr60.cap
            have hf60 : fb < w60.heap.size := Nat.lt_of_lt_of_le hws hb60.size
            clear ho60 hg60 hT60 hb60 hr60 hA60
            refine hK.out _ _ (fun _ => ⟨q1, r0, r1⟩) ?_
            clear hK K
            try simp only [Act.put]
            refine wpAnyG_one (i := 11) (o := ⟨some 62, _, _, _, _, _⟩) (by kernel_rfl) rfl (fun K hK => ?_)
            go_simp
            refine hK.out _ _ (fun _ => ⟨q1, r0, r1⟩) ?_
            clear hK K
            try simp only [Act.put]
            refine wpAnyG_one (i := 12) (o := ⟨some 63, _, _, _, _, _⟩) (by kernel_rfl) rfl (fun K hK => ?_)
            go_simp
            refine hK.out _ _ (fun _ => by (refine ⟨?_, ?_, ?_⟩ <;> go_keep)) ?_
            clear hK K
            try simp only [Act.put]
            refine wpAnyG_one (i := 13) (o := ⟨some 64, _, _, _, _, _⟩) (by kernel_rfl) rfl (fun K hK => ?_)
            refine step_append_where (o := ⟨some 64, _, _, _, _, _⟩) rfl (.tmp 52) (.tmp 63) 27 rfl (w.heap.size + 1 + 1 + 1) 48 i0 _ 3 48 Try.underlying27 hi hz0 hz1 hz2 rfl (by omega) _ k _ rfl (HOWN60.out.alloc _) (some ⟨w60.heap.size, 0, none⟩) 1 1 [.string ysv, .slice A60 ys c60, .int .i64 ys] rfl rfl (fun e => by cases e) (news3 w60 _ _ _ _) (ones3 _ _ _ _ _) (by unfold maxLen; omega) (by omega) (by simp; omega) ?_
            intro v64 w64 ho64 hg64 hw64
            have x0 := far_cell hg64 hf60 HFB.out r0
            have x1 := far_cell hg64 hf60 HFB.out r1
            obtain ⟨A64, c64, O2, rfl, u1, ug, hT64⟩ := HT60.out.step (by rw [HM.out]) HY.out HOK.out HNE.out HNL.out HR60.out HA60.out ho64 hg64 hw64
            have HT64 := Lib.hid hT64
            clear ho64 hg64 hw64 hT64
            refine hK.out _ _ (fun _ => ⟨u1, x0, x1⟩) ?_
            clear hK K
            try simp only [Act.put]
            refine wpAnyG_one (i := 14) (o := ⟨some 65, _, _, _, _, _⟩) (by kernel_rfl) rfl (fun K hK => ?_)
            go_simp
            refine hK.out _ _ (fun _ => ⟨u1, x0, x1⟩) ?_
            clear hK K
            try simp only [Act.put]
            refine wpAnyG_one (i := 15) (o := ⟨none, _, _, _, _, _⟩) (by kernel_rfl) rfl (fun K hK => ?_)
            go_simp
            refine hK.out _ _ (fun h => absurd h (by decide)) ?_
            clear hK K
            try simp only [Act.put]
            refine wpAnyG_done (by kernel_rfl) ?_ _
            all_goals
              go_wp2_with fail
              go_roundw
              case rel => exact ⟨k + 1, _, O2, by go_num, by omega, HT64⟩
              case measure => simp [intOf]; omega
      · have hsv : survN ks k (RV.f ⟨ysv, yb, ys, yA, yc⟩) = 0 := by unfold survN; rw [if_neg fun e => hkk (by have := e.1; rwa [HKN.out] at this)]
        have hkk' : (nK : Int) ≤ k := by omega
        have HSV := Lib.hid hsv
        clear hsv hbl
        go_upto_region 9 with fail
        have HNE : Hid (ys = ys + survN ks k (RV.f ⟨ysv, yb, ys, yA, yc⟩)) := Lib.hid (by rw [HSV.out]; rfl)
        have HNL : Hid (ys ≤ yb.length) := Lib.hid (by rw [HBL.out]; exact hsy)
        have HBB : Hid (w.heap.size + 1 + 1 < wr.heap.size) := Lib.hid hbB
        have HFB : Hid ((Value.slice Av k cv).ownBlock ≠ some wr.heap.size) := Lib.hid fun e => by have := (HOWN.out.lt _ e).2; omega
        have HT3 : Hid (Torn W (w.heap.size + 1 + 1) room ks L k (.slice Av k cv) O (wr.alloc (.cells #[.string ysv, .slice yA bl yc, .int .i64 ys] 48))) := Lib.hid (HO.out.later ((Below.refl _ wr).alloc (Nat.le_refl _) _))
        have HRT : Hid (Rd (wr.alloc (.cells #[.string ysv, .slice yA bl yc, .int .i64 ys] 48)) wr.heap.size .u8 yA ys yc (yb.take ys)) := Lib.hid ((HRD.out.take hsy).below ((Below.refl _ wr).alloc (Nat.le_refl _) _))
        obtain ⟨d0, d1, d2, _⟩ := three_cells (show (wr.alloc (.cells #[.string ysv, .slice yA bl yc, .int .i64 ys] 48)).heap[wr.heap.size]? = some (.cells #[.string ysv, .slice yA bl yc, .int .i64 ys] 48 (0, 0)) from heap_alloc_new wr _)
        have hws : wr.heap.size < (wr.alloc (.cells #[.string ysv, .slice yA bl yc, .int .i64 ys] 48)).heap.size := by simp
        obtain ⟨A3, m3, c3, e3, hm3, _, _, _, _, _, s0, s1, sg, t0, t1, _, _⟩ := HF.out _ _ _ _ HT3.out hk
        cases e3
        clear e0 e1 e2 o0 o1 g1 p0 p1 HOWN hbB HR3 hbY hm3
        generalize wr.alloc (.cells #[.string ysv, .slice yA bl yc, .int .i64 ys] 48) = w3 at *
        generalize wr.heap.size = fb at *
        have HRT2 : Hid (Rd w3 w3.heap.size .u8 yA ys yc (yb.take ys)) := Lib.hid (HRT.out.more (by omega))
        have HLN : Hid (((yb.take ys).map (Value.int .u8)).length = ys * 1) := Lib.hid (by rw [List.length_map, List.length_take]; have := HNL.out; omega)
        have hNy : (ys : Int) ≤ yc := by omega
        clear HRT
        rcases yA with _ | ad
        · refine wp_region_G (fun w' => w'.cell? ⟨w.heap.size + 1 + 1, 1, none⟩ = some (.slice Av k cv) ∧ w'.cell? ⟨fb, 0, none⟩ = some (.string ysv) ∧ w'.cell? ⟨fb, 1, none⟩ = some (.slice none bl yc)) 15 (by kernel_rfl) ?_
          have hS0 : w3.drew.cell? ⟨w.heap.size + 1 + 1, 1, none⟩ = some (.slice Av k cv) ∧ w3.drew.cell? ⟨fb, 0, none⟩ = some (.string ysv) ∧ w3.drew.cell? ⟨fb, 1, none⟩ = some (.slice none bl yc) := ⟨s1, d0, d1⟩
          refine wpAnyG_take (i := 0) (oi := _) (v := ?_) rfl (by kernel_rfl) (by kernel_rfl) (by kernel_rfl) (by kernel_rfl) (fun _ _ _ h => h) (Or.inl ⟨by rfl, ?_⟩) hS0 ?_
          rotate_left
          · (intro wS hSw; obtain ⟨y1, y2, y3⟩ := hSw; go_simp; try with_reducible rfl)
          try simp only [Act.put]
          refine wpAnyG_take (i := 1) (oi := _) (v := ?_) rfl (by kernel_rfl) (by kernel_rfl) (by kernel_rfl) (by kernel_rfl) (fun _ _ _ h => h) (Or.inl ⟨by rfl, ?_⟩) hS0 ?_
          rotate_left
          · (intro wS hSw; obtain ⟨y1, y2, y3⟩ := hSw; go_simp; try with_reducible rfl)
          try simp only [Act.put]
          refine wpAnyG_take (i := 2) (oi := _) (v := ?_) rfl (by kernel_rfl) (by kernel_rfl) (by kernel_rfl) (by kernel_rfl) (fun _ _ _ h => h) (Or.inl ⟨by rfl, ?_⟩) hS0 ?_
          rotate_left
          · (intro wS hSw; obtain ⟨y1, y2, y3⟩ := hSw; go_simp; try with_reducible rfl)
          try simp only [Act.put]
          refine wpAnyG_take (i := 3) (oi := _) (v := ?_) rfl (by kernel_rfl) (by kernel_rfl) (by kernel_rfl) (by kernel_rfl) (fun _ _ _ h => h) (Or.inl ⟨by rfl, ?_⟩) hS0 ?_
          rotate_left
          · (intro wS hSw; obtain ⟨y1, y2, y3⟩ := hSw; go_simp; try with_reducible rfl)
          try simp only [Act.put]
          refine wpAnyG_take (i := 5) (oi := _) (v := ?_) rfl (by kernel_rfl) (by kernel_rfl) (by kernel_rfl) (by kernel_rfl) (fun _ _ _ h => h) (Or.inl ⟨by rfl, ?_⟩) hS0 ?_
          rotate_left
          · (intro wS hSw; obtain ⟨y1, y2, y3⟩ := hSw; go_simp; try with_reducible rfl)
          try simp only [Act.put]
          refine wpAnyG_take (i := 6) (oi := _) (v := ?_) rfl (by kernel_rfl) (by kernel_rfl) (by kernel_rfl) (by kernel_rfl) (fun _ _ _ h => h) (Or.inl ⟨by rfl, ?_⟩) hS0 ?_
          rotate_left
          · (intro wS hSw; obtain ⟨y1, y2, y3⟩ := hSw; go_simp; try with_reducible rfl)
          try simp only [Act.put]
          refine wpAnyG_take (i := 7) (oi := _) (v := ?_) rfl (by kernel_rfl) (by kernel_rfl) (by kernel_rfl) (by kernel_rfl) (fun _ _ _ h => h) (Or.inl ⟨by rfl, ?_⟩) hS0 ?_
          rotate_left
          · (intro wS hSw; obtain ⟨y1, y2, y3⟩ := hSw; go_simp; try with_reducible rfl)
          try simp only [Act.put]
          refine wpAnyG_take (i := 8) (oi := _) (v := ?_) rfl (by kernel_rfl) (by kernel_rfl) (by kernel_rfl) (by kernel_rfl) (fun _ _ _ h => h) (Or.inl ⟨by rfl, ?_⟩) hS0 ?_
          rotate_left
          · (intro wS hSw; obtain ⟨y1, y2, y3⟩ := hSw; go_simp; try with_reducible rfl)
          try simp only [Act.put]
          refine wpAnyG_take (i := 10) (oi := _) (v := ?_) rfl (by kernel_rfl) (by kernel_rfl) (by kernel_rfl) (by kernel_rfl) (fun _ _ _ h => h) (Or.inl ⟨by rfl, ?_⟩) hS0 ?_
          rotate_left
          · (intro wS hSw; obtain ⟨y1, y2, y3⟩ := hSw; go_simp; try with_reducible rfl)
          try simp only [Act.put]
          refine wpAnyG_one (i := 4) (o := ⟨some 55, _, _, _, _, _⟩) (by kernel_rfl) rfl (fun K hK => ?_)
          go_simp
          refine hK.out _ _ (fun _ => by (refine ⟨?_, ?_, ?_⟩ <;> go_keep)) ?_
          clear hK K
          try simp only [Act.put]
          refine wpAnyG_one (i := 9) (o := ⟨some 60, _, _, _, _, _⟩) (by kernel_rfl) rfl (fun K hK => ?_)
          refine step_append_where (o := ⟨some 60, _, _, _, _, _⟩) rfl (.tmp 55) (.tmp 59) 31 rfl w3.heap.size 5 j0 _ 1 1 Try.underlying31 hj jz0 jz1 jz2 rfl (by omega) _ 0 [] rfl (HLIT.out w3.drew) _ ys yc ((yb.take ys).map (Value.int .u8)) rfl HLN.out HRT2.out.nil ((HRT2.out.below (((Below.refl _ w3).drew).alloc (Nat.le_refl _) _)).news) (ints_oneCell _ _) (by unfold maxLen; omega) (by omega) (by simp) ?_
          intro v60 w60 ho60 hg60 _
          obtain ⟨hT60, hb60, A60, c60, rfl, hr60, hA60⟩ := HT3.out.mid (N := ys) (ys := yb.take ys) (by simpa using ho60) hg60
          obtain ⟨A5, m5, c5, e5, _, _, _, _, HOWN60, hbB60, q0, q1, qg, _, _, _, _⟩ := HF.out _ _ _ _ hT60 hk
          cases e5
          have r0 := (hb60.cell (p := ⟨fb, 0, none⟩) hws).trans d0; have r1 := (hb60.cell (p := ⟨fb, 1, none⟩) hws).trans d1
          have HT60 := Lib.hid hT60
          have HR60 := Lib.hid hr60
          have HA60 := Lib.hid hA60
          have hcap60 := hr60.cap
          have hf60 : fb < w60.heap.size := Nat.lt_of_lt_of_le hws hb60.size
          clear ho60 hg60 hT60 hb60 hr60 hA60
          refine hK.out _ _ (fun _ => ⟨q1, r0, r1⟩) ?_
          clear hK K
          try simp only [Act.put]
          refine wpAnyG_one (i := 11) (o := ⟨some 62, _, _, _, _, _⟩) (by kernel_rfl) rfl (fun K hK => ?_)
          go_simp
          refine hK.out _ _ (fun _ => ⟨q1, r0, r1⟩) ?_
          clear hK K
          try simp only [Act.put]
          refine wpAnyG_one (i := 12) (o := ⟨some 63, _, _, _, _, _⟩) (by kernel_rfl) rfl (fun K hK => ?_)
          go_simp
          refine hK.out _ _ (fun _ => by (refine ⟨?_, ?_, ?_⟩ <;> go_keep)) ?_
          clear hK K
          try simp only [Act.put]
          refine wpAnyG_one (i := 13) (o := ⟨some 64, _, _, _, _, _⟩) (by kernel_rfl) rfl (fun K hK => ?_)
          refine step_append_where (o := ⟨some 64, _, _, _, _, _⟩) rfl (.tmp 52) (.tmp 63) 27 rfl (w.heap.size + 1 + 1 + 1) 48 i0 _ 3 48 Try.underlying27 hi hz0 hz1 hz2 rfl (by omega) _ k _ rfl (HOWN60.out.alloc _) (some ⟨w60.heap.size, 0, none⟩) 1 1 [.string ysv, .slice A60 ys c60, .int .i64 ys] rfl rfl (fun e => by cases e) (news3 w60 _ _ _ _) (ones3 _ _ _ _ _) (by unfold maxLen; omega) (by omega) (by simp; omega) ?_
          intro v64 w64 ho64 hg64 hw64
          have x0 := far_cell hg64 hf60 HFB.out r0
          have x1 := far_cell hg64 hf60 HFB.out r1
          obtain ⟨A64, c64, O2, rfl, u1, ug, hT64⟩ := HT60.out.step (by rw [HM.out]) HY.out HOK.out HNE.out HNL.out HR60.out HA60.out ho64 hg64 hw64
          have HT64 := Lib.hid hT64
          clear ho64 hg64 hw64 hT64
          refine hK.out _ _ (fun _ => ⟨u1, x0, x1⟩) ?_
          clear hK K
          try simp only [Act.put]
          refine wpAnyG_one (i := 14) (o := ⟨some 65, _, _, _, _, _⟩) (by kernel_rfl) rfl (fun K hK => ?_)
          go_simp
          refine hK.out _ _ (fun _ => ⟨u1, x0, x1⟩) ?_
          clear hK K
          try simp only [Act.put]
          refine wpAnyG_one (i := 15) (o := ⟨none, _, _, _, _, _⟩) (by kernel_rfl) rfl (fun K hK => ?_)
          go_simp
          refine hK.out _ _ (fun h => absurd h (by decide)) ?_
          clear hK K
          try simp only [Act.put]
          refine wpAnyG_done (by kernel_rfl) ?_ _
          all_goals
            go_wp2_with fail
            go_roundw
            case rel => exact ⟨k + 1, _, O2, by go_num, by omega, HT64⟩
            case measure => simp [intOf]; omega
        · refine wp_region_G (fun w' => w'.cell? ⟨w.heap.size + 1 + 1, 1, none⟩ = some (.slice Av k cv) ∧ w'.cell? ⟨fb, 0, none⟩ = some (.string ysv) ∧ w'.cell? ⟨fb, 1, none⟩ = some (.slice (some ad) bl yc)) 15 (by kernel_rfl) ?_
          have hS0 : w3.drew.cell? ⟨w.heap.size + 1 + 1, 1, none⟩ = some (.slice Av k cv) ∧ w3.drew.cell? ⟨fb, 0, none⟩ = some (.string ysv) ∧ w3.drew.cell? ⟨fb, 1, none⟩ = some (.slice (some ad) bl yc) := ⟨s1, d0, d1⟩
          refine wpAnyG_take (i := 0) (oi := _) (v := ?_) rfl (by kernel_rfl) (by kernel_rfl) (by kernel_rfl) (by kernel_rfl) (fun _ _ _ h => h) (Or.inl ⟨by rfl, ?_⟩) hS0 ?_
          rotate_left
          · (intro wS hSw; obtain ⟨y1, y2, y3⟩ := hSw; go_simp; try with_reducible rfl)
          try simp only [Act.put]
          refine wpAnyG_take (i := 1) (oi := _) (v := ?_) rfl (by kernel_rfl) (by kernel_rfl) (by kernel_rfl) (by kernel_rfl) (fun _ _ _ h => h) (Or.inl ⟨by rfl, ?_⟩) hS0 ?_
          rotate_left
          · (intro wS hSw; obtain ⟨y1, y2, y3⟩ := hSw; go_simp; try with_reducible rfl)
          try simp only [Act.put]
          refine wpAnyG_take (i := 2) (oi := _) (v := ?_) rfl (by kernel_rfl) (by kernel_rfl) (by kernel_rfl) (by kernel_rfl) (fun _ _ _ h => h) (Or.inl ⟨by rfl, ?_⟩) hS0 ?_
          rotate_left
          · (intro wS hSw; obtain ⟨y1, y2, y3⟩ := hSw; go_simp; try with_reducible rfl)
          try simp only [Act.put]
          refine wpAnyG_take (i := 3) (oi := _) (v := ?_) rfl (by kernel_rfl) (by kernel_rfl) (by kernel_rfl) (by kernel_rfl) (fun _ _ _ h => h) (Or.inl ⟨by rfl, ?_⟩) hS0 ?_
          rotate_left
          · (intro wS hSw; obtain ⟨y1, y2, y3⟩ := hSw; go_simp; try with_reducible rfl)
          try simp only [Act.put]
          refine wpAnyG_take (i := 5) (oi := _) (v := ?_) rfl (by kernel_rfl) (by kernel_rfl) (by kernel_rfl) (by kernel_rfl) (fun _ _ _ h => h) (Or.inl ⟨by rfl, ?_⟩) hS0 ?_
          rotate_left
          · (intro wS hSw; obtain ⟨y1, y2, y3⟩ := hSw; go_simp; try with_reducible rfl)
          try simp only [Act.put]
          refine wpAnyG_take (i := 6) (oi := _) (v := ?_) rfl (by kernel_rfl) (by kernel_rfl) (by kernel_rfl) (by kernel_rfl) (fun _ _ _ h => h) (Or.inl ⟨by rfl, ?_⟩) hS0 ?_
          rotate_left
          · (intro wS hSw; obtain ⟨y1, y2, y3⟩ := hSw; go_simp; try with_reducible rfl)
          try simp only [Act.put]
          refine wpAnyG_take (i := 7) (oi := _) (v := ?_) rfl (by kernel_rfl) (by kernel_rfl) (by kernel_rfl) (by kernel_rfl) (fun _ _ _ h => h) (Or.inl ⟨by rfl, ?_⟩) hS0 ?_
          rotate_left
          · (intro wS hSw; obtain ⟨y1, y2, y3⟩ := hSw; go_simp; try with_reducible rfl)
          try simp only [Act.put]
          refine wpAnyG_take (i := 8) (oi := _) (v := ?_) rfl (by kernel_rfl) (by kernel_rfl) (by kernel_rfl) (by kernel_rfl) (fun _ _ _ h => h) (Or.inl ⟨by rfl, ?_⟩) hS0 ?_
          rotate_left
          · (intro wS hSw; obtain ⟨y1, y2, y3⟩ := hSw; go_simp; try with_reducible rfl)
          try simp only [Act.put]
          refine wpAnyG_take (i := 10) (oi := _) (v := ?_) rfl (by kernel_rfl) (by kernel_rfl) (by kernel_rfl) (by kernel_rfl) (fun _ _ _ h => h) (Or.inl ⟨by rfl, ?_⟩) hS0 ?_
          rotate_left
          · (intro wS hSw; obtain ⟨y1, y2, y3⟩ := hSw; go_simp; try with_reducible rfl)
          try simp only [Act.put]
          refine wpAnyG_one (i := 4) (o := ⟨some 55, _, _, _, _, _⟩) (by kernel_rfl) rfl (fun K hK => ?_)
          go_simp
          refine hK.out _ _ (fun _ => by (refine ⟨?_, ?_, ?_⟩ <;> go_keep)) ?_
          clear hK K
          try simp only [Act.put]
          refine wpAnyG_one (i := 9) (o := ⟨some 60, _, _, _, _, _⟩) (by kernel_rfl) rfl (fun K hK => ?_)
          refine step_append_where (o := ⟨some 60, _, _, _, _, _⟩) rfl (.tmp 55) (.tmp 59) 31 rfl w3.heap.size 5 j0 _ 1 1 Try.underlying31 hj jz0 jz1 jz2 rfl (by omega) _ 0 [] rfl (HLIT.out w3.drew) _ ys yc ((yb.take ys).map (Value.int .u8)) rfl HLN.out HRT2.out.nil ((HRT2.out.below (((Below.refl _ w3).drew).alloc (Nat.le_refl _) _)).news) (ints_oneCell _ _) (by unfold maxLen; omega) (by omega) (by simp) ?_
          intro v60 w60 ho60 hg60 _
          obtain ⟨hT60, hb60, A60, c60, rfl, hr60, hA60⟩ := HT3.out.mid (N := ys) (ys := yb.take ys) (by simpa using ho60) hg60
          obtain ⟨A5, m5, c5, e5, _, _, _, _, HOWN60, hbB60, q0, q1, qg, _, _, _, _⟩ := HF.out _ _ _ _ hT60 hk
          cases e5
          have r0 := (hb60.cell (p := ⟨fb, 0, none⟩) hws).trans d0; have r1 := (hb60.cell (p := ⟨fb, 1, none⟩) hws).trans d1
          have HT60 := Lib.hid hT60
          have HR60 := Lib.hid hr60
          have HA60 := Lib.hid hA60
          have hcap60 := hr60.cap
          have hf60 : fb < w60.heap.size := Nat.lt_of_lt_of_le hws hb60.size
          clear ho60 hg60 hT60 hb60 hr60 hA60
          refine hK.out _ _ (fun _ => ⟨q1, r0, r1⟩) ?_
          clear hK K
          try simp only [Act.put]
          refine wpAnyG_one (i := 11) (o := ⟨some 62, _, _, _, _, _⟩) (by kernel_rfl) rfl (fun K hK => ?_)
          go_simp
          refine hK.out _ _ (fun _ => ⟨q1, r0, r1⟩) ?_
          clear hK K
          try simp only [Act.put]
          refine wpAnyG_one (i := 12) (o := ⟨some 63, _, _, _, _, _⟩) (by kernel_rfl) rfl (fun K hK => ?_)
          go_simp
          refine hK.out _ _ (fun _ => by (refine ⟨?_, ?_, ?_⟩ <;> go_keep)) ?_
          clear hK K
          try simp only [Act.put]
          refine wpAnyG_one (i := 13) (o := ⟨some 64, _, _, _, _, _⟩) (by kernel_rfl) rfl (fun K hK => ?_)
          refine step_append_where (o := ⟨some 64, _, _, _, _, _⟩) rfl (.tmp 52) (.tmp 63) 27 rfl (w.heap.size + 1 + 1 + 1) 48 i0 _ 3 48 Try.underlying27 hi hz0 hz1 hz2 rfl (by omega) _ k _ rfl (HOWN60.out.alloc _) (some ⟨w60.heap.size, 0, none⟩) 1 1 [.string ysv, .slice A60 ys c60, .int .i64 ys] rfl rfl (fun e => by cases e) (news3 w60 _ _ _ _) (ones3 _ _ _ _ _) (by unfold maxLen; omega) (by omega) (by simp; omega) ?_
          intro v64 w64 ho64 hg64 hw64
          have x0 := far_cell hg64 hf60 HFB.out r0
          have x1 := far_cell hg64 hf60 HFB.out r1
          obtain ⟨A64, c64, O2, rfl, u1, ug, hT64⟩ := HT60.out.step (by rw [HM.out]) HY.out HOK.out HNE.out HNL.out HR60.out HA60.out ho64 hg64 hw64
          have HT64 := Lib.hid hT64
          clear ho64 hg64 hw64 hT64
          refine hK.out _ _ (fun _ => ⟨u1, x0, x1⟩) ?_
          clear hK K
          try simp only [Act.put]
          refine wpAnyG_one (i := 14) (o := ⟨some 65, _, _, _, _, _⟩) (by kernel_rfl) rfl (fun K hK => ?_)
          go_simp
          refine hK.out _ _ (fun _ => ⟨u1, x0, x1⟩) ?_
          clear hK K
          try simp only [Act.put]
          refine wpAnyG_one (i := 15) (o := ⟨none, _, _, _, _, _⟩) (by kernel_rfl) rfl (fun K hK => ?_)
          go_simp
          refine hK.out _ _ (fun h => absurd h (by decide)) ?_
          clear hK K
          try simp only [Act.put]
          refine wpAnyG_done (by kernel_rfl) ?_ _
          all_goals
            go_wp2_with fail
            go_roundw
            case rel => exact ⟨k + 1, _, O2, by go_num, by omega, HT64⟩
            case measure => simp [intOf]; omega
    · obtain rfl : k = n := by omega
      have hrs' : wr.heap[w.heap.size + 1]? = _ := (HO.out.out.below.block (w.heap.size + 1) (by omega)).trans HRS.out
      obtain ⟨r0, r1, r2, r3⟩ := two_cells hrs'
      obtain ⟨f0, f1⟩ := two_set hrs' (.int .i64 room) (.slice Av k cv)
      have HFIN : Hid (RefSaid room Ψ w (fun L' => L'.map RV.f = crashF ks (L.map RV.f)) (.returned (.agg #[.int .i64 room, .slice Av k cv])) ((wr.setCell ⟨w.heap.size + 1, 0, none⟩ (.int .i64 room)).setCell ⟨w.heap.size + 1, 1, none⟩ (.slice Av k cv))) := Lib.hid (by
        obtain ⟨A', c', e', hr', hb'⟩ := HO.out.out.done2 (w := w) (rs := w.heap.size + 1) (Ψ := Ψ) (Ψ1 := fun i => w.heap.size + 1 + 1 + 1 ≤ i) HBW.out (fun x hx => (HO.out.ok x hx).mono fun i _ hi => hi.1) (fun i hi => hi) (by omega) (fun i hi => .inr (by omega))
          ((Chg.set _ _ _ _).trans (Chg.set _ _ _ _) fun _ _ e => e) (by omega)
        exact ⟨A', c', O, by rw [e'], hr', HO.out.all HL.out.symm, hb'⟩)
      go_wp2_with fail
      exact bodyPost_ret (v := .agg #[.int .i64 room, .slice Av k cv]) (by simp [results, Try.results22, go_sem, f0, f1]) rfl HFIN.out
end Go.Proofs.Ytpolkhippblcmaa
