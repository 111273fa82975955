/- What is proved here: the laws' does: Merge. -/
import Derived.Test.YtmmddkddjiodbaaEDoes2
namespace Go.Proofs.Ytmmddkddjiodbaa
open Go Go.RowKit Go.Maps Go.WideMaps

section
variable {w : World} {b : Nat} {B T : Int} {A : Option Addr} {n c : Nat} {L : List En} {Φ : Nat → Prop}
theorem mergeF_fst_len {B T y term : Int} {L M : List En} : (mergeF B T L y term M).1.length ≤ L.length + M.length := by
  unfold mergeF
  split
  · simp
  · split
    · split
      · simp
      · have := (mergeL_len (M.drop (B - y).toNat) L 0 (Nat.zero_le _)).2
        rw [List.length_drop] at this
        simp only
        omega
    · split
      · rename_i h
        have hh := h.1
        unfold hasAt at hh
        rw [decide_eq_true_eq] at hh
        exact (mergeL_len M L (y - B).toNat (by omega)).2
      · simp
set_option maxHeartbeats 6400000 in
set_option maxRecDepth 100000 in
/-- .. at a place that there is not. -/
theorem does_neg (h : LogAt w b B T L Φ) (hr : SRd enC w (fun k => ¬ Φ k) A n c L) (h0 : 0 ≤ B) (h1 : B ≤ 4611686018427387904) (hn : n < 800000) {p : OpM} (hM : WRd enC w (fun k => ¬ Φ k) p.A p.n p.c p.M) (hm : p.n < 100000) (k1 : p.kind = 1) (hy : p.at_ < 0) :
    Calls Try.prog 17 #[.pointer (some ⟨b, 0, none⟩), rlV B T A n c, .agg #[.int .i64 p.kind, .int .i64 p.at_, .int .i64 p.term, .slice p.A p.n p.c]] w (DoesSaid w b Φ B T L) := by
  obtain ⟨W, hW, hbW, hWs, hblk⟩ := dbox_ex w B T A n c p
  have hlen := hr.len
  have HBD := Lib.hid h.bnd
  have HLA : Hid (∀ V Ψ, LogAt V b B T L Ψ → Calls Try.prog 16 #[.pointer (some ⟨b, 0, none⟩)] V fun e w' => e = .returned (.int .i64 (B + n)) ∧ Below V.heap.size V w') := Lib.hid fun V Ψ hl => by
    have := Last_any hl h0 h1 (by omega)
    rw [hlen] at this
    refine this.mono ?_
    rintro e w' ⟨rfl, q, rfl⟩
    exact ⟨rfl, (Chg.drewN (Φ := fun _ => False) V q).below (Nat.le_refl _) fun _ h => h.elim⟩
  have HBX : Hid (∀ V, Below W.heap.size W V → DBox w V B T A n c p) := Lib.hid fun V hb => (hblk.keep (Ψ := fun _ => False) (Chg.of_below hb) fun _ h => h.elim).box
  have HLW := Lib.hid (HLA.out W Φ (h.later hbW))
  have HOF : Hid (∀ V, Below W.heap.size W V → Calls Try.prog 25 #[.slice p.A p.n p.c] V fun e wO => ∃ A' c', e = .returned (.slice A' p.n c') ∧ wO.cell? ⟨w.heap.size + 1, 1, none⟩ = some (.int .i64 p.at_) ∧ wO.cell? ⟨w.heap.size + 1, 2, none⟩ = some (.int .i64 p.term) ∧ wO.cell? ⟨w.heap.size + 1, 3, none⟩ = some (.slice p.A p.n p.c) ∧ Below W.heap.size W wO ∧ Hid (SRd enC wO (fun k => ¬ Φ k) A' p.n c' p.M)) := Lib.hid fun V hb => by
    refine (Of_any ((hM.below hbW).below hb) (by omega)).mono ?_
    rintro e wO ⟨A', c', rfl, hmk⟩
    have hb2 := hb.trans (hmk.bel.mono hb.size)
    have hx := HBX.out wO hb2
    have hbs := hb.size
    refine ⟨A', c', by rw [hM.len], hx.o1, hx.o2, hx.o3, hb2, Lib.hid ?_⟩
    rw [hM.len] at hmk
    exact hmk.rd fun k hk e => by have := HBD.out k e; omega
  have HME : Hid (∀ wO A' c', Below W.heap.size W wO → SRd enC wO (fun k => ¬ Φ k) A' p.n c' p.M → Calls Try.prog 24 #[.pointer (some ⟨b, 0, none⟩), .int .i64 p.at_, .int .i64 p.term, .slice A' p.n c'] wO fun e w6 => e = .returned (.tuple #[.int .i64 0, .bool false]) ∧ w6.cell? ⟨w.heap.size + 1, 1, none⟩ = some (.int .i64 p.at_) ∧ w6.cell? ⟨w.heap.size + 1, 2, none⟩ = some (.int .i64 p.term) ∧ w6.cell? ⟨w.heap.size + 1, 3, none⟩ = some (.slice p.A p.n p.c) ∧ w6.cell? ⟨w.heap.size, 0, none⟩ = some (.int .i64 B) ∧ w6.cell? ⟨w.heap.size, 1, none⟩ = some (.int .i64 T) ∧ w6.cell? ⟨w.heap.size, 2, none⟩ = some (.slice A n c) ∧ Hid (Left wO b B T L Φ w6 ∧ DBlk w w6 B T A n c p)) := Lib.hid fun wO A' c' hb hs => by
    refine (Merge_neg (h.later (hbW.trans (hb.mono hbW.size))) hy p.term).mono ?_
    rintro e w6 ⟨rfl, Φ', l1, l2⟩
    have hblkO : DBlk w wO B T A n c p := hblk.keep (Ψ := fun _ => False) (Chg.of_below hb) fun _ h => h.elim
    have hblk6 := hblkO.keep l2.chg fun k hk => .inl (HBD.out k hk)
    have hx := hblk6.box
    exact ⟨rfl, hx.o1, hx.o2, hx.o3, hx.b0, hx.b1, hx.b2, Lib.hid ⟨⟨Φ', l1, l2⟩, hblk6⟩⟩
  have HEND : Hid (∀ wO w6, Below W.heap.size W wO → Left wO b B T L Φ w6 ∧ DBlk w w6 B T A n c p → Calls Try.prog 16 #[.pointer (some ⟨b, 0, none⟩)] w6.drew fun e w8 => e = .returned (.int .i64 (B + n)) ∧ w8.cell? ⟨w.heap.size, 0, none⟩ = some (.int .i64 B) ∧ w8.cell? ⟨w.heap.size, 1, none⟩ = some (.int .i64 T) ∧ w8.cell? ⟨w.heap.size, 2, none⟩ = some (.slice A n c) ∧
      Hid (DBox w w8 B T A n c p ∧ DFin w (dfin w w8 B T A n c) b Φ B T A n c L ∧ ((dfin w w8 B T A n c).cell? ⟨w.heap.size, 0, none⟩ = some (.int .i64 B) ∧ (dfin w w8 B T A n c).cell? ⟨w.heap.size, 1, none⟩ = some (.int .i64 T) ∧ (dfin w w8 B T A n c).cell? ⟨w.heap.size, 2, none⟩ = some (.slice A n c)))) := Lib.hid fun wO w6 hb ⟨hl, hk6⟩ => by
    obtain ⟨Φ', l1, l2⟩ := hl
    have hbd : Below w6.heap.size w6 w6.drew := (Below.refl _ _).drew
    refine (HLA.out w6.drew Φ' (l1.later hbd)).mono ?_
    rintro e w8 ⟨rfl, hb8⟩
    have hb68 : Below w6.heap.size w6 w8 := hbd.trans hb8
    have hl8 : Left wO b B T L Φ w8 := Left.below ⟨Φ', l1, l2⟩ hb68
    have hbwO := hbW.trans (hb.mono hbW.size)
    have hblkO : DBlk w wO B T A n c p := hblk.keep (Ψ := fun _ => False) (Chg.of_below hb) fun _ h => h.elim
    have hbs := hb.size
    obtain ⟨q1, q2, q3⟩ := d_end hbwO (by omega) HBD.out hblkO (((hr.mono (Ψ' := fun k => ¬ Φ k ∧ k ≠ w.heap.size + 2) fun k hk hp => ⟨hp, by omega⟩).below hbW).below hb) hl8
    have hk8 : DBlk w w8 B T A n c p := hk6.keep (Ψ := fun _ => False) (Chg.of_below hb68) fun _ h => h.elim
    have h5 := three_cells ((chg_three w8 (w.heap.size + 2) (.int .i64 B) (.int .i64 T) (.slice A n c)).heap hk8.k0 (by omega))
    exact ⟨rfl, q1.b0, q1.b1, q1.b2, Lib.hid ⟨q1, q2, h5.1, h5.2.1, h5.2.2.1⟩⟩
  obtain ⟨b0, b1, b2, o0, o1, o2, o3, r0, r1, r2, f0, g0, g1, g2⟩ := hblk.box
  have HW := Lib.hid hW
  have HB0 : Hid (∀ V, Below W.heap.size W V → Below W.heap.size W V.drew) := Lib.hid fun V hb => hb.drew
  have d0 : (p.kind == 0) = false := by rw [k1]; rfl
  have d1 : (p.kind == 1) = true := by rw [k1]; rfl
  clear h hr hbW hWs hblk hW k1 hM hlen HLA
  unfold dbox at HW
  unfold rlV
  obtain ⟨kd, y, tm, Ap, np, cp, M⟩ := p
  dsimp only at *
  go_enter Try.func17, Try.ntmps17
  go_upto_region 1 with fail
  rw [← HW.out]
  go_upto_region 13 with (go_at_call 16; refine HLW.out.mono ?_; rintro e w2 ⟨rfl, hb⟩; have HB2 := Lib.hid hb; obtain ⟨b0, b1, b2, o0, o1, o2, o3, r0, r1, r2, f0, g0, g1, g2⟩ := HBX.out w2 hb; clear hb)
  clear b0 b1 b2 o0 r0 r1 r2 f0 g0 g1 g2
  have HB3 := Lib.hid (HB0.out w2 HB2.out)
  go_region_held3 (fun w' => w'.cell? ⟨w.heap.size + 1, 1, none⟩ = some (.int .i64 y) ∧ w'.cell? ⟨w.heap.size + 1, 2, none⟩ = some (.int .i64 tm) ∧ w'.cell? ⟨w.heap.size + 1, 3, none⟩ = some (.slice Ap np cp))
    (first | exact ⟨by assumption, by assumption, by assumption⟩ | exact ⟨o1, o2, o3⟩)
    (first
      | (go_at_call 25; refine (HOF.out _ (by first | assumption | exact HB3.out)).mono ?_; intro e wO hh; obtain ⟨A', c', rfl, s1, s2, s3, hbO, HSO⟩ := hh)
      | (go_at_call 24; refine (HME.out wO A' c' hbO HSO.out).mono ?_; rintro e w6 ⟨rfl, u1, u2, u3, v0, v1, v2, HL6⟩))
  all_goals
    go_wp2_with fail
    have HC := Lib.hid (HEND.out wO w6 hbO HL6.out)
    clear u1 u2 u3 HEND HSO HL6
    go_region_held3 (fun w' => w'.cell? ⟨w.heap.size, 0, none⟩ = some (.int .i64 B) ∧ w'.cell? ⟨w.heap.size, 1, none⟩ = some (.int .i64 T) ∧ w'.cell? ⟨w.heap.size, 2, none⟩ = some (.slice A n c))
      (first | exact ⟨by assumption, by assumption, by assumption⟩ | exact hS4 | exact ⟨v0, v1, v2⟩)
      ((go_at_call 16; refine HC.out.mono ?_; rintro e w8 ⟨rfl, z0, z1, z2, HX⟩; obtain ⟨bx, fx, hS4⟩ := HX.out; unfold dfin at hS4; obtain ⟨b0, b1, b2, o0, o1, o2, o3, r0, r1, r2, f0, g0, g1, g2⟩ := bx; obtain ⟨q0, q1, q2, HX2⟩ := fx; unfold dfin at q0 q1 q2 HX2; have HX3 := Lib.hid HX2; clear HX2))
    all_goals
      go_wp2_with fail
      exact bodyPost_ret (v := .tuple #[.agg #[.int .i64 B, .int .i64 T, .slice A n c], .bool true]) (by simp [results, Try.results17, go_sem, q0, q1, q2]) rfl HX3.out
set_option maxHeartbeats 6400000 in
set_option maxRecDepth 100000 in
theorem does_merge (h : LogAt w b B T L Φ) (hr : SRd enC w (fun k => ¬ Φ k) A n c L) (h0 : 0 ≤ B) (h1 : B ≤ 4611686018427387904) (hn : n < 800000) {p : OpM} (hia : I64 p.at_) (hM : WRd enC w (fun k => ¬ Φ k) p.A p.n p.c p.M) (hm : p.n < 100000) (k1 : p.kind = 1) (hy : 0 ≤ p.at_) :
    Calls Try.prog 17 #[.pointer (some ⟨b, 0, none⟩), rlV B T A n c, .agg #[.int .i64 p.kind, .int .i64 p.at_, .int .i64 p.term, .slice p.A p.n p.c]] w (DoesSaid w b Φ B T (mergeF B T L p.at_ p.term p.M).1) := by
  obtain ⟨W, hW, hbW, hWs, hblk⟩ := dbox_ex w B T A n c p
  have hlen := hr.len
  have HBD := Lib.hid h.bnd
  have hr' : SRd enC w (fun k => ¬ Φ k ∧ k < w.heap.size) A n c L := hr.mono fun k hk hp => ⟨hp, hk⟩
  have HRM : Hid (Calls Try.prog 31 #[.agg #[.int .i64 B, .int .i64 T, .slice A n c], .int .i64 p.at_, .int .i64 p.term, .slice p.A p.n p.c] W fun e w2 => ∃ A2 n2 c2, e = .returned (.tuple #[.agg #[.int .i64 B, .int .i64 T, .slice A2 n2 c2], .int .i64 (mergeF B T L p.at_ p.term p.M).2.1, .bool (mergeF B T L p.at_ p.term p.M).2.2]) ∧ Hid (SRd enC w2 (fun k => ¬ Φ k ∧ k ≠ w.heap.size + 2) A2 n2 c2 (mergeF B T L p.at_ p.term p.M).1 ∧ Below W.heap.size W w2)) := Lib.hid (by
    refine (RMerge_any (T := T) (hr'.below hbW) h0 h1 (by omega) (hM.below hbW) hm hy hia p.term).mono ?_
    rintro e w2 ⟨A2, n2, c2, rfl, hs, hb⟩
    refine ⟨A2, n2, c2, rfl, Lib.hid ⟨hs.mono fun k hk hp => ?_, hb⟩⟩
    rcases hp with hp | hp
    · exact ⟨hp.1, by omega⟩
    · exact ⟨fun e => by have := HBD.out k e; omega, by omega⟩)
  have HOF : Hid (∀ V, Below W.heap.size W V → Calls Try.prog 25 #[.slice p.A p.n p.c] V fun e wO => ∃ A' c', e = .returned (.slice A' p.n c') ∧ wO.cell? ⟨w.heap.size + 1, 1, none⟩ = some (.int .i64 p.at_) ∧ wO.cell? ⟨w.heap.size + 1, 2, none⟩ = some (.int .i64 p.term) ∧ wO.cell? ⟨w.heap.size + 1, 3, none⟩ = some (.slice p.A p.n p.c) ∧ Below V.heap.size V wO ∧ Hid (SRd enC wO (fun k => ¬ Φ k) A' p.n c' p.M)) := Lib.hid fun V hb => by
    refine (Of_any ((hM.below hbW).below hb) (by omega)).mono ?_
    rintro e wO ⟨A', c', rfl, hmk⟩
    have hb2 := hb.trans (hmk.bel.mono hb.size)
    have hx := (hblk.keep (Ψ := fun _ => False) (Chg.of_below hb2) fun _ h => h.elim).box
    have hbs := hb.size
    refine ⟨A', c', by rw [hM.len], hx.o1, hx.o2, hx.o3, hmk.bel, Lib.hid ?_⟩
    rw [hM.len] at hmk
    exact hmk.rd fun k hk e => by have := HBD.out k e; omega
  have HEND : Hid (∀ w2 A2 n2 c2, SRd enC w2 (fun k => ¬ Φ k ∧ k ≠ w.heap.size + 2) A2 n2 c2 (mergeF B T L p.at_ p.term p.M).1 ∧ Below W.heap.size W w2 → ∀ V, V = (w2.alloc (.cells #[.int .i64 B, .int .i64 T, .slice A2 n2 c2] 29)) →
      DBox w w2 B T A n c p ∧ DBox w V B T A n c p ∧ Below W.heap.size W V ∧
      ∀ wO A' c', Below V.heap.size V wO → SRd enC wO (fun k => ¬ Φ k) A' p.n c' p.M → Calls Try.prog 24 #[.pointer (some ⟨b, 0, none⟩), .int .i64 p.at_, .int .i64 p.term, .slice A' p.n c'] wO fun e w6 => e = .returned (.tuple #[.int .i64 (mergeF B T L p.at_ p.term p.M).2.1, .bool (mergeF B T L p.at_ p.term p.M).2.2]) ∧ w6.cell? ⟨w.heap.size + 1, 1, none⟩ = some (.int .i64 p.at_) ∧ w6.cell? ⟨w.heap.size + 1, 2, none⟩ = some (.int .i64 p.term) ∧ w6.cell? ⟨w.heap.size + 1, 3, none⟩ = some (.slice p.A p.n p.c) ∧
        Hid (w6.cell? ⟨w2.heap.size, 0, none⟩ = some (.int .i64 B) ∧ w6.cell? ⟨w2.heap.size, 1, none⟩ = some (.int .i64 T) ∧ w6.cell? ⟨w2.heap.size, 2, none⟩ = some (.slice A2 n2 c2) ∧ DBox w w6 B T A n c p ∧ DFin w (dfin w w6 B T A2 n2 c2) b Φ B T A2 n2 c2 (mergeF B T L p.at_ p.term p.M).1)) := Lib.hid fun w2 A2 n2 c2 ⟨hs, hb⟩ V hV => by
    have hbV : Below W.heap.size W V := by rw [hV]; exact hb.alloc hb.size _
    have hblk2 : DBlk w w2 B T A n c p := hblk.keep (Ψ := fun _ => False) (Chg.of_below hb) fun _ h => h.elim
    have hblkV : DBlk w V B T A n c p := hblk.keep (Ψ := fun _ => False) (Chg.of_below hbV) fun _ h => h.elim
    have h3 : V.heap[w2.heap.size]? = some (.cells #[.int .i64 B, .int .i64 T, .slice A2 n2 c2] 29 (0, 0)) := by rw [hV]; exact heap_alloc_new _ _
    have hszV : V.heap.size = w2.heap.size + 1 := by rw [hV]; simp
    have hsrV : SRd enC V (fun k => ¬ Φ k ∧ k ≠ w.heap.size + 2) A2 n2 c2 (mergeF B T L p.at_ p.term p.M).1 := by
      rw [hV]
      exact hs.below ((Below.refl _ _).alloc (Nat.le_refl _) _)
    refine ⟨hblk2.box, hblkV.box, hbV, fun wO A' c' hbO hsO => ?_⟩
    have hbWO : Below w.heap.size w wO := (hbW.trans (hbV.mono hbW.size)).trans (hbO.mono (by have := hbW.size; have := hbV.size; omega))
    refine (Merge_any (h.later hbWO) h0 h1 (by omega) hsO hm hia p.term).mono ?_
    rintro e w6 ⟨rfl, hl⟩
    have hblkO : DBlk w wO B T A n c p := hblkV.keep (Ψ := fun _ => False) (Chg.of_below hbO) fun _ h => h.elim
    have hb2 := hb.size
    have hbOs := hbO.size
    obtain ⟨q1, q2, q3⟩ := d_end hbWO (by omega) HBD.out hblkO (hsrV.below hbO) hl
    have h4 := three_cells (q3.heap (k := w2.heap.size) ((hbO.block _ (by omega)).trans h3) fun e => by have := HBD.out _ e; omega)
    exact ⟨rfl, q1.o1, q1.o2, q1.o3, Lib.hid ⟨h4.1, h4.2.1, h4.2.2.1, q1, q2⟩⟩
  obtain ⟨b0, b1, b2, o0, o1, o2, o3, r0, r1, r2, f0, g0, g1, g2⟩ := hblk.box
  have HW := Lib.hid hW
  have d0 : (p.kind == 0) = false := by rw [k1]; rfl
  have d1 : (p.kind == 1) = true := by rw [k1]; rfl
  have d2 : ¬ p.at_ < 0 := by omega
  clear h hr hr' hbW hWs hblk hW k1 hM hlen
  unfold dbox at HW
  unfold rlV
  generalize (mergeF B T L p.at_ p.term p.M).1 = L1 at *
  generalize (mergeF B T L p.at_ p.term p.M).2.1 = n1 at *
  generalize (mergeF B T L p.at_ p.term p.M).2.2 = q1 at *
  obtain ⟨kd, y, tm, Ap, np, cp, M⟩ := p
  dsimp only at *
  have e5 : (n1 == n1) = true := beq_self_eq_true _
  have e6 : (q1 == q1) = true := beq_self_eq_true _
  go_enter Try.func17, Try.ntmps17
  go_upto_region 1 with fail
  rw [← HW.out]
  go_upto_region 16 with (go_at_call 31; refine HRM.out.mono ?_; intro e w2 hh; obtain ⟨A2, n2, c2, rfl, HS⟩ := hh; obtain ⟨hbx, _⟩ := HEND.out w2 A2 n2 c2 HS.out _ rfl; obtain ⟨b0, b1, b2, o0, o1, o2, o3, r0, r1, r2, f0, g0, g1, g2⟩ := hbx)
  obtain ⟨V, hV⟩ : ∃ V, V = (w2.alloc (.cells #[.int .i64 B, .int .i64 T, .slice A2 n2 c2] 29)) := ⟨_, rfl⟩
  obtain ⟨_, hbV, hbWV, hcall⟩ := HEND.out w2 A2 n2 c2 HS.out V hV
  rw [← hV]
  have HC := Lib.hid hcall
  have v1 := hbV.o1
  have v2 := hbV.o2
  have v3 := hbV.o3
  have HBV := Lib.hid hbWV
  have HB3 : Hid (Below W.heap.size W V.drew ∧ Below V.heap.size V V.drew) := Lib.hid ⟨HBV.out.drew, (Below.refl _ _).drew⟩
  have HOF2 : Hid (Calls Try.prog 25 #[.slice Ap np cp] V.drew fun e wO => ∃ A' c', e = .returned (.slice A' np c') ∧ wO.cell? ⟨w.heap.size + 1, 1, none⟩ = some (.int .i64 y) ∧ wO.cell? ⟨w.heap.size + 1, 2, none⟩ = some (.int .i64 tm) ∧ wO.cell? ⟨w.heap.size + 1, 3, none⟩ = some (.slice Ap np cp) ∧ Below V.heap.size V wO ∧ Hid (SRd enC wO (fun k => ¬ Φ k) A' np c' M)) := Lib.hid ((HOF.out V.drew HB3.out.1).mono (by
    rintro e wO ⟨A', c', rfl, s1, s2, s3, hb, hs⟩
    exact ⟨A', c', rfl, s1, s2, s3, HB3.out.2.trans hb, hs⟩))
  clear hcall hbV hbWV hV HEND HS HOF b0 b1 b2 o0 o1 o2 o3 r0 r1 r2 f0 g0 g1 g2
  go_region_held3 (fun w' => w'.cell? ⟨w.heap.size + 1, 1, none⟩ = some (.int .i64 y) ∧ w'.cell? ⟨w.heap.size + 1, 2, none⟩ = some (.int .i64 tm) ∧ w'.cell? ⟨w.heap.size + 1, 3, none⟩ = some (.slice Ap np cp))
    (first | exact ⟨by assumption, by assumption, by assumption⟩ | exact ⟨v1, v2, v3⟩)
    (first
      | (go_at_call 25; refine HOF2.out.mono ?_; intro e wO hh; obtain ⟨A', c', rfl, s1, s2, s3, hbO, HSO⟩ := hh)
      | (go_at_call 24; refine (HC.out wO A' c' hbO HSO.out).mono ?_; rintro e w6 ⟨rfl, u1, u2, u3, HX⟩))
  all_goals
    obtain ⟨t0, t1, t2, bx, fx⟩ := HX.out
    obtain ⟨b0, b1, b2, o0, o1, o2, o3, r0, r1, r2, f0, g0, g1, g2⟩ := bx
    obtain ⟨q0, q1, q2, HX2⟩ := fx
    unfold dfin at q0 q1 q2 HX2
    have HX3 := Lib.hid HX2
    clear HX2
    go_wp2_with fail
    exact bodyPost_ret (v := .tuple #[.agg #[.int .i64 B, .int .i64 T, .slice A2 n2 c2], .bool true]) (by simp [results, Try.results17, go_sem, q0, q1, q2]) rfl HX3.out
end
end Go.Proofs.Ytmmddkddjiodbaa
