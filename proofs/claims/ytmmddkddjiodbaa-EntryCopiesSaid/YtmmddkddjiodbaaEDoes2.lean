/- What is proved here: the laws' does: Pass and Merge. -/
import Derived.Test.YtmmddkddjiodbaaEDoes
namespace Go.Proofs.Ytmmddkddjiodbaa
open Go Go.RowKit Go.Maps Go.WideMaps

section
variable {w : World} {b : Nat} {B T : Int} {A : Option Addr} {n c : Nat} {L : List En} {Φ : Nat → Prop}
theorem d_end {V0 w4 : World} {p : OpM} {B' T' : Int} {A2 : Option Addr} {n2 c2 : Nat} {L' : List En} (hb : Below w.heap.size w V0) (hs : w.heap.size + 3 ≤ V0.heap.size) (hΦ : ∀ k, Φ k → k < w.heap.size) (hblk : DBlk w V0 B T A n c p)
    (hr : SRd enC V0 (fun k => ¬ Φ k ∧ k ≠ w.heap.size + 2) A2 n2 c2 L') (hl : Left V0 b B' T' L' Φ w4) :
    DBox w w4 B T A n c p ∧ DFin w (dfin w w4 B' T' A2 n2 c2) b Φ B' T' A2 n2 c2 L' ∧ Chg Φ V0 w4 := by
  obtain ⟨Φ', h1, h2, h3⟩ := Left.off (w := w) hs (fun k hk => .inl (hΦ k hk)) hl
  have hblk4 := hblk.keep h2.chg fun k hk => .inl (hΦ k hk)
  refine ⟨hblk4.box, dfin_of h1 ((Nxt.of_below hb).trans h2) h3 hblk4.k2 (hr.keep h2.chg (fun k hk => hk.1) fun k hk hp => ⟨fun e => hp.1 (h2.old k hk e), hp.2⟩), h2.chg⟩
def passR (B T : Int) (L : List En) (k : Int) : Int × Int × List En × Int := if hasAt B L k = true then (k, termAt B T L k, L.drop (k - B).toNat, 0) else (B, T, L, 1)
set_option maxHeartbeats 3200000 in
set_option maxRecDepth 100000 in
theorem does_pass (h : LogAt w b B T L Φ) (hr : SRd enC w (fun k => ¬ Φ k) A n c L) (h0 : 0 ≤ B) (h1 : B ≤ 4611686018427387904) (hn : n < 800000) {p : OpM} (hia : I64 p.at_) (k2 : p.kind = 2) :
    Calls Try.prog 17 #[.pointer (some ⟨b, 0, none⟩), rlV B T A n c, .agg #[.int .i64 p.kind, .int .i64 p.at_, .int .i64 p.term, .slice p.A p.n p.c]] w (DoesSaid w b Φ (passR B T L p.at_).1 (passR B T L p.at_).2.1 (passR B T L p.at_).2.2.1) := by
  obtain ⟨W, hW, hbW, hWs, hblk⟩ := dbox_ex w B T A n c p
  have hlen := hr.len
  have hr' : SRd enC w (fun k => ¬ Φ k ∧ k < w.heap.size) A n c L := hr.mono fun k hk hp => ⟨hp, hk⟩
  have hRP : Calls Try.prog 32 #[.agg #[.int .i64 B, .int .i64 T, .slice A n c], .int .i64 p.at_] W fun e w2 => ∃ A2 n2 c2, e = .returned (.tuple #[.agg #[.int .i64 (passR B T L p.at_).1, .int .i64 (passR B T L p.at_).2.1, .slice A2 n2 c2], .int .i64 (passR B T L p.at_).2.2.2]) ∧ Hid (SRd enC w2 (fun k => ¬ Φ k ∧ k ≠ w.heap.size + 2) A2 n2 c2 (passR B T L p.at_).2.2.1 ∧ Below W.heap.size W w2) := by
    have hq := RPass_any (T := T) (hr'.below hbW) h0 h1 (by omega) hia
    have hm : ∀ k, k < W.heap.size → False ∨ True := fun _ _ => .inr trivial
    unfold passR
    by_cases hh : hasAt B L p.at_ = true
    · rw [if_pos hh] at hq ⊢
      refine hq.mono ?_
      rintro e w2 ⟨A2, n2, c2, rfl, hs, hb⟩
      refine ⟨A2, n2, c2, rfl, Lib.hid ⟨hs.mono fun k hk hp => ?_, hb⟩⟩
      rcases hp with hp | hp
      · exact ⟨hp.1, by omega⟩
      · exact ⟨fun e => by have := h.bnd k e; omega, by omega⟩
    · rw [if_neg hh] at hq ⊢
      refine hq.mono ?_
      rintro e w2 ⟨A2, n2, c2, rfl, hs, hb⟩
      refine ⟨A2, n2, c2, rfl, Lib.hid ⟨hs.mono fun k hk hp => ?_, hb⟩⟩
      rcases hp with hp | hp
      · exact ⟨hp.1, by omega⟩
      · exact ⟨fun e => by have := h.bnd k e; omega, by omega⟩
  have HLP : Hid (∀ V, Below w.heap.size w V → Calls Try.prog 15 #[.pointer (some ⟨b, 0, none⟩), .int .i64 p.at_] V fun e w' => e = .returned (.int .i64 (passR B T L p.at_).2.2.2) ∧ Left V b (passR B T L p.at_).1 (passR B T L p.at_).2.1 (passR B T L p.at_).2.2.1 Φ w') := Lib.hid fun V hb => by
    unfold passR
    cases hh : hasAt B L p.at_ with
    | true =>
      rw [if_pos rfl]
      exact Pass_ok (h.later hb) h0 h1 (by omega) hh
    | false =>
      rw [if_neg (by simp)]
      exact Pass_bad (h.later hb) h0 h1 (by omega) hia hh
  have HRP := Lib.hid hRP
  have HEND : Hid (∀ w2 A2 n2 c2, SRd enC w2 (fun k => ¬ Φ k ∧ k ≠ w.heap.size + 2) A2 n2 c2 (passR B T L p.at_).2.2.1 ∧ Below W.heap.size W w2 → ∀ V, V = (w2.alloc (.cells #[.int .i64 (passR B T L p.at_).1, .int .i64 (passR B T L p.at_).2.1, .slice A2 n2 c2] 29)) →
      DBox w w2 B T A n c p ∧ DBox w V B T A n c p ∧ V.cell? ⟨w2.heap.size, 0, none⟩ = some (.int .i64 (passR B T L p.at_).1) ∧ V.cell? ⟨w2.heap.size, 1, none⟩ = some (.int .i64 (passR B T L p.at_).2.1) ∧ V.cell? ⟨w2.heap.size, 2, none⟩ = some (.slice A2 n2 c2) ∧
      ∀ V1, V1 = V.drew → Calls Try.prog 15 #[.pointer (some ⟨b, 0, none⟩), .int .i64 p.at_] V1 fun e w4 => e = .returned (.int .i64 (passR B T L p.at_).2.2.2) ∧ w4.cell? ⟨w2.heap.size, 0, none⟩ = some (.int .i64 (passR B T L p.at_).1) ∧ w4.cell? ⟨w2.heap.size, 1, none⟩ = some (.int .i64 (passR B T L p.at_).2.1) ∧ w4.cell? ⟨w2.heap.size, 2, none⟩ = some (.slice A2 n2 c2) ∧ w4.cell? ⟨w.heap.size + 1, 1, none⟩ = some (.int .i64 p.at_) ∧
        Hid (DBox w w4 B T A n c p ∧ DFin w (dfin w w4 (passR B T L p.at_).1 (passR B T L p.at_).2.1 A2 n2 c2) b Φ (passR B T L p.at_).1 (passR B T L p.at_).2.1 A2 n2 c2 (passR B T L p.at_).2.2.1 ∧ ((dfin w w4 (passR B T L p.at_).1 (passR B T L p.at_).2.1 A2 n2 c2).cell? ⟨w2.heap.size, 0, none⟩ = some (.int .i64 (passR B T L p.at_).1) ∧ (dfin w w4 (passR B T L p.at_).1 (passR B T L p.at_).2.1 A2 n2 c2).cell? ⟨w2.heap.size, 1, none⟩ = some (.int .i64 (passR B T L p.at_).2.1) ∧ (dfin w w4 (passR B T L p.at_).1 (passR B T L p.at_).2.1 A2 n2 c2).cell? ⟨w2.heap.size, 2, none⟩ = some (.slice A2 n2 c2) ∧ (dfin w w4 (passR B T L p.at_).1 (passR B T L p.at_).2.1 A2 n2 c2).cell? ⟨w.heap.size + 1, 1, none⟩ = some (.int .i64 p.at_)))) := Lib.hid fun w2 A2 n2 c2 ⟨hs, hb⟩ V hV => by
    have hbV : Below W.heap.size W V := by rw [hV]; exact hb.alloc hb.size _
    have hblk2 : DBlk w w2 B T A n c p := hblk.keep (Ψ := fun _ => False) (Chg.of_below hb) fun _ h => h.elim
    have hblkV : DBlk w V B T A n c p := hblk.keep (Ψ := fun _ => False) (Chg.of_below hbV) fun _ h => h.elim
    have h3 : V.heap[w2.heap.size]? = some (.cells #[.int .i64 (passR B T L p.at_).1, .int .i64 (passR B T L p.at_).2.1, .slice A2 n2 c2] 29 (0, 0)) := by rw [hV]; exact heap_alloc_new _ _
    have x3 := three_cells h3
    refine ⟨hblk2.box, hblkV.box, x3.1, x3.2.1, x3.2.2.1, fun V1 hV1 => ?_⟩
    have hbw1 : Below w.heap.size w V1 := by rw [hV1]; exact (hbW.trans (hbV.mono hbW.size)).drew
    refine (HLP.out V1 hbw1).mono ?_
    rintro e w4 ⟨rfl, hl⟩
    have hb2 := hb.size
    have hszV : V.heap.size = w2.heap.size + 1 := by rw [hV]; simp
    have hsrV : SRd enC V1 (fun k => ¬ Φ k ∧ k ≠ w.heap.size + 2) A2 n2 c2 (passR B T L p.at_).2.2.1 := by
      rw [hV1, hV]
      exact hs.below (((Below.refl _ _).alloc (Nat.le_refl _) _).drew)
    have hblk1 : DBlk w V1 B T A n c p := by rw [hV1]; exact hblkV.keep (Ψ := fun _ => False) (Chg.drew _) fun _ h => h.elim
    obtain ⟨q1, q2, q3⟩ := d_end hbw1 (by rw [hV1]; show w.heap.size + 3 ≤ V.heap.size; omega) h.bnd hblk1 hsrV hl
    have h4 := three_cells (q3.heap (k := w2.heap.size) (by rw [hV1]; exact h3) fun e => by have := h.bnd _ e; omega)
    have hb4 := q3.heap (k := w2.heap.size) (by rw [hV1]; exact h3) fun e => by have := h.bnd _ e; omega
    have hc5 := chg_three w4 (w.heap.size + 2) (.int .i64 (passR B T L p.at_).1) (.int .i64 (passR B T L p.at_).2.1) (.slice A2 n2 c2)
    have h5 := three_cells (hc5.heap hb4 (by show ¬ w2.heap.size = w.heap.size + 2; omega))
    have h6 : (dfin w w4 (passR B T L p.at_).1 (passR B T L p.at_).2.1 A2 n2 c2).cell? ⟨w.heap.size + 1, 1, none⟩ = some (.int .i64 p.at_) := (hc5.cell (p := ⟨w.heap.size + 1, 1, none⟩) (by have := q3.size; rw [hV1] at this; show w.heap.size + 1 < w4.heap.size; have h7 : V.drew.heap.size = V.heap.size := rfl; omega) (by show ¬ w.heap.size + 1 = w.heap.size + 2; omega)).trans q1.o1
    exact ⟨rfl, h4.1, h4.2.1, h4.2.2.1, q1.o1, Lib.hid ⟨q1, q2, h5.1, h5.2.1, h5.2.2.1, h6⟩⟩
  obtain ⟨b0, b1, b2, o0, o1, o2, o3, r0, r1, r2, f0, g0, g1, g2⟩ := hblk.box
  have HW := Lib.hid hW
  have d0 : (p.kind == 0) = false := by rw [k2]; rfl
  have d1 : (p.kind == 1) = false := by rw [k2]; rfl
  have d2 : (p.kind == 2) = true := by rw [k2]; rfl
  clear h hr hbW hWs hblk hW k2 HLP hRP hr' hlen
  unfold dbox at HW
  unfold rlV
  generalize (passR B T L p.at_).1 = B1 at *
  generalize (passR B T L p.at_).2.1 = T1 at *
  generalize (passR B T L p.at_).2.2.1 = L1 at *
  generalize (passR B T L p.at_).2.2.2 = q1 at *
  obtain ⟨kd, y, tm, Ap, np, cp, M⟩ := p
  dsimp only at *
  go_enter Try.func17, Try.ntmps17
  go_upto_region 1 with fail
  rw [← HW.out]
  go_upto_region 20 with (go_at_call 32; refine HRP.out.mono ?_; intro e w2 hh; obtain ⟨A2, n2, c2, rfl, HS⟩ := hh; obtain ⟨hbx, _⟩ := HEND.out w2 A2 n2 c2 HS.out _ rfl; obtain ⟨b0, b1, b2, o0, o1, o2, o3, r0, r1, r2, f0, g0, g1, g2⟩ := hbx)
  obtain ⟨V, hV⟩ : ∃ V, V = (w2.alloc (.cells #[.int .i64 B1, .int .i64 T1, .slice A2 n2 c2] 29)) := ⟨_, rfl⟩
  obtain ⟨_, hbV, t0, t1, t2, hcall⟩ := HEND.out w2 A2 n2 c2 HS.out V hV
  rw [← hV]
  have HC := Lib.hid (hcall V.drew rfl)
  have v1 := hbV.o1
  clear hcall hbV hV HEND HS b0 b1 b2 o0 o1 o2 o3 r0 r1 r2 f0 g0 g1 g2
  go_region_held3 (fun w' => w'.cell? ⟨w2.heap.size, 0, none⟩ = some (.int .i64 B1) ∧ w'.cell? ⟨w2.heap.size, 1, none⟩ = some (.int .i64 T1) ∧ w'.cell? ⟨w2.heap.size, 2, none⟩ = some (.slice A2 n2 c2) ∧ w'.cell? ⟨w.heap.size + 1, 1, none⟩ = some (.int .i64 y))
    (first | exact ⟨by assumption, by assumption, by assumption, by assumption⟩ | exact hS4 | exact ⟨t0, t1, t2, v1⟩)
    ((go_at_call 15; refine HC.out.mono ?_; rintro e w4 ⟨rfl, s0, s1, s2, s3, HX⟩; obtain ⟨bx, fx, hS4⟩ := HX.out; unfold dfin at hS4; obtain ⟨b0, b1, b2, o0, o1, o2, o3, r0, r1, r2, f0, g0, g1, g2⟩ := bx; obtain ⟨q0, q1, q2, HX2⟩ := fx; unfold dfin at q0 q1 q2 HX2; have HX3 := Lib.hid HX2; clear HX2))
  all_goals
    go_wp2_with fail
    exact bodyPost_ret (v := .tuple #[.agg #[.int .i64 B1, .int .i64 T1, .slice A2 n2 c2], .bool true]) (by simp [results, Try.results17, go_sem, q0, q1, q2]) rfl HX3.out
end
end Go.Proofs.Ytmmddkddjiodbaa
