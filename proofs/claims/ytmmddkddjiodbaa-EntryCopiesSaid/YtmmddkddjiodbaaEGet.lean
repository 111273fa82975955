/- What is proved here: what a log's Get and Term answer. -/
import Derived.Test.YtmmddkddjiodbaaELog
import Derived.Deep.DeepCutAuto
import Derived.StillTail
namespace Go.Proofs.Ytmmddkddjiodbaa
open Go Go.RowKit Go.Maps Go.WideMaps

theorem two_set {V : World} {R : Nat} {x y : Value} {t : TypeId} (h : V.heap[R]? = some (.cells #[x, y] t (0, 0))) (u v : Value) :
    ((V.setCell ⟨R, 0, none⟩ u).setCell ⟨R, 1, none⟩ v).cell? ⟨R, 0, none⟩ = some u ∧ ((V.setCell ⟨R, 0, none⟩ u).setCell ⟨R, 1, none⟩ v).cell? ⟨R, 1, none⟩ = some v := by
  have h1 := two_cells (two_set1 (two_set0 h u) v)
  exact ⟨h1.1, h1.2.1⟩
def I64 (n : Int) : Prop := -9223372036854775808 ≤ n ∧ n ≤ 9223372036854775807
section
variable {w : World} {b : Nat} {B T : Int} {L : List En} {Φ : Nat → Prop}
set_option maxHeartbeats 1600000 in
set_option maxRecDepth 100000 in
theorem Get_any (h : LogAt w b B T L Φ) (h0 : 0 ≤ B) (h1 : B ≤ 4611686018427387904) (hL : L.length < 1000000) {k : Int} (hk : I64 k) :
    Calls Try.prog 27 #[.pointer (some ⟨b, 0, none⟩), .int .i64 k] w fun e w' => e = .returned (.tuple #[enV (entAt B L k), .bool (isAt B L k)]) ∧ Below w.heap.size w w' := by
  unfold I64 at hk
  obtain ⟨A, n, c, h⟩ := h
  obtain ⟨W, hW⟩ : ∃ W, W = w.alloc (.cells #[.int .i64 0, .string ⟨#[]⟩] 36) := ⟨_, rfl⟩
  have hbW : Below w.heap.size w W := by rw [hW]; exact (Below.refl _ _).alloc (Nat.le_refl _) _
  have hW' := h.keep (Ψ := fun _ => False) (Chg.of_below hbW) fun _ _ => id
  obtain ⟨c0, c1, c2⟩ := hW'.cells
  have hres : W.heap[w.heap.size]? = some (.cells #[.int .i64 0, .string ⟨#[]⟩] 36 (0, 0)) := by rw [hW]; exact heap_alloc_new _ _
  obtain ⟨r0, r1, f0, f1⟩ := two_cells hres
  have hcap := h.row.caps
  have hln := h.len
  have hwr : b ≠ w.heap.size := by have := h.bnd b h.own; omega
  cases hq : isAt B L k with
  | false =>
    obtain ⟨hno, hz⟩ := isAt_none hq
    rw [hz]
    rw [hln] at hno
    have HE : Hid (∀ V, Below W.heap.size W V → ((V.setCell ⟨w.heap.size, 0, none⟩ (.int .i64 0)).setCell ⟨w.heap.size, 1, none⟩ (.string ⟨#[]⟩)).cell? ⟨w.heap.size, 0, none⟩ = some (.int .i64 0) ∧ ((V.setCell ⟨w.heap.size, 0, none⟩ (.int .i64 0)).setCell ⟨w.heap.size, 1, none⟩ (.string ⟨#[]⟩)).cell? ⟨w.heap.size, 1, none⟩ = some (.string ⟨#[]⟩) ∧ Below w.heap.size w ((V.setCell ⟨w.heap.size, 0, none⟩ (.int .i64 0)).setCell ⟨w.heap.size, 1, none⟩ (.string ⟨#[]⟩)) ∧ V.cell? ⟨w.heap.size, 0, none⟩ = some (.int .i64 0) ∧ V.cell? ⟨w.heap.size, 1, none⟩ = some (.string ⟨#[]⟩) ∧ V.frozen? ⟨w.heap.size, 0, none⟩ = false ∧ V.frozen? ⟨w.heap.size, 1, none⟩ = false) := Lib.hid fun V hb => by
      have h1 : w.heap.size < W.heap.size := by rw [hW]; simp
      have h2 := (hb.block _ h1).trans hres
      have h3 := two_set h2 (.int .i64 0) (.string ⟨#[]⟩)
      obtain ⟨r0, r1, f0, f1⟩ := two_cells h2
      exact ⟨h3.1, h3.2, ((hbW.trans (hb.mono hbW.size)).setCell (Nat.le_refl _) _).setCell (Nat.le_refl _) _, r0, r1, f0, f1⟩
    have HB0 : Hid (∀ q, Below W.heap.size W (W.drewN q)) := Lib.hid fun q => (Chg.drewN (Φ := fun _ => False) W q).below (Nat.le_refl _) fun _ h => h.elim
    have HW := Lib.hid hW
    have hno2 : decide (k ≤ B) = true ∨ (decide (k ≤ B) = false ∧ decide ((n : Int) < k - B) = true ∧ -9223372036854775808 ≤ k - B ∧ k - B ≤ 9223372036854775807) := by
      rcases Int.le_total k B with h2 | h2
      · exact .inl (decide_eq_true h2)
      · by_cases h3 : k = B
        · exact .inl (decide_eq_true (by omega))
        · exact .inr ⟨decide_eq_false (by omega), decide_eq_true (by omega), by omega, by omega⟩
    clear h hW' hW hbW hres r0 r1 f0 f1 hz hq hln hno
    unfold enV zeroE
    rcases hno2 with d1 | ⟨d1, d2, d3, d4⟩
    · go_enter Try.func27, Try.ntmps27
      go_upto_region 1 with fail
      rw [← HW.out]
      go_quiet (fail)
      obtain ⟨r0, r1, hb, s0, s1, f0, f1⟩ := HE.out _ (HB0.out nq)
      generalize W.drewN nq = V at *
      go_wp2_with fail
      exact bodyPost_ret (v := .tuple #[.agg #[.int .i64 0, .string ⟨#[]⟩], .bool false]) (by simp [results, Try.results27, go_sem, r0, r1]) rfl ⟨rfl, hb⟩
    · have hw2 : IntKind.i64.wrap (k - B) = k - B := IntWalk.i64_in _ (by omega)
      go_enter Try.func27, Try.ntmps27
      go_upto_region 1 with fail
      rw [← HW.out]
      go_quiet (fail)
      clear hw2
      obtain ⟨r0, r1, hb, s0, s1, f0, f1⟩ := HE.out _ (HB0.out nq)
      generalize W.drewN nq = V at *
      go_wp2_with fail
      exact bodyPost_ret (v := .tuple #[.agg #[.int .i64 0, .string ⟨#[]⟩], .bool false]) (by simp [results, Try.results27, go_sem, r0, r1]) rfl ⟨rfl, hb⟩
  | true =>
    obtain ⟨j, rfl, hx, hj⟩ := isAt_some hq
    rw [hln] at hj
    generalize entAt B L (B + 1 + j) = x at *
    have HE : Hid (∀ V, Below W.heap.size W V → ((V.setCell ⟨w.heap.size, 0, none⟩ (.int .i64 x.t)).setCell ⟨w.heap.size, 1, none⟩ (.string x.d)).cell? ⟨w.heap.size, 0, none⟩ = some (.int .i64 x.t) ∧ ((V.setCell ⟨w.heap.size, 0, none⟩ (.int .i64 x.t)).setCell ⟨w.heap.size, 1, none⟩ (.string x.d)).cell? ⟨w.heap.size, 1, none⟩ = some (.string x.d) ∧ Below w.heap.size w ((V.setCell ⟨w.heap.size, 0, none⟩ (.int .i64 x.t)).setCell ⟨w.heap.size, 1, none⟩ (.string x.d)) ∧ (V.cell? ⟨w.heap.size, 0, none⟩ = some (.int .i64 0) ∧ V.cell? ⟨w.heap.size, 1, none⟩ = some (.string ⟨#[]⟩) ∧ V.frozen? ⟨w.heap.size, 0, none⟩ = false ∧ V.frozen? ⟨w.heap.size, 1, none⟩ = false)) := Lib.hid fun V hb => by
      have h1 : w.heap.size < W.heap.size := by rw [hW]; simp
      have h2 := (hb.block _ h1).trans hres
      have h3 := two_set h2 (.int .i64 x.t) (.string x.d)
      obtain ⟨r0, r1, f0, f1⟩ := two_cells h2
      exact ⟨h3.1, h3.2, ((hbW.trans (hb.mono hbW.size)).setCell (Nat.le_refl _) _).setCell (Nat.le_refl _) _, r0, r1, f0, f1⟩
    obtain ⟨g, o, rfl, hg, hΦ, e0, e1⟩ := hW'.srd.en hx
    have HLG : Hid (∀ q, Below W.heap.size W (W.drewN q) ∧ (W.drewN q).cell? ⟨b, 0, none⟩ = some (.int .i64 B) ∧ (W.drewN q).cell? ⟨b, 2, none⟩ = some (.slice (some ⟨g, o, none⟩) n c) ∧ (W.drewN q).cell? ⟨g, o + j * 2, none⟩ = some (.int .i64 x.t) ∧ (W.drewN q).cell? ⟨g, o + j * 2 + 1, none⟩ = some (.string x.d)) := Lib.hid fun q => ⟨(Chg.drewN (Φ := fun _ => False) W q).below (Nat.le_refl _) fun _ h => h.elim, c0, c2, e0, e1⟩
    have HLH : Hid (∀ V, Below W.heap.size W V → Below W.heap.size W V.drew) := Lib.hid fun V hb => hb.drew
    have HW := Lib.hid hW
    have d1 : decide (B + 1 + (j : Int) ≤ B) = false := decide_eq_false (by omega)
    have d2 : decide ((n : Int) < B + 1 + (j : Int) - B) = false := decide_eq_false (by omega)
    have hw2 : IntKind.i64.wrap (B + 1 + (j : Int) - B) = 1 + j := by rw [show B + 1 + (j : Int) - B = 1 + j by omega]; exact IntWalk.i64_in _ (by omega)
    have hw3 : IntKind.i64.wrap (1 + (j : Int) - 1) = j := by rw [show 1 + (j : Int) - 1 = j by omega]; exact IntWalk.i64_in _ (by omega)
    have d3 : decide ((n : Int) < 1 + (j : Int)) = false := decide_eq_false (by omega)
    have hjn : (j : Int) < n := by omega
    clear h hW' hW hbW hres r0 r1 f0 f1 hq hln hx hΦ hg hwr
    obtain ⟨xt, xd⟩ := x
    unfold enV
    dsimp only at *
    go_enter Try.func27, Try.ntmps27
    go_upto_region 1 with fail
    rw [← HW.out]
    go_quiet (fail)
    clear c0 c1 c2 e0 e1
    obtain ⟨hb, c0, c2, e0, e1⟩ := HLG.out nq
    obtain ⟨_, _, _, s0, s1, f0, f1⟩ := HE.out _ hb
    have HB := Lib.hid hb
    clear hb
    generalize W.drewN nq = V at *
    go_wp2_with fail
    go_still_tail 13, (by kernel_rfl)
    change wpList _ _ _ _ _ V.drew
    obtain ⟨r0, r1, hb, s0', s1', f0', f1'⟩ := HE.out _ (HLH.out _ HB.out)
    clear c0 c2 e0 e1 s0 s1 f0 f1 hw2 hw3 d1 d2 d3
    generalize V.drew = V2 at *
    go_wp2_with fail
    exact bodyPost_ret (v := .tuple #[.agg #[.int .i64 xt, .string xd], .bool true]) (by simp [results, Try.results27, go_sem, r0, r1]) rfl ⟨rfl, hb⟩
end
end Go.Proofs.Ytmmddkddjiodbaa
