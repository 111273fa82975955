/- What is proved here: the document's own log: Last, TermAt, New, Pass and Newer. -/
import Derived.Test.YtmmddkddjiodbaaEPass
namespace Go.Proofs.Ytmmddkddjiodbaa
open Go Go.RowKit Go.Maps Go.WideMaps

def rlV (B T : Int) (A : Option Addr) (n c : Nat) : Value := .agg #[.int .i64 B, .int .i64 T, .slice A n c]
section
variable {w : World} {B T : Int} {A : Option Addr} {n c : Nat} {L : List En} {Ψ : Nat → Prop}
theorem RLast_any (h0 : 0 ≤ B) (h1 : B ≤ 4611686018427387904) (hn : n < 1000000) (w : World) : Calls Try.prog 30 #[rlV B T A n c] w fun e w' => e = .returned (.int .i64 (B + n)) ∧ w' = w.alloc (.cells #[.int .i64 B, .int .i64 T, .slice A n c] 29) := by
  unfold rlV
  go_enter Try.func30, Try.ntmps30
  go_wp2
  go_ret
  exact ⟨rfl, rfl⟩
theorem RLast_below (h0 : 0 ≤ B) (h1 : B ≤ 4611686018427387904) (hn : n < 1000000) (w : World) : Calls Try.prog 30 #[rlV B T A n c] w fun e w' => e = .returned (.int .i64 (B + n)) ∧ Below w.heap.size w w' :=
  (RLast_any h0 h1 hn w).mono fun _ _ ⟨he, hw⟩ => ⟨he, by rw [hw]; exact (Below.refl _ _).alloc (Nat.le_refl _) _⟩
/-- The block with which a call of the document's begins. -/
theorem rbox (w : World) (B T : Int) (A : Option Addr) (n c : Nat) : ∃ W, W = w.alloc (.cells #[.int .i64 B, .int .i64 T, .slice A n c] 29) ∧ Below w.heap.size w W ∧ W.heap.size = w.heap.size + 1 ∧ ∀ V, Below W.heap.size W V → V.heap[w.heap.size]? = some (.cells #[.int .i64 B, .int .i64 T, .slice A n c] 29 (0, 0)) := by
  refine ⟨_, rfl, (Below.refl _ _).alloc (Nat.le_refl _) _, by simp, fun V hb => ?_⟩
  rw [hb.block _ (by simp)]
  exact heap_alloc_new _ _
set_option maxHeartbeats 1600000 in
set_option maxRecDepth 100000 in
theorem RTerm_any (h : SRd enC w Ψ A n c L) (h0 : 0 ≤ B) (h1 : B ≤ 4611686018427387904) (hn : n < 1000000) {k : Int} (hk : I64 k) :
    Calls Try.prog 33 #[rlV B T A n c, .int .i64 k] w fun e w' => e = .returned (.tuple #[.int .i64 (termAt B T L k), .bool (hasAt B L k)]) ∧ Below w.heap.size w w' := by
  unfold I64 at hk
  obtain ⟨W, hW, hbW, hWs, hres⟩ := rbox w B T A n c
  obtain ⟨r0, r1, r2, _⟩ := three_cells (hres W (Below.refl _ _))
  have hcaps := h.caps
  have hln := h.len
  have HL := Lib.hid (RLast_below (B := B) (T := T) (A := A) (n := n) (c := c) h0 h1 hn W)
  unfold rlV at HL ⊢
  have HW := Lib.hid hW
  have HRES := Lib.hid hres
  have HBW := Lib.hid hbW
  rcases term_is B T L k with ⟨e1, e2, e3⟩ | ⟨e1, e2, e3⟩
  · rw [e2, e3]
    clear e2 e3 h hW hres hln
    subst e1
    go_enter Try.func33, Try.ntmps33
    go_upto_region 1 with fail
    rw [← HW.out]
    go_wp2_with fail
    go_ret2
    exact ⟨rfl, HBW.out⟩
  · rw [e2, e3]
    have d1 : (k == B) = false := beq_eq_false_iff_ne.2 e1
    cases hq : isAt B L k with
    | false =>
      obtain ⟨hno, hz⟩ := isAt_none hq
      rw [hz, hln] at *
      unfold zeroE
      clear e2 e3 h hW hres hln hq hz
      rcases hno with hno | hno
      · have d2 : k < B := by omega
        have d3 : decide (k < B) = true := decide_eq_true d2
        go_enter Try.func33, Try.ntmps33
        go_upto_region 1 with fail
        rw [← HW.out]
        go_wp2_with fail
        go_ret2
        exact ⟨rfl, HBW.out⟩
      · have d2 : ¬ k < B := by omega
        have d3 : decide (k < B) = false := decide_eq_false d2
        have d4 : decide (B + (n : Int) < k) = true := decide_eq_true hno
        go_enter Try.func33, Try.ntmps33
        go_upto_region 1 with fail
        rw [← HW.out]
        go_wp2_with (go_at_call 30; refine HL.out.mono ?_; rintro e w2 ⟨rfl, hb⟩; have HB := Lib.hid (HBW.out.trans (hb.mono HBW.out.size)); clear hb)
        go_ret2
        exact ⟨rfl, HB.out⟩
    | true =>
      obtain ⟨j, hj, hx, hjl⟩ := isAt_some hq
      have hj2 : j = (k - B - 1).toNat := by omega
      have hkb : 0 ≤ k - B - 1 ∧ k - B - 1 < n := by omega
      have hkb2 : k - B ≤ n := by omega
      subst hj2
      obtain ⟨g, o, rfl, hg, _, q0, q1⟩ := h.en hx
      generalize entAt B L k = x at *
      obtain ⟨xt, xd⟩ := x
      dsimp only at *
      have d2 : ¬ k < B := by omega
      have d3 : decide (k < B) = false := decide_eq_false d2
      have d4 : decide (B + (n : Int) < k) = false := decide_eq_false (by omega)
      have HC : Hid (∀ V, Below w.heap.size w V → V.cell? ⟨g, o + ((k - B).toNat - 1) * 2, none⟩ = some (.int .i64 xt)) := Lib.hid fun V hb => by
        rw [show (k - B).toNat - 1 = (k - B - 1).toNat by omega]
        exact (hb.cell (p := ⟨g, _, none⟩) hg).trans q0
      clear e2 e3 h hW hres hln hq hj hx hjl q0 q1 hg
      go_enter Try.func33, Try.ntmps33
      go_upto_region 1 with fail
      rw [← HW.out]
      go_wp2_with (go_at_call 30; refine HL.out.mono ?_; rintro e w2 ⟨rfl, hb⟩; obtain ⟨s0, s1, s2, _⟩ := three_cells (HRES.out w2 hb); have HB := Lib.hid (HBW.out.trans (hb.mono HBW.out.size)); have q0 := HC.out _ HB.out; clear hb)
      go_ret2
      exact ⟨rfl, HB.out⟩
theorem max_cases (x : Int) : (x < 0 ∧ max x 0 = 0) ∨ (¬ x < 0 ∧ max x 0 = x) := by omega
set_option maxHeartbeats 1600000 in
theorem RNew_any (x y : Int) (w : World) : Calls Try.prog 12 #[.int .i64 x, .int .i64 y] w fun e w' => e = .returned (rlV (max x 0) (max y 0) none 0 0) ∧ Below w.heap.size w w' := by
  unfold rlV
  rcases max_cases x with ⟨h1, h2⟩ | ⟨h1, h2⟩ <;> rcases max_cases y with ⟨g1, g2⟩ | ⟨g1, g2⟩ <;> rw [h2, g2] <;> clear h2 g2
  · go_enter Try.func12, Try.ntmps12
    go_wp2
    exact bodyPost_ret (v := .agg #[.int .i64 0, .int .i64 0, .slice none 0 0]) (by simp [results, Try.results12, go_sem]) rfl ⟨rfl, (Below.refl _ _).alloc (Nat.le_refl _) _⟩
  · go_enter Try.func12, Try.ntmps12
    go_wp2
    exact bodyPost_ret (v := .agg #[.int .i64 0, .int .i64 y, .slice none 0 0]) (by simp [results, Try.results12, go_sem]) rfl ⟨rfl, (Below.refl _ _).alloc (Nat.le_refl _) _⟩
  · go_enter Try.func12, Try.ntmps12
    go_wp2
    exact bodyPost_ret (v := .agg #[.int .i64 x, .int .i64 0, .slice none 0 0]) (by simp [results, Try.results12, go_sem]) rfl ⟨rfl, (Below.refl _ _).alloc (Nat.le_refl _) _⟩
  · go_enter Try.func12, Try.ntmps12
    go_wp2
    exact bodyPost_ret (v := .agg #[.int .i64 x, .int .i64 y, .slice none 0 0]) (by simp [results, Try.results12, go_sem]) rfl ⟨rfl, (Below.refl _ _).alloc (Nat.le_refl _) _⟩
end
end Go.Proofs.Ytmmddkddjiodbaa
