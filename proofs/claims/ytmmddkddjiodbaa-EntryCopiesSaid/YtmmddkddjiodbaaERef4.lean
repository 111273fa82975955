/- What is proved here: the document's own log: Merge. -/
import Derived.Test.YtmmddkddjiodbaaERef3
namespace Go.Proofs.Ytmmddkddjiodbaa
open Go Go.RowKit Go.Maps Go.WideMaps

section
variable {w : World} {B T : Int} {A : Option Addr} {n c : Nat} {L : List En} {Ψ : Nat → Prop}
/-- What the document's Merge leaves. -/
def RLeft3 (w : World) (Ψ : Nat → Prop) (B T : Int) (L : List En) (m : Int) (q : Bool) (e : Ending) (w' : World) : Prop :=
  ∃ A n c, e = .returned (.tuple #[rlV B T A n c, .int .i64 m, .bool q]) ∧ SRd enC w' (fun k => Ψ k ∨ w.heap.size ≤ k) A n c L ∧ Below w.heap.size w w'
/-- What stands in the two blocks with which the call begins. -/
structure RBox (w V : World) (B T : Int) (A : Option Addr) (n c : Nat) : Prop where
  b0 : V.cell? ⟨w.heap.size, 0, none⟩ = some (.int .i64 B)
  b1 : V.cell? ⟨w.heap.size, 1, none⟩ = some (.int .i64 T)
  b2 : V.cell? ⟨w.heap.size, 2, none⟩ = some (.slice A n c)
  f2 : V.frozen? ⟨w.heap.size, 2, none⟩ = false
  r0 : V.cell? ⟨w.heap.size + 1, 0, none⟩ = some (.int .i64 0)
  r1 : V.cell? ⟨w.heap.size + 1, 1, none⟩ = some (.int .i64 0)
  r2 : V.cell? ⟨w.heap.size + 1, 2, none⟩ = some (.slice none 0 0)
  g0 : V.frozen? ⟨w.heap.size + 1, 0, none⟩ = false
  g1 : V.frozen? ⟨w.heap.size + 1, 1, none⟩ = false
  g2 : V.frozen? ⟨w.heap.size + 1, 2, none⟩ = false
/-- .. and behind the end. -/
structure RFin (w V : World) (Ψ : Nat → Prop) (B T : Int) (A : Option Addr) (n c : Nat) (L : List En) (m : Int) (q : Bool) : Prop where
  k0 : V.cell? ⟨w.heap.size + 1, 0, none⟩ = some (.int .i64 B)
  k1 : V.cell? ⟨w.heap.size + 1, 1, none⟩ = some (.int .i64 T)
  k2 : V.cell? ⟨w.heap.size + 1, 2, none⟩ = some (.slice A n c)
  left : RLeft3 w Ψ B T L m q (.returned (.tuple #[rlV B T A n c, .int .i64 m, .bool q])) V
def fin3 (w V : World) (B T : Int) (A : Option Addr) (n c : Nat) : World := ((V.setCell ⟨w.heap.size + 1, 0, none⟩ (.int .i64 B)).setCell ⟨w.heap.size + 1, 1, none⟩ (.int .i64 T)).setCell ⟨w.heap.size + 1, 2, none⟩ (.slice A n c)
theorem rfin_of {V : World} {A' : Option Addr} {n' c' : Nat} {L' : List En} (hb : Below w.heap.size w V) (hres : V.heap[w.heap.size + 1]? = some (.cells #[.int .i64 0, .int .i64 0, .slice none 0 0] 29 (0, 0))) (hr : SRd enC V (fun k => (Ψ k ∧ k < w.heap.size) ∨ w.heap.size + 2 ≤ k) A' n' c' L') (m : Int) (q : Bool) : RFin w (fin3 w V B T A' n' c') Ψ B T A' n' c' L' m q := by
  obtain ⟨k0, k1, k2⟩ := res_three hres (.int .i64 B) (.int .i64 T) (.slice A' n' c')
  have hc := chg_three V (w.heap.size + 1) (.int .i64 B) (.int .i64 T) (.slice A' n' c')
  refine ⟨k0, k1, k2, A', n', c', rfl, hr.keep hc (fun k hk e => by omega) fun k _ hk => ?_, hb.trans (hc.below hb.size fun i hi => by omega)⟩
  rcases hk with hk | hk
  · exact .inl hk.1
  · exact .inr (by omega)
/-- The end, behind the loop. -/
theorem rmerge_end {V : World} {W : World} (hWs : W.heap.size = w.heap.size + 2) (hbW : Below w.heap.size w W) {L' : List En} {Ar : Option Addr} {nr cr : Nat} (hm : Mk enC 2 47 W L' Ar nr cr V)
    (h1 : V.heap[w.heap.size]? = some (.cells #[.int .i64 B, .int .i64 T, .slice A n c] 29 (0, 0))) (h2 : V.heap[w.heap.size + 1]? = some (.cells #[.int .i64 0, .int .i64 0, .slice none 0 0] 29 (0, 0))) (m : Int) (q : Bool) :
    RBox w V B T A n c ∧ RBox w (V.setCell ⟨w.heap.size, 2, none⟩ (.slice Ar nr cr)) B T Ar nr cr ∧ RFin w (fin3 w (V.setCell ⟨w.heap.size, 2, none⟩ (.slice Ar nr cr)) B T Ar nr cr) Ψ B T Ar nr cr L' m q := by
  have x1 := three_cells h1
  have x2 := three_cells h2
  have y1 := three_cells (three_set2 h1 (.slice Ar nr cr))
  have h2' : (V.setCell ⟨w.heap.size, 2, none⟩ (.slice Ar nr cr)).heap[w.heap.size + 1]? = some (.cells #[.int .i64 0, .int .i64 0, .slice none 0 0] 29 (0, 0)) := heap_setCell_but h2 (by omega) _ _
  have y2 := three_cells h2'
  have hbV := hbW.trans (hm.bel.mono hbW.size)
  refine ⟨⟨x1.1, x1.2.1, x1.2.2.1, x1.2.2.2.2.2, x2.1, x2.2.1, x2.2.2.1, x2.2.2.2.1, x2.2.2.2.2.1, x2.2.2.2.2.2⟩, ⟨y1.1, y1.2.1, y1.2.2.1, y1.2.2.2.2.2, y2.1, y2.2.1, y2.2.2.1, y2.2.2.2.1, y2.2.2.2.2.1, y2.2.2.2.2.2⟩, rfin_of ((hbV.setCell (Nat.le_refl _) _)) h2' ?_ m q⟩
  refine (hm.rd (Ψ := fun k => w.heap.size + 2 ≤ k) fun k hk => by omega).keep (Chg.set V w.heap.size 2 (.slice Ar nr cr)) (fun k hk e => by omega) fun k _ hk => .inr hk
set_option maxHeartbeats 3200000 in
set_option maxRecDepth 100000 in
/-- .. where nothing comes. -/
theorem RMerge_same (h : SRd enC w Ψ A n c L) (h0 : 0 ≤ B) (h1 : B ≤ 4611686018427387904) (hn : n < 1000000) {A2 : Option Addr} {m d : Nat} {y term : Int} (hy0 : 0 ≤ y) (hy : I64 y) (hm : m < 100000) :
    (y < B → (m : Int) ≤ B - y → Calls Try.prog 31 #[rlV B T A n c, .int .i64 y, .int .i64 term, .slice A2 m d] w (RLeft3 w Ψ B T L (y + m) true)) ∧
    (B ≤ y → ¬ (hasAt B L y = true ∧ termAt B T L y = term) → Calls Try.prog 31 #[rlV B T A n c, .int .i64 y, .int .i64 term, .slice A2 m d] w (RLeft3 w Ψ B T L 0 false)) := by
  obtain ⟨W, hW, hbW, hWs, hres⟩ := rbox2 w B T A n c
  have HBX : Hid (∀ V, Below W.heap.size W V → RBox w V B T A n c) := Lib.hid fun V hb => by
    obtain ⟨a1, a2⟩ := hres V hb
    have x1 := three_cells a1
    have x2 := three_cells a2
    exact ⟨x1.1, x1.2.1, x1.2.2.1, x1.2.2.2.2.2, x2.1, x2.2.1, x2.2.2.1, x2.2.2.2.1, x2.2.2.2.2.1, x2.2.2.2.2.2⟩
  have HF : Hid (∀ V, Below W.heap.size W V → ∀ m q, RFin w (fin3 w V B T A n c) Ψ B T A n c L m q) := Lib.hid fun V hb m q => by
    refine rfin_of (hbW.trans (hb.mono hbW.size)) (hres V hb).2 ?_ m q
    have h2 : SRd enC w (fun k => (Ψ k ∧ k < w.heap.size) ∨ w.heap.size + 2 ≤ k) A n c L := h.mono fun k hk hp => .inl ⟨hp, hk⟩
    exact (h2.below hbW).below hb
  have HT : Hid (Calls Try.prog 33 #[.agg #[.int .i64 B, .int .i64 T, .slice A n c], .int .i64 y] W fun e w' => e = .returned (.tuple #[.int .i64 (termAt B T L y), .bool (hasAt B L y)]) ∧ Below W.heap.size W w') := Lib.hid (RTerm_any (h.below hbW) h0 h1 hn hy)
  have HW := Lib.hid hW
  obtain ⟨b0, b1, b2, f2, r0, r1, r2, g0, g1, g2⟩ := HBX.out W (Below.refl _ _)
  have HB0 := Lib.hid (Below.refl W.heap.size W)
  clear h hW hbW hres
  unfold I64 at hy
  unfold rlV
  refine ⟨fun c1 c2 => ?_, fun c1 c2 => ?_⟩
  · obtain ⟨k0, k1, k2, HX⟩ := HF.out W HB0.out (y + m) true
    unfold fin3 at k0 k1 k2 HX
    have HX2 := Lib.hid HX
    clear HX
    go_enter Try.func31, Try.ntmps31
    go_upto_region 1 with fail
    rw [← HW.out]
    go_wp2_with fail
    exact bodyPost_ret (v := .tuple #[.agg #[.int .i64 B, .int .i64 T, .slice A n c], .int .i64 (y + m), .bool true]) (by simp [results, Try.results31, go_sem, k0, k1, k2]) rfl HX2.out
  · have d2 : ¬ y < B := by omega
    clear r0 r1 r2 g0 g1 g2 f2
    cases hq : hasAt B L y with
    | false =>
      rw [hq] at HT
      clear c2 hq
      generalize termAt B T L y = tm at *
      go_enter Try.func31, Try.ntmps31
      go_upto_region 1 with fail
      rw [← HW.out]
      go_wp2_with (go_at_call 33; refine HT.out.mono ?_; rintro e w2 ⟨rfl, hb⟩; obtain ⟨b0, b1, b2, f2, r0, r1, r2, g0, g1, g2⟩ := HBX.out w2 hb; obtain ⟨k0, k1, k2, HX⟩ := HF.out w2 hb 0 false; unfold fin3 at k0 k1 k2 HX; have HX2 := Lib.hid HX; clear hb HX)
      exact bodyPost_ret (v := .tuple #[.agg #[.int .i64 B, .int .i64 T, .slice A n c], .int .i64 0, .bool false]) (by simp [results, Try.results31, go_sem, k0, k1, k2]) rfl HX2.out
    | true =>
      rw [hq] at HT
      have hne : ¬ termAt B T L y = term := fun e => c2 ⟨hq, e⟩
      have e1 : (termAt B T L y == term) = false := beq_eq_false_iff_ne.2 hne
      have e2 : (termAt B T L y != term) = true := by simpa using hne
      clear c2 hq hne
      generalize termAt B T L y = tm at *
      go_enter Try.func31, Try.ntmps31
      go_upto_region 1 with fail
      rw [← HW.out]
      go_wp2_with (go_at_call 33; refine HT.out.mono ?_; rintro e w2 ⟨rfl, hb⟩; obtain ⟨b0, b1, b2, f2, r0, r1, r2, g0, g1, g2⟩ := HBX.out w2 hb; obtain ⟨k0, k1, k2, HX⟩ := HF.out w2 hb 0 false; unfold fin3 at k0 k1 k2 HX; have HX2 := Lib.hid HX; clear hb HX)
      exact bodyPost_ret (v := .tuple #[.agg #[.int .i64 B, .int .i64 T, .slice A n c], .int .i64 0, .bool false]) (by simp [results, Try.results31, go_sem, k0, k1, k2]) rfl HX2.out
end
end Go.Proofs.Ytmmddkddjiodbaa
