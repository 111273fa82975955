/- What is proved here: the document's own log: Pass and From. -/
import Derived.Test.YtmmddkddjiodbaaERef
namespace Go.Proofs.Ytmmddkddjiodbaa
open Go Go.RowKit Go.Maps Go.WideMaps

theorem res_three {V : World} {R : Nat} {x y z : Value} {t : TypeId} (h : V.heap[R]? = some (.cells #[x, y, z] t (0, 0))) (a b c : Value) :
    (((V.setCell ⟨R, 0, none⟩ a).setCell ⟨R, 1, none⟩ b).setCell ⟨R, 2, none⟩ c).cell? ⟨R, 0, none⟩ = some a ∧ (((V.setCell ⟨R, 0, none⟩ a).setCell ⟨R, 1, none⟩ b).setCell ⟨R, 2, none⟩ c).cell? ⟨R, 1, none⟩ = some b ∧ (((V.setCell ⟨R, 0, none⟩ a).setCell ⟨R, 1, none⟩ b).setCell ⟨R, 2, none⟩ c).cell? ⟨R, 2, none⟩ = some c := by
  have h1 := three_cells (three_sets h a b c)
  exact ⟨h1.1, h1.2.1, h1.2.2.1⟩
theorem chg_three (V : World) (R : Nat) (a b c : Value) : Chg (fun k => k = R) V (((V.setCell ⟨R, 0, none⟩ a).setCell ⟨R, 1, none⟩ b).setCell ⟨R, 2, none⟩ c) :=
  ((Chg.set V R 0 a).trans (Chg.set _ R 1 b) fun _ _ h => h).trans (Chg.set _ R 2 c) fun _ _ h => h
/-- The two blocks with which a call of the document's begins that returns a log. -/
theorem rbox2 (w : World) (B T : Int) (A : Option Addr) (n c : Nat) : ∃ W, W = (w.alloc (.cells #[.int .i64 B, .int .i64 T, .slice A n c] 29)).alloc (.cells #[.int .i64 0, .int .i64 0, .slice none 0 0] 29) ∧ Below w.heap.size w W ∧ W.heap.size = w.heap.size + 2 ∧ ∀ V, Below W.heap.size W V →
    V.heap[w.heap.size]? = some (.cells #[.int .i64 B, .int .i64 T, .slice A n c] 29 (0, 0)) ∧ V.heap[w.heap.size + 1]? = some (.cells #[.int .i64 0, .int .i64 0, .slice none 0 0] 29 (0, 0)) := by
  have hs : (w.alloc (.cells #[.int .i64 B, .int .i64 T, .slice A n c] 29)).heap.size = w.heap.size + 1 := by simp
  refine ⟨_, rfl, ((Below.refl _ _).alloc (Nat.le_refl _) _).alloc (by simp) _, by simp, fun V hb => ⟨?_, ?_⟩⟩
  · rw [hb.block _ (by simp; omega)]
    exact (((Below.refl (w.heap.size + 1) _).alloc (Nat.le_of_eq hs.symm) _).block _ (Nat.lt_succ_self _)).trans (heap_alloc_new w _)
  · rw [hb.block _ (by simp), ← hs]
    exact heap_alloc_new _ _
section
variable {w : World} {B T : Int} {A : Option Addr} {n c : Nat} {L : List En} {Ψ : Nat → Prop}
/-- What a call of the document's leaves that returns a log. -/
def RLeft (w : World) (Ψ : Nat → Prop) (B T : Int) (L : List En) (q : Value) (e : Ending) (w' : World) : Prop :=
  ∃ A n c, e = .returned (.tuple #[rlV B T A n c, q]) ∧ SRd enC w' (fun k => Ψ k ∨ w.heap.size ≤ k) A n c L ∧ Below w.heap.size w w'
set_option maxHeartbeats 1600000 in
set_option maxRecDepth 100000 in
theorem RPass_any (h : SRd enC w Ψ A n c L) (h0 : 0 ≤ B) (h1 : B ≤ 4611686018427387904) (hn : n < 1000000) {k : Int} (hk : I64 k) :
    Calls Try.prog 32 #[rlV B T A n c, .int .i64 k] w (if hasAt B L k = true then RLeft w Ψ k (termAt B T L k) (L.drop (k - B).toNat) (.int .i64 0) else RLeft w Ψ B T L (.int .i64 1)) := by
  obtain ⟨W, hW, hbW, hWs, hres⟩ := rbox2 w B T A n c
  obtain ⟨hr1, hr2⟩ := hres W (Below.refl _ _)
  obtain ⟨r0, r1, r2, _⟩ := three_cells hr1
  obtain ⟨s0, s1, s2, t0, t1, t2⟩ := three_cells hr2
  have hcaps := h.caps
  have hln := h.len
  have HT : Hid (Calls Try.prog 33 #[.agg #[.int .i64 B, .int .i64 T, .slice A n c], .int .i64 k] W fun e w' => e = .returned (.tuple #[.int .i64 (termAt B T L k), .bool (hasAt B L k)]) ∧ Below W.heap.size W w') := Lib.hid (RTerm_any (h.below hbW) h0 h1 hn hk)
  have HFIN : Hid (∀ V, Below W.heap.size W V → ∀ (B' T' : Int) (A' : Option Addr) (n' c' : Nat) (L' : List En) (q : Value), SRd enC w Ψ A' n' c' L' →
      (((V.setCell ⟨w.heap.size + 1, 0, none⟩ (.int .i64 B')).setCell ⟨w.heap.size + 1, 1, none⟩ (.int .i64 T')).setCell ⟨w.heap.size + 1, 2, none⟩ (.slice A' n' c')).cell? ⟨w.heap.size + 1, 0, none⟩ = some (.int .i64 B') ∧ (((V.setCell ⟨w.heap.size + 1, 0, none⟩ (.int .i64 B')).setCell ⟨w.heap.size + 1, 1, none⟩ (.int .i64 T')).setCell ⟨w.heap.size + 1, 2, none⟩ (.slice A' n' c')).cell? ⟨w.heap.size + 1, 1, none⟩ = some (.int .i64 T') ∧ (((V.setCell ⟨w.heap.size + 1, 0, none⟩ (.int .i64 B')).setCell ⟨w.heap.size + 1, 1, none⟩ (.int .i64 T')).setCell ⟨w.heap.size + 1, 2, none⟩ (.slice A' n' c')).cell? ⟨w.heap.size + 1, 2, none⟩ = some (.slice A' n' c') ∧
        Hid (RLeft w Ψ B' T' L' q (.returned (.tuple #[rlV B' T' A' n' c', q])) (((V.setCell ⟨w.heap.size + 1, 0, none⟩ (.int .i64 B')).setCell ⟨w.heap.size + 1, 1, none⟩ (.int .i64 T')).setCell ⟨w.heap.size + 1, 2, none⟩ (.slice A' n' c')))) := Lib.hid fun V hb B' T' A' n' c' L' q hr => by
    obtain ⟨k0, k1, k2⟩ := res_three (hres V hb).2 (.int .i64 B') (.int .i64 T') (.slice A' n' c')
    have hbv := hbW.trans (hb.mono hbW.size)
    have hb2 : Below w.heap.size w (((V.setCell ⟨w.heap.size + 1, 0, none⟩ (.int .i64 B')).setCell ⟨w.heap.size + 1, 1, none⟩ (.int .i64 T')).setCell ⟨w.heap.size + 1, 2, none⟩ (.slice A' n' c')) := hbv.trans ((chg_three V _ _ _ _).below hbv.size fun i hi => by omega)
    exact ⟨k0, k1, k2, Lib.hid ⟨A', n', c', rfl, (hr.below hb2).mono fun i _ hi => .inl hi, hb2⟩⟩
  have HBX : Hid (∀ V, Below W.heap.size W V → V.cell? ⟨w.heap.size, 0, none⟩ = some (.int .i64 B) ∧ V.cell? ⟨w.heap.size, 1, none⟩ = some (.int .i64 T) ∧ V.cell? ⟨w.heap.size, 2, none⟩ = some (.slice A n c) ∧ V.cell? ⟨w.heap.size + 1, 0, none⟩ = some (.int .i64 0) ∧ V.cell? ⟨w.heap.size + 1, 1, none⟩ = some (.int .i64 0) ∧ V.cell? ⟨w.heap.size + 1, 2, none⟩ = some (.slice none 0 0) ∧ V.frozen? ⟨w.heap.size + 1, 0, none⟩ = false ∧ V.frozen? ⟨w.heap.size + 1, 1, none⟩ = false ∧ V.frozen? ⟨w.heap.size + 1, 2, none⟩ = false) := Lib.hid fun V hb => by
    obtain ⟨a1, a2⟩ := hres V hb
    have x1 := three_cells a1
    have x2 := three_cells a2
    exact ⟨x1.1, x1.2.1, x1.2.2.1, x2.1, x2.2.1, x2.2.2.1, x2.2.2.2.1, x2.2.2.2.2.1, x2.2.2.2.2.2⟩
  have HW := Lib.hid hW
  have HH := Lib.hid h
  unfold I64 at hk
  unfold rlV
  cases hq : hasAt B L k with
  | false =>
    rw [hq] at HT
    have HG : Hid (∀ V, Below W.heap.size W V → _) := Lib.hid fun V hb => HFIN.out V hb B T A n c L (.int .i64 1) HH.out
    rw [if_neg (by simp)]
    clear h hW hbW hWs hres hr1 hr2 hln hq HFIN s0 s1 s2 t0 t1 t2
    go_enter Try.func32, Try.ntmps32
    go_upto_region 1 with fail
    rw [← HW.out]
    go_wp2_with (go_at_call 33; refine HT.out.mono ?_; rintro e w2 ⟨rfl, hb⟩; obtain ⟨b0, b1, b2, b3, b4, b5, b6, b7, b8⟩ := HBX.out w2 hb; obtain ⟨k0, k1, k2, HX⟩ := HG.out w2 hb; clear hb)
    exact bodyPost_ret (v := .tuple #[.agg #[.int .i64 B, .int .i64 T, .slice A n c], .int .i64 1]) (by simp [results, Try.results32, go_sem, k0, k1, k2]) rfl HX.out
  | true =>
    rw [hq] at HT
    have hkr : B ≤ k ∧ k ≤ B + n := by
      unfold hasAt at hq
      rw [decide_eq_true_eq] at hq
      omega
    rw [if_pos rfl]
    obtain ⟨A2, hr, hA⟩ := h.from_ en_len (m := (k - B).toNat) (by omega)
    have HG : Hid (∀ V, Below W.heap.size W V → _) := Lib.hid fun V hb => HFIN.out V hb k (termAt B T L k) A2 (n - (k - B).toNat) (c - (k - B).toNat) (L.drop (k - B).toNat) (.int .i64 0) hr
    have d1 : 0 ≤ k - B := by omega
    have d2 : k - B ≤ n := by omega
    have d3 : (k - B).toNat ≤ n := by omega
    clear h hr hW hbW hWs hres hr1 hr2 hln hq HFIN s0 s1 s2 t0 t1 t2
    generalize termAt B T L k = tm at *
    rcases hA with ⟨rfl, rfl, h3, rfl, rfl⟩ | ⟨g, o, rfl, ⟨h3, rfl⟩ | ⟨hne, rfl⟩⟩
    · obtain rfl : B = k := by omega
      rw [show (B - B).toNat = 0 by omega] at HG ⊢
      rw [Nat.sub_self] at HG
      clear h3 d1 d2 d3
      go_enter Try.func32, Try.ntmps32
      go_upto_region 1 with fail
      rw [← HW.out]
      go_wp2_with (go_at_call 33; refine HT.out.mono ?_; rintro e w2 ⟨rfl, hb⟩; obtain ⟨b0, b1, b2, b3, b4, b5, b6, b7, b8⟩ := HBX.out w2 hb; obtain ⟨k0, k1, k2, HX⟩ := HG.out w2 hb; clear hb)
      exact bodyPost_ret (v := .tuple #[.agg #[.int .i64 B, .int .i64 tm, .slice none 0 0], .int .i64 0]) (by simp [results, Try.results32, go_sem, k0, k1, k2]) rfl HX.out
    · subst h3
      rw [show n - (k - B).toNat = 0 by omega, Nat.sub_self] at HG
      go_enter Try.func32, Try.ntmps32
      go_upto_region 1 with fail
      rw [← HW.out]
      have d4 : n - (k - B).toNat = 0 := by omega
      go_wp2_with (go_at_call 33; refine HT.out.mono ?_; rintro e w2 ⟨rfl, hb⟩; obtain ⟨b0, b1, b2, b3, b4, b5, b6, b7, b8⟩ := HBX.out w2 hb; obtain ⟨k0, k1, k2, HX⟩ := HG.out w2 hb; clear hb)
      exact bodyPost_ret (v := .tuple #[.agg #[.int .i64 k, .int .i64 tm, .slice (some ⟨g, o, none⟩) 0 0], .int .i64 0]) (by simp [results, Try.results32, go_sem, k0, k1, k2]) rfl HX.out
    · have d4 : ¬ (k - B).toNat = c := fun e => hne e.symm
      go_enter Try.func32, Try.ntmps32
      go_upto_region 1 with fail
      rw [← HW.out]
      go_wp2_with (go_at_call 33; refine HT.out.mono ?_; rintro e w2 ⟨rfl, hb⟩; obtain ⟨b0, b1, b2, b3, b4, b5, b6, b7, b8⟩ := HBX.out w2 hb; obtain ⟨k0, k1, k2, HX⟩ := HG.out w2 hb; clear hb)
      exact bodyPost_ret (v := .tuple #[.agg #[.int .i64 k, .int .i64 tm, .slice (some ⟨g, o + (k - B).toNat * 2, none⟩) (n - (k - B).toNat) (c - (k - B).toNat)], .int .i64 0]) (by simp [results, Try.results32, go_sem, k0, k1, k2]) rfl HX.out
end
end Go.Proofs.Ytmmddkddjiodbaa
