/- What is proved here: what 'take' does where it is the last one that goes. -/
import Derived.Test.YtednibjemboclaaTake
namespace Go.Proofs.Ytednibjemboclaa
open Go Go.RowKit Go.Maps

set_option maxHeartbeats 4000000 in
set_option maxRecDepth 100000 in
theorem take_last {w : World} {t m rb cap N : Nat} {H : List It} {f : Int → Option Nat} (h : Held w t m rb cap H f N) (hH : Heap H) (hT : Tells f H) (hwf : ∀ y ∈ H, wfk y.1) {k : Nat} (hk : H.length = k + 1) (hl : H.length < 1000000) :
    Calls Try.prog 25 #[.pointer (some ⟨t, 0, none⟩), .int .i64 k] w (TakeSaid t m rb cap N H (g H k) w) := by
  obtain ⟨W, hW⟩ : ∃ W, W = w.alloc (.cells #[.int .i64 0, .int .i64 0] 41) := ⟨_, rfl⟩
  have hb : Below w.heap.size w W := by rw [hW]; exact (Below.refl _ _).alloc (Nat.le_refl _) _
  have hrb : rb < w.heap.size := (h.row.lt rb rfl).2
  have hm : m < w.heap.size := h.map.lt
  have htl : t < w.heap.size := lt_of_block h.blk
  have hil : k < H.length := by omega
  have HB1 := Lib.hid (Boxes.mk1 (x := g H k) (y := g H k) h hW)
  have HB2 := Lib.hid (Boxes.mk2 (x := g H k) (y := g H k) h hW)
  have hfi : f (g H k).1 = some k := hT.at_ k hil
  have hwi : wfk (g H k).1 := hwf _ (g_mem hil)
  obtain ⟨hheap, htells, hperm⟩ := last_goes hH hT hk
  have HREST : Hid (∀ b5 b6 W2, Boxes w t m rb cap N H f (g H k) (g H k) b5 b6 W2 → ∃ W3 w4, W3 = (W2.setCell ⟨t, 0, none⟩ (.slice (some ⟨rb, 0, none⟩) k cap)).drew ∧ W3.cell? ⟨t, 1, none⟩ = some (.map (some m)) ∧ W3.cell? ⟨b5, 0, none⟩ = some (.int .i64 (g H k).1) ∧
      (Builtin.delete_ #[53, 3] 0 #[.map (some m), .int .i64 (g H k).1]).run Try.prog W3.drew = .ok (.tuple #[]) w4 ∧ w4.cell? ⟨b5, 0, none⟩ = some (.int .i64 (g H k).1) ∧ w4.cell? ⟨b5, 1, none⟩ = some (.int .i64 (g H k).2) ∧ w4.cell? ⟨b6, 0, none⟩ = some (.int .i64 (g H k).1) ∧ w4.cell? ⟨b6, 1, none⟩ = some (.int .i64 (g H k).2) ∧
      Hid (Held w4 t m rb cap (H.take k) (del f (g H k).1) (N - 1) ∧ Chg (fun k => k = t ∨ foot m rb k) w w4 ∧ w4.heap[w.heap.size]? = some (.cells #[.int .i64 0, .int .i64 0] 41 (0, 0)) ∧ w4.heap[b5]? = some (.cells #[.int .i64 (g H k).1, .int .i64 (g H k).2] 41 (0, 0)) ∧ w.heap.size < b5)) := Lib.hid (by
    intro b5 b6 W2 hB
    have h0 := hB.held.less (k := k) (by omega)
    have h1 := h0.1.keep (Φ := fun _ => False) (Chg.drew _) id id id
    obtain ⟨w4, hr, hpl, _, hc4⟩ := (h1.keep (Φ := fun _ => False) (Chg.drew _) id id id).map.drop hwi (by rw [hfi]; rfl) 0
    have c1 : Chg (fun k => k = t) W2 ((W2.setCell ⟨t, 0, none⟩ (.slice (some ⟨rb, 0, none⟩) k cap)).drew) := h0.2.trans (Chg.drew (Φ := fun _ => False) _) fun _ _ e => e.elim
    have c2 : Chg (fun k => k = t ∨ k = m) W2 w4 := ((c1.trans (Chg.drew (Φ := fun _ => False) _) fun _ _ e => e.elim).mono (Ψ := fun k => k = t ∨ k = m) fun _ _ e => .inl e).trans hc4 fun _ _ e => .inr e
    have hb5 := hB.b5
    have hb6 := hB.b6
    have k5 : w4.heap[b5]? = _ := c2.heap hB.x0 (fun e => by rcases e with e | e <;> omega)
    have k6 : w4.heap[b6]? = _ := c2.heap hB.y0 (fun e => by rcases e with e | e <;> omega)
    have k0 : w4.heap[w.heap.size]? = _ := c2.heap hB.r0 (fun e => by rcases e with e | e <;> omega)
    have k3 : ((W2.setCell ⟨t, 0, none⟩ (.slice (some ⟨rb, 0, none⟩) k cap)).drew).heap[b5]? = _ := c1.heap hB.x0 (fun e => by omega)
    refine ⟨_, w4, rfl, (two_cells' h1.blk).2, (two_cells' k3).1, hr, (two_cells' k5).1, (two_cells' k5).2, (two_cells' k6).1, (two_cells' k6).2, Lib.hid ⟨⟨hc4.heap h1.blk h1.t_m, hc4.own h1.row (fun g hg => by simp [Value.ownBlock] at hg; rw [← hg]; exact h1.rb_m), hpl⟩, ?_, k0, k5, hb5⟩⟩
    exact (Chg.of_below (Φ := fun k => k = t ∨ foot m rb k) hB.chg).trans c2 fun i _ e => by
      rcases e with e | e
      · exact .inl e
      · exact .inr (.inl e))
  have hh := h.below hb
  obtain ⟨c0, c1⟩ := two_cells' hh.blk
  obtain ⟨r0, r1⟩ := hh.cell hil
  obtain ⟨l0, l1⟩ := hh.cell (j := k) (by omega)
  obtain ⟨_, _, hc1, hc2⟩ := hh.rowb
  unfold maxLen at hc2
  have hsz : W.heap.size = w.heap.size + 1 := by rw [hW]; simp
  have hW' := Lib.hid hW
  have hi' : (k : Int) < H.length := by omega
  have hk1 : (H.length : Int) - 1 = (k : Int) := by omega
  have hk2 : (k : Int) < H.length := by omega
  have hk3 : k ≤ cap := by omega
  have hrW : rb < W.heap.size := by omega
  have htW : t < W.heap.size := by omega
  have HS := Lib.hid hsz
  have HSAY : Hid (∀ w', TakeSaid t m rb cap N H (g H k) w (.returned (.agg #[.int .i64 (g H k).1, .int .i64 (g H k).2])) w' → TakeSaid t m rb cap N H (g H k) w (.returned (.agg #[.int .i64 (g H k).1, .int .i64 (g H k).2])) w') := Lib.hid fun _ h => h
  clear hsz hb hW hfi hH hT hwf hh hwi
  go_enter Try.func25, Try.ntmps25
  go_wp2_with fail
  rw [← hW'.out]
  have hw1 : IntKind.i64.wrap ((H.length : Int) - 1) = (k : Int) := by rw [hk1]; exact IntWalk.i64_in _ (by omega)
  clear h hk
  go_region
  · go_wp2_with fail
    have HB := HB1
    clear HB1 HB2
    have HB5 := HB.out.b5
    have HB6 := HB.out.b6
    generalize W.heap.size + 1 = b6 at *
    generalize W.heap.size = b5 at *
    generalize ((W.alloc (.cells #[.int .i64 (g H k).1, .int .i64 (g H k).2] 41)).alloc (.cells #[.int .i64 (g H k).1, .int .i64 (g H k).2] 41)).drew = W2 at HB ⊢
    obtain ⟨W3, w4, hW3, d1, d2, hdel, e0, e1, e2, e3, HX⟩ := HREST.out b5 b6 W2 HB.out
    obtain ⟨c0, c1, z0, z1, _⟩ := two_all HB.out.held.blk
    obtain ⟨_, _, g0, g1, g2⟩ := two_all HB.out.x0
    have HW3 := Lib.hid hW3
    clear r0 r1 l0 l1 HREST hW3
    have hw2 : IntKind.i64.wrap (k : Int) = (k : Int) := IntWalk.i64_in _ (by omega)
    go_still_tail 14, (by kernel_rfl)
    change wpList _ _ _ _ _ W2.drew
    clear hw1 hw2
    go_wp2_with fail
    rw [← HW3.out]
    go_still_tail 6, (by kernel_rfl)
    change wpList _ _ _ _ _ W3.drew
    clear c0 c1 z0 z1 g0 g1 g2 d1 d2
    have hne : ((g H k).1 == (g H k).1) = true := beq_self_eq_true _
    obtain ⟨j3, j4, j5, j6, _⟩ := two_all HX.out.2.2.1
    go_wp2_with fail
    refine bodyPost_ret (v := .agg #[.int .i64 (g H k).1, .int .i64 (g H k).2]) (by simp [results, Try.results25, go_sem, j3, j4]) rfl ⟨rfl, H.take k, del f (g H k).1, ?_⟩
    obtain ⟨x1, x3, _⟩ := HX.out
    have hcz : Chg (fun k => k = w.heap.size) w4 _ := (Chg.set w4 w.heap.size 0 (.int .i64 (g H k).1)).trans (Chg.set _ w.heap.size 1 (.int .i64 (g H k).2)) fun _ _ e => e
    exact ⟨x1.keep hcz (fun e => by omega) (fun e => by omega) (fun e => by omega), hheap, htells, hperm, x3.trans hcz fun i hi e => absurd hi (by omega)⟩
  · go_wp2_with fail
    have HB := HB2
    clear HB1 HB2
    have HB5 := HB.out.b5
    have HB6 := HB.out.b6
    generalize W.heap.size + 1 = b5 at *
    generalize W.heap.size = b6 at *
    generalize ((W.alloc (.cells #[.int .i64 (g H k).1, .int .i64 (g H k).2] 41)).alloc (.cells #[.int .i64 (g H k).1, .int .i64 (g H k).2] 41)).drew = W2 at HB ⊢
    obtain ⟨W3, w4, hW3, d1, d2, hdel, e0, e1, e2, e3, HX⟩ := HREST.out b5 b6 W2 HB.out
    obtain ⟨c0, c1, z0, z1, _⟩ := two_all HB.out.held.blk
    obtain ⟨_, _, g0, g1, g2⟩ := two_all HB.out.x0
    have HW3 := Lib.hid hW3
    clear r0 r1 l0 l1 HREST hW3
    have hw2 : IntKind.i64.wrap (k : Int) = (k : Int) := IntWalk.i64_in _ (by omega)
    go_still_tail 14, (by kernel_rfl)
    change wpList _ _ _ _ _ W2.drew
    clear hw1 hw2
    go_wp2_with fail
    rw [← HW3.out]
    go_still_tail 6, (by kernel_rfl)
    change wpList _ _ _ _ _ W3.drew
    clear c0 c1 z0 z1 g0 g1 g2 d1 d2
    have hne : ((g H k).1 == (g H k).1) = true := beq_self_eq_true _
    obtain ⟨j3, j4, j5, j6, _⟩ := two_all HX.out.2.2.1
    go_wp2_with fail
    refine bodyPost_ret (v := .agg #[.int .i64 (g H k).1, .int .i64 (g H k).2]) (by simp [results, Try.results25, go_sem, j3, j4]) rfl ⟨rfl, H.take k, del f (g H k).1, ?_⟩
    obtain ⟨x1, x3, _⟩ := HX.out
    have hcz : Chg (fun k => k = w.heap.size) w4 _ := (Chg.set w4 w.heap.size 0 (.int .i64 (g H k).1)).trans (Chg.set _ w.heap.size 1 (.int .i64 (g H k).2)) fun _ _ e => e
    exact ⟨x1.keep hcz (fun e => by omega) (fun e => by omega) (fun e => by omega), hheap, htells, hperm, x3.trans hcz fun i hi e => absurd hi (by omega)⟩
end Go.Proofs.Ytednibjemboclaa
