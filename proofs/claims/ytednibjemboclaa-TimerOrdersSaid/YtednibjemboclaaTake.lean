/- What is proved here: what 'take' does: a thing goes, and the last one fills the gap. -/
import Derived.Test.YtednibjemboclaaTimer
import Derived.BigRegion
import Derived.IntWalk
import Derived.Outline
namespace Go.Proofs.Ytednibjemboclaa
open Go Go.RowKit Go.Maps

theorem flat_take : ∀ (H : List It) (k : Nat), (flat H).take (k * 2) = flat (H.take k)
  | [], k => by simp [flat]
  | x :: r, 0 => by simp [flat]
  | x :: r, k + 1 => by
    show ([Value.int .i64 x.1, .int .i64 x.2] ++ flat r).take ((k + 1) * 2) = [Value.int .i64 x.1, .int .i64 x.2] ++ flat (r.take k)
    rw [show (k + 1) * 2 = k * 2 + 2 by omega]
    show [Value.int .i64 x.1, .int .i64 x.2] ++ (flat r).take (k * 2) = _
    rw [flat_take r k]
/-- A row's first things are a row. -/
theorem own_first {w : World} {base e gb n cap : Nat} {H : List It} (h : w.ownsRow base e 2 (.slice (some ⟨gb, 0, none⟩) n cap) n (flat H)) {k : Nat} (hk : k ≤ n) :
    w.ownsRow base e 2 (.slice (some ⟨gb, 0, none⟩) k cap) k (flat (H.take k)) := by
  obtain ⟨h1, h2⟩ := h
  rw [flat_len] at h1
  have hlen : H.length = n := by omega
  refine ⟨by rw [flat_len, List.length_take]; omega, .inr ?_⟩
  rcases h2 with ⟨h3, _⟩ | ⟨g', cap', cur, hv, hb, hg, hnc, hcm, hcs, ht⟩
  · cases h3
  · simp only [Value.slice.injEq, Option.some.injEq, Addr.mk.injEq, and_true, true_and] at hv
    obtain ⟨rfl, rfl⟩ := hv
    refine ⟨gb, cap, cur, rfl, hb, hg, by omega, hcm, hcs, ?_⟩
    have h4 : (cur.toList.take (n * 2)).take (k * 2) = flat (H.take k) := by rw [ht, flat_take]
    rw [List.take_take] at h4
    rwa [Nat.min_eq_left (by omega)] at h4

section
variable {H : List It} {f : Int → Option Nat} {i k : Nat}
theorem g_take (hi : i < k) : g (H.take k) i = g H i := by
  unfold g
  rw [List.getD_eq_getElem?_getD, List.getD_eq_getElem?_getD, List.getElem?_take, if_pos hi]
theorem take_snoc_g (hk : H.length = k + 1) : H = H.take k ++ [g H k] := by
  have h1 : k < H.length := by omega
  have h2 := (List.take_append_drop k H).symm
  rw [List.drop_eq_getElem_cons h1, g_get h1, List.drop_of_length_le (by omega)] at h2
  exact h2
theorem del_other (f : Int → Option Nat) {k k' : Int} (h : k' ≠ k) : del f k k' = f k' := by simp [del, h]
/-- The last one goes. -/
theorem last_goes (hH : Heap H) (hT : Tells f H) (hk : H.length = k + 1) : Heap (H.take k) ∧ Tells (del f (g H k).1) (H.take k) ∧ (H.take k).Perm (dropR H (g H k).1) := by
  have hkl : k < H.length := by omega
  have e := take_snoc_g hk
  have hd : dropR H (g H k).1 = H.take k := by
    rw [nodup_split hT.nodup hkl, List.drop_of_length_le (by omega), List.append_nil]
  refine ⟨Heap.less (T := [g H k]) (by rw [← e]; exact hH), ⟨?_, fun j hj => ?_, fun id p hp => ?_⟩, by rw [hd]⟩
  · exact List.Pairwise.sublist (List.Sublist.map _ (List.take_sublist _ _)) hT.nodup
  · rw [List.length_take] at hj
    have hjk : j < k := by omega
    rw [g_take hjk, del_other]
    · exact hT.at_ j (by omega)
    · intro e2
      have := nodup_g hT.nodup (by omega) hkl e2
      omega
  · by_cases hid : id = (g H k).1
    · subst hid
      simp [del] at hp
    · rw [del_other _ hid] at hp
      obtain ⟨y, hy, rfl⟩ := List.mem_map.1 (hT.only id p hp)
      rw [← hd]
      exact List.mem_map_of_mem (f := Prod.fst) (mem_dropR.2 ⟨hy, hid⟩)
/-- Another one goes: its place is a hole for the last one. -/
theorem one_goes (hH : Heap H) (hT : Tells f H) (hk : H.length = k + 1) (hi : i < k) :
    Near (H.take k) i ∧ Told (del f (g H i).1) (H.take k) i (g H k) ∧ ((H.take k).set i (g H k)).Perm (dropR H (g H i).1) ∧ del f (g H i).1 (g H k).1 = some k := by
  have hkl : k < H.length := by omega
  have hil : i < H.length := by omega
  have e := take_snoc_g hk
  have hl : (H.take k).length = k := by rw [List.length_take]; omega
  have hne : (g H k).1 ≠ (g H i).1 := fun e2 => by
    have := nodup_g hT.nodup hkl hil e2
    omega
  have hself : H.set i (g H i) = H := by
    rw [← g_get hil]
    exact List.set_getElem_self hil
  have h1 := swap_perm hil hkl (by omega : k ≠ i) (g H i)
  rw [hself] at h1
  have e2 : (H.set i (g H k)).set k (g H i) = (H.take k).set i (g H k) ++ [g H i] := by
    have e3 : H.set i (g H k) = (H.take k).set i (g H k) ++ [g H k] := by
      have h9 : H.set i (g H k) = (H.take k ++ [g H k]).set i (g H k) := congrArg (fun l => l.set i (g H k)) e
      rw [h9, List.set_append_left _ _ (by omega)]
    rw [e3, List.set_append_right _ _ (by rw [List.length_set]; omega), List.length_set, hl, Nat.sub_self]
    rfl
  rw [e2] at h1
  have hp : ((H.take k).set i (g H k)).Perm (dropR H (g H i).1) := by
    have h2 := (List.perm_append_singleton (g H i) ((H.take k).set i (g H k))).symm.trans (h1.trans (self_perm hT.nodup hil))
    exact h2.cons_inv
  refine ⟨(Heap.less (T := [g H k]) (by rw [← e]; exact hH)).near i, ⟨by omega, ?_, fun j hj hji => ?_, fun id p hpp => ?_⟩, hp, ?_⟩
  · refine ((hp.map Prod.fst).nodup_iff).2 ?_
    exact List.Pairwise.sublist (List.Sublist.map _ List.filter_sublist) hT.nodup
  · rw [hl] at hj
    rw [g_take hj, del_other]
    · exact hT.at_ j (by omega)
    · intro e3
      exact hji (nodup_g hT.nodup (by omega) hil e3)
  · by_cases hid : id = (g H i).1
    · subst hid
      simp [del] at hpp
    · rw [del_other _ hid] at hpp
      obtain ⟨y, hy, rfl⟩ := List.mem_map.1 (hT.only id p hpp)
      exact ((hp.map Prod.fst).mem_iff).2 (List.mem_map_of_mem (f := Prod.fst) (mem_dropR.2 ⟨hy, hid⟩))
  · rw [del_other _ hne]
    exact hT.at_ k hkl
end

/-- What take leaves. -/
def TakeSaid (t m rb cap N : Nat) (H : List It) (x : It) (w : World) (e : Ending) (w' : World) : Prop :=
  e = .returned (.agg #[.int .i64 x.1, .int .i64 x.2]) ∧ ∃ H' f', Held w' t m rb cap H' f' (N - 1) ∧ Heap H' ∧ Tells f' H' ∧ H'.Perm (dropR H x.1) ∧ Chg (fun k => k = t ∨ foot m rb k) w w'
/-- Behind the first statement: the two things, each in a block of its own. -/
structure Boxes (w : World) (t m rb cap N : Nat) (H : List It) (f : Int → Option Nat) (x y : It) (b5 b6 : Nat) (W2 : World) : Prop where
  held : Held W2 t m rb cap H f N
  chg : Below w.heap.size w W2
  x0 : W2.heap[b5]? = some (.cells #[.int .i64 x.1, .int .i64 x.2] 41 (0, 0))
  y0 : W2.heap[b6]? = some (.cells #[.int .i64 y.1, .int .i64 y.2] 41 (0, 0))
  r0 : W2.heap[w.heap.size]? = some (.cells #[.int .i64 0, .int .i64 0] 41 (0, 0))
  b5 : w.heap.size < b5
  b6 : w.heap.size < b6
theorem two_all {w : World} {b : Nat} {x y : Value} {t : TypeId} (h : w.heap[b]? = some (.cells #[x, y] t (0, 0))) :
    w.cell? ⟨b, 0, none⟩ = some x ∧ w.cell? ⟨b, 1, none⟩ = some y ∧ w.frozen? ⟨b, 0, none⟩ = false ∧ w.frozen? ⟨b, 1, none⟩ = false ∧ b < w.heap.size := by
  obtain ⟨h1, h2, h3, h4⟩ := two_cells h
  exact ⟨h1, h2, h3, h4, lt_of_block h⟩
section
variable {w : World} {t m rb cap N : Nat} {H : List It} {f : Int → Option Nat} {x y : It}
theorem Boxes.mk1 (h : Held w t m rb cap H f N) {W : World} (hW : W = w.alloc (.cells #[.int .i64 0, .int .i64 0] 41)) :
    Boxes w t m rb cap N H f x y W.heap.size (W.heap.size + 1) (((W.alloc (.cells #[.int .i64 x.1, .int .i64 x.2] 41)).alloc (.cells #[.int .i64 y.1, .int .i64 y.2] 41)).drew) := by
  have hs : W.heap.size = w.heap.size + 1 := by rw [hW]; simp
  have hb : Below w.heap.size w W := by rw [hW]; exact (Below.refl _ _).alloc (Nat.le_refl _) _
  have hb2 : Below w.heap.size w (((W.alloc (.cells #[.int .i64 x.1, .int .i64 x.2] 41)).alloc (.cells #[.int .i64 y.1, .int .i64 y.2] 41)).drew) := ((hb.alloc (by omega) _).alloc (by simp; omega) _).drew
  refine ⟨h.below hb2, hb2, ?_, ?_, ?_, by omega, by omega⟩
  · exact (Below.heap_alloc _ _ _ (by simp)).trans (heap_alloc_new _ _)
  · have := heap_alloc_new (W.alloc (.cells #[.int .i64 x.1, .int .i64 x.2] 41)) (.cells #[.int .i64 y.1, .int .i64 y.2] 41)
    show ((W.alloc (.cells #[.int .i64 x.1, .int .i64 x.2] 41)).alloc (.cells #[.int .i64 y.1, .int .i64 y.2] 41)).heap[W.heap.size + 1]? = _
    rw [show (W.alloc (.cells #[.int .i64 x.1, .int .i64 x.2] 41)).heap.size = W.heap.size + 1 by simp] at this
    exact this
  · refine (Below.heap_alloc _ _ _ (by simp; omega)).trans ((Below.heap_alloc _ _ _ (by omega)).trans ?_)
    rw [hW]
    exact heap_alloc_new _ _
theorem Boxes.mk2 (h : Held w t m rb cap H f N) {W : World} (hW : W = w.alloc (.cells #[.int .i64 0, .int .i64 0] 41)) :
    Boxes w t m rb cap N H f x y (W.heap.size + 1) W.heap.size (((W.alloc (.cells #[.int .i64 y.1, .int .i64 y.2] 41)).alloc (.cells #[.int .i64 x.1, .int .i64 x.2] 41)).drew) := by
  obtain ⟨a1, a2, a3, a4, a5, a6, a7⟩ := Boxes.mk1 (x := y) (y := x) h hW
  exact ⟨a1, a2, a4, a3, a5, a7, a6⟩
/-- The row is shorter by one. -/
theorem Held.less (h : Held w t m rb cap H f N) {k : Nat} (hk : k ≤ H.length) :
    Held (w.setCell ⟨t, 0, none⟩ (.slice (some ⟨rb, 0, none⟩) k cap)) t m rb cap (H.take k) f N ∧ Chg (fun i => i = t) w (w.setCell ⟨t, 0, none⟩ (.slice (some ⟨rb, 0, none⟩) k cap)) := by
  have hc := Chg.set w t 0 (.slice (some ⟨rb, 0, none⟩) k cap)
  have hl : (H.take k).length = k := by rw [List.length_take]; omega
  refine ⟨⟨?_, ?_, h.map.keep hc fun e => h.t_m e.symm⟩, hc⟩
  · rw [hl]
    exact two_set0 h.blk _
  · rw [hl]
    exact hc.own (own_first h.row hk) fun g hg => by simp [Value.ownBlock] at hg; rw [← hg]; exact fun e => h.t_rb e.symm
end

set_option maxHeartbeats 4000000 in
set_option maxRecDepth 100000 in
theorem take_other {w : World} {t m rb cap N : Nat} {H : List It} {f : Int → Option Nat} (h : Held w t m rb cap H f N) (hH : Heap H) (hT : Tells f H) (hwf : ∀ y ∈ H, wfk y.1) {i k : Nat} (hk : H.length = k + 1) (hi : i < k) (hl : H.length < 1000000) (hN : N < 1000000) :
    Calls Try.prog 25 #[.pointer (some ⟨t, 0, none⟩), .int .i64 i] w (TakeSaid t m rb cap N H (g H i) w) := by
  obtain ⟨W, hW⟩ : ∃ W, W = w.alloc (.cells #[.int .i64 0, .int .i64 0] 41) := ⟨_, rfl⟩
  have hb : Below w.heap.size w W := by rw [hW]; exact (Below.refl _ _).alloc (Nat.le_refl _) _
  have hrb : rb < w.heap.size := (h.row.lt rb rfl).2
  have hm : m < w.heap.size := h.map.lt
  have htl : t < w.heap.size := lt_of_block h.blk
  have hil : i < H.length := by omega
  have HB1 := Lib.hid (Boxes.mk1 (x := g H i) (y := g H k) h hW)
  have HB2 := Lib.hid (Boxes.mk2 (x := g H i) (y := g H k) h hW)
  have hfi : f (g H i).1 = some i := hT.at_ i hil
  have hwi : wfk (g H i).1 := hwf _ (g_mem hil)
  obtain ⟨hnear, htold, hperm, hlast⟩ := one_goes hH hT hk hi
  have hlne : Hid (¬ (g H k).1 = (g H i).1) := Lib.hid fun e => by
    have := nodup_g hT.nodup (by omega) hil e
    omega
  have HWF : Hid (∀ y ∈ (H.take k).set i (g H k), wfk y.1) := Lib.hid fun y hy => by
    rcases List.mem_or_eq_of_mem_set hy with hy | rfl
    · exact hwf y (List.mem_of_mem_take hy)
    · exact hwf _ (g_mem (by omega))
  have HREST : Hid (∀ b5 b6 W2, Boxes w t m rb cap N H f (g H i) (g H k) b5 b6 W2 → ∃ W3 w4, W3 = (W2.setCell ⟨t, 0, none⟩ (.slice (some ⟨rb, 0, none⟩) k cap)).drew ∧ W3.cell? ⟨t, 1, none⟩ = some (.map (some m)) ∧ W3.cell? ⟨b5, 0, none⟩ = some (.int .i64 (g H i).1) ∧
      (Builtin.delete_ #[53, 3] 0 #[.map (some m), .int .i64 (g H i).1]).run Try.prog W3.drew = .ok (.tuple #[]) w4 ∧ w4.cell? ⟨b5, 0, none⟩ = some (.int .i64 (g H i).1) ∧ w4.cell? ⟨b5, 1, none⟩ = some (.int .i64 (g H i).2) ∧ w4.cell? ⟨b6, 0, none⟩ = some (.int .i64 (g H k).1) ∧ w4.cell? ⟨b6, 1, none⟩ = some (.int .i64 (g H k).2) ∧
      Hid (Held w4 t m rb cap (H.take k) (del f (g H i).1) (N - 1) ∧ Chg (fun k => k = t ∨ foot m rb k) w w4 ∧ w4.heap[w.heap.size]? = some (.cells #[.int .i64 0, .int .i64 0] 41 (0, 0)) ∧ w4.heap[b5]? = some (.cells #[.int .i64 (g H i).1, .int .i64 (g H i).2] 41 (0, 0)) ∧ w.heap.size < b5)) := Lib.hid (by
    intro b5 b6 W2 hB
    have h0 := hB.held.less (k := k) (by omega)
    have h1 := h0.1.keep (Φ := fun _ => False) (Chg.drew _) id id id
    obtain ⟨w4, hr, hpl, _, hc4⟩ := (h1.keep (Φ := fun _ => False) (Chg.drew _) id id id).map.drop hwi (by rw [hfi]; rfl) 0
    have c1 : Chg (fun k => k = t) W2 ((W2.setCell ⟨t, 0, none⟩ (.slice (some ⟨rb, 0, none⟩) k cap)).drew) := h0.2.trans (Chg.drew (Φ := fun _ => False) _) fun _ _ e => e.elim
    have c2 : Chg (fun k => k = t ∨ k = m) W2 w4 := ((c1.trans (Chg.drew (Φ := fun _ => False) _) fun _ _ e => e.elim).mono (Ψ := fun k => k = t ∨ k = m) fun _ _ e => .inl e).trans hc4 fun _ _ e => .inr e
    have hb5 := hB.b5
    have hb6 := hB.b6
    have k5 : w4.heap[b5]? = _ := c2.heap hB.x0 (fun e => by rcases e with e | e <;> omega)
    have k6 : w4.heap[b6]? = _ := c2.heap hB.y0 (fun e => by rcases e with e | e <;> omega)
    have k0 : w4.heap[w.heap.size]? = _ := c2.heap hB.r0 (fun e => by rcases e with e | e <;> omega)
    have k3 : ((W2.setCell ⟨t, 0, none⟩ (.slice (some ⟨rb, 0, none⟩) k cap)).drew).heap[b5]? = _ := c1.heap hB.x0 (fun e => by omega)
    refine ⟨_, w4, rfl, (two_cells' h1.blk).2, (two_cells' k3).1, hr, (two_cells' k5).1, (two_cells' k5).2, (two_cells' k6).1, (two_cells' k6).2, Lib.hid ⟨⟨hc4.heap h1.blk h1.t_m, hc4.own h1.row (fun g hg => by simp [Value.ownBlock] at hg; rw [← hg]; exact h1.rb_m), hpl⟩, ?_, k0, k5, hb5⟩⟩
    exact (Chg.of_below (Φ := fun k => k = t ∨ foot m rb k) hB.chg).trans c2 fun i _ e => by
      rcases e with e | e
      · exact .inl e
      · exact .inr (.inl e))
  have hh := h.below hb
  obtain ⟨c0, c1⟩ := two_cells' hh.blk
  obtain ⟨r0, r1⟩ := hh.cell hil
  obtain ⟨l0, l1⟩ := hh.cell (j := k) (by omega)
  obtain ⟨_, _, hc1, hc2⟩ := hh.rowb
  unfold maxLen at hc2
  have hsz : W.heap.size = w.heap.size + 1 := by rw [hW]; simp
  have hW' := Lib.hid hW
  have hi' : (i : Int) < H.length := by omega
  have hk1 : (H.length : Int) - 1 = (k : Int) := by omega
  have hk2 : (k : Int) < H.length := by omega
  have hk3 : k ≤ cap := by omega
  have hrW : rb < W.heap.size := by omega
  have htW : t < W.heap.size := by omega
  have HS := Lib.hid hsz
  have HSAY : Hid (∀ w', TakeSaid t m rb cap N H (g H i) w (.returned (.agg #[.int .i64 (g H i).1, .int .i64 (g H i).2])) w' → TakeSaid t m rb cap N H (g H i) w (.returned (.agg #[.int .i64 (g H i).1, .int .i64 (g H i).2])) w') := Lib.hid fun _ h => h
  clear hsz hb hW hfi hH hT hwf hh hwi
  go_enter Try.func25, Try.ntmps25
  go_wp2_with fail
  rw [← hW'.out]
  have hw1 : IntKind.i64.wrap ((H.length : Int) - 1) = (k : Int) := by rw [hk1]; exact IntWalk.i64_in _ (by omega)
  clear h hk
  go_region
  · go_wp2_with fail
    have HB := HB1
    clear HB1 HB2
    have HB5 := HB.out.b5
    have HB6 := HB.out.b6
    generalize W.heap.size + 1 = b6 at *
    generalize W.heap.size = b5 at *
    generalize ((W.alloc (.cells #[.int .i64 (g H i).1, .int .i64 (g H i).2] 41)).alloc (.cells #[.int .i64 (g H k).1, .int .i64 (g H k).2] 41)).drew = W2 at HB ⊢
    obtain ⟨W3, w4, hW3, d1, d2, hdel, e0, e1, e2, e3, HX⟩ := HREST.out b5 b6 W2 HB.out
    obtain ⟨c0, c1, z0, z1, _⟩ := two_all HB.out.held.blk
    obtain ⟨_, _, g0, g1, g2⟩ := two_all HB.out.x0
    have HW3 := Lib.hid hW3
    clear r0 r1 l0 l1 HREST hW3
    have hw2 : IntKind.i64.wrap (k : Int) = (k : Int) := IntWalk.i64_in _ (by omega)
    go_still_tail 14, (by kernel_rfl)
    change wpList _ _ _ _ _ W2.drew
    clear hw1 hw2
    go_wp2_with fail
    rw [← HW3.out]
    go_still_tail 6, (by kernel_rfl)
    change wpList _ _ _ _ _ W3.drew
    clear c0 c1 z0 z1 g0 g1 g2 d1 d2
    have hne : ((g H k).1 == (g H i).1) = false := beq_eq_false_iff_ne.2 fun e => hlne.out e
    have HSET := Lib.hid (settle_any (N := N - 1) (N' := N - 1) (fx := some k) ⟨HX.out.1, hnear, htold, List.Perm.refl _, HWF.out, hlast⟩ (by rw [List.length_set, List.length_take]; omega) (by omega) rfl)
    have HXX : Hid (∀ w5, Chg (foot m rb) w4 w5 → w5.cell? ⟨b5, 0, none⟩ = some (.int .i64 (g H i).1) ∧ w5.cell? ⟨b5, 1, none⟩ = some (.int .i64 (g H i).2) ∧ w5.heap[w.heap.size]? = some (.cells #[.int .i64 0, .int .i64 0] 41 (0, 0))) := Lib.hid fun w5 hc => by
      obtain ⟨_, _, x1, x2, _⟩ := HX.out
      have k5 : w5.heap[b5]? = _ := hc.heap x2 (fun e => by rcases e with e | e <;> omega)
      exact ⟨(two_cells' k5).1, (two_cells' k5).2, hc.heap x1 (fun e => by rcases e with e | e <;> omega)⟩
    go_wp2_with (go_at_call 23; refine HSET.out.mono ?_; rintro e w5 ⟨rfl, H', f', hh', hH', hT', hP', hc5⟩; obtain ⟨j0, j1, j2⟩ := HXX.out w5 hc5; obtain ⟨j3, j4, j5, j6, _⟩ := two_all j2; have HF := Lib.hid (⟨hh', hH', hT', hP', hc5⟩ : Held w5 t m rb cap H' f' (N - 1) ∧ Heap H' ∧ Tells f' H' ∧ H'.Perm ((H.take k).set i (g H k)) ∧ Chg (foot m rb) w4 w5); clear hh' hH' hT' hP' hc5 j2)
    refine bodyPost_ret (v := .agg #[.int .i64 (g H i).1, .int .i64 (g H i).2]) (by simp [results, Try.results25, go_sem, j3, j4]) rfl ⟨rfl, H', f', ?_⟩
    obtain ⟨f1, f2, f3, f4, f5⟩ := HF.out
    have hcz : Chg (fun k => k = w.heap.size) w5 _ := (Chg.set w5 w.heap.size 0 (.int .i64 (g H i).1)).trans (Chg.set _ w.heap.size 1 (.int .i64 (g H i).2)) fun _ _ e => e
    refine ⟨f1.keep hcz (fun e => by omega) (fun e => by omega) (fun e => by omega), f2, f3, f4.trans hperm, ?_⟩
    obtain ⟨_, x3, _⟩ := HX.out
    exact (x3.trans f5 fun i _ e => .inr e).trans hcz fun i hi e => absurd hi (by omega)
  · go_wp2_with fail
    have HB := HB2
    clear HB1 HB2
    have HB5 := HB.out.b5
    have HB6 := HB.out.b6
    generalize W.heap.size + 1 = b5 at *
    generalize W.heap.size = b6 at *
    generalize ((W.alloc (.cells #[.int .i64 (g H k).1, .int .i64 (g H k).2] 41)).alloc (.cells #[.int .i64 (g H i).1, .int .i64 (g H i).2] 41)).drew = W2 at HB ⊢
    obtain ⟨W3, w4, hW3, d1, d2, hdel, e0, e1, e2, e3, HX⟩ := HREST.out b5 b6 W2 HB.out
    obtain ⟨c0, c1, z0, z1, _⟩ := two_all HB.out.held.blk
    obtain ⟨_, _, g0, g1, g2⟩ := two_all HB.out.x0
    have HW3 := Lib.hid hW3
    clear r0 r1 l0 l1 HREST hW3
    have hw2 : IntKind.i64.wrap (k : Int) = (k : Int) := IntWalk.i64_in _ (by omega)
    go_still_tail 14, (by kernel_rfl)
    change wpList _ _ _ _ _ W2.drew
    clear hw1 hw2
    go_wp2_with fail
    rw [← HW3.out]
    go_still_tail 6, (by kernel_rfl)
    change wpList _ _ _ _ _ W3.drew
    clear c0 c1 z0 z1 g0 g1 g2 d1 d2
    have hne : ((g H k).1 == (g H i).1) = false := beq_eq_false_iff_ne.2 fun e => hlne.out e
    have HSET := Lib.hid (settle_any (N := N - 1) (N' := N - 1) (fx := some k) ⟨HX.out.1, hnear, htold, List.Perm.refl _, HWF.out, hlast⟩ (by rw [List.length_set, List.length_take]; omega) (by omega) rfl)
    have HXX : Hid (∀ w5, Chg (foot m rb) w4 w5 → w5.cell? ⟨b5, 0, none⟩ = some (.int .i64 (g H i).1) ∧ w5.cell? ⟨b5, 1, none⟩ = some (.int .i64 (g H i).2) ∧ w5.heap[w.heap.size]? = some (.cells #[.int .i64 0, .int .i64 0] 41 (0, 0))) := Lib.hid fun w5 hc => by
      obtain ⟨_, _, x1, x2, _⟩ := HX.out
      have k5 : w5.heap[b5]? = _ := hc.heap x2 (fun e => by rcases e with e | e <;> omega)
      exact ⟨(two_cells' k5).1, (two_cells' k5).2, hc.heap x1 (fun e => by rcases e with e | e <;> omega)⟩
    go_wp2_with (go_at_call 23; refine HSET.out.mono ?_; rintro e w5 ⟨rfl, H', f', hh', hH', hT', hP', hc5⟩; obtain ⟨j0, j1, j2⟩ := HXX.out w5 hc5; obtain ⟨j3, j4, j5, j6, _⟩ := two_all j2; have HF := Lib.hid (⟨hh', hH', hT', hP', hc5⟩ : Held w5 t m rb cap H' f' (N - 1) ∧ Heap H' ∧ Tells f' H' ∧ H'.Perm ((H.take k).set i (g H k)) ∧ Chg (foot m rb) w4 w5); clear hh' hH' hT' hP' hc5 j2)
    refine bodyPost_ret (v := .agg #[.int .i64 (g H i).1, .int .i64 (g H i).2]) (by simp [results, Try.results25, go_sem, j3, j4]) rfl ⟨rfl, H', f', ?_⟩
    obtain ⟨f1, f2, f3, f4, f5⟩ := HF.out
    have hcz : Chg (fun k => k = w.heap.size) w5 _ := (Chg.set w5 w.heap.size 0 (.int .i64 (g H i).1)).trans (Chg.set _ w.heap.size 1 (.int .i64 (g H i).2)) fun _ _ e => e
    refine ⟨f1.keep hcz (fun e => by omega) (fun e => by omega) (fun e => by omega), f2, f3, f4.trans hperm, ?_⟩
    obtain ⟨_, x3, _⟩ := HX.out
    exact (x3.trans f5 fun i _ e => .inr e).trans hcz fun i hi e => absurd hi (by omega)
end Go.Proofs.Ytednibjemboclaa
