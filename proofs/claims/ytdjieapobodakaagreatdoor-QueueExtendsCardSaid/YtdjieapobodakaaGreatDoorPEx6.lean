/- What is proved here: what 'take' does: a thing goes, and the last one fills the gap. -/
/- What is proved here: what 'take' does where it is the last one that goes. -/
/- What is proved here: an append as a step of a region that draws its order; what Set does. -/
import Derived.Test.YtdjieapobodakaaGreatDoorPEx5
import Derived.BigRegion
import Derived.IntWalk
import Derived.Outline
import Derived.Deep.RegionLaw
import Derived.Deep.Cut
import Derived.Maps.AppendAt
section
namespace Go.Proofs.YtdjieapobodakaaGreatDoor.Tim
open Go Go.RowKit Go.Maps
set_option maxRecDepth 100000

theorem flat_take : ∀ (H : List It) (k : Nat), (flat H).take (k * 2) = flat (H.take k)
  | [], k => by simp [flat]
  | x :: r, 0 => by simp [flat]
  | x :: r, k + 1 => by
    show ([Value.int .i64 x.1, .int .i64 x.2] ++ flat r).take ((k + 1) * 2) = [Value.int .i64 x.1, .int .i64 x.2] ++ flat (r.take k)
    rw [show (k + 1) * 2 = k * 2 + 2 by omega]
    show [Value.int .i64 x.1, .int .i64 x.2] ++ (flat r).take (k * 2) = _
    rw [flat_take r k]
/-- A row's first things are a row. -/
theorem own_first {w : World} {base e gb n cap : Nat} {H : List It} (h : w.ownsRow base e 2 (.slice (some ⟨gb, 0, none⟩) n cap) n (flat H)) {k : Nat} (hk : k ≤ n) :
    w.ownsRow base e 2 (.slice (some ⟨gb, 0, none⟩) k cap) k (flat (H.take k)) := by
  obtain ⟨h1, h2⟩ := h
  rw [flat_len] at h1
  have hlen : H.length = n := by omega
  refine ⟨by rw [flat_len, List.length_take]; omega, .inr ?_⟩
  rcases h2 with ⟨h3, _⟩ | ⟨g', cap', cur, hv, hb, hg, hnc, hcm, hcs, ht⟩
  · cases h3
  · simp only [Value.slice.injEq, Option.some.injEq, Addr.mk.injEq, and_true, true_and] at hv
    obtain ⟨rfl, rfl⟩ := hv
    refine ⟨gb, cap, cur, rfl, hb, hg, by omega, hcm, hcs, ?_⟩
    have h4 : (cur.toList.take (n * 2)).take (k * 2) = flat (H.take k) := by rw [ht, flat_take]
    rw [List.take_take] at h4
    rwa [Nat.min_eq_left (by omega)] at h4

section
variable {H : List It} {f : Int → Option Nat} {i k : Nat}
theorem g_take (hi : i < k) : g (H.take k) i = g H i := by
  unfold g
  rw [List.getD_eq_getElem?_getD, List.getD_eq_getElem?_getD, List.getElem?_take, if_pos hi]
theorem take_snoc_g (hk : H.length = k + 1) : H = H.take k ++ [g H k] := by
  have h1 : k < H.length := by omega
  have h2 := (List.take_append_drop k H).symm
  rw [List.drop_eq_getElem_cons h1, g_get h1, List.drop_of_length_le (by omega)] at h2
  exact h2
theorem del_other (f : Int → Option Nat) {k k' : Int} (h : k' ≠ k) : del f k k' = f k' := by simp [del, h]
/-- The last one goes. -/
theorem last_goes (hH : Heap H) (hT : Tells f H) (hk : H.length = k + 1) : Heap (H.take k) ∧ Tells (del f (g H k).1) (H.take k) ∧ (H.take k).Perm (dropR H (g H k).1) := by
  have hkl : k < H.length := by omega
  have e := take_snoc_g hk
  have hd : dropR H (g H k).1 = H.take k := by
    rw [nodup_split hT.nodup hkl, List.drop_of_length_le (by omega), List.append_nil]
  refine ⟨Heap.less (T := [g H k]) (by rw [← e]; exact hH), ⟨?_, fun j hj => ?_, fun id p hp => ?_⟩, by rw [hd]⟩
  · exact List.Pairwise.sublist (List.Sublist.map _ (List.take_sublist _ _)) hT.nodup
  · rw [List.length_take] at hj
    have hjk : j < k := by omega
    rw [g_take hjk, del_other]
    · exact hT.at_ j (by omega)
    · intro e2
      have := nodup_g hT.nodup (by omega) hkl e2
      omega
  · by_cases hid : id = (g H k).1
    · subst hid
      simp [del] at hp
    · rw [del_other _ hid] at hp
      obtain ⟨y, hy, rfl⟩ := List.mem_map.1 (hT.only id p hp)
      rw [← hd]
      exact List.mem_map_of_mem (f := Prod.fst) (mem_dropR.2 ⟨hy, hid⟩)
/-- Another one goes: its place is a hole for the last one. -/
theorem one_goes (hH : Heap H) (hT : Tells f H) (hk : H.length = k + 1) (hi : i < k) :
    Near (H.take k) i ∧ Told (del f (g H i).1) (H.take k) i (g H k) ∧ ((H.take k).set i (g H k)).Perm (dropR H (g H i).1) ∧ del f (g H i).1 (g H k).1 = some k := by
  have hkl : k < H.length := by omega
  have hil : i < H.length := by omega
  have e := take_snoc_g hk
  have hl : (H.take k).length = k := by rw [List.length_take]; omega
  have hne : (g H k).1 ≠ (g H i).1 := fun e2 => by
    have := nodup_g hT.nodup hkl hil e2
    omega
  have hself : H.set i (g H i) = H := by
    rw [← g_get hil]
    exact List.set_getElem_self hil
  have h1 := swap_perm hil hkl (by omega : k ≠ i) (g H i)
  rw [hself] at h1
  have e2 : (H.set i (g H k)).set k (g H i) = (H.take k).set i (g H k) ++ [g H i] := by
    have e3 : H.set i (g H k) = (H.take k).set i (g H k) ++ [g H k] := by
      have h9 : H.set i (g H k) = (H.take k ++ [g H k]).set i (g H k) := congrArg (fun l => l.set i (g H k)) e
      rw [h9, List.set_append_left _ _ (by omega)]
    rw [e3, List.set_append_right _ _ (by rw [List.length_set]; omega), List.length_set, hl, Nat.sub_self]
    rfl
  rw [e2] at h1
  have hp : ((H.take k).set i (g H k)).Perm (dropR H (g H i).1) := by
    have h2 := (List.perm_append_singleton (g H i) ((H.take k).set i (g H k))).symm.trans (h1.trans (self_perm hT.nodup hil))
    exact h2.cons_inv
  refine ⟨(Heap.less (T := [g H k]) (by rw [← e]; exact hH)).near i, ⟨by omega, ?_, fun j hj hji => ?_, fun id p hpp => ?_⟩, hp, ?_⟩
  · refine ((hp.map Prod.fst).nodup_iff).2 ?_
    exact List.Pairwise.sublist (List.Sublist.map _ List.filter_sublist) hT.nodup
  · rw [hl] at hj
    rw [g_take hj, del_other]
    · exact hT.at_ j (by omega)
    · intro e3
      exact hji (nodup_g hT.nodup (by omega) hil e3)
  · by_cases hid : id = (g H i).1
    · subst hid
      simp [del] at hpp
    · rw [del_other _ hid] at hpp
      obtain ⟨y, hy, rfl⟩ := List.mem_map.1 (hT.only id p hpp)
      exact ((hp.map Prod.fst).mem_iff).2 (List.mem_map_of_mem (f := Prod.fst) (mem_dropR.2 ⟨hy, hid⟩))
  · rw [del_other _ hne]
    exact hT.at_ k hkl
end

/-- What take leaves. -/
def TakeSaid (t m rb cap N : Nat) (H : List It) (x : It) (w : World) (e : Ending) (w' : World) : Prop :=
  e = .returned (.agg #[.int .i64 x.1, .int .i64 x.2]) ∧ ∃ H' f', Held w' t m rb cap H' f' (N - 1) ∧ Heap H' ∧ Tells f' H' ∧ H'.Perm (dropR H x.1) ∧ Chg (fun k => k = t ∨ foot m rb k) w w'
/-- Behind the first statement: the two things, each in a block of its own. -/
structure Boxes (w : World) (t m rb cap N : Nat) (H : List It) (f : Int → Option Nat) (x y : It) (b5 b6 : Nat) (W2 : World) : Prop where
  held : Held W2 t m rb cap H f N
  chg : Below w.heap.size w W2
  x0 : W2.heap[b5]? = some (.cells #[.int .i64 x.1, .int .i64 x.2] 130 (0, 0))
  y0 : W2.heap[b6]? = some (.cells #[.int .i64 y.1, .int .i64 y.2] 130 (0, 0))
  r0 : W2.heap[w.heap.size]? = some (.cells #[.int .i64 0, .int .i64 0] 130 (0, 0))
  b5 : w.heap.size < b5
  b6 : w.heap.size < b6
theorem two_all {w : World} {b : Nat} {x y : Value} {t : TypeId} (h : w.heap[b]? = some (.cells #[x, y] t (0, 0))) :
    w.cell? ⟨b, 0, none⟩ = some x ∧ w.cell? ⟨b, 1, none⟩ = some y ∧ w.frozen? ⟨b, 0, none⟩ = false ∧ w.frozen? ⟨b, 1, none⟩ = false ∧ b < w.heap.size := by
  obtain ⟨h1, h2, h3, h4⟩ := two_cells h
  exact ⟨h1, h2, h3, h4, lt_of_block h⟩
section
variable {w : World} {t m rb cap N : Nat} {H : List It} {f : Int → Option Nat} {x y : It}
theorem Boxes.mk1 (h : Held w t m rb cap H f N) {W : World} (hW : W = w.alloc (.cells #[.int .i64 0, .int .i64 0] 130)) :
    Boxes w t m rb cap N H f x y W.heap.size (W.heap.size + 1) (((W.alloc (.cells #[.int .i64 x.1, .int .i64 x.2] 130)).alloc (.cells #[.int .i64 y.1, .int .i64 y.2] 130)).drew) := by
  have hs : W.heap.size = w.heap.size + 1 := by rw [hW]; simp
  have hb : Below w.heap.size w W := by rw [hW]; exact (Below.refl _ _).alloc (Nat.le_refl _) _
  have hb2 : Below w.heap.size w (((W.alloc (.cells #[.int .i64 x.1, .int .i64 x.2] 130)).alloc (.cells #[.int .i64 y.1, .int .i64 y.2] 130)).drew) := ((hb.alloc (by omega) _).alloc (by simp; omega) _).drew
  refine ⟨h.below hb2, hb2, ?_, ?_, ?_, by omega, by omega⟩
  · exact (Below.heap_alloc _ _ _ (by simp)).trans (heap_alloc_new _ _)
  · have := heap_alloc_new (W.alloc (.cells #[.int .i64 x.1, .int .i64 x.2] 130)) (.cells #[.int .i64 y.1, .int .i64 y.2] 130)
    show ((W.alloc (.cells #[.int .i64 x.1, .int .i64 x.2] 130)).alloc (.cells #[.int .i64 y.1, .int .i64 y.2] 130)).heap[W.heap.size + 1]? = _
    rw [show (W.alloc (.cells #[.int .i64 x.1, .int .i64 x.2] 130)).heap.size = W.heap.size + 1 by simp] at this
    exact this
  · refine (Below.heap_alloc _ _ _ (by simp; omega)).trans ((Below.heap_alloc _ _ _ (by omega)).trans ?_)
    rw [hW]
    exact heap_alloc_new _ _
theorem Boxes.mk2 (h : Held w t m rb cap H f N) {W : World} (hW : W = w.alloc (.cells #[.int .i64 0, .int .i64 0] 130)) :
    Boxes w t m rb cap N H f x y (W.heap.size + 1) W.heap.size (((W.alloc (.cells #[.int .i64 y.1, .int .i64 y.2] 130)).alloc (.cells #[.int .i64 x.1, .int .i64 x.2] 130)).drew) := by
  obtain ⟨a1, a2, a3, a4, a5, a6, a7⟩ := Boxes.mk1 (x := y) (y := x) h hW
  exact ⟨a1, a2, a4, a3, a5, a7, a6⟩
/-- The row is shorter by one. -/
theorem Held.less (h : Held w t m rb cap H f N) {k : Nat} (hk : k ≤ H.length) :
    Held (w.setCell ⟨t, 0, none⟩ (.slice (some ⟨rb, 0, none⟩) k cap)) t m rb cap (H.take k) f N ∧ Chg (fun i => i = t) w (w.setCell ⟨t, 0, none⟩ (.slice (some ⟨rb, 0, none⟩) k cap)) := by
  have hc := Chg.set w t 0 (.slice (some ⟨rb, 0, none⟩) k cap)
  have hl : (H.take k).length = k := by rw [List.length_take]; omega
  refine ⟨⟨?_, ?_, h.map.keep hc fun e => h.t_m e.symm⟩, hc⟩
  · rw [hl]
    exact two_set0 h.blk _
  · rw [hl]
    exact hc.own (own_first h.row hk) fun g hg => by simp [Value.ownBlock] at hg; rw [← hg]; exact fun e => h.t_rb e.symm
end

set_option maxHeartbeats 4000000 in
set_option maxRecDepth 100000 in
theorem take_other {w : World} {t m rb cap N : Nat} {H : List It} {f : Int → Option Nat} (h : Held w t m rb cap H f N) (hH : Heap H) (hT : Tells f H) (hwf : ∀ y ∈ H, wfk y.1) {i k : Nat} (hk : H.length = k + 1) (hi : i < k) (hl : H.length < 1000000) (hN : N < 1000000) :
    Calls Tryz.prog 87 #[.pointer (some ⟨t, 0, none⟩), .int .i64 i] w (TakeSaid t m rb cap N H (g H i) w) := by
  obtain ⟨W, hW⟩ : ∃ W, W = w.alloc (.cells #[.int .i64 0, .int .i64 0] 130) := ⟨_, rfl⟩
  have hb : Below w.heap.size w W := by rw [hW]; exact (Below.refl _ _).alloc (Nat.le_refl _) _
  have hrb : rb < w.heap.size := (h.row.lt rb rfl).2
  have hm : m < w.heap.size := h.map.lt
  have htl : t < w.heap.size := lt_of_block h.blk
  have hil : i < H.length := by omega
  have HB1 := Lib.hid (Boxes.mk1 (x := g H i) (y := g H k) h hW)
  have HB2 := Lib.hid (Boxes.mk2 (x := g H i) (y := g H k) h hW)
  have hfi : f (g H i).1 = some i := hT.at_ i hil
  have hwi : wfk (g H i).1 := hwf _ (g_mem hil)
  obtain ⟨hnear, htold, hperm, hlast⟩ := one_goes hH hT hk hi
  have hlne : Hid (¬ (g H k).1 = (g H i).1) := Lib.hid fun e => by
    have := nodup_g hT.nodup (by omega) hil e
    omega
  have HWF : Hid (∀ y ∈ (H.take k).set i (g H k), wfk y.1) := Lib.hid fun y hy => by
    rcases List.mem_or_eq_of_mem_set hy with hy | rfl
    · exact hwf y (List.mem_of_mem_take hy)
    · exact hwf _ (g_mem (by omega))
  have HREST : Hid (∀ b5 b6 W2, Boxes w t m rb cap N H f (g H i) (g H k) b5 b6 W2 → ∃ W3 w4, W3 = (W2.setCell ⟨t, 0, none⟩ (.slice (some ⟨rb, 0, none⟩) k cap)).drew ∧ W3.cell? ⟨t, 1, none⟩ = some (.map (some m)) ∧ W3.cell? ⟨b5, 0, none⟩ = some (.int .i64 (g H i).1) ∧
      (Builtin.delete_ #[68, 3] 0 #[.map (some m), .int .i64 (g H i).1]).run Tryz.prog W3.drew = .ok (.tuple #[]) w4 ∧ w4.cell? ⟨b5, 0, none⟩ = some (.int .i64 (g H i).1) ∧ w4.cell? ⟨b5, 1, none⟩ = some (.int .i64 (g H i).2) ∧ w4.cell? ⟨b6, 0, none⟩ = some (.int .i64 (g H k).1) ∧ w4.cell? ⟨b6, 1, none⟩ = some (.int .i64 (g H k).2) ∧
      Hid (Held w4 t m rb cap (H.take k) (del f (g H i).1) (N - 1) ∧ Chg (fun k => k = t ∨ foot m rb k) w w4 ∧ w4.heap[w.heap.size]? = some (.cells #[.int .i64 0, .int .i64 0] 130 (0, 0)) ∧ w4.heap[b5]? = some (.cells #[.int .i64 (g H i).1, .int .i64 (g H i).2] 130 (0, 0)) ∧ w.heap.size < b5)) := Lib.hid (by
    intro b5 b6 W2 hB
    have h0 := hB.held.less (k := k) (by omega)
    have h1 := h0.1.keep (Φ := fun _ => False) (Chg.drew _) id id id
    obtain ⟨w4, hr, hpl, _, hc4⟩ := (h1.keep (Φ := fun _ => False) (Chg.drew _) id id id).map.drop hwi (by rw [hfi]; rfl) 0
    have c1 : Chg (fun k => k = t) W2 ((W2.setCell ⟨t, 0, none⟩ (.slice (some ⟨rb, 0, none⟩) k cap)).drew) := h0.2.trans (Chg.drew (Φ := fun _ => False) _) fun _ _ e => e.elim
    have c2 : Chg (fun k => k = t ∨ k = m) W2 w4 := ((c1.trans (Chg.drew (Φ := fun _ => False) _) fun _ _ e => e.elim).mono (Ψ := fun k => k = t ∨ k = m) fun _ _ e => .inl e).trans hc4 fun _ _ e => .inr e
    have hb5 := hB.b5
    have hb6 := hB.b6
    have k5 : w4.heap[b5]? = _ := c2.heap hB.x0 (fun e => by rcases e with e | e <;> omega)
    have k6 : w4.heap[b6]? = _ := c2.heap hB.y0 (fun e => by rcases e with e | e <;> omega)
    have k0 : w4.heap[w.heap.size]? = _ := c2.heap hB.r0 (fun e => by rcases e with e | e <;> omega)
    have k3 : ((W2.setCell ⟨t, 0, none⟩ (.slice (some ⟨rb, 0, none⟩) k cap)).drew).heap[b5]? = _ := c1.heap hB.x0 (fun e => by omega)
    refine ⟨_, w4, rfl, (two_cells' h1.blk).2, (two_cells' k3).1, hr, (two_cells' k5).1, (two_cells' k5).2, (two_cells' k6).1, (two_cells' k6).2, Lib.hid ⟨⟨hc4.heap h1.blk h1.t_m, hc4.own h1.row (fun g hg => by simp [Value.ownBlock] at hg; rw [← hg]; exact h1.rb_m), hpl⟩, ?_, k0, k5, hb5⟩⟩
    exact (Chg.of_below (Φ := fun k => k = t ∨ foot m rb k) hB.chg).trans c2 fun i _ e => by
      rcases e with e | e
      · exact .inl e
      · exact .inr (.inl e))
  have hh := h.below hb
  obtain ⟨c0, c1⟩ := two_cells' hh.blk
  obtain ⟨r0, r1⟩ := hh.cell hil
  obtain ⟨l0, l1⟩ := hh.cell (j := k) (by omega)
  obtain ⟨_, _, hc1, hc2⟩ := hh.rowb
  unfold maxLen at hc2
  have hsz : W.heap.size = w.heap.size + 1 := by rw [hW]; simp
  have hW' := Lib.hid hW
  have hi' : (i : Int) < H.length := by omega
  have hk1 : (H.length : Int) - 1 = (k : Int) := by omega
  have hk2 : (k : Int) < H.length := by omega
  have hk3 : k ≤ cap := by omega
  have hrW : rb < W.heap.size := by omega
  have htW : t < W.heap.size := by omega
  have HS := Lib.hid hsz
  have HSAY : Hid (∀ w', TakeSaid t m rb cap N H (g H i) w (.returned (.agg #[.int .i64 (g H i).1, .int .i64 (g H i).2])) w' → TakeSaid t m rb cap N H (g H i) w (.returned (.agg #[.int .i64 (g H i).1, .int .i64 (g H i).2])) w') := Lib.hid fun _ h => h
  clear hsz hb hW hfi hH hT hwf hh hwi
  go_enter Tryz.func87, Tryz.ntmps87
  go_wp2_with fail
  rw [← hW'.out]
  have hw1 : IntKind.i64.wrap ((H.length : Int) - 1) = (k : Int) := by rw [hk1]; exact IntWalk.i64_in _ (by omega)
  clear h hk
  go_region
  · go_wp2_with fail
    have HB := HB1
    clear HB1 HB2
    have HB5 := HB.out.b5
    have HB6 := HB.out.b6
    generalize W.heap.size + 1 = b6 at *
    generalize W.heap.size = b5 at *
    generalize ((W.alloc (.cells #[.int .i64 (g H i).1, .int .i64 (g H i).2] 130)).alloc (.cells #[.int .i64 (g H k).1, .int .i64 (g H k).2] 130)).drew = W2 at HB ⊢
    obtain ⟨W3, w4, hW3, d1, d2, hdel, e0, e1, e2, e3, HX⟩ := HREST.out b5 b6 W2 HB.out
    obtain ⟨c0, c1, z0, z1, _⟩ := two_all HB.out.held.blk
    obtain ⟨_, _, g0, g1, g2⟩ := two_all HB.out.x0
    have HW3 := Lib.hid hW3
    clear r0 r1 l0 l1 HREST hW3
    have hw2 : IntKind.i64.wrap (k : Int) = (k : Int) := IntWalk.i64_in _ (by omega)
    go_still_tail 14, (by kernel_rfl)
    change wpList _ _ _ _ _ W2.drew
    clear hw1 hw2
    go_wp2_with fail
    rw [← HW3.out]
    go_still_tail 6, (by kernel_rfl)
    change wpList _ _ _ _ _ W3.drew
    clear c0 c1 z0 z1 g0 g1 g2 d1 d2
    have hne : ((g H k).1 == (g H i).1) = false := beq_eq_false_iff_ne.2 fun e => hlne.out e
    have HSET := Lib.hid (settle_any (N := N - 1) (N' := N - 1) (fx := some k) ⟨HX.out.1, hnear, htold, List.Perm.refl _, HWF.out, hlast⟩ (by rw [List.length_set, List.length_take]; omega) (by omega) rfl)
    have HXX : Hid (∀ w5, Chg (foot m rb) w4 w5 → w5.cell? ⟨b5, 0, none⟩ = some (.int .i64 (g H i).1) ∧ w5.cell? ⟨b5, 1, none⟩ = some (.int .i64 (g H i).2) ∧ w5.heap[w.heap.size]? = some (.cells #[.int .i64 0, .int .i64 0] 130 (0, 0))) := Lib.hid fun w5 hc => by
      obtain ⟨_, _, x1, x2, _⟩ := HX.out
      have k5 : w5.heap[b5]? = _ := hc.heap x2 (fun e => by rcases e with e | e <;> omega)
      exact ⟨(two_cells' k5).1, (two_cells' k5).2, hc.heap x1 (fun e => by rcases e with e | e <;> omega)⟩
    go_wp2_with (go_at_call 86; refine HSET.out.mono ?_; rintro e w5 ⟨rfl, H', f', hh', hH', hT', hP', hc5⟩; obtain ⟨j0, j1, j2⟩ := HXX.out w5 hc5; obtain ⟨j3, j4, j5, j6, _⟩ := two_all j2; have HF := Lib.hid (⟨hh', hH', hT', hP', hc5⟩ : Held w5 t m rb cap H' f' (N - 1) ∧ Heap H' ∧ Tells f' H' ∧ H'.Perm ((H.take k).set i (g H k)) ∧ Chg (foot m rb) w4 w5); clear hh' hH' hT' hP' hc5 j2)
    refine bodyPost_ret (v := .agg #[.int .i64 (g H i).1, .int .i64 (g H i).2]) (by simp [results, Tryz.results87, go_sem, j3, j4]) rfl ⟨rfl, H', f', ?_⟩
    obtain ⟨f1, f2, f3, f4, f5⟩ := HF.out
    have hcz : Chg (fun k => k = w.heap.size) w5 _ := (Chg.set w5 w.heap.size 0 (.int .i64 (g H i).1)).trans (Chg.set _ w.heap.size 1 (.int .i64 (g H i).2)) fun _ _ e => e
    refine ⟨f1.keep hcz (fun e => by omega) (fun e => by omega) (fun e => by omega), f2, f3, f4.trans hperm, ?_⟩
    obtain ⟨_, x3, _⟩ := HX.out
    exact (x3.trans f5 fun i _ e => .inr e).trans hcz fun i hi e => absurd hi (by omega)
  · go_wp2_with fail
    have HB := HB2
    clear HB1 HB2
    have HB5 := HB.out.b5
    have HB6 := HB.out.b6
    generalize W.heap.size + 1 = b5 at *
    generalize W.heap.size = b6 at *
    generalize ((W.alloc (.cells #[.int .i64 (g H k).1, .int .i64 (g H k).2] 130)).alloc (.cells #[.int .i64 (g H i).1, .int .i64 (g H i).2] 130)).drew = W2 at HB ⊢
    obtain ⟨W3, w4, hW3, d1, d2, hdel, e0, e1, e2, e3, HX⟩ := HREST.out b5 b6 W2 HB.out
    obtain ⟨c0, c1, z0, z1, _⟩ := two_all HB.out.held.blk
    obtain ⟨_, _, g0, g1, g2⟩ := two_all HB.out.x0
    have HW3 := Lib.hid hW3
    clear r0 r1 l0 l1 HREST hW3
    have hw2 : IntKind.i64.wrap (k : Int) = (k : Int) := IntWalk.i64_in _ (by omega)
    go_still_tail 14, (by kernel_rfl)
    change wpList _ _ _ _ _ W2.drew
    clear hw1 hw2
    go_wp2_with fail
    rw [← HW3.out]
    go_still_tail 6, (by kernel_rfl)
    change wpList _ _ _ _ _ W3.drew
    clear c0 c1 z0 z1 g0 g1 g2 d1 d2
    have hne : ((g H k).1 == (g H i).1) = false := beq_eq_false_iff_ne.2 fun e => hlne.out e
    have HSET := Lib.hid (settle_any (N := N - 1) (N' := N - 1) (fx := some k) ⟨HX.out.1, hnear, htold, List.Perm.refl _, HWF.out, hlast⟩ (by rw [List.length_set, List.length_take]; omega) (by omega) rfl)
    have HXX : Hid (∀ w5, Chg (foot m rb) w4 w5 → w5.cell? ⟨b5, 0, none⟩ = some (.int .i64 (g H i).1) ∧ w5.cell? ⟨b5, 1, none⟩ = some (.int .i64 (g H i).2) ∧ w5.heap[w.heap.size]? = some (.cells #[.int .i64 0, .int .i64 0] 130 (0, 0))) := Lib.hid fun w5 hc => by
      obtain ⟨_, _, x1, x2, _⟩ := HX.out
      have k5 : w5.heap[b5]? = _ := hc.heap x2 (fun e => by rcases e with e | e <;> omega)
      exact ⟨(two_cells' k5).1, (two_cells' k5).2, hc.heap x1 (fun e => by rcases e with e | e <;> omega)⟩
    go_wp2_with (go_at_call 86; refine HSET.out.mono ?_; rintro e w5 ⟨rfl, H', f', hh', hH', hT', hP', hc5⟩; obtain ⟨j0, j1, j2⟩ := HXX.out w5 hc5; obtain ⟨j3, j4, j5, j6, _⟩ := two_all j2; have HF := Lib.hid (⟨hh', hH', hT', hP', hc5⟩ : Held w5 t m rb cap H' f' (N - 1) ∧ Heap H' ∧ Tells f' H' ∧ H'.Perm ((H.take k).set i (g H k)) ∧ Chg (foot m rb) w4 w5); clear hh' hH' hT' hP' hc5 j2)
    refine bodyPost_ret (v := .agg #[.int .i64 (g H i).1, .int .i64 (g H i).2]) (by simp [results, Tryz.results87, go_sem, j3, j4]) rfl ⟨rfl, H', f', ?_⟩
    obtain ⟨f1, f2, f3, f4, f5⟩ := HF.out
    have hcz : Chg (fun k => k = w.heap.size) w5 _ := (Chg.set w5 w.heap.size 0 (.int .i64 (g H i).1)).trans (Chg.set _ w.heap.size 1 (.int .i64 (g H i).2)) fun _ _ e => e
    refine ⟨f1.keep hcz (fun e => by omega) (fun e => by omega) (fun e => by omega), f2, f3, f4.trans hperm, ?_⟩
    obtain ⟨_, x3, _⟩ := HX.out
    exact (x3.trans f5 fun i _ e => .inr e).trans hcz fun i hi e => absurd hi (by omega)
end Go.Proofs.YtdjieapobodakaaGreatDoor.Tim
end

section
namespace Go.Proofs.YtdjieapobodakaaGreatDoor.Tim
open Go Go.RowKit Go.Maps
set_option maxRecDepth 100000

set_option maxHeartbeats 4000000 in
set_option maxRecDepth 100000 in
theorem take_last {w : World} {t m rb cap N : Nat} {H : List It} {f : Int → Option Nat} (h : Held w t m rb cap H f N) (hH : Heap H) (hT : Tells f H) (hwf : ∀ y ∈ H, wfk y.1) {k : Nat} (hk : H.length = k + 1) (hl : H.length < 1000000) :
    Calls Tryz.prog 87 #[.pointer (some ⟨t, 0, none⟩), .int .i64 k] w (TakeSaid t m rb cap N H (g H k) w) := by
  obtain ⟨W, hW⟩ : ∃ W, W = w.alloc (.cells #[.int .i64 0, .int .i64 0] 130) := ⟨_, rfl⟩
  have hb : Below w.heap.size w W := by rw [hW]; exact (Below.refl _ _).alloc (Nat.le_refl _) _
  have hrb : rb < w.heap.size := (h.row.lt rb rfl).2
  have hm : m < w.heap.size := h.map.lt
  have htl : t < w.heap.size := lt_of_block h.blk
  have hil : k < H.length := by omega
  have HB1 := Lib.hid (Boxes.mk1 (x := g H k) (y := g H k) h hW)
  have HB2 := Lib.hid (Boxes.mk2 (x := g H k) (y := g H k) h hW)
  have hfi : f (g H k).1 = some k := hT.at_ k hil
  have hwi : wfk (g H k).1 := hwf _ (g_mem hil)
  obtain ⟨hheap, htells, hperm⟩ := last_goes hH hT hk
  have HREST : Hid (∀ b5 b6 W2, Boxes w t m rb cap N H f (g H k) (g H k) b5 b6 W2 → ∃ W3 w4, W3 = (W2.setCell ⟨t, 0, none⟩ (.slice (some ⟨rb, 0, none⟩) k cap)).drew ∧ W3.cell? ⟨t, 1, none⟩ = some (.map (some m)) ∧ W3.cell? ⟨b5, 0, none⟩ = some (.int .i64 (g H k).1) ∧
      (Builtin.delete_ #[68, 3] 0 #[.map (some m), .int .i64 (g H k).1]).run Tryz.prog W3.drew = .ok (.tuple #[]) w4 ∧ w4.cell? ⟨b5, 0, none⟩ = some (.int .i64 (g H k).1) ∧ w4.cell? ⟨b5, 1, none⟩ = some (.int .i64 (g H k).2) ∧ w4.cell? ⟨b6, 0, none⟩ = some (.int .i64 (g H k).1) ∧ w4.cell? ⟨b6, 1, none⟩ = some (.int .i64 (g H k).2) ∧
      Hid (Held w4 t m rb cap (H.take k) (del f (g H k).1) (N - 1) ∧ Chg (fun k => k = t ∨ foot m rb k) w w4 ∧ w4.heap[w.heap.size]? = some (.cells #[.int .i64 0, .int .i64 0] 130 (0, 0)) ∧ w4.heap[b5]? = some (.cells #[.int .i64 (g H k).1, .int .i64 (g H k).2] 130 (0, 0)) ∧ w.heap.size < b5)) := Lib.hid (by
    intro b5 b6 W2 hB
    have h0 := hB.held.less (k := k) (by omega)
    have h1 := h0.1.keep (Φ := fun _ => False) (Chg.drew _) id id id
    obtain ⟨w4, hr, hpl, _, hc4⟩ := (h1.keep (Φ := fun _ => False) (Chg.drew _) id id id).map.drop hwi (by rw [hfi]; rfl) 0
    have c1 : Chg (fun k => k = t) W2 ((W2.setCell ⟨t, 0, none⟩ (.slice (some ⟨rb, 0, none⟩) k cap)).drew) := h0.2.trans (Chg.drew (Φ := fun _ => False) _) fun _ _ e => e.elim
    have c2 : Chg (fun k => k = t ∨ k = m) W2 w4 := ((c1.trans (Chg.drew (Φ := fun _ => False) _) fun _ _ e => e.elim).mono (Ψ := fun k => k = t ∨ k = m) fun _ _ e => .inl e).trans hc4 fun _ _ e => .inr e
    have hb5 := hB.b5
    have hb6 := hB.b6
    have k5 : w4.heap[b5]? = _ := c2.heap hB.x0 (fun e => by rcases e with e | e <;> omega)
    have k6 : w4.heap[b6]? = _ := c2.heap hB.y0 (fun e => by rcases e with e | e <;> omega)
    have k0 : w4.heap[w.heap.size]? = _ := c2.heap hB.r0 (fun e => by rcases e with e | e <;> omega)
    have k3 : ((W2.setCell ⟨t, 0, none⟩ (.slice (some ⟨rb, 0, none⟩) k cap)).drew).heap[b5]? = _ := c1.heap hB.x0 (fun e => by omega)
    refine ⟨_, w4, rfl, (two_cells' h1.blk).2, (two_cells' k3).1, hr, (two_cells' k5).1, (two_cells' k5).2, (two_cells' k6).1, (two_cells' k6).2, Lib.hid ⟨⟨hc4.heap h1.blk h1.t_m, hc4.own h1.row (fun g hg => by simp [Value.ownBlock] at hg; rw [← hg]; exact h1.rb_m), hpl⟩, ?_, k0, k5, hb5⟩⟩
    exact (Chg.of_below (Φ := fun k => k = t ∨ foot m rb k) hB.chg).trans c2 fun i _ e => by
      rcases e with e | e
      · exact .inl e
      · exact .inr (.inl e))
  have hh := h.below hb
  obtain ⟨c0, c1⟩ := two_cells' hh.blk
  obtain ⟨r0, r1⟩ := hh.cell hil
  obtain ⟨l0, l1⟩ := hh.cell (j := k) (by omega)
  obtain ⟨_, _, hc1, hc2⟩ := hh.rowb
  unfold maxLen at hc2
  have hsz : W.heap.size = w.heap.size + 1 := by rw [hW]; simp
  have hW' := Lib.hid hW
  have hi' : (k : Int) < H.length := by omega
  have hk1 : (H.length : Int) - 1 = (k : Int) := by omega
  have hk2 : (k : Int) < H.length := by omega
  have hk3 : k ≤ cap := by omega
  have hrW : rb < W.heap.size := by omega
  have htW : t < W.heap.size := by omega
  have HS := Lib.hid hsz
  have HSAY : Hid (∀ w', TakeSaid t m rb cap N H (g H k) w (.returned (.agg #[.int .i64 (g H k).1, .int .i64 (g H k).2])) w' → TakeSaid t m rb cap N H (g H k) w (.returned (.agg #[.int .i64 (g H k).1, .int .i64 (g H k).2])) w') := Lib.hid fun _ h => h
  clear hsz hb hW hfi hH hT hwf hh hwi
  go_enter Tryz.func87, Tryz.ntmps87
  go_wp2_with fail
  rw [← hW'.out]
  have hw1 : IntKind.i64.wrap ((H.length : Int) - 1) = (k : Int) := by rw [hk1]; exact IntWalk.i64_in _ (by omega)
  clear h hk
  go_region
  · go_wp2_with fail
    have HB := HB1
    clear HB1 HB2
    have HB5 := HB.out.b5
    have HB6 := HB.out.b6
    generalize W.heap.size + 1 = b6 at *
    generalize W.heap.size = b5 at *
    generalize ((W.alloc (.cells #[.int .i64 (g H k).1, .int .i64 (g H k).2] 130)).alloc (.cells #[.int .i64 (g H k).1, .int .i64 (g H k).2] 130)).drew = W2 at HB ⊢
    obtain ⟨W3, w4, hW3, d1, d2, hdel, e0, e1, e2, e3, HX⟩ := HREST.out b5 b6 W2 HB.out
    obtain ⟨c0, c1, z0, z1, _⟩ := two_all HB.out.held.blk
    obtain ⟨_, _, g0, g1, g2⟩ := two_all HB.out.x0
    have HW3 := Lib.hid hW3
    clear r0 r1 l0 l1 HREST hW3
    have hw2 : IntKind.i64.wrap (k : Int) = (k : Int) := IntWalk.i64_in _ (by omega)
    go_still_tail 14, (by kernel_rfl)
    change wpList _ _ _ _ _ W2.drew
    clear hw1 hw2
    go_wp2_with fail
    rw [← HW3.out]
    go_still_tail 6, (by kernel_rfl)
    change wpList _ _ _ _ _ W3.drew
    clear c0 c1 z0 z1 g0 g1 g2 d1 d2
    have hne : ((g H k).1 == (g H k).1) = true := beq_self_eq_true _
    obtain ⟨j3, j4, j5, j6, _⟩ := two_all HX.out.2.2.1
    go_wp2_with fail
    refine bodyPost_ret (v := .agg #[.int .i64 (g H k).1, .int .i64 (g H k).2]) (by simp [results, Tryz.results87, go_sem, j3, j4]) rfl ⟨rfl, H.take k, del f (g H k).1, ?_⟩
    obtain ⟨x1, x3, _⟩ := HX.out
    have hcz : Chg (fun k => k = w.heap.size) w4 _ := (Chg.set w4 w.heap.size 0 (.int .i64 (g H k).1)).trans (Chg.set _ w.heap.size 1 (.int .i64 (g H k).2)) fun _ _ e => e
    exact ⟨x1.keep hcz (fun e => by omega) (fun e => by omega) (fun e => by omega), hheap, htells, hperm, x3.trans hcz fun i hi e => absurd hi (by omega)⟩
  · go_wp2_with fail
    have HB := HB2
    clear HB1 HB2
    have HB5 := HB.out.b5
    have HB6 := HB.out.b6
    generalize W.heap.size + 1 = b5 at *
    generalize W.heap.size = b6 at *
    generalize ((W.alloc (.cells #[.int .i64 (g H k).1, .int .i64 (g H k).2] 130)).alloc (.cells #[.int .i64 (g H k).1, .int .i64 (g H k).2] 130)).drew = W2 at HB ⊢
    obtain ⟨W3, w4, hW3, d1, d2, hdel, e0, e1, e2, e3, HX⟩ := HREST.out b5 b6 W2 HB.out
    obtain ⟨c0, c1, z0, z1, _⟩ := two_all HB.out.held.blk
    obtain ⟨_, _, g0, g1, g2⟩ := two_all HB.out.x0
    have HW3 := Lib.hid hW3
    clear r0 r1 l0 l1 HREST hW3
    have hw2 : IntKind.i64.wrap (k : Int) = (k : Int) := IntWalk.i64_in _ (by omega)
    go_still_tail 14, (by kernel_rfl)
    change wpList _ _ _ _ _ W2.drew
    clear hw1 hw2
    go_wp2_with fail
    rw [← HW3.out]
    go_still_tail 6, (by kernel_rfl)
    change wpList _ _ _ _ _ W3.drew
    clear c0 c1 z0 z1 g0 g1 g2 d1 d2
    have hne : ((g H k).1 == (g H k).1) = true := beq_self_eq_true _
    obtain ⟨j3, j4, j5, j6, _⟩ := two_all HX.out.2.2.1
    go_wp2_with fail
    refine bodyPost_ret (v := .agg #[.int .i64 (g H k).1, .int .i64 (g H k).2]) (by simp [results, Tryz.results87, go_sem, j3, j4]) rfl ⟨rfl, H.take k, del f (g H k).1, ?_⟩
    obtain ⟨x1, x3, _⟩ := HX.out
    have hcz : Chg (fun k => k = w.heap.size) w4 _ := (Chg.set w4 w.heap.size 0 (.int .i64 (g H k).1)).trans (Chg.set _ w.heap.size 1 (.int .i64 (g H k).2)) fun _ _ e => e
    exact ⟨x1.keep hcz (fun e => by omega) (fun e => by omega) (fun e => by omega), hheap, htells, hperm, x3.trans hcz fun i hi e => absurd hi (by omega)⟩
end Go.Proofs.YtdjieapobodakaaGreatDoor.Tim
end

section
namespace Go.Proofs.YtdjieapobodakaaGreatDoor.Tim
open Go Go.RowKit Go.Maps
set_option maxRecDepth 100000

section
variable {P : Program} {w : World}
/-- 'append' to a row of the call's own, as one step of a region that draws its order; and where the new row lies. -/
theorem step_append_where {ops : Array Oper} {o : Oper} {a : Act} {K : Act → World → Prop} {Q : Exit → Act → World → Prop} {E : Prop} (hgd : o.guard = none) (s x : Operand) (t : TypeId)
    (ho : o.op = .call { callee := .builtin .append, args := #[s, x], argTypes := #[t, t] })
    (base : Nat) (e : TypeId) (i : TypeInfo) (z : Value) (size bytes : Nat) (ht : P.underlying t = some (.slice e)) (hi : P.info? e = some i) (hz : i.zero = some z)
    (hsize : i.size = size) (hby : i.bytes = bytes) (hzs : z.cells.size = size) (hsz : 0 < size)
    (v : Value) (n : Nat) (xs : List Value) (hs : a.eval s = v) (hown : w.ownsRow base e size v n xs)
    (A : Option Addr) (m c : Nat) (news : List Value) (hx : a.eval x = .slice A m c) (hl : news.length = m * size) (hnil : A = none → m = 0 ∧ c = 0)
    (hnews : ∀ ad, A = some ad → ∀ j u, news[j]? = some u → w.cell? (ad.add j) = some u) (h1 : ∀ u ∈ news, u.oneCell' = true)
    (h63 : n + m ≤ maxLen) (hbytes : (n + m) * bytes ≤ 140737488355328) (hbase : base ≤ w.heap.size)
    (h : ∀ v' w', w'.ownsRow base e size v' (n + m) (xs ++ news) → w.grownBy w' v.ownBlock → (v'.ownBlock = v.ownBlock ∨ v'.ownBlock = some w.heap.size) → K (a.put o.dst v') w') :
    if Region.wanted o (yielded ops a.tmps) = true then Oper.wp P o a w K Q else E := by
  have hw : Region.wanted o (yielded ops a.tmps) = true := by simp [Region.wanted, hgd]
  rw [if_pos hw]
  rcases A with _ | ad
  · obtain ⟨rfl, rfl⟩ := hnil rfl
    have hn : news = [] := List.eq_nil_of_length_eq_zero (by simpa using hl)
    subst hn
    have hrun := run_append_owned_none (P := P) w base t o.type e i size ht hi v n xs hown
    unfold Oper.wp
    simp [execOp, ho, resolve, invoke, builtin, hs, hx, hrun, Result.andThen]
    exact h v w (by simpa using hown) (World.grownBy.refl _ _) (.inl rfl)
  · obtain ⟨v', w', hrun, h2, h3, _, h5⟩ := run_append_own_at (P := P) w base t o.type e i z size bytes ht hi hz hsize hby hzs hsz v n xs hown ad m c news hl (hnews ad rfl) h1 h63 hbytes hbase
    unfold Oper.wp
    simp [execOp, ho, resolve, invoke, builtin, hs, hx, hrun, Result.andThen]
    exact h v' w' h2 h3 h5
end


theorem two_allS {w : World} {b : Nat} {x y : Value} {t : TypeId} (h : w.heap[b]? = some (.cells #[x, y] t (0, 0))) :
    w.cell? ⟨b, 0, none⟩ = some x ∧ w.cell? ⟨b, 1, none⟩ = some y ∧ w.frozen? ⟨b, 0, none⟩ = false ∧ w.frozen? ⟨b, 1, none⟩ = false ∧ b < w.heap.size := by
  obtain ⟨h1, h2, h3, h4⟩ := two_cells h
  exact ⟨h1, h2, h3, h4, lt_of_block h⟩
theorem info_item : (Tryz.prog.info? 130).map (fun i => (i.zero, i.size, i.bytes)) = some (some (.agg #[.int .i64 0, .int .i64 0]), 2, 16) := by kernel_rfl
theorem news_item (w : World) (x y : Value) (t : TypeId) : ∀ ad, some (⟨w.heap.size, 0, none⟩ : Addr) = some ad → ∀ j u, [x, y][j]? = some u → (w.alloc (.cells #[x, y] t)).cell? (ad.add j) = some u := by
  intro ad had j u hu
  obtain rfl := Option.some.inj had
  rcases j with _ | _ | j
  · rw [Addr.add_lit, cell_of_row _ _ _ _ _ _ (heap_alloc_new w _)]
    simpa using hu
  · rw [Addr.add_lit, cell_of_row _ _ _ _ _ _ (heap_alloc_new w _)]
    simpa using hu
  · simp at hu
theorem one_cell2 (x y : Int) : ∀ u ∈ [Value.int .i64 x, .int .i64 y], u.oneCell' = true := by
  intro u hu
  simp at hu
  rcases hu with rfl | rfl <;> rfl

/-- What a call that may change a timer leaves. -/
def TOp (t : Nat) (R : List It) (Φ : Nat → Prop) (w w' : World) : Prop := TimerAt w' t R (more Φ w) ∧ Chg Φ w w'
section
variable {w w' : World} {t m rb cap N : Nat} {H R : List It} {f : Int → Option Nat} {Φ : Nat → Prop}
theorem TimerL.of_held (h : Held w t m rb cap H f N) (hN : N = H.length) (hH : Heap H) (hT : Tells f H) (hwf : ∀ y ∈ H, wfk y.1) (hΦ : Φ t ∧ Φ m ∧ Φ rb) : TimerL w t m (.slice (some ⟨rb, 0, none⟩) H.length cap) H f Φ :=
  ⟨h.blk, h.row, by rw [← hN]; exact h.map, hH, hT, hwf, hΦ.1, hΦ.2.1, fun g hg => by simp [Value.ownBlock] at hg; rw [← hg]; exact hΦ.2.2⟩
end

def SetSaid (t : Nat) (R : List It) (Φ : Nat → Prop) (w : World) (e : Ending) (w' : World) : Prop := e = .returned (.tuple #[]) ∧ TOp t R Φ w w'

set_option maxHeartbeats 1600000 in
set_option maxRecDepth 100000 in
theorem Set_old {w : World} {t m : Nat} {v : Value} {H R : List It} {f : Int → Option Nat} {Φ : Nat → Prop} (ho : Ord R) (hp : H.Perm R) (hl : TimerL w t m v H f Φ) (hn : R.length < 900000) (x : It) (hx : wfk x.1) {p : Nat} (hf : f x.1 = some p) :
    Calls Tryz.prog 57 #[.pointer (some ⟨t, 0, none⟩), .int .i64 x.1, .int .i64 x.2] w (SetSaid t (setR R x) Φ w) := by
  obtain ⟨W, hW⟩ : ∃ W, W = w.alloc (.cells #[.int .i64 x.1, .int .i64 x.2] 130) := ⟨_, rfl⟩
  have hb : Below w.heap.size w W := by rw [hW]; exact (Below.refl _ _).alloc (Nat.le_refl _) _
  have hlW : TimerL W t m v H f Φ := hl.keep (Ψ := fun _ => False) (Chg.of_below hb) fun _ _ => id
  obtain ⟨hpl, hpi⟩ := hl.tells.place hf
  obtain ⟨rb, cap, rfl, hh⟩ := hlW.held (by omega)
  have hlen := hp.length_eq
  have hΦ := hl.inn
  have hlk := hlW.map.look hx
  have hlk' : (Instr.lookup 68 (.map (some m)) (.int .i64 x.1) true).run Tryz.prog W = .ok (.tuple #[.int .i64 (p : Int), .bool true]) W := by
    rw [hlk]
    unfold plc
    rw [hf]
    rfl
  obtain ⟨c0, c1⟩ := two_cells' hlW.blk
  have q0 : W.cell? ⟨w.heap.size, 0, none⟩ = some (.int .i64 x.1) := by rw [hW]; simp
  have q1 : W.cell? ⟨w.heap.size, 1, none⟩ = some (.int .i64 x.2) := by rw [hW]; simp
  have hperm : (H.set p x).Perm (setR R x) := by
    have h1 := set_perm hl.tells.nodup hpl x
    rw [hpi] at h1
    exact h1.trans (((dropR_perm hp x.1).cons x).trans (setR_perm R x).symm)
  have HSET := Lib.hid (settle_any (N := H.length) (N' := H.length) (fx := some p) ⟨hh, hl.heap.near p, hl.tells.told hpl hpi.symm, List.Perm.refl _, fun y hy => by
    rcases List.mem_or_eq_of_mem_set hy with hy | rfl
    · exact hl.wf y hy
    · exact hx, hf⟩ (by rw [List.length_set]; omega) (by omega) rfl)
  have HEND : Hid (∀ w', SettleSaid t m rb cap H.length (H.set p x) W (.returned (.tuple #[])) w' → SetSaid t (setR R x) Φ w (.returned (.tuple #[])) w') := Lib.hid fun w' ⟨_, H', f', h1, h2, h3, h4, h5⟩ => by
    have hrΦ : Φ rb := hΦ.2.2 rb rfl
    refine ⟨rfl, ⟨ho.set x, m, _, H', f', h4.trans hperm, TimerL.of_held h1 ?_ h2 h3 ?_ ⟨.inl hΦ.1, .inl hΦ.2.1, .inl hrΦ⟩⟩, ?_⟩
    · have := h4.length_eq
      rw [List.length_set] at this
      exact this.symm
    · intro y hy
      rcases List.mem_or_eq_of_mem_set ((h4.mem_iff).1 hy) with hy | rfl
      · exact hl.wf y hy
      · exact hx
    · exact (Chg.of_below (Φ := Φ) hb).trans h5 fun i _ e => by
        rcases e with rfl | rfl
        · exact hΦ.2.1
        · exact hrΦ
  have hW' := Lib.hid hW
  clear hlk hW hb hlW hh hl hp ho hperm hf hpi
  go_enter Tryz.func57, Tryz.ntmps57
  go_upto_region 1 with fail
  rw [← hW'.out]
  go_wp2_with (go_at_call 86; refine HSET.out.mono ?_; rintro e w1 hs; have hs2 := hs; obtain ⟨rfl, _⟩ := hs2; have HX := Lib.hid (HEND.out w1 hs); clear hs)
  go_end0
  exact HX.out

set_option maxHeartbeats 1600000 in
set_option maxRecDepth 100000 in
theorem Set_new {w : World} {t m : Nat} {v : Value} {H R : List It} {f : Int → Option Nat} {Φ : Nat → Prop} (ho : Ord R) (hp : H.Perm R) (hl : TimerL w t m v H f Φ) (hn : R.length < 900000) (x : It) (hx : wfk x.1) (hf : f x.1 = none) :
    Calls Tryz.prog 57 #[.pointer (some ⟨t, 0, none⟩), .int .i64 x.1, .int .i64 x.2] w (SetSaid t (setR R x) Φ w) := by
  obtain ⟨W, hW⟩ : ∃ W, W = w.alloc (.cells #[.int .i64 x.1, .int .i64 x.2] 130) := ⟨_, rfl⟩
  have hb : Below w.heap.size w W := by rw [hW]; exact (Below.refl _ _).alloc (Nat.le_refl _) _
  have hlW : TimerL W t m v H f Φ := hl.keep (Ψ := fun _ => False) (Chg.of_below hb) fun _ _ => id
  have hlen := hp.length_eq
  have hΦ := hl.inn
  have hlk := hlW.map.look hx
  have hlk' : (Instr.lookup 68 (.map (some m)) (.int .i64 x.1) true).run Tryz.prog W = .ok (.tuple #[.int .i64 (plc f x.1), .bool false]) W := by
    rw [hlk, hf]
    rfl
  obtain ⟨c0, c1, z0, z1, hcl⟩ := two_allS hlW.blk
  have hbox : W.heap[w.heap.size]? = some (.cells #[.int .i64 x.1, .int .i64 x.2] 130 (0, 0)) := by rw [hW]; exact heap_alloc_new _ _
  obtain ⟨q0, q1, _, _, hql⟩ := two_allS hbox
  have hperm : (H ++ [x]).Perm (setR R x) := by
    have h1 : dropR R x.1 = R := dropR_none fun y hy => hl.tells.none hf y ((hp.mem_iff).2 hy)
    have h2 := setR_perm R x
    rw [h1] at h2
    exact (List.perm_append_singleton x H).trans ((hp.cons x).trans h2.symm)
  have htm : t ≠ m := fun e => by
    obtain ⟨es, c, hbm⟩ := hlW.map.blk
    rw [← e, hlW.blk] at hbm
    cases hbm
  have hvt : v.ownBlock ≠ some t := fun e => by
    rcases hlW.row.2 with ⟨e1, _⟩ | ⟨g', _, cur, e1, _, hg', _⟩
    · rw [e1] at e; cases e
    · rw [e1] at e
      obtain rfl : g' = t := by simpa [Value.ownBlock] using e
      rw [hlW.blk] at hg'
      simp at hg'
  have hvm : v.ownBlock ≠ some m := fun e => by
    rcases hlW.row.2 with ⟨e1, _⟩ | ⟨g', _, cur, e1, _, hg', _⟩
    · rw [e1] at e; cases e
    · rw [e1] at e
      obtain rfl : g' = m := by simpa [Value.ownBlock] using e
      obtain ⟨es, c, hbm⟩ := hlW.map.blk
      rw [hbm] at hg'
      cases hg'
  have hvb : v.ownBlock ≠ some w.heap.size := fun e => by
    have := (hl.row.lt _ e).2
    omega
  -- behind the append
  have HAP : Hid (∀ v2 w2, w2.ownsRow 0 130 2 v2 (H.length + 1) (flat H ++ [.int .i64 x.1, .int .i64 x.2]) → (W.drew.alloc (.cells #[.int .i64 x.1, .int .i64 x.2] 130)).grownBy w2 v.ownBlock → (v2.ownBlock = v.ownBlock ∨ v2.ownBlock = some (W.drew.alloc (.cells #[.int .i64 x.1, .int .i64 x.2] 130)).heap.size) →
      ∃ rb cap, v2 = .slice (some ⟨rb, 0, none⟩) (H.length + 1) cap ∧ w2.cell? ⟨t, 0, none⟩ = some v ∧ w2.frozen? ⟨t, 0, none⟩ = false ∧
        Hid (∀ w3, w3 = w2.setCell ⟨t, 0, none⟩ (.slice (some ⟨rb, 0, none⟩) (H.length + 1) cap) → w3.cell? ⟨w.heap.size, 0, none⟩ = some (.int .i64 x.1) ∧ w3.cell? ⟨w.heap.size, 1, none⟩ = some (.int .i64 x.2) ∧
          Calls Tryz.prog 86 #[.pointer (some ⟨t, 0, none⟩), .int .i64 (H.length : Nat), .agg #[.int .i64 x.1, .int .i64 x.2]] w3 (fun e w' => e = .returned (.tuple #[]) ∧ Hid (SetSaid t (setR R x) Φ w (.returned (.tuple #[])) w')))) := Lib.hid (by
    intro v2 w2 hown hg hv2
    obtain ⟨rb, cap, rfl, _, hrl⟩ := hown.form (by omega)
    have cg : Chg (fun k => v.ownBlock = some k) W w2 := ((Chg.drew (Φ := fun k => v.ownBlock = some k) W).trans (Chg.alloc (Φ := fun k => v.ownBlock = some k) _ _) fun _ _ e => e).trans (Chg.of_grown hg) fun _ _ e => e
    have ht2 := cg.heap hlW.blk (fun e => hvt e)
    have hm2 : Places w2 m f H.length := hlW.map.keep cg fun e => hvm e
    have hx2 := cg.heap hbox fun e => hvb e
    obtain ⟨k0, _, k2, _, _⟩ := two_allS ht2
    refine ⟨rb, cap, rfl, k0, k2, Lib.hid ?_⟩
    rintro w3 rfl
    have hrt : rb ≠ t := fun e => by
      rcases hown.2 with ⟨e1, _⟩ | ⟨g', _, cur, e1, _, hg', _⟩
      · cases e1
      · cases e1
        rw [e, ht2] at hg'
        simp at hg'
    have c3 := Chg.set w2 t 0 (.slice (some ⟨rb, 0, none⟩) (H.length + 1) cap)
    have hx3 := c3.heap hx2 fun e => by have := lt_of_block hl.blk; omega
    have hl1 : (H ++ [x]).length = H.length + 1 := by simp
    have hheld : Held (w2.setCell ⟨t, 0, none⟩ (.slice (some ⟨rb, 0, none⟩) (H.length + 1) cap)) t m rb cap (H ++ [x]) f H.length := by
      refine ⟨?_, ?_, hm2.keep c3 fun e => htm e.symm⟩
      · rw [hl1]
        exact two_set0 ht2 _
      · rw [hl1, flat_append, flat_one]
        exact c3.own hown fun g hg => by simp [Value.ownBlock] at hg; rw [← hg]; exact hrt
    have hset := settle_any (N := H.length) (N' := H.length + 1) (fx := none) (x := x) (G := H ++ [x]) (i := H.length) ⟨hheld, hl.heap.more x, hl.tells.more hf, by rw [List.set_append_right _ _ (Nat.le_refl _), Nat.sub_self]; exact List.Perm.refl _, fun y hy => by
      rcases List.mem_append.1 hy with hy | hy
      · exact hl.wf y hy
      · simp at hy
        rw [hy]
        exact hx, hf⟩ (by rw [hl1]; omega) (by omega) rfl
    refine ⟨(two_cells' hx3).1, (two_cells' hx3).2, hset.mono ?_⟩
    rintro e w' ⟨rfl, H', f', h1, h2, h3, h4, h5⟩
    have hrb : more Φ w rb := by
      rcases hv2 with e | e
      · exact .inl (hΦ.2.2 rb e.symm)
      · refine .inr ?_
        simp [Value.ownBlock] at e
        have := hb.size
        rw [e]
        omega
    refine ⟨rfl, Lib.hid ⟨rfl, ⟨ho.set x, m, _, H', f', h4.trans hperm, TimerL.of_held h1 ?_ h2 h3 ?_ ⟨.inl hΦ.1, .inl hΦ.2.1, hrb⟩⟩, ?_⟩⟩
    · have := h4.length_eq
      rw [hl1] at this
      exact this.symm
    · intro y hy
      rcases List.mem_append.1 ((h4.mem_iff).1 hy) with hy | hy
      · exact hl.wf y hy
      · simp at hy
        rw [hy]
        exact hx
    · have c4 : Chg Φ w w2 := (Chg.of_below (Φ := Φ) hb).trans cg fun i _ e => hΦ.2.2 i e
      have c5 : Chg Φ w (w2.setCell ⟨t, 0, none⟩ (.slice (some ⟨rb, 0, none⟩) (H.length + 1) cap)) := c4.trans c3 fun i _ e => by rw [e]; exact hΦ.1
      refine c5.trans h5 fun i hi e => ?_
      rcases e with rfl | rfl
      · exact hΦ.2.1
      · rcases hrb with e | e
        · exact e
        · omega)
  obtain ⟨A, c, rfl, hcm, hcn, _⟩ := own_isSlice hlW.row
  unfold maxLen at hcm
  have HOWN := Lib.hid hlW.row
  obtain ⟨i0, hi, hz0, hz1, hz2⟩ := info_parts info_item
  have hW' := Lib.hid hW
  have hHn : H.length < 900000 := by omega
  clear hlk hW hb hlW hl hp ho hperm hf htm hvt hvm hvb hbox hΦ hlen
  go_enter Tryz.func57, Tryz.ntmps57
  go_upto_region 1 with fail
  rw [← hW'.out]
  go_wp2_with fail
  go_region_law (refine step_append_where (o := ⟨some 35, _, _, _, _, _⟩) rfl (.tmp 32) (.tmp 34) 127 rfl 0 130 i0 _ 2 16 Tryz.underlying127 hi hz0 hz1 hz2 rfl (by omega) _ H.length _ rfl ((HOWN.out.drew).alloc _) (some ⟨W.heap.size, 0, none⟩) 1 1 [.int .i64 x.1, .int .i64 x.2] rfl rfl (fun e => by cases e) (news_item W.drew _ _ _) (one_cell2 _ _) (by unfold maxLen; omega) (by omega) (Nat.zero_le _) ?_; intro v2 w2 ho2 hg2 hw2; obtain ⟨rb, cap, rfl, k0, k1, HX⟩ := HAP.out v2 w2 ho2 hg2 hw2; clear ho2 hg2 hw2)
  all_goals
    obtain ⟨w3, hw3⟩ : ∃ w3, w3 = w2.setCell ⟨t, 0, none⟩ (.slice (some ⟨rb, 0, none⟩) (H.length + 1) cap) := ⟨_, rfl⟩
    obtain ⟨p0, p1, hcall⟩ := HX.out w3 hw3
    have HC := Lib.hid hcall
    rw [← hw3]
    clear hw3 hcall k0 k1
    go_wp2_with (go_at_call 86; refine HC.out.mono ?_; rintro e w4 ⟨rfl, HY⟩)
    go_end0
    exact HY.out

theorem Set_any {w : World} {t : Nat} {R : List It} {Φ : Nat → Prop} (h : TimerAt w t R Φ) (hn : R.length < 900000) (x : It) (hx : wfk x.1) :
    Calls Tryz.prog 57 #[.pointer (some ⟨t, 0, none⟩), .int .i64 x.1, .int .i64 x.2] w (SetSaid t (setR R x) Φ w) := by
  obtain ⟨ho, m, v, H, f, hp, hl⟩ := h
  cases hf : f x.1 with
  | none => exact Set_new ho hp hl hn x hx hf
  | some p => exact Set_old ho hp hl hn x hx hf
end Go.Proofs.YtdjieapobodakaaGreatDoor.Tim
end
