/- What is proved here: what 'rise' and 'sink' do: a hole goes up, and down, to where a thing belongs. -/
import Derived.Test.YtednibjemboclaaCmp
import Derived.Shelf.SlSortCmp.QuietGrown
namespace Go.Proofs.Ytednibjemboclaa
open Go Go.RowKit Go.Sort

theorem below_grown {B : Nat} {a w : World} (h : Below B a w) (n : Nat) (os : Array Obj) (hB : B ≤ w.heap.size) : Below B a (grow (w.drewN n) os) :=
  ⟨h.os, h.tape, h.output, by have := h.size; simp; omega, fun k hk => by
    rw [heap_grow_old (w.drewN n) os (show k < w.heap.size by omega)]
    exact h.block k hk⟩
theorem Chg.grown (Φ : Nat → Prop) (w : World) (n : Nat) (os : Array Obj) : Chg Φ w (grow (w.drewN n) os) := Chg.of_below (below_grown (Below.refl _ _) n os (Nat.le_refl _))

/-- Memory holds things with a hole at i, which x is to fill; with x they are those of G. -/
structure Hole (w : World) (t m rb cap N : Nat) (H : List It) (f : Int → Option Nat) (i : Nat) (x : It) (G : List It) (fx : Option Nat) : Prop where
  held : Held w t m rb cap H f N
  near : Near H i
  told : Told f H i x
  perm : (H.set i x).Perm G
  wf : ∀ y ∈ G, wfk y.1
  same : f x.1 = fx
section
variable {w w' : World} {t m rb cap N : Nat} {H : List It} {f : Int → Option Nat} {i : Nat} {x : It} {G : List It} {fx : Option Nat}
theorem Hole.len (h : Hole w t m rb cap N H f i x G fx) : H.length = G.length := by
  have := h.perm.length_eq
  rwa [List.length_set] at this
theorem Hole.keep {Φ : Nat → Prop} (h : Hole w t m rb cap N H f i x G fx) (hc : Chg Φ w w') (ht : ¬ Φ t) (hm : ¬ Φ m) (hr : ¬ Φ rb) : Hole w' t m rb cap N H f i x G fx :=
  ⟨h.held.keep hc ht hm hr, h.near, h.told, h.perm, h.wf, h.same⟩
theorem Hole.below (h : Hole w t m rb cap N H f i x G fx) (hc : Below w.heap.size w w') : Hole w' t m rb cap N H f i x G fx :=
  h.keep (Φ := fun _ => False) (Chg.of_below hc) id id id
theorem Hole.wf_at (h : Hole w t m rb cap N H f i x G fx) {j : Nat} (hj : j < H.length) (hji : j ≠ i) : wfk (g H j).1 := by
  refine h.wf _ ((h.perm.mem_iff).1 ?_)
  rw [← g_other h.told.lt x hji]
  exact g_mem (by rw [List.length_set]; exact hj)
theorem Hole.other (h : Hole w t m rb cap N H f i x G fx) {j : Nat} (hj : j < H.length) (hji : j ≠ i) : (g H j).1 ≠ x.1 := fun e => by
  refine hji (nodup_g h.told.nodup (by rw [List.length_set]; exact hj) (by rw [List.length_set]; exact h.told.lt) ?_)
  rw [g_other h.told.lt x hji, g_same h.told.lt]
  exact e
/-- One step. -/
theorem Hole.move (h : Hole w t m rb cap N H f i x G fx) {a : Nat} (ha : a < H.length) (hai : a ≠ i) (hn : Near (H.set i (g H a)) a) (hh : Held w' t m rb cap (H.set i (g H a)) (upd f (g H a).1 i) N) :
    Hole w' t m rb cap N (H.set i (g H a)) (upd f (g H a).1 i) a x G fx :=
  ⟨hh, hn, h.told.step ha hai, (swap_perm h.told.lt ha hai x).trans h.perm, h.wf, by rw [upd_other _ _ (fun e => h.other ha hai e.symm)]; exact h.same⟩
theorem Hole.there (h : Hole w t m rb cap N H f i x G fx) {a : Nat} (ha : a < H.length) (hai : a ≠ i) : N = if (f (g H a).1).isSome then N else N + 1 := by
  rw [h.told.at_ a ha hai]
  rfl
end

/-- What rise tells. -/
def RiseSaid (t m rb cap N : Nat) (x : It) (G : List It) (fx : Option Nat) (w : World) (e : Ending) (w' : World) : Prop :=
  ∃ H f i, e = .returned (.int .i64 (i : Nat)) ∧ Hole w' t m rb cap N H f i x G fx ∧ (0 < i → le (g H ((i - 1) / 2)) x) ∧ Chg (foot m rb) w w'

set_option maxHeartbeats 1600000 in
set_option maxRecDepth 100000 in
theorem rise_any {w : World} {t m rb cap N : Nat} {H : List It} {f : Int → Option Nat} {i : Nat} {x : It} {G : List It} {fx : Option Nat} (h : Hole w t m rb cap N H f i x G fx) (hl : G.length < 1000000) (hN : N < 1000000) :
    Calls Try.prog 32 #[.pointer (some ⟨t, 0, none⟩), .int .i64 i, .agg #[.int .i64 x.1, .int .i64 x.2]] w (RiseSaid t m rb cap N x G fx w) := by
  obtain ⟨W, hW⟩ : ∃ W, W = w.alloc (.cells #[.int .i64 x.1, .int .i64 x.2] 41) := ⟨_, rfl⟩
  have hb : Below w.heap.size w W := by rw [hW]; exact (Below.refl _ _).alloc (Nat.le_refl _) _
  have hrb : rb < w.heap.size := (h.held.row.lt rb rfl).2
  have hm : m < w.heap.size := h.held.map.lt
  have q0 : W.cell? ⟨w.heap.size, 0, none⟩ = some (.int .i64 x.1) := by rw [hW]; simp
  have q1 : W.cell? ⟨w.heap.size, 1, none⟩ = some (.int .i64 x.2) := by rw [hW]; simp
  have hsz : w.heap.size < W.heap.size := by rw [hW]; simp
  have HX := Lib.hid (h.below hb)
  have HB : Hid (Chg (foot m rb) w W) := Lib.hid (Chg.of_below hb)
  have HQ : Hid (W.cell? ⟨w.heap.size, 0, none⟩ = some (.int .i64 x.1) ∧ W.cell? ⟨w.heap.size, 1, none⟩ = some (.int .i64 x.2) ∧ w.heap.size < W.heap.size) := Lib.hid ⟨q0, q1, hsz⟩
  have HG : Hid (G.length < 1000000) := Lib.hid hl
  have hW' := Lib.hid hW
  have hi0 : i < 1000000 := by have := h.told.lt; have := h.len; omega
  generalize hbx : w.heap.size = bx at *
  have HBX := Lib.hid hbx
  clear h hb q0 q1 hsz hW hl hbx
  have mixed : Try.prog.follows .mixedOrders = true := by kernel_rfl
  go_enter Try.func32, Try.ntmps32
  go_wp2_with fail
  rw [HBX.out, ← hW'.out]
  go_loopw [1] (fun v wr => ∃ (k : Nat) (H : List It) (f : Int → Option Nat), v = .int .i64 k ∧ k < 1000000 ∧ Hid (Hole wr t m rb cap N H f k x G fx ∧ Chg (foot m rb) w wr ∧ wr.cell? ⟨bx, 0, none⟩ = some (.int .i64 x.1) ∧ wr.cell? ⟨bx, 1, none⟩ = some (.int .i64 x.2) ∧ bx < wr.heap.size)) (fun v _ => (intOf v).toNat)
  case atStart => exact ⟨i, H, f, rfl, hi0, Lib.hid ⟨HX.out, HB.out, HQ.out⟩⟩
  case round =>
    clear HX HB HQ hW'
    obtain ⟨k, H, f, rfl, hk, HR⟩ := hrel
    obtain ⟨h, hc, b0, b1, hbs⟩ := HR.out
    by_cases hk0 : k = 0
    · subst hk0
      clear h hc b0 b1 hbs
      go_wp2
      go_ret
      exact ⟨H, f, 0, rfl, HR.out.1, fun e => by omega, HR.out.2.1⟩
    · obtain ⟨a, ha⟩ : ∃ a, a = (k - 1) / 2 := ⟨_, rfl⟩
      have hlen := h.len
      have hlt := h.told.lt
      have hal : a < H.length := by omega
      have hak : a ≠ k := by omega
      obtain ⟨c0, c1⟩ := two_cells' h.held.blk
      obtain ⟨r0, r1⟩ := h.held.cell hal
      obtain ⟨_, _, hcap1, hcap2⟩ := h.held.rowb
      unfold maxLen at hcap2
      obtain ⟨c, hcc⟩ : ∃ c, c = cmpf x (g H a) := ⟨_, rfl⟩
      have HCMP := Lib.hid fun W => compare_any x (g H a) W
      rw [← hcc] at HCMP
      have htl := lt_of_block h.held.blk
      have hrl := (h.held.row.lt rb rfl).2
      have c0' := cell_grown (a := ⟨t, 0, none⟩) htl c0
      have r0' := cell_grown (a := ⟨rb, a * 2, none⟩) hrl r0
      have r1' := cell_grown (a := ⟨rb, a * 2 + 1, none⟩) hrl r1
      have b0' := cell_grown (a := ⟨bx, 0, none⟩) hbs b0
      have b1' := cell_grown (a := ⟨bx, 1, none⟩) hbs b1
      have hpos : (0 : Int) < (k : Int) := by omega
      have hdiv : ((k - 1 : Nat) : Int) / 2 = (a : Int) := by omega
      have hdiv2 : ((k : Int) - 1) / 2 = (a : Int) := by omega
      have hup : Hid (0 < c → le (g H ((k - 1) / 2)) x) := Lib.hid fun hp => by
        rw [hcc, cmpf_pos] at hp
        rw [← ha]
        exact le_of_bef hp
      have hdn : Hid (¬ 0 < c → Near (H.set k (g H a)) a) := Lib.hid fun _ => by
        have := h.near.up hlt (by omega)
        rwa [← ha] at this
      have haN : (a : Int) < (H.length : Int) := by omega
      have HLEN := Lib.hid hlen
      have HA := Lib.hid ha
      clear h hc hcc c0 r0 r1 b0 b1 c1 hlen ha
      have HGR : Hid (∀ n os, Hole (grow (wr.drewN n) os) t m rb cap N H f k x G fx ∧ Chg (foot m rb) w (grow (wr.drewN n) os) ∧ (grow (wr.drewN n) os).cell? ⟨bx, 0, none⟩ = some (.int .i64 x.1) ∧ (grow (wr.drewN n) os).cell? ⟨bx, 1, none⟩ = some (.int .i64 x.2) ∧ bx < (grow (wr.drewN n) os).heap.size) := Lib.hid fun n os => by
        obtain ⟨h, hc, _, _, hs⟩ := HR.out
        exact ⟨h.keep (Φ := fun _ => False) (Chg.grown _ wr n os) id id id, hc.trans (Chg.grown (fun _ => False) wr n os) fun _ _ e => e.elim, b0' n os, b1' n os, by simp; omega⟩
      clear HR
      by_cases hcp : 0 < c
      · have hd : decide (0 < c) = true := decide_eq_true hcp
        go_wp2_with fail
        go_quiet_grown (first | (go_at_call 29; refine Calls.grown_of (HCMP.out _)))
        have HZ := Lib.hid (HGR.out nq osq)
        generalize grow (wr.drewN nq) osq = w2 at HZ ⊢
        clear HGR c0' r0' r1' b0' b1'
        go_wp2
        go_ret
        obtain ⟨z1, z2, _⟩ := HZ.out
        exact ⟨H, f, k, rfl, z1, fun _ => hup.out hcp, z2⟩
      · have hd : decide (0 < c) = false := decide_eq_false hcp
        go_wp2_with fail
        go_quiet_grown (first | (go_at_call 29; refine Calls.grown_of (HCMP.out _)))
        have HZ := Lib.hid (HGR.out nq osq)
        generalize grow (wr.drewN nq) osq = w2 at HZ ⊢
        clear HGR c0' r0' r1' b0' b1'
        obtain ⟨z1, z2, z3, z4, z5⟩ := HZ.out
        obtain ⟨c0, c1⟩ := two_cells' z1.held.blk
        obtain ⟨r0, r1⟩ := z1.held.cell hal
        have HP := Lib.hid (put_any z1.held (j := k) hlt (by have := HG.out; have := HLEN.out; omega) hN (g H a) (z1.wf_at hal hak) (z1.there hal hak))
        clear z1 z2 z3 z4 z5
        go_wp2_with (go_at_call 30; refine HP.out.mono ?_; rintro e w3 ⟨rfl, hh, hc3⟩; have HH := Lib.hid hh; have HC3 := Lib.hid hc3; clear hh hc3)
        go_roundw
        case rel =>
          obtain ⟨z1, z2, z3, z4, z5⟩ := HZ.out
          have hn := hdn.out hcp
          have hbf : ¬ foot m rb bx := fun e => by rcases e with e | e <;> omega
          refine ⟨a, _, _, rfl, by omega, Lib.hid ⟨z1.move hal hak hn HH.out, z2.trans HC3.out fun _ _ e => e, (HC3.out.cell (p := ⟨bx, 0, none⟩) z5 hbf).trans z3, (HC3.out.cell (p := ⟨bx, 1, none⟩) z5 hbf).trans z4, Nat.lt_of_lt_of_le z5 HC3.out.size⟩⟩
        case measure =>
          have := HA.out
          simp [intOf]
          omega
end Go.Proofs.Ytednibjemboclaa
