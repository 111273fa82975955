/- What is proved here: what 'compare', and the library's two functions that it calls, answer. -/
/- What is proved here: what 'rise' and 'sink' do: a hole goes up, and down, to where a thing belongs. -/
/- What is proved here: what 'sink' does: a hole goes down to where a thing belongs. -/
import Derived.Test.YtdjieapobodakaaGreatDoorPEx3
import Derived.Sort.Grow
import Derived.Outline
import Derived.Shelf.SlSortCmp.QuietGrown
import Derived.IntWalk
import Derived.BigQuiet
section
namespace Go.Proofs.YtdjieapobodakaaGreatDoor.Tim
open Go Go.RowKit Go.Sort
set_option maxRecDepth 100000

def cmp1 (a b : Int) : Int := if a < b then -1 else if b < a then 1 else 0
theorem Compare_any (a b : Int) (w : World) : Calls Tryz.prog 96 #[.int .i64 a, .int .i64 b] w fun e w' => e = .returned (.int .i64 (cmp1 a b)) ∧ w' = w := by
  rcases Int.lt_trichotomy a b with h | h | h
  · have HC : Hid (cmp1 a b = -1) := Lib.hid (by unfold cmp1; rw [if_pos h])
    go_enter Tryz.func96, Tryz.ntmps96
    go_wp2
    go_ret
    exact ⟨by rw [HC.out]; rfl, rfl⟩
  · subst h
    have HC : Hid (cmp1 a a = 0) := Lib.hid (by unfold cmp1; rw [if_neg (by omega), if_neg (by omega)])
    go_enter Tryz.func96, Tryz.ntmps96
    go_wp2
    go_ret
    exact ⟨by rw [HC.out]; rfl, rfl⟩
  · have HC : Hid (cmp1 a b = 1) := Lib.hid (by unfold cmp1; rw [if_neg (by omega), if_pos h])
    have h2 : ¬ a < b := by omega
    go_enter Tryz.func96, Tryz.ntmps96
    go_wp2
    go_ret
    exact ⟨by rw [HC.out]; rfl, rfl⟩
def or2 (a b : Int) : Int := if a = 0 then b else a
theorem Or_any (a b : Int) (r : Nat) (w : World) (h0 : w.cell? ⟨r, 0, none⟩ = some (.int .i64 a)) (h1 : w.cell? ⟨r, 1, none⟩ = some (.int .i64 b)) :
    Calls Tryz.prog 95 #[.slice (some ⟨r, 0, none⟩) 2 2] w fun e w' => e = .returned (.int .i64 (or2 a b)) ∧ w' = w := by
  by_cases ha : a = 0
  · subst ha
    have HC : Hid (or2 0 b = b) := Lib.hid rfl
    go_enter Tryz.func95, Tryz.ntmps95
    go_wp2
    go_loop [8] (fun i => ∃ k : Nat, i = .int .i64 k ∧ k ≤ 2 ∧ (k = 2 → b = 0)) (fun i => 2 - (intOf i).toNat)
    case atStart => exact ⟨0, rfl, by omega, fun h => by omega⟩
    case round =>
      obtain ⟨k, rfl, hk, hb⟩ := hrel
      have hk3 : k = 0 ∨ k = 1 ∨ k = 2 := by omega
      rcases hk3 with rfl | rfl | rfl
      · go_wp2
        go_round
        case rel => exact ⟨1, rfl, by omega, fun h => by omega⟩
        case measure => simp [intOf]
      · clear hb
        by_cases hb2 : b = 0
        · subst hb2
          go_wp2
          go_round
          case rel => exact ⟨2, rfl, by omega, fun h => by first | rfl | trivial⟩
          case measure => simp [intOf]
        · have hb3 : (b == 0) = false := by simpa using hb2
          clear hb2
          go_wp2
          go_ret
          exact ⟨by rw [HC.out]; rfl, rfl⟩
      · obtain rfl := hb rfl
        go_wp2
        go_ret
        exact ⟨by rw [HC.out]; rfl, rfl⟩
  · have ha2 : (a == 0) = false := by simpa using ha
    have HC : Hid (or2 a b = a) := Lib.hid (by unfold or2; rw [if_neg ha])
    clear ha
    go_enter Tryz.func95, Tryz.ntmps95
    go_wp2
    refine wp_loop_rounds 3 ?_
    simp only [rounds_succ]
    go_wp2
    go_ret
    exact ⟨by rw [HC.out]; rfl, rfl⟩
theorem cmpf_or (x y : It) : or2 (cmp1 x.2 y.2) (cmp1 x.1 y.1) = cmpf x y := by
  unfold or2 cmp1 cmpf
  by_cases h1 : x.2 < y.2
  · simp [h1]
  · by_cases h2 : y.2 < x.2
    · simp [h1, h2]
    · simp [h1, h2]

set_option maxHeartbeats 800000 in
set_option maxRecDepth 100000 in
theorem compare_any (x y : It) (w : World) :
    Calls Tryz.prog 148 #[.agg #[.int .i64 x.1, .int .i64 x.2], .agg #[.int .i64 y.1, .int .i64 y.2]] w fun e w' => e = .returned (.int .i64 (cmpf x y)) ∧ ∃ q os', w' = grow (w.drewN q) os' := by
  obtain ⟨W, hW⟩ : ∃ W, W = (w.alloc (.cells #[.int .i64 x.1, .int .i64 x.2] 130)).alloc (.cells #[.int .i64 y.1, .int .i64 y.2] 130) := ⟨_, rfl⟩
  have q0 : W.cell? ⟨w.heap.size, 0, none⟩ = some (.int .i64 x.1) := by rw [hW]; simp
  have q1 : W.cell? ⟨w.heap.size, 1, none⟩ = some (.int .i64 x.2) := by rw [hW]; simp
  have q2 : W.cell? ⟨w.heap.size + 1, 0, none⟩ = some (.int .i64 y.1) := by rw [hW]; simp
  have q3 : W.cell? ⟨w.heap.size + 1, 1, none⟩ = some (.int .i64 y.2) := by rw [hW]; simp
  have HW := Lib.hid hW
  have HC := Lib.hid (cmpf_or x y)
  clear hW
  go_enter Tryz.func148, Tryz.ntmps148
  go_wp2_with fail
  rw [← HW.out]
  go_still_tail 10, (by kernel_rfl)
  still_call (Compare_any x.2 y.2 _)
  repeat still_step
  still_call (Compare_any x.1 y.1 _)
  refine wpStill_nil ?_
  change wpList _ _ _ _ _ W.drew
  generalize hWd : W.drew = W2
  have HD := Lib.hid hWd
  clear hWd q0 q1 q2 q3
  go_wp2_with (go_at_call 95; refine (Or_any (cmp1 x.2 y.2) (cmp1 x.1 y.1) W2.heap.size _ (by simp) (by simp)).mono ?_; rintro e w1 ⟨rfl, rfl⟩)
  go_ret
  refine ⟨by rw [← HC.out]; rfl, 1, #[.cells #[.int .i64 x.1, .int .i64 x.2] 130, .cells #[.int .i64 y.1, .int .i64 y.2] 130, .cells #[.int .i64 (cmp1 x.2 y.2), .int .i64 (cmp1 x.1 y.1)] 3], ?_⟩
  rw [← HD.out, HW.out]
  rw [alloc_eq_grow, alloc_eq_grow, alloc_eq_grow]
  rfl
end Go.Proofs.YtdjieapobodakaaGreatDoor.Tim
end

section
namespace Go.Proofs.YtdjieapobodakaaGreatDoor.Tim
open Go Go.RowKit Go.Sort
set_option maxRecDepth 100000

theorem below_grown {B : Nat} {a w : World} (h : Below B a w) (n : Nat) (os : Array Obj) (hB : B ≤ w.heap.size) : Below B a (grow (w.drewN n) os) :=
  ⟨h.os, h.tape, h.output, by have := h.size; simp; omega, fun k hk => by
    rw [heap_grow_old (w.drewN n) os (show k < w.heap.size by omega)]
    exact h.block k hk⟩
theorem Chg.grown (Φ : Nat → Prop) (w : World) (n : Nat) (os : Array Obj) : Chg Φ w (grow (w.drewN n) os) := Chg.of_below (below_grown (Below.refl _ _) n os (Nat.le_refl _))

/-- Memory holds things with a hole at i, which x is to fill; with x they are those of G. -/
structure Hole (w : World) (t m rb cap N : Nat) (H : List It) (f : Int → Option Nat) (i : Nat) (x : It) (G : List It) (fx : Option Nat) : Prop where
  held : Held w t m rb cap H f N
  near : Near H i
  told : Told f H i x
  perm : (H.set i x).Perm G
  wf : ∀ y ∈ G, wfk y.1
  same : f x.1 = fx
section
variable {w w' : World} {t m rb cap N : Nat} {H : List It} {f : Int → Option Nat} {i : Nat} {x : It} {G : List It} {fx : Option Nat}
theorem Hole.len (h : Hole w t m rb cap N H f i x G fx) : H.length = G.length := by
  have := h.perm.length_eq
  rwa [List.length_set] at this
theorem Hole.keep {Φ : Nat → Prop} (h : Hole w t m rb cap N H f i x G fx) (hc : Chg Φ w w') (ht : ¬ Φ t) (hm : ¬ Φ m) (hr : ¬ Φ rb) : Hole w' t m rb cap N H f i x G fx :=
  ⟨h.held.keep hc ht hm hr, h.near, h.told, h.perm, h.wf, h.same⟩
theorem Hole.below (h : Hole w t m rb cap N H f i x G fx) (hc : Below w.heap.size w w') : Hole w' t m rb cap N H f i x G fx :=
  h.keep (Φ := fun _ => False) (Chg.of_below hc) id id id
theorem Hole.wf_at (h : Hole w t m rb cap N H f i x G fx) {j : Nat} (hj : j < H.length) (hji : j ≠ i) : wfk (g H j).1 := by
  refine h.wf _ ((h.perm.mem_iff).1 ?_)
  rw [← g_other h.told.lt x hji]
  exact g_mem (by rw [List.length_set]; exact hj)
theorem Hole.other (h : Hole w t m rb cap N H f i x G fx) {j : Nat} (hj : j < H.length) (hji : j ≠ i) : (g H j).1 ≠ x.1 := fun e => by
  refine hji (nodup_g h.told.nodup (by rw [List.length_set]; exact hj) (by rw [List.length_set]; exact h.told.lt) ?_)
  rw [g_other h.told.lt x hji, g_same h.told.lt]
  exact e
/-- One step. -/
theorem Hole.move (h : Hole w t m rb cap N H f i x G fx) {a : Nat} (ha : a < H.length) (hai : a ≠ i) (hn : Near (H.set i (g H a)) a) (hh : Held w' t m rb cap (H.set i (g H a)) (upd f (g H a).1 i) N) :
    Hole w' t m rb cap N (H.set i (g H a)) (upd f (g H a).1 i) a x G fx :=
  ⟨hh, hn, h.told.step ha hai, (swap_perm h.told.lt ha hai x).trans h.perm, h.wf, by rw [upd_other _ _ (fun e => h.other ha hai e.symm)]; exact h.same⟩
theorem Hole.there (h : Hole w t m rb cap N H f i x G fx) {a : Nat} (ha : a < H.length) (hai : a ≠ i) : N = if (f (g H a).1).isSome then N else N + 1 := by
  rw [h.told.at_ a ha hai]
  rfl
end

/-- What rise tells. -/
def RiseSaid (t m rb cap N : Nat) (x : It) (G : List It) (fx : Option Nat) (w : World) (e : Ending) (w' : World) : Prop :=
  ∃ H f i, e = .returned (.int .i64 (i : Nat)) ∧ Hole w' t m rb cap N H f i x G fx ∧ (0 < i → le (g H ((i - 1) / 2)) x) ∧ Chg (foot m rb) w w'

set_option maxHeartbeats 1600000 in
set_option maxRecDepth 100000 in
theorem rise_any {w : World} {t m rb cap N : Nat} {H : List It} {f : Int → Option Nat} {i : Nat} {x : It} {G : List It} {fx : Option Nat} (h : Hole w t m rb cap N H f i x G fx) (hl : G.length < 1000000) (hN : N < 1000000) :
    Calls Tryz.prog 108 #[.pointer (some ⟨t, 0, none⟩), .int .i64 i, .agg #[.int .i64 x.1, .int .i64 x.2]] w (RiseSaid t m rb cap N x G fx w) := by
  obtain ⟨W, hW⟩ : ∃ W, W = w.alloc (.cells #[.int .i64 x.1, .int .i64 x.2] 130) := ⟨_, rfl⟩
  have hb : Below w.heap.size w W := by rw [hW]; exact (Below.refl _ _).alloc (Nat.le_refl _) _
  have hrb : rb < w.heap.size := (h.held.row.lt rb rfl).2
  have hm : m < w.heap.size := h.held.map.lt
  have q0 : W.cell? ⟨w.heap.size, 0, none⟩ = some (.int .i64 x.1) := by rw [hW]; simp
  have q1 : W.cell? ⟨w.heap.size, 1, none⟩ = some (.int .i64 x.2) := by rw [hW]; simp
  have hsz : w.heap.size < W.heap.size := by rw [hW]; simp
  have HX := Lib.hid (h.below hb)
  have HB : Hid (Chg (foot m rb) w W) := Lib.hid (Chg.of_below hb)
  have HQ : Hid (W.cell? ⟨w.heap.size, 0, none⟩ = some (.int .i64 x.1) ∧ W.cell? ⟨w.heap.size, 1, none⟩ = some (.int .i64 x.2) ∧ w.heap.size < W.heap.size) := Lib.hid ⟨q0, q1, hsz⟩
  have HG : Hid (G.length < 1000000) := Lib.hid hl
  have hW' := Lib.hid hW
  have hi0 : i < 1000000 := by have := h.told.lt; have := h.len; omega
  generalize hbx : w.heap.size = bx at *
  have HBX := Lib.hid hbx
  clear h hb q0 q1 hsz hW hl hbx
  have mixed : Tryz.prog.follows .mixedOrders = true := by kernel_rfl
  go_enter Tryz.func108, Tryz.ntmps108
  go_wp2_with fail
  rw [HBX.out, ← hW'.out]
  go_loopw [1] (fun v wr => ∃ (k : Nat) (H : List It) (f : Int → Option Nat), v = .int .i64 k ∧ k < 1000000 ∧ Hid (Hole wr t m rb cap N H f k x G fx ∧ Chg (foot m rb) w wr ∧ wr.cell? ⟨bx, 0, none⟩ = some (.int .i64 x.1) ∧ wr.cell? ⟨bx, 1, none⟩ = some (.int .i64 x.2) ∧ bx < wr.heap.size)) (fun v _ => (intOf v).toNat)
  case atStart => exact ⟨i, H, f, rfl, hi0, Lib.hid ⟨HX.out, HB.out, HQ.out⟩⟩
  case round =>
    clear HX HB HQ hW'
    obtain ⟨k, H, f, rfl, hk, HR⟩ := hrel
    obtain ⟨h, hc, b0, b1, hbs⟩ := HR.out
    by_cases hk0 : k = 0
    · subst hk0
      clear h hc b0 b1 hbs
      go_wp2
      go_ret
      exact ⟨H, f, 0, rfl, HR.out.1, fun e => by omega, HR.out.2.1⟩
    · obtain ⟨a, ha⟩ : ∃ a, a = (k - 1) / 2 := ⟨_, rfl⟩
      have hlen := h.len
      have hlt := h.told.lt
      have hal : a < H.length := by omega
      have hak : a ≠ k := by omega
      obtain ⟨c0, c1⟩ := two_cells' h.held.blk
      obtain ⟨r0, r1⟩ := h.held.cell hal
      obtain ⟨_, _, hcap1, hcap2⟩ := h.held.rowb
      unfold maxLen at hcap2
      obtain ⟨c, hcc⟩ : ∃ c, c = cmpf x (g H a) := ⟨_, rfl⟩
      have HCMP := Lib.hid fun W => compare_any x (g H a) W
      rw [← hcc] at HCMP
      have htl := lt_of_block h.held.blk
      have hrl := (h.held.row.lt rb rfl).2
      have c0' := cell_grown (a := ⟨t, 0, none⟩) htl c0
      have r0' := cell_grown (a := ⟨rb, a * 2, none⟩) hrl r0
      have r1' := cell_grown (a := ⟨rb, a * 2 + 1, none⟩) hrl r1
      have b0' := cell_grown (a := ⟨bx, 0, none⟩) hbs b0
      have b1' := cell_grown (a := ⟨bx, 1, none⟩) hbs b1
      have hpos : (0 : Int) < (k : Int) := by omega
      have hdiv : ((k - 1 : Nat) : Int) / 2 = (a : Int) := by omega
      have hdiv2 : ((k : Int) - 1) / 2 = (a : Int) := by omega
      have hup : Hid (0 < c → le (g H ((k - 1) / 2)) x) := Lib.hid fun hp => by
        rw [hcc, cmpf_pos] at hp
        rw [← ha]
        exact le_of_bef hp
      have hdn : Hid (¬ 0 < c → Near (H.set k (g H a)) a) := Lib.hid fun _ => by
        have := h.near.up hlt (by omega)
        rwa [← ha] at this
      have haN : (a : Int) < (H.length : Int) := by omega
      have HLEN := Lib.hid hlen
      have HA := Lib.hid ha
      clear h hc hcc c0 r0 r1 b0 b1 c1 hlen ha
      have HGR : Hid (∀ n os, Hole (grow (wr.drewN n) os) t m rb cap N H f k x G fx ∧ Chg (foot m rb) w (grow (wr.drewN n) os) ∧ (grow (wr.drewN n) os).cell? ⟨bx, 0, none⟩ = some (.int .i64 x.1) ∧ (grow (wr.drewN n) os).cell? ⟨bx, 1, none⟩ = some (.int .i64 x.2) ∧ bx < (grow (wr.drewN n) os).heap.size) := Lib.hid fun n os => by
        obtain ⟨h, hc, _, _, hs⟩ := HR.out
        exact ⟨h.keep (Φ := fun _ => False) (Chg.grown _ wr n os) id id id, hc.trans (Chg.grown (fun _ => False) wr n os) fun _ _ e => e.elim, b0' n os, b1' n os, by simp; omega⟩
      clear HR
      by_cases hcp : 0 < c
      · have hd : decide (0 < c) = true := decide_eq_true hcp
        go_wp2_with fail
        go_quiet_grown (first | (go_at_call 148; refine Calls.grown_of (HCMP.out _)))
        have HZ := Lib.hid (HGR.out nq osq)
        generalize grow (wr.drewN nq) osq = w2 at HZ ⊢
        clear HGR c0' r0' r1' b0' b1'
        go_wp2
        go_ret
        obtain ⟨z1, z2, _⟩ := HZ.out
        exact ⟨H, f, k, rfl, z1, fun _ => hup.out hcp, z2⟩
      · have hd : decide (0 < c) = false := decide_eq_false hcp
        go_wp2_with fail
        go_quiet_grown (first | (go_at_call 148; refine Calls.grown_of (HCMP.out _)))
        have HZ := Lib.hid (HGR.out nq osq)
        generalize grow (wr.drewN nq) osq = w2 at HZ ⊢
        clear HGR c0' r0' r1' b0' b1'
        obtain ⟨z1, z2, z3, z4, z5⟩ := HZ.out
        obtain ⟨c0, c1⟩ := two_cells' z1.held.blk
        obtain ⟨r0, r1⟩ := z1.held.cell hal
        have HP := Lib.hid (put_any z1.held (j := k) hlt (by have := HG.out; have := HLEN.out; omega) hN (g H a) (z1.wf_at hal hak) (z1.there hal hak))
        clear z1 z2 z3 z4 z5
        go_wp2_with (go_at_call 106; refine HP.out.mono ?_; rintro e w3 ⟨rfl, hh, hc3⟩; have HH := Lib.hid hh; have HC3 := Lib.hid hc3; clear hh hc3)
        go_roundw
        case rel =>
          obtain ⟨z1, z2, z3, z4, z5⟩ := HZ.out
          have hn := hdn.out hcp
          have hbf : ¬ foot m rb bx := fun e => by rcases e with e | e <;> omega
          refine ⟨a, _, _, rfl, by omega, Lib.hid ⟨z1.move hal hak hn HH.out, z2.trans HC3.out fun _ _ e => e, (HC3.out.cell (p := ⟨bx, 0, none⟩) z5 hbf).trans z3, (HC3.out.cell (p := ⟨bx, 1, none⟩) z5 hbf).trans z4, Nat.lt_of_lt_of_le z5 HC3.out.size⟩⟩
        case measure =>
          have := HA.out
          simp [intOf]
          omega
end Go.Proofs.YtdjieapobodakaaGreatDoor.Tim
end

section
namespace Go.Proofs.YtdjieapobodakaaGreatDoor.Tim
open Go Go.RowKit Go.Sort
set_option maxRecDepth 100000

/-- What sink tells. -/
def SinkSaid (t m rb cap N : Nat) (x : It) (G : List It) (fx : Option Nat) (w : World) (e : Ending) (w' : World) : Prop :=
  ∃ H f i, e = .returned (.int .i64 (i : Nat)) ∧ Hole w' t m rb cap N H f i x G fx ∧ Heap (H.set i x) ∧ Chg (foot m rb) w w'
/-- In each round: the hole, what it is that is above it, and the box of the thing. -/
def SinkAt (w : World) (t m rb cap N : Nat) (x : It) (G : List It) (fx : Option Nat) (bx k : Nat) (H : List It) (f : Int → Option Nat) (wr : World) : Prop :=
  Hole wr t m rb cap N H f k x G fx ∧ (0 < k → le (g H ((k - 1) / 2)) x) ∧ Chg (foot m rb) w wr ∧ wr.cell? ⟨bx, 0, none⟩ = some (.int .i64 x.1) ∧ wr.cell? ⟨bx, 1, none⟩ = some (.int .i64 x.2) ∧ bx < wr.heap.size
theorem SinkAt.grown {w : World} {t m rb cap N : Nat} {x : It} {G : List It} {fx : Option Nat} {bx k : Nat} {H : List It} {f : Int → Option Nat} {wr : World} (h : SinkAt w t m rb cap N x G fx bx k H f wr) (n : Nat) (os : Array Obj) :
    SinkAt w t m rb cap N x G fx bx k H f (grow (wr.drewN n) os) := by
  obtain ⟨h, hu, hc, h0, h1, hs⟩ := h
  exact ⟨h.keep (Φ := fun _ => False) (Chg.grown _ wr n os) id id id, hu, hc.trans (Chg.grown (fun _ => False) wr n os) fun _ _ e => e.elim, cell_grown (a := ⟨bx, 0, none⟩) hs h0 n os, cell_grown (a := ⟨bx, 1, none⟩) hs h1 n os, by simp; omega⟩
theorem SinkAt.drewN {w : World} {t m rb cap N : Nat} {x : It} {G : List It} {fx : Option Nat} {bx k : Nat} {H : List It} {f : Int → Option Nat} {wr : World} (h : SinkAt w t m rb cap N x G fx bx k H f wr) (n : Nat) : SinkAt w t m rb cap N x G fx bx k H f (wr.drewN n) := by
  have := h.grown n #[]
  rwa [grow_empty] at this
/-- What a region of reads asks of the world. -/
theorem SinkAt.reads {w : World} {t m rb cap N : Nat} {x : It} {G : List It} {fx : Option Nat} {bx k : Nat} {H : List It} {f : Int → Option Nat} {wr : World} (h : SinkAt w t m rb cap N x G fx bx k H f wr) :
    (∀ n os, (grow (wr.drewN n) os).cell? ⟨t, 0, none⟩ = some (.slice (some ⟨rb, 0, none⟩) H.length cap)) ∧ (∀ n os, (grow (wr.drewN n) os).cell? ⟨bx, 0, none⟩ = some (.int .i64 x.1)) ∧ (∀ n os, (grow (wr.drewN n) os).cell? ⟨bx, 1, none⟩ = some (.int .i64 x.2)) ∧
      ∀ j, j < H.length → (∀ n os, (grow (wr.drewN n) os).cell? ⟨rb, j * 2, none⟩ = some (.int .i64 (g H j).1)) ∧ (∀ n os, (grow (wr.drewN n) os).cell? ⟨rb, j * 2 + 1, none⟩ = some (.int .i64 (g H j).2)) := by
  obtain ⟨h, hu, hc, h0, h1, hs⟩ := h
  have htl := lt_of_block h.held.blk
  have hrl := (h.held.row.lt rb rfl).2
  exact ⟨cell_grown (a := ⟨t, 0, none⟩) htl (two_cells' h.held.blk).1, cell_grown (a := ⟨bx, 0, none⟩) hs h0, cell_grown (a := ⟨bx, 1, none⟩) hs h1, fun j hj =>
    ⟨cell_grown (a := ⟨rb, j * 2, none⟩) hrl (h.held.cell hj).1, cell_grown (a := ⟨rb, j * 2 + 1, none⟩) hrl (h.held.cell hj).2⟩⟩
/-- The end, where x is ahead of the lesser one below. -/
theorem SinkAt.ends {w : World} {t m rb cap N : Nat} {x : It} {G : List It} {fx : Option Nat} {bx k : Nat} {H : List It} {f : Int → Option Nat} {wr : World} (h : SinkAt w t m rb cap N x G fx bx k H f wr)
    (hl : ∀ j, 0 < j → j < H.length → (j - 1) / 2 = k → le x (g H j)) {e : Ending} (he : e = .returned (.int .i64 k)) : SinkSaid t m rb cap N x G fx w e wr :=
  ⟨H, f, k, he, h.1, h.1.near.fill h.1.told.lt x h.2.1 hl, h.2.2.1⟩
/-- One step down. -/
theorem SinkAt.step {w : World} {t m rb cap N : Nat} {x : It} {G : List It} {fx : Option Nat} {bx k : Nat} {H : List It} {f : Int → Option Nat} {wr w3 : World} (h : SinkAt w t m rb cap N x G fx bx k H f wr) {b : Nat} (hb : b < H.length) (h0 : 0 < b) (hp : (b - 1) / 2 = k)
    (hl : ∀ j, 0 < j → j < H.length → (j - 1) / 2 = k → le (g H b) (g H j)) (hx : le (g H b) x) (hh : Held w3 t m rb cap (H.set k (g H b)) (upd f (g H b).1 k) N) (hc3 : Chg (foot m rb) wr w3) (hm : m < bx) (hrb : rb < bx) :
    SinkAt w t m rb cap N x G fx bx b (H.set k (g H b)) (upd f (g H b).1 k) w3 := by
  obtain ⟨h, hu, hc, q0, q1, hs⟩ := h
  have hbk : b ≠ k := by omega
  have hbf : ¬ foot m rb bx := fun e => by rcases e with e | e <;> omega
  refine ⟨h.move hb hbk (h.near.down h.told.lt hb h0 hp hl) hh, fun _ => ?_, hc.trans hc3 fun _ _ e => e, (hc3.cell (p := ⟨bx, 0, none⟩) hs hbf).trans q0, (hc3.cell (p := ⟨bx, 1, none⟩) hs hbf).trans q1, Nat.lt_of_lt_of_le hs hc3.size⟩
  rw [hp, g_same h.told.lt]
  exact hx

set_option maxHeartbeats 1600000 in
set_option maxRecDepth 100000 in
theorem sink_any {w : World} {t m rb cap N : Nat} {H : List It} {f : Int → Option Nat} {i : Nat} {x : It} {G : List It} {fx : Option Nat} (h : Hole w t m rb cap N H f i x G fx) (hup : 0 < i → le (g H ((i - 1) / 2)) x) (hl : G.length < 1000000) (hN : N < 1000000) :
    Calls Tryz.prog 107 #[.pointer (some ⟨t, 0, none⟩), .int .i64 i, .agg #[.int .i64 x.1, .int .i64 x.2]] w (SinkSaid t m rb cap N x G fx w) := by
  obtain ⟨W, hW⟩ : ∃ W, W = w.alloc (.cells #[.int .i64 x.1, .int .i64 x.2] 130) := ⟨_, rfl⟩
  have hb : Below w.heap.size w W := by rw [hW]; exact (Below.refl _ _).alloc (Nat.le_refl _) _
  have hrb : rb < w.heap.size := (h.held.row.lt rb rfl).2
  have hm : m < w.heap.size := h.held.map.lt
  have q0 : W.cell? ⟨w.heap.size, 0, none⟩ = some (.int .i64 x.1) := by rw [hW]; simp
  have q1 : W.cell? ⟨w.heap.size, 1, none⟩ = some (.int .i64 x.2) := by rw [hW]; simp
  have hsz : w.heap.size < W.heap.size := by rw [hW]; simp
  have HX : Hid (SinkAt w t m rb cap N x G fx w.heap.size i H f W) := Lib.hid ⟨h.below hb, hup, Chg.of_below hb, q0, q1, hsz⟩
  have HG : Hid (G.length < 1000000) := Lib.hid hl
  have hW' := Lib.hid hW
  have hi0 : i < H.length := h.told.lt
  have HLEN := Lib.hid h.len
  generalize hbx : w.heap.size = bx at *
  have HBX := Lib.hid hbx
  clear h hb q0 q1 hsz hW hl hbx hup
  have mixed : Tryz.prog.follows .mixedOrders = true := by kernel_rfl
  go_enter Tryz.func107, Tryz.ntmps107
  go_wp2_with fail
  rw [HBX.out, ← hW'.out]
  go_loopw [1] (fun v wr => ∃ (k : Nat) (H : List It) (f : Int → Option Nat), v = .int .i64 k ∧ k < 1000000 ∧ Hid (SinkAt w t m rb cap N x G fx bx k H f wr)) (fun v _ => 1000000 - (intOf v).toNat)
  case atStart => exact ⟨i, H, f, rfl, by have := HG.out; have := HLEN.out; omega, HX⟩
  case round =>
    clear HX hW' HLEN hi0
    obtain ⟨k, H, f, rfl, hk, HR⟩ := hrel
    obtain ⟨h, hu, hc, b0, b1, hbs⟩ := HR.out
    have hlen := h.len
    have hlt := h.told.lt
    have hl6 : H.length < 1000000 := by have := HG.out; omega
    have HLEN := Lib.hid hlen
    obtain ⟨c0, c1⟩ := two_cells' h.held.blk
    obtain ⟨_, _, hcap1, hcap2⟩ := h.held.rowb
    unfold maxLen at hcap2
    obtain ⟨b, hb⟩ : ∃ b, b = 2 * k + 1 := ⟨_, rfl⟩
    have HB := Lib.hid hb
    have hB : 2 * (k : Int) + 1 = (b : Int) := by omega
    clear h hu hc b0 b1 hbs hlen
    by_cases hbn : b < H.length
    · obtain ⟨d, hd⟩ : ∃ d, d = b + 1 := ⟨_, rfl⟩
      have HD := Lib.hid hd
      have hD : (b : Int) + 1 = (d : Int) := by omega
      have hbn' : (b : Int) < (H.length : Int) := by omega
      obtain ⟨e0, e1, e2, e3⟩ := HR.out.reads
      obtain ⟨s0, s1⟩ := e3 b hbn
      by_cases hdn : d < H.length
      · have hdn' : (d : Int) < (H.length : Int) := by omega
        have hg1 : decide ((d : Int) < (H.length : Int)) = true := decide_eq_true hdn'
        have hg2 : decide (d < H.length) = true := decide_eq_true hdn
        obtain ⟨s2, s3⟩ := e3 d hdn
        obtain ⟨c, hcc⟩ : ∃ c, c = cmpf (g H d) (g H b) := ⟨_, rfl⟩
        have HCMP := Lib.hid fun W => compare_any (g H d) (g H b) W
        rw [← hcc] at HCMP
        have HSEL : Hid (∀ j, 0 < j → j < H.length → (j - 1) / 2 = k → (c < 0 → le (g H d) (g H j)) ∧ (¬ c < 0 → le (g H b) (g H j))) := Lib.hid fun j j0 hj hp => by
          have hj2 : j = b ∨ j = d := by omega
          rw [hcc, cmpf_neg]
          rcases hj2 with rfl | rfl
          · exact ⟨fun hh => le_of_bef hh, fun _ => le_refl _⟩
          · exact ⟨fun _ => le_refl _, fun hh => hh⟩
        clear hcc hb hd e3
        by_cases hcp : c < 0
        · have hdd : decide (c < 0) = true := decide_eq_true hcp
          have HL : Hid (∀ j, 0 < j → j < H.length → (j - 1) / 2 = k → le (g H d) (g H j)) := Lib.hid fun j j0 hj hp => (HSEL.out j j0 hj hp).1 hcp
          clear HSEL
          go_wp2_with fail
          have hwd : IntKind.i64.wrap (d : Int) = (d : Int) := IntWalk.i64_in _ (by omega)
          go_quiet_grown (first | (go_at_call 148; refine Calls.grown_of (HCMP.out _)))
          have HZ := Lib.hid (HR.out.grown nq osq)
          generalize grow (wr.drewN nq) osq = w2 at HZ ⊢
          clear HR e0 e1 e2 s0 s1 s2 s3 c0 c1 HCMP hdd hg1 hg2 hwd
          obtain ⟨e0, e1, e2, e3⟩ := HZ.out.reads
          obtain ⟨s0, s1⟩ := e3 d (by omega)
          obtain ⟨c2, hcc2⟩ : ∃ c2, c2 = cmpf x (g H d) := ⟨_, rfl⟩
          have HCMP2 := Lib.hid fun W => compare_any x (g H d) W
          rw [← hcc2] at HCMP2
          have HIN : Hid (c2 < 0 → bef x (g H d)) := Lib.hid fun hh => (cmpf_neg _ _).1 (by rw [← hcc2]; exact hh)
          have HOUT : Hid (¬ c2 < 0 → le (g H d) x) := Lib.hid fun hh e => hh (by rw [hcc2]; exact (cmpf_neg _ _).2 e)
          have hB0 : 0 < d ∧ (d - 1) / 2 = k := by have h1 := HB.out; have h2 := HD.out; omega
          have HB0 := Lib.hid hB0
          clear hcc2 e3 hB0
          have hbd : (d : Int) < (H.length : Int) := by omega
          by_cases hcp2 : c2 < 0
          · have hdd2 : decide (c2 < 0) = true := decide_eq_true hcp2
            go_wp2_with fail
            go_quiet_grown (first | (go_at_call 148; refine Calls.grown_of (HCMP2.out _)))
            have HE := Lib.hid ((HZ.out.grown nq osq).ends (e := .returned (.int .i64 k)) (fun j j0 hj hp => le_trans (le_of_bef (HIN.out hcp2)) (HL.out j j0 hj hp)) rfl)
            generalize grow (w2.drewN nq) osq = w3 at HE ⊢
            clear HZ e0 e1 e2 s0 s1
            go_wp2
            go_ret
            exact HE.out
          · have hdd2 : decide (c2 < 0) = false := decide_eq_false hcp2
            go_wp2_with fail
            go_quiet_grown (first | (go_at_call 148; refine Calls.grown_of (HCMP2.out _)))
            have HY := Lib.hid (HZ.out.grown nq osq)
            generalize grow (w2.drewN nq) osq = w3 at HY ⊢
            clear HZ e0 e1 e2 s0 s1
            have hbk : d ≠ k := by have := HB0.out; omega
            have hz := HY.out.1
            obtain ⟨c0, c1⟩ := two_cells' hz.held.blk
            obtain ⟨r0, r1⟩ := hz.held.cell (j := d) (by omega)
            have HP := Lib.hid (put_any hz.held (j := k) hlt (by omega) hN (g H d) (hz.wf_at (by omega) hbk) (hz.there (by omega) hbk))
            clear hz
            go_wp2_with (go_at_call 106; refine HP.out.mono ?_; rintro e w4 ⟨rfl, hh, hc3⟩; have HH := Lib.hid hh; have HC3 := Lib.hid hc3; clear hh hc3)
            go_roundw
            case rel => exact ⟨d, _, _, rfl, by omega, Lib.hid (HY.out.step (by omega) HB0.out.1 HB0.out.2 HL.out (HOUT.out hcp2) HH.out HC3.out hm hrb)⟩
            case measure =>
              have := HB0.out
              simp [intOf]
              omega
        · have hdd : decide (c < 0) = false := decide_eq_false hcp
          have HL : Hid (∀ j, 0 < j → j < H.length → (j - 1) / 2 = k → le (g H b) (g H j)) := Lib.hid fun j j0 hj hp => (HSEL.out j j0 hj hp).2 hcp
          clear HSEL
          go_wp2_with fail
          have hwd : IntKind.i64.wrap (d : Int) = (d : Int) := IntWalk.i64_in _ (by omega)
          go_quiet_grown (first | (go_at_call 148; refine Calls.grown_of (HCMP.out _)))
          have HZ := Lib.hid (HR.out.grown nq osq)
          generalize grow (wr.drewN nq) osq = w2 at HZ ⊢
          clear HR e0 e1 e2 s0 s1 s2 s3 c0 c1 HCMP hdd hg1 hg2 hwd
          obtain ⟨e0, e1, e2, e3⟩ := HZ.out.reads
          obtain ⟨s0, s1⟩ := e3 b (by omega)
          obtain ⟨c2, hcc2⟩ : ∃ c2, c2 = cmpf x (g H b) := ⟨_, rfl⟩
          have HCMP2 := Lib.hid fun W => compare_any x (g H b) W
          rw [← hcc2] at HCMP2
          have HIN : Hid (c2 < 0 → bef x (g H b)) := Lib.hid fun hh => (cmpf_neg _ _).1 (by rw [← hcc2]; exact hh)
          have HOUT : Hid (¬ c2 < 0 → le (g H b) x) := Lib.hid fun hh e => hh (by rw [hcc2]; exact (cmpf_neg _ _).2 e)
          have hB0 : 0 < b ∧ (b - 1) / 2 = k := by have h1 := HB.out; have h2 := HD.out; omega
          have HB0 := Lib.hid hB0
          clear hcc2 e3 hB0
          have hbd : (b : Int) < (H.length : Int) := by omega
          by_cases hcp2 : c2 < 0
          · have hdd2 : decide (c2 < 0) = true := decide_eq_true hcp2
            go_wp2_with fail
            go_quiet_grown (first | (go_at_call 148; refine Calls.grown_of (HCMP2.out _)))
            have HE := Lib.hid ((HZ.out.grown nq osq).ends (e := .returned (.int .i64 k)) (fun j j0 hj hp => le_trans (le_of_bef (HIN.out hcp2)) (HL.out j j0 hj hp)) rfl)
            generalize grow (w2.drewN nq) osq = w3 at HE ⊢
            clear HZ e0 e1 e2 s0 s1
            go_wp2
            go_ret
            exact HE.out
          · have hdd2 : decide (c2 < 0) = false := decide_eq_false hcp2
            go_wp2_with fail
            go_quiet_grown (first | (go_at_call 148; refine Calls.grown_of (HCMP2.out _)))
            have HY := Lib.hid (HZ.out.grown nq osq)
            generalize grow (w2.drewN nq) osq = w3 at HY ⊢
            clear HZ e0 e1 e2 s0 s1
            have hbk : b ≠ k := by have := HB0.out; omega
            have hz := HY.out.1
            obtain ⟨c0, c1⟩ := two_cells' hz.held.blk
            obtain ⟨r0, r1⟩ := hz.held.cell (j := b) (by omega)
            have HP := Lib.hid (put_any hz.held (j := k) hlt (by omega) hN (g H b) (hz.wf_at (by omega) hbk) (hz.there (by omega) hbk))
            clear hz
            go_wp2_with (go_at_call 106; refine HP.out.mono ?_; rintro e w4 ⟨rfl, hh, hc3⟩; have HH := Lib.hid hh; have HC3 := Lib.hid hc3; clear hh hc3)
            go_roundw
            case rel => exact ⟨b, _, _, rfl, by omega, Lib.hid (HY.out.step (by omega) HB0.out.1 HB0.out.2 HL.out (HOUT.out hcp2) HH.out HC3.out hm hrb)⟩
            case measure =>
              have := HB0.out
              simp [intOf]
              omega
      · have hdn' : ¬ (d : Int) < (H.length : Int) := by omega
        have hg1 : decide ((d : Int) < (H.length : Int)) = false := decide_eq_false hdn'
        have hg2 : decide (d < H.length) = false := decide_eq_false hdn
        have HL : Hid (∀ j, 0 < j → j < H.length → (j - 1) / 2 = k → le (g H b) (g H j)) := Lib.hid fun j j0 hj hp => by
          obtain rfl : j = b := by omega
          exact le_refl _
        clear hb hd e3
        go_wp2_with fail
        have hwd : IntKind.i64.wrap (d : Int) = (d : Int) := IntWalk.i64_in _ (by omega)
        go_quiet (fail)
        have HZ := Lib.hid (HR.out.drewN nq)
        generalize wr.drewN nq = w2 at HZ ⊢
        clear HR e0 e1 e2 s0 s1 c0 c1 hg1 hg2 hwd
        obtain ⟨e0, e1, e2, e3⟩ := HZ.out.reads
        obtain ⟨s0, s1⟩ := e3 b (by omega)
        obtain ⟨c2, hcc2⟩ : ∃ c2, c2 = cmpf x (g H b) := ⟨_, rfl⟩
        have HCMP2 := Lib.hid fun W => compare_any x (g H b) W
        rw [← hcc2] at HCMP2
        have HIN : Hid (c2 < 0 → bef x (g H b)) := Lib.hid fun hh => (cmpf_neg _ _).1 (by rw [← hcc2]; exact hh)
        have HOUT : Hid (¬ c2 < 0 → le (g H b) x) := Lib.hid fun hh e => hh (by rw [hcc2]; exact (cmpf_neg _ _).2 e)
        have hB0 : 0 < b ∧ (b - 1) / 2 = k := by have h1 := HB.out; have h2 := HD.out; omega
        have HB0 := Lib.hid hB0
        clear hcc2 e3 hB0
        have hbd : (b : Int) < (H.length : Int) := by omega
        by_cases hcp2 : c2 < 0
        · have hdd2 : decide (c2 < 0) = true := decide_eq_true hcp2
          go_wp2_with fail
          go_quiet_grown (first | (go_at_call 148; refine Calls.grown_of (HCMP2.out _)))
          have HE := Lib.hid ((HZ.out.grown nq osq).ends (e := .returned (.int .i64 k)) (fun j j0 hj hp => le_trans (le_of_bef (HIN.out hcp2)) (HL.out j j0 hj hp)) rfl)
          generalize grow (w2.drewN nq) osq = w3 at HE ⊢
          clear HZ e0 e1 e2 s0 s1
          go_wp2
          go_ret
          exact HE.out
        · have hdd2 : decide (c2 < 0) = false := decide_eq_false hcp2
          go_wp2_with fail
          go_quiet_grown (first | (go_at_call 148; refine Calls.grown_of (HCMP2.out _)))
          have HY := Lib.hid (HZ.out.grown nq osq)
          generalize grow (w2.drewN nq) osq = w3 at HY ⊢
          clear HZ e0 e1 e2 s0 s1
          have hbk : b ≠ k := by have := HB0.out; omega
          have hz := HY.out.1
          obtain ⟨c0, c1⟩ := two_cells' hz.held.blk
          obtain ⟨r0, r1⟩ := hz.held.cell (j := b) (by omega)
          have HP := Lib.hid (put_any hz.held (j := k) hlt (by omega) hN (g H b) (hz.wf_at (by omega) hbk) (hz.there (by omega) hbk))
          clear hz
          go_wp2_with (go_at_call 106; refine HP.out.mono ?_; rintro e w4 ⟨rfl, hh, hc3⟩; have HH := Lib.hid hh; have HC3 := Lib.hid hc3; clear hh hc3)
          go_roundw
          case rel => exact ⟨b, _, _, rfl, by omega, Lib.hid (HY.out.step (by omega) HB0.out.1 HB0.out.2 HL.out (HOUT.out hcp2) HH.out HC3.out hm hrb)⟩
          case measure =>
            have := HB0.out
            simp [intOf]
            omega
    · have hbn' : ¬ (b : Int) < (H.length : Int) := by omega
      have HE := Lib.hid (HR.out.ends (e := .returned (.int .i64 k)) (fun j j0 hj hp => absurd hj (by omega)) rfl)
      clear hb HR
      go_wp2
      go_ret
      exact HE.out
end Go.Proofs.YtdjieapobodakaaGreatDoor.Tim
end
