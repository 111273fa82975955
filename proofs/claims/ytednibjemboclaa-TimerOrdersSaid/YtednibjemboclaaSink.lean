/- What is proved here: what 'sink' does: a hole goes down to where a thing belongs. -/
import Derived.Test.YtednibjemboclaaRise
import Derived.IntWalk
import Derived.BigQuiet
namespace Go.Proofs.Ytednibjemboclaa
open Go Go.RowKit Go.Sort

/-- What sink tells. -/
def SinkSaid (t m rb cap N : Nat) (x : It) (G : List It) (fx : Option Nat) (w : World) (e : Ending) (w' : World) : Prop :=
  ∃ H f i, e = .returned (.int .i64 (i : Nat)) ∧ Hole w' t m rb cap N H f i x G fx ∧ Heap (H.set i x) ∧ Chg (foot m rb) w w'
/-- In each round: the hole, what it is that is above it, and the box of the thing. -/
def SinkAt (w : World) (t m rb cap N : Nat) (x : It) (G : List It) (fx : Option Nat) (bx k : Nat) (H : List It) (f : Int → Option Nat) (wr : World) : Prop :=
  Hole wr t m rb cap N H f k x G fx ∧ (0 < k → le (g H ((k - 1) / 2)) x) ∧ Chg (foot m rb) w wr ∧ wr.cell? ⟨bx, 0, none⟩ = some (.int .i64 x.1) ∧ wr.cell? ⟨bx, 1, none⟩ = some (.int .i64 x.2) ∧ bx < wr.heap.size
theorem SinkAt.grown {w : World} {t m rb cap N : Nat} {x : It} {G : List It} {fx : Option Nat} {bx k : Nat} {H : List It} {f : Int → Option Nat} {wr : World} (h : SinkAt w t m rb cap N x G fx bx k H f wr) (n : Nat) (os : Array Obj) :
    SinkAt w t m rb cap N x G fx bx k H f (grow (wr.drewN n) os) := by
  obtain ⟨h, hu, hc, h0, h1, hs⟩ := h
  exact ⟨h.keep (Φ := fun _ => False) (Chg.grown _ wr n os) id id id, hu, hc.trans (Chg.grown (fun _ => False) wr n os) fun _ _ e => e.elim, cell_grown (a := ⟨bx, 0, none⟩) hs h0 n os, cell_grown (a := ⟨bx, 1, none⟩) hs h1 n os, by simp; omega⟩
theorem SinkAt.drewN {w : World} {t m rb cap N : Nat} {x : It} {G : List It} {fx : Option Nat} {bx k : Nat} {H : List It} {f : Int → Option Nat} {wr : World} (h : SinkAt w t m rb cap N x G fx bx k H f wr) (n : Nat) : SinkAt w t m rb cap N x G fx bx k H f (wr.drewN n) := by
  have := h.grown n #[]
  rwa [grow_empty] at this
/-- What a region of reads asks of the world. -/
theorem SinkAt.reads {w : World} {t m rb cap N : Nat} {x : It} {G : List It} {fx : Option Nat} {bx k : Nat} {H : List It} {f : Int → Option Nat} {wr : World} (h : SinkAt w t m rb cap N x G fx bx k H f wr) :
    (∀ n os, (grow (wr.drewN n) os).cell? ⟨t, 0, none⟩ = some (.slice (some ⟨rb, 0, none⟩) H.length cap)) ∧ (∀ n os, (grow (wr.drewN n) os).cell? ⟨bx, 0, none⟩ = some (.int .i64 x.1)) ∧ (∀ n os, (grow (wr.drewN n) os).cell? ⟨bx, 1, none⟩ = some (.int .i64 x.2)) ∧
      ∀ j, j < H.length → (∀ n os, (grow (wr.drewN n) os).cell? ⟨rb, j * 2, none⟩ = some (.int .i64 (g H j).1)) ∧ (∀ n os, (grow (wr.drewN n) os).cell? ⟨rb, j * 2 + 1, none⟩ = some (.int .i64 (g H j).2)) := by
  obtain ⟨h, hu, hc, h0, h1, hs⟩ := h
  have htl := lt_of_block h.held.blk
  have hrl := (h.held.row.lt rb rfl).2
  exact ⟨cell_grown (a := ⟨t, 0, none⟩) htl (two_cells' h.held.blk).1, cell_grown (a := ⟨bx, 0, none⟩) hs h0, cell_grown (a := ⟨bx, 1, none⟩) hs h1, fun j hj =>
    ⟨cell_grown (a := ⟨rb, j * 2, none⟩) hrl (h.held.cell hj).1, cell_grown (a := ⟨rb, j * 2 + 1, none⟩) hrl (h.held.cell hj).2⟩⟩
/-- The end, where x is ahead of the lesser one below. -/
theorem SinkAt.ends {w : World} {t m rb cap N : Nat} {x : It} {G : List It} {fx : Option Nat} {bx k : Nat} {H : List It} {f : Int → Option Nat} {wr : World} (h : SinkAt w t m rb cap N x G fx bx k H f wr)
    (hl : ∀ j, 0 < j → j < H.length → (j - 1) / 2 = k → le x (g H j)) {e : Ending} (he : e = .returned (.int .i64 k)) : SinkSaid t m rb cap N x G fx w e wr :=
  ⟨H, f, k, he, h.1, h.1.near.fill h.1.told.lt x h.2.1 hl, h.2.2.1⟩
/-- One step down. -/
theorem SinkAt.step {w : World} {t m rb cap N : Nat} {x : It} {G : List It} {fx : Option Nat} {bx k : Nat} {H : List It} {f : Int → Option Nat} {wr w3 : World} (h : SinkAt w t m rb cap N x G fx bx k H f wr) {b : Nat} (hb : b < H.length) (h0 : 0 < b) (hp : (b - 1) / 2 = k)
    (hl : ∀ j, 0 < j → j < H.length → (j - 1) / 2 = k → le (g H b) (g H j)) (hx : le (g H b) x) (hh : Held w3 t m rb cap (H.set k (g H b)) (upd f (g H b).1 k) N) (hc3 : Chg (foot m rb) wr w3) (hm : m < bx) (hrb : rb < bx) :
    SinkAt w t m rb cap N x G fx bx b (H.set k (g H b)) (upd f (g H b).1 k) w3 := by
  obtain ⟨h, hu, hc, q0, q1, hs⟩ := h
  have hbk : b ≠ k := by omega
  have hbf : ¬ foot m rb bx := fun e => by rcases e with e | e <;> omega
  refine ⟨h.move hb hbk (h.near.down h.told.lt hb h0 hp hl) hh, fun _ => ?_, hc.trans hc3 fun _ _ e => e, (hc3.cell (p := ⟨bx, 0, none⟩) hs hbf).trans q0, (hc3.cell (p := ⟨bx, 1, none⟩) hs hbf).trans q1, Nat.lt_of_lt_of_le hs hc3.size⟩
  rw [hp, g_same h.told.lt]
  exact hx

set_option maxHeartbeats 1600000 in
set_option maxRecDepth 100000 in
theorem sink_any {w : World} {t m rb cap N : Nat} {H : List It} {f : Int → Option Nat} {i : Nat} {x : It} {G : List It} {fx : Option Nat} (h : Hole w t m rb cap N H f i x G fx) (hup : 0 < i → le (g H ((i - 1) / 2)) x) (hl : G.length < 1000000) (hN : N < 1000000) :
    Calls Try.prog 31 #[.pointer (some ⟨t, 0, none⟩), .int .i64 i, .agg #[.int .i64 x.1, .int .i64 x.2]] w (SinkSaid t m rb cap N x G fx w) := by
  obtain ⟨W, hW⟩ : ∃ W, W = w.alloc (.cells #[.int .i64 x.1, .int .i64 x.2] 41) := ⟨_, rfl⟩
  have hb : Below w.heap.size w W := by rw [hW]; exact (Below.refl _ _).alloc (Nat.le_refl _) _
  have hrb : rb < w.heap.size := (h.held.row.lt rb rfl).2
  have hm : m < w.heap.size := h.held.map.lt
  have q0 : W.cell? ⟨w.heap.size, 0, none⟩ = some (.int .i64 x.1) := by rw [hW]; simp
  have q1 : W.cell? ⟨w.heap.size, 1, none⟩ = some (.int .i64 x.2) := by rw [hW]; simp
  have hsz : w.heap.size < W.heap.size := by rw [hW]; simp
  have HX : Hid (SinkAt w t m rb cap N x G fx w.heap.size i H f W) := Lib.hid ⟨h.below hb, hup, Chg.of_below hb, q0, q1, hsz⟩
  have HG : Hid (G.length < 1000000) := Lib.hid hl
  have hW' := Lib.hid hW
  have hi0 : i < H.length := h.told.lt
  have HLEN := Lib.hid h.len
  generalize hbx : w.heap.size = bx at *
  have HBX := Lib.hid hbx
  clear h hb q0 q1 hsz hW hl hbx hup
  have mixed : Try.prog.follows .mixedOrders = true := by kernel_rfl
  go_enter Try.func31, Try.ntmps31
  go_wp2_with fail
  rw [HBX.out, ← hW'.out]
  go_loopw [1] (fun v wr => ∃ (k : Nat) (H : List It) (f : Int → Option Nat), v = .int .i64 k ∧ k < 1000000 ∧ Hid (SinkAt w t m rb cap N x G fx bx k H f wr)) (fun v _ => 1000000 - (intOf v).toNat)
  case atStart => exact ⟨i, H, f, rfl, by have := HG.out; have := HLEN.out; omega, HX⟩
  case round =>
    clear HX hW' HLEN hi0
    obtain ⟨k, H, f, rfl, hk, HR⟩ := hrel
    obtain ⟨h, hu, hc, b0, b1, hbs⟩ := HR.out
    have hlen := h.len
    have hlt := h.told.lt
    have hl6 : H.length < 1000000 := by have := HG.out; omega
    have HLEN := Lib.hid hlen
    obtain ⟨c0, c1⟩ := two_cells' h.held.blk
    obtain ⟨_, _, hcap1, hcap2⟩ := h.held.rowb
    unfold maxLen at hcap2
    obtain ⟨b, hb⟩ : ∃ b, b = 2 * k + 1 := ⟨_, rfl⟩
    have HB := Lib.hid hb
    have hB : 2 * (k : Int) + 1 = (b : Int) := by omega
    clear h hu hc b0 b1 hbs hlen
    by_cases hbn : b < H.length
    · obtain ⟨d, hd⟩ : ∃ d, d = b + 1 := ⟨_, rfl⟩
      have HD := Lib.hid hd
      have hD : (b : Int) + 1 = (d : Int) := by omega
      have hbn' : (b : Int) < (H.length : Int) := by omega
      obtain ⟨e0, e1, e2, e3⟩ := HR.out.reads
      obtain ⟨s0, s1⟩ := e3 b hbn
      by_cases hdn : d < H.length
      · have hdn' : (d : Int) < (H.length : Int) := by omega
        have hg1 : decide ((d : Int) < (H.length : Int)) = true := decide_eq_true hdn'
        have hg2 : decide (d < H.length) = true := decide_eq_true hdn
        obtain ⟨s2, s3⟩ := e3 d hdn
        obtain ⟨c, hcc⟩ : ∃ c, c = cmpf (g H d) (g H b) := ⟨_, rfl⟩
        have HCMP := Lib.hid fun W => compare_any (g H d) (g H b) W
        rw [← hcc] at HCMP
        have HSEL : Hid (∀ j, 0 < j → j < H.length → (j - 1) / 2 = k → (c < 0 → le (g H d) (g H j)) ∧ (¬ c < 0 → le (g H b) (g H j))) := Lib.hid fun j j0 hj hp => by
          have hj2 : j = b ∨ j = d := by omega
          rw [hcc, cmpf_neg]
          rcases hj2 with rfl | rfl
          · exact ⟨fun hh => le_of_bef hh, fun _ => le_refl _⟩
          · exact ⟨fun _ => le_refl _, fun hh => hh⟩
        clear hcc hb hd e3
        by_cases hcp : c < 0
        · have hdd : decide (c < 0) = true := decide_eq_true hcp
          have HL : Hid (∀ j, 0 < j → j < H.length → (j - 1) / 2 = k → le (g H d) (g H j)) := Lib.hid fun j j0 hj hp => (HSEL.out j j0 hj hp).1 hcp
          clear HSEL
          go_wp2_with fail
          have hwd : IntKind.i64.wrap (d : Int) = (d : Int) := IntWalk.i64_in _ (by omega)
          go_quiet_grown (first | (go_at_call 29; refine Calls.grown_of (HCMP.out _)))
          have HZ := Lib.hid (HR.out.grown nq osq)
          generalize grow (wr.drewN nq) osq = w2 at HZ ⊢
          clear HR e0 e1 e2 s0 s1 s2 s3 c0 c1 HCMP hdd hg1 hg2 hwd
          obtain ⟨e0, e1, e2, e3⟩ := HZ.out.reads
          obtain ⟨s0, s1⟩ := e3 d (by omega)
          obtain ⟨c2, hcc2⟩ : ∃ c2, c2 = cmpf x (g H d) := ⟨_, rfl⟩
          have HCMP2 := Lib.hid fun W => compare_any x (g H d) W
          rw [← hcc2] at HCMP2
          have HIN : Hid (c2 < 0 → bef x (g H d)) := Lib.hid fun hh => (cmpf_neg _ _).1 (by rw [← hcc2]; exact hh)
          have HOUT : Hid (¬ c2 < 0 → le (g H d) x) := Lib.hid fun hh e => hh (by rw [hcc2]; exact (cmpf_neg _ _).2 e)
          have hB0 : 0 < d ∧ (d - 1) / 2 = k := by have h1 := HB.out; have h2 := HD.out; omega
          have HB0 := Lib.hid hB0
          clear hcc2 e3 hB0
          have hbd : (d : Int) < (H.length : Int) := by omega
          by_cases hcp2 : c2 < 0
          · have hdd2 : decide (c2 < 0) = true := decide_eq_true hcp2
            go_wp2_with fail
            go_quiet_grown (first | (go_at_call 29; refine Calls.grown_of (HCMP2.out _)))
            have HE := Lib.hid ((HZ.out.grown nq osq).ends (e := .returned (.int .i64 k)) (fun j j0 hj hp => le_trans (le_of_bef (HIN.out hcp2)) (HL.out j j0 hj hp)) rfl)
            generalize grow (w2.drewN nq) osq = w3 at HE ⊢
            clear HZ e0 e1 e2 s0 s1
            go_wp2
            go_ret
            exact HE.out
          · have hdd2 : decide (c2 < 0) = false := decide_eq_false hcp2
            go_wp2_with fail
            go_quiet_grown (first | (go_at_call 29; refine Calls.grown_of (HCMP2.out _)))
            have HY := Lib.hid (HZ.out.grown nq osq)
            generalize grow (w2.drewN nq) osq = w3 at HY ⊢
            clear HZ e0 e1 e2 s0 s1
            have hbk : d ≠ k := by have := HB0.out; omega
            have hz := HY.out.1
            obtain ⟨c0, c1⟩ := two_cells' hz.held.blk
            obtain ⟨r0, r1⟩ := hz.held.cell (j := d) (by omega)
            have HP := Lib.hid (put_any hz.held (j := k) hlt (by omega) hN (g H d) (hz.wf_at (by omega) hbk) (hz.there (by omega) hbk))
            clear hz
            go_wp2_with (go_at_call 30; refine HP.out.mono ?_; rintro e w4 ⟨rfl, hh, hc3⟩; have HH := Lib.hid hh; have HC3 := Lib.hid hc3; clear hh hc3)
            go_roundw
            case rel => exact ⟨d, _, _, rfl, by omega, Lib.hid (HY.out.step (by omega) HB0.out.1 HB0.out.2 HL.out (HOUT.out hcp2) HH.out HC3.out hm hrb)⟩
            case measure =>
              have := HB0.out
              simp [intOf]
              omega
        · have hdd : decide (c < 0) = false := decide_eq_false hcp
          have HL : Hid (∀ j, 0 < j → j < H.length → (j - 1) / 2 = k → le (g H b) (g H j)) := Lib.hid fun j j0 hj hp => (HSEL.out j j0 hj hp).2 hcp
          clear HSEL
          go_wp2_with fail
          have hwd : IntKind.i64.wrap (d : Int) = (d : Int) := IntWalk.i64_in _ (by omega)
          go_quiet_grown (first | (go_at_call 29; refine Calls.grown_of (HCMP.out _)))
          have HZ := Lib.hid (HR.out.grown nq osq)
          generalize grow (wr.drewN nq) osq = w2 at HZ ⊢
          clear HR e0 e1 e2 s0 s1 s2 s3 c0 c1 HCMP hdd hg1 hg2 hwd
          obtain ⟨e0, e1, e2, e3⟩ := HZ.out.reads
          obtain ⟨s0, s1⟩ := e3 b (by omega)
          obtain ⟨c2, hcc2⟩ : ∃ c2, c2 = cmpf x (g H b) := ⟨_, rfl⟩
          have HCMP2 := Lib.hid fun W => compare_any x (g H b) W
          rw [← hcc2] at HCMP2
          have HIN : Hid (c2 < 0 → bef x (g H b)) := Lib.hid fun hh => (cmpf_neg _ _).1 (by rw [← hcc2]; exact hh)
          have HOUT : Hid (¬ c2 < 0 → le (g H b) x) := Lib.hid fun hh e => hh (by rw [hcc2]; exact (cmpf_neg _ _).2 e)
          have hB0 : 0 < b ∧ (b - 1) / 2 = k := by have h1 := HB.out; have h2 := HD.out; omega
          have HB0 := Lib.hid hB0
          clear hcc2 e3 hB0
          have hbd : (b : Int) < (H.length : Int) := by omega
          by_cases hcp2 : c2 < 0
          · have hdd2 : decide (c2 < 0) = true := decide_eq_true hcp2
            go_wp2_with fail
            go_quiet_grown (first | (go_at_call 29; refine Calls.grown_of (HCMP2.out _)))
            have HE := Lib.hid ((HZ.out.grown nq osq).ends (e := .returned (.int .i64 k)) (fun j j0 hj hp => le_trans (le_of_bef (HIN.out hcp2)) (HL.out j j0 hj hp)) rfl)
            generalize grow (w2.drewN nq) osq = w3 at HE ⊢
            clear HZ e0 e1 e2 s0 s1
            go_wp2
            go_ret
            exact HE.out
          · have hdd2 : decide (c2 < 0) = false := decide_eq_false hcp2
            go_wp2_with fail
            go_quiet_grown (first | (go_at_call 29; refine Calls.grown_of (HCMP2.out _)))
            have HY := Lib.hid (HZ.out.grown nq osq)
            generalize grow (w2.drewN nq) osq = w3 at HY ⊢
            clear HZ e0 e1 e2 s0 s1
            have hbk : b ≠ k := by have := HB0.out; omega
            have hz := HY.out.1
            obtain ⟨c0, c1⟩ := two_cells' hz.held.blk
            obtain ⟨r0, r1⟩ := hz.held.cell (j := b) (by omega)
            have HP := Lib.hid (put_any hz.held (j := k) hlt (by omega) hN (g H b) (hz.wf_at (by omega) hbk) (hz.there (by omega) hbk))
            clear hz
            go_wp2_with (go_at_call 30; refine HP.out.mono ?_; rintro e w4 ⟨rfl, hh, hc3⟩; have HH := Lib.hid hh; have HC3 := Lib.hid hc3; clear hh hc3)
            go_roundw
            case rel => exact ⟨b, _, _, rfl, by omega, Lib.hid (HY.out.step (by omega) HB0.out.1 HB0.out.2 HL.out (HOUT.out hcp2) HH.out HC3.out hm hrb)⟩
            case measure =>
              have := HB0.out
              simp [intOf]
              omega
      · have hdn' : ¬ (d : Int) < (H.length : Int) := by omega
        have hg1 : decide ((d : Int) < (H.length : Int)) = false := decide_eq_false hdn'
        have hg2 : decide (d < H.length) = false := decide_eq_false hdn
        have HL : Hid (∀ j, 0 < j → j < H.length → (j - 1) / 2 = k → le (g H b) (g H j)) := Lib.hid fun j j0 hj hp => by
          obtain rfl : j = b := by omega
          exact le_refl _
        clear hb hd e3
        go_wp2_with fail
        have hwd : IntKind.i64.wrap (d : Int) = (d : Int) := IntWalk.i64_in _ (by omega)
        go_quiet (fail)
        have HZ := Lib.hid (HR.out.drewN nq)
        generalize wr.drewN nq = w2 at HZ ⊢
        clear HR e0 e1 e2 s0 s1 c0 c1 hg1 hg2 hwd
        obtain ⟨e0, e1, e2, e3⟩ := HZ.out.reads
        obtain ⟨s0, s1⟩ := e3 b (by omega)
        obtain ⟨c2, hcc2⟩ : ∃ c2, c2 = cmpf x (g H b) := ⟨_, rfl⟩
        have HCMP2 := Lib.hid fun W => compare_any x (g H b) W
        rw [← hcc2] at HCMP2
        have HIN : Hid (c2 < 0 → bef x (g H b)) := Lib.hid fun hh => (cmpf_neg _ _).1 (by rw [← hcc2]; exact hh)
        have HOUT : Hid (¬ c2 < 0 → le (g H b) x) := Lib.hid fun hh e => hh (by rw [hcc2]; exact (cmpf_neg _ _).2 e)
        have hB0 : 0 < b ∧ (b - 1) / 2 = k := by have h1 := HB.out; have h2 := HD.out; omega
        have HB0 := Lib.hid hB0
        clear hcc2 e3 hB0
        have hbd : (b : Int) < (H.length : Int) := by omega
        by_cases hcp2 : c2 < 0
        · have hdd2 : decide (c2 < 0) = true := decide_eq_true hcp2
          go_wp2_with fail
          go_quiet_grown (first | (go_at_call 29; refine Calls.grown_of (HCMP2.out _)))
          have HE := Lib.hid ((HZ.out.grown nq osq).ends (e := .returned (.int .i64 k)) (fun j j0 hj hp => le_trans (le_of_bef (HIN.out hcp2)) (HL.out j j0 hj hp)) rfl)
          generalize grow (w2.drewN nq) osq = w3 at HE ⊢
          clear HZ e0 e1 e2 s0 s1
          go_wp2
          go_ret
          exact HE.out
        · have hdd2 : decide (c2 < 0) = false := decide_eq_false hcp2
          go_wp2_with fail
          go_quiet_grown (first | (go_at_call 29; refine Calls.grown_of (HCMP2.out _)))
          have HY := Lib.hid (HZ.out.grown nq osq)
          generalize grow (w2.drewN nq) osq = w3 at HY ⊢
          clear HZ e0 e1 e2 s0 s1
          have hbk : b ≠ k := by have := HB0.out; omega
          have hz := HY.out.1
          obtain ⟨c0, c1⟩ := two_cells' hz.held.blk
          obtain ⟨r0, r1⟩ := hz.held.cell (j := b) (by omega)
          have HP := Lib.hid (put_any hz.held (j := k) hlt (by omega) hN (g H b) (hz.wf_at (by omega) hbk) (hz.there (by omega) hbk))
          clear hz
          go_wp2_with (go_at_call 30; refine HP.out.mono ?_; rintro e w4 ⟨rfl, hh, hc3⟩; have HH := Lib.hid hh; have HC3 := Lib.hid hc3; clear hh hc3)
          go_roundw
          case rel => exact ⟨b, _, _, rfl, by omega, Lib.hid (HY.out.step (by omega) HB0.out.1 HB0.out.2 HL.out (HOUT.out hcp2) HH.out HC3.out hm hrb)⟩
          case measure =>
            have := HB0.out
            simp [intOf]
            omega
    · have hbn' : ¬ (b : Int) < (H.length : Int) := by omega
      have HE := Lib.hid (HR.out.ends (e := .returned (.int .i64 k)) (fun j j0 hj hp => absurd hj (by omega)) rfl)
      clear hb HR
      go_wp2
      go_ret
      exact HE.out
end Go.Proofs.Ytednibjemboclaa
