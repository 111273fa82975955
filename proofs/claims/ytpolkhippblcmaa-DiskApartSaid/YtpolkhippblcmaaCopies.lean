/- What is proved here: 'DiskCopies' returns true at all arguments. -/
import Derived.Test.YtpolkhippblcmaaRun
namespace Go.Proofs.Ytpolkhippblcmaa
open Go Go.RowKit Go.Maps

/-- Behind the copy: the disk, and the document's, with the files S, below the blocks from N on. -/
def CopySt (W : World) (d rb : Nat) (R : Int) (S : List RF) (N : Nat) (wr : World) : Prop :=
  ∃ A c, Pair W (fun k => N ≤ k) d R S S A S.length c wr ∧ wr.heap[rb]? = some (.cells #[.int .i64 R, .slice A S.length c] 29 (0, 0)) ∧ W.heap.size ≤ rb ∧ rb < N ∧ N ≤ wr.heap.size ∧ W.heap.size ≤ N
theorem CopySt.turn {W wr w' : World} {d rb N : Nat} {R : Int} {S : List RF} (h : CopySt W d rb R S N wr) (hc : Chg (fun k => N ≤ k) wr w') : CopySt W d rb R S N w' := by
  obtain ⟨A, c, hP, hB, h1, h2, h3, h4⟩ := h
  exact ⟨A, c, hP.turn hc fun k hk => Nat.le_trans h4 hk, (hc.block rb (by omega) (by omega)).trans hB, h1, h2, Nat.le_trans h3 hc.size, h4⟩
theorem CopySt.later {W wr w' : World} {d rb N : Nat} {R : Int} {S : List RF} (h : CopySt W d rb R S N wr) (hb : Below wr.heap.size wr w') : CopySt W d rb R S N w' := h.turn (Chg.of_below hb)
theorem CopySt.base {W wr : World} {d rb N : Nat} {R : Int} {S : List RF} (h : CopySt W d rb R S N wr) : Below W.heap.size W wr := by obtain ⟨_, _, hP, _⟩ := h; exact hP.below
theorem CopySt.disk {W wr : World} {d rb N : Nat} {R : Int} {S : List RF} (h : CopySt W d rb R S N wr) : ∃ Φ, DiskAt wr d R S Φ := by
  obtain ⟨_, _, hP, _⟩ := h
  obtain ⟨_, Φ, _, _, _, hd, _⟩ := hP.ex
  exact ⟨Φ, hd⟩
theorem opbox_cells {w wr : World} {o : OpM} (hb : Below (w.heap.size + 1) (w.alloc (.cells #[.int .i64 o.kind, .string o.nm, .string o.tn, .slice o.bA o.bn o.bc, .int .i64 o.n, .slice o.kA o.kn o.kc] 34)) wr) : wr.cell? ⟨w.heap.size, 0, none⟩ = some (.int .i64 o.kind) ∧ wr.cell? ⟨w.heap.size, 1, none⟩ = some (.string o.nm) ∧ wr.cell? ⟨w.heap.size, 2, none⟩ = some (.string o.tn) ∧ wr.cell? ⟨w.heap.size, 3, none⟩ = some (.slice o.bA o.bn o.bc) ∧ wr.cell? ⟨w.heap.size, 4, none⟩ = some (.int .i64 o.n) ∧ wr.cell? ⟨w.heap.size, 5, none⟩ = some (.slice o.kA o.kn o.kc) := by
  have ho : wr.heap[w.heap.size]? = _ := (hb.block w.heap.size (by omega)).trans (heap_alloc_new w _)
  have cc : ∀ i u, o.vals[i]? = some u → wr.cell? ⟨w.heap.size, i, none⟩ = some u := fun i u hu => by
    rw [cell_of_row _ _ _ _ _ _ ho]
    simpa [OpM.vals] using hu
  exact ⟨cc 0 _ rfl, cc 1 _ rfl, cc 2 _ rfl, cc 3 _ rfl, cc 4 _ rfl, cc 5 _ rfl⟩
/-- The copy, and one call of it. -/
theorem copy_step {w W wr : World} {rb : Nat} {R : Int} {l : List OpM} {k : Nat} {o : OpM} (hW : W = w.alloc (.cells #[.int .i64 o.kind, .string o.nm, .string o.tn, .slice o.bA o.bn o.bc, .int .i64 o.n, .slice o.kA o.kn o.kc] 34)) (h : DoesSt W (W.heap.size + 1) rb R l k wr) (ho : OpOk W W.heap.size o) (hn : (runF R (l.take k)).length ≤ 60) :
    Calls Try.prog 13 #[.pointer (some ⟨W.heap.size + 1, 0, none⟩)] wr fun e w5 => ∃ d2, e = .returned (.pointer (some ⟨d2, 0, none⟩)) ∧ w5.cell? ⟨w.heap.size, 0, none⟩ = some (.int .i64 o.kind) ∧ w5.cell? ⟨w.heap.size, 1, none⟩ = some (.string o.nm) ∧ w5.cell? ⟨w.heap.size, 2, none⟩ = some (.string o.tn) ∧ w5.cell? ⟨w.heap.size, 3, none⟩ = some (.slice o.bA o.bn o.bc) ∧ w5.cell? ⟨w.heap.size, 4, none⟩ = some (.int .i64 o.n) ∧ w5.cell? ⟨w.heap.size, 5, none⟩ = some (.slice o.kA o.kn o.kc) ∧
      Hid (Calls Try.prog 11 #[.pointer (some ⟨d2, 0, none⟩), .agg #[.int .i64 o.kind, .string o.nm, .string o.tn, .slice o.bA o.bn o.bc, .int .i64 o.n, .slice o.kA o.kn o.kc]] w5 fun e w6 => (∃ r, e = .returned (.int .i64 r)) ∧ Hid (CopySt W (W.heap.size + 1) rb R (runF R (l.take k)) wr.heap.size w6)) := by
  obtain ⟨A, c, hP, hB, hwr⟩ := h
  generalize runF R (l.take k) = S at *
  have hPb := hP.below
  have hC0 : CopySt W (W.heap.size + 1) rb R S wr.heap.size wr := ⟨A, c, hP.keepK (fun i h1 h2 => by omega), hB, hwr, lt_of_block hB, Nat.le_refl _, hPb.size⟩
  obtain ⟨L, Φ, Ψ, e, hr, hd, _⟩ := hP.ex
  refine (Copy_any hd (by omega)).mono ?_
  rintro e w5 ⟨d2, rfl, hb5, hD2⟩
  have hC5 := hC0.later hb5
  have hb5W : Below W.heap.size W w5 := hPb.trans (hb5.mono hPb.size)
  have hWs : W.heap.size = w.heap.size + 1 := by rw [hW]; simp
  obtain ⟨c0, c1, c2, c3, c4, c5⟩ := opbox_cells (w := w) (wr := w5) (o := o) (by rw [← hW, ← hWs]; exact hb5W)
  refine ⟨d2, rfl, c0, c1, c2, c3, c4, c5, Lib.hid ?_⟩
  refine (Do_any hD2 o (ho.below hb5W) hb5W.size (fun b hb1 hb2 => by have := hPb.size; omega) (by omega)).mono ?_
  rintro e w6 ⟨rfl, hc, _⟩
  exact ⟨⟨_, rfl⟩, Lib.hid (hC5.turn hc)⟩

set_option maxHeartbeats 3200000 in
set_option maxRecDepth 100000 in
theorem copies_walk (A1 : Option Addr) (n1 c1 : Nat) (l : List OpM) (o : OpM) (w : World) (hl : OpsRd w w.heap.size A1 n1 c1 l) (ho : OpOk w w.heap.size o) (hf : fewF l = true) (hsum : o.bn + o.nm.size + o.tn.size ≤ 600) :
    Calls Try.prog 4 #[.slice A1 n1 c1, .agg #[.int .i64 o.kind, .string o.nm, .string o.tn, .slice o.bA o.bn o.bc, .int .i64 o.n, .slice o.kA o.kn o.kc]] w fun e w' => e = .returned (.bool true) ∧ Below w.heap.size w w' := by
  have HAW := Lib.hid fun W => awake_any W
  obtain ⟨W, hW⟩ : ∃ W, W = w.alloc (.cells #[.int .i64 o.kind, .string o.nm, .string o.tn, .slice o.bA o.bn o.bc, .int .i64 o.n, .slice o.kA o.kn o.kc] 34) := ⟨_, rfl⟩
  have hbW : Below w.heap.size w W := by rw [hW]; exact (Below.refl _ _).alloc (Nat.le_refl _) _
  have hWs : W.heap.size = w.heap.size + 1 := by rw [hW]; simp
  have hlW := (hl.below hbW).more (B' := W.heap.size) hbW.size
  have hoW := (ho.below hbW).more (B' := W.heap.size) hbW.size
  have hR : clampR 4000 ≤ 1048576 := (clampR_in 4000).2
  have HNEW := Lib.hid fun q => new_both 4000 W l q
  have hlen := hl.len
  have hn60 : n1 ≤ 60 := by have := fewF_len hf; omega
  have hc1 := hl.cap
  have hm1 := hl.max
  unfold maxLen at hm1
  have HFEW := Lib.hid (few_any hlW)
  rw [hf] at HFEW
  have HL := Lib.hid hlW
  have HLEN := Lib.hid hlen
  have HRM := Lib.hid hR
  have HCOPY : Hid (∀ rb R k wr, DoesSt W (W.heap.size + 1) rb R l k wr → k ≤ 60 → Calls Try.prog 13 #[.pointer (some ⟨W.heap.size + 1, 0, none⟩)] wr fun e w5 => ∃ d2, e = .returned (.pointer (some ⟨d2, 0, none⟩)) ∧ w5.cell? ⟨w.heap.size, 0, none⟩ = some (.int .i64 o.kind) ∧ w5.cell? ⟨w.heap.size, 1, none⟩ = some (.string o.nm) ∧ w5.cell? ⟨w.heap.size, 2, none⟩ = some (.string o.tn) ∧ w5.cell? ⟨w.heap.size, 3, none⟩ = some (.slice o.bA o.bn o.bc) ∧ w5.cell? ⟨w.heap.size, 4, none⟩ = some (.int .i64 o.n) ∧ w5.cell? ⟨w.heap.size, 5, none⟩ = some (.slice o.kA o.kn o.kc) ∧
      Hid (Calls Try.prog 11 #[.pointer (some ⟨d2, 0, none⟩), .agg #[.int .i64 o.kind, .string o.nm, .string o.tn, .slice o.bA o.bn o.bc, .int .i64 o.n, .slice o.kA o.kn o.kc]] w5 fun e w6 => (∃ r, e = .returned (.int .i64 r)) ∧ Hid (CopySt W (W.heap.size + 1) rb R (runF R (l.take k)) wr.heap.size w6))) := Lib.hid fun rb R k wr h hk => copy_step hW h hoW (by
    have h1 := runF_len R (l.take k)
    have h2 : (l.take k).length ≤ k := List.length_take_le _ _
    omega)
  have HLEN2 : Hid (∀ R k, k ≤ 60 → (runF R (l.take k)).length ≤ 60) := Lib.hid fun R k hk => by
    have h1 := runF_len R (l.take k)
    have h2 : (l.take k).length ≤ k := List.length_take_le _ _
    omega
  obtain ⟨q0, q1, q2, q3, q4, q5⟩ := opbox_cells (w := w) (wr := W) (o := o) (by rw [← hW]; exact Below.refl _ _)
  have hob1 := ho.rb.cap
  have hob2 := ho.rb.max
  unfold maxLen at hob2
  have HBW := Lib.hid hbW
  have HW := Lib.hid hW
  have HWS := Lib.hid hWs
  have hlw : w.heap.size < W.heap.size := by omega
  clear hl ho hf hlen hR hlW hoW hbW hW hWs
  obtain ⟨kind, nm, tn, bA, bn, bc, ob, on, kA, kn, kc, ks⟩ := o
  simp only at *
  generalize hz0 : nm.size = z0 at *
  generalize hz1 : tn.size = z1 at *
  have hs1 : (bn : Int) + (z0 : Int) + (z1 : Int) ≤ 600 := by omega
  generalize clampR 4000 = R at *
  go_enter Try.func4, Try.ntmps4
  go_wp2_with (first
    | (rw [← HW.out]; go_at_call 6; refine HFEW.out.mono ?_; rintro e w0 ⟨rfl, q, rfl⟩)
    | (go_at_call 8; refine (HNEW.out _).mono ?_; rintro e w1 ⟨rfl, HREF⟩)
    | (go_at_call 9; refine (HREF.out).mono ?_; rintro e w2 ⟨rfl, HBEG⟩))
  generalize w2.heap.size = rb at *
  generalize w2.alloc _ = w3 at *
  clear q0 q1 q2 q3 q4 q5 hs1
  go_loopw [39] (fun t wr => ∃ k : Nat, t = .int .i64 k ∧ k ≤ n1 ∧ Hid (DoesSt W (W.heap.size + 1) rb R l k wr)) (fun t _ => n1 - (intOf t).toNat)
  case atStart => exact ⟨0, rfl, Nat.zero_le _, HBEG⟩
  case round =>
    obtain ⟨k, rfl, hk, HS⟩ := hrel
    by_cases hkn : k < n1
    · obtain ⟨p, b, o, hp, hpm, rfl, hbB, hcell, hok⟩ := HL.out.at hkn
      have hb : Below W.heap.size W wr := by obtain ⟨_, _, hP, _⟩ := HS.out; exact hP.below
      have cc : ∀ i u, p.vals[i]? = some u → wr.cell? ⟨b, o + k * 6 + i, none⟩ = some u := fun i u hu => by
        rw [hb.cell (p := ⟨b, o + k * 6 + i, none⟩) hbB, Nat.add_assoc]
        exact hcell i u hu
      have e0 := cc 0 _ rfl
      have e1 := cc 1 _ rfl
      have e2 := cc 2 _ rfl
      have e3 := cc 3 _ rfl
      have e4 := cc 4 _ rfl
      have e5 := cc 5 _ rfl
      obtain ⟨A, m, c, l0, r0, r1, HREF2⟩ := run_step HS.out HL.out hn60 HRM.out hp
      have hkn' : (k : Int) < n1 := by omega
      rw [Nat.add_zero] at e0
      clear hcell hok hpm hp hb cc
      go_wp2_with (first
        | (go_at_call 10; refine (HREF2.out).mono ?_; rintro e w4 ⟨A', m', c', r, rfl, l1, l2, o0, o1, o2, o3, o4, o5, r0, r1, f0, f1, HDO⟩; clear e0 e1 e2 e3 e4 e5)
        | (go_at_call 11; refine (HDO.out).mono ?_; rintro e w5 ⟨⟨r, rfl⟩, HS2⟩))
      go_roundw
      case rel => exact ⟨k + 1, by go_num, by omega, HS2⟩
      case measure => simp [intOf]; omega
    · obtain rfl : k = n1 := by omega
      have HCP := Lib.hid (HCOPY.out rb R k wr HS.out hn60)
      have hS60 := HLEN2.out R k hn60
      generalize runF R (l.take k) = S at HCP hS60
      have HNMS : Hid (∀ w5, CopySt W (W.heap.size + 1) rb R S wr.heap.size w5 → Calls Try.prog 14 #[.pointer (some ⟨W.heap.size + 1, 0, none⟩)] w5 fun e w7 => ∃ A7 c7, e = .returned (.slice A7 S.length c7) ∧ S.length ≤ c7 ∧ Hid (w7.ownsRow w5.heap.size 9 1 (.slice A7 S.length c7) S.length (S.map fun f => nameV f.nm)) ∧ Hid (CopySt W (W.heap.size + 1) rb R S wr.heap.size w7)) := Lib.hid fun w5 h => by
        obtain ⟨Φ, hd⟩ := h.disk
        refine (Names_any hd (by omega)).mono ?_
        rintro e w7 ⟨A7, c7, rfl, ho7, hb7⟩
        exact ⟨A7, c7, rfl, own_cap ho7, Lib.hid ho7, Lib.hid (h.later hb7)⟩
      have HSAM : Hid (∀ w5, CopySt W (W.heap.size + 1) rb R S wr.heap.size w5 → ∃ A c, w5.cell? ⟨rb, 0, none⟩ = some (.int .i64 R) ∧ w5.cell? ⟨rb, 1, none⟩ = some (.slice A S.length c) ∧ Hid (Calls Try.prog 12 #[.pointer (some ⟨W.heap.size + 1, 0, none⟩), .agg #[.int .i64 R, .slice A S.length c]] w5 fun e w7 => e = .returned (.bool true) ∧ Hid (Below w.heap.size w w7))) := Lib.hid fun w5 h => by
        have hbb := h.base
        obtain ⟨A, c, hP, hB, _⟩ := h
        obtain ⟨c0, c1, _⟩ := two_cells hB
        refine ⟨A, c, c0, c1, Lib.hid ((hP.same (by omega) R).mono ?_)⟩
        rintro e w7 ⟨rfl, hb⟩
        have h9 := HBW.out.size
        exact ⟨rfl, Lib.hid (HBW.out.trans ((hbb.trans (hb.mono hbb.size)).mono h9))⟩
      have HNN : Hid (∀ w5, CopySt W (W.heap.size + 1) rb R S wr.heap.size w5 → Rising RF.nm S ∧ ∀ f ∈ S, f.s ≤ f.b.length ∧ f.nm.length ≤ 32 ∧ (∀ y ∈ f.b, 0 ≤ y ∧ y < 256) ∧ f.b.length ≤ 1048576) := Lib.hid fun w5 h => by
        obtain ⟨Φ, hd⟩ := h.disk
        exact ⟨hd.rising, hd.each⟩
      obtain ⟨N0, hN0⟩ : ∃ N0, N0 = wr.heap.size := ⟨_, rfl⟩
      rw [← hN0] at HCP HNMS HSAM HNN
      clear hN0
      go_wp2_with (first
        | (go_at_call 13; refine (HCP.out).mono ?_; rintro e w4 ⟨d2, rfl, q0, q1, q2, q3, q4, q5, HDO2⟩)
        | (go_at_call 11; refine (HDO2.out).mono ?_; rintro e w5 ⟨⟨r, rfl⟩, HC5⟩; clear q0 q1 q2 q3 q4 q5)
        | (go_at_call 14; refine (HNMS.out _ HC5.out).mono ?_; rintro e w7 ⟨A7, c7, rfl, hc7, HO7, HC7⟩))
      go_loopw [63] (fun t wq => ∃ j : Nat, t = .int .i64 j ∧ j ≤ S.length ∧ Hid (Below w7.heap.size w7 wq)) (fun t _ => S.length - (intOf t).toNat)
      case atStart => exact ⟨0, rfl, Nat.zero_le _, Lib.hid (Below.refl _ _)⟩
      case round =>
        obtain ⟨j, rfl, hj, HBQ⟩ := hrel
        by_cases hjn : j < S.length
        · obtain ⟨f, hf⟩ : ∃ f, S[j]? = some f := ⟨_, List.getElem?_eq_getElem hjn⟩
          obtain ⟨hri, hea⟩ := HNN.out _ HC7.out
          obtain ⟨_, hnl, _, hbig⟩ := hea f (List.mem_of_getElem? hf)
          obtain ⟨g, rfl, hg1, hg2, hcn⟩ := own_cell (k := j) (u := nameV f.nm) HO7.out (by rw [List.getElem?_map, hf]; rfl)
          have hcn' : wr.cell? ⟨g, j, none⟩ = some (nameV f.nm) := by
            rw [Nat.zero_add] at hcn
            rw [HBQ.out.cell (p := ⟨g, j, none⟩) hg2]
            exact hcn
          obtain ⟨sn, hsn, hsn2⟩ : ∃ sn : ByteArray, nameV f.nm = .string sn ∧ sn.data.toList = f.nm := ⟨⟨f.nm.toArray⟩, rfl, by simp⟩
          rw [hsn] at hcn'
          have hsz : sn.size ≤ maxLen := by
            have : sn.data.toList.length ≤ 32 := by rw [hsn2]; exact hnl
            rw [Array.length_toList] at this
            unfold maxLen
            exact Nat.le_trans this (by omega)
          have hCr := HC7.out.later HBQ.out
          obtain ⟨N6, hN6⟩ : ∃ N6, f.b.length = N6 := ⟨_, rfl⟩
          have HRE : Hid (Calls Try.prog 15 #[.pointer (some ⟨W.heap.size + 1, 0, none⟩), .string sn] wr fun e w8 => ∃ A6 c6, e = .returned (.tuple #[.slice A6 N6 c6, .int .i64 0]) ∧ N6 ≤ c6 ∧ Hid (NumbS w8 w7.heap.size A6 N6) ∧ Hid (Below w7.heap.size w7 w8)) := Lib.hid (by
            obtain ⟨Φ, hd⟩ := hCr.disk
            refine (read_there hd hsz (f := f) (by rw [hsn2]; exact findN_some hri (List.mem_of_getElem? hf)) hN6).mono ?_
            rintro e w8 ⟨A6, c6, rfl, ho6, hb6⟩
            have hsq := HBQ.out.size
            refine ⟨A6, c6, rfl, own_cap ho6, Lib.hid (fun h0 => ?_), Lib.hid (HBQ.out.trans (hb6.mono HBQ.out.size))⟩
            obtain ⟨g, cur, e, hB, hh⟩ := NumbS.of_own ho6 h0
            exact ⟨g, cur, e, by omega, hh⟩)
          have hN6' : N6 ≤ 1048576 := by omega
          have hjn' : (j : Int) < S.length := by omega
          have hjc' : (j : Int) < c7 := by omega
          clear hf hri hea hnl hbig hcn hsn hsn2 hCr hN6
          go_wp2_with (go_at_call 15; refine (HRE.out).mono ?_; rintro e w8 ⟨A6, c6, rfl, hc6, HNU, HB8⟩)
          go_loopw [75] (fun t wq => ∃ i : Nat, t = .int .i64 i ∧ i ≤ N6 ∧ Hid (NumbS wq w7.heap.size A6 N6 ∧ Below w7.heap.size w7 wq)) (fun t _ => N6 - (intOf t).toNat)
          case atStart => exact ⟨0, rfl, Nat.zero_le _, Lib.hid ⟨HNU.out, HB8.out⟩⟩
          case round =>
            obtain ⟨i, rfl, hi, HNB⟩ := hrel
            by_cases hin : i < N6
            · obtain ⟨g6, x, rfl, hB6, hcx, hfx⟩ := HNB.out.1.cell hin
              have HSET := Lib.hid fun y => HNB.out.1.set (k := i) y
              have HBS := Lib.hid fun y => (show Below w7.heap.size w7 (wr.setCell ⟨g6, i, none⟩ (.int .u8 y)) from HNB.out.2.setCell hB6 _)
              have hin' : (i : Int) < N6 := by omega
              have hic' : (i : Int) < c6 := by omega
              go_wp2_with fail
              go_roundw
              case rel => exact ⟨i + 1, by go_num, by omega, Lib.hid ⟨HSET.out _, HBS.out _⟩⟩
              case measure => simp [intOf]; omega
            · obtain rfl : i = N6 := by omega
              go_wp2_with fail
              go_roundw
              case rel => exact ⟨j + 1, by go_num, by omega, Lib.hid HNB.out.2⟩
              case measure => simp [intOf]; omega
        · obtain rfl : j = S.length := by omega
          obtain ⟨A, c, r0, r1, HSA⟩ := HSAM.out _ (HC7.out.later HBQ.out)
          go_wp2_with (first
            | (go_at_call 12; refine (HSA.out).mono ?_; rintro e w9 ⟨rfl, HB9⟩)
            | (go_at_call 7; refine (HAW.out _).mono ?_; rintro e w11 ⟨rfl, hb11⟩))
          go_ret
          exact ⟨rfl, HB9.out.trans (hb11.mono HB9.out.size)⟩

theorem copies_awake (w W : World) (hb : Below w.heap.size w W) (q : Nat) : Calls Try.prog 7 #[] (W.drewN q) fun e w' => e = .returned (.bool true) ∧ Below w.heap.size w w' := (awake_any (W.drewN q)).mono (by
  rintro e w' ⟨rfl, h⟩
  exact ⟨rfl, (bdrewN hb q).trans (h.mono (bdrewN hb q).size)⟩)
set_option maxHeartbeats 1600000 in
set_option maxRecDepth 100000 in
theorem copies_no (A1 : Option Addr) (n1 c1 : Nat) (l : List OpM) (o : OpM) (w : World) (hl : OpsRd w w.heap.size A1 n1 c1 l) (ho : OpOk w w.heap.size o) (hf : fewF l = false ∨ (fewF l = true ∧ 600 < o.bn + o.nm.size + o.tn.size)) :
    Calls Try.prog 4 #[.slice A1 n1 c1, .agg #[.int .i64 o.kind, .string o.nm, .string o.tn, .slice o.bA o.bn o.bc, .int .i64 o.n, .slice o.kA o.kn o.kc]] w fun e w' => e = .returned (.bool true) ∧ Below w.heap.size w w' := by
  obtain ⟨W, hW⟩ : ∃ W, W = w.alloc (.cells #[.int .i64 o.kind, .string o.nm, .string o.tn, .slice o.bA o.bn o.bc, .int .i64 o.n, .slice o.kA o.kn o.kc] 34) := ⟨_, rfl⟩
  have hbW : Below w.heap.size w W := by rw [hW]; exact (Below.refl _ _).alloc (Nat.le_refl _) _
  have HFEW := Lib.hid (few_any ((hl.below hbW).more (B' := W.heap.size) hbW.size))
  have HAW := Lib.hid fun q => copies_awake w W hbW q
  obtain ⟨q0, q1, q2, q3, q4, q5⟩ := opbox_cells (w := w) (wr := W) (o := o) (by rw [← hW]; exact (Below.refl _ _))
  have s0 := ho.sn
  have s1 := ho.st
  have s2 := ho.sb
  have hob1 := ho.rb.cap
  have hob2 := ho.rb.max
  unfold maxLen at hob2
  have HW := Lib.hid hW
  have hlw : w.heap.size < W.heap.size := by rw [hW]; simp
  clear hl ho hbW hW
  obtain ⟨kind, nm, tn, bA, bn, bc, ob, on, kA, kn, kc, ks⟩ := o
  simp only at *
  generalize hz0 : nm.size = z0 at *
  generalize hz1 : tn.size = z1 at *
  rcases hf with hf | ⟨hf, hs1⟩
  · rw [hf] at HFEW
    go_enter Try.func4, Try.ntmps4
    go_wp2_with (first
      | (rw [← HW.out]; go_at_call 6; refine HFEW.out.mono ?_; rintro e w0 ⟨rfl, q, rfl⟩)
      | (go_at_call 7; refine (HAW.out _).mono ?_; rintro e w11 ⟨rfl, hb11⟩))
    go_ret
    exact ⟨rfl, hb11⟩
  · have hs1' : (600 : Int) < (bn : Int) + (z0 : Int) + (z1 : Int) := by omega
    clear hs1
    rw [hf] at HFEW
    go_enter Try.func4, Try.ntmps4
    go_wp2_with (first
      | (rw [← HW.out]; go_at_call 6; refine HFEW.out.mono ?_; rintro e w0 ⟨rfl, q, rfl⟩)
      | (go_at_call 7; refine (HAW.out _).mono ?_; rintro e w11 ⟨rfl, hb11⟩))
    go_ret
    exact ⟨rfl, hb11⟩
theorem copies_any (A1 : Option Addr) (n1 c1 : Nat) (l : List OpM) (o : OpM) (w : World) (hl : OpsRd w w.heap.size A1 n1 c1 l) (ho : OpOk w w.heap.size o) :
    Calls Try.prog 4 #[.slice A1 n1 c1, .agg #[.int .i64 o.kind, .string o.nm, .string o.tn, .slice o.bA o.bn o.bc, .int .i64 o.n, .slice o.kA o.kn o.kc]] w fun e w' => e = .returned (.bool true) ∧ Below w.heap.size w w' := by
  cases hf : fewF l
  · exact copies_no A1 n1 c1 l o w hl ho (.inl hf)
  · by_cases hs : o.bn + o.nm.size + o.tn.size ≤ 600
    · exact copies_walk A1 n1 c1 l o w hl ho hf hs
    · exact copies_no A1 n1 c1 l o w hl ho (.inr ⟨hf, by omega⟩)
end Go.Proofs.Ytpolkhippblcmaa
