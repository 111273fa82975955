/- What is proved here: 'DiskApart' returns true at all arguments. -/
import Derived.Test.YtpolkhippblcmaaCopies
namespace Go.Proofs.Ytpolkhippblcmaa
open Go Go.RowKit Go.Maps

/-- Another file stays. -/
theorem do_apart {R : Int} {S : List RF} (p : OpM) (h0 : 0 ≤ p.kind) (h3 : p.kind ≤ 3) {f : RF} (hf : f ∈ S) (hne : f.nm ≠ p.nm.data.toList) : f ∈ (doF R S p).1 := by
  have hput : ∀ g : RF, g.nm = p.nm.data.toList → f ∈ putN RF.nm g S := fun g hg => mem_putN.2 (.inr ⟨hf, by rw [hg]; exact hne⟩)
  unfold doF
  by_cases k0 : p.kind = 0
  · rw [if_pos k0]
    unfold appendF
    split
    · exact hf
    · split
      · exact hf
      · exact hput _ rfl
  rw [if_neg k0]
  by_cases k1 : p.kind = 1
  · rw [if_pos k1]
    unfold syncF
    cases hg : findN S p.nm.data.toList with
    | none => exact hf
    | some g => exact hput _ (findN_mem hg).2
  rw [if_neg k1]
  by_cases k2 : p.kind = 2
  · rw [if_pos k2]
    unfold cutF
    cases hg : findN S p.nm.data.toList with
    | none => exact hf
    | some g =>
      show f ∈ (if p.n < 0 ∨ (g.b.length : Int) < p.n then (S, (1 : Int)) else (putN RF.nm (cutRF g p.n.toNat) S, 0)).1
      split
      · exact hf
      · exact hput _ (findN_mem hg).2
  rw [if_neg k2, if_pos (by omega)]
  unfold removeF
  cases hg : findN S p.nm.data.toList with
  | none => exact hf
  | some g => exact mem_delN.2 ⟨hf, hne⟩

theorem one_op {W V : World} {B : Nat} {o : OpM} (ho : OpOk W B o) (hV : Below B W V) (hB : B ≤ V.heap.size) : OpsRd (V.alloc (.cells #[.int .i64 o.kind, .string o.nm, .string o.tn, .slice o.bA o.bn o.bc, .int .i64 o.n, .slice o.kA o.kn o.kc] 34)) (V.heap.size + 1) (some ⟨V.heap.size, 0, none⟩) 1 1 [o] := by
  refine ⟨rfl, Nat.le_refl _, by unfold maxLen; omega, fun j p hj => ?_, fun p hp => ?_⟩
  · have hj0 : j = 0 := by
      have := (List.getElem?_eq_some_iff.1 hj).1
      simp at this
      exact this
    subst hj0
    simp at hj
    subst hj
    refine ⟨V.heap.size, 0, rfl, by omega, fun i u hu => ?_⟩
    rw [cell_of_row _ _ _ _ _ _ (heap_alloc_new V _)]
    simpa [OpM.vals] using hu
  · simp at hp
    subst hp
    exact ((ho.below hV).below ((Below.refl B V).alloc hB _)).more (by omega)

/-- One call behind the others. -/
theorem apart_step {w W wr : World} {d rb : Nat} {R : Int} {l : List OpM} {k : Nat} {o : OpM} (hW : W = w.alloc (.cells #[.int .i64 o.kind, .string o.nm, .string o.tn, .slice o.bA o.bn o.bc, .int .i64 o.n, .slice o.kA o.kn o.kc] 34)) (h : DoesSt W d rb R l k wr) (ho : OpOk W W.heap.size o) (hn : (runF R (l.take k)).length ≤ 60) :
    wr.cell? ⟨w.heap.size, 0, none⟩ = some (.int .i64 o.kind) ∧ wr.cell? ⟨w.heap.size, 1, none⟩ = some (.string o.nm) ∧ wr.cell? ⟨w.heap.size, 2, none⟩ = some (.string o.tn) ∧ wr.cell? ⟨w.heap.size, 3, none⟩ = some (.slice o.bA o.bn o.bc) ∧ wr.cell? ⟨w.heap.size, 4, none⟩ = some (.int .i64 o.n) ∧ wr.cell? ⟨w.heap.size, 5, none⟩ = some (.slice o.kA o.kn o.kc) ∧ Hid (Calls Try.prog 11 #[.pointer (some ⟨d, 0, none⟩), .agg #[.int .i64 o.kind, .string o.nm, .string o.tn, .slice o.bA o.bn o.bc, .int .i64 o.n, .slice o.kA o.kn o.kc]] wr fun e w5 => (∃ r, e = .returned (.int .i64 r)) ∧ ∃ A m c, rb < w5.heap.size ∧ w5.cell? ⟨rb, 1, none⟩ = some (.slice A m c) ∧ m ≤ 60 ∧
      Hid (Pair W (fun i => i = rb) d R (doF R (runF R (l.take k)) o).1 (runF R (l.take k)) A m c w5)) := by
  obtain ⟨A, c, hP, hB, hwr⟩ := h
  generalize runF R (l.take k) = S at *
  have hPb := hP.below
  have hWs : W.heap.size = w.heap.size + 1 := by rw [hW]; simp
  obtain ⟨q0, q1, q2, q3, q4, q5⟩ := opbox_cells (w := w) (wr := wr) (o := o) (by rw [← hW, ← hWs]; exact hPb)
  refine ⟨q0, q1, q2, q3, q4, q5, Lib.hid ?_⟩
  refine (hP.lawDo (fun i hi => by rw [hi]; exact lt_of_block hB) (by omega) o ho).mono ?_
  rintro e w5 ⟨rfl, hP5, hK, hs⟩
  have hB5 : w5.heap[rb]? = _ := (hK rb rfl).trans hB
  obtain ⟨_, r1, _⟩ := two_cells hB5
  exact ⟨⟨_, rfl⟩, A, _, c, lt_of_block hB5, r1, hn, Lib.hid hP5⟩

set_option maxHeartbeats 3200000 in
set_option maxRecDepth 100000 in
theorem apart_walk (A1 : Option Addr) (n1 c1 : Nat) (l : List OpM) (o : OpM) (w : World) (hl : OpsRd w w.heap.size A1 n1 c1 l) (ho : OpOk w w.heap.size o) (hf : fewF l = true) (hf1 : fewF [o] = true) (hk0 : 0 ≤ o.kind) (hk3 : o.kind ≤ 3) :
    Calls Try.prog 5 #[.slice A1 n1 c1, .agg #[.int .i64 o.kind, .string o.nm, .string o.tn, .slice o.bA o.bn o.bc, .int .i64 o.n, .slice o.kA o.kn o.kc]] w fun e w' => e = .returned (.bool true) ∧ Below w.heap.size w w' := by
  have HAW := Lib.hid fun W => awake_any W
  obtain ⟨W, hW⟩ : ∃ W, W = w.alloc (.cells #[.int .i64 o.kind, .string o.nm, .string o.tn, .slice o.bA o.bn o.bc, .int .i64 o.n, .slice o.kA o.kn o.kc] 34) := ⟨_, rfl⟩
  have hbW : Below w.heap.size w W := by rw [hW]; exact (Below.refl _ _).alloc (Nat.le_refl _) _
  have hWs : W.heap.size = w.heap.size + 1 := by rw [hW]; simp
  have hlW := (hl.below hbW).more (B' := W.heap.size) hbW.size
  have hoW := (ho.below hbW).more (B' := W.heap.size) hbW.size
  have hR : clampR 8000 ≤ 1048576 := (clampR_in 8000).2
  -- the one call as a list; and the disks behind it
  have HFEW1 : Hid (∀ q, Calls Try.prog 6 #[.slice (some ⟨W.heap.size, 0, none⟩) 1 1] ((W.drewN q).alloc (.cells #[.int .i64 o.kind, .string o.nm, .string o.tn, .slice o.bA o.bn o.bc, .int .i64 o.n, .slice o.kA o.kn o.kc] 34)) fun e w0 => e = .returned (.bool true) ∧ w0.cell? ⟨w.heap.size, 0, none⟩ = some (.int .i64 o.kind) ∧
      Hid (Calls Try.prog 8 #[.int .i64 8000] w0 fun e w1 => e = .returned (.pointer (some ⟨W.heap.size + 1 + 1, 0, none⟩)) ∧
        Hid (Calls Try.prog 9 #[.int .i64 8000] w1 fun e w2 => e = .returned (.agg #[.int .i64 (clampR 8000), .slice none 0 0]) ∧
          Hid (DoesSt W (W.heap.size + 1 + 1) w2.heap.size (clampR 8000) l 0 (w2.alloc (.cells #[.int .i64 (clampR 8000), .slice none 0 0] 29)))))) := Lib.hid fun q => by
    have h1 := few_any (one_op (V := W.drewN q) hoW (bdrewN (Below.refl _ _) q) (Nat.le_refl _))
    rw [hf1] at h1
    refine h1.mono ?_
    rintro e w0 ⟨rfl, q2, rfl⟩
    have hV0 : Below W.heap.size W (((W.drewN q).alloc (.cells #[.int .i64 o.kind, .string o.nm, .string o.tn, .slice o.bA o.bn o.bc, .int .i64 o.n, .slice o.kA o.kn o.kc] 34)).drewN q2) := bdrewN ((bdrewN (Below.refl _ _) q).alloc (Nat.le_refl _) _) q2
    have hsz : (((W.drewN q).alloc (.cells #[.int .i64 o.kind, .string o.nm, .string o.tn, .slice o.bA o.bn o.bc, .int .i64 o.n, .slice o.kA o.kn o.kc] 34)).drewN q2).heap.size = W.heap.size + 1 := by
      show ((W.drewN q).alloc _).heap.size = _
      simp
    obtain ⟨c0, _⟩ := opbox_cells (w := w) (wr := ((W.drewN q).alloc (.cells #[.int .i64 o.kind, .string o.nm, .string o.tn, .slice o.bA o.bn o.bc, .int .i64 o.n, .slice o.kA o.kn o.kc] 34)).drewN q2) (o := o) (by rw [← hW, ← hWs]; exact hV0)
    refine ⟨rfl, c0, Lib.hid ((New_any 8000 _).mono ?_)⟩
    rintro e w1 ⟨rfl, h1, h2, h3⟩
    rw [hsz] at h1 h2 h3
    rw [hsz]
    have hb1 : Below W.heap.size W w1 := hV0.trans (h1.mono (by omega))
    refine ⟨rfl, Lib.hid ((refNew_any 8000 w1).mono ?_)⟩
    rintro e w2 ⟨rfl, hb2⟩
    exact ⟨rfl, Lib.hid ⟨none, 0, Pair.begin hb1 h3 (fun k hk => by have hk' : W.heap.size + 1 ≤ k ∧ k < W.heap.size + 1 + 2 := hk; omega) hb2 _, heap_alloc_new w2 _, by have := hb2.size; omega⟩⟩
  have hlen := hl.len
  have hn60 : n1 ≤ 60 := by have := fewF_len hf; omega
  have hc1 := hl.cap
  have hm1 := hl.max
  unfold maxLen at hm1
  have HFEW := Lib.hid (few_any hlW)
  rw [hf] at HFEW
  have HL := Lib.hid hlW
  have HLEN := Lib.hid hlen
  have HRM := Lib.hid hR
  have HSTEP : Hid (∀ d rb R k wr, DoesSt W d rb R l k wr → k ≤ 60 → _) := Lib.hid fun d rb R k wr h hk => apart_step (d := d) (rb := rb) (R := R) (k := k) (wr := wr) hW h hoW (by
    have h1 := runF_len R (l.take k)
    have h2 : (l.take k).length ≤ k := List.length_take_le _ _
    omega)
  have HMATH : Hid (∀ R S f, f ∈ S → f.nm ≠ o.nm.data.toList → f ∈ (doF R S o).1) := Lib.hid fun R S f h1 h2 => do_apart o hk0 hk3 h1 h2
  obtain ⟨q0, q1, q2, q3, q4, q5⟩ := opbox_cells (w := w) (wr := W) (o := o) (by rw [← hW]; exact Below.refl _ _)
  have HBW := Lib.hid hbW
  have HW := Lib.hid hW
  have HWS := Lib.hid hWs
  have hlw : w.heap.size < W.heap.size := by omega
  have hnk0 : decide (o.kind < 0) = false := decide_eq_false (by omega)
  have hnk3 : decide (3 < o.kind) = false := decide_eq_false (by omega)
  clear hl ho hf hf1 hlen hR hlW hoW hbW hW hWs hk0 hk3
  generalize hdo : (fun R S => (doF R S o).1) = DO at *
  have hDO : ∀ R S, (doF R S o).1 = DO R S := fun R S => by rw [← hdo]
  obtain ⟨kind, nm, tn, bA, bn, bc, ob, on, kA, kn, kc, ks⟩ := o
  simp only at *
  simp only [hDO] at HSTEP HMATH
  clear hdo hDO
  generalize clampR 8000 = R at *
  go_enter Try.func5, Try.ntmps5
  go_wp2_with (first
    | (rw [← HW.out]; go_at_call 6; refine HFEW.out.mono ?_; rintro e w0 ⟨rfl, q, rfl⟩)
    | (go_at_call 6; refine (HFEW1.out _).mono ?_; rintro e w0 ⟨rfl, k0, HNEW⟩; clear q0 q1 q2 q3 q4 q5)
    | (go_at_call 8; refine (HNEW.out).mono ?_; rintro e w1 ⟨rfl, HREF⟩; clear k0)
    | (go_at_call 9; refine (HREF.out).mono ?_; rintro e w2 ⟨rfl, HBEG⟩))
  generalize w2.heap.size = rb at *
  generalize w2.alloc _ = w3 at *
  generalize hd : W.heap.size + 1 + 1 = d at *
  clear hd
  go_loopw [39] (fun t wr => ∃ k : Nat, t = .int .i64 k ∧ k ≤ n1 ∧ Hid (DoesSt W d rb R l k wr)) (fun t _ => n1 - (intOf t).toNat)
  case atStart => exact ⟨0, rfl, Nat.zero_le _, HBEG⟩
  case round =>
    obtain ⟨k, rfl, hk, HS⟩ := hrel
    by_cases hkn : k < n1
    · obtain ⟨p, b, o, hp, hpm, rfl, hbB, hcell, hok⟩ := HL.out.at hkn
      have hb : Below W.heap.size W wr := by obtain ⟨_, _, hP, _⟩ := HS.out; exact hP.below
      have cc : ∀ i u, p.vals[i]? = some u → wr.cell? ⟨b, o + k * 6 + i, none⟩ = some u := fun i u hu => by
        rw [hb.cell (p := ⟨b, o + k * 6 + i, none⟩) hbB, Nat.add_assoc]
        exact hcell i u hu
      have e0 := cc 0 _ rfl
      have e1 := cc 1 _ rfl
      have e2 := cc 2 _ rfl
      have e3 := cc 3 _ rfl
      have e4 := cc 4 _ rfl
      have e5 := cc 5 _ rfl
      obtain ⟨A, m, c, l0, r0, r1, HREF2⟩ := run_step HS.out HL.out hn60 HRM.out hp
      have hkn' : (k : Int) < n1 := by omega
      rw [Nat.add_zero] at e0
      clear hcell hok hpm hp hb cc
      go_wp2_with (first
        | (go_at_call 10; refine (HREF2.out).mono ?_; rintro e w4 ⟨A', m', c', r, rfl, l1, l2, o0, o1, o2, o3, o4, o5, r0, r1, f0, f1, HDO⟩; clear e0 e1 e2 e3 e4 e5)
        | (go_at_call 11; refine (HDO.out).mono ?_; rintro e w5 ⟨⟨r, rfl⟩, HS2⟩))
      go_roundw
      case rel => exact ⟨k + 1, by go_num, by omega, HS2⟩
      case measure => simp [intOf]; omega
    · obtain rfl : k = n1 := by omega
      obtain ⟨q0, q1, q2, q3, q4, q5, HDO2⟩ := HSTEP.out d rb R k wr HS.out hn60
      have HM := Lib.hid fun f => HMATH.out R (runF R (l.take k)) f
      have HQB : Hid (∀ w5, Below W.heap.size W w5 → w.heap.size < w5.heap.size ∧ w5.cell? ⟨w.heap.size, 1, none⟩ = some (.string nm)) := Lib.hid fun w5 h => ⟨Nat.lt_of_lt_of_le hlw h.size, by
        rw [h.cell (p := ⟨w.heap.size, 1, none⟩) hlw, HW.out]
        have := heap_alloc_new w (.cells #[.int .i64 kind, .string nm, .string tn, .slice bA bn bc, .int .i64 on, .slice kA kn kc] 34)
        rw [cell_of_row _ _ _ _ _ _ this]
        rfl⟩
      generalize runF R (l.take k) = S at HDO2 HM
      generalize DO R S = S' at HDO2 HM
      go_wp2_with (go_at_call 11; refine (HDO2.out).mono ?_; rintro e w5 ⟨⟨r, rfl⟩, A, m, c, l0, r1, hm, HP⟩; clear q0 q1 q2 q3 q4 q5)
      go_loopw [59] (fun t wq => ∃ j : Nat, t = .int .i64 j ∧ j ≤ m ∧ Hid (Below w5.heap.size w5 wq)) (fun t _ => m - (intOf t).toNat)
      case atStart => exact ⟨0, rfl, Nat.zero_le _, Lib.hid (Below.refl _ _)⟩
      case round =>
        obtain ⟨j, rfl, hj, HBQ⟩ := hrel
        clear r1
        have hPr := HP.out.later HBQ.out
        have hbr := hPr.below
        have HBR := Lib.hid hbr
        obtain ⟨l5, k1⟩ := HQB.out wr hbr
        by_cases hjn : j < m
        · obtain ⟨L, Φ, Ψ, hL, hR, hD, _⟩ := hPr.ex
          obtain ⟨x, b, o, hx, hxm, rfl, hbB, hcell, hok⟩ := hR.at hjn
          have e0 : wr.cell? ⟨b, o + j * 3, none⟩ = some (.string x.sv) := hcell 0 _ rfl
          have e1 : wr.cell? ⟨b, o + j * 3 + 1, none⟩ = some (.slice x.A x.b.length x.c) := hcell 1 _ rfl
          have e2 : wr.cell? ⟨b, o + j * 3 + 2, none⟩ = some (.int .i64 x.s) := hcell 2 _ rfl
          have hjn' : (j : Int) < m := by omega
          have hmc := hR.cap
          have hmx := hR.max
          unfold maxLen at hmx
          by_cases he : x.sv.data.toList = nm.data.toList
          · have hd : (x.sv.toList == nm.toList) = true := by rw [ByteArray.toList_eq, ByteArray.toList_eq, he]; simp
            clear he hcell hok hx hxm hL hR hD hPr hbr
            go_wp2_with fail
            go_roundw
            case rel => exact ⟨j + 1, by go_num, by omega, Lib.hid (HBQ.out.alloc HBQ.out.size _)⟩
            case measure => simp [intOf]; omega
          · have hd : (x.sv.toList == nm.toList) = false := by rw [ByteArray.toList_eq, ByteArray.toList_eq]; exact beq_eq_false_iff_ne.2 he
            have hfd : findN S' x.sv.data.toList = some x.f := by
              have hm1 : x.f ∈ S := by rw [← hL]; exact List.mem_map.2 ⟨x, hxm, rfl⟩
              exact findN_some hD.rising (HM.out x.f hm1 he)
            have hsz : x.sv.size ≤ maxLen := by have := hok.sn; unfold maxLen; omega
            have hxl : x.b.length ≤ 1048576 := hok.len
            have hxs : x.s ≤ x.b.length := hok.syn
            have hxc : x.b.length ≤ x.c := hok.rd.cap
            have hxm2 : x.c ≤ 9223372036854775807 := hok.rd.max
            obtain ⟨lo, hlo⟩ : ∃ lo : Nat, lo = x.b.length - x.s := ⟨_, rfl⟩
            have hw : IntKind.i64.wrap ((x.b.length : Int) - (x.s : Int)) = (lo : Int) := by rw [IntWalk.i64_in _ (by omega)]; omega
            obtain ⟨V, hV⟩ : ∃ V, V = wr.alloc (.cells #[.string x.sv, .slice x.A x.b.length x.c, .int .i64 x.s] 48) := ⟨_, rfl⟩
            have hbV : Below wr.heap.size wr V := by rw [hV]; exact (Below.refl _ _).alloc (Nat.le_refl _) _
            have hVf : V.heap[wr.heap.size]? = some (.cells #[.string x.sv, .slice x.A x.b.length x.c, .int .i64 x.s] 48 (0, 0)) := by rw [hV]; exact heap_alloc_new wr _
            have HRE : Hid (Calls Try.prog 15 #[.pointer (some ⟨d, 0, none⟩), .string x.sv] V fun e w' => ∃ A6 c6, e = .returned (.tuple #[.slice A6 x.b.length c6, .int .i64 0]) ∧
                wr.heap.size < w'.heap.size ∧ w'.cell? ⟨wr.heap.size, 0, none⟩ = some (.string x.sv) ∧ w'.cell? ⟨wr.heap.size, 1, none⟩ = some (.slice x.A x.b.length x.c) ∧ w'.cell? ⟨wr.heap.size, 2, none⟩ = some (.int .i64 x.s) ∧
                x.b.length ≤ c6 ∧ Hid (Below w5.heap.size w5 w') ∧ Hid (∀ q, Calls Try.prog 16 #[.slice A6 x.b.length c6, .slice x.A x.b.length x.c] (w'.drewN q) fun e w2 => e = .returned (.bool true) ∧ w2 = w'.drewN q) ∧
                Hid (∀ q, Calls Try.prog 17 #[.pointer (some ⟨d, 0, none⟩), .string x.sv] (w'.drewN q) fun e w2 => e = .returned (.int .i64 lo) ∧ ∃ m, w2 = (w'.drewN q).drewN m)) := Lib.hid (by
              refine (read_there (hD.later hbV) hsz hfd rfl).mono ?_
              rintro e w' ⟨A6, c6, rfl, ho6, hb6⟩
              have hb7 : Below wr.heap.size wr w' := hbV.trans (hb6.mono hbV.size)
              have hf7 : w'.heap[wr.heap.size]? = _ := (hb6.block wr.heap.size (lt_of_block hVf)).trans hVf
              obtain ⟨f0, f1, f2, _⟩ := three_cells hf7
              obtain ⟨A7, c7, e7, hr7⟩ := Rd.of_own ho6
              cases e7
              refine ⟨A6, c6, rfl, lt_of_block hf7, f0, f1, f2, hr7.cap, Lib.hid (HBQ.out.trans (hb7.mono HBQ.out.size)), Lib.hid fun q => ?_, Lib.hid fun q => ?_⟩
              · have hrx := (hok.later (bdrewN hb7 q)).rd
                have := Equal_any A6 x.A x.b.length c6 x.b.length x.c _ _ x.b x.b (w'.drewN q) (hr7.below (bdrewN (Below.refl _ _) q)) hrx hok.byt hok.byt
                rw [decide_eq_true rfl] at this
                exact this.mono fun e w2 hh => ⟨hh.1, hh.2.symm⟩
              · have := Loose_any (hD.later (bdrewN hb7 q)) x.sv hsz
                rwa [show looseF S' x.sv.data.toList = lo by unfold looseF; rw [hfd, hlo]; rfl] at this)
            have HV := Lib.hid hV
            clear he hfd hsz hlo hV hbV hVf hcell hok hx hxm hL hR hD hPr hbr
            generalize x.b.length = xl at *
            go_wp2_with (rw [← HV.out]; go_at_call 15; refine HRE.out.mono ?_; rintro e w6 ⟨A6, c6, rfl, l6, f0, f1, f2, hc6, HB6, HEQ, HLO⟩)
            go_upto_region 18 with fail
            go_quiet ((first | (go_at_call 16; exact Calls.quiet_of_same (HEQ.out _)) | (go_at_call 17; exact Calls.quiet_of (HLO.out _))))
            clear hw
            go_wp2_with fail
            go_roundw
            case rel => exact ⟨j + 1, by go_num, by omega, Lib.hid (bdrewN HB6.out _)⟩
            case measure => simp [intOf]; omega
        · obtain rfl : j = m := by omega
          clear hPr hbr
          go_wp2_with (go_at_call 7; refine (HAW.out _).mono ?_; rintro e w11 ⟨rfl, hb11⟩)
          go_ret
          have hbb := HBW.out.trans (HBR.out.mono HBW.out.size)
          exact ⟨rfl, hbb.trans (hb11.mono hbb.size)⟩

set_option maxHeartbeats 1600000 in
set_option maxRecDepth 100000 in
theorem apart_no (A1 : Option Addr) (n1 c1 : Nat) (l : List OpM) (o : OpM) (w : World) (hl : OpsRd w w.heap.size A1 n1 c1 l) (ho : OpOk w w.heap.size o) (hf : fewF l = false ∨ (fewF l = true ∧ fewF [o] = false) ∨ (fewF l = true ∧ fewF [o] = true ∧ (o.kind < 0 ∨ 3 < o.kind))) :
    Calls Try.prog 5 #[.slice A1 n1 c1, .agg #[.int .i64 o.kind, .string o.nm, .string o.tn, .slice o.bA o.bn o.bc, .int .i64 o.n, .slice o.kA o.kn o.kc]] w fun e w' => e = .returned (.bool true) ∧ Below w.heap.size w w' := by
  obtain ⟨W, hW⟩ : ∃ W, W = w.alloc (.cells #[.int .i64 o.kind, .string o.nm, .string o.tn, .slice o.bA o.bn o.bc, .int .i64 o.n, .slice o.kA o.kn o.kc] 34) := ⟨_, rfl⟩
  have hbW : Below w.heap.size w W := by rw [hW]; exact (Below.refl _ _).alloc (Nat.le_refl _) _
  have hWs : W.heap.size = w.heap.size + 1 := by rw [hW]; simp
  have hoW := (ho.below hbW).more (B' := W.heap.size) hbW.size
  have HFEW := Lib.hid (few_any ((hl.below hbW).more (B' := W.heap.size) hbW.size))
  have HFEW1 : Hid (∀ q, Calls Try.prog 6 #[.slice (some ⟨W.heap.size, 0, none⟩) 1 1] ((W.drewN q).alloc (.cells #[.int .i64 o.kind, .string o.nm, .string o.tn, .slice o.bA o.bn o.bc, .int .i64 o.n, .slice o.kA o.kn o.kc] 34)) fun e w0 => e = .returned (.bool (fewF [o])) ∧ w0.cell? ⟨w.heap.size, 0, none⟩ = some (.int .i64 o.kind) ∧
      Hid (Calls Try.prog 7 #[] w0 fun e w' => e = .returned (.bool true) ∧ Below w.heap.size w w')) := Lib.hid fun q => by
    refine (few_any (one_op (V := W.drewN q) hoW (bdrewN (Below.refl _ _) q) (Nat.le_refl _))).mono ?_
    rintro e w0 ⟨rfl, q2, rfl⟩
    have hV0 : Below W.heap.size W (((W.drewN q).alloc (.cells #[.int .i64 o.kind, .string o.nm, .string o.tn, .slice o.bA o.bn o.bc, .int .i64 o.n, .slice o.kA o.kn o.kc] 34)).drewN q2) := bdrewN ((bdrewN (Below.refl _ _) q).alloc (Nat.le_refl _) _) q2
    obtain ⟨c0, _⟩ := opbox_cells (w := w) (wr := ((W.drewN q).alloc (.cells #[.int .i64 o.kind, .string o.nm, .string o.tn, .slice o.bA o.bn o.bc, .int .i64 o.n, .slice o.kA o.kn o.kc] 34)).drewN q2) (o := o) (by rw [← hW, ← hWs]; exact hV0)
    have hbb := hbW.trans (hV0.mono hbW.size)
    refine ⟨rfl, c0, Lib.hid ((awake_any _).mono ?_)⟩
    rintro e w' ⟨rfl, h⟩
    exact ⟨rfl, hbb.trans (h.mono hbb.size)⟩
  have HAW := Lib.hid fun q => copies_awake w W hbW q
  obtain ⟨q0, q1, q2, q3, q4, q5⟩ := opbox_cells (w := w) (wr := W) (o := o) (by rw [← hW]; exact (Below.refl _ _))
  have HW := Lib.hid hW
  have hlw : w.heap.size < W.heap.size := by omega
  clear hl ho hbW hW hWs hoW
  generalize hf1 : fewF [o] = f1 at *
  clear hf1
  obtain ⟨kind, nm, tn, bA, bn, bc, ob, on, kA, kn, kc, ks⟩ := o
  simp only at *
  rcases hf with hf | ⟨hf, rfl⟩ | ⟨hf, rfl, hk⟩
  · rw [hf] at HFEW
    clear hf
    go_enter Try.func5, Try.ntmps5
    go_wp2_with (first
      | (rw [← HW.out]; go_at_call 6; refine HFEW.out.mono ?_; rintro e w0 ⟨rfl, q, rfl⟩)
      | (go_at_call 7; refine (HAW.out _).mono ?_; rintro e w11 ⟨rfl, hb11⟩))
    go_ret
    exact ⟨rfl, hb11⟩
  · rw [hf] at HFEW
    clear hf
    go_enter Try.func5, Try.ntmps5
    go_wp2_with (first
      | (rw [← HW.out]; go_at_call 6; refine HFEW.out.mono ?_; rintro e w0 ⟨rfl, q, rfl⟩)
      | (go_at_call 6; refine (HFEW1.out _).mono ?_; rintro e w0 ⟨rfl, k0, HA⟩; clear q0 q1 q2 q3 q4 q5)
      | (go_at_call 7; refine (HA.out).mono ?_; rintro e w11 ⟨rfl, hb11⟩))
    go_ret
    exact ⟨rfl, hb11⟩
  · rw [hf] at HFEW
    clear hf
    rcases hk with hk | hk
    · go_enter Try.func5, Try.ntmps5
      go_wp2_with (first
        | (rw [← HW.out]; go_at_call 6; refine HFEW.out.mono ?_; rintro e w0 ⟨rfl, q, rfl⟩)
        | (go_at_call 6; refine (HFEW1.out _).mono ?_; rintro e w0 ⟨rfl, k0, HA⟩; clear q0 q1 q2 q3 q4 q5)
        | (go_at_call 7; refine (HA.out).mono ?_; rintro e w11 ⟨rfl, hb11⟩))
      go_ret
      exact ⟨rfl, hb11⟩
    · have hk0 : decide (kind < 0) = false := decide_eq_false (by omega)
      go_enter Try.func5, Try.ntmps5
      go_wp2_with (first
        | (rw [← HW.out]; go_at_call 6; refine HFEW.out.mono ?_; rintro e w0 ⟨rfl, q, rfl⟩)
        | (go_at_call 6; refine (HFEW1.out _).mono ?_; rintro e w0 ⟨rfl, k0, HA⟩; clear q0 q1 q2 q3 q4 q5)
        | (go_at_call 7; refine (HA.out).mono ?_; rintro e w11 ⟨rfl, hb11⟩))
      go_ret
      exact ⟨rfl, hb11⟩
theorem apart_any (A1 : Option Addr) (n1 c1 : Nat) (l : List OpM) (o : OpM) (w : World) (hl : OpsRd w w.heap.size A1 n1 c1 l) (ho : OpOk w w.heap.size o) :
    Calls Try.prog 5 #[.slice A1 n1 c1, .agg #[.int .i64 o.kind, .string o.nm, .string o.tn, .slice o.bA o.bn o.bc, .int .i64 o.n, .slice o.kA o.kn o.kc]] w fun e w' => e = .returned (.bool true) ∧ Below w.heap.size w w' := by
  cases hf : fewF l
  · exact apart_no A1 n1 c1 l o w hl ho (.inl hf)
  · cases hf1 : fewF [o]
    · exact apart_no A1 n1 c1 l o w hl ho (.inr (.inl ⟨hf, hf1⟩))
    · by_cases hk : 0 ≤ o.kind ∧ o.kind ≤ 3
      · exact apart_walk A1 n1 c1 l o w hl ho hf hf1 hk.1 hk.2
      · exact apart_no A1 n1 c1 l o w hl ho (.inr (.inr ⟨hf, hf1, by omega⟩))
end Go.Proofs.Ytpolkhippblcmaa
