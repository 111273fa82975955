/- What is proved here: 'DiskDoes' returns true at all arguments. -/
import Derived.Test.YtpolkhippblcmaaPair
namespace Go.Proofs.Ytpolkhippblcmaa
open Go Go.RowKit Go.Maps

/-- Where the loop stands: both disks have the files behind k calls, and the document's lies in the box rb. -/
def DoesSt (w : World) (d rb : Nat) (R : Int) (l : List OpM) (k : Nat) (wr : World) : Prop :=
  ∃ A c, Pair w (fun i => i = rb) d R (runF R (l.take k)) (runF R (l.take k)) A (runF R (l.take k)).length c wr ∧ wr.heap[rb]? = some (.cells #[.int .i64 R, .slice A (runF R (l.take k)).length c] 29 (0, 0)) ∧ w.heap.size ≤ rb

theorem does_step {w wr : World} {d rb : Nat} {R : Int} {l : List OpM} {k n c0 : Nat} {A0 : Option Addr} (h : DoesSt w d rb R l k wr) (hl : OpsRd w w.heap.size A0 n c0 l) (hn : n ≤ 60) (hR : R ≤ 1048576) {p : OpM} (hp : l[k]? = some p) :
    ∃ A m c, rb < wr.heap.size ∧ wr.cell? ⟨rb, 0, none⟩ = some (.int .i64 R) ∧ wr.cell? ⟨rb, 1, none⟩ = some (.slice A m c) ∧
      Hid (Calls Try.prog 10 #[.agg #[.int .i64 R, .slice A m c], .agg #[.int .i64 p.kind, .string p.nm, .string p.tn, .slice p.bA p.bn p.bc, .int .i64 p.n, .slice p.kA p.kn p.kc]] (wr.alloc (.cells #[.int .i64 p.kind, .string p.nm, .string p.tn, .slice p.bA p.bn p.bc, .int .i64 p.n, .slice p.kA p.kn p.kc] 34)) fun e w3 =>
        ∃ A' m' c' r, e = .returned (.tuple #[.agg #[.int .i64 R, .slice A' m' c'], .int .i64 r]) ∧ rb < w3.heap.size ∧ wr.heap.size < w3.heap.size ∧
          w3.cell? ⟨wr.heap.size, 0, none⟩ = some (.int .i64 p.kind) ∧ w3.cell? ⟨wr.heap.size, 1, none⟩ = some (.string p.nm) ∧ w3.cell? ⟨wr.heap.size, 2, none⟩ = some (.string p.tn) ∧ w3.cell? ⟨wr.heap.size, 3, none⟩ = some (.slice p.bA p.bn p.bc) ∧ w3.cell? ⟨wr.heap.size, 4, none⟩ = some (.int .i64 p.n) ∧ w3.cell? ⟨wr.heap.size, 5, none⟩ = some (.slice p.kA p.kn p.kc) ∧
          Hid (Calls Try.prog 11 #[.pointer (some ⟨d, 0, none⟩), .agg #[.int .i64 p.kind, .string p.nm, .string p.tn, .slice p.bA p.bn p.bc, .int .i64 p.n, .slice p.kA p.kn p.kc]] (w3.alloc (.cells #[.int .i64 R, .slice A' m' c'] 29)) fun e w5 =>
            e = .returned (.int .i64 r) ∧ rb < w5.heap.size ∧ w3.heap.size < w5.heap.size ∧ w5.cell? ⟨w3.heap.size, 0, none⟩ = some (.int .i64 R) ∧ w5.cell? ⟨w3.heap.size, 1, none⟩ = some (.slice A' m' c') ∧
              w5.cell? ⟨rb, 0, none⟩ = some (.int .i64 R) ∧ w5.cell? ⟨rb, 1, none⟩ = some (.slice A m c) ∧ w5.frozen? ⟨rb, 0, none⟩ = false ∧ w5.frozen? ⟨rb, 1, none⟩ = false ∧
              Hid (Calls Try.prog 12 #[.pointer (some ⟨d, 0, none⟩), .agg #[.int .i64 R, .slice A' m' c']] ((w5.setCell ⟨rb, 0, none⟩ (.int .i64 R)).setCell ⟨rb, 1, none⟩ (.slice A' m' c')) fun e w7 => e = .returned (.bool true) ∧ Hid (DoesSt w d rb R l (k + 1) w7)))) := by
  obtain ⟨A, c, hP, hB, hwr⟩ := h
  have hlen := hl.len
  have hpo := hl.ok p (List.mem_of_getElem? hp)
  have hk : k < l.length := (List.getElem?_eq_some_iff.1 hp).1
  have hm1 := runF_len R (l.take k)
  have hm2 : (l.take k).length ≤ k := List.length_take_le _ _
  have hnext : runF R (l.take (k + 1)) = (doF R (runF R (l.take k)) p).1 := by
    rw [List.take_add_one, hp]
    exact runF_snoc R (l.take k) p
  have hm3 := runF_len R (l.take (k + 1))
  have hm4 : (l.take (k + 1)).length ≤ k + 1 := List.length_take_le _ _
  generalize hS : runF R (l.take k) = S at *
  obtain ⟨b0, b1, _⟩ := two_cells hB
  have hlt := lt_of_block hB
  refine ⟨A, _, c, hlt, b0, b1, Lib.hid ?_⟩
  refine ((hP.alloc _).refDo (fun i hi => by rw [hi]; simp; omega) (by omega) hR p hpo).mono ?_
  rintro e w3 ⟨A', c', rfl, hP3, hb3⟩
  generalize hS' : (doF R S p).1 = S' at *
  have ho : w3.heap[wr.heap.size]? = _ := (hb3.block wr.heap.size (by simp)).trans (heap_alloc_new wr _)
  have hB3 : w3.heap[rb]? = _ := (hb3.block rb (by simp; omega)).trans ((Below.heap_alloc wr _ rb hlt).trans hB)
  have cc : ∀ i u, p.vals[i]? = some u → w3.cell? ⟨wr.heap.size, i, none⟩ = some u := fun i u hu => by
    rw [cell_of_row _ _ _ _ _ _ ho]
    simpa [OpM.vals] using hu
  refine ⟨A', _, c', _, rfl, lt_of_block hB3, lt_of_block ho, cc 0 _ rfl, cc 1 _ rfl, cc 2 _ rfl, cc 3 _ rfl, cc 4 _ rfl, cc 5 _ rfl, Lib.hid ?_⟩
  have hrb3 := lt_of_block hB3
  have hP4 := (hP3.keepK (Kp' := fun i => i = rb ∨ i = w3.heap.size) fun i hi h1 => by rcases h1 with h1 | h1; exact h1; omega).alloc (.cells #[.int .i64 R, .slice A' S'.length c'] 29)
  refine (hP4.lawDo (fun i hi => ?_) (by omega) p hpo).mono ?_
  · rcases hi with hi | hi
    · rw [hi]; simp; omega
    · rw [hi]; simp
  rintro e w5 ⟨rfl, hP5, hKp, hs5⟩
  rw [hS'] at hP5
  have hnb : w5.heap[w3.heap.size]? = _ := (hKp _ (.inr rfl)).trans (heap_alloc_new w3 _)
  have hB5 : w5.heap[rb]? = _ := (hKp _ (.inl rfl)).trans ((Below.heap_alloc w3 _ rb hrb3).trans hB3)
  obtain ⟨n0, n1, _⟩ := two_cells hnb
  obtain ⟨r0, r1, f0, f1⟩ := two_cells hB5
  refine ⟨rfl, lt_of_block hB5, lt_of_block hnb, n0, n1, r0, r1, f0, f1, Lib.hid ?_⟩
  have hch : Chg (fun i => i = rb) w5 ((w5.setCell ⟨rb, 0, none⟩ (.int .i64 R)).setCell ⟨rb, 1, none⟩ (.slice A' S'.length c')) := (Chg.set _ _ _ _).trans (Chg.set _ _ _ _) fun _ _ e => e
  have hP6 := (hP5.keepK (Kp' := fun i => i = rb) fun i _ h1 => .inl h1).turn hch fun i hi => by rw [hi]; exact hwr
  have hB6 := two_set1 (two_set0 hB5 (.int .i64 R)) (.slice A' S'.length c')
  refine (hP6.same (by rw [hnext] at hm3; omega) R).mono ?_
  rintro e w7 ⟨rfl, hb7⟩
  refine ⟨rfl, Lib.hid ⟨A', c', ?_, ?_, hwr⟩⟩
  · rw [hnext]
    exact hP6.later hb7
  · rw [hnext]
    exact (hb7.block rb (lt_of_block hB6)).trans hB6

set_option maxHeartbeats 3200000 in
set_option maxRecDepth 100000 in
theorem does_walk (a0 : Int) (A1 : Option Addr) (n1 c1 : Nat) (l : List OpM) (w : World) (hl : OpsRd w w.heap.size A1 n1 c1 l) (hf : fewF l = true) :
    Calls Try.prog 3 #[.int .i64 a0, .slice A1 n1 c1] w fun e w' => e = .returned (.bool true) ∧ Below w.heap.size w w' := by
  have HAW := Lib.hid fun W => awake_any W
  have hR : clampR a0 ≤ 1048576 := (clampR_in a0).2
  have HNEW : Hid (∀ q, Calls Try.prog 8 #[.int .i64 a0] (w.drewN q) fun e w1 => e = .returned (.pointer (some ⟨w.heap.size + 1, 0, none⟩)) ∧
      Hid (Calls Try.prog 9 #[.int .i64 a0] w1 fun e w2 => e = .returned (.agg #[.int .i64 (clampR a0), .slice none 0 0]) ∧
        Hid (DoesSt w (w.heap.size + 1) w2.heap.size (clampR a0) l 0 (w2.alloc (.cells #[.int .i64 (clampR a0), .slice none 0 0] 29))))) := Lib.hid fun q => (New_any a0 (w.drewN q)).mono (by
    rintro e w1 ⟨rfl, h1, h2, h3⟩
    have hb1 : Below w.heap.size w w1 := ⟨h1.os, h1.tape, h1.output, h1.size, h1.block⟩
    refine ⟨rfl, Lib.hid ((refNew_any a0 w1).mono ?_)⟩
    rintro e w2 ⟨rfl, hb2⟩
    have h2' : w1.heap.size = w.heap.size + 2 := h2
    exact ⟨rfl, Lib.hid ⟨none, 0, Pair.begin hb1 h3 (fun k hk => by have hk' : w.heap.size ≤ k ∧ k < w.heap.size + 2 := hk; omega) hb2 _, heap_alloc_new w2 _, by have := hb2.size; omega⟩⟩)
  have hlen := hl.len
  have hn60 : n1 ≤ 60 := by have := fewF_len hf; omega
  have hc1 := hl.cap
  have hm1 := hl.max
  unfold maxLen at hm1
  have HFEW := Lib.hid (few_any hl)
  rw [hf] at HFEW
  have HL := Lib.hid hl
  have HLEN := Lib.hid hlen
  have HRM := Lib.hid hR
  clear hl hf hlen hR
  generalize clampR a0 = R at *
  go_enter Try.func3, Try.ntmps3
  go_wp2_with (first
    | (go_at_call 6; refine HFEW.out.mono ?_; rintro e w0 ⟨rfl, q, rfl⟩)
    | (go_at_call 8; refine (HNEW.out _).mono ?_; rintro e w1 ⟨rfl, HREF⟩)
    | (go_at_call 9; refine (HREF.out).mono ?_; rintro e w2 ⟨rfl, HBEG⟩))
  generalize w2.heap.size = rb at *
  generalize w2.alloc _ = w3 at *
  go_loopw [23] (fun t wr => ∃ k : Nat, t = .int .i64 k ∧ k ≤ n1 ∧ Hid (DoesSt w (w.heap.size + 1) rb R l k wr)) (fun t _ => n1 - (intOf t).toNat)
  case atStart => exact ⟨0, rfl, Nat.zero_le _, HBEG⟩
  case round =>
    obtain ⟨k, rfl, hk, HS⟩ := hrel
    by_cases hkn : k < n1
    · obtain ⟨p, b, o, hp, hpm, rfl, hbB, hcell, hok⟩ := HL.out.at hkn
      have hb : Below w.heap.size w wr := by obtain ⟨_, _, hP, _⟩ := HS.out; exact hP.below
      have cc : ∀ i u, p.vals[i]? = some u → wr.cell? ⟨b, o + k * 6 + i, none⟩ = some u := fun i u hu => by
        rw [hb.cell (p := ⟨b, o + k * 6 + i, none⟩) hbB, Nat.add_assoc]
        exact hcell i u hu
      have e0 := cc 0 _ rfl
      have e1 := cc 1 _ rfl
      have e2 := cc 2 _ rfl
      have e3 := cc 3 _ rfl
      have e4 := cc 4 _ rfl
      have e5 := cc 5 _ rfl
      obtain ⟨A, m, c, l0, r0, r1, HREF2⟩ := does_step HS.out HL.out hn60 HRM.out hp
      have hkn' : (k : Int) < n1 := by omega
      rw [Nat.add_zero] at e0
      clear hcell hok hpm hp hb cc
      go_wp2_with (first
        | (go_at_call 10; refine (HREF2.out).mono ?_; rintro e w4 ⟨A', m', c', r, rfl, l1, l2, o0, o1, o2, o3, o4, o5, HDO⟩; clear e0 e1 e2 e3 e4 e5 r0 r1 l0)
        | (go_at_call 11; refine (HDO.out).mono ?_; rintro e w5 ⟨rfl, l3, l4, n0, n1, r0, r1, f0, f1, HSA⟩; clear o0 o1 o2 o3 o4 o5 l1 l2)
        | (go_at_call 12; refine (HSA.out).mono ?_; rintro e w6 ⟨rfl, HS2⟩))
      go_roundw
      case rel => exact ⟨k + 1, by go_num, by omega, HS2⟩
      case measure => simp [intOf]; omega
    · obtain rfl : k = n1 := by omega
      have hbw : Below w.heap.size w wr := by obtain ⟨_, _, hP, _⟩ := HS.out; exact hP.below
      have HBW := Lib.hid hbw
      clear hbw
      go_wp2_with (go_at_call 7; refine (HAW.out _).mono ?_; rintro e w11 ⟨rfl, hb11⟩)
      go_ret
      exact ⟨rfl, HBW.out.trans (hb11.mono HBW.out.size)⟩

set_option maxHeartbeats 1600000 in
set_option maxRecDepth 100000 in
theorem does_no (a0 : Int) (A1 : Option Addr) (n1 c1 : Nat) (l : List OpM) (w : World) (hl : OpsRd w w.heap.size A1 n1 c1 l) (hf : fewF l = false) :
    Calls Try.prog 3 #[.int .i64 a0, .slice A1 n1 c1] w fun e w' => e = .returned (.bool true) ∧ Below w.heap.size w w' := by
  have HAW : Hid (∀ q, Calls Try.prog 7 #[] (w.drewN q) fun e w' => e = .returned (.bool true) ∧ Below w.heap.size w w') := Lib.hid fun q => (awake_any (w.drewN q)).mono (by
    rintro e w' ⟨rfl, hb⟩
    exact ⟨rfl, hb.os, hb.tape, hb.output, hb.size, hb.block⟩)
  have HFEW := Lib.hid (few_any hl)
  rw [hf] at HFEW
  clear hl hf
  go_enter Try.func3, Try.ntmps3
  go_wp2_with (first
    | (go_at_call 6; refine HFEW.out.mono ?_; rintro e w0 ⟨rfl, q, rfl⟩)
    | (go_at_call 7; refine (HAW.out _).mono ?_; rintro e w11 ⟨rfl, hb11⟩))
  go_ret
  exact ⟨rfl, hb11⟩

theorem does_any (a0 : Int) (A1 : Option Addr) (n1 c1 : Nat) (l : List OpM) (w : World) (hl : OpsRd w w.heap.size A1 n1 c1 l) :
    Calls Try.prog 3 #[.int .i64 a0, .slice A1 n1 c1] w fun e w' => e = .returned (.bool true) ∧ Below w.heap.size w w' := by
  by_cases hf : fewF l = true
  · exact does_walk a0 A1 n1 c1 l w hl hf
  · exact does_no a0 A1 n1 c1 l w hl (by simpa using hf)
end Go.Proofs.Ytpolkhippblcmaa
