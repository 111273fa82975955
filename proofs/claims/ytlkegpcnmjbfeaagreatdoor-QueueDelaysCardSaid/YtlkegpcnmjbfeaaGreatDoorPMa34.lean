/- What is proved here: the law's 'awake' says yes. -/
/- What is proved here: plain facts on many messages that are sent, received, acked. -/
/- What is proved here: the law QueueMany says yes. -/
import Derived.Test.YtlkegpcnmjbfeaaGreatDoorPMa33
section
namespace Go.Proofs.YtlkegpcnmjbfeaaGreatDoor
open Go Go.RowKit Go.Maps Go.WideMaps

def took5 (b : Nat) (m : Ms) : List Cel := rowC b (tookM m)
theorem mem_took5 (b : Nat) (m : Ms) : (b, 0, Value.int .i64 m.id) ∈ took5 b m ∧ (b, 1, Value.int .i64 m.count) ∈ took5 b m ∧ (b, 2, Value.string (rcpt m)) ∈ took5 b m ∧ (b, 3, Value.string m.body) ∈ took5 b m ∧ (b, 4, Value.string m.group) ∈ took5 b m := by
  unfold took5 tookM
  refine ⟨?_, ?_, ?_, ?_, ?_⟩ <;> exact mem_rowC.2 ⟨rfl, rfl⟩
section
variable {w0 w w' : World} {q : Nat} {Q Q' : QM} {T : Nat} {C : List Cel}
theorem QW.recv1 (h : QW w0 w q Q T C) (hT : T < 800000) {n v : Int} {m : Ms} (hc : canRecv n v = true) (hr : recvA Q n v = [m]) (hq : recvQ Q n v = Q') :
    Calls Tryz.prog 21 #[.pointer (some ⟨q, 0, none⟩), .int .i64 n, .int .i64 v] w fun e w' => ∃ b c, e = .returned (.tuple #[.slice (some ⟨b, 0, none⟩) 1 c, .int .i64 0]) ∧ 1 ≤ c ∧ c ≤ 9223372036854775807 ∧ Hid (QW w0 w' q Q' (T + 1) (took5 b m ++ C)) := by
  refine (h.recv hT n v).mono ?_
  rintro e w' ⟨A, c, k, rfl, hk, hx⟩
  rw [hr] at hk hx
  rw [hq] at hx
  rw [hc]
  obtain rfl : k = 1 := hk
  rcases hx with ⟨h0, _⟩ | ⟨b, rfl, k1, k2, hx⟩
  · cases h0
  · refine ⟨b, c, rfl, k1, k2, Lib.hid ?_⟩
    have h2 := hx.out.2
    rw [List.flatMap_cons, List.flatMap_nil, List.append_nil] at h2
    exact h2
theorem QW.recv0 (h : QW w0 w q Q T C) (hT : T < 800000) {n v : Int} (hc : canRecv n v = true) (hr : recvA Q n v = []) (hq : recvQ Q n v = Q') :
    Calls Tryz.prog 21 #[.pointer (some ⟨q, 0, none⟩), .int .i64 n, .int .i64 v] w fun e w' => ∃ A c, e = .returned (.tuple #[.slice A 0 c, .int .i64 0]) ∧ Hid (QW w0 w' q Q' (T + 1) C) := by
  refine (h.recv hT n v).mono ?_
  rintro e w' ⟨A, c, k, rfl, hk, hx⟩
  rw [hr] at hk
  rw [hq] at hx
  rw [hc]
  obtain rfl : k = 0 := hk
  rcases hx with ⟨_, hx⟩ | ⟨b, rfl, k1, k2, hx⟩
  · exact ⟨A, c, rfl, hx⟩
  · exact ⟨_, c, rfl, Lib.hid (hx.out.2.less fun x hx => List.mem_append.2 (.inr hx))⟩
theorem QW.tickTo (h : QW w0 w q Q T C) (hT : T < 800000) {now : Int} (hq : tickQ Q now = Q') :
    Calls Tryz.prog 22 #[.pointer (some ⟨q, 0, none⟩), .int .i64 now] w fun e w' => ∃ A c j A2 c2 n, e = .returned (.tuple #[.slice A j c, .slice A2 n c2]) ∧ n = (tickG Q now).length ∧ Hid (QW w0 w' q Q' T C) := by
  refine (h.tick hT now).mono ?_
  rintro e w' ⟨A, c, j, A2, c2, n, rfl, _, hn, hx⟩
  rw [hq] at hx
  refine ⟨A, c, j, A2, c2, n, rfl, hn, ?_⟩
  rcases hx with ⟨_, hx⟩ | ⟨b, _, _, _, hx⟩
  · exact hx
  · exact Lib.hid (hx.out.less fun x hx => List.mem_append.2 (.inr hx))
set_option maxHeartbeats 3200000 in
set_option maxRecDepth 100000 in
theorem awake_any (w : World) (hE : Env w) (h6 : 6 ≤ w.heap.size) : Calls Tryz.prog 13 #[] w fun e w' => e = .returned (.bool true) ∧ Below w.heap.size w w' := by
  have HN : Hid (∀ W, Below w.heap.size w W → Calls Tryz.prog 14 #[.agg #[.int .i64 5, .int .i64 100, .int .i64 0, .int .i64 0, .int .i64 0, .string ⟨#[]⟩, .bool false]] W fun e w' => ∃ q : Nat, e = .returned (.pointer (some ⟨q, 0, none⟩)) ∧ Hid (QW w w' q (newQ awA) 0 [])) := Lib.hid fun W hW => by
    refine (QW.new hE h6 hW awA).mono ?_
    rintro e w' (⟨h1, _⟩ | ⟨_, q, rfl, hx⟩)
    · rw [aw0] at h1; cases h1
    · exact ⟨q, rfl, Lib.hid hx.out.2⟩
  have C1 : Hid (∀ w2 q, QW w w2 q (newQ awA) 0 [] → Calls Tryz.prog 20 #[.pointer (some ⟨q, 0, none⟩), .string strX, .string str0, .string str0, .int .i64 (-1)] w2 fun e w' => e = .returned (.tuple #[.int .i64 1, .int .i64 0]) ∧ Hid (QW w w' q (awQ 0 0 false 0) 1 [])) := Lib.hid fun w2 q h => by
    have := h.send (by decide) strX str0 str0 (-1)
    rwa [aw1, aw2] at this
  have C2 : Hid (∀ w2 q, QW w w2 q (awQ 0 0 false 0) 1 [] → Calls Tryz.prog 21 #[.pointer (some ⟨q, 0, none⟩), .int .i64 1, .int .i64 0] w2 fun e w' => ∃ b c, e = .returned (.tuple #[.slice (some ⟨b, 0, none⟩) 1 c, .int .i64 0]) ∧ 1 ≤ c ∧ c ≤ 9223372036854775807 ∧ Hid (QW w w' q (awQ 1 5 true 0) 2 (took5 b ⟨1, 0, 1, 5, true, strX, str0⟩ ++ []))) := Lib.hid fun w2 q h => h.recv1 (by decide) aw13.1 aw3 aw4
  have C3 : Hid (∀ w2 q C, QW w w2 q (awQ 1 5 true 0) 2 C → Calls Tryz.prog 22 #[.pointer (some ⟨q, 0, none⟩), .int .i64 5] w2 fun e w' => ∃ A c j A2 c2 n, e = .returned (.tuple #[.slice A j c, .slice A2 n c2]) ∧ Hid (QW w w' q (awQ 1 5 false 5) 2 C)) := Lib.hid fun w2 q C h => by
    refine (h.tickTo (by decide) aw5).mono ?_
    rintro e w' ⟨A, c, j, A2, c2, n, rfl, _, hx⟩
    exact ⟨A, c, j, A2, c2, n, rfl, hx⟩
  have C4 : Hid (∀ w2 q C, QW w w2 q (awQ 1 5 false 5) 2 C → Calls Tryz.prog 21 #[.pointer (some ⟨q, 0, none⟩), .int .i64 3, .int .i64 0] w2 fun e w' => ∃ b c, e = .returned (.tuple #[.slice (some ⟨b, 0, none⟩) 1 c, .int .i64 0]) ∧ 1 ≤ c ∧ c ≤ 9223372036854775807 ∧ Hid (QW w w' q (awQ 2 10 true 5) 3 (took5 b ⟨1, 0, 2, 10, true, strX, str0⟩ ++ C))) := Lib.hid fun w2 q C h => h.recv1 (by decide) aw13.2 aw6 aw7
  have C5 : Hid (∀ w2 q C, QW w w2 q (awQ 2 10 true 5) 3 C → Calls Tryz.prog 28 #[.pointer (some ⟨q, 0, none⟩), .string rc11] w2 fun e w' => e = .returned (.tuple #[.int .i64 0, .int .i64 8]) ∧ Hid (QW w w' q (awQ 2 10 true 5) 3 C)) := Lib.hid fun w2 q C h => by
    have := h.ack (by decide) (t := rc11) (by decide)
    rwa [aw8, aw9] at this
  have C6 : Hid (∀ w2 q b1 b2, QW w w2 q (awQ 2 10 true 5) 3 (took5 b2 ⟨1, 0, 2, 10, true, strX, str0⟩ ++ (took5 b1 ⟨1, 0, 1, 5, true, strX, str0⟩ ++ [])) → Calls Tryz.prog 28 #[.pointer (some ⟨q, 0, none⟩), .string rc12] w2 fun e w' => e = .returned (.tuple #[.int .i64 1, .int .i64 0]) ∧ w'.cell? ⟨b1, 1, none⟩ = some (.int .i64 1) ∧ w'.cell? ⟨b2, 2, none⟩ = some (.string rc12) ∧ Hid (Calls Tryz.prog 27 #[.pointer (some ⟨q, 0, none⟩)] w' fun e w3 => ∃ A c, e = .returned (.slice A 0 c) ∧ Hid (Below w.heap.size w w3))) := Lib.hid fun w2 q b1 b2 h => by
    refine (h.ack (by decide) (t := rc12) (by decide)).mono ?_
    rintro e w' ⟨rfl, hx⟩
    refine ⟨by rw [aw10]; rfl, hx.out.cell (List.mem_append.2 (.inr (List.mem_append.2 (.inl (mem_took5 _ _).2.1)))), ?_, Lib.hid ?_⟩
    · rw [← aw12]
      exact hx.out.cell (List.mem_append.2 (.inl (mem_took5 _ _).2.2.1))
    · refine hx.out.ids.mono ?_
      rintro e w3 ⟨A, c, rfl, hy⟩
      rw [aw11]
      exact ⟨A, c, rfl, Lib.hid hy.out.2.2.bel⟩
  unfold strX str0 rc11 rc12 at *
  go_enter Tryz.func13, Tryz.ntmps13
  go_wp2_with (first
    | (go_at_call 14; refine (HN.out _ (by first | exact Below.refl _ _ | assumption)).mono ?_; rintro e w1 ⟨q, rfl, HT⟩; have D1 := Lib.hid (C1.out _ q HT.out); clear HN C1)
    | (go_at_call 20; refine D1.out.mono ?_; rintro e w2 ⟨rfl, HT2⟩; have D2 := Lib.hid (C2.out _ q HT2.out); clear D1)
    | (go_at_call 21; refine D2.out.mono ?_; rintro e w3 ⟨b1, c1, rfl, p1, p2, HT3⟩; have D3 := Lib.hid (C3.out _ q _ HT3.out); clear D2 C2)
    | (go_at_call 22; refine D3.out.mono ?_; rintro e w4 ⟨A, c, j, A2, c2, n, rfl, HT4⟩; have D4 := Lib.hid (C4.out _ q _ HT4.out); clear D3 C3)
    | (go_at_call 21; refine D4.out.mono ?_; rintro e w5 ⟨b2, c3, rfl, p3, p4, HT5⟩; have D5 := Lib.hid (C5.out _ q _ HT5.out); clear D4 C4)
    | (go_at_call 28; refine D5.out.mono ?_; rintro e w6 ⟨rfl, HT6⟩; have D6 := Lib.hid (C6.out _ q b1 b2 HT6.out); clear D5 C5)
    | (go_at_call 28; refine D6.out.mono ?_; rintro e w7 ⟨rfl, e1, e2, D7⟩; clear D6 C6)
    | (go_at_call 27; refine D7.out.mono ?_; rintro e w8 ⟨A, c, rfl, HZ⟩))
  go_ret
  exact ⟨rfl, HZ.out⟩
end
end Go.Proofs.YtlkegpcnmjbfeaaGreatDoor
end

section
namespace Go.Proofs.YtlkegpcnmjbfeaaGreatDoor
open Go

def mA : Att := ⟨9, 99, 0, 0, 0, ⟨#[]⟩, false⟩
def mM (k : Nat) : Ms := ⟨(k : Int) + 1, 0, 0, 0, false, strX, str0⟩
def mL (k : Nat) : Ms := ⟨(k : Int) + 1, 0, 1, 9, true, strX, str0⟩
def mQ (k : Nat) : QM := ⟨mA, 0, k, (List.range k).map mM, []⟩
/-- j were acked of the r that were received of N. -/
def aQ (j r N : Nat) : QM := ⟨mA, 0, N, (List.range' j (N - j)).map fun i => if i < r then mL i else mM i, []⟩
theorem mA_right : mA.right = true := by kernel_rfl
theorem mQ_new : newQ mA = mQ 0 := rfl
theorem takes_m : takes mA strX str0 str0 (-1) = true := by kernel_rfl
theorem send_m {k : Nat} (hk : k < 1024) : sendA (mQ k) strX str0 str0 (-1) = ((k : Int) + 1, 0) ∧ sendQ (mQ k) strX str0 str0 (-1) = mQ (k + 1) := by
  have hl : ¬ 1024 ≤ (mQ k).L.length := by
    show ¬ 1024 ≤ ((List.range k).map mM).length
    rw [List.length_map, List.length_range]
    omega
  have ht : takes (mQ k).A strX str0 str0 (-1) = true := takes_m
  have hf : Led.findE (mQ k).K str0 = none := rfl
  have hy : keyed (mQ k).A str0 = false := by show keyed mA str0 = false; kernel_rfl
  unfold sendA sendQ
  rw [ht, hf, hy]
  simp only [Bool.not_true, Bool.false_eq_true, if_false, if_neg hl, Bool.false_and]
  refine ⟨rfl, ?_⟩
  have hkq : keyQ (mQ k) str0 = mQ k := by unfold keyQ; rw [hy]; rfl
  rw [hkq]
  unfold addQ mQ
  rw [List.range_succ, List.map_append]
  rfl
theorem wait_m (now : Int) (h : 0 ≤ now) (k : Nat) : waits now (mM k) = true := by
  unfold waits
  show (true && decide ((0 : Int) ≤ now)) = true
  rw [decide_eq_true h]
  rfl
theorem ready_m (N n : Nat) : readyL (mQ N) n = (List.range (min n N)).map mM := by
  unfold readyL
  have e : (aheadL (mQ N)) = (List.range N).map mM := rfl
  rw [e, List.filter_eq_self.2 (fun x hx => by
    obtain ⟨k, _, rfl⟩ := List.mem_map.1 hx
    exact wait_m 0 (Int.le_refl _) k), ← List.map_take, List.take_range]
theorem recvA_m {n : Nat} (h1 : 1 ≤ n) (h10 : n ≤ 10) (N : Nat) : canRecv n 0 = true ∧ recvA (mQ N) n 0 = (List.range (min n N)).map mL ∧ recvQ (mQ N) n 0 = aQ 0 (min n N) N := by
  have hc : canRecv n 0 = true := by unfold canRecv within; simp; omega
  refine ⟨hc, ?_, ?_⟩
  · unfold recvA recvL
    rw [if_pos hc, Int.toNat_natCast, ready_m, List.map_map]
    rfl
  · unfold recvQ aQ
    rw [if_pos hc, Int.toNat_natCast, ready_m]
    have e : leaseL (mQ N).L ((List.range (min n N)).map mM) ((mQ N).now + visOf (mQ N) 0) = (List.range' 0 (N - 0)).map fun i => if i < min n N then mL i else mM i := by
      unfold leaseL
      show ((List.range N).map mM).map _ = _
      rw [List.map_map, show List.range' 0 (N - 0) = List.range N by rw [Nat.sub_zero, List.range_eq_range']]
      apply List.map_congr_left
      intro k _
      show (if ((List.range (min n N)).map mM).any (fun x => decide (x.id = (mM k).id)) then leaseM 9 (mM k) else mM k) = _
      have e2 : (((List.range (min n N)).map mM).any fun x => decide (x.id = (mM k).id)) = decide (k < min n N) := by
        by_cases hk : k < min n N
        · rw [decide_eq_true hk, List.any_eq_true]
          exact ⟨mM k, List.mem_map.2 ⟨k, List.mem_range.2 hk, rfl⟩, decide_eq_true rfl⟩
        · rw [decide_eq_false hk, List.any_eq_false]
          intro x hx
          obtain ⟨i, hi, rfl⟩ := List.mem_map.1 hx
          rw [List.mem_range] at hi
          rw [decide_eq_true_eq]
          show ¬ ((i : Int) + 1 = (k : Int) + 1)
          omega
      rw [e2]
      by_cases hk : k < min n N
      · rw [decide_eq_true hk, if_pos rfl, if_pos hk]
        rfl
      · rw [decide_eq_false hk, if_neg (by decide), if_neg hk]
    rw [e]
    rfl
/-- The receipt of a message that is leased is its own. -/
theorem byR_m {L : List Ms} (hp : L.Pairwise fun a b => a.id < b.id) (hb : ∀ x ∈ L, 0 ≤ x.id ∧ x.id < 1000000) {x : Ms} (hx : x ∈ L) (hl : x.lsd = true) : byR L (rcpt x) = some x := by
  unfold byR
  cases hf : L.find? (fun m => m.lsd && decide (rcpt m = rcpt x)) with
  | none =>
    have := List.find?_eq_none.1 hf x hx
    rw [hl] at this
    simp at this
  | some y =>
    have h1 := List.mem_of_find?_eq_some hf
    have h2 := List.find?_some hf
    rw [Bool.and_eq_true, decide_eq_true_eq] at h2
    have e : y.id = x.id := by
      have e1 := hb x hx
      have e2 := hb y h1
      rw [← numOf_rcpt (count := x.count) (by omega : 0 ≤ x.id) (by omega), ← rcpt_is, ← h2.2, rcpt_is, numOf_rcpt (by omega) (by omega)]
    rw [ms_one hp h1 hx e]
theorem aQ_pair (j r N : Nat) : (aQ j r N).L.Pairwise fun a b => a.id < b.id := by
  unfold aQ
  refine List.Pairwise.map _ (R := fun a b => a < b) (fun a b hab => ?_) List.pairwise_lt_range'
  have e : ∀ i, (if i < r then mL i else mM i).id = (i : Int) + 1 := fun i => by split <;> rfl
  rw [e, e]
  omega
theorem aQ_mem {j r N : Nat} {x : Ms} (h : x ∈ (aQ j r N).L) : ∃ i, j ≤ i ∧ i < N ∧ x = if i < r then mL i else mM i := by
  obtain ⟨i, hi, rfl⟩ := List.mem_map.1 h
  obtain ⟨h1, h2⟩ := List.mem_range'_1.1 hi
  exact ⟨i, h1, by omega, rfl⟩
theorem ack_m {j r N : Nat} (hj : j < r) (hr : r ≤ N) (hN : N < 100) : ackA (aQ j r N) (rcpt (mL j)) = ((j : Int) + 1, 0) ∧ ackQ (aQ j r N) (rcpt (mL j)) = aQ (j + 1) r N := by
  have hx : mL j ∈ (aQ j r N).L := List.mem_map.2 ⟨j, List.mem_range'_1.2 ⟨Nat.le_refl _, by omega⟩, if_pos hj⟩
  have hb := byR_m (aQ_pair j r N) (fun x hx => by
    obtain ⟨i, h1, h2, rfl⟩ := aQ_mem hx
    have : (if i < r then mL i else mM i).id = (i : Int) + 1 := by split <;> rfl
    rw [this]
    omega) hx rfl
  unfold ackA ackQ
  rw [hb]
  refine ⟨rfl, ?_⟩
  show { aQ j r N with L := dropL (aQ j r N).L ((j : Int) + 1) } = _
  have e : dropL (aQ j r N).L ((j : Int) + 1) = (aQ (j + 1) r N).L := by
    unfold aQ dropL
    have e1 : N - j = (N - (j + 1)) + 1 := by omega
    show List.filter _ ((List.range' j (N - j)).map _) = (List.range' (j + 1) (N - (j + 1))).map _
    rw [e1, List.range'_succ, List.map_cons, List.filter_cons_of_neg (by rw [if_pos hj]; simp [mL]), List.filter_eq_self.2]
    intro x hx
    obtain ⟨i, hi, rfl⟩ := List.mem_map.1 hx
    obtain ⟨h1, h2⟩ := List.mem_range'_1.1 hi
    have : (if i < r then mL i else mM i).id = (i : Int) + 1 := by split <;> rfl
    rw [this, decide_eq_true_eq]
    omega
  rw [e]
  rfl
theorem last_m (r N : Nat) : (recvA (aQ r r N) 10 0).length = min 10 (N - r) ∧ (r < N → ∃ x rest, recvA (aQ r r N) 10 0 = x :: rest ∧ x.id = (r : Int) + 1) := by
  have hc : canRecv 10 0 = true := by kernel_rfl
  have hL : (aQ r r N).L = (List.range' r (N - r)).map mM := by
    unfold aQ
    apply List.map_congr_left
    intro i hi
    have := (List.mem_range'_1.1 hi).1
    rw [if_neg (by omega)]
  have hrd : readyL (aQ r r N) 10 = ((List.range' r (N - r)).map mM).take 10 := by
    unfold readyL
    have e : aheadL (aQ r r N) = (aQ r r N).L := rfl
    rw [e, hL, List.filter_eq_self.2]
    intro x hx
    obtain ⟨k, _, rfl⟩ := List.mem_map.1 hx
    exact wait_m 0 (Int.le_refl _) k
  unfold recvA recvL
  rw [if_pos hc]
  show ((readyL (aQ r r N) 10).map _).length = _ ∧ (_ → ∃ x rest, (readyL (aQ r r N) 10).map _ = x :: rest ∧ _)
  rw [hrd]
  refine ⟨by simp, fun hlt => ?_⟩
  have e1 : N - r = (N - r - 1) + 1 := by omega
  rw [e1, List.range'_succ, List.map_cons, List.take_succ_cons, List.map_cons]
  exact ⟨_, _, rfl, rfl⟩
end Go.Proofs.YtlkegpcnmjbfeaaGreatDoor
end

section
namespace Go.Proofs.YtlkegpcnmjbfeaaGreatDoor
open Go Go.RowKit Go.Maps Go.WideMaps

theorem rcpt_size {m : Ms} (h1 : 0 ≤ m.id ∧ m.id ≤ 1000000) (h2 : 0 ≤ m.count ∧ m.count ≤ 1000000) : (rcpt m).size < 4294967281 := by
  have e1 := digs_size m.id (by omega) (by omega)
  have e2 := digs_size m.count (by omega) (by omega)
  unfold rcpt
  rw [ByteArray.size_append, ByteArray.size_append]
  have e3 : (⟨#[46]⟩ : ByteArray).size = 1 := rfl
  omega
section
variable {w0 w w' : World} {q : Nat} {Q Q' : QM} {T : Nat} {C : List Cel}
theorem rowC_took {b : Nat} {L : List Ms} {k : Nat} (hk : k < L.length) : (b, k * 5, Value.int .i64 L[k].id) ∈ rowC b (L.flatMap tookM) ∧ (b, k * 5 + 1, Value.int .i64 L[k].count) ∈ rowC b (L.flatMap tookM) ∧ (b, k * 5 + 2, Value.string (rcpt L[k])) ∈ rowC b (L.flatMap tookM) ∧ (b, k * 5 + 3, Value.string L[k].body) ∈ rowC b (L.flatMap tookM) ∧ (b, k * 5 + 4, Value.string L[k].group) ∈ rowC b (L.flatMap tookM) := by
  have key : ∀ (L : List Ms) (k : Nat) (hk : k < L.length) (j : Nat), j < 5 → (L.flatMap tookM)[k * 5 + j]? = (tookM L[k])[j]? := by
    intro L
    induction L with
    | nil => intro k hk; simp at hk
    | cons x r ih =>
      intro k hk j hj
      rw [List.flatMap_cons]
      have hl : (tookM x).length = 5 := rfl
      cases k with
      | zero =>
        rw [List.getElem?_append_left (by omega)]
        simp
      | succ k =>
        rw [List.getElem?_append_right (by omega), show (k + 1) * 5 + j - (tookM x).length = k * 5 + j by omega, ih k (by simpa using hk) j hj]
        rfl
  refine ⟨mem_rowC.2 ⟨rfl, (key L k hk 0 (by omega)).trans rfl⟩, mem_rowC.2 ⟨rfl, (key L k hk 1 (by omega)).trans rfl⟩, mem_rowC.2 ⟨rfl, (key L k hk 2 (by omega)).trans rfl⟩, mem_rowC.2 ⟨rfl, (key L k hk 3 (by omega)).trans rfl⟩, mem_rowC.2 ⟨rfl, (key L k hk 4 (by omega)).trans rfl⟩⟩
/-- Cells of what was received of many. -/
def manyC (b r : Nat) : List Cel := rowC b (((List.range r).map mL).flatMap tookM)
theorem many_cells {r k b : Nat} (hk : k < r) (h : QW w0 w q Q T (manyC b r)) : w.cell? ⟨b, k * 5, none⟩ = some (.int .i64 ((k : Int) + 1)) ∧ w.cell? ⟨b, k * 5 + 1, none⟩ = some (.int .i64 1) ∧ w.cell? ⟨b, k * 5 + 2, none⟩ = some (.string (rcpt (mL k))) ∧ w.cell? ⟨b, k * 5 + 3, none⟩ = some (.string strX) ∧ w.cell? ⟨b, k * 5 + 4, none⟩ = some (.string str0) := by
  have hl : k < ((List.range r).map mL).length := by simpa using hk
  obtain ⟨h1, h2, h3, h4, h5⟩ := rowC_took (b := b) hl
  have e : ((List.range r).map mL)[k] = mL k := by simp
  rw [e] at h1 h2 h3 h4 h5
  exact ⟨h.cell h1, h.cell h2, h.cell h3, h.cell h4, h.cell h5⟩
/-- Behind the first Receive. -/
def RecM (w0 : World) (q r N : Nat) (A : Option Addr) (c : Nat) (j : Nat) (w : World) : Prop :=
  (r = 0 ∧ QW w0 w q (aQ j r N) (N + 1) []) ∨ ∃ b, A = some ⟨b, 0, none⟩ ∧ r ≤ c ∧ c ≤ 9223372036854775807 ∧ QW w0 w q (aQ j r N) (N + 1) (manyC b r)
theorem RecM.any {A : Option Addr} {r N c j : Nat} (h : RecM w0 q r N A c j w) : ∃ C, QW w0 w q (aQ j r N) (N + 1) C := by
  rcases h with ⟨_, h⟩ | ⟨_, _, _, _, h⟩ <;> exact ⟨_, h⟩
end
set_option maxHeartbeats 6400000 in
set_option maxRecDepth 100000 in
theorem many_any (w : World) (hE : Env w) (h6 : 6 ≤ w.heap.size) (a0 a1 : Int) (b0 : -9223372036854775808 ≤ a0 ∧ a0 ≤ 9223372036854775807) (b1 : -9223372036854775808 ≤ a1 ∧ a1 ≤ 9223372036854775807) :
    Calls Tryz.prog 11 #[.int .i64 a0, .int .i64 a1] w fun e w' => e = .returned (.bool true) ∧ Below w.heap.size w w' := by
  have HN : Hid (∀ W, Below w.heap.size w W → Calls Tryz.prog 14 #[.agg #[.int .i64 9, .int .i64 99, .int .i64 0, .int .i64 0, .int .i64 0, .string ⟨#[]⟩, .bool false]] W fun e w' => ∃ q : Nat, e = .returned (.pointer (some ⟨q, 0, none⟩)) ∧ Hid (QW w w' q (mQ 0) 0 [])) := Lib.hid fun W hW => by
    refine (QW.new hE h6 hW mA).mono ?_
    rintro e w' (⟨h1, _⟩ | ⟨_, q, rfl, hx⟩)
    · rw [mA_right] at h1; cases h1
    · exact ⟨q, rfl, Lib.hid hx.out.2⟩
  have HAW : Hid (∀ W, Below w.heap.size w W → Calls Tryz.prog 13 #[] W fun e w' => e = .returned (.bool true) ∧ Hid (Below w.heap.size w w')) := Lib.hid fun W hW =>
    (awake_any W (hE.below h6 hW) (Nat.le_trans h6 hW.size)).mono fun e w' ⟨he, hb⟩ => ⟨he, Lib.hid (hW.trans (hb.mono hW.size))⟩
  clear hE h6
  by_cases hb : 0 ≤ a0 ∧ a0 ≤ 30
  · obtain ⟨N, rfl⟩ : ∃ N : Nat, a0 = N := ⟨a0.toNat, by omega⟩
    have hN : N ≤ 30 := by omega
    have hn1 : ¬ (N : Int) < 0 := by omega
    have hn2 : ¬ (30 : Int) < N := by omega
    have HS : Hid (∀ k q wr, k < N → QW w wr q (mQ k) k [] → Calls Tryz.prog 20 #[.pointer (some ⟨q, 0, none⟩), .string ⟨#[120]⟩, .string ⟨#[]⟩, .string ⟨#[]⟩, .int .i64 (-1)] wr fun e w' => ∃ v, e = .returned v ∧ Hid (QW w w' q (mQ (k + 1)) (k + 1) [])) := Lib.hid fun k q wr hk h => by
      refine (h.send (by omega) strX str0 str0 (-1)).mono ?_
      rintro e w' ⟨rfl, hx⟩
      rw [(send_m (k := k) (by omega)).2] at hx
      exact ⟨_, rfl, hx⟩
    by_cases hc : 1 ≤ a1 ∧ a1 ≤ 10
    · obtain ⟨n, rfl⟩ : ∃ n : Nat, a1 = n := ⟨a1.toNat, by omega⟩
      have hm1 : ¬ (n : Int) < 1 := by omega
      have hm2 : ¬ (10 : Int) < n := by omega
      obtain ⟨r, hr⟩ : ∃ r, r = min n N := ⟨_, rfl⟩
      have hmin : min (n : Int) (N : Int) = r := by omega
      have HR : Hid (∀ q wr, QW w wr q (mQ N) N [] → Calls Tryz.prog 21 #[.pointer (some ⟨q, 0, none⟩), .int .i64 n, .int .i64 0] wr fun e w' => ∃ A c, e = .returned (.tuple #[.slice A r c, .int .i64 0]) ∧ Hid (RecM w q r N A c 0 w')) := Lib.hid fun q wr h => by
        obtain ⟨m1, m2, m3⟩ := recvA_m (n := n) (by omega) (by omega) N
        refine (h.recv (by omega) n 0).mono ?_
        rintro e w' ⟨A, c, k, rfl, hk, hx⟩
        rw [m2, ← hr] at hk hx
        rw [m3, ← hr] at hx
        rw [m1]
        rw [List.length_map, List.length_range] at hk
        subst hk
        refine ⟨A, c, rfl, Lib.hid ?_⟩
        rcases hx with ⟨h0, hx⟩ | ⟨b, rfl, k1, k2, hx⟩
        · exact .inl ⟨h0, hx.out⟩
        · refine .inr ⟨b, rfl, k1, k2, hx.out.2.less fun x hx => List.mem_append.2 (.inl hx)⟩
      have HRD : Hid (∀ q A c k wr, k < r → RecM w q r N A c k wr → ∃ b, A = some ⟨b, 0, none⟩ ∧ r ≤ c ∧ c ≤ 9223372036854775807 ∧ wr.cell? ⟨b, k * 5, none⟩ = some (.int .i64 ((k : Int) + 1)) ∧ wr.cell? ⟨b, k * 5 + 1, none⟩ = some (.int .i64 1) ∧ wr.cell? ⟨b, k * 5 + 2, none⟩ = some (.string (rcpt (mL k))) ∧ wr.cell? ⟨b, k * 5 + 3, none⟩ = some (.string strX) ∧ wr.cell? ⟨b, k * 5 + 4, none⟩ = some (.string str0) ∧
          Hid (∀ X, X = wr.alloc (.cells #[.int .i64 ((k : Int) + 1), .int .i64 1, .string (rcpt (mL k)), .string strX, .string str0] 60) → Calls Tryz.prog 28 #[.pointer (some ⟨q, 0, none⟩), .string (rcpt (mL k))] X fun e w' => e = .returned (.tuple #[.int .i64 ((k : Int) + 1), .int .i64 0]) ∧ w'.cell? ⟨wr.heap.size, 0, none⟩ = some (.int .i64 ((k : Int) + 1)) ∧ Hid (RecM w q r N A c (k + 1) w'))) := Lib.hid fun q A c k wr hk h => by
        rcases h with ⟨h0, _⟩ | ⟨b, rfl, k1, k2, h⟩
        · omega
        · obtain ⟨c0, c1, c2, c3, c4⟩ := many_cells hk h
          refine ⟨b, rfl, k1, k2, c0, c1, c2, c3, c4, Lib.hid fun X hX => ?_⟩
          have hx : QW w X q (aQ k r N) (N + 1) ((wr.heap.size, 0, Value.int .i64 ((k : Int) + 1)) :: manyC b r) := by
            rw [hX]
            exact h.box _ _ (by simp)
          obtain ⟨e1, e2⟩ := ack_m (N := N) hk (by omega) (by omega)
          refine (hx.ack (t := rcpt (mL k)) (by omega) (rcpt_size (m := mL k) (by show 0 ≤ (k : Int) + 1 ∧ (k : Int) + 1 ≤ 1000000; omega) (by show (0 : Int) ≤ 1 ∧ (1 : Int) ≤ 1000000; omega))).mono ?_
          · rintro e w' ⟨rfl, hy⟩
            rw [e2] at hy
            refine ⟨by rw [e1]; rfl, hy.out.cell (List.mem_cons_self ..), Lib.hid (.inr ⟨b, rfl, k1, k2, hy.out.less fun x hx => List.mem_cons_of_mem _ hx⟩)⟩
      have HL : Hid (∀ q A c wr, RecM w q r N A c r wr → Calls Tryz.prog 21 #[.pointer (some ⟨q, 0, none⟩), .int .i64 10, .int .i64 0] wr fun e w' => ∃ A2 c2 m, e = .returned (.tuple #[.slice A2 m c2, .int .i64 0]) ∧ m = min 10 (N - r) ∧ (m = 0 ∨ ∃ b, A2 = some ⟨b, 0, none⟩ ∧ m ≤ c2 ∧ c2 ≤ 9223372036854775807 ∧ w'.cell? ⟨b, 0, none⟩ = some (.int .i64 ((r : Int) + 1))) ∧ Hid (Below w.heap.size w w')) := Lib.hid fun q A c wr h => by
        obtain ⟨C, h⟩ := h.any
        obtain ⟨l1, l2⟩ := last_m r N
        have hc10 : canRecv 10 0 = true := by kernel_rfl
        refine (h.recv (by omega) 10 0).mono ?_
        rintro e w' ⟨A2, c2, m, rfl, hk, hx⟩
        rw [hc10]
        refine ⟨A2, c2, m, rfl, hk.trans l1, ?_, ?_⟩
        · rcases hx with ⟨h0, _⟩ | ⟨b, rfl, k1, k2, hx⟩
          · exact .inl h0
          · by_cases hm : m = 0
            · exact .inl hm
            · obtain ⟨x, rest, e1, e2⟩ := l2 (by omega)
              refine .inr ⟨b, rfl, k1, k2, ?_⟩
              rw [← e2]
              refine hx.out.2.cell (List.mem_append.2 (.inl (mem_rowC.2 ⟨rfl, ?_⟩)))
              rw [e1]
              rfl
        · rcases hx with ⟨_, hx⟩ | ⟨b, _, _, _, hx⟩
          · exact Lib.hid hx.out.bel
          · exact Lib.hid hx.out.2.bel
      have hrN : r ≤ N := by omega
      have hr10 : r ≤ 10 := by omega
      clear hr b0 b1 hb hc
      go_enter Tryz.func11, Tryz.ntmps11
      go_wp2_with (go_at_call 14; refine (HN.out _ (by first | exact Below.refl _ _ | assumption)).mono ?_; rintro e w1 ⟨q, rfl, HT⟩)
      go_loopw [26] (fun i wr => ∃ k : Nat, i = .int .i64 k ∧ k ≤ N ∧ Hid (QW w wr q (mQ k) k [])) (fun i _ => N - (intOf i).toNat)
      case atStart => exact ⟨0, rfl, Nat.zero_le _, HT⟩
      case round =>
        clear HT
        obtain ⟨k, rfl, hkN, HK⟩ := hrel
        by_cases hlt : k < N
        · have hlt' : (k : Int) < N := by omega
          have HSK := Lib.hid (HS.out k q wr hlt HK.out)
          go_wp2_with (go_at_call 20; refine HSK.out.mono ?_; rintro e w2 ⟨v, rfl, HK2⟩)
          go_roundw
          case rel => exact ⟨k + 1, by go_num, by omega, HK2⟩
          case measure => simp [intOf]; omega
        · obtain rfl : k = N := by omega
          have HR2 := Lib.hid (HR.out q wr HK.out)
          clear HS HK
          go_wp2_with (go_at_call 21; refine HR2.out.mono ?_; rintro e w2 ⟨A, c, rfl, H0⟩)
          clear HR HR2 HN
          go_loopw [65] (fun i wr => ∃ j : Nat, i = .int .i64 j ∧ j ≤ r ∧ Hid (RecM w q r k A c j wr)) (fun i _ => r - (intOf i).toNat)
          case atStart => exact ⟨0, rfl, Nat.zero_le _, H0⟩
          case round =>
            clear H0
            obtain ⟨j, rfl, hjr, HJ⟩ := hrel
            by_cases hlt2 : j < r
            · have hlt3 : (j : Int) < r := by omega
              obtain ⟨b, rfl, k1, k2, r0, r1, r2, r3, r4, HACK⟩ := HRD.out q A c j wr hlt2 HJ.out
              have hwj : IntKind.i64.wrap ((j : Int) + 1) = (j : Int) + 1 := IntWalk.i64_in _ (by omega)
              obtain ⟨X, hX⟩ : ∃ X, X = wr.alloc (.cells #[.int .i64 ((j : Int) + 1), .int .i64 1, .string (rcpt (mL j)), .string strX, .string str0] 60) := ⟨_, rfl⟩
              have bk := heap_alloc_new wr (.cells #[.int .i64 ((j : Int) + 1), .int .i64 1, .string (rcpt (mL j)), .string strX, .string str0] 60)
              rw [← hX] at bk
              have d0 : X.cell? ⟨wr.heap.size, 0, none⟩ = some (.int .i64 ((j : Int) + 1)) := by simp [World.cell?, bk]
              have d1 : X.cell? ⟨wr.heap.size, 1, none⟩ = some (.int .i64 1) := by simp [World.cell?, bk]
              have d2 : X.cell? ⟨wr.heap.size, 2, none⟩ = some (.string (rcpt (mL j))) := by simp [World.cell?, bk]
              have HAJ := Lib.hid (HACK.out X hX)
              have HW := Lib.hid hX
              clear HACK bk hX HJ HRD HL HAW hmin
              go_upto_region 18 with fail
              rw [← HW.out]
              clear r0 r1 r2 r3 r4
              go_wp2_with (go_at_call 28; refine HAJ.out.mono ?_; rintro e w3 ⟨rfl, e0, HN2⟩; clear d0 d1 d2)
              go_roundw
              case rel => exact ⟨j + 1, by go_num, by omega, HN2⟩
              case measure => simp [intOf]; omega
            · obtain rfl : j = r := by omega
              have HLL := Lib.hid (HL.out q A c wr HJ.out)
              have hw3 : IntKind.i64.wrap ((j : Int) + 1) = (j : Int) + 1 := IntWalk.i64_in _ (by omega)
              clear HL HRD HJ hmin
              by_cases hz : k - j = 0
              · have hw2 : IntKind.i64.wrap ((k : Int) - j) = 0 := by rw [IntWalk.i64_in _ (by omega)]; omega
                have hmin2 : min (10 : Int) 0 = 0 := by omega
                have HL2 : Hid (Calls Tryz.prog 21 #[.pointer (some ⟨q, 0, none⟩), .int .i64 10, .int .i64 0] wr fun e w' => ∃ A2 c2, e = .returned (.tuple #[.slice A2 0 c2, .int .i64 0]) ∧ Hid (Calls Tryz.prog 13 #[] w' fun e w' => e = .returned (.bool true) ∧ Hid (Below w.heap.size w w'))) := Lib.hid (by
                  refine HLL.out.mono ?_
                  rintro e w' ⟨A2, c2, m, rfl, hm, _, hb⟩
                  obtain rfl : m = 0 := by omega
                  exact ⟨A2, c2, rfl, Lib.hid (HAW.out _ hb.out)⟩)
                clear HLL HAW hz
                go_wp2_with (first
                  | (go_at_call 21; refine HL2.out.mono ?_; rintro e w3 ⟨A2, c2, rfl, HA2⟩; clear HL2)
                  | (go_at_call 13; refine HA2.out.mono ?_; rintro e w4 ⟨rfl, HZ⟩))
                go_ret
                exact ⟨rfl, HZ.out⟩
              · obtain ⟨d, hd⟩ : ∃ d, d = k - j := ⟨_, rfl⟩
                obtain ⟨m, hm⟩ : ∃ m, m = min 10 d := ⟨_, rfl⟩
                have hw2 : IntKind.i64.wrap ((k : Int) - j) = (d : Int) := by rw [IntWalk.i64_in _ (by omega)]; omega
                have hmin2 : min (10 : Int) (d : Int) = (m : Int) := by omega
                have hm0 : ((m : Int) == 0) = false := beq_eq_false_iff_ne.2 (by omega)
                have hm1 : (0 : Int) < m := by omega
                have HL2 : Hid (Calls Tryz.prog 21 #[.pointer (some ⟨q, 0, none⟩), .int .i64 10, .int .i64 0] wr fun e w' => ∃ b c2, e = .returned (.tuple #[.slice (some ⟨b, 0, none⟩) m c2, .int .i64 0]) ∧ m ≤ c2 ∧ c2 ≤ 9223372036854775807 ∧ w'.cell? ⟨b, 0, none⟩ = some (.int .i64 ((j : Int) + 1)) ∧ Hid (Calls Tryz.prog 13 #[] w' fun e w' => e = .returned (.bool true) ∧ Hid (Below w.heap.size w w'))) := Lib.hid (by
                  refine HLL.out.mono ?_
                  rintro e w' ⟨A2, c2, m', rfl, hm', hcase, hb⟩
                  obtain rfl : m' = m := by omega
                  rcases hcase with h0 | ⟨b, rfl, k1, k2, k3⟩
                  · omega
                  · exact ⟨b, c2, rfl, k1, k2, k3, Lib.hid (HAW.out _ hb.out)⟩)
                clear HLL HAW hz hd hm
                go_wp2_with (first
                  | (go_at_call 21; refine HL2.out.mono ?_; rintro e w3 ⟨b, c2, rfl, k1, k2, k3, HA2⟩; clear HL2)
                  | (go_at_call 13; refine HA2.out.mono ?_; rintro e w4 ⟨rfl, HZ⟩))
                go_ret
                exact ⟨rfl, HZ.out⟩
    · have hneg : a1 < 1 ∨ (¬ a1 < 1 ∧ (10 : Int) < a1) := by omega
      have HR : Hid (∀ q wr, QW w wr q (mQ N) N [] → Calls Tryz.prog 21 #[.pointer (some ⟨q, 0, none⟩), .int .i64 a1, .int .i64 0] wr fun e w' => ∃ A c, e = .returned (.tuple #[.slice A 0 c, .int .i64 1]) ∧ Hid (Calls Tryz.prog 13 #[] w' fun e w' => e = .returned (.bool true) ∧ Hid (Below w.heap.size w w'))) := Lib.hid fun q wr h => by
        have hcf : canRecv a1 0 = false := by
          unfold canRecv within
          have : ¬ (1 ≤ a1 ∧ a1 ≤ 10) := hc
          by_cases h1 : 1 ≤ a1
          · have h2 : ¬ a1 ≤ 10 := fun h3 => this ⟨h1, h3⟩
            simp [h2]
          · simp [h1]
        refine (h.recv (by omega) a1 0).mono ?_
        rintro e w' ⟨A, c, k, rfl, hk, hx⟩
        have hk0 : k = 0 := by
          rw [hk]
          unfold recvA
          rw [hcf]
          rfl
        subst hk0
        rw [hcf]
        refine ⟨A, c, rfl, Lib.hid (HAW.out _ ?_)⟩
        rcases hx with ⟨_, hx⟩ | ⟨b, _, _, _, hx⟩
        · exact hx.out.bel
        · exact hx.out.2.bel
      clear b0 b1 hb hc
      rcases hneg with hm1 | ⟨hm1, hm2⟩
      all_goals
        go_enter Tryz.func11, Tryz.ntmps11
        go_wp2_with (go_at_call 14; refine (HN.out _ (by first | exact Below.refl _ _ | assumption)).mono ?_; rintro e w1 ⟨q, rfl, HT⟩)
        go_loopw [26] (fun i wr => ∃ k : Nat, i = .int .i64 k ∧ k ≤ N ∧ Hid (QW w wr q (mQ k) k [])) (fun i _ => N - (intOf i).toNat)
        case atStart => exact ⟨0, rfl, Nat.zero_le _, HT⟩
        case round =>
          clear HT HAW HN
          obtain ⟨k, rfl, hkN, HK⟩ := hrel
          by_cases hlt : k < N
          · have hlt' : (k : Int) < N := by omega
            have HSK := Lib.hid (HS.out k q wr hlt HK.out)
            go_wp2_with (go_at_call 20; refine HSK.out.mono ?_; rintro e w2 ⟨v, rfl, HK2⟩)
            go_roundw
            case rel => exact ⟨k + 1, by go_num, by omega, HK2⟩
            case measure => simp [intOf]; omega
          · obtain rfl : k = N := by omega
            have HR2 := Lib.hid (HR.out q wr HK.out)
            clear HS HK HR
            go_wp2_with (first
              | (go_at_call 21; refine HR2.out.mono ?_; rintro e w2 ⟨A, c, rfl, H0⟩; clear HR2)
              | (go_at_call 13; refine H0.out.mono ?_; rintro e w3 ⟨rfl, HZ⟩))
            go_ret
            exact ⟨rfl, HZ.out⟩
  · have hneg : a0 < 0 ∨ (¬ a0 < 0 ∧ (30 : Int) < a0) := by omega
    have HA2 : Hid (∀ q w1, QW w w1 q (mQ 0) 0 [] → Calls Tryz.prog 13 #[] w1 fun e w' => e = .returned (.bool true) ∧ Hid (Below w.heap.size w w')) := Lib.hid fun q w1 h => HAW.out _ h.bel
    clear b0 b1 hb HAW
    rcases hneg with hm1 | ⟨hm1, hm2⟩
    all_goals
      go_enter Tryz.func11, Tryz.ntmps11
      go_wp2_with (first
        | (go_at_call 14; refine (HN.out _ (by first | exact Below.refl _ _ | assumption)).mono ?_; rintro e w1 ⟨q, rfl, HT⟩; have HA3 := Lib.hid (HA2.out q _ HT.out); clear HN HA2)
        | (go_at_call 13; refine HA3.out.mono ?_; rintro e w3 ⟨rfl, HZ⟩))
      go_ret
      exact ⟨rfl, HZ.out⟩
end Go.Proofs.YtlkegpcnmjbfeaaGreatDoor
end
