/- What is proved here: the law's 'awake' says yes. -/
/- What is proved here: plain facts on one message that is sent, kept, received. -/
/- What is proved here: the law QueueDelays says yes. -/
import Derived.Test.YtdjieapobodakaaGreatDoorPEx33
section
namespace Go.Proofs.YtdjieapobodakaaGreatDoor
open Go Go.RowKit Go.Maps Go.WideMaps

def took5 (b : Nat) (m : Ms) : List Cel := rowC b (tookM m)
theorem mem_took5 (b : Nat) (m : Ms) : (b, 0, Value.int .i64 m.id) ∈ took5 b m ∧ (b, 1, Value.int .i64 m.count) ∈ took5 b m ∧ (b, 2, Value.string (rcpt m)) ∈ took5 b m ∧ (b, 3, Value.string m.body) ∈ took5 b m ∧ (b, 4, Value.string m.group) ∈ took5 b m := by
  unfold took5 tookM
  refine ⟨?_, ?_, ?_, ?_, ?_⟩ <;> exact mem_rowC.2 ⟨rfl, rfl⟩
section
variable {w0 w w' : World} {q : Nat} {Q Q' : QM} {T : Nat} {C : List Cel}
theorem QW.recv1 (h : QW w0 w q Q T C) (hT : T < 800000) {n v : Int} {m : Ms} (hc : canRecv n v = true) (hr : recvA Q n v = [m]) (hq : recvQ Q n v = Q') :
    Calls Tryz.prog 19 #[.pointer (some ⟨q, 0, none⟩), .int .i64 n, .int .i64 v] w fun e w' => ∃ b c, e = .returned (.tuple #[.slice (some ⟨b, 0, none⟩) 1 c, .int .i64 0]) ∧ 1 ≤ c ∧ c ≤ 9223372036854775807 ∧ Hid (QW w0 w' q Q' (T + 1) (took5 b m ++ C)) := by
  refine (h.recv hT n v).mono ?_
  rintro e w' ⟨A, c, k, rfl, hk, hx⟩
  rw [hr] at hk hx
  rw [hq] at hx
  rw [hc]
  obtain rfl : k = 1 := hk
  rcases hx with ⟨h0, _⟩ | ⟨b, rfl, k1, k2, hx⟩
  · cases h0
  · refine ⟨b, c, rfl, k1, k2, Lib.hid ?_⟩
    have h2 := hx.out.2
    rw [List.flatMap_cons, List.flatMap_nil, List.append_nil] at h2
    exact h2
theorem QW.recv0 (h : QW w0 w q Q T C) (hT : T < 800000) {n v : Int} (hc : canRecv n v = true) (hr : recvA Q n v = []) (hq : recvQ Q n v = Q') :
    Calls Tryz.prog 19 #[.pointer (some ⟨q, 0, none⟩), .int .i64 n, .int .i64 v] w fun e w' => ∃ A c, e = .returned (.tuple #[.slice A 0 c, .int .i64 0]) ∧ Hid (QW w0 w' q Q' (T + 1) C) := by
  refine (h.recv hT n v).mono ?_
  rintro e w' ⟨A, c, k, rfl, hk, hx⟩
  rw [hr] at hk
  rw [hq] at hx
  rw [hc]
  obtain rfl : k = 0 := hk
  rcases hx with ⟨_, hx⟩ | ⟨b, rfl, k1, k2, hx⟩
  · exact ⟨A, c, rfl, hx⟩
  · exact ⟨_, c, rfl, Lib.hid (hx.out.2.less fun x hx => List.mem_append.2 (.inr hx))⟩
theorem QW.tickTo (h : QW w0 w q Q T C) (hT : T < 800000) {now : Int} (hq : tickQ Q now = Q') :
    Calls Tryz.prog 20 #[.pointer (some ⟨q, 0, none⟩), .int .i64 now] w fun e w' => ∃ A c j A2 c2 n, e = .returned (.tuple #[.slice A j c, .slice A2 n c2]) ∧ n = (tickG Q now).length ∧ Hid (QW w0 w' q Q' T C) := by
  refine (h.tick hT now).mono ?_
  rintro e w' ⟨A, c, j, A2, c2, n, rfl, _, hn, hx⟩
  rw [hq] at hx
  refine ⟨A, c, j, A2, c2, n, rfl, hn, ?_⟩
  rcases hx with ⟨_, hx⟩ | ⟨b, _, _, _, hx⟩
  · exact hx
  · exact Lib.hid (hx.out.less fun x hx => List.mem_append.2 (.inr hx))
set_option maxHeartbeats 3200000 in
set_option maxRecDepth 100000 in
theorem awake_any (w : World) (hE : Env w) (h6 : 6 ≤ w.heap.size) : Calls Tryz.prog 11 #[] w fun e w' => e = .returned (.bool true) ∧ Below w.heap.size w w' := by
  have HN : Hid (∀ W, Below w.heap.size w W → Calls Tryz.prog 12 #[.agg #[.int .i64 5, .int .i64 100, .int .i64 0, .int .i64 0, .int .i64 0, .string ⟨#[]⟩, .bool false]] W fun e w' => ∃ q : Nat, e = .returned (.pointer (some ⟨q, 0, none⟩)) ∧ Hid (QW w w' q (newQ awA) 0 [])) := Lib.hid fun W hW => by
    refine (QW.new hE h6 hW awA).mono ?_
    rintro e w' (⟨h1, _⟩ | ⟨_, q, rfl, hx⟩)
    · rw [aw0] at h1; cases h1
    · exact ⟨q, rfl, Lib.hid hx.out.2⟩
  have C1 : Hid (∀ w2 q, QW w w2 q (newQ awA) 0 [] → Calls Tryz.prog 18 #[.pointer (some ⟨q, 0, none⟩), .string strX, .string str0, .string str0, .int .i64 (-1)] w2 fun e w' => e = .returned (.tuple #[.int .i64 1, .int .i64 0]) ∧ Hid (QW w w' q (awQ 0 0 false 0) 1 [])) := Lib.hid fun w2 q h => by
    have := h.send (by decide) strX str0 str0 (-1)
    rwa [aw1, aw2] at this
  have C2 : Hid (∀ w2 q, QW w w2 q (awQ 0 0 false 0) 1 [] → Calls Tryz.prog 19 #[.pointer (some ⟨q, 0, none⟩), .int .i64 1, .int .i64 0] w2 fun e w' => ∃ b c, e = .returned (.tuple #[.slice (some ⟨b, 0, none⟩) 1 c, .int .i64 0]) ∧ 1 ≤ c ∧ c ≤ 9223372036854775807 ∧ Hid (QW w w' q (awQ 1 5 true 0) 2 (took5 b ⟨1, 0, 1, 5, true, strX, str0⟩ ++ []))) := Lib.hid fun w2 q h => h.recv1 (by decide) aw13.1 aw3 aw4
  have C3 : Hid (∀ w2 q C, QW w w2 q (awQ 1 5 true 0) 2 C → Calls Tryz.prog 20 #[.pointer (some ⟨q, 0, none⟩), .int .i64 5] w2 fun e w' => ∃ A c j A2 c2 n, e = .returned (.tuple #[.slice A j c, .slice A2 n c2]) ∧ Hid (QW w w' q (awQ 1 5 false 5) 2 C)) := Lib.hid fun w2 q C h => by
    refine (h.tickTo (by decide) aw5).mono ?_
    rintro e w' ⟨A, c, j, A2, c2, n, rfl, _, hx⟩
    exact ⟨A, c, j, A2, c2, n, rfl, hx⟩
  have C4 : Hid (∀ w2 q C, QW w w2 q (awQ 1 5 false 5) 2 C → Calls Tryz.prog 19 #[.pointer (some ⟨q, 0, none⟩), .int .i64 3, .int .i64 0] w2 fun e w' => ∃ b c, e = .returned (.tuple #[.slice (some ⟨b, 0, none⟩) 1 c, .int .i64 0]) ∧ 1 ≤ c ∧ c ≤ 9223372036854775807 ∧ Hid (QW w w' q (awQ 2 10 true 5) 3 (took5 b ⟨1, 0, 2, 10, true, strX, str0⟩ ++ C))) := Lib.hid fun w2 q C h => h.recv1 (by decide) aw13.2 aw6 aw7
  have C5 : Hid (∀ w2 q C, QW w w2 q (awQ 2 10 true 5) 3 C → Calls Tryz.prog 26 #[.pointer (some ⟨q, 0, none⟩), .string rc11] w2 fun e w' => e = .returned (.tuple #[.int .i64 0, .int .i64 8]) ∧ Hid (QW w w' q (awQ 2 10 true 5) 3 C)) := Lib.hid fun w2 q C h => by
    have := h.ack (by decide) (t := rc11) (by decide)
    rwa [aw8, aw9] at this
  have C6 : Hid (∀ w2 q b1 b2, QW w w2 q (awQ 2 10 true 5) 3 (took5 b2 ⟨1, 0, 2, 10, true, strX, str0⟩ ++ (took5 b1 ⟨1, 0, 1, 5, true, strX, str0⟩ ++ [])) → Calls Tryz.prog 26 #[.pointer (some ⟨q, 0, none⟩), .string rc12] w2 fun e w' => e = .returned (.tuple #[.int .i64 1, .int .i64 0]) ∧ w'.cell? ⟨b1, 1, none⟩ = some (.int .i64 1) ∧ w'.cell? ⟨b2, 2, none⟩ = some (.string rc12) ∧ Hid (Calls Tryz.prog 25 #[.pointer (some ⟨q, 0, none⟩)] w' fun e w3 => ∃ A c, e = .returned (.slice A 0 c) ∧ Hid (Below w.heap.size w w3))) := Lib.hid fun w2 q b1 b2 h => by
    refine (h.ack (by decide) (t := rc12) (by decide)).mono ?_
    rintro e w' ⟨rfl, hx⟩
    refine ⟨by rw [aw10]; rfl, hx.out.cell (List.mem_append.2 (.inr (List.mem_append.2 (.inl (mem_took5 _ _).2.1)))), ?_, Lib.hid ?_⟩
    · rw [← aw12]
      exact hx.out.cell (List.mem_append.2 (.inl (mem_took5 _ _).2.2.1))
    · refine hx.out.ids.mono ?_
      rintro e w3 ⟨A, c, rfl, hy⟩
      rw [aw11]
      exact ⟨A, c, rfl, Lib.hid hy.out.2.2.bel⟩
  unfold strX str0 rc11 rc12 at *
  go_enter Tryz.func11, Tryz.ntmps11
  go_wp2_with (first
    | (go_at_call 12; refine (HN.out _ (by first | exact Below.refl _ _ | assumption)).mono ?_; rintro e w1 ⟨q, rfl, HT⟩; have D1 := Lib.hid (C1.out _ q HT.out); clear HN C1)
    | (go_at_call 18; refine D1.out.mono ?_; rintro e w2 ⟨rfl, HT2⟩; have D2 := Lib.hid (C2.out _ q HT2.out); clear D1)
    | (go_at_call 19; refine D2.out.mono ?_; rintro e w3 ⟨b1, c1, rfl, p1, p2, HT3⟩; have D3 := Lib.hid (C3.out _ q _ HT3.out); clear D2 C2)
    | (go_at_call 20; refine D3.out.mono ?_; rintro e w4 ⟨A, c, j, A2, c2, n, rfl, HT4⟩; have D4 := Lib.hid (C4.out _ q _ HT4.out); clear D3 C3)
    | (go_at_call 19; refine D4.out.mono ?_; rintro e w5 ⟨b2, c3, rfl, p3, p4, HT5⟩; have D5 := Lib.hid (C5.out _ q _ HT5.out); clear D4 C4)
    | (go_at_call 26; refine D5.out.mono ?_; rintro e w6 ⟨rfl, HT6⟩; have D6 := Lib.hid (C6.out _ q b1 b2 HT6.out); clear D5 C5)
    | (go_at_call 26; refine D6.out.mono ?_; rintro e w7 ⟨rfl, e1, e2, D7⟩; clear D6 C6)
    | (go_at_call 25; refine D7.out.mono ?_; rintro e w8 ⟨A, c, rfl, HZ⟩))
  go_ret
  exact ⟨rfl, HZ.out⟩
end
theorem rcpt_size {m : Ms} (h1 : 0 ≤ m.id ∧ m.id ≤ 1000000) (h2 : 0 ≤ m.count ∧ m.count ≤ 1000000) : (rcpt m).size < 4294967281 := by
  have e1 := digs_size m.id (by omega) (by omega)
  have e2 := digs_size m.count (by omega) (by omega)
  unfold rcpt
  rw [ByteArray.size_append, ByteArray.size_append]
  have e3 : (⟨#[46]⟩ : ByteArray).size = 1 := rfl
  omega
end Go.Proofs.YtdjieapobodakaaGreatDoor
end

section
namespace Go.Proofs.YtdjieapobodakaaGreatDoor
open Go

/-- One message of a new queue. -/
def dM (a : Att) (body group : ByteArray) (delay : Int) : Ms := ⟨1, 0, 0, if delay = -1 then a.del else delay, false, body, group⟩
def dQ (a : Att) (body group : ByteArray) (delay : Int) : QM := ⟨a, 0, 1, [dM a body group delay], []⟩
section
variable {a : Att} {body group : ByteArray} {delay : Int}
theorem dM_at (a : Att) (body group : ByteArray) (delay : Int) : (0 : Int) + (if delay = -1 then a.del else delay) = (dM a body group delay).at_ := Int.zero_add _
theorem send_d (hb : body.size ≤ 256) (hg : group.size ≤ 256) (hf : (!decide (group = ⟨#[]⟩)) = a.fifo) (hd : within delay (-1) (if a.fifo then -1 else 1048576) = true) :
    sendA (newQ a) body group ⟨#[]⟩ delay = (1, 0) ∧ sendQ (newQ a) body group ⟨#[]⟩ delay = dQ a body group delay := by
  have ht : takes a body group ⟨#[]⟩ delay = true := by
    unfold takes
    rw [hf, hd, decide_eq_true hb, decide_eq_true hg]
    cases a.fifo <;> rfl
  have hy : keyed a ⟨#[]⟩ = false := by unfold keyed; simp
  have hfe : Led.findE (newQ a).K ⟨#[]⟩ = none := rfl
  have hy2 : keyed (newQ a).A ⟨#[]⟩ = false := hy
  have ht2 : takes (newQ a).A body group ⟨#[]⟩ delay = true := ht
  have hl : ¬ 1024 ≤ (newQ a).L.length := by show ¬ 1024 ≤ 0; omega
  unfold sendA sendQ
  rw [ht2, hfe, hy2]
  simp only [Bool.not_true, Bool.false_eq_true, if_false, if_neg hl, Bool.false_and]
  refine ⟨rfl, ?_⟩
  have hkq : keyQ (newQ a) ⟨#[]⟩ = newQ a := by unfold keyQ; rw [hy2]; rfl
  rw [hkq]
  unfold addQ mkMs newQ dQ dM
  simp
theorem send_no (h : takes a body group ⟨#[]⟩ delay = false) : sendA (newQ a) body group ⟨#[]⟩ delay = (0, 1) ∧ sendQ (newQ a) body group ⟨#[]⟩ delay = newQ a := by
  have h2 : takes (newQ a).A body group ⟨#[]⟩ delay = false := h
  unfold sendA sendQ
  rw [h2]
  exact ⟨rfl, rfl⟩
/-- One message, of a queue whose time is t. -/
def dT (a : Att) (body group : ByteArray) (delay t : Int) (there : Bool) : QM := ⟨a, t, 1, if there then [dM a body group delay] else [], []⟩
theorem tick_d {t : Int} (h0 : 0 ≤ t) (h1 : t ≤ 1099511627776) :
    tickG (dQ a body group delay) t = (if t < a.ret then [] else [1]) ∧ tickQ (dQ a body group delay) t = dT a body group delay t (decide (t < a.ret)) := by
  have hc : canTick (dQ a body group delay) t = true := by
    unfold canTick within
    show (decide (0 ≤ t) && decide (t ≤ 1099511627776)) = true
    simp [h0, h1]
  have hr : rest1 (dQ a body group delay) t = [dM a body group delay] := by
    unfold rest1 dQ isDead wake dM
    simp
  have ho : old (dQ a body group delay).A t (dM a body group delay) = !decide (t < a.ret) := by
    unfold old dQ dM
    by_cases h : t < a.ret
    · rw [decide_eq_true h, decide_eq_false (by show ¬ 0 + a.ret ≤ t; omega)]; rfl
    · rw [decide_eq_false h, decide_eq_true (by show 0 + a.ret ≤ t; omega)]; rfl
  unfold tickG tickQ dT goneL leftL
  rw [if_pos hc, if_pos hc, hr]
  by_cases h : t < a.ret
  · rw [decide_eq_true h] at ho
    rw [List.filter_cons_of_neg (by rw [ho]; decide), List.filter_cons_of_pos (by rw [ho]; decide), if_pos h, decide_eq_true h]
    exact ⟨rfl, rfl⟩
  · rw [decide_eq_false h] at ho
    rw [List.filter_cons_of_pos (by rw [ho]; decide), List.filter_cons_of_neg (by rw [ho]; decide), if_neg h, decide_eq_false h]
    exact ⟨rfl, rfl⟩
/-- .. as it is received. -/
def dL (a : Att) (body group : ByteArray) (t : Int) : Ms := ⟨1, 0, 1, t + a.vis, true, body, group⟩
theorem recv_d {t : Int} (there : Bool) : canRecv 1 0 = true ∧ recvA (dT a body group delay t there) 1 0 = (if there && decide ((dM a body group delay).at_ ≤ t) then [dL a body group t] else []) := by
  have hc : canRecv 1 0 = true := by kernel_rfl
  refine ⟨hc, ?_⟩
  unfold recvA recvL
  rw [if_pos hc]
  have hr : readyL (dT a body group delay t there) 1 = if there && decide ((dM a body group delay).at_ ≤ t) then [dM a body group delay] else [] := by
    unfold readyL aheadL dT
    cases there with
    | false =>
      cases a.fifo <;> rfl
    | true =>
      have hw : waits t (dM a body group delay) = decide ((dM a body group delay).at_ ≤ t) := by unfold waits dM; simp
      have ha : (if a.fifo then [dM a body group delay].filter (isHead [dM a body group delay]) else [dM a body group delay]) = [dM a body group delay] := by
        cases a.fifo with
        | false => rfl
        | true => simp [isHead]
      show (((if a.fifo then [dM a body group delay].filter (isHead [dM a body group delay]) else [dM a body group delay])).filter (waits t)).take 1 = _
      rw [ha]
      by_cases h : (dM a body group delay).at_ ≤ t
      · rw [decide_eq_true h] at hw ⊢
        rw [List.filter_cons_of_pos hw]
        rfl
      · rw [decide_eq_false h] at hw ⊢
        rw [List.filter_cons_of_neg (by rw [hw]; decide)]
        rfl
  show (readyL (dT a body group delay t there) 1).map _ = _
  rw [hr]
  split <;> rfl
end
end Go.Proofs.YtdjieapobodakaaGreatDoor
end

section
namespace Go.Proofs.YtdjieapobodakaaGreatDoor
open Go Go.RowKit Go.Maps Go.WideMaps

/-- The cells of a law's own attributes that it reads. -/
def attC (bx : Nat) (a : Att) : List Cel := [(bx, 1, .int .i64 a.ret), (bx, 2, .int .i64 a.del), (bx, 6, .bool a.fifo)]
def attBox (w : World) (a : Att) : World := w.alloc (.cells #[.int .i64 a.vis, .int .i64 a.ret, .int .i64 a.del, .int .i64 a.win, .int .i64 a.max, .string a.dead, .bool a.fifo] 23)
section
variable {w0 w w' : World} {q : Nat} {Q Q' : QM} {T : Nat} {C C' : List Cel}
theorem QW.newC (hE : Env w0) (h6 : 6 ≤ w0.heap.size) (hb : Below w0.heap.size w0 w) (a : Att) (hC : ∀ x ∈ C, w.cell? ⟨x.1, x.2.1, none⟩ = some x.2.2 ∧ x.1 < w.heap.size) : Calls Tryz.prog 12 #[attV a] w fun e w' => (a.right = false ∧ e = .returned (.pointer none) ∧ Below w.heap.size w w') ∨ (a.right = true ∧ ∃ q : Nat, e = .returned (.pointer (some ⟨q, 0, none⟩)) ∧ Hid (QW w0 w' q (newQ a) 0 C)) := by
  refine (QN.new hE h6 hb a).mono ?_
  rintro e w' (h1 | ⟨h1, q, rfl, h2⟩)
  · exact .inl h1
  · obtain ⟨b1, S, s1, s2⟩ := h2.out
    refine .inr ⟨h1, q, rfl, Lib.hid ⟨S, s1, fun x hx => ?_⟩⟩
    obtain ⟨c1, c2⟩ := hC x hx
    exact ⟨(b1.cell (p := ⟨x.1, x.2.1, none⟩) c2).trans c1, Nat.lt_of_lt_of_le c2 b1.size, s2 _ c2⟩
theorem attBox_below (w : World) (a : Att) : Below w.heap.size w (attBox w a) := (Below.refl _ _).alloc (Nat.le_refl _) _
theorem attBox_cells (w : World) (a : Att) : ∀ x ∈ attC w.heap.size a, (attBox w a).cell? ⟨x.1, x.2.1, none⟩ = some x.2.2 ∧ x.1 < (attBox w a).heap.size := by
  intro x hx
  have hb := heap_alloc_new w (.cells #[.int .i64 a.vis, .int .i64 a.ret, .int .i64 a.del, .int .i64 a.win, .int .i64 a.max, .string a.dead, .bool a.fifo] 23)
  have hs : w.heap.size < (attBox w a).heap.size := by unfold attBox; simp
  change (attBox w a).heap[w.heap.size]? = _ at hb
  generalize attBox w a = W at *
  simp only [attC, List.mem_cons, List.not_mem_nil, or_false] at hx
  rcases hx with rfl | rfl | rfl <;> exact ⟨by simp [World.cell?, hb], hs⟩
/-- What New makes of a law's attributes. -/
theorem new_att (hE : Env w0) (h6 : 6 ≤ w0.heap.size) (a : Att) (hr : a.right = true) : Calls Tryz.prog 12 #[attV a] (attBox w0 a) fun e w' => ∃ q : Nat, e = .returned (.pointer (some ⟨q, 0, none⟩)) ∧ w'.cell? ⟨w0.heap.size, 6, none⟩ = some (.bool a.fifo) ∧ Hid (QW w0 w' q (newQ a) 0 (attC w0.heap.size a)) := by
  refine (QW.newC hE h6 (attBox_below w0 a) a (attBox_cells w0 a)).mono ?_
  rintro e w' (⟨h1, _⟩ | ⟨_, q, rfl, hx⟩)
  · rw [hr] at h1; cases h1
  · exact ⟨q, rfl, hx.out.cell (by simp [attC]), hx⟩
theorem new_no (hE : Env w0) (h6 : 6 ≤ w0.heap.size) (a : Att) (hr : a.right = false) : Calls Tryz.prog 12 #[attV a] (attBox w0 a) fun e w' => e = .returned (.pointer none) ∧ Hid (Below w0.heap.size w0 w') := by
  refine (QW.newC (C := []) hE h6 (attBox_below w0 a) a (fun x hx => by cases hx)).mono ?_
  rintro e w' (⟨_, rfl, hb⟩ | ⟨h1, _⟩)
  · exact ⟨rfl, Lib.hid ((attBox_below w0 a).trans (hb.mono (attBox_below w0 a).size))⟩
  · rw [hr] at h1; cases h1
end
def AwakeSaid (w W : World) : Prop := Calls Tryz.prog 11 #[] W fun e w' => e = .returned (.bool true) ∧ Hid (Below w.heap.size w w')
theorem awake_at {w W : World} (hE : Env w) (h6 : 6 ≤ w.heap.size) (hW : Below w.heap.size w W) : AwakeSaid w W :=
  (awake_any W (hE.below h6 hW) (Nat.le_trans h6 hW.size)).mono fun _ _ ⟨he, hb⟩ => ⟨he, Lib.hid (hW.trans (hb.mono hW.size))⟩
end Go.Proofs.YtdjieapobodakaaGreatDoor
end
