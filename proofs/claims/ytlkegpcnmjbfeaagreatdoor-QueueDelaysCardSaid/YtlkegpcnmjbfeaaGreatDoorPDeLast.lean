/- What is proved here: plain facts on one message that is sent, kept, received. -/
/- What is proved here: the law QueueDelays says yes. -/
/- What is proved here: the law QueueDelays says yes: where nothing is sent; where a message is. -/
/- What is proved here: the law QueueDelays says yes: where a message is sent, kept or gone, received or not. -/
/- What is proved here: the law QueueDelays says yes: a message that is kept; all ways together. -/
/- What is proved here: how attributes that come in are read. -/
/- What is proved here: for any attributes, body, delay and ticks 'QueueDelays' returns true; the variables that strconv's conversions read start as the program's text lays them (tied). -/
import Derived.Test.YtlkegpcnmjbfeaaGreatDoorPMa34
import Derived.Test.YtlkegpcnmjbfeaaGreatDoorPMa24
import Derived.Deep.Slices
import Derived.Deep.Fields
import Derived.SizedLaws
import Derived.ChangeSlices
import Derived.ChangeArms
import Derived.OpenShut
import Derived.Test.YtlkegpcnmjbfeaaGreatDoorPMa23
import Derived.Test.YtlkegpcnmjbfeaaGreatDoorTie
import Derived.Test.YtlkegpcnmjbfeaaGreatDoorCards
import Derived.ShutString
import Derived.Below
import Derived.Stop.Joined
import Derived.SevenTiedAt
section
namespace Go.Proofs.YtlkegpcnmjbfeaaGreatDoor
open Go

/-- One message of a new queue. -/
def dM (a : Att) (body group : ByteArray) (delay : Int) : Ms := ⟨1, 0, 0, if delay = -1 then a.del else delay, false, body, group⟩
def dQ (a : Att) (body group : ByteArray) (delay : Int) : QM := ⟨a, 0, 1, [dM a body group delay], []⟩
section
variable {a : Att} {body group : ByteArray} {delay : Int}
theorem dM_at (a : Att) (body group : ByteArray) (delay : Int) : (0 : Int) + (if delay = -1 then a.del else delay) = (dM a body group delay).at_ := Int.zero_add _
theorem send_d (hb : body.size ≤ 256) (hg : group.size ≤ 256) (hf : (!decide (group = ⟨#[]⟩)) = a.fifo) (hd : within delay (-1) (if a.fifo then -1 else 1048576) = true) :
    sendA (newQ a) body group ⟨#[]⟩ delay = (1, 0) ∧ sendQ (newQ a) body group ⟨#[]⟩ delay = dQ a body group delay := by
  have ht : takes a body group ⟨#[]⟩ delay = true := by
    unfold takes
    rw [hf, hd, decide_eq_true hb, decide_eq_true hg]
    cases a.fifo <;> rfl
  have hy : keyed a ⟨#[]⟩ = false := by unfold keyed; simp
  have hfe : Led.findE (newQ a).K ⟨#[]⟩ = none := rfl
  have hy2 : keyed (newQ a).A ⟨#[]⟩ = false := hy
  have ht2 : takes (newQ a).A body group ⟨#[]⟩ delay = true := ht
  have hl : ¬ 1024 ≤ (newQ a).L.length := by show ¬ 1024 ≤ 0; omega
  unfold sendA sendQ
  rw [ht2, hfe, hy2]
  simp only [Bool.not_true, Bool.false_eq_true, if_false, if_neg hl, Bool.false_and]
  refine ⟨rfl, ?_⟩
  have hkq : keyQ (newQ a) ⟨#[]⟩ = newQ a := by unfold keyQ; rw [hy2]; rfl
  rw [hkq]
  unfold addQ mkMs newQ dQ dM
  simp
theorem send_no (h : takes a body group ⟨#[]⟩ delay = false) : sendA (newQ a) body group ⟨#[]⟩ delay = (0, 1) ∧ sendQ (newQ a) body group ⟨#[]⟩ delay = newQ a := by
  have h2 : takes (newQ a).A body group ⟨#[]⟩ delay = false := h
  unfold sendA sendQ
  rw [h2]
  exact ⟨rfl, rfl⟩
/-- One message, of a queue whose time is t. -/
def dT (a : Att) (body group : ByteArray) (delay t : Int) (there : Bool) : QM := ⟨a, t, 1, if there then [dM a body group delay] else [], []⟩
theorem tick_d {t : Int} (h0 : 0 ≤ t) (h1 : t ≤ 1099511627776) :
    tickG (dQ a body group delay) t = (if t < a.ret then [] else [1]) ∧ tickQ (dQ a body group delay) t = dT a body group delay t (decide (t < a.ret)) := by
  have hc : canTick (dQ a body group delay) t = true := by
    unfold canTick within
    show (decide (0 ≤ t) && decide (t ≤ 1099511627776)) = true
    simp [h0, h1]
  have hr : rest1 (dQ a body group delay) t = [dM a body group delay] := by
    unfold rest1 dQ isDead wake dM
    simp
  have ho : old (dQ a body group delay).A t (dM a body group delay) = !decide (t < a.ret) := by
    unfold old dQ dM
    by_cases h : t < a.ret
    · rw [decide_eq_true h, decide_eq_false (by show ¬ 0 + a.ret ≤ t; omega)]; rfl
    · rw [decide_eq_false h, decide_eq_true (by show 0 + a.ret ≤ t; omega)]; rfl
  unfold tickG tickQ dT goneL leftL
  rw [if_pos hc, if_pos hc, hr]
  by_cases h : t < a.ret
  · rw [decide_eq_true h] at ho
    rw [List.filter_cons_of_neg (by rw [ho]; decide), List.filter_cons_of_pos (by rw [ho]; decide), if_pos h, decide_eq_true h]
    exact ⟨rfl, rfl⟩
  · rw [decide_eq_false h] at ho
    rw [List.filter_cons_of_pos (by rw [ho]; decide), List.filter_cons_of_neg (by rw [ho]; decide), if_neg h, decide_eq_false h]
    exact ⟨rfl, rfl⟩
/-- .. as it is received. -/
def dL (a : Att) (body group : ByteArray) (t : Int) : Ms := ⟨1, 0, 1, t + a.vis, true, body, group⟩
theorem recv_d {t : Int} (there : Bool) : canRecv 1 0 = true ∧ recvA (dT a body group delay t there) 1 0 = (if there && decide ((dM a body group delay).at_ ≤ t) then [dL a body group t] else []) := by
  have hc : canRecv 1 0 = true := by kernel_rfl
  refine ⟨hc, ?_⟩
  unfold recvA recvL
  rw [if_pos hc]
  have hr : readyL (dT a body group delay t there) 1 = if there && decide ((dM a body group delay).at_ ≤ t) then [dM a body group delay] else [] := by
    unfold readyL aheadL dT
    cases there with
    | false =>
      cases a.fifo <;> rfl
    | true =>
      have hw : waits t (dM a body group delay) = decide ((dM a body group delay).at_ ≤ t) := by unfold waits dM; simp
      have ha : (if a.fifo then [dM a body group delay].filter (isHead [dM a body group delay]) else [dM a body group delay]) = [dM a body group delay] := by
        cases a.fifo with
        | false => rfl
        | true => simp [isHead]
      show (((if a.fifo then [dM a body group delay].filter (isHead [dM a body group delay]) else [dM a body group delay])).filter (waits t)).take 1 = _
      rw [ha]
      by_cases h : (dM a body group delay).at_ ≤ t
      · rw [decide_eq_true h] at hw ⊢
        rw [List.filter_cons_of_pos hw]
        rfl
      · rw [decide_eq_false h] at hw ⊢
        rw [List.filter_cons_of_neg (by rw [hw]; decide)]
        rfl
  show (readyL (dT a body group delay t there) 1).map _ = _
  rw [hr]
  split <;> rfl
end
end Go.Proofs.YtlkegpcnmjbfeaaGreatDoor
end

section
namespace Go.Proofs.YtlkegpcnmjbfeaaGreatDoor
open Go Go.RowKit Go.Maps Go.WideMaps

/-- The cells of a law's own attributes that it reads. -/
def attC (bx : Nat) (a : Att) : List Cel := [(bx, 1, .int .i64 a.ret), (bx, 2, .int .i64 a.del), (bx, 6, .bool a.fifo)]
def attBox (w : World) (a : Att) : World := w.alloc (.cells #[.int .i64 a.vis, .int .i64 a.ret, .int .i64 a.del, .int .i64 a.win, .int .i64 a.max, .string a.dead, .bool a.fifo] 23)
section
variable {w0 w w' : World} {q : Nat} {Q Q' : QM} {T : Nat} {C C' : List Cel}
theorem QW.newC (hE : Env w0) (h6 : 6 ≤ w0.heap.size) (hb : Below w0.heap.size w0 w) (a : Att) (hC : ∀ x ∈ C, w.cell? ⟨x.1, x.2.1, none⟩ = some x.2.2 ∧ x.1 < w.heap.size) : Calls Tryz.prog 14 #[attV a] w fun e w' => (a.right = false ∧ e = .returned (.pointer none) ∧ Below w.heap.size w w') ∨ (a.right = true ∧ ∃ q : Nat, e = .returned (.pointer (some ⟨q, 0, none⟩)) ∧ Hid (QW w0 w' q (newQ a) 0 C)) := by
  refine (QN.new hE h6 hb a).mono ?_
  rintro e w' (h1 | ⟨h1, q, rfl, h2⟩)
  · exact .inl h1
  · obtain ⟨b1, S, s1, s2⟩ := h2.out
    refine .inr ⟨h1, q, rfl, Lib.hid ⟨S, s1, fun x hx => ?_⟩⟩
    obtain ⟨c1, c2⟩ := hC x hx
    exact ⟨(b1.cell (p := ⟨x.1, x.2.1, none⟩) c2).trans c1, Nat.lt_of_lt_of_le c2 b1.size, s2 _ c2⟩
theorem attBox_below (w : World) (a : Att) : Below w.heap.size w (attBox w a) := (Below.refl _ _).alloc (Nat.le_refl _) _
theorem attBox_cells (w : World) (a : Att) : ∀ x ∈ attC w.heap.size a, (attBox w a).cell? ⟨x.1, x.2.1, none⟩ = some x.2.2 ∧ x.1 < (attBox w a).heap.size := by
  intro x hx
  have hb := heap_alloc_new w (.cells #[.int .i64 a.vis, .int .i64 a.ret, .int .i64 a.del, .int .i64 a.win, .int .i64 a.max, .string a.dead, .bool a.fifo] 23)
  have hs : w.heap.size < (attBox w a).heap.size := by unfold attBox; simp
  change (attBox w a).heap[w.heap.size]? = _ at hb
  generalize attBox w a = W at *
  simp only [attC, List.mem_cons, List.not_mem_nil, or_false] at hx
  rcases hx with rfl | rfl | rfl <;> exact ⟨by simp [World.cell?, hb], hs⟩
/-- What New makes of a law's attributes. -/
theorem new_att (hE : Env w0) (h6 : 6 ≤ w0.heap.size) (a : Att) (hr : a.right = true) : Calls Tryz.prog 14 #[attV a] (attBox w0 a) fun e w' => ∃ q : Nat, e = .returned (.pointer (some ⟨q, 0, none⟩)) ∧ w'.cell? ⟨w0.heap.size, 6, none⟩ = some (.bool a.fifo) ∧ Hid (QW w0 w' q (newQ a) 0 (attC w0.heap.size a)) := by
  refine (QW.newC hE h6 (attBox_below w0 a) a (attBox_cells w0 a)).mono ?_
  rintro e w' (⟨h1, _⟩ | ⟨_, q, rfl, hx⟩)
  · rw [hr] at h1; cases h1
  · exact ⟨q, rfl, hx.out.cell (by simp [attC]), hx⟩
theorem new_no (hE : Env w0) (h6 : 6 ≤ w0.heap.size) (a : Att) (hr : a.right = false) : Calls Tryz.prog 14 #[attV a] (attBox w0 a) fun e w' => e = .returned (.pointer none) ∧ Hid (Below w0.heap.size w0 w') := by
  refine (QW.newC (C := []) hE h6 (attBox_below w0 a) a (fun x hx => by cases hx)).mono ?_
  rintro e w' (⟨_, rfl, hb⟩ | ⟨h1, _⟩)
  · exact ⟨rfl, Lib.hid ((attBox_below w0 a).trans (hb.mono (attBox_below w0 a).size))⟩
  · rw [hr] at h1; cases h1
end
def AwakeSaid (w W : World) : Prop := Calls Tryz.prog 13 #[] W fun e w' => e = .returned (.bool true) ∧ Hid (Below w.heap.size w w')
theorem awake_at {w W : World} (hE : Env w) (h6 : 6 ≤ w.heap.size) (hW : Below w.heap.size w W) : AwakeSaid w W :=
  (awake_any W (hE.below h6 hW) (Nat.le_trans h6 hW.size)).mono fun _ _ ⟨he, hb⟩ => ⟨he, Lib.hid (hW.trans (hb.mono hW.size))⟩
section
variable (w : World) (hE : Env w) (h6 : 6 ≤ w.heap.size) (a : Att) (body : ByteArray) (delay t : Int)
/-- What the law is said to do. -/
def DelaySaid (w : World) (a : Att) (body : ByteArray) (delay t : Int) : Prop :=
  Calls Tryz.prog 8 #[attV a, .string body, .int .i64 delay, .int .i64 t] w fun e w' => e = .returned (.bool true) ∧ Below w.heap.size w w'
include hE h6
set_option maxHeartbeats 1600000 in
set_option maxRecDepth 100000 in
theorem delays1 (hr : a.right = false) : DelaySaid w a body delay t := by
  have HN : Hid (Calls Tryz.prog 14 #[attV a] (attBox w a) fun e w' => e = .returned (.pointer none) ∧ Hid (AwakeSaid w w')) := Lib.hid ((new_no hE h6 a hr).mono fun _ _ ⟨he, hb⟩ => ⟨he, Lib.hid (awake_at hE h6 hb.out)⟩)
  clear hE h6 hr
  unfold DelaySaid AwakeSaid attV attBox at *
  go_enter Tryz.func8, Tryz.ntmps8
  go_wp2_with (first
    | (go_at_call 14; refine HN.out.mono ?_; rintro e w1 ⟨rfl, HA⟩)
    | (go_at_call 13; refine HA.out.mono ?_; rintro e w3 ⟨rfl, HZ⟩))
  go_ret
  exact ⟨rfl, HZ.out⟩
end
end Go.Proofs.YtlkegpcnmjbfeaaGreatDoor
end

section
namespace Go.Proofs.YtlkegpcnmjbfeaaGreatDoor
open Go Go.RowKit Go.Maps Go.WideMaps

section
variable (w : World) (hE : Env w) (h6 : 6 ≤ w.heap.size) (a : Att) (body : ByteArray) (delay t : Int)
include hE h6
set_option maxHeartbeats 1600000 in
set_option maxRecDepth 100000 in
theorem delays2 (hr : a.right = true) (hbad : a.fifo = true ∨ (a.fifo = false ∧ (t < 0 ∨ (¬ t < 0 ∧ 2097152 < t)))) : DelaySaid w a body delay t := by
  have HN : Hid (Calls Tryz.prog 14 #[attV a] (attBox w a) fun e w' => ∃ q : Nat, e = .returned (.pointer (some ⟨q, 0, none⟩)) ∧ w'.cell? ⟨w.heap.size, 6, none⟩ = some (.bool a.fifo) ∧ Hid (AwakeSaid w w')) := Lib.hid ((new_att hE h6 a hr).mono fun _ _ ⟨q, he, hc, hx⟩ => ⟨q, he, hc, Lib.hid (awake_at hE h6 hx.out.bel)⟩)
  clear hE h6 hr
  obtain ⟨f, hf⟩ : ∃ f, f = a.fifo := ⟨_, rfl⟩
  unfold DelaySaid AwakeSaid attV attBox at *
  rw [← hf] at HN hbad ⊢
  clear hf
  rcases hbad with rfl | ⟨rfl, h1 | ⟨h1, h2⟩⟩
  all_goals
    go_enter Tryz.func8, Tryz.ntmps8
    go_wp2_with (first
      | (go_at_call 14; refine HN.out.mono ?_; rintro e w1 ⟨q, rfl, e6, HA⟩)
      | (go_at_call 13; refine HA.out.mono ?_; rintro e w3 ⟨rfl, HZ⟩))
    go_ret
    exact ⟨rfl, HZ.out⟩
set_option maxHeartbeats 1600000 in
set_option maxRecDepth 100000 in
theorem delays3 (hr : a.right = true) (hf : a.fifo = false) (ht : 0 ≤ t ∧ t ≤ 2097152) (hbad : 256 < body.size ∨ (¬ 256 < body.size ∧ (delay < -1 ∨ (¬ delay < -1 ∧ 1048576 < delay)))) : DelaySaid w a body delay t := by
  have htk : takes a body ⟨#[]⟩ ⟨#[]⟩ delay = false := by
    unfold takes within
    rw [hf]
    rcases hbad with h | ⟨_, h | ⟨_, h⟩⟩
    · rw [decide_eq_false (by omega : ¬ body.size ≤ 256)]; rfl
    · have : ¬ -1 ≤ delay := by omega
      simp [this]
    · have : ¬ delay ≤ 1048576 := by omega
      simp [this]
  have HN := Lib.hid (new_att hE h6 a hr)
  have HS : Hid (∀ q w1, QW w w1 q (newQ a) 0 (attC w.heap.size a) → Calls Tryz.prog 20 #[.pointer (some ⟨q, 0, none⟩), .string body, .string ⟨#[]⟩, .string ⟨#[]⟩, .int .i64 delay] w1 fun e w' => e = .returned (.tuple #[.int .i64 0, .int .i64 1]) ∧ Hid (AwakeSaid w w')) := Lib.hid fun q w1 h => by
    refine (h.send (by decide) body ⟨#[]⟩ ⟨#[]⟩ delay).mono ?_
    rintro e w' ⟨rfl, hx⟩
    exact ⟨by rw [(send_no htk).1]; rfl, Lib.hid (awake_at hE h6 hx.out.bel)⟩
  have hn1 : ¬ t < 0 := by omega
  have hn2 : ¬ 2097152 < t := by omega
  clear hE h6 hr htk ht
  unfold DelaySaid AwakeSaid attV attBox at *
  rw [hf] at HN ⊢
  have hb2 : (256 : Int) < (body.size : Int) ∨ (¬ (256 : Int) < (body.size : Int) ∧ (delay < -1 ∨ (¬ delay < -1 ∧ 1048576 < delay))) := by omega
  clear hbad hf
  rcases hb2 with h1 | ⟨h1, h2 | ⟨h2, h3⟩⟩
  all_goals
    go_enter Tryz.func8, Tryz.ntmps8
    go_wp2_with (first
      | (go_at_call 14; refine HN.out.mono ?_; rintro e w1 ⟨q, rfl, e6, HX⟩; have HSS := Lib.hid (HS.out q w1 HX.out); clear HN HS)
      | (go_at_call 20; refine HSS.out.mono ?_; rintro e w2 ⟨rfl, HA⟩; clear HSS)
      | (go_at_call 13; refine HA.out.mono ?_; rintro e w3 ⟨rfl, HZ⟩))
    go_ret
    exact ⟨rfl, HZ.out⟩
end
end Go.Proofs.YtlkegpcnmjbfeaaGreatDoor
end

section
namespace Go.Proofs.YtlkegpcnmjbfeaaGreatDoor
open Go Go.RowKit Go.Maps Go.WideMaps

section
variable (w : World) (hE : Env w) (h6 : 6 ≤ w.heap.size) (a : Att) (body : ByteArray) (delay t : Int)
/-- A message is sent. -/
def SentD (w : World) (a : Att) (body : ByteArray) (delay : Int) : Prop := ∀ q w1, QW w w1 q (newQ a) 0 (attC w.heap.size a) → Calls Tryz.prog 20 #[.pointer (some ⟨q, 0, none⟩), .string body, .string ⟨#[]⟩, .string ⟨#[]⟩, .int .i64 delay] w1 fun e w' => e = .returned (.tuple #[.int .i64 1, .int .i64 0]) ∧ w'.cell? ⟨w.heap.size, 2, none⟩ = some (.int .i64 a.del) ∧ Hid (QW w w' q (dQ a body ⟨#[]⟩ delay) 1 (attC w.heap.size a))
theorem sent_d (hf : a.fifo = false) (hb : body.size ≤ 256) (hd : -1 ≤ delay ∧ delay ≤ 1048576) : SentD w a body delay := fun q w1 h => by
  obtain ⟨s1, s2⟩ := send_d (a := a) (body := body) (group := ⟨#[]⟩) (delay := delay) hb (by decide) (by rw [hf]; rfl) (by rw [hf]; unfold within; simp [hd.1, hd.2])
  refine (h.send (by decide) body ⟨#[]⟩ ⟨#[]⟩ delay).mono ?_
  rintro e w' ⟨rfl, hx⟩
  rw [s2] at hx
  exact ⟨by rw [s1]; rfl, hx.out.cell (by simp [attC]), hx⟩
theorem kept_d (ht : 0 ≤ t ∧ t ≤ 2097152) (hk : t < a.ret) {q : Nat} {w1 : World} {C : List Cel} (h : QW w w1 q (dQ a body ⟨#[]⟩ delay) 1 C) : Calls Tryz.prog 22 #[.pointer (some ⟨q, 0, none⟩), .int .i64 t] w1 fun e w' => ∃ A c j A2 c2, e = .returned (.tuple #[.slice A j c, .slice A2 0 c2]) ∧ Hid (QW w w' q (dT a body ⟨#[]⟩ delay t true) 1 C) := by
  obtain ⟨t1, t2⟩ := tick_d (a := a) (body := body) (group := ⟨#[]⟩) (delay := delay) (t := t) ht.1 (by omega)
  rw [if_pos hk] at t1
  rw [decide_eq_true hk] at t2
  refine (h.tickTo (by decide) t2).mono ?_
  rintro e w' ⟨A, c, j, A2, c2, n, rfl, hn, hx⟩
  rw [t1] at hn
  obtain rfl : n = 0 := hn
  exact ⟨A, c, j, A2, c2, rfl, hx⟩
theorem gone_d (ht : 0 ≤ t ∧ t ≤ 2097152) (hk : ¬ t < a.ret) {q : Nat} {w1 : World} {C : List Cel} (h : QW w w1 q (dQ a body ⟨#[]⟩ delay) 1 C) : Calls Tryz.prog 22 #[.pointer (some ⟨q, 0, none⟩), .int .i64 t] w1 fun e w' => ∃ A c j b c2, e = .returned (.tuple #[.slice A j c, .slice (some ⟨b, 0, none⟩) 1 c2]) ∧ 1 ≤ c2 ∧ c2 ≤ 9223372036854775807 ∧ Hid (QW w w' q (dT a body ⟨#[]⟩ delay t false) 1 ((b, 0, .int .i64 1) :: C)) := by
  obtain ⟨t1, t2⟩ := tick_d (a := a) (body := body) (group := ⟨#[]⟩) (delay := delay) (t := t) ht.1 (by omega)
  rw [if_neg hk] at t1
  rw [decide_eq_false hk] at t2
  refine (h.tick (by decide) t).mono ?_
  rintro e w' ⟨A, c, j, A2, c2, n, rfl, _, hn, hx⟩
  rw [t1] at hn hx
  rw [t2] at hx
  obtain rfl : n = 1 := hn
  rcases hx with ⟨h0, _⟩ | ⟨b, rfl, k1, k2, hx⟩
  · cases h0
  · refine ⟨A, c, j, b, c2, rfl, k1, k2, Lib.hid (hx.out.less fun x hx => ?_)⟩
    rcases List.mem_cons.1 hx with rfl | hx
    · exact List.mem_append.2 (.inl (mem_rowC.2 ⟨rfl, rfl⟩))
    · exact List.mem_append.2 (.inr hx)
include hE h6
set_option maxHeartbeats 3200000 in
set_option maxRecDepth 100000 in
theorem delays_gone (hr : a.right = true) (hf : a.fifo = false) (ht : 0 ≤ t ∧ t ≤ 2097152) (hb : body.size ≤ 256) (hd : -1 ≤ delay ∧ delay ≤ 1048576) (hk : ¬ t < a.ret) : DelaySaid w a body delay t := by
  have HN := Lib.hid (new_att hE h6 a hr)
  have HS := Lib.hid (sent_d w a body delay hf hb hd)
  have HT : Hid (∀ q w1, QW w w1 q (dQ a body ⟨#[]⟩ delay) 1 (attC w.heap.size a) → Calls Tryz.prog 22 #[.pointer (some ⟨q, 0, none⟩), .int .i64 t] w1 fun e w' => ∃ A c j b c2, e = .returned (.tuple #[.slice A j c, .slice (some ⟨b, 0, none⟩) 1 c2]) ∧ 1 ≤ c2 ∧ c2 ≤ 9223372036854775807 ∧
      Hid (Calls Tryz.prog 21 #[.pointer (some ⟨q, 0, none⟩), .int .i64 1, .int .i64 0] w' fun e w2 => ∃ A c, e = .returned (.tuple #[.slice A 0 c, .int .i64 0]) ∧ w2.cell? ⟨w.heap.size, 1, none⟩ = some (.int .i64 a.ret) ∧ w2.cell? ⟨b, 0, none⟩ = some (.int .i64 1) ∧ Hid (AwakeSaid w w2))) := Lib.hid fun q w1 h => by
    refine (gone_d w a body delay t ht hk h).mono ?_
    rintro e w' ⟨A, c, j, b, c2, rfl, k1, k2, hx⟩
    refine ⟨A, c, j, b, c2, rfl, k1, k2, Lib.hid ?_⟩
    obtain ⟨r1, r2⟩ := recv_d (a := a) (body := body) (group := ⟨#[]⟩) (delay := delay) (t := t) false
    refine (hx.out.recv0 (by decide) r1 r2 rfl).mono ?_
    rintro e w2 ⟨A, c, rfl, hy⟩
    exact ⟨A, c, rfl, hy.out.cell (by simp [attC]), hy.out.cell (by simp), Lib.hid (awake_at hE h6 hy.out.bel)⟩
  have hn1 : ¬ t < 0 := by omega
  have hn2 : ¬ 2097152 < t := by omega
  have hn3 : ¬ (256 : Int) < (body.size : Int) := by omega
  have hn4 : ¬ delay < -1 := by omega
  have hn5 : ¬ 1048576 < delay := by omega
  have hge : a.ret ≤ t := by omega
  clear hE h6 hr ht hb hd hk
  unfold DelaySaid AwakeSaid SentD attV attBox at *
  rw [hf] at HN ⊢
  clear hf
  have hdl : delay = -1 ∨ (delay == -1) = false := by
    by_cases h : delay = -1
    · exact .inl h
    · exact .inr (beq_eq_false_iff_ne.2 h)
  rcases hdl with rfl | hne
  all_goals
    go_enter Tryz.func8, Tryz.ntmps8
    go_wp2_with (first
      | (go_at_call 14; refine HN.out.mono ?_; rintro e w1 ⟨q, rfl, e6, HX⟩; have HSS := Lib.hid (HS.out q w1 HX.out); clear HN HS)
      | (go_at_call 20; refine HSS.out.mono ?_; rintro e w2 ⟨rfl, e2, HX2⟩; have HTT := Lib.hid (HT.out q w2 HX2.out); clear HSS HT)
      | (go_at_call 22; refine HTT.out.mono ?_; rintro e w3 ⟨A, c, j, b, c2, rfl, k1, k2, HR⟩; clear HTT)
      | (go_at_call 21; refine HR.out.mono ?_; rintro e w4 ⟨A3, c3, rfl, e1, e0, HA⟩; clear HR)
      | (go_at_call 13; refine HA.out.mono ?_; rintro e w5 ⟨rfl, HZ⟩))
    go_ret
    exact ⟨rfl, HZ.out⟩
end
end Go.Proofs.YtlkegpcnmjbfeaaGreatDoor
end

section
namespace Go.Proofs.YtlkegpcnmjbfeaaGreatDoor
open Go Go.RowKit Go.Maps Go.WideMaps

section
variable (w : World) (hE : Env w) (h6 : 6 ≤ w.heap.size) (a : Att) (body : ByteArray) (delay t : Int)
include hE h6
set_option maxHeartbeats 3200000 in
set_option maxRecDepth 100000 in
theorem delays_not (hr : a.right = true) (hf : a.fifo = false) (ht : 0 ≤ t ∧ t ≤ 2097152) (hb : body.size ≤ 256) (hd : -1 ≤ delay ∧ delay ≤ 1048576) (hk : t < a.ret) (hw : ¬ (if delay = -1 then a.del else delay) ≤ t) : DelaySaid w a body delay t := by
  have HN := Lib.hid (new_att hE h6 a hr)
  have HS := Lib.hid (sent_d w a body delay hf hb hd)
  have HT : Hid (∀ q w1, QW w w1 q (dQ a body ⟨#[]⟩ delay) 1 (attC w.heap.size a) → Calls Tryz.prog 22 #[.pointer (some ⟨q, 0, none⟩), .int .i64 t] w1 fun e w' => ∃ A c j A2 c2, e = .returned (.tuple #[.slice A j c, .slice A2 0 c2]) ∧
      Hid (Calls Tryz.prog 21 #[.pointer (some ⟨q, 0, none⟩), .int .i64 1, .int .i64 0] w' fun e w2 => ∃ A c, e = .returned (.tuple #[.slice A 0 c, .int .i64 0]) ∧ w2.cell? ⟨w.heap.size, 1, none⟩ = some (.int .i64 a.ret) ∧ Hid (AwakeSaid w w2))) := Lib.hid fun q w1 h => by
    refine (kept_d w a body delay t ht hk h).mono ?_
    rintro e w' ⟨A, c, j, A2, c2, rfl, hx⟩
    refine ⟨A, c, j, A2, c2, rfl, Lib.hid ?_⟩
    obtain ⟨r1, r2⟩ := recv_d (a := a) (body := body) (group := ⟨#[]⟩) (delay := delay) (t := t) true
    rw [show (true && decide ((dM a body ⟨#[]⟩ delay).at_ ≤ t)) = false from decide_eq_false hw] at r2
    refine (hx.out.recv0 (by decide) r1 r2 rfl).mono ?_
    rintro e w2 ⟨A, c, rfl, hy⟩
    exact ⟨A, c, rfl, hy.out.cell (by simp [attC]), Lib.hid (awake_at hE h6 hy.out.bel)⟩
  have hn1 : ¬ t < 0 := by omega
  have hn2 : ¬ 2097152 < t := by omega
  have hn3 : ¬ (256 : Int) < (body.size : Int) := by omega
  have hn4 : ¬ delay < -1 := by omega
  have hn5 : ¬ 1048576 < delay := by omega
  have hge : ¬ a.ret ≤ t := by omega
  have hdl : (delay = -1 ∧ ¬ a.del ≤ t) ∨ ((delay == -1) = false ∧ ¬ delay ≤ t) := by
    by_cases h : delay = -1
    · rw [if_pos h] at hw
      exact .inl ⟨h, hw⟩
    · rw [if_neg h] at hw
      exact .inr ⟨beq_eq_false_iff_ne.2 h, hw⟩
  clear hE h6 hr ht hb hd hk hw
  unfold DelaySaid AwakeSaid SentD attV attBox at *
  rw [hf] at HN ⊢
  clear hf
  rcases hdl with ⟨rfl, hle⟩ | ⟨hne, hle⟩
  all_goals
    go_enter Tryz.func8, Tryz.ntmps8
    go_wp2_with (first
      | (go_at_call 14; refine HN.out.mono ?_; rintro e w1 ⟨q, rfl, e6, HX⟩; have HSS := Lib.hid (HS.out q w1 HX.out); clear HN HS)
      | (go_at_call 20; refine HSS.out.mono ?_; rintro e w2 ⟨rfl, e2, HX2⟩; have HTT := Lib.hid (HT.out q w2 HX2.out); clear HSS HT)
      | (go_at_call 22; refine HTT.out.mono ?_; rintro e w3 ⟨A, c, j, A2, c2, rfl, HR⟩; clear HTT)
      | (go_at_call 21; refine HR.out.mono ?_; rintro e w4 ⟨A3, c3, rfl, e1, HA⟩; clear HR)
      | (go_at_call 13; refine HA.out.mono ?_; rintro e w5 ⟨rfl, HZ⟩))
    go_ret
    exact ⟨rfl, HZ.out⟩
set_option maxHeartbeats 3200000 in
set_option maxRecDepth 100000 in
theorem delays_got (hr : a.right = true) (hf : a.fifo = false) (ht : 0 ≤ t ∧ t ≤ 2097152) (hb : body.size ≤ 256) (hd : -1 ≤ delay ∧ delay ≤ 1048576) (hk : t < a.ret) (hw : (if delay = -1 then a.del else delay) ≤ t) : DelaySaid w a body delay t := by
  have HN := Lib.hid (new_att hE h6 a hr)
  have HS := Lib.hid (sent_d w a body delay hf hb hd)
  have HT : Hid (∀ q w1, QW w w1 q (dQ a body ⟨#[]⟩ delay) 1 (attC w.heap.size a) → Calls Tryz.prog 22 #[.pointer (some ⟨q, 0, none⟩), .int .i64 t] w1 fun e w' => ∃ A c j A2 c2, e = .returned (.tuple #[.slice A j c, .slice A2 0 c2]) ∧
      Hid (Calls Tryz.prog 21 #[.pointer (some ⟨q, 0, none⟩), .int .i64 1, .int .i64 0] w' fun e w2 => ∃ b c, e = .returned (.tuple #[.slice (some ⟨b, 0, none⟩) 1 c, .int .i64 0]) ∧ 1 ≤ c ∧ c ≤ 9223372036854775807 ∧ w2.cell? ⟨w.heap.size, 1, none⟩ = some (.int .i64 a.ret) ∧ w2.cell? ⟨b, 1, none⟩ = some (.int .i64 1) ∧ w2.cell? ⟨b, 3, none⟩ = some (.string body) ∧ Hid (AwakeSaid w w2))) := Lib.hid fun q w1 h => by
    refine (kept_d w a body delay t ht hk h).mono ?_
    rintro e w' ⟨A, c, j, A2, c2, rfl, hx⟩
    refine ⟨A, c, j, A2, c2, rfl, Lib.hid ?_⟩
    obtain ⟨r1, r2⟩ := recv_d (a := a) (body := body) (group := ⟨#[]⟩) (delay := delay) (t := t) true
    rw [show (true && decide ((dM a body ⟨#[]⟩ delay).at_ ≤ t)) = true from decide_eq_true hw] at r2
    refine (hx.out.recv1 (by decide) r1 r2 rfl).mono ?_
    rintro e w2 ⟨b, c, rfl, k1, k2, hy⟩
    obtain ⟨_, m1, _, m3, _⟩ := mem_took5 b (dL a body ⟨#[]⟩ t)
    exact ⟨b, c, rfl, k1, k2, hy.out.cell (List.mem_append.2 (.inr (by simp [attC]))), hy.out.cell (List.mem_append.2 (.inl m1)), hy.out.cell (List.mem_append.2 (.inl m3)), Lib.hid (awake_at hE h6 hy.out.bel)⟩
  have hn1 : ¬ t < 0 := by omega
  have hn2 : ¬ 2097152 < t := by omega
  have hn3 : ¬ (256 : Int) < (body.size : Int) := by omega
  have hn4 : ¬ delay < -1 := by omega
  have hn5 : ¬ 1048576 < delay := by omega
  have hge : ¬ a.ret ≤ t := by omega
  have hdl : (delay = -1 ∧ a.del ≤ t) ∨ ((delay == -1) = false ∧ delay ≤ t) := by
    by_cases h : delay = -1
    · rw [if_pos h] at hw
      exact .inl ⟨h, hw⟩
    · rw [if_neg h] at hw
      exact .inr ⟨beq_eq_false_iff_ne.2 h, hw⟩
  clear hE h6 hr ht hb hd hk hw
  unfold DelaySaid AwakeSaid SentD attV attBox at *
  rw [hf] at HN ⊢
  clear hf
  rcases hdl with ⟨rfl, hle⟩ | ⟨hne, hle⟩
  all_goals
    go_enter Tryz.func8, Tryz.ntmps8
    go_wp2_with (first
      | (go_at_call 14; refine HN.out.mono ?_; rintro e w1 ⟨q, rfl, e6, HX⟩; have HSS := Lib.hid (HS.out q w1 HX.out); clear HN HS)
      | (go_at_call 20; refine HSS.out.mono ?_; rintro e w2 ⟨rfl, e2, HX2⟩; have HTT := Lib.hid (HT.out q w2 HX2.out); clear HSS HT)
      | (go_at_call 22; refine HTT.out.mono ?_; rintro e w3 ⟨A, c, j, A2, c2, rfl, HR⟩; clear HTT)
      | (go_at_call 21; refine HR.out.mono ?_; rintro e w4 ⟨b, c3, rfl, k1, k2, e1, b1, b3, HA⟩; clear HR)
      | (go_at_call 13; refine HA.out.mono ?_; rintro e w5 ⟨rfl, HZ⟩))
    go_ret
    exact ⟨rfl, HZ.out⟩
theorem delays_any : DelaySaid w a body delay t := by
  cases hr : a.right with
  | false => exact delays1 w hE h6 a body delay t hr
  | true =>
    by_cases h1 : a.fifo = true ∨ (a.fifo = false ∧ (t < 0 ∨ (¬ t < 0 ∧ 2097152 < t)))
    · exact delays2 w hE h6 a body delay t hr h1
    · have hf : a.fifo = false := by
        cases hf : a.fifo with
        | false => rfl
        | true => exact absurd (.inl hf) h1
      have ht : 0 ≤ t ∧ t ≤ 2097152 := by
        refine ⟨?_, ?_⟩ <;> refine Int.not_lt.1 fun h => h1 (.inr ⟨hf, ?_⟩) <;> omega
      by_cases hb : 256 < body.size ∨ (¬ 256 < body.size ∧ (delay < -1 ∨ (¬ delay < -1 ∧ 1048576 < delay)))
      · exact delays3 w hE h6 a body delay t hr hf ht hb
      · have hs : body.size ≤ 256 := by omega
        have hd : -1 ≤ delay ∧ delay ≤ 1048576 := by omega
        by_cases hk : t < a.ret
        · by_cases hw : (if delay = -1 then a.del else delay) ≤ t
          · exact delays_got w hE h6 a body delay t hr hf ht hs hd hk hw
          · exact delays_not w hE h6 a body delay t hr hf ht hs hd hk hw
        · exact delays_gone w hE h6 a body delay t hr hf ht hs hd hk
end
end Go.Proofs.YtlkegpcnmjbfeaaGreatDoor
end

section
namespace Go.Proofs.YtlkegpcnmjbfeaaGreatDoor
open Go Go.RowKit Go.ChangeShapes Go.WideShapes Go.Deep

def Att.vals (a : Att) : List Value := [.int .i64 a.vis, .int .i64 a.ret, .int .i64 a.del, .int .i64 a.win, .int .i64 a.max, .string a.dead, .bool a.fifo]
section
variable {H : Type} {enc : TypeId × Value → H} {w : World} {spare : Nat → Bool} {held : Bool} {base : Nat}
theorem att_str {t : TypeId} {fuel : Nat} {v : Value} {x : DataW H × List MemPlace} (ht : Tryz.prog.underlying t = some .string) (h : DataW.trod enc Tryz.prog w base spare held fuel t [v] = some x) : ∃ s : ByteArray, v = .string s := by
  obtain ⟨s, hcs, hx, _⟩ := DataW.trod_string ht h
  simp at hcs
  exact ⟨s, hcs⟩
theorem att_int {t : TypeId} {fuel : Nat} {v : Value} {x : DataW H × List MemPlace} (ht : Tryz.prog.underlying t = some (.int .i64)) (h : DataW.trod enc Tryz.prog w base spare held fuel t [v] = some x) : ∃ n : Int, v = .int .i64 n := by
  obtain ⟨n, hcs, _, hwf⟩ := DataW.trod_int ht h
  simp at hcs
  exact ⟨n, hcs⟩
theorem att_bool {t : TypeId} {fuel : Nat} {v : Value} {x : DataW H × List MemPlace} (ht : Tryz.prog.underlying t = some .bool) (h : DataW.trod enc Tryz.prog w base spare held fuel t [v] = some x) : ∃ b : Bool, v = .bool b := by
  obtain ⟨b, hcs, hx⟩ := DataW.trod_bool ht h
  simp at hcs
  exact ⟨b, hcs⟩
theorem seven {α : Type} {l : List α} (h : l.length = 7) : ∃ a b c d e f g, l = [a, b, c, d, e, f, g] := by
  match l, h with
  | [a, b, c, d, e, f, g], _ => exact ⟨a, b, c, d, e, f, g, rfl⟩
theorem att_of_trod {fuel : Nat} {cs : List Value} {x : DataW H × List MemPlace} (h : DataW.trod enc Tryz.prog w base spare held fuel 23 cs = some x) : ∃ a : Att, cs = a.vals := by
  have hu := Tryz.underlying23
  obtain ⟨xs, n, _, hx, hlen, hxl, hg⟩ := DataW.trod_struct hu h
  have hC : Tryz.prog.cellsOf 23 = 7 := by kernel_rfl
  obtain ⟨v0, v1, v2, v3, v4, v5, v6, rfl⟩ := seven (hlen.trans hC)
  obtain ⟨y0, y1, y2, y3, y4, y5, y6, rfl⟩ := seven hxl
  have k3 : Tryz.prog.cellsOf 3 = 1 := by kernel_rfl
  have k9 : Tryz.prog.cellsOf 9 = 1 := by kernel_rfl
  have k4 : Tryz.prog.cellsOf 4 = 1 := by kernel_rfl
  have g0 := hg 0 _ rfl
  have g1 := hg 1 _ rfl
  have g2 := hg 2 _ rfl
  have g3 := hg 3 _ rfl
  have g4 := hg 4 _ rfl
  have g5 := hg 5 _ rfl
  have g6 := hg 6 _ rfl
  simp [k3, k9, k4] at g0 g1 g2 g3 g4 g5 g6
  obtain ⟨a0, rfl⟩ := att_int Tryz.underlying3 g0
  obtain ⟨a1, rfl⟩ := att_int Tryz.underlying3 g1
  obtain ⟨a2, rfl⟩ := att_int Tryz.underlying3 g2
  obtain ⟨a3, rfl⟩ := att_int Tryz.underlying3 g3
  obtain ⟨a4, rfl⟩ := att_int Tryz.underlying3 g4
  obtain ⟨a5, rfl⟩ := att_str Tryz.underlying9 g5
  obtain ⟨a6, rfl⟩ := att_bool Tryz.underlying4 g6
  exact ⟨⟨a0, a1, a2, a3, a4, a5, a6⟩, rfl⟩
end
end Go.Proofs.YtlkegpcnmjbfeaaGreatDoor
end

section
namespace Go.Proofs.YtlkegpcnmjbfeaaGreatDoor.queueDelays
open Go Go.ChangeShapes Go.WideShapes Go.ChangeAt Go.RowKit
set_option linter.unusedVariables false

set_option maxRecDepth 100000 in
theorem lifted (os : Os) (started : os.Started) (H : Type) (enc : TypeId × Value → H) :
    ReturnsInHanded {} Tryz.checked os 8 .any (fun w args => (Rows.queueDelaysSpec.pre enc Tryz.prog Tryz.f8 [] false w args ∧ laidMetH Tryz.prog Rows.queueDelaysRow.laid w) ∧ sizedMet enc Tryz.prog Tryz.f8 (OpenSpec.ofChange Rows.queueDelaysSpec) false w args)
      (Rows.queueDelaysSpec.post enc Tryz.prog Tryz.f8 false true false false) := by
  refine tied.handed (C := Tryz.checked) (X := fun w _ => laidMetH Tryz.prog Rows.queueDelaysRow.laid w) (fun _ _ _ hh h => h.of_heap hh) tied.own started (by kernel_rfl) Tryz.func8
    (ChangeSpec.witness_shaped (enc := enc) (C := Tryz.checked) (os := os) (X := fun w _ => laidMetH Tryz.prog Rows.queueDelaysRow.laid w) false (World.doorLaid Tryz.prog 400 os) #[.agg #[.int .i64 0, .int .i64 0, .int .i64 0, .int .i64 0, .int .i64 0, .string ByteArray.empty, .bool false], .string ByteArray.empty, .int .i64 0, .int .i64 0] 8 rfl (World.shaped_of_RefB (by kernel_rfl) (by kernel_rfl)) (by kernel_rfl) (by kernel_rfl) (by kernel_rfl) (tied.door_met os _)) ?_
  intro W base args ds gs before hval0 hW _ _ hL hsh
  have hval : ∀ (j : Nat) t v, Tryz.f8.params[j]? = some t → args[j]? = some v → Value.okWide Tryz.prog W .any base t v := hval0
  have hW' := hW
  obtain ⟨p, q, hA0, hV, rfl, hfz, hnd⟩ := hW
  have hA : DataW.TrodAll enc Tryz.prog W 0 (fun _ => true) true Tryz.f8.params.toList args.toList ds p := hA0
  rw [Tryz.params8] at hA hval
  obtain ⟨v0, vs0, d0, ds0, p0, q0, hargs, rfl, rfl, h0, r0⟩ := trodAll_cons hA
  obtain ⟨v1, vs1, d1, ds1, p1, q1, rfl, rfl, rfl, h1, r1⟩ := trodAll_cons r0
  obtain ⟨v2, vs2, d2, ds2, p2, q2, rfl, rfl, rfl, h2, r2⟩ := trodAll_cons r1
  obtain ⟨v3, vs3, d3, ds3, p3, q3, rfl, rfl, rfl, h3, r3⟩ := trodAll_cons r2
  obtain ⟨rfl, rfl, rfl⟩ := trodAll_nil r3
  obtain rfl : args = #[v0, v1, v2, v3] := by cases args; simp_all
  obtain ⟨rfl, rfl⟩ := trodVars_none hV
  have k0 := h0
  have lt0 : ∀ x ∈ p0, x.block < W.heap.size := by obtain ⟨m, hm⟩ := k0; exact DataW.trod_lt m _ _ _ hm
  obtain ⟨a, rfl⟩ : ∃ a : Att, v0 = attV a := by
    obtain ⟨cs, rfl, _, _⟩ : ∃ cs, v0 = .agg cs ∧ cs.size = Tryz.prog.cellsOf 23 ∧ Row.okWide Tryz.prog W .any base 23 cs := by
      have := hval 0 23 v0 rfl rfl
      simpa [Value.okWide, Tryz.underlying23] using this
    obtain ⟨fuel, hf⟩ := h0
    obtain ⟨a, ha⟩ := att_of_trod hf
    refine ⟨a, ?_⟩
    obtain ⟨cl⟩ := cs
    have ha' : cl = a.vals := ha
    rw [ha']
    rfl
  obtain ⟨a1, rfl, rfl, rfl, w1⟩ := Go.ChangeMaps.open_string Tryz.underlying9 (hval 1 9 v1 rfl rfl) h1
  obtain ⟨a2, rfl, rfl, rfl, w2⟩ := open_int Tryz.underlying3 (hval 2 3 v2 rfl rfl) h2
  obtain ⟨a3, rfl, rfl, rfl, w3⟩ := open_int Tryz.underlying3 (hval 3 3 v3 rfl rfl) h3
  clear hA0 hval0
  refine (delays_any W (tied.env_of hL hsh) (tied.six_of hsh) a a1 a2 a3).mono fun e W' ⟨he, bel⟩ => ?_
  subst he
  exact ⟨_, rfl, _, _, _, [], _, [], hW', trodAll_mk1 (shut_bool Tryz.underlying4 _), (trodAll_cons_mk (Below.trod tied.laidOut (by kernel_rfl) (of_decide_eq_true (by kernel_rfl)) k0 bel lt0) (trodAll_cons_mk (Go.ChangeMaps.shut_string Tryz.underlying9 w1) (trodAll_cons_mk (shut_int Tryz.underlying3 w2) (trodAll_cons_mk (shut_int Tryz.underlying3 w3) trodAll_mk0)))), rfl, bel.frame _, fun h => by cases h⟩

theorem over : Rows.queueDelaysRow.holds Tryz.pinned (OpenSpec.ofChange Rows.queueDelaysSpec) :=
  OpenClaim.holds_of_wide 8 Tryz.f8 rfl rfl rfl rfl rfl rfl rfl ⟨rfl, rfl, rfl, rfl, rfl⟩ rfl rfl rfl rfl rfl (by kernel_rfl) Tryz.func8 (by kernel_rfl)
    (of_decide_eq_true (by kernel_rfl)) (by unfold Func.isWrapper; first | (rw [if_pos (by decide +kernel)]; kernel_rfl) | (rw [if_neg (by decide +kernel)]; exact ⟨rfl, rfl⟩))
    (fun os started H enc _ => lifted os started H enc)

theorem proved : Rows.QueueDelaysCardSaid :=
  Claim7.holds_tied_plain_at .later [] _ _ _ _
    over (fun _ h => by cases h) (by kernel_rfl) (fun _ h => by cases h) queueDelays_row_tie rfl ⟨rfl, rfl⟩ (by kernel_rfl) rfl
    (fun f fn hf hfn => by
      obtain rfl : f = 8 := Option.some.inj ((show Tryz.prog.funcNamed "daisychain/daisychainlaw08.QueueDelays" = some 8 by kernel_rfl).symm.trans hf) |>.symm
      obtain rfl : fn = Tryz.f8 := (Option.some.inj (Tryz.func8.symm.trans hfn)).symm
      exact ⟨by kernel_rfl, fun j t ht => by
        rw [Tryz.params8] at ht
        have h3 : t = 23 ∨ t = 9 ∨ t = 3 := by
          rcases j with _ | _ | _ | _ | j
          · left; simpa using ht.symm
          · right; left; simpa using ht.symm
          · right; right; simpa using ht.symm
          · right; right; simpa using ht.symm
          · simp at ht
        rcases h3 with rfl | rfl | rfl
        · exact (show Tryz.prog.wantsStandIn 23 = false by kernel_rfl)
        · exact (show Tryz.prog.wantsStandIn 9 = false by kernel_rfl)
        · exact (show Tryz.prog.wantsStandIn 3 = false by kernel_rfl)⟩)
    (by kernel_rfl)
end Go.Proofs.YtlkegpcnmjbfeaaGreatDoor.queueDelays
end
