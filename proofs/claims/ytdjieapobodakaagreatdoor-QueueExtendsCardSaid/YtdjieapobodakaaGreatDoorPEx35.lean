/- What is proved here: what Leased answers of a plain queue; plain facts on a lease that is extended. -/
/- What is proved here: the law QueueExtends says yes. -/
/- What is proved here: the law QueueExtends says yes: its ways. -/
import Derived.Test.YtdjieapobodakaaGreatDoorPEx34
section
namespace Go.Proofs.YtdjieapobodakaaGreatDoor
open Go Go.RowKit Go.Maps Go.WideMaps

def leasedE (L : List Ms) (k : Int) : Ending := match leasedAt L k with | some n => .returned (.tuple #[.int .i64 n, .bool true]) | none => .returned (.tuple #[.int .i64 0, .bool false])
theorem leased_is {L : List Ms} {R : List Tim.It} (hp : L.Pairwise fun a b => a.id < b.id) (hR : R.Perm (leases L)) {k : Int} {e : Ending} (h : Tim.atE R k e) : e = leasedE L k := by
  unfold leasedE leasedAt
  rcases h with ⟨rfl, hn⟩ | ⟨y, hy, hk, rfl⟩
  · have : L.find? (fun m => decide (m.id = k) && m.lsd) = none := by
      rw [List.find?_eq_none]
      intro x hx hc
      rw [Bool.and_eq_true, decide_eq_true_eq] at hc
      exact hn (x.id, x.at_) (hR.mem_iff.2 (mem_leases.2 ⟨x, hx, hc.2, rfl⟩)) hc.1
    rw [this]
    rfl
  · obtain ⟨x, hx, hl, rfl⟩ := mem_leases.1 (hR.mem_iff.1 hy)
    cases hf : L.find? (fun m => decide (m.id = k) && m.lsd) with
    | none =>
      have := List.find?_eq_none.1 hf x hx
      rw [hl, Bool.and_true] at this
      exact absurd (decide_eq_true hk) this
    | some z =>
      have h1 := List.mem_of_find?_eq_some hf
      have h2 := List.find?_some hf
      rw [Bool.and_eq_true, decide_eq_true_eq] at h2
      rw [ms_one hp h1 hx (h2.1.trans hk.symm)]
      rfl
section
variable {w0 w w' : World} {q : Nat} {Q Q' : QM} {T : Nat} {C : List Cel}
theorem QW.leased (h : QW w0 w q Q T C) {k : Int} (hk : Tim.wfk k) : Calls Tryz.prog 27 #[.pointer (some ⟨q, 0, none⟩), .int .i64 k] w fun e w' => e = leasedE Q.L k ∧ w = w' := by
  obtain ⟨S, h1, _⟩ := h
  obtain ⟨V, h2, h3⟩ := h1.at_
  exact (Leased_ql h2 hk).mono fun _ _ ⟨he, hw⟩ => ⟨leased_is h1.ok.ids h3.r1 he, hw⟩
end
/-- A queue of one message that is leased. -/
def eQ (a : Att) (body group : ByteArray) (at_ : Int) (lsd : Bool) (now : Int) : QM := ⟨a, now, 1, [⟨1, 0, 1, at_, lsd, body, group⟩], []⟩
section
variable {a : Att} {body group : ByteArray}
theorem recv_e {delay : Int} (h : (dM a body group delay).at_ ≤ 0) : recvA (dQ a body group delay) 1 0 = [⟨1, 0, 1, a.vis, true, body, group⟩] ∧ recvQ (dQ a body group delay) 1 0 = eQ a body group a.vis true 0 := by
  obtain ⟨r1, r2⟩ := recv_d (a := a) (body := body) (group := group) (delay := delay) (t := 0) true
  rw [show (true && decide ((dM a body group delay).at_ ≤ 0)) = true from decide_eq_true h] at r2
  have e : dT a body group delay 0 true = dQ a body group delay := rfl
  rw [e] at r2
  have hr : readyL (dQ a body group delay) 1 = [dM a body group delay] := by
    unfold recvA recvL at r2
    rw [if_pos r1, if_pos rfl] at r2
    have hs := ready_sub (dQ a body group delay) 1
    change (readyL (dQ a body group delay) 1).Sublist [dM a body group delay] at hs
    have hl : (readyL (dQ a body group delay) 1).length = 1 := by
      have := congrArg List.length r2
      rw [List.length_map] at this
      exact this
    exact hs.eq_of_length hl
  refine ⟨?_, ?_⟩
  · rw [r2, if_pos rfl]
    unfold dL
    rw [Int.zero_add]
  · unfold recvQ
    rw [if_pos r1]
    show { dQ a body group delay with L := leaseL [dM a body group delay] (readyL (dQ a body group delay) 1) (0 + a.vis) } = _
    rw [hr]
    unfold leaseL eQ dQ dM
    simp [leaseM]
def eR : ByteArray := digs 1 ++ ⟨#[46]⟩ ++ digs 1
theorem ext_e {at_ v : Int} (hv : 0 ≤ v ∧ v ≤ 1048576) : extA (eQ a body group at_ true 0) eR v = 0 ∧ extQ (eQ a body group at_ true 0) eR v = eQ a body group v (decide (0 < v)) 0 := by
  have hw : within v 0 1048576 = true := by unfold within; simp [hv.1, hv.2]
  have hb : byR (eQ a body group at_ true 0).L eR = some ⟨1, 0, 1, at_, true, body, group⟩ := by
    unfold byR eQ
    have : decide (rcpt ⟨1, 0, 1, at_, true, body, group⟩ = eR) = true := decide_eq_true rfl
    rw [List.find?_cons_of_pos (by rw [this]; rfl)]
  unfold extA extQ
  rw [hw, hb]
  refine ⟨rfl, ?_⟩
  unfold eQ extM
  simp
theorem leased_e {v : Int} : leasedE (eQ a body group v (decide (0 < v)) 0).L 1 = if 0 < v then .returned (.tuple #[.int .i64 v, .bool true]) else .returned (.tuple #[.int .i64 0, .bool false]) := by
  unfold leasedE leasedAt eQ
  by_cases h : 0 < v
  · rw [if_pos h, decide_eq_true h]
    rfl
  · rw [if_neg h, decide_eq_false h]
    rfl
theorem tick_e {v t : Int} (hm : a.max = 0) (hr : a.ret = 1048576) (ht : 0 ≤ t ∧ t ≤ 524288) : tickQ (eQ a body group v (decide (0 < v)) 0) t = if 0 < v ∧ v ≤ t then eQ a body group t false t else eQ a body group v (decide (0 < v)) t := by
  have hc : canTick (eQ a body group v (decide (0 < v)) 0) t = true := by
    unfold canTick within
    show (decide (0 ≤ t) && decide (t ≤ 1099511627776)) = true
    have : t ≤ 1099511627776 := by omega
    simp [ht.1, this]
  have hx : rest1 (eQ a body group v (decide (0 < v)) 0) t = [wake t ⟨1, 0, 1, v, decide (0 < v), body, group⟩] := by
    unfold rest1 eQ isDead
    simp [hm]
  have ho : old a t (wake t ⟨1, 0, 1, v, decide (0 < v), body, group⟩) = false := by
    unfold old
    rw [(wake_id t _).2.1, hr]
    exact decide_eq_false (by show ¬ (0 : Int) + 1048576 ≤ t; omega)
  unfold tickQ
  rw [if_pos hc]
  show { eQ a body group v (decide (0 < v)) 0 with now := t, L := (rest1 (eQ a body group v (decide (0 < v)) 0) t).filter fun m => !old a t m, K := [] } = _
  rw [hx, List.filter_cons_of_pos (by rw [ho]; rfl)]
  unfold wake eQ
  by_cases h : 0 < v ∧ v ≤ t
  · rw [if_pos h]
    simp [h.1, h.2]
  · rw [if_neg h]
    have : (decide (0 < v) && decide (v ≤ t)) = false := by
      rw [Bool.eq_false_iff]
      intro hc2
      rw [Bool.and_eq_true, decide_eq_true_eq, decide_eq_true_eq] at hc2
      exact h hc2
    simp [this]
theorem recv_e2 {at_ t : Int} {lsd : Bool} : (recvA (eQ a body group at_ lsd t) 1 0).length = if (!lsd && decide (at_ ≤ t)) then 1 else 0 := by
  have hc : canRecv 1 0 = true := by kernel_rfl
  unfold recvA recvL
  rw [if_pos hc, List.length_map]
  have ha : aheadL (eQ a body group at_ lsd t) = [⟨1, 0, 1, at_, lsd, body, group⟩] := by
    unfold aheadL eQ
    cases a.fifo with
    | false => rfl
    | true => simp [isHead]
  unfold readyL
  rw [ha]
  show (([(⟨1, 0, 1, at_, lsd, body, group⟩ : Ms)].filter (waits t)).take 1).length = _
  have hw : waits t ⟨1, 0, 1, at_, lsd, body, group⟩ = (!lsd && decide (at_ ≤ t)) := rfl
  cases hb : (!lsd && decide (at_ ≤ t)) with
  | true =>
    rw [hb] at hw
    rw [List.filter_cons_of_pos hw]
    rfl
  | false =>
    rw [hb] at hw
    rw [List.filter_cons_of_neg (by rw [hw]; decide)]
    rfl
end
end Go.Proofs.YtdjieapobodakaaGreatDoor
end

section
namespace Go.Proofs.YtdjieapobodakaaGreatDoor
open Go Go.RowKit Go.Maps Go.WideMaps

/-- All cells of a law's own attributes. -/
def attC7 (bx : Nat) (a : Att) : List Cel := [(bx, 0, .int .i64 a.vis), (bx, 1, .int .i64 a.ret), (bx, 2, .int .i64 a.del), (bx, 3, .int .i64 a.win), (bx, 4, .int .i64 a.max), (bx, 5, .string a.dead), (bx, 6, .bool a.fifo)]
section
variable {w0 w w' : World} {q : Nat} {Q Q' : QM} {T : Nat} {C C' : List Cel}
theorem attBox_cells7 (w : World) (a : Att) : ∀ x ∈ attC7 w.heap.size a, (attBox w a).cell? ⟨x.1, x.2.1, none⟩ = some x.2.2 ∧ x.1 < (attBox w a).heap.size := by
  intro x hx
  have hb := heap_alloc_new w (.cells #[.int .i64 a.vis, .int .i64 a.ret, .int .i64 a.del, .int .i64 a.win, .int .i64 a.max, .string a.dead, .bool a.fifo] 23)
  have hs : w.heap.size < (attBox w a).heap.size := by unfold attBox; simp
  change (attBox w a).heap[w.heap.size]? = _ at hb
  generalize attBox w a = W at *
  simp only [attC7, List.mem_cons, List.not_mem_nil, or_false] at hx
  rcases hx with rfl | rfl | rfl | rfl | rfl | rfl | rfl <;> exact ⟨by simp [World.cell?, hb], hs⟩
theorem QW.poke (h : QW w0 w q Q T C) {b j : Nat} {u v : Value} (hm : (b, j, u) ∈ C) (hb0 : w0.heap.size ≤ b) (hC : ∀ x ∈ C', x = (b, j, v) ∨ (x ∈ C ∧ (x.1 ≠ b ∨ x.2.1 ≠ j))) : QW w0 (w.setCell ⟨b, j, none⟩ v) q Q T C' := by
  obtain ⟨S, ⟨⟨V, h1, h2⟩, h3, h4, h5, h6, h7⟩, hc⟩ := h
  obtain ⟨c1, c2, c3⟩ := hc _ hm
  have hg : Chg (fun k => k = b) w (w.setCell ⟨b, j, none⟩ v) := Chg.set _ _ _ _
  have hs : (w.setCell ⟨b, j, none⟩ v).heap.size = w.heap.size := by simp
  refine ⟨S, ⟨⟨V, h1.other hg (fun k hk => by rw [hk]; exact c3), h2⟩, h3, h4, h5.trans (hg.below h5.size fun k hk => by rw [hk]; exact hb0), h6, h7⟩, fun x hx => ?_⟩
  rcases hC x hx with rfl | ⟨hx2, hne⟩
  · exact ⟨World.cell?_setCell_same _ _ _ c1, by rw [hs]; exact c2, c3⟩
  · obtain ⟨d1, d2, d3⟩ := hc x hx2
    refine ⟨(World.cell?_setCell_other _ _ _ _ fun e => ?_).trans d1, by rw [hs]; exact d2, d3⟩
    injection e with e1 e2
    rcases hne with h | h
    · exact h e1.symm
    · exact h e2.symm
end
end Go.Proofs.YtdjieapobodakaaGreatDoor
end

section
namespace Go.Proofs.YtdjieapobodakaaGreatDoor
open Go Go.RowKit Go.Maps Go.WideMaps

def eA (a : Att) : Att := { a with ret := 1048576 }
def gA (a : Att) : Att := { eA a with del := 0 }
section
variable (w : World) (hE : Env w) (h6 : 6 ≤ w.heap.size) (a : Att) (v t : Int)
def ExtendSaid (w : World) (a : Att) (v t : Int) : Prop :=
  Calls Tryz.prog 8 #[attV a, .int .i64 v, .int .i64 t] w fun e w' => e = .returned (.bool true) ∧ Below w.heap.size w w'
include hE h6
set_option maxHeartbeats 1600000 in
set_option maxRecDepth 100000 in
theorem extends1 (hr : (eA a).right = false) : ExtendSaid w a v t := by
  have HN : Hid (Calls Tryz.prog 12 #[attV (eA a)] (attBox w (eA a)) fun e w' => e = .returned (.pointer none) ∧ Hid (AwakeSaid w w')) := Lib.hid ((new_no hE h6 (eA a) hr).mono fun _ _ ⟨he, hb⟩ => ⟨he, Lib.hid (awake_at hE h6 hb.out)⟩)
  clear hE h6 hr
  unfold ExtendSaid AwakeSaid attV attBox eA at *
  dsimp only at HN
  go_enter Tryz.func8, Tryz.ntmps8
  go_wp2_with (first
    | (go_at_call 12; refine HN.out.mono ?_; rintro e w1 ⟨rfl, HA⟩)
    | (go_at_call 11; refine HA.out.mono ?_; rintro e w3 ⟨rfl, HZ⟩))
  go_ret
  exact ⟨rfl, HZ.out⟩
end
end Go.Proofs.YtdjieapobodakaaGreatDoor
end
