/- What is proved here: the plain queue: its messages, what each call answers and leaves; plain facts on them. No program's type is named. -/
/- What is proved here: a receipt's text, and which number it begins with; what the package-level variables hold that the conversions read. -/
/- What is proved here: what a law's first world holds of the variables that the conversions read; the wrap that hands on a law's variables and its world's shape. -/
import Derived.Test.YtdjieapobodakaaGreatDoorPEx17
import Derived.Lib.ItoaNum
import Derived.Test.YtdjieapobodakaaGreatDoorPEx2
import Derived.Test.YtdjieapobodakaaGreatDoorShelf
import Derived.WalkSmall
import Derived.Lib.AppendIntMem
import Derived.Lib.AtoiTie
import Derived.Lib.ItoaMem
import Derived.Lib.IndexMore
import Derived.Deep.RegionHeld3
import Derived.Deep.DeepCutAuto
import Derived.Shelf.SlSortCmp.QuietGrown
import Derived.Test.YtdjieapobodakaaGreatDoorRows
import Derived.WalkKit
import Derived.ProofKit
import Derived.ChangeOld
import Derived.ChangeVars
import Derived.JoinedOf
import Derived.LaidLaws
import Derived.LaidHandle
import Derived.LaidSub
import Derived.LaidMore
import Derived.Handed
import Derived.Lib.LaidTab
import Derived.Shelf.Vars
section
namespace Go.Proofs.YtdjieapobodakaaGreatDoor
open Go

/-- A message. -/
structure Ms where
  id : Int
  sent : Int
  count : Int
  at_ : Int
  lsd : Bool
  body : ByteArray
  group : ByteArray
/-- Attributes. -/
structure Att where
  vis : Int
  ret : Int
  del : Int
  win : Int
  max : Int
  dead : ByteArray
  fifo : Bool
structure QM where
  A : Att
  now : Int
  last : Int
  L : List Ms
  K : List Led.En

def within (n a b : Int) : Bool := decide (a ≤ n) && decide (n ≤ b)
def Att.right (a : Att) : Bool := within a.vis 1 1048576 && within a.ret 1 1048576 && within a.del 0 1048576 && within a.win 0 1048576 && within a.max 0 100 && decide (a.dead.size ≤ 64) && ((!decide (a.dead = ⟨#[]⟩)) == decide (0 < a.max))
def newQ (a : Att) : QM := ⟨a, 0, 0, [], []⟩

/-! ### Tick -/
def isDead (A : Att) (now : Int) (m : Ms) : Bool := m.lsd && decide (m.at_ ≤ now) && decide (0 < A.max) && decide (A.max ≤ m.count)
def wake (now : Int) (m : Ms) : Ms := if m.lsd && decide (m.at_ ≤ now) then { m with lsd := false, at_ := now } else m
def old (A : Att) (now : Int) (m : Ms) : Bool := decide (m.sent + A.ret ≤ now)
def deadL (Q : QM) (now : Int) : List Ms := Q.L.filter (isDead Q.A now)
def rest1 (Q : QM) (now : Int) : List Ms := (Q.L.filter fun m => !isDead Q.A now m).map (wake now)
def goneL (Q : QM) (now : Int) : List Ms := (rest1 Q now).filter (old Q.A now)
def leftL (Q : QM) (now : Int) : List Ms := (rest1 Q now).filter fun m => !old Q.A now m
def canTick (Q : QM) (now : Int) : Bool := within now Q.now 1099511627776
def tickQ (Q : QM) (now : Int) : QM := if canTick Q now then { Q with now := now, L := leftL Q now, K := Led.leftE Q.K now } else Q
def tickD (Q : QM) (now : Int) : List Ms := if canTick Q now then deadL Q now else []
def tickG (Q : QM) (now : Int) : List Int := if canTick Q now then (goneL Q now).map Ms.id else []

/-! ### Send -/
def takes (A : Att) (body group key : ByteArray) (delay : Int) : Bool :=
  decide (body.size ≤ 256) && decide (group.size ≤ 256) && decide (key.size ≤ 256) && ((!decide (group = ⟨#[]⟩)) == A.fifo) && within delay (-1) (if A.fifo then -1 else 1048576)
def keyed (A : Att) (key : ByteArray) : Bool := !decide (key = ⟨#[]⟩) && decide (0 < A.win)
def mkMs (Q : QM) (body group : ByteArray) (delay : Int) : Ms := ⟨Q.last + 1, Q.now, 0, Q.now + (if delay = -1 then Q.A.del else delay), false, body, group⟩
def addQ (Q : QM) (body group : ByteArray) (delay : Int) : QM := { Q with last := Q.last + 1, L := Q.L ++ [mkMs Q body group delay] }
def idOf (x : Led.En) : Int := match x.v with | .int _ n => n | _ => 0
/-- What Send answers: a number, an error; what it leaves. -/
def sendA (Q : QM) (body group key : ByteArray) (delay : Int) : Int × Int :=
  if !takes Q.A body group key delay then (0, 1) else
  match Led.findE Q.K key with
  | some x => (idOf x, 0)
  | none => if 1024 ≤ Q.L.length then (0, 5) else if keyed Q.A key && decide (4096 ≤ Q.K.length) then (0, 5) else (Q.last + 1, 0)
def keyQ (Q : QM) (key : ByteArray) : QM := if keyed Q.A key then { Q with K := Led.putE Q.K ⟨key, .int .i64 (Q.last + 1), Q.now + Q.A.win⟩ } else Q
def sendQ (Q : QM) (body group key : ByteArray) (delay : Int) : QM :=
  if !takes Q.A body group key delay then Q else
  match Led.findE Q.K key with
  | some _ => Q
  | none => if 1024 ≤ Q.L.length then Q else if keyed Q.A key && decide (4096 ≤ Q.K.length) then Q else addQ (keyQ Q key) body group delay

/-! ### Receive -/
/-- Those that have no earlier one to wait for. -/
def isHead (L : List Ms) (m : Ms) : Bool := decide ((L.find? fun x => decide (x.group = m.group)).map Ms.id = some m.id)
def aheadL (Q : QM) : List Ms := if Q.A.fifo then Q.L.filter (isHead Q.L) else Q.L
def waits (now : Int) (m : Ms) : Bool := !m.lsd && decide (m.at_ ≤ now)
def readyL (Q : QM) (n : Nat) : List Ms := ((aheadL Q).filter (waits Q.now)).take n
def leaseM (u : Int) (m : Ms) : Ms := { m with lsd := true, at_ := u, count := m.count + 1 }
def leaseL (L : List Ms) (T : List Ms) (u : Int) : List Ms := L.map fun m => if T.any (fun x => decide (x.id = m.id)) then leaseM u m else m
def canRecv (n visible : Int) : Bool := within n 1 10 && within visible 0 1048576
def visOf (Q : QM) (visible : Int) : Int := if visible = 0 then Q.A.vis else visible
def recvL (Q : QM) (n visible : Int) : List Ms := (readyL Q n.toNat).map (leaseM (Q.now + visOf Q visible))
def recvQ (Q : QM) (n visible : Int) : QM := if canRecv n visible then { Q with L := leaseL Q.L (readyL Q n.toNat) (Q.now + visOf Q visible) } else Q
def recvA (Q : QM) (n visible : Int) : List Ms := if canRecv n visible then recvL Q n visible else []

/-! ### Ack, Extend, Purge -/
def digs (n : Int) : ByteArray := ⟨(Lib.itoa n).toArray⟩
def rcpt (m : Ms) : ByteArray := digs m.id ++ ⟨#[46]⟩ ++ digs m.count
def byR (L : List Ms) (r : ByteArray) : Option Ms := L.find? fun m => m.lsd && decide (rcpt m = r)
def dropL (L : List Ms) (id : Int) : List Ms := L.filter fun m => decide (m.id ≠ id)
def ackA (Q : QM) (r : ByteArray) : Int × Int := match byR Q.L r with | none => (0, 8) | some m => (m.id, 0)
def ackQ (Q : QM) (r : ByteArray) : QM := match byR Q.L r with | none => Q | some m => { Q with L := dropL Q.L m.id }
def extM (Q : QM) (visible : Int) (m : Ms) : Ms := { m with at_ := Q.now + visible, lsd := decide (0 < visible) }
def extA (Q : QM) (r : ByteArray) (visible : Int) : Int := if !within visible 0 1048576 then 1 else match byR Q.L r with | none => 8 | some _ => 0
def extQ (Q : QM) (r : ByteArray) (visible : Int) : QM := if !within visible 0 1048576 then Q else match byR Q.L r with
  | none => Q
  | some m => { Q with L := Q.L.map fun x => if x.id = m.id then extM Q visible x else x }
def purgeQ (Q : QM) : QM := { Q with L := [] }
def setOk (Q : QM) (a : Att) : Bool := a.right && (a.fifo == Q.A.fifo)
def setQ (Q : QM) (a : Att) : QM := if setOk Q a then { Q with A := a } else Q
/-- Until when a message is leased. -/
def leasedAt (L : List Ms) (id : Int) : Option Int := (L.find? fun m => decide (m.id = id) && m.lsd).map Ms.at_

/-! ### what holds of a queue, behind so many calls -/
structure QOk (Q : QM) (T : Nat) : Prop where
  right : Q.A.right = true
  now : 0 ≤ Q.now ∧ Q.now ≤ 1099511627776
  last : 0 ≤ Q.last ∧ Q.last ≤ T
  ids : Q.L.Pairwise fun a b => a.id < b.id
  idb : ∀ x ∈ Q.L, 1 ≤ x.id ∧ x.id ≤ Q.last
  sents : Q.L.Pairwise fun a b => a.sent ≤ b.sent
  sentb : ∀ x ∈ Q.L, 0 ≤ x.sent ∧ x.sent ≤ Q.now
  cnt : ∀ x ∈ Q.L, 0 ≤ x.count ∧ x.count ≤ T
  atb : ∀ x ∈ Q.L, 0 ≤ x.at_ ∧ x.at_ ≤ 1099512676352
  size : ∀ x ∈ Q.L, x.body.size ≤ 256 ∧ x.group.size ≤ 256
  grp : ∀ x ∈ Q.L, (!decide (x.group = ⟨#[]⟩)) = Q.A.fifo
  len : Q.L.length ≤ 1024
  klen : Q.K.length ≤ 4096
  kok : ∀ x ∈ Q.K, x.k.size ≤ 256 ∧ x.k ≠ ⟨#[]⟩ ∧ (∃ n, x.v = .int .i64 n ∧ 1 ≤ n ∧ n ≤ Q.last) ∧ 0 ≤ x.t ∧ x.t ≤ 1099512676352
  krise : Rising Led.En.nm Q.K
theorem Att.right_parts {a : Att} (h : a.right = true) : (1 ≤ a.vis ∧ a.vis ≤ 1048576) ∧ (1 ≤ a.ret ∧ a.ret ≤ 1048576) ∧ (0 ≤ a.del ∧ a.del ≤ 1048576) ∧ (0 ≤ a.win ∧ a.win ≤ 1048576) ∧ (0 ≤ a.max ∧ a.max ≤ 100) ∧ a.dead.size ≤ 64 := by
  unfold Att.right within at h
  simp only [Bool.and_eq_true, decide_eq_true_eq] at h
  exact ⟨h.1.1.1.1.1.1, h.1.1.1.1.1.2, h.1.1.1.1.2, h.1.1.1.2, h.1.1.2, h.1.2⟩
theorem QOk.new {a : Att} (h : a.right = true) : QOk (newQ a) 0 :=
  ⟨h, ⟨Int.le_refl _, by show (0 : Int) ≤ 1099511627776; omega⟩, ⟨Int.le_refl _, Int.le_refl _⟩, List.Pairwise.nil, (fun x hx => by cases hx), List.Pairwise.nil, (fun x hx => by cases hx), (fun x hx => by cases hx), (fun x hx => by cases hx), (fun x hx => by cases hx), (fun x hx => by cases hx), Nat.zero_le _, Nat.zero_le _, (fun x hx => by cases hx), List.Pairwise.nil⟩
theorem QOk.up {Q : QM} {T T' : Nat} (h : QOk Q T) (hT : T ≤ T') : QOk Q T' :=
  ⟨h.right, h.now, ⟨h.last.1, by have := h.last.2; omega⟩, h.ids, h.idb, h.sents, h.sentb, fun x hx => by have := h.cnt x hx; omega, h.atb, h.size, h.grp, h.len, h.klen, h.kok, h.krise⟩
theorem wake_id (now : Int) (m : Ms) : (wake now m).id = m.id ∧ (wake now m).sent = m.sent ∧ (wake now m).count = m.count ∧ (wake now m).body = m.body ∧ (wake now m).group = m.group := by
  unfold wake
  split <;> exact ⟨rfl, rfl, rfl, rfl, rfl⟩
theorem mem_left {Q : QM} {now : Int} {y : Ms} (h : y ∈ leftL Q now) : ∃ x ∈ Q.L, isDead Q.A now x = false ∧ y = wake now x ∧ old Q.A now y = false := by
  unfold leftL rest1 at h
  obtain ⟨h1, h2⟩ := List.mem_filter.1 h
  obtain ⟨x, hx, rfl⟩ := List.mem_map.1 h1
  obtain ⟨h3, h4⟩ := List.mem_filter.1 hx
  exact ⟨x, h3, by simpa using h4, rfl, by simpa using h2⟩
theorem pairwise_left {Q : QM} {now : Int} {r : Ms → Ms → Prop} (h : Q.L.Pairwise r) (hr : ∀ a b, r a b → r (wake now a) (wake now b)) : (leftL Q now).Pairwise r := by
  unfold leftL rest1
  refine List.Pairwise.filter _ (List.Pairwise.map _ ?_ (h.filter _))
  exact fun a b => hr a b
theorem left_len (Q : QM) (now : Int) : (leftL Q now).length ≤ Q.L.length := by
  unfold leftL rest1
  exact Nat.le_trans (List.length_filter_le _ _) (by rw [List.length_map]; exact List.length_filter_le _ _)
theorem QOk.tick {Q : QM} {T : Nat} (h : QOk Q T) (now : Int) : QOk (tickQ Q now) T := by
  unfold tickQ
  by_cases hc : canTick Q now
  · rw [if_pos hc]
    have hc' := hc
    unfold canTick within at hc'
    simp only [Bool.and_eq_true, decide_eq_true_eq] at hc'
    have h0 := h.now
    refine ⟨h.right, ⟨by show 0 ≤ now; omega, hc'.2⟩, h.last, pairwise_left h.ids fun a b hab => ?_, fun y hy => ?_, pairwise_left h.sents fun a b hab => ?_, fun y hy => ?_, fun y hy => ?_, fun y hy => ?_, fun y hy => ?_, fun y hy => ?_, Nat.le_trans (left_len Q now) h.len, Nat.le_trans (List.length_filter_le _ _) h.klen, fun x hx => h.kok x (List.mem_filter.1 hx).1, h.krise.filter _⟩
    · rw [(wake_id now a).1, (wake_id now b).1]; exact hab
    · obtain ⟨x, hx, _, rfl, _⟩ := mem_left hy
      rw [(wake_id now x).1]; exact h.idb x hx
    · rw [(wake_id now a).2.1, (wake_id now b).2.1]; exact hab
    · obtain ⟨x, hx, _, rfl, _⟩ := mem_left hy
      rw [(wake_id now x).2.1]
      have := h.sentb x hx
      exact ⟨this.1, by show x.sent ≤ now; omega⟩
    · obtain ⟨x, hx, _, rfl, _⟩ := mem_left hy
      rw [(wake_id now x).2.2.1]; exact h.cnt x hx
    · obtain ⟨x, hx, _, rfl, _⟩ := mem_left hy
      have := h.atb x hx
      unfold wake
      split
      · exact ⟨by show 0 ≤ now; omega, by show now ≤ _; omega⟩
      · exact this
    · obtain ⟨x, hx, _, rfl, _⟩ := mem_left hy
      rw [(wake_id now x).2.2.2.1, (wake_id now x).2.2.2.2]; exact h.size x hx
    · obtain ⟨x, hx, _, rfl, _⟩ := mem_left hy
      rw [(wake_id now x).2.2.2.2]; exact h.grp x hx
  · rw [if_neg hc]; exact h
theorem takes_parts {A : Att} {body group key : ByteArray} {delay : Int} (h : takes A body group key delay = true) : body.size ≤ 256 ∧ group.size ≤ 256 ∧ key.size ≤ 256 ∧ (!decide (group = ⟨#[]⟩)) = A.fifo ∧ -1 ≤ delay ∧ delay ≤ 1048576 := by
  unfold takes within at h
  simp only [Bool.and_eq_true, decide_eq_true_eq, beq_iff_eq] at h
  obtain ⟨⟨⟨⟨h1, h2⟩, h3⟩, h4⟩, h5, h6⟩ := h
  exact ⟨h1, h2, h3, h4, h5, by split at h6 <;> omega⟩
theorem QOk.add {Q : QM} {T : Nat} (h : QOk Q T) {body group : ByteArray} {delay : Int} (hb : body.size ≤ 256) (hg : group.size ≤ 256) (hf : (!decide (group = ⟨#[]⟩)) = Q.A.fifo) (hd : -1 ≤ delay ∧ delay ≤ 1048576) (hl : Q.L.length < 1024) : QOk (addQ Q body group delay) (T + 1) := by
  have hA := Att.right_parts h.right
  have h0 := h.now
  have hT := h.last
  have hm : ∀ {p : Ms → Prop}, (∀ x ∈ Q.L, p x) → p (mkMs Q body group delay) → ∀ x ∈ Q.L ++ [mkMs Q body group delay], p x := fun h1 h2 x hx => by
    rcases List.mem_append.1 hx with hx | hx
    · exact h1 x hx
    · rw [List.mem_singleton.1 hx]; exact h2
  refine ⟨h.right, h.now, ⟨by show 0 ≤ Q.last + 1; omega, by show Q.last + 1 ≤ _; omega⟩, List.pairwise_append.2 ⟨h.ids, List.pairwise_singleton _ _, fun a ha b hb => ?_⟩, hm (fun x hx => ?_) ?_, List.pairwise_append.2 ⟨h.sents, List.pairwise_singleton _ _, fun a ha b hb => ?_⟩, hm h.sentb ⟨h0.1, Int.le_refl _⟩, hm (fun x hx => ?_) ⟨Int.le_refl _, by show (0 : Int) ≤ _; omega⟩, hm h.atb ?_, hm h.size ⟨hb, hg⟩, hm h.grp hf, ?_, h.klen, fun x hx => ?_, h.krise⟩
  · rw [List.mem_singleton.1 hb]
    have := h.idb a ha
    show a.id < Q.last + 1
    omega
  · have := h.idb x hx
    exact ⟨this.1, by show x.id ≤ Q.last + 1; omega⟩
  · exact ⟨by show 1 ≤ Q.last + 1; omega, Int.le_refl _⟩
  · rw [List.mem_singleton.1 hb]
    exact (h.sentb a ha).2
  · have := h.cnt x hx
    exact ⟨this.1, by omega⟩
  · have h2 := hA.2.2.1
    show 0 ≤ Q.now + _ ∧ Q.now + _ ≤ _
    split <;> omega
  · show (Q.L ++ [_]).length ≤ 1024
    rw [List.length_append, List.length_singleton]
    omega
  · obtain ⟨a1, a2, ⟨n, a3, a4, a5⟩, a6⟩ := h.kok x hx
    exact ⟨a1, a2, ⟨n, a3, a4, by show n ≤ Q.last + 1; omega⟩, a6⟩
end Go.Proofs.YtdjieapobodakaaGreatDoor
end

section
namespace Go.Proofs.YtdjieapobodakaaGreatDoor
open Go Go.RowKit Go.Maps Go.WideMaps

/-! ### digits -/
theorem decFrom_snoc (b : UInt8) : ∀ (l : List UInt8) (acc : Nat), Lib.decFrom acc (l ++ [b]) = (Lib.decFrom acc l).bind fun n => (Lib.digitVal b).map fun d => n * 10 + d
  | [], acc => by
    show (match Lib.digitVal b with | some d => Lib.decFrom (acc * 10 + d) [] | none => none) = _
    cases Lib.digitVal b <;> rfl
  | c :: l, acc => by
    show (match Lib.digitVal c with | some d => Lib.decFrom (acc * 10 + d) (l ++ [b]) | none => none) = (match Lib.digitVal c with | some d => Lib.decFrom (acc * 10 + d) l | none => none).bind _
    cases Lib.digitVal c with
    | none => rfl
    | some d => exact decFrom_snoc b l _
theorem dec_bytes : ∀ (k u : Nat), u < 10 ^ (k + 1) → (∀ b ∈ Lib.decDigits u, 48 ≤ b.toNat ∧ b.toNat ≤ 57) ∧ Lib.decFrom 0 (Lib.decDigits u) = some u ∧ (Lib.decDigits u).length ≤ k + 1 ∧ Lib.decDigits u ≠ []
  | 0, u, h => by
    have hu : u < 10 := by simpa using h
    have hv : (UInt8.ofNat (48 + u)).toNat = 48 + u := by rw [UInt8.toNat_ofNat']; omega
    rw [Lib.decDigits, dif_pos hu]
    refine ⟨fun b hb => ?_, ?_, by simp, by simp⟩
    · rw [List.mem_singleton.1 hb, hv]; omega
    · show (match Lib.digitVal (UInt8.ofNat (48 + u)) with | some d => Lib.decFrom (0 * 10 + d) [] | none => none) = _
      have : Lib.digitVal (UInt8.ofNat (48 + u)) = some u := by
        unfold Lib.digitVal
        rw [hv, if_pos (by omega)]
        congr 1
        omega
      rw [this]
      show some (0 * 10 + u) = _
      congr 1
      omega
  | k + 1, u, h => by
    by_cases hu : u < 10
    · obtain ⟨a1, a2, a3, a4⟩ := dec_bytes 0 u (by simpa using hu)
      exact ⟨a1, a2, by omega, a4⟩
    · obtain ⟨a1, a2, a3, a4⟩ := dec_bytes k (u / 10) (by rw [Nat.div_lt_iff_lt_mul (by omega)]; rw [Nat.pow_succ] at h; exact h)
      have hv : (UInt8.ofNat (48 + u % 10)).toNat = 48 + u % 10 := by rw [UInt8.toNat_ofNat']; omega
      rw [Lib.decDigits, dif_neg hu]
      refine ⟨fun b hb => ?_, ?_, by rw [List.length_append, List.length_singleton]; omega, by simp⟩
      · rcases List.mem_append.1 hb with hb | hb
        · exact a1 b hb
        · rw [List.mem_singleton.1 hb, hv]; omega
      · rw [decFrom_snoc, a2]
        have : Lib.digitVal (UInt8.ofNat (48 + u % 10)) = some (u % 10) := by
          unfold Lib.digitVal
          rw [hv, if_pos (by omega)]
          congr 1
          omega
        rw [this]
        show some (u / 10 * 10 + u % 10) = _
        congr 1
        omega
theorem atoi_dec (u : Nat) (h : u < 10 ^ 18) : Lib.atoiAll (Lib.decDigits u) = .ok (u : Int) := by
  obtain ⟨a1, a2, a3, a4⟩ := dec_bytes 17 u h
  rw [Lib.atoiAll_short _ (by omega)]
  cases hl : Lib.decDigits u with
  | nil => exact absurd hl a4
  | cons b r =>
    rw [hl] at a1 a2
    have hb := a1 b (by simp)
    have e1 : (b == 45) = false := beq_eq_false_iff_ne.2 fun e => by rw [e] at hb; exact absurd hb.1 (by decide)
    have e2 : (b == 43) = false := beq_eq_false_iff_ne.2 fun e => by rw [e] at hb; exact absurd hb.1 (by decide)
    have : Lib.atoi (b :: r) = some (u : Int) := by
      unfold Lib.atoi
      simp only [e1, e2, Bool.false_eq_true, if_false]
      unfold Lib.decNat
      simp only [List.isEmpty_cons, Bool.false_eq_true, if_false, a2, Option.map_some]
    rw [this]
    rfl
theorem index_dot : ∀ (l r : List UInt8), (∀ b ∈ l, b ≠ 46) → Lib.index (l ++ 46 :: r) [46] = l.length
  | [], r, _ => by
    show (if [46].isPrefixOf (46 :: r) then (0 : Int) else _) = _
    rw [if_pos (by simp)]
    rfl
  | b :: l, r, h => by
    have hb : b ≠ 46 := h b (by simp)
    have ih := index_dot l r fun c hc => h c (by simp [hc])
    show (if [46].isPrefixOf (b :: (l ++ 46 :: r)) then (0 : Int) else if Lib.index (l ++ 46 :: r) [46] == -1 then -1 else Lib.index (l ++ 46 :: r) [46] + 1) = _
    rw [if_neg (by simpa using fun e => hb e.symm), ih, if_neg (by simp)]
    simp
/-- The text of a receipt. -/
def rcptS (id count : Int) : ByteArray := digs id ++ ⟨#[46]⟩ ++ digs count
theorem rcpt_is (m : Ms) : rcpt m = rcptS m.id m.count := rfl
/-- The number that a text begins with. -/
def numOf (t : ByteArray) : Int :=
  match Lib.atoiAll (Lib.cut t.data.toList [46]).1 with
  | .ok v => v
  | .range => Lib.atoiSat (Lib.cut t.data.toList [46]).1
  | _ => 0
theorem numOf_rcpt {id count : Int} (h0 : 0 ≤ id) (h1 : id < 1000000000000000000) : numOf (rcptS id count) = id := by
  have hd : (rcptS id count).data.toList = Lib.decDigits id.toNat ++ 46 :: (Lib.itoa count) := by
    unfold rcptS digs Lib.itoa
    rw [if_neg (by omega)]
    simp [ByteArray.data_append]
  have hp : (10 : Nat) ^ 18 = 1000000000000000000 := by decide
  obtain ⟨a1, _⟩ := dec_bytes 17 id.toNat (by rw [show 17 + 1 = 18 by rfl, hp]; omega)
  have hi : Lib.index (rcptS id count).data.toList [46] = (Lib.decDigits id.toNat).length := by
    rw [hd]
    exact index_dot _ _ fun b hb e => by have := a1 b hb; rw [e] at this; exact absurd this.1 (by decide)
  have hc : (Lib.cut (rcptS id count).data.toList [46]).1 = Lib.decDigits id.toNat := by
    unfold Lib.cut
    rw [hi, if_pos (by omega)]
    show (rcptS id count).data.toList.take _ = _
    rw [hd]
    simp
  unfold numOf
  rw [hc, atoi_dec _ (by rw [hp]; omega)]
  show ((id.toNat : Nat) : Int) = id
  omega
theorem numOf_b (t : ByteArray) : -9223372036854775808 ≤ numOf t ∧ numOf t ≤ 9223372036854775807 := by
  unfold numOf
  split
  · rename_i v hv
    exact Lib.atoiAll_bounds hv
  · exact Lib.atoiSat_bounds _
  · omega

/-! ### variables -/
def Tab (w : World) : Prop := Lib.TabIs Tryz.prog w "internal/strconv.uint64pow10" .u64 Lib.pow10Tab
theorem tab_global : Tryz.prog.globalNamed "internal/strconv.uint64pow10" = some 3 := by kernel_rfl
theorem syn_global : Tryz.prog.globalNamed "strconv.ErrSyntax" = some 1 := by kernel_rfl
theorem ran_global : Tryz.prog.globalNamed "strconv.ErrRange" = some 2 := by kernel_rfl
/-- What the conversions read of memory. -/
structure Env (w : World) : Prop where
  tab : Tab w
  len : ∃ m, w.cell? ⟨0, 0, none⟩ = some (.int .i64 m)
  syn : ∃ tp p, w.var? Tryz.prog "strconv.ErrSyntax" = some #[.iface tp p]
  ran : ∃ tp p, w.var? Tryz.prog "strconv.ErrRange" = some #[.iface tp p]
theorem Env.below {w w' : World} {B : Nat} (h : Env w) (hB : 6 ≤ B) (hb : Below B w w') : Env w' := by
  obtain ⟨h1, ⟨m, h2⟩, ⟨tp, p, h3⟩, ⟨tq, r, h4⟩⟩ := h
  refine ⟨?_, ⟨m, ?_⟩, ⟨tp, p, ?_⟩, ⟨tq, r, ?_⟩⟩
  · exact var?_below hb tab_global (by omega) h1
  · exact (World.cell?_of_block (hb.block _ (by show 0 < B; omega))).trans h2
  · exact var?_below hb syn_global (by omega) h3
  · exact var?_below hb ran_global (by omega) h4
theorem grown_below' (w : World) (n : Nat) (os : Array Obj) : Below w.heap.size w (Go.Sort.grow (w.drewN n) os) := Lib.below_grow w.heap.size w (Nat.le_refl _) n os
theorem Itoa_grown (n : Int) (w : World) (h0 : -9223372036854775808 ≤ n) (h1 : n ≤ 9223372036854775807) (ht : Tab w) :
    Calls Tryz.prog 91 #[.int .i64 n] w fun e w' => e = .returned (.string (digs n)) ∧ ∃ k os, w' = Go.Sort.grow (w.drewN k) os :=
  (Tryz.strconv_Itoa n h0 h1 w ht).mono fun _ _ ⟨he, k, os, hw⟩ => ⟨he, k, os, hw⟩
theorem digs_size (n : Int) (h0 : -9223372036854775808 ≤ n) (h1 : n ≤ 9223372036854775807) : (digs n).size ≤ 20 := by
  have hp : (10 : Nat) ^ (18 + 1) = 10000000000000000000 := by decide
  show (Lib.itoa n).length ≤ 20
  unfold Lib.itoa
  split
  · have := (dec_bytes 18 n.natAbs (by rw [hp]; omega)).2.2.1
    simp only [List.length_cons]
    omega
  · have := (dec_bytes 18 n.toNat (by rw [hp]; omega)).2.2.1
    omega
theorem Itoa_any (n : Int) (w : World) (h0 : -9223372036854775808 ≤ n) (h1 : n ≤ 9223372036854775807) (ht : Tab w) :
    Calls Tryz.prog 91 #[.int .i64 n] w fun e w' => e = .returned (.string (digs n)) ∧ Below w.heap.size w w' :=
  (Itoa_grown n w h0 h1 ht).mono fun _ _ ⟨he, k, os, hw⟩ => ⟨he, hw ▸ grown_below' w k os⟩
set_option maxHeartbeats 800000 in
set_option maxRecDepth 100000 in
theorem receipt_any {w : World} (hE : Env w) (h6 : 6 ≤ w.heap.size) {id count : Int} (hi : -9223372036854775808 ≤ id ∧ id ≤ 9223372036854775807) (hc : -9223372036854775808 ≤ count ∧ count ≤ 9223372036854775807) :
    Calls Tryz.prog 70 #[.int .i64 id, .int .i64 count] w fun e w' => e = .returned (.string (rcptS id count)) ∧ Below w.heap.size w w' := by
  have HI := Lib.hid (Itoa_any id w hi.1 hi.2 hE.tab)
  have HC : Hid (∀ w1, Below w.heap.size w w1 → Calls Tryz.prog 91 #[.int .i64 count] w1 fun e w' => e = .returned (.string (digs count)) ∧ Below w.heap.size w w') := Lib.hid fun w1 hb =>
    (Itoa_any count w1 hc.1 hc.2 (hE.below h6 hb).tab).mono fun e w' ⟨he, hb2⟩ => ⟨he, hb.trans (hb2.mono hb.size)⟩
  have HE : Hid (rcptS id count = digs id ++ ⟨#[46]⟩ ++ digs count) := Lib.hid rfl
  have hs1 := digs_size id hi.1 hi.2
  have hs2 := digs_size count hc.1 hc.2
  clear hE hi hc
  generalize digs id = a at *
  generalize digs count = b at *
  generalize rcptS id count = r at *
  go_enter Tryz.func70, Tryz.ntmps70
  go_wp2_with (first
    | (go_at_call 91; refine HI.out.mono ?_; rintro e w1 ⟨rfl, hb1⟩; clear HI)
    | (go_at_call 91; refine (HC.out _ hb1).mono ?_; rintro e w2 ⟨rfl, hb2⟩))
  go_ret
  exact ⟨by rw [HE.out]; rfl, hb2⟩
end Go.Proofs.YtdjieapobodakaaGreatDoor
end

section
namespace Go.Proofs.YtdjieapobodakaaGreatDoor.tied
open Go Go.ChangeShapes Go.WideShapes Go.ChangeAt Go.RowKit

theorem own : ownKnob Tryz.prog.godebug = none := by kernel_rfl
theorem laidOut : laidOutB Tryz.prog = true := by kernel_rfl
abbrev laidL : List (String × DataW Unit) := Rows.queueExtendsRow.laid
theorem pow_table : ((laidL.filter fun x => x.2.handleName?.isNone).filter fun x => x.1 == "internal/strconv.uint64pow10") = [("internal/strconv.uint64pow10", Lib.tabData .u64 Lib.pow10Tab)] := by kernel_rfl
theorem syn_table : ((laidL.filter fun x => x.2.handleName?.isNone).filter fun x => x.1 == "strconv.ErrSyntax") = [("strconv.ErrSyntax", Rows.laid_strconv_ErrSyntax)] := by kernel_rfl
theorem ran_table : ((laidL.filter fun x => x.2.handleName?.isNone).filter fun x => x.1 == "strconv.ErrRange") = [("strconv.ErrRange", Rows.laid_strconv_ErrRange)] := by kernel_rfl
theorem tab_of {W : World} (h : laidMetH Tryz.prog laidL W) : Tab W := by
  have h' := ((laidMetH_iff.1 h).1).filter fun x => x.1 == "internal/strconv.uint64pow10"
  rw [pow_table] at h'
  exact Lib.tabIs_of_head tab_global (t := 257) (by kernel_rfl) Tryz.underlying257 Tryz.underlying191 (by kernel_rfl) (by kernel_rfl) h'
theorem syn_of {W : World} (h : laidMetH Tryz.prog laidL W) : ∃ tp p, W.var? Tryz.prog "strconv.ErrSyntax" = some #[.iface tp p] := by
  have h' := ((laidMetH_iff.1 h).1).filter fun x => x.1 == "strconv.ErrSyntax"
  rw [syn_table] at h'
  obtain ⟨ps, ⟨g', t', cs, fuel, p, q, hg', ht', hvar, hd, _, _⟩, _⟩ := h'
  obtain rfl := Option.some.inj (syn_global.symm.trans hg')
  have hty : (Tryz.prog.globals[1]?).map (·.type) = some 160 := by kernel_rfl
  obtain rfl := Option.some.inj (hty.symm.trans ht')
  obtain ⟨_, u, v, e, _⟩ := iface_of_trod Tryz.underlying160 hd
  obtain rfl : cs = #[.iface u v] := Array.toList_inj.1 e
  exact ⟨u, v, hvar⟩
theorem ran_of {W : World} (h : laidMetH Tryz.prog laidL W) : ∃ tp p, W.var? Tryz.prog "strconv.ErrRange" = some #[.iface tp p] := by
  have h' := ((laidMetH_iff.1 h).1).filter fun x => x.1 == "strconv.ErrRange"
  rw [ran_table] at h'
  obtain ⟨ps, ⟨g', t', cs, fuel, p, q, hg', ht', hvar, hd, _, _⟩, _⟩ := h'
  obtain rfl := Option.some.inj (ran_global.symm.trans hg')
  have hty : (Tryz.prog.globals[2]?).map (·.type) = some 160 := by kernel_rfl
  obtain rfl := Option.some.inj (hty.symm.trans ht')
  obtain ⟨_, u, v, e, _⟩ := iface_of_trod Tryz.underlying160 hd
  obtain rfl : cs = #[.iface u v] := Array.toList_inj.1 e
  exact ⟨u, v, hvar⟩
theorem env_of {W : World} (h : laidMetH Tryz.prog laidL W) (hs : W.ShapedOpen Tryz.prog) : Env W :=
  ⟨tab_of h, cell_of_shapedOpen_int (zero := #[.int .i64 0]) (t := 3) hs (of_decide_eq_true (by kernel_rfl)) (by kernel_rfl) rfl (by kernel_rfl) (by kernel_rfl) Tryz.underlying3, syn_of h, ran_of h⟩
theorem six_of {W : World} (hs : W.ShapedOpen Tryz.prog) : 6 ≤ W.heap.size := by
  obtain ⟨zero, hz⟩ : ∃ zt, ((begin Tryz.prog (fun _ _ => 0) default).world.heap[5]?).bind Obj.row? = some zt := by
    have : (((begin Tryz.prog (fun _ _ => 0) default).world.heap[5]?).bind Obj.row?).isSome = true := by kernel_rfl
    exact Option.isSome_iff_exists.1 this
  obtain ⟨cs, hh, _⟩ := hs.1 5 zero.1 zero.2 (of_decide_eq_true (by kernel_rfl)) hz
  have := (Array.getElem?_eq_some_iff.1 hh).1
  omega
theorem door_met (os : Os) (args : Array Value) : laidMetH Tryz.prog laidL ((World.doorLaid Tryz.prog 400 os).forCall (fun _ _ => 0) ⟨#[], args, []⟩).memory :=
  laidMetH_of_parts3 (fuel := 8) (laidMet_of_run' 8 (by kernel_rfl) (by kernel_rfl)) (by kernel_rfl) (by kernel_rfl)
/-- The kit's wrap for a row with variables, the world's shape handed on beside them. -/
theorem handed {H : Type} {enc : TypeId × Value → H} {a : Assume} {C : Checked} {os : Os} {f : FuncId} {fn : Func} {s : ChangeSpec} {conds : List PathCond} {apart fresh handsOn again : Bool} {X : World → Array Value → Prop}
    (hX : ∀ (w w' : World) (args : Array Value), w.heap = w'.heap → X w args → X w' args)
    (own : ownKnob C.prog.godebug = none) (started : os.Started) (noInit : C.prog.inits.idxOf? f = none) (hfn : C.prog.funcs[f]? = some fn)
    (witness : ∃ (w : World) (tape : Tape) (i : Input), w.os = os ∧ (w.forCall tape i).Shaped C.prog ∧ i.vars = [] ∧ Input.okWide C.prog (w.forCall tape i) .any w.heap.size f i ∧
      ((s.pre enc C.prog fn conds apart (w.forCall tape i).memory i.args ∧ X (w.forCall tape i).memory i.args) ∧ sizedMet enc C.prog fn (OpenSpec.ofChange s) apart (w.forCall tape i).memory i.args) ∧ a.holds C.prog (lone (Frame.enter C.prog f i.args .normal) [] (w.forCall tape i)))
    (contract : ∀ (W : World) (base : Nat) (args : Array Value) (ds gs : List (DataW H)) (before : List MemPlace),
      (∀ (j : Nat) t v, fn.params[j]? = some t → args[j]? = some v → Value.okWide C.prog W .any base t v) →
      DataW.Whole enc C.prog fn.params.toList s.vars apart W args.toList ds gs before →
      conds.all (PathCond.test C.prog ⟨fn.params.toList, ds, s.plain.varTypes C.prog, gs⟩) = true →
      (DataW.weightsEach C.prog (fn.params.toList ++ s.plain.varTypes C.prog) (ds ++ gs)).all (· ≤ reachBytes) = true → X W args →
      W.ShapedOpen C.prog →
      Calls C.prog f args W fun e W' => ∃ v, e = .returned v ∧ s.post enc C.prog fn apart fresh handsOn again W args v W') :
    ReturnsInHanded a C os f .any (fun w args => (s.pre enc C.prog fn conds apart w args ∧ X w args) ∧ sizedMet enc C.prog fn (OpenSpec.ofChange s) apart w args) (s.post enc C.prog fn apart fresh handsOn again) := by
  refine returnsInHanded_of_calls own started noInit witness ?_
  intro w tape i _ hsh _ hok hpre _
  obtain ⟨_, _, _, fn', hfn', _, _, _, _, hval⟩ := hok
  obtain rfl : fn' = fn := Option.some.inj (hfn'.symm.trans hfn)
  obtain ⟨⟨⟨ds, gs, before, hw, hc⟩, hx⟩, hz⟩ := hpre
  refine (contract (w.forCall tape i) w.heap.size i.args ds gs before hval (DataW.Whole.of_heap (w' := w.forCall tape i) (by rfl) hw) hc (hz.weights hw) (hX _ _ _ (by rfl) hx) hsh).mono fun e W' ⟨v, he, hp⟩ => ?_
  subst he
  exact ChangeSpec.post_blind hp
end Go.Proofs.YtdjieapobodakaaGreatDoor.tied
end
