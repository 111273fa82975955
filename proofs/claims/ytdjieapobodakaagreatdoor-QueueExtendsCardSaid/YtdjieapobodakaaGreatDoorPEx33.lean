/- What is proved here: a queue that is new since a world, and what each call makes of it. -/
/- What is proved here: a queue beside cells that stay: what was received, what a law holds. -/
/- What is proved here: the law's 'awake' says yes. -/
import Derived.Test.YtdjieapobodakaaGreatDoorPEx32
import Derived.Test.YtdjieapobodakaaGreatDoorPEx29
import Derived.Deep.RegionHeld3
import Derived.Deep.DeepCutAuto
section
namespace Go.Proofs.YtdjieapobodakaaGreatDoor
open Go Go.RowKit Go.Maps Go.WideMaps

/-- Memory holds a plain queue, in blocks of colours, none older than w0. -/
structure QN (w0 w : World) (q : Nat) (Q : QM) (T : Nat) (S : QS) : Prop where
  at_ : ∃ V, QL w q V S ∧ QRel V Q
  ok : QOk Q T
  low : ∀ b, b < w0.heap.size → S.c b = 0
  bel : Below w0.heap.size w0 w
  env : Env w0
  h6 : 6 ≤ w0.heap.size
/-- .. and behind a call. -/
def QStep (w0 w : World) (q : Nat) (Q : QM) (T : Nat) (S : QS) (w' : World) : Prop := ∃ S', QN w0 w' q Q T S' ∧ QNext w w' S S'
section
variable {w0 w w' w2 : World} {q : Nat} {Q Q' : QM} {T T' : Nat} {S S' : QS}
theorem QN.later (h : QN w0 w q Q T S) (hb : Below w.heap.size w w') : QN w0 w' q Q T S ∧ QNext w w' S S := by
  obtain ⟨⟨V, h1, h2⟩, h3, h4, h5, h6, h7⟩ := h
  obtain ⟨a1, a2⟩ := h1.below hb
  exact ⟨⟨⟨V, a1, h2⟩, h3, h4, h5.trans (hb.mono h5.size), h6, h7⟩, a2⟩
theorem QN.up (h : QN w0 w q Q T S) (hT : T ≤ T') : QN w0 w q Q T' S := ⟨h.at_, h.ok.up hT, h.low, h.bel, h.env, h.h6⟩
theorem QN.next {V' : QV} (h : QN w0 w q Q T S) (h1 : QL w' q V' S') (h2 : QNext w w' S S') (h3 : QRel V' Q') (h4 : QOk Q' T') : QN w0 w' q Q' T' S' :=
  ⟨⟨V', h1, h3⟩, h4, fun b hb => (h2.1 b (Nat.lt_of_lt_of_le hb h.bel.size)).trans (h.low b hb), h.bel.trans (h2.below h.bel.size h.low), h.env, h.h6⟩
theorem QN.got {V' : QV} (h : QN w0 w q Q T S) (h1 : QGot w q V' S w') (h3 : QRel V' Q') (h4 : QOk Q' T') : QStep w0 w q Q' T' S w' := by
  obtain ⟨S', a, b⟩ := h1
  exact ⟨S', h.next a b h3 h4, b⟩
theorem QN.envw (h : QN w0 w q Q T S) : Env w ∧ 6 ≤ w.heap.size ∧ ∀ b, b < 6 → S.c b = 0 := ⟨h.env.below h.h6 h.bel, Nat.le_trans h.h6 h.bel.size, fun b hb => h.low b (Nat.lt_of_lt_of_le hb h.h6)⟩
/-- What New answers. -/
def NewSaid (w0 : World) (a : Att) (w : World) (e : Ending) (w' : World) : Prop :=
  (a.right = false ∧ e = .returned (.pointer none) ∧ Below w.heap.size w w') ∨ (a.right = true ∧ ∃ q : Nat, e = .returned (.pointer (some ⟨q, 0, none⟩)) ∧ Hid (Below w.heap.size w w' ∧ ∃ S, QN w0 w' q (newQ a) 0 S ∧ ∀ b, b < w.heap.size → S.c b = 0))
theorem QN.new (hE : Env w0) (h6 : 6 ≤ w0.heap.size) (hb : Below w0.heap.size w0 w) (a : Att) : Calls Tryz.prog 12 #[attV a] w (NewSaid w0 a w) := by
  refine (New_ql a w).mono ?_
  rintro e w' (h1 | ⟨h1, q, rfl, h2⟩)
  · exact .inl h1
  · obtain ⟨b1, S, s1, s2⟩ := h2.out
    exact .inr ⟨h1, q, rfl, Lib.hid ⟨b1, S, ⟨⟨_, s1, QRel.new a⟩, QOk.new h1, fun b hb2 => s2 b (Nat.lt_of_lt_of_le hb2 hb.size), hb.trans (b1.mono hb.size), hE, h6⟩, s2⟩⟩
theorem QN.send (h : QN w0 w q Q T S) (hT : T < 800000) (body group key : ByteArray) (delay : Int) :
    Calls Tryz.prog 18 #[.pointer (some ⟨q, 0, none⟩), .string body, .string group, .string key, .int .i64 delay] w fun e w' => e = twoE (sendA Q body group key delay) ∧ Hid (QStep w0 w q (sendQ Q body group key delay) (T + 1) S w') := by
  obtain ⟨V, h1, h2⟩ := h.at_
  obtain ⟨s1, s2, s3⟩ := h2.send h.ok body group key delay
  refine (Send_ql h1 (h2.canAdd h.ok hT) body group key delay).mono ?_
  rintro e w' ⟨rfl, hx⟩
  exact ⟨by rw [s1], Lib.hid (h.got hx.out s2 s3)⟩
theorem QN.ack (h : QN w0 w q Q T S) (hT : T < 800000) {t : ByteArray} (ht : t.size < 4294967281) :
    Calls Tryz.prog 26 #[.pointer (some ⟨q, 0, none⟩), .string t] w fun e w' => e = twoE (ackA Q t) ∧ Hid (QStep w0 w q (ackQ Q t) T S w') := by
  obtain ⟨V, h1, h2⟩ := h.at_
  obtain ⟨e1, e2, _⟩ := h.envw
  obtain ⟨s1, s2⟩ := h2.ack h.ok hT t
  refine (Ack_ql h1 (h2.fits h.ok hT) e1 e2 ht).mono ?_
  rintro e w' ⟨rfl, hx⟩
  exact ⟨by rw [s1], Lib.hid (h.got hx.out s2 (h.ok.ack t))⟩
theorem QN.ext (h : QN w0 w q Q T S) (hT : T < 800000) {t : ByteArray} (ht : t.size < 4294967281) (n : Int) :
    Calls Tryz.prog 28 #[.pointer (some ⟨q, 0, none⟩), .string t, .int .i64 n] w fun e w' => e = .returned (.int .i64 (extA Q t n)) ∧ Hid (QStep w0 w q (extQ Q t n) (T + 1) S w') := by
  obtain ⟨V, h1, h2⟩ := h.at_
  obtain ⟨e1, e2, _⟩ := h.envw
  obtain ⟨s1, s2⟩ := h2.ext h.ok hT t n
  refine (Extend_ql h1 (h2.fits h.ok hT) e1 e2 (by rw [h2.now]; exact h.ok.now) ht n).mono ?_
  rintro e w' ⟨rfl, hx⟩
  exact ⟨by rw [s1], Lib.hid (h.got hx.out s2 (h.ok.ext t n))⟩
theorem QN.purge (h : QN w0 w q Q T S) :
    Calls Tryz.prog 22 #[.pointer (some ⟨q, 0, none⟩)] w fun e w' => e = .returned (.int .i64 Q.L.length) ∧ Hid (QStep w0 w q (purgeQ Q) T S w') := by
  obtain ⟨V, h1, h2⟩ := h.at_
  refine (Purge_ql h1).mono ?_
  rintro e w' ⟨rfl, hx⟩
  exact ⟨by rw [h2.lens.1], Lib.hid (h.got hx.out h2.purge h.ok.purge)⟩
theorem QN.set (h : QN w0 w q Q T S) (a : Att) :
    Calls Tryz.prog 29 #[.pointer (some ⟨q, 0, none⟩), attV a] w fun e w' => e = .returned (.int .i64 (if setOk Q a then 0 else 1)) ∧ Hid (QStep w0 w q (setQ Q a) T S w') := by
  obtain ⟨V, h1, h2⟩ := h.at_
  refine (Set_ql h1 a).mono ?_
  rintro e w' ⟨rfl, hx⟩
  exact ⟨by rw [h2.setOk], Lib.hid (h.got hx.out (h2.set a) (h.ok.set a))⟩
theorem QN.attr (h : QN w0 w q Q T S) : Calls Tryz.prog 30 #[.pointer (some ⟨q, 0, none⟩)] w fun e w' => e = .returned (attV Q.A) ∧ Below w.heap.size w w' := by
  obtain ⟨V, h1, h2⟩ := h.at_
  rw [← h2.A]
  exact Attr_ql h1
theorem QN.clock (h : QN w0 w q Q T S) : Calls Tryz.prog 21 #[.pointer (some ⟨q, 0, none⟩)] w fun e w' => e = .returned (.int .i64 Q.now) ∧ w = w' := by
  obtain ⟨V, h1, h2⟩ := h.at_
  rw [← h2.now]
  exact Now_ql h1
theorem QN.ids (h : QN w0 w q Q T S) : Calls Tryz.prog 25 #[.pointer (some ⟨q, 0, none⟩)] w (Lan.RowSaid (Q.L.map Ms.id) w) := by
  obtain ⟨V, h1, h2⟩ := h.at_
  obtain ⟨fr, hM, _⟩ := h2.ms
  have e : V.M.map Mm.id = Q.L.map Ms.id := by rw [hM, List.map_map]; rfl
  rw [← e]
  refine Ids_any h1 ?_ ?_
  · rw [h2.lens.1]
    have := h.ok.len
    omega
  · rw [e]
    exact List.Pairwise.map _ (fun a b hab => hab) h.ok.ids
/-- What Receive answers. -/
def RecvE (w0 : World) (q : Nat) (Q : QM) (T : Nat) (S : QS) (n v : Int) (w : World) (e : Ending) (w' : World) : Prop :=
  ∃ A c k, e = .returned (.tuple #[.slice A k c, .int .i64 (if canRecv n v then 0 else 1)]) ∧ Hid (k = (recvA Q n v).length ∧ ∃ S', QN w0 w' q (recvQ Q n v) (T + 1) S' ∧ QNext w w' S S' ∧ w'.ownsRow w.heap.size 60 5 (.slice A k c) k ((recvA Q n v).flatMap tookM) ∧ ∀ g, (Value.slice A k c).ownBlock = some g → S'.c g = 0)
theorem QN.recv (h : QN w0 w q Q T S) (hT : T < 800000) (n v : Int) :
    Calls Tryz.prog 19 #[.pointer (some ⟨q, 0, none⟩), .int .i64 n, .int .i64 v] w (RecvE w0 q Q T S n v w) := by
  obtain ⟨V, h1, h2⟩ := h.at_
  obtain ⟨e1, e2, e3⟩ := h.envw
  have hA := Att.right_parts h.ok.right
  cases hc : canRecv n v with
  | false =>
    refine (Recv_no w q hc).mono ?_
    rintro e w' ⟨rfl, rfl⟩
    refine ⟨none, 0, 0, by rw [hc]; rfl, Lib.hid ⟨?_, S, ?_, QNext.refl _ _, ?_, fun g hg => by simp [Value.ownBlock] at hg⟩⟩
    · unfold recvA; rw [hc]; rfl
    · unfold recvQ
      rw [hc]
      exact h.up (Nat.le_succ T)
    · unfold recvA
      rw [hc]
      exact World.ownsRow_nil _ _ _ _
  | true =>
    obtain ⟨ms, m1, m2, m3, m4, m5, m6⟩ := h2.recv h.ok hc
    have hc' := hc
    unfold canRecv within at hc'
    simp only [Bool.and_eq_true, decide_eq_true_eq] at hc'
    have ha := h2.ahead h.ok
    have hl : (aheadL Q).length ≤ Q.L.length := (ahead_sub Q).length_le
    have hlen := h.ok.len
    have hn : ((n.toNat : Nat) : Int) = n := by omega
    have hcall := Recv_ok h1 (h2.few h.ok hT) (by have := h2.lens.2.2.1; omega) e1 e2 e3 (fun id hid => by
        rw [ha] at hid
        obtain ⟨x, hx, rfl⟩ := List.mem_map.1 hid
        obtain ⟨m, hm, hm2, _⟩ := h2.mem ((ahead_sub Q).subset hx)
        exact ⟨m, hm, hm2⟩) (by rw [ha, List.length_map]; omega) (fun m hm => by
        obtain ⟨x, hx, _, hcx, _⟩ := h2.back hm
        have := h.ok.cnt x hx
        omega) (by rw [h2.now]; exact h.ok.now) (by rw [h2.A]; omega) (n := n.toNat) (by omega) (by omega) (v := v) ⟨by omega, by omega⟩ m1 m2 m3 (u := Q.now + visOf Q v) (by rw [h2.now, h2.A]; rfl)
    rw [hn] at hcall
    refine hcall.mono ?_
    rintro e w' ⟨A, c, rfl, hx⟩
    obtain ⟨S', r1, r2, r3, r4⟩ := hx.out
    rw [m5] at r3
    exact ⟨A, c, ms.length, by rw [hc]; rfl, Lib.hid ⟨m4, S', h.next r1 r2 m6 (h.ok.recv n v), r2, r3, r4⟩⟩
/-- What Tick answers. -/
def TickE (w0 : World) (q : Nat) (Q : QM) (T : Nat) (S : QS) (now : Int) (w : World) (e : Ending) (w' : World) : Prop :=
  ∃ A c j A2 c2 n, e = .returned (.tuple #[.slice A j c, .slice A2 n c2]) ∧ Hid (j = (tickD Q now).length ∧ n = (tickG Q now).length ∧ ∃ S', QN w0 w' q (tickQ Q now) T S' ∧ QNext w w' S S' ∧ w'.ownsRow w.heap.size 70 4 (.slice A j c) j ((tickD Q now).flatMap letM) ∧ w'.ownsRow w.heap.size 3 1 (.slice A2 n c2) n ((tickG Q now).map (Value.int .i64)) ∧ (∀ g, (Value.slice A j c).ownBlock = some g → S'.c g = 0) ∧ ∀ g, (Value.slice A2 n c2).ownBlock = some g → S'.c g = 0)
theorem QN.tick (h : QN w0 w q Q T S) (hT : T < 800000) (now : Int) :
    Calls Tryz.prog 20 #[.pointer (some ⟨q, 0, none⟩), .int .i64 now] w (TickE w0 q Q T S now w) := by
  obtain ⟨V, h1, h2⟩ := h.at_
  have hA := Att.right_parts h.ok.right
  have hlast := h.ok.last
  cases hc : canTick Q now with
  | false =>
    refine (Tick_no h1 (by rw [h2.now]; exact hc)).mono ?_
    rintro e w' ⟨rfl, rfl⟩
    refine ⟨none, 0, 0, none, 0, 0, rfl, Lib.hid ⟨?_, ?_, S, ?_, QNext.refl _ _, ?_, ?_, fun g hg => by simp [Value.ownBlock] at hg, fun g hg => by simp [Value.ownBlock] at hg⟩⟩
    · unfold tickD; rw [hc]; rfl
    · unfold tickG; rw [hc]; rfl
    · unfold tickQ
      rw [hc]
      exact h
    · unfold tickD
      rw [hc]
      exact World.ownsRow_nil _ _ _ _
    · unfold tickG
      rw [hc]
      exact World.ownsRow_nil _ _ _ _
  | true =>
    obtain ⟨ys, ms, m1, m2, m3, m4, m5, m6, m7, m8⟩ := h2.tick h.ok h1.les.1 hc
    have hid : ∀ x ∈ Q.L, 0 ≤ x.id ∧ x.id ≤ 900000 := fun x hx => by
      have := h.ok.idb x hx
      omega
    refine (Tick_ok h1 (h2.few h.ok hT) (by rw [h2.now]; exact hc) (by rw [h2.now]; exact h.ok.now.1) (by rw [h2.A]; omega) m1 m2 (fun y hy => by
        obtain ⟨x, hx, _, rfl⟩ := mem_leases.1 (h2.r1.mem_iff.1 hy)
        exact hid x hx) (fun y hy => by
        rw [h2.r2] at hy
        obtain ⟨x, hx, rfl⟩ := List.mem_map.1 hy
        exact hid x hx) m3 m4 (fun m hm => by
        obtain ⟨x, hx, _, hcx, _⟩ := h2.back hm
        have := h.ok.cnt x hx
        omega)).mono ?_
    rintro e w' ⟨A, c, j, A2, c2, n, rfl, hx⟩
    obtain ⟨hj, hn, S', r1, r2, r3, r4, r5, r6⟩ := hx.out
    rw [m5] at r3
    rw [m7] at r4 hn
    exact ⟨A, c, j, A2, c2, n, rfl, Lib.hid ⟨hj.trans m6, hn, S', h.next r1 r2 m8 (h.ok.tick now), r2, r3, r4, r5, r6⟩⟩
end
end Go.Proofs.YtdjieapobodakaaGreatDoor
end

section
namespace Go.Proofs.YtdjieapobodakaaGreatDoor
open Go Go.RowKit Go.Maps Go.WideMaps

/-- A cell: its block, its place, what it holds. -/
abbrev Cel := Nat × Nat × Value
def Cells (S : QS) (w : World) (C : List Cel) : Prop := ∀ x ∈ C, w.cell? ⟨x.1, x.2.1, none⟩ = some x.2.2 ∧ x.1 < w.heap.size ∧ S.c x.1 = 0
def QW (w0 w : World) (q : Nat) (Q : QM) (T : Nat) (C : List Cel) : Prop := ∃ S, QN w0 w q Q T S ∧ Cells S w C
section
variable {w0 w w' w2 : World} {q : Nat} {Q Q' : QM} {T T' : Nat} {S S' : QS} {C C' : List Cel}
theorem Cells.next (h : Cells S w C) (hn : QNext w w' S S') : Cells S' w' C := fun x hx => by
  obtain ⟨h1, h2, h3⟩ := h x hx
  exact ⟨(hn.2.cell (p := ⟨x.1, x.2.1, none⟩) h2 (fun hc => hc h3)).trans h1, Nat.lt_of_lt_of_le h2 hn.size, (hn.1 x.1 h2).trans h3⟩
theorem Cells.app (h : Cells S w C) (h2 : Cells S w C') : Cells S w (C ++ C') := fun x hx => by
  rcases List.mem_append.1 hx with hx | hx
  · exact h x hx
  · exact h2 x hx
theorem QW.cell (h : QW w0 w q Q T C) {b j : Nat} {v : Value} (hm : (b, j, v) ∈ C) : w.cell? ⟨b, j, none⟩ = some v := by
  obtain ⟨S, _, hc⟩ := h
  exact (hc _ hm).1
theorem QW.less (h : QW w0 w q Q T C) (hs : ∀ x ∈ C', x ∈ C) : QW w0 w q Q T C' := by
  obtain ⟨S, h1, hc⟩ := h
  exact ⟨S, h1, fun x hx => hc x (hs x hx)⟩
theorem QW.later (h : QW w0 w q Q T C) (hb : Below w.heap.size w w') : QW w0 w' q Q T C := by
  obtain ⟨S, h1, hc⟩ := h
  obtain ⟨a, b⟩ := h1.later hb
  exact ⟨S, a, hc.next b⟩
theorem QW.bel (h : QW w0 w q Q T C) : Below w0.heap.size w0 w := h.elim fun _ hx => hx.1.bel
/-- A block that is new joins. -/
theorem QW.box (h : QW w0 w q Q T C) (cs : Array Value) (t : TypeId) {j : Nat} {v : Value} (hj : (w.alloc (.cells cs t)).cell? ⟨w.heap.size, j, none⟩ = some v) : QW w0 (w.alloc (.cells cs t)) q Q T ((w.heap.size, j, v) :: C) := by
  obtain ⟨S, h1, hc⟩ := h
  obtain ⟨a, b⟩ := h1.later ((Below.refl w.heap.size w).alloc (Nat.le_refl _) (.cells cs t))
  refine ⟨S, a, fun x hx => ?_⟩
  rcases List.mem_cons.1 hx with rfl | hx
  · obtain ⟨V, hq, _⟩ := h1.at_
    exact ⟨hj, by simp, hq.new _ (Nat.le_refl _)⟩
  · exact hc.next b x hx
theorem QW.got (h : QW w0 w q Q T C) (hs : ∀ S, QN w0 w q Q T S → Cells S w C → ∃ S', QN w0 w' q Q' T' S' ∧ QNext w w' S S') : QW w0 w' q Q' T' C := by
  obtain ⟨S, h1, hc⟩ := h
  obtain ⟨S', a, b⟩ := hs S h1 hc
  exact ⟨S', a, hc.next b⟩
theorem QW.new (hE : Env w0) (h6 : 6 ≤ w0.heap.size) (hb : Below w0.heap.size w0 w) (a : Att) : Calls Tryz.prog 12 #[attV a] w fun e w' => (a.right = false ∧ e = .returned (.pointer none) ∧ Below w.heap.size w w') ∨ (a.right = true ∧ ∃ q : Nat, e = .returned (.pointer (some ⟨q, 0, none⟩)) ∧ Hid (Below w.heap.size w w' ∧ QW w0 w' q (newQ a) 0 [])) := by
  refine (QN.new hE h6 hb a).mono ?_
  rintro e w' (h1 | ⟨h1, q, rfl, h2⟩)
  · exact .inl h1
  · obtain ⟨b1, S, s1, _⟩ := h2.out
    exact .inr ⟨h1, q, rfl, Lib.hid ⟨b1, S, s1, fun x hx => by cases hx⟩⟩
theorem QW.send (h : QW w0 w q Q T C) (hT : T < 800000) (body group key : ByteArray) (delay : Int) :
    Calls Tryz.prog 18 #[.pointer (some ⟨q, 0, none⟩), .string body, .string group, .string key, .int .i64 delay] w fun e w' => e = twoE (sendA Q body group key delay) ∧ Hid (QW w0 w' q (sendQ Q body group key delay) (T + 1) C) := by
  obtain ⟨S, h1, hc⟩ := h
  refine (h1.send hT body group key delay).mono ?_
  rintro e w' ⟨rfl, hx⟩
  obtain ⟨S', a, b⟩ := hx.out
  exact ⟨rfl, Lib.hid ⟨S', a, hc.next b⟩⟩
theorem QW.ack (h : QW w0 w q Q T C) (hT : T < 800000) {t : ByteArray} (ht : t.size < 4294967281) :
    Calls Tryz.prog 26 #[.pointer (some ⟨q, 0, none⟩), .string t] w fun e w' => e = twoE (ackA Q t) ∧ Hid (QW w0 w' q (ackQ Q t) T C) := by
  obtain ⟨S, h1, hc⟩ := h
  refine (h1.ack hT ht).mono ?_
  rintro e w' ⟨rfl, hx⟩
  obtain ⟨S', a, b⟩ := hx.out
  exact ⟨rfl, Lib.hid ⟨S', a, hc.next b⟩⟩
theorem QW.ext (h : QW w0 w q Q T C) (hT : T < 800000) {t : ByteArray} (ht : t.size < 4294967281) (n : Int) :
    Calls Tryz.prog 28 #[.pointer (some ⟨q, 0, none⟩), .string t, .int .i64 n] w fun e w' => e = .returned (.int .i64 (extA Q t n)) ∧ Hid (QW w0 w' q (extQ Q t n) (T + 1) C) := by
  obtain ⟨S, h1, hc⟩ := h
  refine (h1.ext hT ht n).mono ?_
  rintro e w' ⟨rfl, hx⟩
  obtain ⟨S', a, b⟩ := hx.out
  exact ⟨rfl, Lib.hid ⟨S', a, hc.next b⟩⟩
theorem QW.set (h : QW w0 w q Q T C) (a : Att) :
    Calls Tryz.prog 29 #[.pointer (some ⟨q, 0, none⟩), attV a] w fun e w' => e = .returned (.int .i64 (if setOk Q a then 0 else 1)) ∧ Hid (QW w0 w' q (setQ Q a) T C) := by
  obtain ⟨S, h1, hc⟩ := h
  refine (h1.set a).mono ?_
  rintro e w' ⟨rfl, hx⟩
  obtain ⟨S', a, b⟩ := hx.out
  exact ⟨rfl, Lib.hid ⟨S', a, hc.next b⟩⟩
theorem QW.purge (h : QW w0 w q Q T C) :
    Calls Tryz.prog 22 #[.pointer (some ⟨q, 0, none⟩)] w fun e w' => e = .returned (.int .i64 Q.L.length) ∧ Hid (QW w0 w' q (purgeQ Q) T C) := by
  obtain ⟨S, h1, hc⟩ := h
  refine h1.purge.mono ?_
  rintro e w' ⟨rfl, hx⟩
  obtain ⟨S', a, b⟩ := hx.out
  exact ⟨rfl, Lib.hid ⟨S', a, hc.next b⟩⟩
/-- Cells of a row. -/
def rowC (b : Nat) (xs : List Value) : List Cel := (List.range xs.length).map fun j => (b, j, xs.getD j (.bool false))
theorem mem_rowC {b : Nat} {xs : List Value} {x : Cel} : x ∈ rowC b xs ↔ x.1 = b ∧ xs[x.2.1]? = some x.2.2 := by
  unfold rowC
  rw [List.mem_map]
  constructor
  · rintro ⟨j, hj, rfl⟩
    rw [List.mem_range] at hj
    exact ⟨rfl, by rw [List.getElem?_eq_getElem hj]; simp [List.getD, List.getElem?_eq_getElem hj]⟩
  · rintro ⟨h1, h2⟩
    obtain ⟨hj, h3⟩ := List.getElem?_eq_some_iff.1 h2
    exact ⟨x.2.1, List.mem_range.2 hj, by obtain ⟨a, b', c⟩ := x; simp [List.getD] at *; simp [h1, h2]⟩
/-- A row that a call has made, as cells. -/
theorem row_cells {base e size k c : Nat} {A : Option Addr} {xs : List Value} (ho : w'.ownsRow base e size (.slice A k c) k xs) (hk : 0 < k) (hl : xs.length = k * size) (hcol : ∀ g, (Value.slice A k c).ownBlock = some g → S'.c g = 0) :
    ∃ b, A = some ⟨b, 0, none⟩ ∧ k ≤ c ∧ c ≤ 9223372036854775807 ∧ Cells S' w' (rowC b xs) := by
  obtain ⟨b, cap, e0, hbl, _⟩ := ho.form hk
  obtain ⟨rfl, rfl⟩ : A = some ⟨b, 0, none⟩ ∧ c = cap := by simpa using e0
  have hcl : k ≤ c ∧ c ≤ maxLen := by
    rcases ho.2 with ⟨e1, _⟩ | ⟨g', cap', cur', e1, _, _, h1, h2, _⟩
    · cases e1
    · cases e1
      exact ⟨h1, h2⟩
  refine ⟨b, rfl, hcl.1, by have := hcl.2; unfold maxLen at this; omega, fun x hx => ?_⟩
  obtain ⟨h1, h2⟩ := mem_rowC.1 hx
  obtain ⟨x1, x2, x3⟩ := x
  dsimp only at h1 h2 ⊢
  subst h1
  obtain ⟨hj, _⟩ := List.getElem?_eq_some_iff.1 h2
  exact ⟨(ho.cellAt x2 (by omega)).trans h2, (ho.lt x1 rfl).2, hcol x1 rfl⟩
theorem tookM_len : ∀ L : List Ms, (L.flatMap tookM).length = L.length * 5
  | [] => rfl
  | x :: r => by
    rw [List.flatMap_cons, List.length_append, tookM_len r, List.length_cons]
    show 5 + _ = _
    omega
/-- Receive: nothing, or a row. -/
theorem QW.recv (h : QW w0 w q Q T C) (hT : T < 800000) (n v : Int) :
    Calls Tryz.prog 19 #[.pointer (some ⟨q, 0, none⟩), .int .i64 n, .int .i64 v] w fun e w' => ∃ A c k, e = .returned (.tuple #[.slice A k c, .int .i64 (if canRecv n v then 0 else 1)]) ∧ k = (recvA Q n v).length ∧
      ((k = 0 ∧ Hid (QW w0 w' q (recvQ Q n v) (T + 1) C)) ∨ ∃ b, A = some ⟨b, 0, none⟩ ∧ k ≤ c ∧ c ≤ 9223372036854775807 ∧ Hid (w.heap.size ≤ b ∧ QW w0 w' q (recvQ Q n v) (T + 1) (rowC b ((recvA Q n v).flatMap tookM) ++ C))) := by
  obtain ⟨S, h1, hc⟩ := h
  refine (h1.recv hT n v).mono ?_
  rintro e w' ⟨A, c, k, rfl, hx⟩
  obtain ⟨hk, S', a, b, ho, hcol⟩ := hx.out
  refine ⟨A, c, k, rfl, hk, ?_⟩
  by_cases h0 : k = 0
  · exact .inl ⟨h0, Lib.hid ⟨S', a, hc.next b⟩⟩
  · obtain ⟨g, rfl, k1, k2, k3⟩ := row_cells ho (by omega) (by rw [tookM_len, hk]) hcol
    exact .inr ⟨g, rfl, k1, k2, Lib.hid ⟨(ho.lt g rfl).1, S', a, k3.app (hc.next b)⟩⟩
/-- Tick, whose letters nobody reads. -/
theorem QW.tick (h : QW w0 w q Q T C) (hT : T < 800000) (now : Int) :
    Calls Tryz.prog 20 #[.pointer (some ⟨q, 0, none⟩), .int .i64 now] w fun e w' => ∃ A c j A2 c2 n, e = .returned (.tuple #[.slice A j c, .slice A2 n c2]) ∧ j = (tickD Q now).length ∧ n = (tickG Q now).length ∧
      ((n = 0 ∧ Hid (QW w0 w' q (tickQ Q now) T C)) ∨ ∃ b, A2 = some ⟨b, 0, none⟩ ∧ n ≤ c2 ∧ c2 ≤ 9223372036854775807 ∧ Hid (QW w0 w' q (tickQ Q now) T (rowC b ((tickG Q now).map (Value.int .i64)) ++ C))) := by
  obtain ⟨S, h1, hc⟩ := h
  refine (h1.tick hT now).mono ?_
  rintro e w' ⟨A, c, j, A2, c2, n, rfl, hx⟩
  obtain ⟨hj, hn, S', a, b, _, ho, _, hcol⟩ := hx.out
  refine ⟨A, c, j, A2, c2, n, rfl, hj, hn, ?_⟩
  by_cases h0 : n = 0
  · exact .inl ⟨h0, Lib.hid ⟨S', a, hc.next b⟩⟩
  · obtain ⟨g, rfl, k1, k2, k3⟩ := row_cells ho (by omega) (by rw [List.length_map, hn, Nat.mul_one]) hcol
    exact .inr ⟨g, rfl, k1, k2, Lib.hid ⟨S', a, k3.app (hc.next b)⟩⟩
theorem QW.ids (h : QW w0 w q Q T C) :
    Calls Tryz.prog 25 #[.pointer (some ⟨q, 0, none⟩)] w fun e w' => ∃ A c, e = .returned (.slice A Q.L.length c) ∧ Hid (w'.ownsRow w.heap.size 3 1 (.slice A Q.L.length c) Q.L.length ((Q.L.map Ms.id).map (Value.int .i64)) ∧ Below w.heap.size w w' ∧ QW w0 w' q Q T C) := by
  have hq := h
  obtain ⟨S, h1, hc⟩ := h
  refine h1.ids.mono ?_
  rintro e w' ⟨A, c, rfl, ho, hb⟩
  rw [List.length_map] at ho
  rw [List.length_map]
  exact ⟨A, c, rfl, Lib.hid ⟨ho, hb, hq.later hb⟩⟩
end
end Go.Proofs.YtdjieapobodakaaGreatDoor
end

section
namespace Go.Proofs.YtdjieapobodakaaGreatDoor
open Go Go.RowKit Go.Maps Go.WideMaps

def awA : Att := ⟨5, 100, 0, 0, 0, ⟨#[]⟩, false⟩
def strX : ByteArray := ⟨#[120]⟩
def str0 : ByteArray := ⟨#[]⟩
def rc11 : ByteArray := ⟨#[49, 46, 49]⟩
def rc12 : ByteArray := ⟨#[49, 46, 50]⟩
def awQ (count at_ : Int) (lsd : Bool) (now : Int) : QM := ⟨awA, now, 1, [⟨1, 0, count, at_, lsd, strX, str0⟩], []⟩
theorem aw0 : awA.right = true := by kernel_rfl
theorem aw1 : sendA (newQ awA) strX str0 str0 (-1) = (1, 0) := by kernel_rfl
theorem aw2 : sendQ (newQ awA) strX str0 str0 (-1) = awQ 0 0 false 0 := by kernel_rfl
theorem aw3 : recvA (awQ 0 0 false 0) 1 0 = [⟨1, 0, 1, 5, true, strX, str0⟩] := by kernel_rfl
theorem aw4 : recvQ (awQ 0 0 false 0) 1 0 = awQ 1 5 true 0 := by kernel_rfl
theorem aw5 : tickQ (awQ 1 5 true 0) 5 = awQ 1 5 false 5 := by kernel_rfl
theorem aw6 : recvA (awQ 1 5 false 5) 3 0 = [⟨1, 0, 2, 10, true, strX, str0⟩] := by kernel_rfl
theorem aw7 : recvQ (awQ 1 5 false 5) 3 0 = awQ 2 10 true 5 := by kernel_rfl
theorem aw8 : ackA (awQ 2 10 true 5) rc11 = (0, 8) := by kernel_rfl
theorem aw9 : ackQ (awQ 2 10 true 5) rc11 = awQ 2 10 true 5 := by kernel_rfl
theorem aw10 : ackA (awQ 2 10 true 5) rc12 = (1, 0) := by kernel_rfl
theorem aw11 : (ackQ (awQ 2 10 true 5) rc12).L = [] := by kernel_rfl
theorem aw12 : rcpt ⟨1, 0, 2, 10, true, strX, str0⟩ = rc12 := by kernel_rfl
theorem aw13 : canRecv 1 0 = true ∧ canRecv 3 0 = true := ⟨by kernel_rfl, by kernel_rfl⟩
end Go.Proofs.YtdjieapobodakaaGreatDoor
end
