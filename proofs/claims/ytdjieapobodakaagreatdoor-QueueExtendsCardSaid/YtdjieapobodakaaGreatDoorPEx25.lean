/- What is proved here: the parts' calls, under a queue. -/
/- What is proved here: a message is removed; one comes. -/
/- What is proved here: which message is leased with a receipt. -/
import Derived.Test.YtdjieapobodakaaGreatDoorPEx24
import Derived.Test.YtdjieapobodakaaGreatDoorPEx7
import Derived.Test.YtdjieapobodakaaGreatDoorPEx9
import Derived.Deep.AppendLies
import Derived.Outline
import Derived.BigRegion
import Derived.Test.YtdjieapobodakaaGreatDoorPEx23
import Derived.Lib.AtoiErrMem
section
namespace Go.Proofs.YtdjieapobodakaaGreatDoor
open Go Go.RowKit Go.Maps Go.WideMaps

section
variable {w w' : World} {q : Nat} {V : QV} {S : QS}
/-- What a call leaves: a queue's parts, and what is not the queue's as it was. -/
def QGot (w : World) (q : Nat) (V : QV) (S : QS) (w' : World) : Prop := ∃ S', QL w' q V S' ∧ QNext w w' S S'
theorem QGot.of {V' : QV} {S' : QS} (h : QL w' q V' S' ∧ QNext w w' S S') : QGot w q V' S w' := ⟨S', h⟩
theorem QL.lDrop (h : QL w q V S) (hN : V.N < 900000) {k : Int} (hk : Lan.wfk k) :
    Calls Tryz.prog 85 #[.pointer (some ⟨S.l, 0, none⟩), .int .i64 k] w fun e w' => e = .returned (.bool (Lan.at_ V.Lt k).isSome) ∧ Hid (QGot w q { V with Lt := Lan.dropT V.Lt k } S w') :=
  (Lan.Drop_any h.lan hN hk).mono fun _ _ ⟨he, h1, h2⟩ => ⟨he, Lib.hid (QGot.of (h.lane0 h1 h2))⟩
theorem QL.lAdd (h : QL w q V S) (hN : V.N < 900000) {s : ByteArray} (hs : s.size ≤ maxLen) {k : Int} (hk : Lan.wfk k) (hx : Lan.at_ V.Lt k = none) (hL : V.Lt.length < 900000) :
    Calls Tryz.prog 66 #[.pointer (some ⟨S.l, 0, none⟩), .string s, .int .i64 k] w fun e w' => e = .returned (.bool true) ∧ Hid (QGot w q { V with Lt := V.Lt ++ [⟨s, k, V.N + 1⟩], N := V.N + 1 } S w') :=
  (Lan.Add_new h.lan hN hs hk hx hL).mono fun _ _ ⟨he, h1, h2⟩ => ⟨he, Lib.hid (QGot.of (h.lane h1 h2))⟩
theorem QL.lGroup (h : QL w q V S) {k : Int} (hk : Lan.wfk k) :
    Calls Tryz.prog 69 #[.pointer (some ⟨S.l, 0, none⟩), .int .i64 k] w fun e w' => e = Lan.groupE (Lan.at_ V.Lt k) ∧ Hid (QL w' q V S ∧ QNext w w' S S ∧ Below w.heap.size w w') :=
  (Lan.Group_any h.lan hk).mono fun _ _ ⟨he, hb⟩ => ⟨he, Lib.hid ⟨(h.below hb).1, (h.below hb).2, hb⟩⟩
theorem QL.eDrop (h : QL w q V S) (hn : V.R1.length < 900000) {k : Int} (hk : Tim.wfk k) :
    Calls Tryz.prog 58 #[.pointer (some ⟨S.t1, 0, none⟩), .int .i64 k] w fun e w' => e = .returned (.bool (decide ((Tim.dropR V.R1 k).length < V.R1.length))) ∧ Hid (QGot w q { V with R1 := Tim.dropR V.R1 k } S w') :=
  (Tim.Drop_any h.les hn k hk).mono fun _ _ ⟨he, h1, h2⟩ => ⟨he, Lib.hid (QGot.of (h.lease h1 h2))⟩
theorem QL.sDrop (h : QL w q V S) (hn : V.R2.length < 900000) {k : Int} (hk : Tim.wfk k) :
    Calls Tryz.prog 58 #[.pointer (some ⟨S.t2, 0, none⟩), .int .i64 k] w fun e w' => e = .returned (.bool (decide ((Tim.dropR V.R2 k).length < V.R2.length))) ∧ Hid (QGot w q { V with R2 := Tim.dropR V.R2 k } S w') :=
  (Tim.Drop_any h.snt hn k hk).mono fun _ _ ⟨he, h1, h2⟩ => ⟨he, Lib.hid (QGot.of (h.sent h1 h2))⟩
theorem QL.eSet (h : QL w q V S) (hn : V.R1.length < 900000) (x : Tim.It) (hk : Tim.wfk x.1) :
    Calls Tryz.prog 57 #[.pointer (some ⟨S.t1, 0, none⟩), .int .i64 x.1, .int .i64 x.2] w fun e w' => e = .returned (.tuple #[]) ∧ Hid (QGot w q { V with R1 := Tim.setR V.R1 x } S w') :=
  (Tim.Set_any h.les hn x hk).mono fun _ _ ⟨he, h1, h2⟩ => ⟨he, Lib.hid (QGot.of (h.lease h1 h2))⟩
theorem QL.sSet (h : QL w q V S) (hn : V.R2.length < 900000) (x : Tim.It) (hk : Tim.wfk x.1) :
    Calls Tryz.prog 57 #[.pointer (some ⟨S.t2, 0, none⟩), .int .i64 x.1, .int .i64 x.2] w fun e w' => e = .returned (.tuple #[]) ∧ Hid (QGot w q { V with R2 := Tim.setR V.R2 x } S w') :=
  (Tim.Set_any h.snt hn x hk).mono fun _ _ ⟨he, h1, h2⟩ => ⟨he, Lib.hid (QGot.of (h.sent h1 h2))⟩
theorem QL.eAt (h : QL w q V S) (k : Int) (hk : Tim.wfk k) :
    Calls Tryz.prog 56 #[.pointer (some ⟨S.t1, 0, none⟩), .int .i64 k] w fun e w' => Tim.atE V.R1 k e ∧ w = w' := Tim.At_any h.les k hk
/-- What Due takes out. -/
theorem QL.eDue (h : QL w q V S) (hn : V.R1.length < 900000) (now : Int) :
    Calls Tryz.prog 71 #[.pointer (some ⟨S.t1, 0, none⟩), .int .i64 now] w fun e w' => ∃ v, e = .returned v ∧ Hid (w'.ownsRow w.heap.size 130 2 v (Tim.dueN V.R1 now) (Tim.flat (V.R1.take (Tim.dueN V.R1 now))) ∧ QL w' q { V with R1 := V.R1.drop (Tim.dueN V.R1 now) } S ∧ QNext w w' S S) :=
  (Tim.Due_any h.les hn now).mono fun _ _ ⟨v, he, ho, h1, h2⟩ => ⟨v, he, Lib.hid ⟨ho, h.lease0 h1 h2⟩⟩
theorem QL.sDue (h : QL w q V S) (hn : V.R2.length < 900000) (now : Int) :
    Calls Tryz.prog 71 #[.pointer (some ⟨S.t2, 0, none⟩), .int .i64 now] w fun e w' => ∃ v, e = .returned v ∧ Hid (w'.ownsRow w.heap.size 130 2 v (Tim.dueN V.R2 now) (Tim.flat (V.R2.take (Tim.dueN V.R2 now))) ∧ QL w' q { V with R2 := V.R2.drop (Tim.dueN V.R2 now) } S ∧ QNext w w' S S) :=
  (Tim.Due_any h.snt hn now).mono fun _ _ ⟨v, he, ho, h1, h2⟩ => ⟨v, he, Lib.hid ⟨ho, h.sent0 h1 h2⟩⟩
theorem QL.kGet (h : QL w q V S) {s : ByteArray} (hs : s.size ≤ maxLen) :
    Calls Tryz.prog 38 #[.pointer (some ⟨S.k, 0, none⟩), .string s] w fun e w' => e = Led.getE (Led.findE V.K s) ∧ Hid (QL w' q V S ∧ QNext w w' S S ∧ Below w.heap.size w w') :=
  (Led.Get_any h.key hs).mono fun _ _ ⟨he, hb⟩ => ⟨he, Lib.hid ⟨(h.below hb).1, (h.below hb).2, hb⟩⟩
theorem QL.kPut (h : QL w q V S) (hK : V.K.length < 900000) {s : ByteArray} (hs : s.size ≤ maxLen) (n t : Int) :
    Calls Tryz.prog 39 #[.pointer (some ⟨S.k, 0, none⟩), .string s, .int .i64 n, .int .i64 t] w fun e w' => e = .returned (.int .i64 (Led.putA 4096 V.K s)) ∧ Hid (QGot w q { V with K := Led.putR 4096 V.K ⟨s, .int .i64 n, t⟩ } S w') :=
  (Led.Put_any h.key hK (x := ⟨s, .int .i64 n, t⟩) hs ⟨n, rfl⟩).mono fun _ _ ⟨he, hx⟩ => ⟨he, Lib.hid (QGot.of (h.keys hx.out.1 hx.out.2))⟩
end
end Go.Proofs.YtdjieapobodakaaGreatDoor
end

section
namespace Go.Proofs.YtdjieapobodakaaGreatDoor
open Go Go.RowKit Go.Maps Go.WideMaps

def rmV (V : QV) (k : Int) : QV := { V with M := dropM V.M k, Lt := Lan.dropT V.Lt k, R1 := Tim.dropR V.R1 k, R2 := Tim.dropR V.R2 k }
/-- Parts that a call may go on with. -/
structure Few (V : QV) : Prop where
  n : V.N < 900000
  m : V.M.length < 900000
  l : V.Lt.length < 900000
  r1 : V.R1.length < 900000
  r2 : V.R2.length < 900000
  k : V.K.length < 900000
section
variable {w w' : World} {q : Nat} {V : QV} {S : QS}
set_option maxHeartbeats 800000 in
set_option maxRecDepth 100000 in
theorem remove_any (h : QL w q V S) (hf : Few V) {k : Int} (hk : Lan.wfk k) :
    Calls Tryz.prog 55 #[.pointer (some ⟨q, 0, none⟩), .int .i64 k] w fun e w' => e = .returned (.tuple #[]) ∧ Hid (QGot w q (rmV V k) S w') := by
  obtain ⟨w1, hdel, h1, hN1⟩ := h.del hk 0
  obtain ⟨c0, c1, c2, c3, c4, c5, c6, c7, c8, c9, c10, c11, c12, c13⟩ := h.cells
  obtain ⟨S1, hS1⟩ : ∃ S1, S1 = { S with f := delV S.f (.int .i64 k) } := ⟨_, rfl⟩
  rw [← hS1] at h1 hN1
  obtain ⟨d0, d1, d2, d3, d4, d5, d6, d7, d8, d9, d10, d11, d12, d13⟩ := h1.cells
  have H1 : Hid (Calls Tryz.prog 85 #[.pointer (some ⟨S1.l, 0, none⟩), .int .i64 k] w1 fun e w2 => e = .returned (.bool (Lan.at_ V.Lt k).isSome) ∧ ∃ t1, w2.cell? ⟨q, 11, none⟩ = some (.pointer (some ⟨t1, 0, none⟩)) ∧
      Hid (Calls Tryz.prog 58 #[.pointer (some ⟨t1, 0, none⟩), .int .i64 k] w2 fun e w3 => ∃ b t2, e = .returned (.bool b) ∧ w3.cell? ⟨q, 12, none⟩ = some (.pointer (some ⟨t2, 0, none⟩)) ∧
      Hid (Calls Tryz.prog 58 #[.pointer (some ⟨t2, 0, none⟩), .int .i64 k] w3 fun e w4 => ∃ b, e = .returned (.bool b) ∧ Hid (QGot w q (rmV V k) S w4)))) := Lib.hid (by
    refine (h1.lDrop hf.n hk).mono ?_
    rintro e w2 ⟨rfl, H2⟩
    obtain ⟨S2, h2, hN2⟩ := H2.out
    refine ⟨rfl, S2.t1, h2.cells.2.2.2.2.2.2.2.2.2.2.2.1, Lib.hid ?_⟩
    refine (h2.eDrop hf.r1 (k := k) hk).mono ?_
    rintro e w3 ⟨rfl, H3⟩
    obtain ⟨S3, h3, hN3⟩ := H3.out
    refine ⟨_, S3.t2, rfl, h3.cells.2.2.2.2.2.2.2.2.2.2.2.2.1, Lib.hid ?_⟩
    refine (h3.sDrop hf.r2 (k := k) hk).mono ?_
    rintro e w4 ⟨rfl, H4⟩
    obtain ⟨S4, h4, hN4⟩ := H4.out
    exact ⟨_, rfl, Lib.hid ⟨S4, h4, hN1.trans (hN2.trans (hN3.trans hN4))⟩⟩)
  have HD := Lib.hid hdel
  clear h h1 hN1 hS1 hf hdel
  go_enter Tryz.func55, Tryz.ntmps55
  go_wp2_with (first
    | (at_delete; refine Lan.wpList_delete_run rfl _ _ 76 3 rfl _ _ rfl rfl HD.out ?_)
    | (go_at_call 85; refine H1.out.mono ?_; rintro e w2 ⟨rfl, t1, x1, H2⟩; clear H1)
    | (go_at_call 58; refine H2.out.mono ?_; rintro e w3 ⟨b, t2, rfl, x2, H3⟩; clear H2)
    | (go_at_call 58; refine H3.out.mono ?_; rintro e w4 ⟨b2, rfl, H4⟩))
  all_goals go_end0
  exact ⟨rfl, H4⟩

/-- What comes. -/
def addV (V : QV) (body group : ByteArray) (delay : Int) : QV :=
  { V with last := V.last + 1, M := V.M ++ [⟨V.last + 1, body, 0, V.now + (if delay < 0 then V.A.del else delay)⟩], Lt := V.Lt ++ [⟨group, V.last + 1, V.N + 1⟩], N := V.N + 1, R2 := Tim.setR V.R2 (V.last + 1, V.now) }
set_option maxHeartbeats 1600000 in
set_option maxRecDepth 100000 in
theorem add_any (h : QL w q V S) (hf : Few V) {body group : ByteArray} (hg : group.size ≤ maxLen) {delay : Int} (hd : -1 ≤ delay ∧ delay ≤ 1048576) (hdl : 0 ≤ V.A.del ∧ V.A.del ≤ 1048576) (hnow : 0 ≤ V.now ∧ V.now ≤ 1099511627776) (hlast : 0 ≤ V.last ∧ V.last ≤ 900000)
    (hM : findM V.M (V.last + 1) = none) (hL : Lan.at_ V.Lt (V.last + 1) = none) :
    Calls Tryz.prog 40 #[.pointer (some ⟨q, 0, none⟩), .string body, .string group, .int .i64 delay] w fun e w' => e = .returned (.int .i64 (V.last + 1)) ∧ Hid (QGot w q (addV V body group delay) S w') := by
  obtain ⟨c0, c1, c2, c3, c4, c5, c6, c7, c8, c9, c10, c11, c12, c13⟩ := h.cells
  have f8 := h.froz 8 (by decide)
  have hw1 : IntKind.i64.wrap (V.last + 1) = V.last + 1 := IntWalk.i64_in _ (by omega)
  have hk : Lan.wfk (V.last + 1) := by unfold Lan.wfk; omega
  obtain ⟨h1, hN1⟩ := h.setLast (V.last + 1)
  obtain ⟨W1, hW1⟩ : ∃ W1, W1 = w.setCell ⟨q, 8, none⟩ (.int .i64 (V.last + 1)) := ⟨_, rfl⟩
  rw [← hW1] at h1 hN1
  obtain ⟨d0, d1, d2, d3, d4, d5, d6, d7, d8, d9, d10, d11, d12, d13⟩ := h1.cells
  have HP : Hid (∀ d : Int, ∃ w2, (Instr.mapUpdate 76 (.map (some S.m)) (.int .i64 (V.last + 1)) (.pointer (some ⟨W1.heap.size, 0, none⟩))).run Tryz.prog (W1.alloc (.cells #[.string body, .int .i64 0, .int .i64 (V.now + d)] 84)).drew = .ok () w2 ∧
      ∃ l, w2.cell? ⟨q, 10, none⟩ = some (.pointer (some ⟨l, 0, none⟩)) ∧ w2.cell? ⟨q, 8, none⟩ = some (.int .i64 (V.last + 1)) ∧
      Hid (Calls Tryz.prog 66 #[.pointer (some ⟨l, 0, none⟩), .string group, .int .i64 (V.last + 1)] w2.drew fun e w3 => e = .returned (.bool true) ∧ ∃ t2, w3.cell? ⟨q, 12, none⟩ = some (.pointer (some ⟨t2, 0, none⟩)) ∧ w3.cell? ⟨q, 8, none⟩ = some (.int .i64 (V.last + 1)) ∧ w3.cell? ⟨q, 7, none⟩ = some (.int .i64 V.now) ∧
      Hid (Calls Tryz.prog 57 #[.pointer (some ⟨t2, 0, none⟩), .int .i64 (V.last + 1), .int .i64 V.now] w3.drew fun e w4 => e = .returned (.tuple #[]) ∧ w4.cell? ⟨q, 8, none⟩ = some (.int .i64 (V.last + 1)) ∧
      Hid (QGot w q { V with last := V.last + 1, M := V.M ++ [⟨V.last + 1, body, 0, V.now + d⟩], Lt := V.Lt ++ [⟨group, V.last + 1, V.N + 1⟩], N := V.N + 1, R2 := Tim.setR V.R2 (V.last + 1, V.now) } S w4)))) := Lib.hid fun d => by
    have hb0 : Below W1.heap.size W1 (W1.alloc (.cells #[.string body, .int .i64 0, .int .i64 (V.now + d)] 84)).drew := ((Below.refl _ _).alloc (Nat.le_refl _) _).drew
    obtain ⟨w2, hrun, S2, h2, hN2⟩ := h1.put (x := ⟨V.last + 1, body, 0, V.now + d⟩) hM hk hf.m hb0 (Nat.le_refl _) (heap_alloc_new W1 _)
    refine ⟨w2, hrun, S2.l, h2.cells.2.2.2.2.2.2.2.2.2.2.1, h2.cells.2.2.2.2.2.2.2.2.1, Lib.hid ?_⟩
    obtain ⟨h3, hN3⟩ := h2.below ((Below.refl w2.heap.size w2).drew)
    refine (h3.lAdd hf.n hg hk hL hf.l).mono ?_
    rintro e w4 ⟨rfl, H4⟩
    obtain ⟨S4, h4, hN4⟩ := H4.out
    refine ⟨rfl, S4.t2, h4.cells.2.2.2.2.2.2.2.2.2.2.2.2.1, h4.cells.2.2.2.2.2.2.2.2.1, h4.cells.2.2.2.2.2.2.2.1, Lib.hid ?_⟩
    obtain ⟨h5, hN5⟩ := h4.below ((Below.refl w4.heap.size w4).drew)
    refine (h5.sSet hf.r2 (V.last + 1, V.now) hk).mono ?_
    rintro e w6 ⟨rfl, H6⟩
    obtain ⟨S6, h6, hN6⟩ := H6.out
    exact ⟨rfl, h6.cells.2.2.2.2.2.2.2.2.1, Lib.hid ⟨S6, h6, hN1.trans (hN2.trans (hN3.trans (hN4.trans (hN5.trans hN6))))⟩⟩
  have HW := Lib.hid hW1
  have hql : q < W1.heap.size := h1.lt
  clear hlast h h1 hN1 hM hL hf hk hg hW1
  have HE : ∀ d : Int, (if delay < 0 then V.A.del else delay) = d → Hid (addV V body group delay = { V with last := V.last + 1, M := V.M ++ [⟨V.last + 1, body, 0, V.now + d⟩], Lt := V.Lt ++ [⟨group, V.last + 1, V.N + 1⟩], N := V.N + 1, R2 := Tim.setR V.R2 (V.last + 1, V.now) }) := fun d e => Lib.hid (by unfold addV; rw [e])
  by_cases hneg : delay < 0
  · have hneg' : decide (delay < 0) = true := decide_eq_true hneg
    have hw2 : IntKind.i64.wrap (V.now + V.A.del) = V.now + V.A.del := IntWalk.i64_in _ (by omega)
    obtain ⟨w2, hrun, l, x1, x2, H2⟩ := HP.out V.A.del
    have HE2 := HE _ (if_pos hneg)
    clear HE hneg
    go_enter Tryz.func40, Tryz.ntmps40
    go_wp2_with (fail)
    rw [← HW.out]
    go_region
    all_goals
      clear hrun hw2
      go_wp2_with (fail)
      go_still_tail 9, (by kernel_rfl)
      change wpList _ _ _ _ _ w2.drew
      go_upto_region 6 with (go_at_call 66; refine H2.out.mono ?_; rintro e w3 ⟨rfl, t2, y1, y2, y3, H3⟩; clear H2)
      go_still_tail 12, (by kernel_rfl)
      change wpList _ _ _ _ _ w3.drew
      go_wp2_with (go_at_call 57; refine H3.out.mono ?_; rintro e w4 ⟨rfl, z1, H4⟩; clear H3)
      go_ret
      exact ⟨rfl, Lib.hid (HE2.out ▸ H4.out)⟩
  · have hneg' : decide (delay < 0) = false := decide_eq_false hneg
    have hw2 : IntKind.i64.wrap (V.now + delay) = V.now + delay := IntWalk.i64_in _ (by omega)
    obtain ⟨w2, hrun, l, x1, x2, H2⟩ := HP.out delay
    have HE2 := HE _ (if_neg hneg)
    clear HE hneg
    go_enter Tryz.func40, Tryz.ntmps40
    go_wp2_with (fail)
    rw [← HW.out]
    go_region
    all_goals
      clear hrun hw2
      go_wp2_with (fail)
      go_still_tail 9, (by kernel_rfl)
      change wpList _ _ _ _ _ w2.drew
      go_upto_region 6 with (go_at_call 66; refine H2.out.mono ?_; rintro e w3 ⟨rfl, t2, y1, y2, y3, H3⟩; clear H2)
      go_still_tail 12, (by kernel_rfl)
      change wpList _ _ _ _ _ w3.drew
      go_wp2_with (go_at_call 57; refine H3.out.mono ?_; rintro e w4 ⟨rfl, z1, H4⟩; clear H3)
      go_ret
      exact ⟨rfl, Lib.hid (HE2.out ▸ H4.out)⟩
end
end Go.Proofs.YtdjieapobodakaaGreatDoor
end

section
namespace Go.Proofs.YtdjieapobodakaaGreatDoor
open Go Go.RowKit Go.Maps Go.WideMaps

theorem Cut_any {w : World} (hE : Env w) (t : ByteArray) (ht : t.size < 4294967281) : Calls Tryz.prog 83 #[.string t, .string ⟨#[46]⟩] w fun e w' => ∃ r b, e = .returned (.tuple #[.string ⟨(Lib.cut t.data.toList [46]).1.toArray⟩, .string r, .bool b]) ∧ Below w.heap.size w w' := by
  obtain ⟨m, hm⟩ := hE.len
  refine (Tryz.strings_Cut t ⟨#[46]⟩ m w ht hm).mono ?_
  rintro e w' ⟨rfl, n, rfl⟩
  exact ⟨_, _, rfl, by simpa using grown_below' w n #[]⟩
theorem cut_len (l : List UInt8) : (Lib.cut l [46]).1.length ≤ l.length := by
  unfold Lib.cut
  split
  · show (l.take _).length ≤ _
    rw [List.length_take]
    omega
  · exact Nat.le_refl _
theorem Atoi_any {w : World} (hE : Env w) (t : ByteArray) (ht : t.size < 4294967281) : Calls Tryz.prog 84 #[.string ⟨(Lib.cut t.data.toList [46]).1.toArray⟩] w fun e w' => ∃ er, e = .returned (.tuple #[.int .i64 (numOf t), er]) ∧ Below w.heap.size w w' := by
  obtain ⟨d, hd⟩ : ∃ d : ByteArray, d = ⟨(Lib.cut t.data.toList [46]).1.toArray⟩ := ⟨_, rfl⟩
  have hl : d.data.toList = (Lib.cut t.data.toList [46]).1 := by rw [hd]
  have hsz : d.size ≤ t.size := by
    have := cut_len t.data.toList
    rw [← hl] at this
    exact this
  rw [← hd]
  have hn : numOf t = match Lib.atoiAll d.data.toList with | .ok v => v | .range => Lib.atoiSat d.data.toList | _ => 0 := by rw [hl]; rfl
  cases ha : Lib.atoiAll d.data.toList
  · rename_i v
    rw [ha] at hn
    refine (Tryz.strconv_Atoi_ok d (by omega) v ha w).mono ?_
    rintro e w' ⟨rfl, hw⟩
    refine ⟨_, by rw [hn], ?_⟩
    rcases hw with rfl | ⟨s, rfl⟩
    · exact Below.refl _ _
    · exact Lib.bytesWorld_below _ _ _
  · rw [ha] at hn
    obtain ⟨tp, p, hv⟩ := hE.syn
    refine (Any.strconv_Atoi_syntax_var Tryz.laysC172 d (by omega) ha tp p w hv).mono ?_
    rintro e w' ⟨N, rfl, _, _, hb⟩
    exact ⟨_, by rw [hn], hb⟩
  · rw [ha] at hn
    obtain ⟨tp, p, hv⟩ := hE.ran
    refine (Tryz.strconv_Atoi_range_var d (by omega) ha tp p w hv).mono ?_
    rintro e w' ⟨N, rfl, _, _, hb⟩
    exact ⟨_, by rw [hn], hb⟩

def isLeased (V : QV) (id : Int) : Bool := V.R1.any fun x => decide (x.1 = id)
/-- The message that a receipt is one of. -/
def findR (V : QV) (text : ByteArray) : Option Mm :=
  match findM V.M (numOf text) with
  | some m => if isLeased V m.id && decide (text = rcptS m.id m.count) then some m else none
  | none => none
def findRE (o : Option Mm) : Ending := match o with | some m => .returned (.tuple #[.int .i64 m.id, .bool true]) | none => .returned (.tuple #[.int .i64 0, .bool false])
/-- What is leased is there; numbers are small. -/
structure Fits (V : QV) : Prop where
  few : Few V
  sub : ∀ x ∈ V.R1, (findM V.M x.1).isSome = true
  cnt : ∀ x ∈ V.M, 0 ≤ x.count ∧ x.count ≤ 900000
section
variable {w w' : World} {q : Nat} {V : QV} {S : QS}
theorem QL.at_ (h : QL w q V S) (k : Int) (hk : Tim.wfk k) :
    Calls Tryz.prog 56 #[.pointer (some ⟨S.t1, 0, none⟩), .int .i64 k] w fun e w' => ∃ n, e = .returned (.tuple #[.int .i64 n, .bool (isLeased V k)]) ∧ w = w' := by
  refine (h.eAt k hk).mono ?_
  rintro e w1 ⟨he, rfl⟩
  rcases he with ⟨rfl, h2⟩ | ⟨x, hx, h2, rfl⟩
  · have : isLeased V k = false := by
      unfold isLeased
      rw [List.any_eq_false]
      intro y hy
      simpa using h2 y hy
    exact ⟨_, by rw [this], rfl⟩
  · have : isLeased V k = true := by
      unfold isLeased
      rw [List.any_eq_true]
      exact ⟨x, hx, by simpa using h2⟩
    exact ⟨_, by rw [this], rfl⟩
set_option maxHeartbeats 1600000 in
set_option maxRecDepth 100000 in
theorem leasedWith_any (h : QL w q V S) (hf : Fits V) (hE : Env w) (h6 : 6 ≤ w.heap.size) {text : ByteArray} (ht : text.size < 4294967281) :
    Calls Tryz.prog 54 #[.pointer (some ⟨q, 0, none⟩), .string text] w fun e w' => e = findRE (findR V text) ∧ Below w.heap.size w w' := by
  have HC := Lib.hid (Cut_any hE text ht)
  have HA : Hid (∀ w1, Below w.heap.size w w1 → Calls Tryz.prog 84 #[.string ⟨(Lib.cut text.data.toList [46]).1.toArray⟩] w1 fun e w' => ∃ er, e = .returned (.tuple #[.int .i64 (numOf text), er]) ∧ Hid (Below w.heap.size w w' ∧ QL w' q V S)) := Lib.hid fun w1 hb =>
    (Atoi_any (hE.below h6 hb) text ht).mono fun e w' ⟨er, he, hb2⟩ => ⟨er, he, Lib.hid ⟨hb.trans (hb2.mono hb.size), (h.below (hb.trans (hb2.mono hb.size))).1⟩⟩
  have HT : Hid (∀ w1, QL w1 q V S → Calls Tryz.prog 56 #[.pointer (some ⟨S.t1, 0, none⟩), .int .i64 (numOf text)] w1 fun e w' => ∃ n, e = .returned (.tuple #[.int .i64 n, .bool (isLeased V (numOf text))]) ∧ w1 = w') := Lib.hid fun w1 h1 => h1.at_ _ (numOf_b text)
  generalize hnum : numOf text = k at *
  generalize (⟨(Lib.cut text.data.toList [46]).1.toArray⟩ : ByteArray) = dg at *
  cases hl : isLeased V k with
  | false =>
    rw [hl] at HT
    have HX : Hid (findR V text = none) := Lib.hid (by
      unfold findR
      rw [hnum]
      cases hm : findM V.M k with
      | none => rfl
      | some m =>
        obtain ⟨_, h2⟩ := findM_some hm
        show (if isLeased V m.id && _ then _ else _) = _
        rw [h2, hl]
        rfl)
    rw [HX.out]
    clear h hf hE hnum hl HX
    go_enter Tryz.func54, Tryz.ntmps54
    go_wp2_with (first
      | (go_at_call 83; refine HC.out.mono ?_; rintro e w1 ⟨r, b, rfl, hb1⟩; clear HC)
      | (go_at_call 84; refine (HA.out _ hb1).mono ?_; rintro e w2 ⟨er, rfl, H2⟩; obtain ⟨c0, c1, c2, c3, c4, c5, c6, c7, c8, c9, c10, c11, c12, c13⟩ := H2.out.2.cells)
      | (go_at_call 56; refine (HT.out _ H2.out.2).mono ?_; rintro e w3 ⟨n, rfl, rfl⟩))
    go_ret2
    exact ⟨rfl, H2.out.1⟩
  | true =>
    rw [hl] at HT
    obtain ⟨m, hm⟩ : ∃ m, findM V.M k = some m := by
      unfold isLeased at hl
      obtain ⟨x, hx, hxk⟩ := List.any_eq_true.1 hl
      have := hf.sub x hx
      rw [show x.1 = k by simpa using hxk] at this
      exact Option.isSome_iff_exists.1 this
    obtain ⟨hmM, hmk⟩ := findM_some hm
    have hcb := hf.cnt m hmM
    have HX : Hid (findR V text = if text = rcptS m.id m.count then some m else none) := Lib.hid (by
      unfold findR
      rw [hnum, hm]
      show (if isLeased V m.id && _ then _ else _) = _
      rw [hmk, hl]
      simp)
    have HRC : Hid (∀ w1, Below w.heap.size w w1 → Calls Tryz.prog 70 #[.int .i64 k, .int .i64 m.count] w1 fun e w' => e = .returned (.string (rcptS k m.count)) ∧ Below w.heap.size w w') := Lib.hid fun w1 hb => by
      have hkb := numOf_b text
      rw [hnum] at hkb
      have := hb.size
      exact (receipt_any (hE.below h6 hb) (by omega) hkb (by omega)).mono fun e w' ⟨he, hb2⟩ => ⟨he, hb.trans (hb2.mono hb.size)⟩
    have HM : Hid (∀ w1, QL w1 q V S → (Instr.lookup 76 (.map (some S.m)) (.int .i64 k) false).run Tryz.prog w1 = .ok (.pointer (some ⟨S.pb k, 0, none⟩)) w1 ∧ w1.cell? ⟨S.pb k, 1, none⟩ = some (.int .i64 m.count)) := Lib.hid fun w1 h1 => by
      have h2 := h1.look hmM
      have h3 := (h1.msg hmM).2.1
      rw [hmk] at h2 h3
      exact ⟨h2, h3⟩
    rw [HX.out]
    rw [hmk]
    clear h hf hE hnum hl HX hm hmM hcb
    generalize S.pb k = pb at *
    generalize rcptS k m.count = rc at *
    have HR0 : Hid (findRE none = .returned (.tuple #[.int .i64 0, .bool false])) := Lib.hid rfl
    by_cases hT : text = rc
    · subst hT
      rw [if_pos rfl]
      have HR : Hid (.returned (.tuple #[.int .i64 k, .bool true]) = findRE (some m)) := Lib.hid (by show _ = Ending.returned (.tuple #[.int .i64 m.id, .bool true]); rw [hmk])
      clear hmk HR0
      go_enter Tryz.func54, Tryz.ntmps54
      go_wp2_with (first
        | (go_at_call 83; refine HC.out.mono ?_; rintro e w1 ⟨r, b, rfl, hb1⟩; clear HC)
        | (go_at_call 84; refine (HA.out _ hb1).mono ?_; rintro e w2 ⟨er, rfl, H2⟩; obtain ⟨c0, c1, c2, c3, c4, c5, c6, c7, c8, c9, c10, c11, c12, c13⟩ := H2.out.2.cells; obtain ⟨m1, m2⟩ := HM.out _ H2.out.2)
        | (go_at_call 56; refine (HT.out _ H2.out.2).mono ?_; rintro e w3 ⟨n, rfl, rfl⟩)
        | (go_at_call 70; refine (HRC.out _ H2.out.1).mono ?_; rintro e w4 ⟨rfl, hb4⟩))
      go_ret2
      exact ⟨HR.out, hb4⟩
    · rw [if_neg hT]
      have hT2 : (text.toList == rc.toList) = false := by rw [Led.str_eq]; exact decide_eq_false hT
      have HR : Hid (.returned (.tuple #[.int .i64 0, .bool false]) = findRE none) := Lib.hid rfl
      clear hmk HR0
      go_enter Tryz.func54, Tryz.ntmps54
      go_wp2_with (first
        | (go_at_call 83; refine HC.out.mono ?_; rintro e w1 ⟨r, b, rfl, hb1⟩; clear HC)
        | (go_at_call 84; refine (HA.out _ hb1).mono ?_; rintro e w2 ⟨er, rfl, H2⟩; obtain ⟨c0, c1, c2, c3, c4, c5, c6, c7, c8, c9, c10, c11, c12, c13⟩ := H2.out.2.cells; obtain ⟨m1, m2⟩ := HM.out _ H2.out.2)
        | (go_at_call 56; refine (HT.out _ H2.out.2).mono ?_; rintro e w3 ⟨n, rfl, rfl⟩)
        | (go_at_call 70; refine (HRC.out _ H2.out.1).mono ?_; rintro e w4 ⟨rfl, hb4⟩))
      go_ret2
      exact ⟨HR.out, hb4⟩
end
end Go.Proofs.YtdjieapobodakaaGreatDoor
end
