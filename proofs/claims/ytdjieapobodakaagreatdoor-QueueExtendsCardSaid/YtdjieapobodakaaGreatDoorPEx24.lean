/- What is proved here: what holds of a plain queue holds behind Receive, Ack, Extend, Purge and Set. No program's type is named. -/
/- What is proved here: what it is that memory holds a queue's parts; what is done to one part leaves the others. -/
/- What is proved here: what within and Right answer. -/
import Derived.Test.YtdjieapobodakaaGreatDoorPEx23
import Derived.Test.YtdjieapobodakaaGreatDoorPEx5
import Derived.Test.YtdjieapobodakaaGreatDoorPEx8
import Derived.Test.YtdjieapobodakaaGreatDoorPEx16
import Derived.StillTailTactics
import Derived.Deep.QuietTactic
import Derived.BigQuiet
import Derived.Lib.AppendIntMem
import Derived.Shelf.SlSortCmp.QuietGrown
section
namespace Go.Proofs.YtdjieapobodakaaGreatDoor
open Go

theorem map_pairwise {r : Ms → Ms → Prop} {L : List Ms} (h : L.Pairwise r) (f : Ms → Ms) (hf : ∀ a b, r a b → r (f a) (f b)) : (L.map f).Pairwise r := List.Pairwise.map _ (fun a b hab => hf a b hab) h
/-- Messages that are changed but for what they are. -/
structure Alike (f : Ms → Ms) (T : Int) : Prop where
  id : ∀ x, (f x).id = x.id ∧ (f x).sent = x.sent ∧ (f x).body = x.body ∧ (f x).group = x.group
  cnt : ∀ x, 0 ≤ x.count → x.count ≤ T → 0 ≤ (f x).count ∧ (f x).count ≤ T + 1
  atb : ∀ x, 0 ≤ x.at_ ∧ x.at_ ≤ 1099512676352 → 0 ≤ (f x).at_ ∧ (f x).at_ ≤ 1099512676352
theorem QOk.change {Q : QM} {T : Nat} (h : QOk Q T) {f : Ms → Ms} (hf : Alike f T) : QOk { Q with L := Q.L.map f } (T + 1) := by
  have hm : ∀ {p : Ms → Prop}, (∀ x ∈ Q.L, p (f x)) → ∀ y ∈ Q.L.map f, p y := fun h1 y hy => by
    obtain ⟨x, hx, rfl⟩ := List.mem_map.1 hy
    exact h1 x hx
  refine ⟨h.right, h.now, ⟨h.last.1, by have := h.last.2; show Q.last ≤ _; omega⟩, map_pairwise h.ids f fun a b hab => ?_, hm fun x hx => ?_, map_pairwise h.sents f fun a b hab => ?_, hm fun x hx => ?_, hm fun x hx => ?_, hm fun x hx => hf.atb x (h.atb x hx), hm fun x hx => ?_, hm fun x hx => ?_, by show (Q.L.map f).length ≤ _; rw [List.length_map]; exact h.len, h.klen, h.kok, h.krise⟩
  · rw [(hf.id a).1, (hf.id b).1]; exact hab
  · rw [(hf.id x).1]; exact h.idb x hx
  · rw [(hf.id a).2.1, (hf.id b).2.1]; exact hab
  · rw [(hf.id x).2.1]; exact h.sentb x hx
  · have := h.cnt x hx
    have := hf.cnt x this.1 this.2
    exact ⟨this.1, by omega⟩
  · rw [(hf.id x).2.2.1, (hf.id x).2.2.2]; exact h.size x hx
  · rw [(hf.id x).2.2.2]; exact h.grp x hx
theorem visOf_b {Q : QM} {T : Nat} (h : QOk Q T) {n v : Int} (hc : canRecv n v = true) : 0 ≤ Q.now + visOf Q v ∧ Q.now + visOf Q v ≤ 1099512676352 := by
  have hA := (Att.right_parts h.right).1
  have h0 := h.now
  unfold canRecv within at hc
  simp only [Bool.and_eq_true, decide_eq_true_eq] at hc
  unfold visOf
  split <;> omega
theorem QOk.recv {Q : QM} {T : Nat} (h : QOk Q T) (n v : Int) : QOk (recvQ Q n v) (T + 1) := by
  unfold recvQ
  by_cases hc : canRecv n v = true
  · rw [if_pos hc]
    have hb := visOf_b h hc
    refine h.change (f := fun m => if (readyL Q n.toNat).any (fun x => decide (x.id = m.id)) then leaseM (Q.now + visOf Q v) m else m) ⟨fun x => ?_, fun x h1 h2 => ?_, fun x hx => ?_⟩
    · skip
      split <;> exact ⟨rfl, rfl, rfl, rfl⟩
    · skip
      split
      · exact ⟨by show 0 ≤ x.count + 1; omega, by show x.count + 1 ≤ _; omega⟩
      · exact ⟨h1, by omega⟩
    · skip
      split
      · exact hb
      · exact hx
  · rw [if_neg hc]; exact h.up (Nat.le_succ T)
theorem QOk.part {Q : QM} {T : Nat} (h : QOk Q T) {L : List Ms} (hs : L.Sublist Q.L) : QOk { Q with L := L } T :=
  ⟨h.right, h.now, h.last, h.ids.sublist hs, fun x hx => h.idb x (hs.subset hx), h.sents.sublist hs, fun x hx => h.sentb x (hs.subset hx), fun x hx => h.cnt x (hs.subset hx), fun x hx => h.atb x (hs.subset hx), fun x hx => h.size x (hs.subset hx), fun x hx => h.grp x (hs.subset hx), Nat.le_trans hs.length_le h.len, h.klen, h.kok, h.krise⟩
theorem QOk.ack {Q : QM} {T : Nat} (h : QOk Q T) (r : ByteArray) : QOk (ackQ Q r) T := by
  unfold ackQ
  split
  · exact h
  · exact h.part List.filter_sublist
theorem QOk.purge {Q : QM} {T : Nat} (h : QOk Q T) : QOk (purgeQ Q) T := h.part (List.nil_sublist _)
theorem QOk.ext {Q : QM} {T : Nat} (h : QOk Q T) (r : ByteArray) (v : Int) : QOk (extQ Q r v) (T + 1) := by
  unfold extQ
  by_cases hc : within v 0 1048576 = true
  · rw [hc]
    split
    · rename_i h1; cases h1
    · split
      · exact h.up (Nat.le_succ T)
      · rename_i m _
        unfold within at hc
        simp only [Bool.and_eq_true, decide_eq_true_eq] at hc
        have h0 := h.now
        refine h.change (f := fun x => if x.id = m.id then extM Q v x else x) ⟨fun x => ?_, fun x h1 h2 => ?_, fun x hx => ?_⟩
        · skip
          split <;> exact ⟨rfl, rfl, rfl, rfl⟩
        · skip
          split
          · exact ⟨h1, by show x.count ≤ _; omega⟩
          · exact ⟨h1, by omega⟩
        · skip
          split
          · exact ⟨by show 0 ≤ Q.now + v; omega, by show Q.now + v ≤ _; omega⟩
          · exact hx
  · rw [Bool.not_eq_true] at hc
    rw [hc]
    exact h.up (Nat.le_succ T)
theorem QOk.set {Q : QM} {T : Nat} (h : QOk Q T) (a : Att) : QOk (setQ Q a) T := by
  unfold setQ setOk
  split
  · rename_i hc
    rw [Bool.and_eq_true, beq_iff_eq] at hc
    exact ⟨hc.1, h.now, h.last, h.ids, h.idb, h.sents, h.sentb, h.cnt, h.atb, h.size, fun x hx => (h.grp x hx).trans hc.2.symm, h.len, h.klen, h.kok, h.krise⟩
  · exact h
/-- A sender's key that comes. -/
theorem QOk.keyed {Q : QM} {T : Nat} (h : QOk Q T) {key : ByteArray} (hk : key.size ≤ 256) (hl : keyed Q.A key = true → Q.K.length < 4096) {body group : ByteArray} {delay : Int} (hb : body.size ≤ 256) (hg : group.size ≤ 256) (hf : (!decide (group = ⟨#[]⟩)) = Q.A.fifo) (hd : -1 ≤ delay ∧ delay ≤ 1048576) (hL : Q.L.length < 1024) : QOk (addQ (keyQ Q key) body group delay) (T + 1) := by
  have h1 := h.add hb hg hf hd hL
  unfold keyQ
  by_cases hy : Go.Proofs.YtdjieapobodakaaGreatDoor.keyed Q.A key = true
  · rw [if_pos hy]
    have hw := (Att.right_parts h.right).2.2.2.1
    have h0 := h.now
    have hlast := h.last
    refine ⟨h1.right, h1.now, h1.last, h1.ids, h1.idb, h1.sents, h1.sentb, h1.cnt, h1.atb, h1.size, h1.grp, h1.len, ?_, fun x hx => ?_, Led.rise_put h.krise _⟩
    · have h2 := hl hy
      have h3 : (Led.putE Q.K ⟨key, .int .i64 (Q.last + 1), Q.now + Q.A.win⟩).length ≤ Q.K.length + 1 := length_putN _ _
      show (Led.putE _ _).length ≤ 4096
      omega
    · rcases Led.mem_put.1 hx with rfl | ⟨hx, _⟩
      · unfold Go.Proofs.YtdjieapobodakaaGreatDoor.keyed at hy
        rw [Bool.and_eq_true, Bool.not_eq_true', decide_eq_false_iff_not] at hy
        exact ⟨hk, hy.1, ⟨_, rfl, by omega, Int.le_refl _⟩, by show 0 ≤ Q.now + _; omega, by show Q.now + _ ≤ _; omega⟩
      · exact h1.kok x hx
  · rw [if_neg hy]; exact h1
end Go.Proofs.YtdjieapobodakaaGreatDoor
end

section
namespace Go.Proofs.YtdjieapobodakaaGreatDoor
open Go Go.RowKit Go.Maps Go.WideMaps

/-- A message as the map has it. -/
structure Mm where
  id : Int
  body : ByteArray
  count : Int
  frm : Int
/-- A queue's parts. -/
structure QV where
  A : Att
  now : Int
  last : Int
  M : List Mm
  Lt : List Lan.Th
  N : Nat
  R1 : List Tim.It
  R2 : List Tim.It
  K : List Led.En
/-- Where they lie. -/
structure QS where
  m : Nat
  l : Nat
  t1 : Nat
  t2 : Nat
  k : Nat
  f : Lit → Option Value
  pb : Int → Nat
  c : Nat → Nat
def findM (M : List Mm) (k : Int) : Option Mm := M.find? fun x => decide (x.id = k)
def ptr (b : Nat) : Value := .pointer (some ⟨b, 0, none⟩)
def mcells (x : Mm) : Array Value := #[.string x.body, .int .i64 x.count, .int .i64 x.frm]
def qcells (V : QV) (S : QS) : Array Value := #[.int .i64 V.A.vis, .int .i64 V.A.ret, .int .i64 V.A.del, .int .i64 V.A.win, .int .i64 V.A.max, .string V.A.dead, .bool V.A.fifo, .int .i64 V.now, .int .i64 V.last, .map (some S.m), ptr S.l, ptr S.t1, ptr S.t2, ptr S.k]
/-- Memory holds a queue's parts, each in blocks of its colour. -/
structure QL (w : World) (q : Nat) (V : QV) (S : QS) : Prop where
  blk : w.heap[q]? = some (.cells (qcells V S) 80 (0, 0))
  mp : MapV Tryz.prog 3 w S.m V.M.length S.f
  pl : ∀ k, S.f (.int .i64 k) = (findM V.M k).map fun _ => ptr (S.pb k)
  ms : ∀ x ∈ V.M, w.heap[S.pb x.id]? = some (.cells (mcells x) 84 (0, 0))
  nodup : (V.M.map Mm.id).Nodup
  wf : ∀ x ∈ V.M, Lan.wfk x.id
  inj : ∀ x ∈ V.M, ∀ y ∈ V.M, S.pb x.id = S.pb y.id → x.id = y.id
  lan : Lan.LaneAt w S.l V.Lt V.N (fun b => S.c b = 4)
  les : Tim.TimerAt w S.t1 V.R1 (fun b => S.c b = 5)
  snt : Tim.TimerAt w S.t2 V.R2 (fun b => S.c b = 6)
  key : Led.LedAt w S.k 4096 V.K (fun b => S.c b = 7)
  cq : S.c q = 1
  cm : S.c S.m = 2
  cp : ∀ x ∈ V.M, S.c (S.pb x.id) = 3
  new : ∀ b, w.heap.size ≤ b → S.c b = 0
/-- What is not the queue's stays. -/
def QNext (w w' : World) (S S' : QS) : Prop := (∀ b, b < w.heap.size → S'.c b = S.c b) ∧ Chg (fun b => S.c b ≠ 0) w w'
def paint (c : Nat → Nat) (a n i : Nat) : Nat → Nat := fun b => if a ≤ b ∧ b < n then i else c b

section
variable {w w' w2 : World} {q : Nat} {V : QV} {S S' S2 : QS}
theorem QNext.refl (w : World) (S : QS) : QNext w w S S := ⟨fun _ _ => rfl, Chg.refl _ _⟩
theorem QNext.trans (h : QNext w w' S S') (k : QNext w' w2 S' S2) : QNext w w2 S S2 :=
  ⟨fun b hb => (k.1 b (Nat.lt_of_lt_of_le hb h.2.size)).trans (h.1 b hb), h.2.trans k.2 fun b hb hc => by rwa [h.1 b hb] at hc⟩
theorem QNext.size (h : QNext w w' S S') : w.heap.size ≤ w'.heap.size := h.2.size
theorem QNext.own {base e size n : Nat} {v : Value} {xs : List Value} (h : QNext w w' S S') (ho : w.ownsRow base e size v n xs) (hn : ∀ g, v.ownBlock = some g → S.c g = 0) : w'.ownsRow base e size v n xs ∧ ∀ g, v.ownBlock = some g → S'.c g = 0 :=
  ⟨h.2.own ho fun g hg hc => hc (hn g hg), fun g hg => (h.1 g (ho.lt g hg).2).trans (hn g hg)⟩
theorem QNext.below (h : QNext w w' S S') {B : Nat} (hB : B ≤ w.heap.size) (hc : ∀ b, b < B → S.c b = 0) : Below B w w' :=
  h.2.below hB fun b hb => Nat.le_of_not_lt fun hlt => hb (hc b hlt)
theorem findM_none {M : List Mm} {k : Int} : findM M k = none ↔ ∀ x ∈ M, x.id ≠ k := by simp [findM, List.find?_eq_none]
theorem findM_some {M : List Mm} {k : Int} {x : Mm} (h : findM M k = some x) : x ∈ M ∧ x.id = k := by
  have h1 := List.mem_of_find?_eq_some h
  have h2 := List.find?_some h
  exact ⟨h1, by simpa using h2⟩
theorem nodup_one {M : List Mm} (h : (M.map Mm.id).Nodup) {x y : Mm} (hx : x ∈ M) (hy : y ∈ M) (e : x.id = y.id) : x = y := by
  induction M with
  | nil => cases hx
  | cons z r ih =>
    rw [List.map_cons, List.nodup_cons] at h
    rcases List.mem_cons.1 hx with hx | hx <;> rcases List.mem_cons.1 hy with hy | hy
    · rw [hx, hy]
    · rw [hx] at e
      exact absurd (e ▸ List.mem_map_of_mem hy : z.id ∈ r.map Mm.id) h.1
    · rw [hy] at e
      exact absurd (e ▸ List.mem_map_of_mem hx : z.id ∈ r.map Mm.id) h.1
    · exact ih h.2 hx hy
theorem findM_mem {M : List Mm} (h : (M.map Mm.id).Nodup) {x : Mm} (hx : x ∈ M) : findM M x.id = some x := by
  cases hf : findM M x.id with
  | none => exact absurd rfl (findM_none.1 hf x hx)
  | some y =>
    obtain ⟨h1, h2⟩ := findM_some hf
    rw [nodup_one h h1 hx h2]

/-- The queue's own cells. -/
theorem QL.cells (h : QL w q V S) : w.cell? ⟨q, 0, none⟩ = some (.int .i64 V.A.vis) ∧ w.cell? ⟨q, 1, none⟩ = some (.int .i64 V.A.ret) ∧ w.cell? ⟨q, 2, none⟩ = some (.int .i64 V.A.del) ∧ w.cell? ⟨q, 3, none⟩ = some (.int .i64 V.A.win) ∧ w.cell? ⟨q, 4, none⟩ = some (.int .i64 V.A.max) ∧ w.cell? ⟨q, 5, none⟩ = some (.string V.A.dead) ∧ w.cell? ⟨q, 6, none⟩ = some (.bool V.A.fifo) ∧ w.cell? ⟨q, 7, none⟩ = some (.int .i64 V.now) ∧ w.cell? ⟨q, 8, none⟩ = some (.int .i64 V.last) ∧ w.cell? ⟨q, 9, none⟩ = some (.map (some S.m)) ∧ w.cell? ⟨q, 10, none⟩ = some (.pointer (some ⟨S.l, 0, none⟩)) ∧ w.cell? ⟨q, 11, none⟩ = some (.pointer (some ⟨S.t1, 0, none⟩)) ∧ w.cell? ⟨q, 12, none⟩ = some (.pointer (some ⟨S.t2, 0, none⟩)) ∧ w.cell? ⟨q, 13, none⟩ = some (.pointer (some ⟨S.k, 0, none⟩)) := by
  have hb := h.blk
  unfold qcells ptr at hb
  simp [World.cell?, hb]
theorem QL.froz (h : QL w q V S) : ∀ i : Nat, i < 14 → w.frozen? ⟨q, i, none⟩ = false := by
  have hb := h.blk
  intro i hi
  simp [World.frozen?, hb]
theorem QL.lt (h : QL w q V S) : q < w.heap.size := Lan.lt_of_block h.blk
/-- A message's cells. -/
theorem QL.msg (h : QL w q V S) {x : Mm} (hx : x ∈ V.M) : w.cell? ⟨S.pb x.id, 0, none⟩ = some (.string x.body) ∧ w.cell? ⟨S.pb x.id, 1, none⟩ = some (.int .i64 x.count) ∧ w.cell? ⟨S.pb x.id, 2, none⟩ = some (.int .i64 x.frm) := by
  have hb := h.ms x hx
  unfold mcells at hb
  simp [World.cell?, hb]
theorem QL.msgf (h : QL w q V S) {x : Mm} (hx : x ∈ V.M) : w.frozen? ⟨S.pb x.id, 1, none⟩ = false := by
  have hb := h.ms x hx
  simp [World.frozen?, hb]
theorem QL.msglt (h : QL w q V S) {x : Mm} (hx : x ∈ V.M) : S.pb x.id < w.heap.size := Lan.lt_of_block (h.ms x hx)
theorem zero_msg (w : World) : (zeroValue 82).run Tryz.prog w = .ok (.pointer none) w := by kernel_rfl
theorem QL.look (h : QL w q V S) {x : Mm} (hx : x ∈ V.M) : (Instr.lookup 76 (.map (some S.m)) (.int .i64 x.id) false).run Tryz.prog w = .ok (.pointer (some ⟨S.pb x.id, 0, none⟩)) w := by
  have := h.mp.look Lan.keyed_int Tryz.underlying76 (zero_msg w) (Lan.key_int (h.wf x hx))
  rw [h.pl, findM_mem h.nodup hx] at this
  exact this
theorem QL.len (h : QL w q V S) (ty : TypeId) : (Builtin.len_ #[76] ty #[.map (some S.m)]).run Tryz.prog w = .ok (.int .i64 V.M.length) w := h.mp.len Tryz.underlying76 ty

/-! ### all stays, but for one part -/
/-- What is new since is of no colour. -/
theorem QL.below (h : QL w q V S) (hb : Below w.heap.size w w') : QL w' q V S ∧ QNext w w' S S :=
  have hc : Chg (fun _ => False) w w' := Chg.of_below hb
  ⟨⟨hc.heap h.blk id, h.mp.keep hc id, h.pl, fun x hx => hc.heap (h.ms x hx) id, h.nodup, h.wf, h.inj, h.lan.keep hc fun _ _ => id, h.les.keep hc fun _ _ => id, h.snt.keep hc fun _ _ => id, h.key.keep hc fun _ _ => id, h.cq, h.cm, h.cp, fun b hb' => h.new b (Nat.le_trans hb.size hb')⟩, fun _ _ => rfl, hc.mono fun _ _ hf => hf.elim⟩
theorem paint_old {c : Nat → Nat} {a n i j b : Nat} (hn : ∀ b, a ≤ b → c b = 0) (hj : j ≠ 0) (hb : c b = j) : paint c a n i b = j := by
  unfold paint
  rw [if_neg fun hr => hj (hb.symm.trans (hn b hr.1))]
  exact hb
theorem paint_low {c : Nat → Nat} {a n i b : Nat} (hb : b < a) : paint c a n i b = c b := by
  unfold paint
  rw [if_neg fun hr => Nat.not_lt.2 hr.1 hb]
theorem paint_mine {c : Nat → Nat} {a n i b : Nat} (hb : b < n) (h : c b = i ∨ a ≤ b) : paint c a n i b = i := by
  unfold paint
  by_cases hr : a ≤ b ∧ b < n
  · rw [if_pos hr]
  · rw [if_neg hr]
    exact h.resolve_right fun h2 => hr ⟨h2, hb⟩
theorem paint_new {c : Nat → Nat} {a n i : Nat} (hn : ∀ b, a ≤ b → c b = 0) (han : a ≤ n) : ∀ b, n ≤ b → paint c a n i b = 0 := fun b hb => by
  unfold paint
  rw [if_neg fun hr => Nat.not_lt.2 hb hr.2]
  exact hn b (Nat.le_trans han hb)
theorem paint_next {i : Nat} (hi : i ≠ 0) (hc : Chg (fun b => S.c b = i) w w') : QNext w w' S { S with c := paint S.c w.heap.size w'.heap.size i } :=
  ⟨fun b hb => paint_low hb, hc.mono fun b _ hb => by rw [hb]; exact hi⟩
/-- Lanes that have changed. -/
theorem QL.lane {Lt' : List Lan.Th} {N' : Nat} (h : QL w q V S) (h1 : Lan.LaneAt w' S.l Lt' N' (fun b => S.c b = 4 ∨ w.heap.size ≤ b)) (hc : Chg (fun b => S.c b = 4) w w') :
    QL w' q { V with Lt := Lt', N := N' } { S with c := paint S.c w.heap.size w'.heap.size 4 } ∧ QNext w w' S { S with c := paint S.c w.heap.size w'.heap.size 4 } :=
  have hne : ∀ {j : Nat} {b : Nat}, j ≠ 4 → S.c b = j → ¬ S.c b = 4 := fun hj hb e => hj (hb.symm.trans e)
  ⟨⟨hc.heap h.blk (hne (by decide) h.cq), h.mp.keep hc (hne (by decide) h.cm), h.pl, fun x hx => hc.heap (h.ms x hx) (hne (by decide) (h.cp x hx)), h.nodup, h.wf, h.inj, h1.mono fun b hb hbc => paint_mine hb hbc,
    (h.les.keep hc fun _ hb => hne (by decide) hb).mono fun _ _ hb => paint_old h.new (by decide) hb, (h.snt.keep hc fun _ hb => hne (by decide) hb).mono fun _ _ hb => paint_old h.new (by decide) hb, (h.key.keep hc fun _ hb => hne (by decide) hb).mono fun _ _ hb => paint_old h.new (by decide) hb,
    paint_old h.new (by decide) h.cq, paint_old h.new (by decide) h.cm, fun x hx => paint_old h.new (by decide) (h.cp x hx), paint_new h.new hc.size⟩, paint_next (by decide) hc⟩
/-- Leases that have changed. -/
theorem QL.lease {R : List Tim.It} (h : QL w q V S) (h1 : Tim.TimerAt w' S.t1 R (fun b => S.c b = 5 ∨ w.heap.size ≤ b)) (hc : Chg (fun b => S.c b = 5) w w') :
    QL w' q { V with R1 := R } { S with c := paint S.c w.heap.size w'.heap.size 5 } ∧ QNext w w' S { S with c := paint S.c w.heap.size w'.heap.size 5 } :=
  have hne : ∀ {j : Nat} {b : Nat}, j ≠ 5 → S.c b = j → ¬ S.c b = 5 := fun hj hb e => hj (hb.symm.trans e)
  ⟨⟨hc.heap h.blk (hne (by decide) h.cq), h.mp.keep hc (hne (by decide) h.cm), h.pl, fun x hx => hc.heap (h.ms x hx) (hne (by decide) (h.cp x hx)), h.nodup, h.wf, h.inj,
    (h.lan.keep hc fun _ hb => hne (by decide) hb).mono fun _ _ hb => paint_old h.new (by decide) hb, h1.mono fun b hb hbc => paint_mine hb hbc, (h.snt.keep hc fun _ hb => hne (by decide) hb).mono fun _ _ hb => paint_old h.new (by decide) hb, (h.key.keep hc fun _ hb => hne (by decide) hb).mono fun _ _ hb => paint_old h.new (by decide) hb,
    paint_old h.new (by decide) h.cq, paint_old h.new (by decide) h.cm, fun x hx => paint_old h.new (by decide) (h.cp x hx), paint_new h.new hc.size⟩, paint_next (by decide) hc⟩
/-- Times of sending that have changed. -/
theorem QL.sent {R : List Tim.It} (h : QL w q V S) (h1 : Tim.TimerAt w' S.t2 R (fun b => S.c b = 6 ∨ w.heap.size ≤ b)) (hc : Chg (fun b => S.c b = 6) w w') :
    QL w' q { V with R2 := R } { S with c := paint S.c w.heap.size w'.heap.size 6 } ∧ QNext w w' S { S with c := paint S.c w.heap.size w'.heap.size 6 } :=
  have hne : ∀ {j : Nat} {b : Nat}, j ≠ 6 → S.c b = j → ¬ S.c b = 6 := fun hj hb e => hj (hb.symm.trans e)
  ⟨⟨hc.heap h.blk (hne (by decide) h.cq), h.mp.keep hc (hne (by decide) h.cm), h.pl, fun x hx => hc.heap (h.ms x hx) (hne (by decide) (h.cp x hx)), h.nodup, h.wf, h.inj,
    (h.lan.keep hc fun _ hb => hne (by decide) hb).mono fun _ _ hb => paint_old h.new (by decide) hb, (h.les.keep hc fun _ hb => hne (by decide) hb).mono fun _ _ hb => paint_old h.new (by decide) hb, h1.mono fun b hb hbc => paint_mine hb hbc, (h.key.keep hc fun _ hb => hne (by decide) hb).mono fun _ _ hb => paint_old h.new (by decide) hb,
    paint_old h.new (by decide) h.cq, paint_old h.new (by decide) h.cm, fun x hx => paint_old h.new (by decide) (h.cp x hx), paint_new h.new hc.size⟩, paint_next (by decide) hc⟩
/-- .. where no new block is the timer's. -/
theorem QL.lease0 {R : List Tim.It} (h : QL w q V S) (h1 : Tim.TimerAt w' S.t1 R (fun b => S.c b = 5)) (hc : Chg (fun b => S.c b = 5) w w') : QL w' q { V with R1 := R } S ∧ QNext w w' S S :=
  have hne : ∀ {j : Nat} {b : Nat}, j ≠ 5 → S.c b = j → ¬ S.c b = 5 := fun hj hb e => hj (hb.symm.trans e)
  ⟨⟨hc.heap h.blk (hne (by decide) h.cq), h.mp.keep hc (hne (by decide) h.cm), h.pl, fun x hx => hc.heap (h.ms x hx) (hne (by decide) (h.cp x hx)), h.nodup, h.wf, h.inj,
    (h.lan.keep hc fun _ hb => hne (by decide) hb), h1, (h.snt.keep hc fun _ hb => hne (by decide) hb), (h.key.keep hc fun _ hb => hne (by decide) hb), h.cq, h.cm, h.cp, fun b hb => h.new b (Nat.le_trans hc.size hb)⟩, fun _ _ => rfl, hc.mono fun b _ hb => by rw [hb]; decide⟩
theorem QL.sent0 {R : List Tim.It} (h : QL w q V S) (h1 : Tim.TimerAt w' S.t2 R (fun b => S.c b = 6)) (hc : Chg (fun b => S.c b = 6) w w') : QL w' q { V with R2 := R } S ∧ QNext w w' S S :=
  have hne : ∀ {j : Nat} {b : Nat}, j ≠ 6 → S.c b = j → ¬ S.c b = 6 := fun hj hb e => hj (hb.symm.trans e)
  ⟨⟨hc.heap h.blk (hne (by decide) h.cq), h.mp.keep hc (hne (by decide) h.cm), h.pl, fun x hx => hc.heap (h.ms x hx) (hne (by decide) (h.cp x hx)), h.nodup, h.wf, h.inj,
    (h.lan.keep hc fun _ hb => hne (by decide) hb), (h.les.keep hc fun _ hb => hne (by decide) hb), h1, (h.key.keep hc fun _ hb => hne (by decide) hb), h.cq, h.cm, h.cp, fun b hb => h.new b (Nat.le_trans hc.size hb)⟩, fun _ _ => rfl, hc.mono fun b _ hb => by rw [hb]; decide⟩
/-- Lanes that no new block is of. -/
theorem QL.lane0 {Lt' : List Lan.Th} {N' : Nat} (h : QL w q V S) (h1 : Lan.LaneAt w' S.l Lt' N' (fun b => S.c b = 4)) (hc : Chg (fun b => S.c b = 4) w w') : QL w' q { V with Lt := Lt', N := N' } S ∧ QNext w w' S S :=
  have hne : ∀ {j : Nat} {b : Nat}, j ≠ 4 → S.c b = j → ¬ S.c b = 4 := fun hj hb e => hj (hb.symm.trans e)
  ⟨⟨hc.heap h.blk (hne (by decide) h.cq), h.mp.keep hc (hne (by decide) h.cm), h.pl, fun x hx => hc.heap (h.ms x hx) (hne (by decide) (h.cp x hx)), h.nodup, h.wf, h.inj,
    h1, (h.les.keep hc fun _ hb => hne (by decide) hb), (h.snt.keep hc fun _ hb => hne (by decide) hb), (h.key.keep hc fun _ hb => hne (by decide) hb), h.cq, h.cm, h.cp, fun b hb => h.new b (Nat.le_trans hc.size hb)⟩, fun _ _ => rfl, hc.mono fun b _ hb => by rw [hb]; decide⟩
/-- Keys that have changed. -/
theorem QL.keys {K' : List Led.En} (h : QL w q V S) (h1 : Led.LedAt w' S.k 4096 K' (fun b => S.c b = 7)) (hc : Chg (fun b => S.c b = 7) w w') : QL w' q { V with K := K' } S ∧ QNext w w' S S :=
  have hne : ∀ {j : Nat} {b : Nat}, j ≠ 7 → S.c b = j → ¬ S.c b = 7 := fun hj hb e => hj (hb.symm.trans e)
  ⟨⟨hc.heap h.blk (hne (by decide) h.cq), h.mp.keep hc (hne (by decide) h.cm), h.pl, fun x hx => hc.heap (h.ms x hx) (hne (by decide) (h.cp x hx)), h.nodup, h.wf, h.inj,
    (h.lan.keep hc fun _ hb => hne (by decide) hb), (h.les.keep hc fun _ hb => hne (by decide) hb), (h.snt.keep hc fun _ hb => hne (by decide) hb), h1, h.cq, h.cm, h.cp, fun b hb => h.new b (Nat.le_trans hc.size hb)⟩, fun _ _ => rfl, hc.mono fun b _ hb => by rw [hb]; decide⟩
/-- A store into the queue's own block. -/
theorem QL.store (h : QL w q V S) {i : Nat} {u : Value} {A : Att} {now last : Int} (he : (qcells V S).setIfInBounds i u = qcells { V with A := A, now := now, last := last } S) :
    QL (w.setCell ⟨q, i, none⟩ u) q { V with A := A, now := now, last := last } S ∧ QNext w (w.setCell ⟨q, i, none⟩ u) S S :=
  have hc : Chg (fun b => b = q) w (w.setCell ⟨q, i, none⟩ u) := Chg.set _ _ _ _
  have hne : ∀ {j : Nat} {b : Nat}, j ≠ 1 → S.c b = j → ¬ b = q := fun hj hb e => hj (by rw [← hb, e, h.cq])
  have hb := heap_setCell_same h.blk i u
  ⟨⟨he ▸ hb, h.mp.keep hc (hne (by decide) h.cm), h.pl, fun x hx => hc.heap (h.ms x hx) (hne (by decide) (h.cp x hx)), h.nodup, h.wf, h.inj,
    (h.lan.keep hc fun _ hb => hne (by decide) hb), (h.les.keep hc fun _ hb => hne (by decide) hb), (h.snt.keep hc fun _ hb => hne (by decide) hb), (h.key.keep hc fun _ hb => hne (by decide) hb), h.cq, h.cm, h.cp, fun b hb => h.new b (Nat.le_trans hc.size hb)⟩, fun _ _ => rfl, hc.mono fun b _ hb => by rw [hb, h.cq]; decide⟩
theorem QL.setNow (h : QL w q V S) (n : Int) : QL (w.setCell ⟨q, 7, none⟩ (.int .i64 n)) q { V with now := n } S ∧ QNext w (w.setCell ⟨q, 7, none⟩ (.int .i64 n)) S S := h.store (A := V.A) (last := V.last) rfl
theorem QL.setLast (h : QL w q V S) (n : Int) : QL (w.setCell ⟨q, 8, none⟩ (.int .i64 n)) q { V with last := n } S ∧ QNext w (w.setCell ⟨q, 8, none⟩ (.int .i64 n)) S S := h.store (A := V.A) (now := V.now) rfl

/-! ### messages -/
def bumpM (M : List Mm) (k : Int) : List Mm := M.map fun x => if x.id = k then { x with count := x.count + 1 } else x
def dropM (M : List Mm) (k : Int) : List Mm := M.filter fun x => decide (x.id ≠ k)
theorem bump_ids (M : List Mm) (k : Int) : (bumpM M k).map Mm.id = M.map Mm.id := by
  unfold bumpM
  rw [List.map_map]
  apply List.map_congr_left
  intro x _
  show (if x.id = k then _ else x).id = x.id
  split <;> rfl
theorem findM_bump (M : List Mm) (k j : Int) : (findM (bumpM M k) j).isSome = (findM M j).isSome := by
  induction M with
  | nil => rfl
  | cons x r ih =>
    have e : bumpM (x :: r) k = (if x.id = k then { x with count := x.count + 1 } else x) :: bumpM r k := rfl
    have ei : (if x.id = k then { x with count := x.count + 1 } else x : Mm).id = x.id := by split <;> rfl
    unfold findM at *
    rw [e]
    by_cases hj : x.id = j
    · rw [List.find?_cons_of_pos (by rw [ei]; simpa using hj), List.find?_cons_of_pos (by simpa using hj)]; rfl
    · rw [List.find?_cons_of_neg (by rw [ei]; simpa using hj), List.find?_cons_of_neg (by simpa using hj)]; exact ih
theorem map_isSome {o p : Option Mm} (h : o.isSome = p.isSome) (v : Value) : (o.map fun _ => v) = p.map fun _ => v := by
  cases o <;> cases p <;> first | rfl | cases h
/-- A message is counted once more. -/
theorem QL.bump (h : QL w q V S) {x : Mm} (hx : x ∈ V.M) : QL (w.setCell ⟨S.pb x.id, 1, none⟩ (.int .i64 (x.count + 1))) q { V with M := bumpM V.M x.id } S ∧ QNext w (w.setCell ⟨S.pb x.id, 1, none⟩ (.int .i64 (x.count + 1))) S S :=
  have hc : Chg (fun b => b = S.pb x.id) w (w.setCell ⟨S.pb x.id, 1, none⟩ (.int .i64 (x.count + 1))) := Chg.set _ _ _ _
  have hne : ∀ {j : Nat} {b : Nat}, j ≠ 3 → S.c b = j → ¬ b = S.pb x.id := fun hj hb e => hj (by rw [← hb, e, h.cp x hx])
  ⟨⟨hc.heap h.blk (hne (by decide) h.cq), by
    have := h.mp.keep hc (hne (by decide) h.cm)
    have e : (bumpM V.M x.id).length = V.M.length := by unfold bumpM; rw [List.length_map]
    show MapV _ _ _ _ (bumpM V.M x.id).length _
    rw [e]; exact this, fun k => (h.pl k).trans (map_isSome (findM_bump V.M x.id k).symm _), fun y hy => by
    obtain ⟨z, hz, rfl⟩ := List.mem_map.1 hy
    by_cases hzx : z.id = x.id
    · obtain rfl := nodup_one h.nodup hz hx hzx
      rw [if_pos rfl]
      exact heap_setCell_same (h.ms z hz) 1 _
    · rw [if_neg hzx]
      exact hc.heap (h.ms z hz) fun e => hzx (h.inj z hz x hx e), by rw [bump_ids]; exact h.nodup, fun y hy => by
    obtain ⟨z, hz, rfl⟩ := List.mem_map.1 hy
    split <;> exact h.wf z hz, fun y hy y' hy' e => by
    obtain ⟨z, hz, rfl⟩ := List.mem_map.1 hy
    obtain ⟨z', hz', rfl⟩ := List.mem_map.1 hy'
    have e1 : ∀ z : Mm, (if z.id = x.id then { z with count := z.count + 1 } else z : Mm).id = z.id := fun z => by split <;> rfl
    rw [e1, e1] at e ⊢
    exact h.inj z hz z' hz' e,
    (h.lan.keep hc fun _ hb => hne (by decide) hb), (h.les.keep hc fun _ hb => hne (by decide) hb), (h.snt.keep hc fun _ hb => hne (by decide) hb), (h.key.keep hc fun _ hb => hne (by decide) hb), h.cq, h.cm, fun y hy => by
    obtain ⟨z, hz, rfl⟩ := List.mem_map.1 hy
    have e1 : (if z.id = x.id then { z with count := z.count + 1 } else z : Mm).id = z.id := by split <;> rfl
    rw [e1]; exact h.cp z hz, fun b hb => h.new b (Nat.le_trans hc.size hb)⟩, fun _ _ => rfl, hc.mono fun b _ hb => by rw [hb, h.cp x hx]; decide⟩
theorem findM_drop_same (M : List Mm) (k : Int) : findM (dropM M k) k = none := findM_none.2 fun y hy => by simpa using (List.mem_filter.1 hy).2
theorem findM_drop_other (M : List Mm) {k j : Int} (h : j ≠ k) : findM (dropM M k) j = findM M j := by
  unfold findM dropM
  induction M with
  | nil => rfl
  | cons x r ih =>
    by_cases hx : x.id = k
    · rw [List.filter_cons_of_neg (by simpa using hx), ih, List.find?_cons_of_neg (by simpa using fun e => h (e.symm.trans hx))]
    · rw [List.filter_cons_of_pos (by simpa using hx)]
      by_cases hj : x.id = j
      · rw [List.find?_cons_of_pos (by simpa using hj), List.find?_cons_of_pos (by simpa using hj)]
      · rw [List.find?_cons_of_neg (by simpa using hj), List.find?_cons_of_neg (by simpa using hj), ih]
theorem dropM_len {M : List Mm} (h : (M.map Mm.id).Nodup) (k : Int) : (dropM M k).length = if (findM M k).isSome then M.length - 1 else M.length := by
  unfold dropM findM
  induction M with
  | nil => rfl
  | cons x r ih =>
    rw [List.map_cons, List.nodup_cons] at h
    by_cases hx : x.id = k
    · rw [List.filter_cons_of_neg (by simpa using hx), List.find?_cons_of_pos (by simpa using hx)]
      have : r.filter (fun y => decide (y.id ≠ k)) = r := by
        apply List.filter_eq_self.2
        intro y hy
        simp only [decide_eq_true_eq]
        exact fun e => h.1 (by rw [hx, ← e]; exact List.mem_map_of_mem hy)
      rw [this]
      simp
    · rw [List.filter_cons_of_pos (by simpa using hx), List.find?_cons_of_neg (by simpa using hx), List.length_cons, List.length_cons, ih h.2]
      cases hf : r.find? fun x => decide (x.id = k) with
      | none => rfl
      | some y =>
        have : 0 < r.length := List.length_pos_of_mem (List.mem_of_find?_eq_some hf)
        simp
        omega
theorem delV_len {f : Lit → Option Value} {k j : Int} : delV f (.int .i64 k) (.int .i64 j) = if j = k then none else f (.int .i64 j) := by
  by_cases h : j = k
  · rw [if_pos h, h, delV_same]
  · rw [if_neg h, delV_other _ (fun e => h (by simpa using e))]
/-- A message goes out of the map. -/
theorem QL.del (h : QL w q V S) {k : Int} (hk : Lan.wfk k) (ty : TypeId) :
    ∃ w', (Builtin.delete_ #[76, 3] ty #[.map (some S.m), .int .i64 k]).run Tryz.prog w = .ok (.tuple #[]) w' ∧ QL w' q { V with M := dropM V.M k } { S with f := delV S.f (.int .i64 k) } ∧ QNext w w' S { S with f := delV S.f (.int .i64 k) } := by
  obtain ⟨w', hrun, hm, hc⟩ := h.mp.cut Lan.keyed_int Tryz.underlying76 (Lan.key_int hk) ty
  have hne : ∀ {j : Nat} {b : Nat}, j ≠ 2 → S.c b = j → ¬ b = S.m := fun hj hb e => hj (by rw [← hb, e, h.cm])
  have hsub : ∀ x ∈ dropM V.M k, x ∈ V.M := fun x hx => (List.mem_filter.1 hx).1
  refine ⟨w', hrun, ⟨hc.heap h.blk (hne (by decide) h.cq), ?_, fun j => ?_, fun x hx => hc.heap (h.ms x (hsub x hx)) (hne (by decide) (h.cp x (hsub x hx))), h.nodup.sublist (List.Sublist.map _ List.filter_sublist), fun x hx => h.wf x (hsub x hx), fun x hx y hy => h.inj x (hsub x hx) y (hsub y hy),
    (h.lan.keep hc fun _ hb => hne (by decide) hb), (h.les.keep hc fun _ hb => hne (by decide) hb), (h.snt.keep hc fun _ hb => hne (by decide) hb), (h.key.keep hc fun _ hb => hne (by decide) hb), h.cq, h.cm, fun x hx => h.cp x (hsub x hx), fun b hb => h.new b (Nat.le_trans hc.size hb)⟩, fun _ _ => rfl, hc.mono fun b _ hb => by rw [hb, h.cm]; decide⟩
  · have hl := dropM_len h.nodup k
    rw [h.pl, Option.isSome_map, ← hl] at hm
    exact hm
  · show delV S.f _ _ = _
    rw [delV_len]
    by_cases hj : j = k
    · rw [if_pos hj, hj]
      show none = (findM (dropM V.M k) k).map _
      rw [findM_drop_same]
      rfl
    · rw [if_neg hj, h.pl]
      show _ = (findM (dropM V.M k) j).map _
      rw [findM_drop_other _ hj]
theorem putV_len {f : Lit → Option Value} {k j : Int} {v : Value} : putV f (.int .i64 k) v (.int .i64 j) = if j = k then some v else f (.int .i64 j) := by
  by_cases h : j = k
  · rw [if_pos h, h, putV_same]
  · rw [if_neg h, putV_other _ _ (fun e => h (by simpa using e))]
def pbSet (pb : Int → Nat) (k : Int) (b : Nat) : Int → Nat := fun j => if j = k then b else pb j
theorem findM_snoc (M : List Mm) (x : Mm) (j : Int) : findM (M ++ [x]) j = (findM M j).or (if x.id = j then some x else none) := by
  unfold findM
  rw [List.find?_append]
  congr 1
  by_cases hj : x.id = j
  · rw [if_pos hj, List.find?_cons_of_pos (by simpa using hj)]
  · rw [if_neg hj, List.find?_cons_of_neg (by simpa using hj)]; rfl
/-- A message comes. -/
theorem QL.put (h : QL w q V S) {x : Mm} (hx : findM V.M x.id = none) (hk : Lan.wfk x.id) (hn : V.M.length < 900000) {W : World} (hW : Below w.heap.size w W) {b : Nat} (hb0 : w.heap.size ≤ b) (hb : W.heap[b]? = some (.cells (mcells x) 84 (0, 0))) :
    ∃ w', (Instr.mapUpdate 76 (.map (some S.m)) (.int .i64 x.id) (.pointer (some ⟨b, 0, none⟩))).run Tryz.prog W = .ok () w' ∧ ∃ S', QL w' q { V with M := V.M ++ [x] } S' ∧ QNext w w' S S' := by
  obtain ⟨hL, hN⟩ := h.below hW
  obtain ⟨w', hrun, hm, hc⟩ := hL.mp.put Lan.keyed_int Tryz.underlying76 (by unfold maxLen; omega) (Lan.key_int hk) (.pointer (some ⟨b, 0, none⟩))
  have hbl := Lan.lt_of_block hb
  have hcb : S.c b = 0 := h.new b hb0
  have hnb : ∀ y ∈ V.M, y.id ≠ x.id := fun y hy => findM_none.1 hx y hy
  have hlow : ∀ {j b' : Nat}, j ≠ 0 → S.c b' = j → (if b' = b then 3 else S.c b') = j := fun hj hb' => by
    rw [if_neg fun e => hj (by rw [← hb', e, hcb])]; exact hb'
  have hne : ∀ {j : Nat} {b : Nat}, j ≠ 2 → S.c b = j → ¬ b = S.m := fun hj hb e => hj (by rw [← hb, e, h.cm])
  have hpb : ∀ y ∈ V.M, pbSet S.pb x.id b y.id = S.pb y.id := fun y hy => by unfold pbSet; rw [if_neg (hnb y hy)]
  have hpx : pbSet S.pb x.id b x.id = b := by unfold pbSet; rw [if_pos rfl]
  have hbm : b ≠ S.m := fun e => by rw [e, h.cm] at hcb; cases hcb
  refine ⟨w', hrun, { S with f := putV S.f (.int .i64 x.id) (.pointer (some ⟨b, 0, none⟩)), pb := pbSet S.pb x.id b, c := fun b' => if b' = b then 3 else S.c b' }, ⟨hc.heap hL.blk (hne (by decide) h.cq), ?_, fun j => ?_, fun y hy => ?_, ?_, fun y hy => ?_, fun y hy y' hy' e => ?_,
    (hL.lan.keep hc fun _ hb => hne (by decide) hb).mono fun _ _ hb => hlow (by decide) hb, (hL.les.keep hc fun _ hb => hne (by decide) hb).mono fun _ _ hb => hlow (by decide) hb, (hL.snt.keep hc fun _ hb => hne (by decide) hb).mono fun _ _ hb => hlow (by decide) hb, (hL.key.keep hc fun _ hb => hne (by decide) hb).mono fun _ _ hb => hlow (by decide) hb,
    hlow (by decide) h.cq, hlow (by decide) h.cm, fun y hy => ?_, fun b' hb' => ?_⟩, fun b' hb' => ?_, (hN.2.trans hc fun b' _ e => by rw [e, h.cm]; decide)⟩
  · show MapV _ _ _ _ (V.M ++ [x]).length _
    rw [hL.pl, hx] at hm
    rw [List.length_append]
    exact hm
  · show putV S.f _ _ _ = _
    rw [putV_len]
    show _ = (findM (V.M ++ [x]) j).map fun _ => ptr (pbSet S.pb x.id b j)
    rw [findM_snoc]
    by_cases hj : j = x.id
    · rw [if_pos hj, if_pos hj.symm, hj, hx, hpx]; rfl
    · rw [if_neg hj, if_neg fun e => hj e.symm, Option.or_none, h.pl]
      unfold pbSet
      rw [if_neg hj]
  · rcases List.mem_append.1 hy with hy | hy
    · show w'.heap[pbSet S.pb x.id b y.id]? = _
      rw [hpb y hy]
      exact hc.heap (hL.ms y hy) (hne (by decide) (h.cp y hy))
    · obtain rfl := List.mem_singleton.1 hy
      show w'.heap[pbSet S.pb y.id b y.id]? = _
      rw [hpx]
      exact hc.heap hb hbm
  · show ((V.M ++ [x]).map Mm.id).Nodup
    rw [List.map_append]
    exact List.nodup_append.2 ⟨h.nodup, List.pairwise_singleton _ _, fun a ha b' hb' => by
      obtain ⟨y, hy, rfl⟩ := List.mem_map.1 ha
      rw [List.mem_singleton.1 hb']
      exact hnb y hy⟩
  · rcases List.mem_append.1 hy with hy | hy
    · exact h.wf y hy
    · rw [List.mem_singleton.1 hy]; exact hk
  · have e' : pbSet S.pb x.id b y.id = pbSet S.pb x.id b y'.id := e
    have hold : ∀ z ∈ V.M, S.pb z.id ≠ b := fun z hz e => by have := h.cp z hz; rw [e, hcb] at this; cases this
    rcases List.mem_append.1 hy with hy | hy <;> rcases List.mem_append.1 hy' with hy' | hy'
    · rw [hpb y hy, hpb y' hy'] at e'
      exact h.inj y hy y' hy' e'
    · rw [List.mem_singleton.1 hy', hpb y hy, hpx] at e'
      exact absurd e' (hold y hy)
    · rw [List.mem_singleton.1 hy, hpb y' hy', hpx] at e'
      exact absurd e'.symm (hold y' hy')
    · rw [List.mem_singleton.1 hy, List.mem_singleton.1 hy']
  · show (if pbSet S.pb x.id b y.id = b then 3 else S.c (pbSet S.pb x.id b y.id)) = 3
    rcases List.mem_append.1 hy with hy | hy
    · rw [hpb y hy]
      exact hlow (by decide) (h.cp y hy)
    · rw [List.mem_singleton.1 hy, hpx, if_pos rfl]
  · have h1 := hc.size
    show (if b' = b then 3 else S.c b') = 0
    rw [if_neg (by omega)]
    exact hL.new b' (by omega)
  · show (if b' = b then 3 else S.c b') = S.c b'
    rw [if_neg (by omega)]
end
end Go.Proofs.YtdjieapobodakaaGreatDoor
end

section
namespace Go.Proofs.YtdjieapobodakaaGreatDoor
open Go Go.RowKit Go.Maps Go.WideMaps

theorem within_any (n a b : Int) (w : World) : Calls Tryz.prog 33 #[.int .i64 n, .int .i64 a, .int .i64 b] w fun e w' => e = .returned (.bool (within n a b)) ∧ w = w' := by
  have HE : Hid (within n a b = (decide (a ≤ n) && decide (n ≤ b))) := Lib.hid rfl
  go_enter Tryz.func33, Tryz.ntmps33
  go_wp2
  all_goals
    rename_i hx
    go_ret
    refine ⟨?_, rfl⟩
    rw [HE.out]
    first
      | (rw [decide_eq_true hx, Bool.true_and]; rfl)
      | (rw [decide_eq_false (Int.not_le.2 hx), Bool.false_and]; rfl)
def attV (a : Att) : Value := .agg #[.int .i64 a.vis, .int .i64 a.ret, .int .i64 a.del, .int .i64 a.win, .int .i64 a.max, .string a.dead, .bool a.fifo]
theorem empty_is (s : ByteArray) : s.toList.isEmpty = decide (s = ⟨#[]⟩) := by
  have h := Led.str_eq s ⟨#[]⟩
  have e : (⟨#[]⟩ : ByteArray).toList = [] := by rw [ByteArray.toList_eq]
  rw [← h, e]
  cases s.toList <;> rfl
theorem Right_grown (a : Att) (w : World) : Calls Tryz.prog 15 #[attV a] w fun e w' => e = .returned (.bool a.right) ∧ ∃ n os, w' = Go.Sort.grow (w.drewN n) os := by
  have HW := Lib.hid fun n x y w => within_any n x y w
  unfold attV
  have HE : Hid (a.right = (within a.vis 1 1048576 && within a.ret 1 1048576 && within a.del 0 1048576 && within a.win 0 1048576 && within a.max 0 100 && decide (a.dead.size ≤ 64) && ((!decide (a.dead = ⟨#[]⟩)) == decide (0 < a.max)))) := Lib.hid rfl
  go_enter Tryz.func15, Tryz.ntmps15
  go_wp2_with (go_at_call 33; refine (HW.out _ _ _ _).mono ?_; rintro e w1 ⟨rfl, rfl⟩)
  all_goals
    go_ret
    refine ⟨?_, 0, #[_], rfl⟩
    rw [HE.out]
    first
      | (simp [*]; done)
      | (simp [*]; intro hq; omega)
      | (rename_i hq
         have h1 : a.dead.size ≤ 64 := by omega
         have h2 : a.dead.toList.isEmpty = decide (a.dead = ⟨#[]⟩) := empty_is a.dead
         simp [*])
theorem grown_below2 (w : World) (n : Nat) (os : Array Obj) : Below w.heap.size w (Go.Sort.grow (w.drewN n) os) := Lib.below_grow w.heap.size w (Nat.le_refl _) n os
theorem Right_any (a : Att) (w : World) : Calls Tryz.prog 15 #[attV a] w fun e w' => e = .returned (.bool a.right) ∧ Below w.heap.size w w' :=
  (Right_grown a w).mono fun _ _ ⟨he, n, os, hw⟩ => ⟨he, hw ▸ grown_below2 w n os⟩
end Go.Proofs.YtdjieapobodakaaGreatDoor
end
