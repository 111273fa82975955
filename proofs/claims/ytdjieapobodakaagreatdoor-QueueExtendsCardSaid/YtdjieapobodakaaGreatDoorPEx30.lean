/- What is proved here: what Send makes of a queue's parts, where a message comes, or no key has room. -/
/- What is proved here: what Ack and Extend make of a queue's parts. -/
/- What is proved here: how a queue's parts stand to the plain queue; what each call makes of both. -/
import Derived.Test.YtdjieapobodakaaGreatDoorPEx29
import Derived.Test.YtdjieapobodakaaGreatDoorPEx25
import Derived.Test.YtdjieapobodakaaGreatDoorPEx28
section
namespace Go.Proofs.YtdjieapobodakaaGreatDoor
open Go Go.RowKit Go.Maps Go.WideMaps

section
variable {w w' : World} {q : Nat} {V : QV} {S : QS}
theorem addV_key (V : QV) (key : ByteArray) (h : keyed V.A key = false) : keyV2 V key = V := by unfold keyV2; rw [h]; rfl
theorem Few.key {V : QV} (h : CanAdd V) {K : List Led.En} (hK : K.length < 900000) : CanAdd { V with K := K } := ⟨⟨h.few.n, h.few.m, h.few.l, h.few.r1, h.few.r2, hK⟩, h.del, h.win, h.now, h.last, h.hM, h.hL⟩
theorem CanAdd.add {V : QV} (h : CanAdd V) (hq : QL w q V S) {body group : ByteArray} (hg : group.size ≤ maxLen) {delay : Int} (hd : -1 ≤ delay ∧ delay ≤ 1048576) :
    Calls Tryz.prog 40 #[.pointer (some ⟨q, 0, none⟩), .string body, .string group, .int .i64 delay] w fun e w' => e = .returned (.int .i64 (V.last + 1)) ∧ Hid (QGot w q (addV V body group delay) S w') :=
  add_any hq h.few hg hd h.del h.now h.last h.hM h.hL
set_option maxHeartbeats 1600000 in
set_option maxRecDepth 100000 in
theorem Send_plain (h : QL w q V S) (hc : CanAdd V) {body group key : ByteArray} {delay : Int} (ht : takes V.A body group key delay = true) (hx : Led.findE V.K key = none) (hl : ¬ 1024 ≤ V.M.length) (hy : keyed V.A key = false) :
    Calls Tryz.prog 18 #[.pointer (some ⟨q, 0, none⟩), .string body, .string group, .string key, .int .i64 delay] w (SendSaid V body group key delay q S w) := by
  have htp := takes_parts ht
  have hk : key.size ≤ maxLen := Nat.le_trans htp.2.2.1 (by unfold maxLen; decide)
  have hg : group.size ≤ maxLen := Nat.le_trans htp.2.1 (by unfold maxLen; decide)
  have HT := Lib.hid (h.takes body group key delay)
  rw [ht] at HT
  have HG : Hid (∀ w1, QL w1 q V S ∧ QNext w w1 S S → Calls Tryz.prog 38 #[.pointer (some ⟨S.k, 0, none⟩), .string key] w1 fun e w' => e = .returned (.tuple #[.int .i64 0, .bool false]) ∧ Hid (QL w' q V S ∧ QNext w w' S S)) := Lib.hid fun w1 h1 => by
    refine (h1.1.kGet hk).mono ?_
    rintro e w2 ⟨rfl, H2⟩
    refine ⟨?_, Lib.hid ⟨H2.out.1, h1.2.trans H2.out.2.1⟩⟩
    rw [hx]
    rfl
  have HA : Hid (∀ w1, QL w1 q V S ∧ QNext w w1 S S → Calls Tryz.prog 40 #[.pointer (some ⟨q, 0, none⟩), .string body, .string group, .int .i64 delay] w1 fun e w' => e = .returned (.int .i64 (V.last + 1)) ∧ Hid (QGot w q (addV V body group delay) S w')) := Lib.hid fun w1 h1 => by
    refine (hc.add h1.1 hg htp.2.2.2.2).mono ?_
    rintro e w2 ⟨rfl, H2⟩
    obtain ⟨S2, h2, n2⟩ := H2.out
    exact ⟨rfl, Lib.hid ⟨S2, h2, h1.2.trans n2⟩⟩
  have HE : Hid (∀ e w', e = twoE (V.last + 1, 0) ∧ Hid (QGot w q (addV V body group delay) S w') → SendSaid V body group key delay q S w e w') := Lib.hid fun e w' hz => by
    unfold SendSaid sendVA sendV
    rw [ht, hx]
    simp only [Bool.not_true, Bool.false_eq_true, if_false, if_neg hl, hy, Bool.false_and, addV_key V key hy]
    exact hz
  have hl2 : decide (1024 ≤ (V.M.length : Int)) = false := decide_eq_false (by omega)
  have hcase : key.toList.isEmpty = true ∨ (key.toList.isEmpty = false ∧ decide (0 < V.A.win) = false) := by
    rw [empty_is]
    unfold keyed at hy
    cases hd : decide (key = ⟨#[]⟩) with
    | true => exact .inl rfl
    | false =>
      rw [hd] at hy
      exact .inr ⟨rfl, by simpa using hy⟩
  clear h ht hk hx hl hg hy hc htp
  rcases hcase with hd | ⟨hd, hw⟩
  all_goals
    go_enter Tryz.func18, Tryz.ntmps18
    go_wp2_with (first
      | (go_at_call 37; refine HT.out.mono ?_; rintro e w1 ⟨rfl, H1⟩; obtain ⟨c0, c1, c2, c3, c4, c5, c6, c7, c8, c9, c10, c11, c12, c13⟩ := H1.out.1.cells; clear HT)
      | (go_at_call 38; refine (HG.out _ H1.out).mono ?_; rintro e w2 ⟨rfl, H2⟩; obtain ⟨c0, c1, c2, c3, c4, c5, c6, c7, c8, c9, c10, c11, c12, c13⟩ := H2.out.1.cells; have hlen := fun ty => H2.out.1.len ty)
      | (go_at_call 40; refine (HA.out _ H2.out).mono ?_; rintro e w3 ⟨rfl, H3⟩))
    go_ret2
    exact HE.out _ _ ⟨rfl, H3⟩
set_option maxHeartbeats 1600000 in
set_option maxRecDepth 100000 in
theorem Send_key (h : QL w q V S) (hc : CanAdd V) {body group key : ByteArray} {delay : Int} (ht : takes V.A body group key delay = true) (hx : Led.findE V.K key = none) (hl : ¬ 1024 ≤ V.M.length) (hy : keyed V.A key = true) :
    Calls Tryz.prog 18 #[.pointer (some ⟨q, 0, none⟩), .string body, .string group, .string key, .int .i64 delay] w (SendSaid V body group key delay q S w) := by
  have htp := takes_parts ht
  have hk : key.size ≤ maxLen := Nat.le_trans htp.2.2.1 (by unfold maxLen; decide)
  have hg : group.size ≤ maxLen := Nat.le_trans htp.2.1 (by unfold maxLen; decide)
  have HT := Lib.hid (h.takes body group key delay)
  rw [ht] at HT
  have HG : Hid (∀ w1, QL w1 q V S ∧ QNext w w1 S S → Calls Tryz.prog 38 #[.pointer (some ⟨S.k, 0, none⟩), .string key] w1 fun e w' => e = .returned (.tuple #[.int .i64 0, .bool false]) ∧ Hid (QL w' q V S ∧ QNext w w' S S)) := Lib.hid fun w1 h1 => by
    refine (h1.1.kGet hk).mono ?_
    rintro e w2 ⟨rfl, H2⟩
    refine ⟨?_, Lib.hid ⟨H2.out.1, h1.2.trans H2.out.2.1⟩⟩
    rw [hx]
    rfl
  have HP : Hid (∀ w1, QL w1 q V S ∧ QNext w w1 S S → Calls Tryz.prog 39 #[.pointer (some ⟨S.k, 0, none⟩), .string key, .int .i64 (V.last + 1), .int .i64 (V.now + V.A.win)] w1.drew fun e w' => e = .returned (.int .i64 (Led.putA 4096 V.K key)) ∧ Hid (QGot w q { V with K := Led.putR 4096 V.K ⟨key, .int .i64 (V.last + 1), V.now + V.A.win⟩ } S w')) := Lib.hid fun w1 h1 => by
    obtain ⟨h2, n2⟩ := h1.1.below ((Below.refl w1.heap.size w1).drew)
    refine (h2.kPut hc.few.k hk (V.last + 1) (V.now + V.A.win)).mono ?_
    rintro e w3 ⟨rfl, H3⟩
    obtain ⟨S3, h3, n3⟩ := H3.out
    exact ⟨rfl, Lib.hid ⟨S3, h3, h1.2.trans (n2.trans n3)⟩⟩
  have hd : key.toList.isEmpty = false := by
    rw [empty_is]
    unfold keyed at hy
    simpa using (Bool.and_eq_true_iff.1 hy).1
  have hw : decide (0 < V.A.win) = true := by
    unfold keyed at hy
    exact (Bool.and_eq_true_iff.1 hy).2
  have hw1 : IntKind.i64.wrap (V.last + 1) = V.last + 1 := IntWalk.i64_in _ (by have := hc.last; omega)
  have hw2 : IntKind.i64.wrap (V.now + V.A.win) = V.now + V.A.win := IntWalk.i64_in _ (by have := hc.now; have := hc.win; omega)
  have hl2 : decide (1024 ≤ (V.M.length : Int)) = false := decide_eq_false (by omega)
  by_cases hf : 4096 ≤ V.K.length
  · have ha : Led.putA 4096 V.K key = 5 := by unfold Led.putA Led.full; rw [hx]; simp [hf]
    have hr : Led.putR 4096 V.K ⟨key, .int .i64 (V.last + 1), V.now + V.A.win⟩ = V.K := by unfold Led.putR Led.full; rw [hx]; simp [hf]
    rw [ha, hr] at HP
    have HE : Hid (∀ e w', e = twoE (0, 5) ∧ Hid (QGot w q V S w') → SendSaid V body group key delay q S w e w') := Lib.hid fun e w' hz => by
      unfold SendSaid sendVA sendV
      rw [ht, hx]
      simp only [Bool.not_true, Bool.false_eq_true, if_false, if_neg hl, hy, Bool.true_and, decide_eq_true hf, if_true]
      exact hz
    clear h ht hk hx hl hg hy hc htp hf ha hr
    go_enter Tryz.func18, Tryz.ntmps18
    go_wp2_with (first
      | (go_at_call 37; refine HT.out.mono ?_; rintro e w1 ⟨rfl, H1⟩; obtain ⟨c0, c1, c2, c3, c4, c5, c6, c7, c8, c9, c10, c11, c12, c13⟩ := H1.out.1.cells; clear HT)
      | (go_at_call 38; refine (HG.out _ H1.out).mono ?_; rintro e w2 ⟨rfl, H2⟩; obtain ⟨c0, c1, c2, c3, c4, c5, c6, c7, c8, c9, c10, c11, c12, c13⟩ := H2.out.1.cells; have hlen := fun ty => H2.out.1.len ty))
    go_still_tail 20, (by kernel_rfl)
    change wpList _ _ _ _ _ w2.drew
    go_wp2_with (go_at_call 39; refine (HP.out _ H2.out).mono ?_; rintro e w3 ⟨rfl, H3⟩)
    go_ret2
    exact HE.out _ _ ⟨rfl, H3⟩
  · have ha : Led.putA 4096 V.K key = 0 := by unfold Led.putA Led.full; rw [hx]; simp [hf]
    have hr : Led.putR 4096 V.K ⟨key, .int .i64 (V.last + 1), V.now + V.A.win⟩ = Led.putE V.K ⟨key, .int .i64 (V.last + 1), V.now + V.A.win⟩ := by unfold Led.putR Led.full; rw [hx]; simp [hf]
    rw [ha, hr] at HP
    have HA : Hid (∀ w1, QGot w q { V with K := Led.putE V.K ⟨key, .int .i64 (V.last + 1), V.now + V.A.win⟩ } S w1 → Calls Tryz.prog 40 #[.pointer (some ⟨q, 0, none⟩), .string body, .string group, .int .i64 delay] w1 fun e w' => e = .returned (.int .i64 (V.last + 1)) ∧ Hid (QGot w q (addV { V with K := Led.putE V.K ⟨key, .int .i64 (V.last + 1), V.now + V.A.win⟩ } body group delay) S w')) := Lib.hid fun w1 ⟨S1, h1, n1⟩ => by
      have hlen : (Led.putE V.K ⟨key, .int .i64 (V.last + 1), V.now + V.A.win⟩).length ≤ V.K.length + 1 := length_putN _ _
      refine ((Few.key hc (by omega)).add h1 hg htp.2.2.2.2).mono ?_
      rintro e w2 ⟨rfl, H2⟩
      obtain ⟨S2, h2, n2⟩ := H2.out
      exact ⟨rfl, Lib.hid ⟨S2, h2, n1.trans n2⟩⟩
    have HE : Hid (∀ e w', e = twoE (V.last + 1, 0) ∧ Hid (QGot w q (addV { V with K := Led.putE V.K ⟨key, .int .i64 (V.last + 1), V.now + V.A.win⟩ } body group delay) S w') → SendSaid V body group key delay q S w e w') := Lib.hid fun e w' hz => by
      unfold SendSaid sendVA sendV keyV2
      rw [ht, hx]
      simp only [Bool.not_true, Bool.false_eq_true, if_false, if_neg hl, hy, Bool.true_and, decide_eq_false hf, if_true]
      exact hz
    clear h ht hk hx hl hg hy hc htp hf ha hr
    go_enter Tryz.func18, Tryz.ntmps18
    go_wp2_with (first
      | (go_at_call 37; refine HT.out.mono ?_; rintro e w1 ⟨rfl, H1⟩; obtain ⟨c0, c1, c2, c3, c4, c5, c6, c7, c8, c9, c10, c11, c12, c13⟩ := H1.out.1.cells; clear HT)
      | (go_at_call 38; refine (HG.out _ H1.out).mono ?_; rintro e w2 ⟨rfl, H2⟩; obtain ⟨c0, c1, c2, c3, c4, c5, c6, c7, c8, c9, c10, c11, c12, c13⟩ := H2.out.1.cells; have hlen := fun ty => H2.out.1.len ty))
    go_still_tail 20, (by kernel_rfl)
    change wpList _ _ _ _ _ w2.drew
    go_wp2_with (first
      | (go_at_call 39; refine (HP.out _ H2.out).mono ?_; rintro e w3 ⟨rfl, H3⟩)
      | (go_at_call 40; refine (HA.out _ H3.out).mono ?_; rintro e w4 ⟨rfl, H4⟩))
    go_ret2
    exact HE.out _ _ ⟨rfl, H4⟩
theorem Send_ql (h : QL w q V S) (hc : CanAdd V) (body group key : ByteArray) (delay : Int) :
    Calls Tryz.prog 18 #[.pointer (some ⟨q, 0, none⟩), .string body, .string group, .string key, .int .i64 delay] w (SendSaid V body group key delay q S w) := by
  cases ht : takes V.A body group key delay with
  | false => exact Send_not h ht
  | true =>
    cases hx : Led.findE V.K key with
    | some x => exact Send_known h ht hx
    | none =>
      by_cases hl : 1024 ≤ V.M.length
      · exact Send_full h ht hx hl
      · cases hy : keyed V.A key with
        | false => exact Send_plain h hc ht hx hl hy
        | true => exact Send_key h hc ht hx hl hy
end
end Go.Proofs.YtdjieapobodakaaGreatDoor
end

section
namespace Go.Proofs.YtdjieapobodakaaGreatDoor
open Go Go.RowKit Go.Maps Go.WideMaps

def ackVA (V : QV) (t : ByteArray) : Int × Int := match findR V t with | none => (0, 8) | some m => (m.id, 0)
def ackV (V : QV) (t : ByteArray) : QV := match findR V t with | none => V | some m => rmV V m.id
def extVA (V : QV) (t : ByteArray) (n : Int) : Int := if !within n 0 1048576 then 1 else match findR V t with | none => 8 | some _ => 0
def extV (V : QV) (t : ByteArray) (n : Int) : QV := if !within n 0 1048576 then V else match findR V t with
  | none => V
  | some m => if 0 < n then { V with R1 := Tim.setR V.R1 (m.id, V.now + n) } else { V with R1 := Tim.dropR V.R1 m.id }
section
variable {w w' : World} {q : Nat} {V : QV} {S : QS}
theorem findR_mem {t : ByteArray} {m : Mm} (h : findR V t = some m) : m ∈ V.M := by
  unfold findR at h
  split at h
  · rename_i y hy
    split at h
    · obtain rfl := Option.some.inj h
      exact (findM_some hy).1
    · cases h
  · cases h
set_option maxHeartbeats 800000 in
set_option maxRecDepth 100000 in
theorem Ack_ql (h : QL w q V S) (hf : Fits V) (hE : Env w) (h6 : 6 ≤ w.heap.size) {text : ByteArray} (ht : text.size < 4294967281) :
    Calls Tryz.prog 26 #[.pointer (some ⟨q, 0, none⟩), .string text] w fun e w' => e = twoE (ackVA V text) ∧ Hid (QGot w q (ackV V text) S w') := by
  have HL : Hid (Calls Tryz.prog 54 #[.pointer (some ⟨q, 0, none⟩), .string text] w fun e w' => e = findRE (findR V text) ∧ Hid (QL w' q V S ∧ QNext w w' S S)) := Lib.hid ((leasedWith_any h hf hE h6 ht).mono fun _ _ ⟨he, hb⟩ => ⟨he, Lib.hid (h.below hb)⟩)
  cases hr : findR V text with
  | none =>
    rw [hr] at HL
    have HL2 : Hid (Calls Tryz.prog 54 #[.pointer (some ⟨q, 0, none⟩), .string text] w fun e w' => e = .returned (.tuple #[.int .i64 0, .bool false]) ∧ Hid (QL w' q V S ∧ QNext w w' S S)) := HL
    have HE : Hid (∀ (e : Ending) (w' : World), e = twoE (0, 8) ∧ Hid (QGot w q V S w') → e = twoE (ackVA V text) ∧ Hid (QGot w q (ackV V text) S w')) := Lib.hid fun e w' hx => by
      unfold ackVA ackV
      rw [hr]
      exact hx
    clear h hf hE ht hr HL
    go_enter Tryz.func26, Tryz.ntmps26
    go_wp2_with (go_at_call 54; refine HL2.out.mono ?_; rintro e w1 ⟨rfl, H1⟩)
    go_ret2
    exact HE.out _ _ ⟨rfl, Lib.hid ⟨S, H1.out⟩⟩
  | some m =>
    rw [hr] at HL
    have hwf := h.wf m (findR_mem hr)
    have HE : Hid (∀ (e : Ending) (w' : World), e = twoE (m.id, 0) ∧ Hid (QGot w q (rmV V m.id) S w') → e = twoE (ackVA V text) ∧ Hid (QGot w q (ackV V text) S w')) := Lib.hid fun e w' hx => by
      unfold ackVA ackV
      rw [hr]
      exact hx
    have HL2 : Hid (Calls Tryz.prog 54 #[.pointer (some ⟨q, 0, none⟩), .string text] w fun e w' => e = .returned (.tuple #[.int .i64 m.id, .bool true]) ∧ Hid (QL w' q V S ∧ QNext w w' S S)) := HL
    have HM : Hid (∀ w1, QL w1 q V S ∧ QNext w w1 S S → Calls Tryz.prog 55 #[.pointer (some ⟨q, 0, none⟩), .int .i64 m.id] w1 fun e w' => e = .returned (.tuple #[]) ∧ Hid (QGot w q (rmV V m.id) S w')) := Lib.hid fun w1 h1 =>
      (remove_any h1.1 hf.few hwf).mono fun _ _ ⟨he, hx⟩ => ⟨he, by obtain ⟨S2, h2, n2⟩ := hx.out; exact Lib.hid ⟨S2, h2, h1.2.trans n2⟩⟩
    clear h hf hE ht hr HL hwf
    go_enter Tryz.func26, Tryz.ntmps26
    go_wp2_with (first
      | (go_at_call 54; refine HL2.out.mono ?_; rintro e w1 ⟨rfl, H1⟩)
      | (go_at_call 55; refine (HM.out _ H1.out).mono ?_; rintro e w2 ⟨rfl, H2⟩))
    go_ret2
    exact HE.out _ _ ⟨rfl, H2⟩
set_option maxHeartbeats 1600000 in
set_option maxRecDepth 100000 in
theorem Extend_ql (h : QL w q V S) (hf : Fits V) (hE : Env w) (h6 : 6 ≤ w.heap.size) (hnow : 0 ≤ V.now ∧ V.now ≤ 1099511627776) {text : ByteArray} (ht : text.size < 4294967281) (n : Int) :
    Calls Tryz.prog 28 #[.pointer (some ⟨q, 0, none⟩), .string text, .int .i64 n] w fun e w' => e = .returned (.int .i64 (extVA V text n)) ∧ Hid (QGot w q (extV V text n) S w') := by
  have HW := Lib.hid fun x a b w => within_any x a b w
  cases hn : within n 0 1048576 with
  | false =>
    have HE : Hid (∀ (e : Ending) (w' : World), e = .returned (.int .i64 1) ∧ Hid (QGot w q V S w') → e = .returned (.int .i64 (extVA V text n)) ∧ Hid (QGot w q (extV V text n) S w')) := Lib.hid fun e w' hx => by
      unfold extVA extV
      rw [hn]
      exact hx
    have HQ : Hid (QGot w q V S w) := Lib.hid ⟨S, h, QNext.refl _ _⟩
    clear h hf hE ht
    go_enter Tryz.func28, Tryz.ntmps28
    go_wp2_with (go_at_call 33; refine (HW.out _ _ _ _).mono ?_; rintro e w1 ⟨rfl, rfl⟩)
    go_ret
    exact HE.out _ _ ⟨rfl, HQ⟩
  | true =>
    have HL : Hid (Calls Tryz.prog 54 #[.pointer (some ⟨q, 0, none⟩), .string text] w fun e w' => e = findRE (findR V text) ∧ Hid (QL w' q V S ∧ QNext w w' S S)) := Lib.hid ((leasedWith_any h hf hE h6 ht).mono fun _ _ ⟨he, hb⟩ => ⟨he, Lib.hid (h.below hb)⟩)
    cases hr : findR V text with
    | none =>
      rw [hr] at HL
      have HL2 : Hid (Calls Tryz.prog 54 #[.pointer (some ⟨q, 0, none⟩), .string text] w fun e w' => e = .returned (.tuple #[.int .i64 0, .bool false]) ∧ Hid (QL w' q V S ∧ QNext w w' S S)) := HL
      have HE : Hid (∀ (e : Ending) (w' : World), e = .returned (.int .i64 8) ∧ Hid (QGot w q V S w') → e = .returned (.int .i64 (extVA V text n)) ∧ Hid (QGot w q (extV V text n) S w')) := Lib.hid fun e w' hx => by
        unfold extVA extV
        rw [hn, hr]
        exact hx
      clear h hf hE ht hr HL
      go_enter Tryz.func28, Tryz.ntmps28
      go_wp2_with (first
        | (go_at_call 33; refine (HW.out _ _ _ _).mono ?_; rintro e w1 ⟨rfl, rfl⟩)
        | (go_at_call 54; refine HL2.out.mono ?_; rintro e w1 ⟨rfl, H1⟩))
      go_ret
      exact HE.out _ _ ⟨rfl, Lib.hid ⟨S, H1.out⟩⟩
    | some m =>
      rw [hr] at HL
      have hwf := h.wf m (findR_mem hr)
      have HL2 : Hid (Calls Tryz.prog 54 #[.pointer (some ⟨q, 0, none⟩), .string text] w fun e w' => e = .returned (.tuple #[.int .i64 m.id, .bool true]) ∧ Hid (QL w' q V S ∧ QNext w w' S S)) := HL
      have hnb : 0 ≤ n ∧ n ≤ 1048576 := by
        unfold within at hn
        simpa using hn
      by_cases hp : 0 < n
      · have hw1 : IntKind.i64.wrap (V.now + n) = V.now + n := IntWalk.i64_in _ (by omega)
        have HE : Hid (∀ (e : Ending) (w' : World), e = .returned (.int .i64 0) ∧ Hid (QGot w q { V with R1 := Tim.setR V.R1 (m.id, V.now + n) } S w') → e = .returned (.int .i64 (extVA V text n)) ∧ Hid (QGot w q (extV V text n) S w')) := Lib.hid fun e w' hx => by
          unfold extVA extV
          rw [hn, hr]
          simp only [Bool.not_true, Bool.false_eq_true, if_false, if_pos hp]
          exact hx
        have HM : Hid (∀ w1, QL w1 q V S ∧ QNext w w1 S S → Calls Tryz.prog 57 #[.pointer (some ⟨S.t1, 0, none⟩), .int .i64 m.id, .int .i64 (V.now + n)] w1.drew fun e w' => e = .returned (.tuple #[]) ∧ Hid (QGot w q { V with R1 := Tim.setR V.R1 (m.id, V.now + n) } S w')) := Lib.hid fun w1 h1 => by
          obtain ⟨h2, n2⟩ := h1.1.below ((Below.refl w1.heap.size w1).drew)
          refine (h2.eSet hf.few.r1 (m.id, V.now + n) hwf).mono ?_
          rintro e w3 ⟨rfl, H3⟩
          obtain ⟨S3, h3, n3⟩ := H3.out
          exact ⟨rfl, Lib.hid ⟨S3, h3, h1.2.trans (n2.trans n3)⟩⟩
        have hp2 : decide (0 < n) = true := decide_eq_true hp
        clear h hf hE ht hr HL hwf
        go_enter Tryz.func28, Tryz.ntmps28
        go_wp2_with (first
          | (go_at_call 33; refine (HW.out _ _ _ _).mono ?_; rintro e w1 ⟨rfl, rfl⟩)
          | (go_at_call 54; refine HL2.out.mono ?_; rintro e w1 ⟨rfl, H1⟩; obtain ⟨c0, c1, c2, c3, c4, c5, c6, c7, c8, c9, c10, c11, c12, c13⟩ := H1.out.1.cells))
        go_still_tail 11, (by kernel_rfl)
        change wpList _ _ _ _ _ w1.drew
        go_wp2_with (go_at_call 57; refine (HM.out _ H1.out).mono ?_; rintro e w2 ⟨rfl, H2⟩)
        go_ret
        exact HE.out _ _ ⟨rfl, H2⟩
      · have HE : Hid (∀ (e : Ending) (w' : World), e = .returned (.int .i64 0) ∧ Hid (QGot w q { V with R1 := Tim.dropR V.R1 m.id } S w') → e = .returned (.int .i64 (extVA V text n)) ∧ Hid (QGot w q (extV V text n) S w')) := Lib.hid fun e w' hx => by
          unfold extVA extV
          rw [hn, hr]
          simp only [Bool.not_true, Bool.false_eq_true, if_false, if_neg hp]
          exact hx
        have HM : Hid (∀ w1, QL w1 q V S ∧ QNext w w1 S S → Calls Tryz.prog 58 #[.pointer (some ⟨S.t1, 0, none⟩), .int .i64 m.id] w1 fun e w' => ∃ b, e = .returned (.bool b) ∧ Hid (QGot w q { V with R1 := Tim.dropR V.R1 m.id } S w')) := Lib.hid fun w1 h1 => by
          refine (h1.1.eDrop hf.few.r1 hwf).mono ?_
          rintro e w3 ⟨rfl, H3⟩
          obtain ⟨S3, h3, n3⟩ := H3.out
          exact ⟨_, rfl, Lib.hid ⟨S3, h3, h1.2.trans n3⟩⟩
        have hp2 : decide (0 < n) = false := decide_eq_false hp
        clear h hf hE ht hr HL hwf
        go_enter Tryz.func28, Tryz.ntmps28
        go_wp2_with (first
          | (go_at_call 33; refine (HW.out _ _ _ _).mono ?_; rintro e w1 ⟨rfl, rfl⟩)
          | (go_at_call 54; refine HL2.out.mono ?_; rintro e w1 ⟨rfl, H1⟩; obtain ⟨c0, c1, c2, c3, c4, c5, c6, c7, c8, c9, c10, c11, c12, c13⟩ := H1.out.1.cells)
          | (go_at_call 58; refine (HM.out _ H1.out).mono ?_; rintro e w2 ⟨b, rfl, H2⟩))
        go_ret
        exact HE.out _ _ ⟨rfl, H2⟩
end
end Go.Proofs.YtdjieapobodakaaGreatDoor
end

section
namespace Go.Proofs.YtdjieapobodakaaGreatDoor
open Go Go.RowKit Go.Maps Go.WideMaps

/-- The time from which on a message can be received, as it is kept. -/
def FromOk (now : Int) (x : Ms) (f : Int) : Prop := (f ≤ now ↔ (x.lsd = true ∨ x.at_ ≤ now)) ∧ (x.lsd = false → now < x.at_ → f = x.at_)
def leases (L : List Ms) : List Tim.It := (L.filter Ms.lsd).map fun x => (x.id, x.at_)
def sents (L : List Ms) : List Tim.It := L.map fun x => (x.id, x.sent)
def mmOf (fr : Int → Int) (x : Ms) : Mm := ⟨x.id, x.body, x.count, fr x.id⟩
/-- Parts say a plain queue. -/
structure QRel (V : QV) (Q : QM) : Prop where
  A : V.A = Q.A
  now : V.now = Q.now
  last : V.last = Q.last
  K : V.K = Q.K
  ms : ∃ fr : Int → Int, V.M = Q.L.map (mmOf fr) ∧ ∀ x ∈ Q.L, FromOk Q.now x (fr x.id)
  lt : V.Lt.map (fun x => (x.id, x.g)) = Q.L.map fun x => (x.id, x.group)
  nb : (V.N : Int) ≤ Q.last
  r1 : V.R1.Perm (leases Q.L)
  r2 : V.R2 = sents Q.L
theorem QRel.new (a : Att) : QRel (emptyV a 0 0 []) (newQ a) :=
  ⟨rfl, rfl, rfl, rfl, ⟨fun _ => 0, rfl, fun x hx => by cases hx⟩, rfl, Int.le_refl _, List.Perm.refl _, rfl⟩
section
variable {V : QV} {Q : QM} {T : Nat}
theorem ids_nodup (h : Q.L.Pairwise fun a b => a.id < b.id) : (Q.L.map Ms.id).Nodup := List.Pairwise.map _ (fun a b hab => by show a.id ≠ b.id; omega) h
theorem ms_one {L : List Ms} (h : L.Pairwise fun a b => a.id < b.id) {x y : Ms} (hx : x ∈ L) (hy : y ∈ L) (e : x.id = y.id) : x = y := by
  induction L with
  | nil => cases hx
  | cons z r ih =>
    obtain ⟨h1, h2⟩ := List.pairwise_cons.1 h
    rcases List.mem_cons.1 hx with hx | hx <;> rcases List.mem_cons.1 hy with hy | hy
    · rw [hx, hy]
    · have := h1 y hy; rw [hx] at e; omega
    · have := h1 x hx; rw [hy] at e; omega
    · exact ih h2 hx hy
theorem QRel.lens (h : QRel V Q) : V.M.length = Q.L.length ∧ V.Lt.length = Q.L.length ∧ V.R1.length ≤ Q.L.length ∧ V.R2.length = Q.L.length := by
  obtain ⟨fr, hM, _⟩ := h.ms
  refine ⟨by rw [hM, List.length_map], ?_, ?_, by rw [h.r2]; unfold sents; rw [List.length_map]⟩
  · have := congrArg List.length h.lt
    simpa using this
  · rw [h.r1.length_eq]
    unfold leases
    rw [List.length_map]
    exact List.length_filter_le _ _
theorem QRel.few (h : QRel V Q) (hk : QOk Q T) (hT : T < 800000) : Few V := by
  obtain ⟨a1, a2, a3, a4⟩ := h.lens
  have h1 := hk.len
  have h2 := hk.klen
  have h3 := hk.last
  have h4 := h.nb
  exact ⟨by omega, by omega, by omega, by omega, by omega, by rw [h.K]; omega⟩
theorem QRel.mem (h : QRel V Q) {x : Ms} (hx : x ∈ Q.L) : ∃ m ∈ V.M, m.id = x.id ∧ m.count = x.count ∧ m.body = x.body ∧ FromOk Q.now x m.frm := by
  obtain ⟨fr, hM, hf⟩ := h.ms
  exact ⟨mmOf fr x, by rw [hM]; exact List.mem_map_of_mem hx, rfl, rfl, rfl, hf x hx⟩
theorem QRel.find (h : QRel V Q) (hk : QOk Q T) {x : Ms} (hx : x ∈ Q.L) : ∃ m, findM V.M x.id = some m ∧ m ∈ V.M ∧ m.id = x.id ∧ m.count = x.count ∧ m.body = x.body ∧ FromOk Q.now x m.frm := by
  obtain ⟨m, hm, h1, h2⟩ := h.mem hx
  obtain ⟨fr, hM, _⟩ := h.ms
  have hnd : (V.M.map Mm.id).Nodup := by
    rw [hM, List.map_map]
    exact ids_nodup hk.ids
  exact ⟨m, by rw [← h1]; exact findM_mem hnd hm, hm, h1, h2⟩
theorem QRel.findNone (h : QRel V Q) {k : Int} (hk : ∀ x ∈ Q.L, x.id ≠ k) : findM V.M k = none := by
  obtain ⟨fr, hM, _⟩ := h.ms
  rw [findM_none, hM]
  intro y hy
  obtain ⟨x, hx, rfl⟩ := List.mem_map.1 hy
  exact hk x hx
theorem QRel.back (h : QRel V Q) {m : Mm} (hm : m ∈ V.M) : ∃ x ∈ Q.L, m.id = x.id ∧ m.count = x.count ∧ m.body = x.body := by
  obtain ⟨fr, hM, _⟩ := h.ms
  rw [hM] at hm
  obtain ⟨x, hx, rfl⟩ := List.mem_map.1 hm
  exact ⟨x, hx, rfl, rfl, rfl⟩
theorem QRel.at_ (h : QRel V Q) (k : Int) : (Lan.at_ V.Lt k).map (fun x => (x.id, x.g)) = (Q.L.find? fun x => decide (x.id = k)).map fun x => (x.id, x.group) := by
  have e : ∀ (A : List Lan.Th) (B : List Ms), A.map (fun x => (x.id, x.g)) = B.map (fun x => (x.id, x.group)) → (A.find? fun x => decide (x.id = k)).map (fun x => (x.id, x.g)) = (B.find? fun x => decide (x.id = k)).map fun x => (x.id, x.group) := by
    intro A
    induction A with
    | nil =>
      intro B hB
      cases B with
      | nil => rfl
      | cons y r => cases hB
    | cons a A ih =>
      intro B hB
      cases B with
      | nil => cases hB
      | cons b B =>
        rw [List.map_cons, List.map_cons] at hB
        obtain ⟨h1, h2⟩ := List.cons.inj hB
        have h3 : a.id = b.id := congrArg Prod.fst h1
        by_cases hk : a.id = k
        · rw [List.find?_cons_of_pos (by simpa using hk), List.find?_cons_of_pos (by rw [← h3]; simpa using hk)]
          exact congrArg some h1
        · rw [List.find?_cons_of_neg (by simpa using hk), List.find?_cons_of_neg (by rw [← h3]; simpa using hk)]
          exact ih B h2
  exact e _ _ h.lt
theorem QRel.group (h : QRel V Q) (hk : QOk Q T) {x : Ms} (hx : x ∈ Q.L) : groupOf V x.id = x.group := by
  have h1 := h.at_ x.id
  have h2 : (Q.L.find? fun y => decide (y.id = x.id)) = some x := by
    cases hf : Q.L.find? fun y => decide (y.id = x.id) with
    | none => exact absurd (decide_eq_true rfl) (List.find?_eq_none.1 hf x hx)
    | some y =>
      have := ms_one hk.ids (List.mem_of_find?_eq_some hf) hx (by simpa using List.find?_some hf)
      rw [this]
  rw [h2] at h1
  unfold groupOf
  cases ha : Lan.at_ V.Lt x.id with
  | none => rw [ha] at h1; cases h1
  | some t =>
    rw [ha] at h1
    have := congrArg Prod.snd (Option.some.inj h1)
    exact this
theorem mem_leases {L : List Ms} {y : Tim.It} : y ∈ leases L ↔ ∃ x ∈ L, x.lsd = true ∧ y = (x.id, x.at_) := by
  unfold leases
  rw [List.mem_map]
  constructor
  · rintro ⟨x, hx, rfl⟩
    exact ⟨x, (List.mem_filter.1 hx).1, (List.mem_filter.1 hx).2, rfl⟩
  · rintro ⟨x, hx, h, rfl⟩
    exact ⟨x, List.mem_filter.2 ⟨hx, h⟩, rfl⟩
theorem QRel.leased (h : QRel V Q) (hk : QOk Q T) {x : Ms} (hx : x ∈ Q.L) : isLeased V x.id = x.lsd := by
  unfold isLeased
  cases hl : x.lsd with
  | true =>
    rw [List.any_eq_true]
    exact ⟨(x.id, x.at_), h.r1.mem_iff.2 (mem_leases.2 ⟨x, hx, hl, rfl⟩), by simp⟩
  | false =>
    rw [List.any_eq_false]
    intro y hy
    obtain ⟨z, hz, hzl, rfl⟩ := mem_leases.1 (h.r1.mem_iff.1 hy)
    simp only [decide_eq_true_eq]
    intro e
    rw [ms_one hk.ids hz hx e, hl] at hzl
    cases hzl
theorem QRel.fits (h : QRel V Q) (hk : QOk Q T) (hT : T < 800000) : Fits V := by
  refine ⟨h.few hk hT, fun y hy => ?_, fun m hm => ?_⟩
  · obtain ⟨x, hx, _, rfl⟩ := mem_leases.1 (h.r1.mem_iff.1 hy)
    obtain ⟨m, hm, _⟩ := h.find hk hx
    exact Option.isSome_iff_exists.2 ⟨m, hm⟩
  · obtain ⟨x, hx, _, hc, _⟩ := h.back hm
    have := hk.cnt x hx
    omega
theorem QRel.canAdd (h : QRel V Q) (hk : QOk Q T) (hT : T < 800000) : CanAdd V := by
  have hA := Att.right_parts hk.right
  have hl := hk.last
  refine ⟨h.few hk hT, by rw [h.A]; exact hA.2.2.1, by rw [h.A]; exact hA.2.2.2.1, by rw [h.now]; exact hk.now, by rw [h.last]; omega, ?_, ?_⟩
  · refine h.findNone fun x hx => ?_
    have := hk.idb x hx
    rw [h.last]
    omega
  · have h1 := h.at_ (V.last + 1)
    have h2 : (Q.L.find? fun x => decide (x.id = V.last + 1)) = Option.none := by
      rw [List.find?_eq_none]
      intro x hx
      have := hk.idb x hx
      simp only [decide_eq_true_eq]
      rw [h.last]
      omega
    rw [h2] at h1
    cases ha : Lan.at_ V.Lt (V.last + 1) with
    | none => rfl
    | some t => rw [ha] at h1; cases h1
end
end Go.Proofs.YtdjieapobodakaaGreatDoor
end
