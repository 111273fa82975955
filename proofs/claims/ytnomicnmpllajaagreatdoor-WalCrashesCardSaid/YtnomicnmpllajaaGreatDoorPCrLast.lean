/- What is proved here: 'same': a log says what the document's does. -/
/- What is proved here: where a law's loop of 'does' stands. -/
/- What is proved here: what 'WalCrashes' calls behind its loop. -/
/- What is proved here: 'WalCrashes' returns true at all arguments. -/
/- What is proved here: for any size, calls and numbers that a crash draws 'WalCrashes' returns true; the variable that strconv's conversions read starts as the program's text lays it (tied). -/
import Derived.Test.YtnomicnmpllajaaGreatDoorPCr2
import Derived.Test.YtnomicnmpllajaaGreatDoorPFu20
import Derived.Test.YtnomicnmpllajaaGreatDoorPFu9
import Derived.Test.YtnomicnmpllajaaGreatDoorTie
import Derived.Test.YtnomicnmpllajaaGreatDoorCards
import Derived.OpenShut
import Derived.ShutString
import Derived.Below
import Derived.SizedLaws
import Derived.Stop.Joined
import Derived.SevenTiedAt
section
namespace Go.Proofs.YtnomicnmpllajaaGreatDoor
open Go Go.RowKit
set_option linter.unusedVariables false

section
variable {w W V : World} {P : Nat → Prop} {lb d : Nat} {r : RefM} {v : Value}
/-- Both in one world. -/
def Both (w : World) (P : Nat → Prop) (lb d : Nat) (r : RefM) (v : Value) (W : World) : Prop := LogSt w lb d r.base r.shot r.recs W ∧ RefIs W P r v
theorem Both.later (h : Both w P lb d r v W) (hb : Below W.heap.size W V) : Both w P lb d r v V := ⟨h.1.later hb, h.2.below hb⟩
theorem both_get (h : Both w P lb d r v W) (hb : r.base ≤ 100000000) (hn : r.recs.length ≤ 1000000) (k : Int) (hk : 0 ≤ k ∧ k ≤ 200000000) (is_ : Bool) (hd : decide ((r.base : Int) < k ∧ k ≤ (r.base : Int) + r.recs.length) = is_) :
    Calls Tryz.prog 26 #[.pointer (some ⟨lb, 0, none⟩), .int .i64 k] W fun e V1 => ∃ A n c, e = .returned (.tuple #[.slice A n c, .bool is_]) ∧ Hid (Below W.heap.size W V1) ∧
      Hid (Calls Tryz.prog 50 #[v, .int .i64 k] V1 fun e V2 => ∃ A2 c2, e = .returned (.tuple #[.slice A2 n c2, .bool is_]) ∧ Hid (Below W.heap.size W V2) ∧
        Hid (Calls Tryz.prog 27 #[.slice A n c, .slice A2 n c2] V2 fun e V3 => e = .returned (.bool true) ∧ V2 = V3)) := by
  obtain ⟨h1, h2⟩ := h
  subst hd
  by_cases hin : (r.base : Int) < k ∧ k ≤ (r.base : Int) + r.recs.length
  · obtain ⟨j, rfl⟩ : ∃ j : Nat, k = (r.base : Int) + j + 1 := ⟨(k - r.base - 1).toNat, by omega⟩
    obtain ⟨xs, hxs⟩ : ∃ xs, r.recs[j]? = some xs := ⟨_, List.getElem?_eq_getElem (by omega)⟩
    refine (h1.get hxs rfl).mono ?_
    rintro e V1 ⟨A, c, rfl, hb1, hr1⟩
    rw [decide_eq_true hin]
    refine ⟨A, xs.length, c, rfl, Lib.hid hb1, Lib.hid ?_⟩
    obtain ⟨tA, tc, rA, rc, l, rfl, q1, q2, q3⟩ := h2.below hb1
    refine (RGet_any q2 (by omega) (by omega) _ (by omega)).mono ?_
    rintro e V2 ⟨hb2, ⟨hno, _⟩ | ⟨i, p, e1, e2, rfl⟩⟩
    · exact absurd hin hno
    · obtain rfl : i = j := by omega
      have hp := q2.ok p (List.mem_of_getElem? e2)
      have e3 : p.all = xs := by
        have e4 : (l.map Part.all)[i]? = some p.all := by rw [List.getElem?_map, e2]; rfl
        rw [q3, hxs] at e4
        exact (Option.some.inj e4).symm
      have hlen := hp.rd.len
      rw [e3] at hlen
      obtain ⟨pA, pn, pc, pall⟩ := p
      simp only at hlen e3
      subst hlen e3
      refine ⟨pA, pc, rfl, Lib.hid (hb1.trans (hb2.mono hb1.size)), Lib.hid ?_⟩
      refine (Equal_any A pA _ c _ pc _ _ pall pall V2 ((hr1.below hb2).more hb2.size) ((hp.rd.below hb2).more hb2.size) hp.byt hp.byt).mono ?_
      rintro e V3 ⟨rfl, rfl⟩
      exact ⟨by rw [decide_eq_true rfl], rfl⟩
  · refine (h1.get_no (by omega)).mono ?_
    rintro e V1 ⟨rfl, hb1⟩
    rw [decide_eq_false hin]
    refine ⟨none, 0, 0, rfl, Lib.hid hb1, Lib.hid ?_⟩
    obtain ⟨tA, tc, rA, rc, l, rfl, q1, q2, q3⟩ := h2.below hb1
    refine (RGet_any q2 (by omega) (by omega) _ (by omega)).mono ?_
    rintro e V2 ⟨hb2, ⟨hno, rfl⟩ | ⟨i, p, e1, e2, rfl⟩⟩
    · refine ⟨none, 0, rfl, Lib.hid (hb1.trans (hb2.mono hb1.size)), Lib.hid ?_⟩
      refine (Equal_any none none 0 0 0 0 0 0 [] [] V2 (Rd.none_ _ _ _) (Rd.none_ _ _ _) (fun x hx => by cases hx) (fun x hx => by cases hx)).mono ?_
      rintro e V3 ⟨rfl, rfl⟩
      exact ⟨by rw [decide_eq_true rfl], rfl⟩
    · have h5 := (List.getElem?_eq_some_iff.1 e2).1
      have h6 := q2.len
      omega
theorem both_shot (h : Both w P lb d r v W) : Calls Tryz.prog 39 #[.pointer (some ⟨lb, 0, none⟩)] W fun e V1 => ∃ A c, e = .returned (.slice A r.shot.length c) ∧ Hid (Below W.heap.size W V1) ∧ Hid (∀ (tA : Option Addr) (tc : Nat), Rd V1 V1.heap.size .u8 tA r.shot.length tc r.shot → (∀ x ∈ r.shot, 0 ≤ x ∧ x < 256) → Calls Tryz.prog 27 #[.slice A r.shot.length c, .slice tA r.shot.length tc] V1 fun e V3 => e = .returned (.bool true) ∧ V1 = V3) := by
  refine (h.1.shot_).mono ?_
  rintro e V1 ⟨A, c, rfl, hb, hr⟩
  refine ⟨A, c, rfl, Lib.hid hb, Lib.hid fun tA tc h1 h2 => ?_⟩
  refine (Equal_any A tA _ c _ tc _ _ r.shot r.shot V1 hr.out h1 h2 h2).mono ?_
  rintro e V3 ⟨rfl, rfl⟩
  exact ⟨by rw [decide_eq_true rfl], rfl⟩

set_option maxHeartbeats 3200000 in
set_option maxRecDepth 100000 in
theorem same_any (h : Both w P lb d r v W) (hb : r.base ≤ 100000000) (hn : r.recs.length ≤ 1000000) :
    Calls Tryz.prog 18 #[.pointer (some ⟨lb, 0, none⟩), v] W fun e V => e = .returned (.bool true) ∧ Below W.heap.size W V := by
  obtain ⟨tA, tc, rA, rc, l, rfl, q1, q2, q3⟩ := id h.2
  have HBW : Hid (Below W.heap.size W (W.alloc (.cells (bl r.base (.slice tA r.shot.length tc) (.slice rA r.recs.length rc) r.syn r.size r.bytes 0) 36))) := Lib.hid ((Below.refl _ _).alloc (Nat.le_refl _) _)
  have HB1 := Lib.hid (heap_alloc_new W (.cells (bl r.base (.slice tA r.shot.length tc) (.slice rA r.recs.length rc) r.syn r.size r.bytes 0) 36))
  obtain ⟨W0, hW0⟩ : ∃ W0, W0 = W.alloc (.cells (bl r.base (.slice tA r.shot.length tc) (.slice rA r.recs.length rc) r.syn r.size r.bytes 0) 36) := ⟨_, rfl⟩
  rw [← hW0] at HBW HB1
  have HS0 : Hid (W0.heap.size = W.heap.size + 1) := Lib.hid (by rw [hW0]; simp)
  have HH := Lib.hid (h.later HBW.out)
  have HQ := Lib.hid (q1.keep HBW.out.size fun k hk hP => ⟨HBW.out.block k hk, hP⟩)
  have HLA := Lib.hid fun V => RLast_any (base := (r.base : Int)) (vT := .slice tA r.shot.length tc) (syn := (r.syn : Int)) (size := (r.size : Int)) (bytes := (r.bytes : Int)) (here := 0) (A := rA) (n := r.recs.length) (c := rc) (by omega) (by omega) V
  unfold bl at hW0
  have HW0 := Lib.hid hW0
  unfold rlv at HH HLA ⊢
  clear h q1 q2 q3 hW0
  go_enter Tryz.func18, Tryz.ntmps18
  go_upto_region 1 with fail
  rw [← HW0.out]
  refine wp_region_G (fun w' => w'.heap[W.heap.size]? = some (.cells (bl r.base (.slice tA r.shot.length tc) (.slice rA r.recs.length rc) r.syn r.size r.bytes 0) 36 (0, 0))) 32 (by kernel_rfl) ?_
  have hS0 : W0.drew.heap[W.heap.size]? = some (.cells (bl r.base (.slice tA r.shot.length tc) (.slice rA r.recs.length rc) r.syn r.size r.bytes 0) 36 (0, 0)) := HB1.out
  have HBD : Hid (Below W0.heap.size W0 W0.drew) := Lib.hid (Below.refl _ _).drew
  refine wpAnyG_take (i := 0) (oi := _) (v := ?_) rfl (by kernel_rfl) (by kernel_rfl) (by kernel_rfl) (by kernel_rfl) (fun _ _ _ h => h) (Or.inl ⟨by rfl, ?_⟩) hS0 ?_
  rotate_left
  · (intro wS hSw; obtain ⟨c0, c1, c2, c3, c4, c5, c6, cf⟩ := bl_cells hSw; clear hSw; go_simp; try with_reducible rfl)
  try simp only [Act.put]
  refine wpAnyG_take (i := 2) (oi := _) (v := ?_) rfl (by kernel_rfl) (by kernel_rfl) (by kernel_rfl) (by kernel_rfl) (fun _ _ _ h => h) (Or.inl ⟨by rfl, ?_⟩) hS0 ?_
  rotate_left
  · (intro wS hSw; obtain ⟨c0, c1, c2, c3, c4, c5, c6, cf⟩ := bl_cells hSw; clear hSw; go_simp; try with_reducible rfl)
  try simp only [Act.put]
  refine wpAnyG_take (i := 3) (oi := _) (v := ?_) rfl (by kernel_rfl) (by kernel_rfl) (by kernel_rfl) (by kernel_rfl) (fun _ _ _ h => h) (Or.inl ⟨by rfl, ?_⟩) hS0 ?_
  rotate_left
  · (intro wS hSw; obtain ⟨c0, c1, c2, c3, c4, c5, c6, cf⟩ := bl_cells hSw; clear hSw; go_simp; try with_reducible rfl)
  try simp only [Act.put]
  refine wpAnyG_one (i := 1) (o := ⟨some 11, _, _, _, _, _⟩) (by kernel_rfl) rfl (fun K hK => ?_)
  go_simp
  refine (LogSt.base_ (HH.out.later HBD.out).1).mono ?_
  rintro e V1 ⟨rfl, rfl⟩
  refine hK.out _ _ (fun _ => hS0) ?_
  clear hK K
  try simp only [Act.put]
  refine wpAnyG_take (i := 4) (oi := _) (v := ?_) rfl (by kernel_rfl) (by kernel_rfl) (by kernel_rfl) (by kernel_rfl) (fun _ _ _ h => h) (Or.inl ⟨by rfl, ?_⟩) hS0 ?_
  rotate_left
  · (intro wS hSw; obtain ⟨c0, c1, c2, c3, c4, c5, c6, cf⟩ := bl_cells hSw; clear hSw; go_simp; try with_reducible rfl)
  try simp only [Act.put]
  refine wpAnyG_take (i := 5) (oi := _) (v := ?_) rfl (by kernel_rfl) (by kernel_rfl) (by kernel_rfl) (by kernel_rfl) (fun _ _ _ h => h) (Or.inl ⟨by rfl, ?_⟩) hS0 ?_
  rotate_left
  · (intro wS hSw; obtain ⟨c0, c1, c2, c3, c4, c5, c6, cf⟩ := bl_cells hSw; clear hSw; go_simp; try with_reducible rfl)
  try simp only [Act.put]
  refine wpAnyG_take (i := 6) (oi := _) (v := ?_) rfl (by kernel_rfl) (by kernel_rfl) (by kernel_rfl) (by kernel_rfl) (fun _ _ _ h => h) (Or.inl ⟨by rfl, ?_⟩) hS0 ?_
  rotate_left
  · (intro wS hSw; obtain ⟨c0, c1, c2, c3, c4, c5, c6, cf⟩ := bl_cells hSw; clear hSw; go_simp; try with_reducible rfl)
  try simp only [Act.put]
  refine wpAnyG_take (i := 8) (oi := _) (v := ?_) rfl (by kernel_rfl) (by kernel_rfl) (by kernel_rfl) (by kernel_rfl) (fun _ _ _ h => h) (Or.inl ⟨by rfl, ?_⟩) hS0 ?_
  rotate_left
  · (intro wS hSw; obtain ⟨c0, c1, c2, c3, c4, c5, c6, cf⟩ := bl_cells hSw; clear hSw; go_simp; try with_reducible rfl)
  try simp only [Act.put]
  refine wpAnyG_one (i := 7) (o := ⟨some 17, _, _, _, _, _⟩) (by kernel_rfl) rfl (fun K hK => ?_)
  go_simp
  refine (LogSt.last_ (HH.out.later HBD.out).1).mono ?_
  rintro e V2 ⟨rfl, q, hV2⟩
  have HB2 : Hid (Below W0.heap.size W0 V2) := Lib.hid (by rw [hV2]; exact bdrewN HBD.out q)
  have hS2 := (Chg.of_below (Φ := fun _ => False) HB2.out).heap HB1.out id
  clear hS0 hV2
  refine hK.out _ _ (fun _ => hS2) ?_
  clear hK K
  try simp only [Act.put]
  refine wpAnyG_one (i := 9) (o := ⟨some 19, _, _, _, _, _⟩) (by kernel_rfl) rfl (fun K hK => ?_)
  go_simp
  refine (HLA.out V2).mono ?_
  rintro e V3 ⟨rfl, hb3⟩
  have HB3 : Hid (Below W0.heap.size W0 V3) := Lib.hid (HB2.out.trans (hb3.mono HB2.out.size))
  have hS3 := (Chg.of_below (Φ := fun _ => False) HB3.out).heap HB1.out id
  clear hS2 hb3
  refine hK.out _ _ (fun _ => hS3) ?_
  clear hK K
  try simp only [Act.put]
  refine wpAnyG_take (i := 10) (oi := _) (v := ?_) rfl (by kernel_rfl) (by kernel_rfl) (by kernel_rfl) (by kernel_rfl) (fun _ _ _ h => h) (Or.inl ⟨by rfl, ?_⟩) hS3 ?_
  rotate_left
  · (intro wS hSw; obtain ⟨c0, c1, c2, c3, c4, c5, c6, cf⟩ := bl_cells hSw; clear hSw; go_simp; try with_reducible rfl)
  try simp only [Act.put]
  refine wpAnyG_take (i := 11) (oi := _) (v := ?_) rfl (by kernel_rfl) (by kernel_rfl) (by kernel_rfl) (by kernel_rfl) (fun _ _ _ h => h) (Or.inl ⟨by rfl, ?_⟩) hS3 ?_
  rotate_left
  · (intro wS hSw; obtain ⟨c0, c1, c2, c3, c4, c5, c6, cf⟩ := bl_cells hSw; clear hSw; go_simp; try with_reducible rfl)
  try simp only [Act.put]
  refine wpAnyG_take (i := 12) (oi := _) (v := ?_) rfl (by kernel_rfl) (by kernel_rfl) (by kernel_rfl) (by kernel_rfl) (fun _ _ _ h => h) (Or.inl ⟨by rfl, ?_⟩) hS3 ?_
  rotate_left
  · (intro wS hSw; obtain ⟨c0, c1, c2, c3, c4, c5, c6, cf⟩ := bl_cells hSw; clear hSw; go_simp; try with_reducible rfl)
  try simp only [Act.put]
  refine wpAnyG_take (i := 13) (oi := _) (v := ?_) rfl (by kernel_rfl) (by kernel_rfl) (by kernel_rfl) (by kernel_rfl) (fun _ _ _ h => h) (Or.inl ⟨by rfl, ?_⟩) hS3 ?_
  rotate_left
  · (intro wS hSw; obtain ⟨c0, c1, c2, c3, c4, c5, c6, cf⟩ := bl_cells hSw; clear hSw; go_simp; try with_reducible rfl)
  try simp only [Act.put]
  refine wpAnyG_take (i := 15) (oi := _) (v := ?_) rfl (by kernel_rfl) (by kernel_rfl) (by kernel_rfl) (by kernel_rfl) (fun _ _ _ h => h) (Or.inl ⟨by rfl, ?_⟩) hS3 ?_
  rotate_left
  · (intro wS hSw; obtain ⟨c0, c1, c2, c3, c4, c5, c6, cf⟩ := bl_cells hSw; clear hSw; go_simp; try with_reducible rfl)
  try simp only [Act.put]
  refine wpAnyG_take (i := 16) (oi := _) (v := ?_) rfl (by kernel_rfl) (by kernel_rfl) (by kernel_rfl) (by kernel_rfl) (fun _ _ _ h => h) (Or.inl ⟨by rfl, ?_⟩) hS3 ?_
  rotate_left
  · (intro wS hSw; obtain ⟨c0, c1, c2, c3, c4, c5, c6, cf⟩ := bl_cells hSw; clear hSw; go_simp; try with_reducible rfl)
  try simp only [Act.put]
  refine wpAnyG_one (i := 14) (o := ⟨some 24, _, _, _, _, _⟩) (by kernel_rfl) rfl (fun K hK => ?_)
  go_simp
  refine (both_shot (HH.out.later HB3.out)).mono ?_
  rintro e V4 ⟨A4, c4, rfl, HB4', HEQ⟩
  have HB4 : Hid (Below W0.heap.size W0 V4) := Lib.hid (HB3.out.trans (HB4'.out.mono HB3.out.size))
  have hS4 := (Chg.of_below (Φ := fun _ => False) HB4.out).heap HB1.out id
  have HE4 := Lib.hid (HEQ.out tA tc ((HQ.out.rd.below HB4.out).more HB4.out.size) HQ.out.byt)
  clear hS3 HEQ HB4'
  refine hK.out _ _ (fun _ => hS4) ?_
  clear hK K
  try simp only [Act.put]
  refine wpAnyG_one (i := 17) (o := ⟨some 27, _, _, _, _, _⟩) (by kernel_rfl) rfl (fun K hK => ?_)
  go_simp
  refine HE4.out.mono ?_
  rintro e V5 ⟨rfl, rfl⟩
  refine hK.out _ _ (fun _ => hS4) ?_
  clear hK K
  try simp only [Act.put]
  refine wpAnyG_take (i := 18) (oi := _) (v := ?_) rfl (by kernel_rfl) (by kernel_rfl) (by kernel_rfl) (by kernel_rfl) (fun _ _ _ h => h) (Or.inl ⟨by rfl, ?_⟩) hS4 ?_
  rotate_left
  · (intro wS hSw; obtain ⟨c0, c1, c2, c3, c4, c5, c6, cf⟩ := bl_cells hSw; clear hSw; go_simp; try with_reducible rfl)
  try simp only [Act.put]
  refine wpAnyG_take (i := 19) (oi := _) (v := ?_) rfl (by kernel_rfl) (by kernel_rfl) (by kernel_rfl) (by kernel_rfl) (fun _ _ _ h => h) (Or.inl ⟨by rfl, ?_⟩) hS4 ?_
  rotate_left
  · (intro wS hSw; obtain ⟨c0, c1, c2, c3, c4, c5, c6, cf⟩ := bl_cells hSw; clear hSw; go_simp; try with_reducible rfl)
  try simp only [Act.put]
  refine wpAnyG_done (by kernel_rfl) ?_ _
  obtain ⟨c0, c1, c2, c3, c4, c5, c6, cf⟩ := bl_cells hS4
  clear hS4
  try go_simp
  go_upto_region 3 with fail
  go_wp2_with fail
  go_loopw [5] (fun t wr => ∃ k : Nat, t = .int .i64 k ∧ r.base ≤ k ∧ k ≤ r.base + r.recs.length + 2 ∧ Hid (Below W0.heap.size W0 wr)) (fun t _ => r.base + r.recs.length + 2 - (intOf t).toNat)
  case atStart => exact ⟨r.base, rfl, Nat.le_refl _, by omega, HB4⟩
  case round =>
    obtain ⟨k, rfl, hk1, hk2, HBR⟩ := hrel
    clear c0 c1 c2 c3 c4 c5 c6 cf
    obtain ⟨c0, c1, c2, c3, c4, c5, c6, cf⟩ := bl_cells ((Chg.of_below (Φ := fun _ => False) HBR.out).heap HB1.out id)
    have u1 : IntKind.i64.wrap ((r.base : Int) + r.recs.length + 1) = (r.base : Int) + r.recs.length + 1 := IntWalk.i64_in _ (by omega)
    have u2 : IntKind.i64.wrap ((k : Int) + 1) = (k : Int) + 1 := IntWalk.i64_in _ (by omega)
    by_cases hkn : k ≤ r.base + r.recs.length + 1
    · have hkn' : (k : Int) ≤ (r.base : Int) + r.recs.length + 1 := by omega
      by_cases hin : (r.base : Int) < k ∧ (k : Int) ≤ (r.base : Int) + r.recs.length
      · have HG : Hid (∀ V, Below W0.heap.size W0 V → _) := Lib.hid fun V hbV => both_get (HH.out.later hbV) hb hn (k : Int) (by omega) true (decide_eq_true hin)
        clear hin
        go_wp2_with (first
          | (go_at_call 22; refine (HLA.out _).mono ?_; rintro e V1 ⟨rfl, hb1⟩; have HBV1 : Hid (Below W0.heap.size W0 V1) := Lib.hid (HBR.out.trans (hb1.mono HBR.out.size)); clear hb1)
          | (go_at_call 26; refine (HG.out V1 HBV1.out).mono ?_; rintro e V2 ⟨gA, gn, gc, rfl, HBG, HRG⟩; have HBV2 : Hid (Below W0.heap.size W0 V2) := Lib.hid (HBV1.out.trans (HBG.out.mono HBV1.out.size)); clear HBG c0 c1 c2 c3 c4 c5 c6 cf; obtain ⟨c0, c1, c2, c3, c4, c5, c6, cf⟩ := bl_cells ((Chg.of_below (Φ := fun _ => False) HBV2.out).heap HB1.out id))
          | (go_at_call 50; refine HRG.out.mono ?_; rintro e V3 ⟨gA2, gc2, rfl, HBG, HEQ⟩; have HBV3 : Hid (Below W0.heap.size W0 V3) := Lib.hid (HBV1.out.trans (HBG.out.mono HBV1.out.size)); clear HBG)
          | (go_at_call 27; refine HEQ.out.mono ?_; rintro e V4' ⟨rfl, rfl⟩))
        go_roundw
        case rel => exact ⟨k + 1, by go_num, by omega, by omega, HBV3⟩
        case measure => simp [intOf]; omega
      · have HG : Hid (∀ V, Below W0.heap.size W0 V → _) := Lib.hid fun V hbV => both_get (HH.out.later hbV) hb hn (k : Int) (by omega) false (decide_eq_false hin)
        clear hin
        go_wp2_with (first
          | (go_at_call 22; refine (HLA.out _).mono ?_; rintro e V1 ⟨rfl, hb1⟩; have HBV1 : Hid (Below W0.heap.size W0 V1) := Lib.hid (HBR.out.trans (hb1.mono HBR.out.size)); clear hb1)
          | (go_at_call 26; refine (HG.out V1 HBV1.out).mono ?_; rintro e V2 ⟨gA, gn, gc, rfl, HBG, HRG⟩; have HBV2 : Hid (Below W0.heap.size W0 V2) := Lib.hid (HBV1.out.trans (HBG.out.mono HBV1.out.size)); clear HBG c0 c1 c2 c3 c4 c5 c6 cf; obtain ⟨c0, c1, c2, c3, c4, c5, c6, cf⟩ := bl_cells ((Chg.of_below (Φ := fun _ => False) HBV2.out).heap HB1.out id))
          | (go_at_call 50; refine HRG.out.mono ?_; rintro e V3 ⟨gA2, gc2, rfl, HBG, HEQ⟩; have HBV3 : Hid (Below W0.heap.size W0 V3) := Lib.hid (HBV1.out.trans (HBG.out.mono HBV1.out.size)); clear HBG)
          | (go_at_call 27; refine HEQ.out.mono ?_; rintro e V4' ⟨rfl, rfl⟩))
        go_roundw
        case rel => exact ⟨k + 1, by go_num, by omega, by omega, HBV3⟩
        case measure => simp [intOf]; omega
    · have hkn' : ¬ (k : Int) ≤ (r.base : Int) + r.recs.length + 1 := by omega
      go_wp2_with (go_at_call 22; refine (HLA.out _).mono ?_; rintro e V1 ⟨rfl, hb1⟩; have HBV1 : Hid (Below W0.heap.size W0 V1) := Lib.hid (HBR.out.trans (hb1.mono HBR.out.size)); clear hb1)
      go_ret
      exact ⟨rfl, HBW.out.trans (HBV1.out.mono HBW.out.size)⟩
end
end Go.Proofs.YtnomicnmpllajaaGreatDoor
end

section
namespace Go.Proofs.YtnomicnmpllajaaGreatDoor
open Go Go.RowKit
set_option linter.unusedVariables false

/-- Behind k calls: the log, and the document's beside it; neither lies in the blocks of Q. -/
def DoesSt (w : World) (lb N : Nat) (l : List OpM) (k : Nat) (r : RefM) (v : Value) (Q : Nat → Prop) (W : World) : Prop :=
  ∃ F P S M G st, LF w F lb (w.heap.size + 1) 1048576 S M W ∧ LI S M G st ∧ RefIs W P r v ∧ (∀ i, W.heap.size ≤ i → P i) ∧ (∀ i, P i → ¬ F i) ∧ (∀ i, Q i → ¬ P i ∧ ¬ F i ∧ i < W.heap.size) ∧ Beside r M ∧ M.size = N ∧ M.last ≤ k ∧ usedN S ≤ weighs (l.take k) + 20 * k
section
variable {w W W' : World} {Q : Nat → Prop} {lb d N k n : Nat} {l : List OpM} {r : RefM} {v : Value} {p : OpM} {A : Option Addr} {c : Nat}
theorem LW.lf {R : Int} {S : List RF} {M : LogM} (h : LW w lb d R S M W) : LF w (fun k => w.heap.size ≤ k ∧ k < W.heap.size) lb d R S M W := by
  obtain ⟨V, h⟩ := h
  obtain ⟨Φ, Λ, h1, h2, h3, h4⟩ := h.ex
  exact ⟨⟨V, Φ, Λ, h1, h2, h3, fun k hk => ⟨(h4 k hk).1, (h4 k hk).2.2⟩⟩, h.below, fun k hk => hk⟩
theorem DoesSt.below (h : DoesSt w lb N l k r v Q W) : Below w.heap.size w W := by
  obtain ⟨F, P, S, M, G, st, h1, _⟩ := h
  exact h1.below
theorem DoesSt.later (h : DoesSt w lb N l k r v Q W) (hb : Below W.heap.size W W') : DoesSt w lb N l k r v Q W' := by
  obtain ⟨F, P, S, M, G, st, h1, h2, h3, h4, h5, h0, h6⟩ := h
  exact ⟨F, P, S, M, G, st, h1.later hb, h2, h3.below hb, fun i hi => h4 i (Nat.le_trans hb.size hi), h5, fun i hi => ⟨(h0 i hi).1, (h0 i hi).2.1, Nat.lt_of_lt_of_le (h0 i hi).2.2 hb.size⟩, h6⟩
/-- A box of the caller's own. -/
theorem DoesSt.box (h : DoesSt w lb N l k r v Q W) (o : Obj) : DoesSt w lb N l k r v (fun i => Q i ∨ i = W.heap.size) (W.alloc o) := by
  obtain ⟨F, P, S, M, G, st, h1, h2, h3, h4, h5, h0, h6⟩ := h
  have hb : Below W.heap.size W (W.alloc o) := (Below.refl _ _).alloc (Nat.le_refl _) _
  have hs : (W.alloc o).heap.size = W.heap.size + 1 := by simp
  refine ⟨F, fun i => P i ∧ i ≠ W.heap.size, S, M, G, st, h1.later hb, h2, h3.keep hb.size fun i hi hp => ⟨hb.block i hi, hp, by omega⟩, fun i hi => ⟨h4 i (by omega), by omega⟩, fun i hi => h5 i hi.1, fun i hi => ?_, h6⟩
  rcases hi with hi | rfl
  · exact ⟨fun hp => (h0 i hi).1 hp.1, (h0 i hi).2.1, by have := (h0 i hi).2.2; omega⟩
  · exact ⟨fun hp => hp.2 rfl, fun hf => by have := (h1.2.2 _ hf).2; omega, by omega⟩
/-- Such a box is written. -/
theorem DoesSt.set {b : Nat} (h : DoesSt w lb N l k r v Q W) (hb : Q b) (hc : Chg (fun i => i = b) W W') (hs : W'.heap.size = W.heap.size) (hw : w.heap.size ≤ b) : DoesSt w lb N l k r v Q W' := by
  obtain ⟨F, P, S, M, G, st, h1, h2, h3, h4, h5, h0, h6⟩ := h
  obtain ⟨q1, q2, q3⟩ := h0 b hb
  have hbl := h1.below
  exact ⟨F, P, S, M, G, st, h1.keep hc (fun i hi e => q2 (e ▸ hi)) (hbl.trans (hc.below hbl.size fun i e => by omega)), h2, h3.keep (Nat.le_of_eq hs.symm) fun i hi hp => ⟨hc.block i hi fun e => q1 (e ▸ hp), hp⟩, fun i hi => h4 i (by omega), h5, fun i hi => by rw [hs]; exact h0 i hi, h6⟩
theorem DoesSt.less {Q' : Nat → Prop} (h : DoesSt w lb N l k r v Q W) (hQ : ∀ i, Q' i → Q i) : DoesSt w lb N l k r v Q' W := by
  obtain ⟨F, P, S, M, G, st, h1, h2, h3, h4, h5, h0, h6⟩ := h
  exact ⟨F, P, S, M, G, st, h1, h2, h3, h4, h5, fun i hi => h0 i (hQ i hi), h6⟩
theorem DoesSt.new (h : LW w lb (w.heap.size + 1) 1048576 [] (newM N) W) (h1 : 16 ≤ N) (h2 : N ≤ 65536) : Calls Tryz.prog 16 #[.int .i64 N] W fun e W' => ∃ v, e = .returned v ∧ Below W.heap.size W W' ∧ Hid (DoesSt w lb N l 0 ⟨0, [], [], 0, N, 0⟩ v (fun _ => False) W') := by
  refine (RNew_is (P := fun k => ¬ (w.heap.size ≤ k ∧ k < W.heap.size)) N W).mono ?_
  rintro e W' ⟨v, rfl, hb, hr⟩
  refine ⟨v, rfl, hb, Lib.hid ⟨_, _, [], newM N, [], 1, h.lf.later hb, LI.new h1 h2, hr, fun i hi => ?_, fun i hi => hi, (fun i hi => hi.elim), newM_beside N, rfl, Nat.le_refl _, Nat.zero_le _⟩⟩
  have := hb.size
  omega
/-- 'does', in a law's loop. -/
theorem DoesSt.does (h : DoesSt w lb N l k r v Q W) (ht : Tab w) (hp : OpOk w w.heap.size p) (hl : l[k]? = some p) (hk : k < 40) (hw : weighs (l.take 41) ≤ 20000) :
    Calls Tryz.prog 17 #[.pointer (some ⟨w.heap.size + 1, 0, none⟩), .pointer (some ⟨lb, 0, none⟩), v, .agg #[.int .i64 p.kind, .int .i64 p.n, .slice p.bA p.bn p.bc]] W fun e W' => ∃ r' v', e = .returned (.tuple #[v', .bool true]) ∧ Hid (DoesSt w lb N l (k + 1) r' v' Q W') ∧ Hid (∀ i, Q i → W'.heap[i]? = W.heap[i]?) ∧ Hid (W.heap.size ≤ W'.heap.size) := by
  obtain ⟨F, P, S, M, G, st, h1, h2, h3, h4, h5, h0, h6, h7, h8, h9⟩ := h
  have hlen := hp.rb.len
  have hwk : weighs (l.take (k + 1)) = weighs (l.take k) + p.bn := by
    rw [List.take_add_one, hl]
    exact weighs_snoc _ _
  have hwm : weighs (l.take (k + 1)) ≤ weighs (l.take 41) := by
    have e : l.take 41 = l.take (k + 1) ++ (l.take 41).drop (k + 1) := by
      conv => lhs; rw [← List.take_append_drop (k + 1) (l.take 41)]
      rw [List.take_take, Nat.min_eq_left (by omega)]
    rw [e]
    unfold weighs
    rw [List.map_append, List.sum_append]
    exact Nat.le_add_right _ _
  refine (does_any h1 h2 ht h3 (h6.ok h2) h4 h5 hp (by omega) (by omega)).mono ?_
  rintro e W' ⟨v', el, S', M', rfl, hf⟩
  obtain ⟨q1, F', q2, q3, q4, q5⟩ := hf.out
  obtain ⟨G', st', q6, q7, q8, q9⟩ := log_step h2 q1 hp.byt (by omega)
  obtain ⟨q10, q11⟩ := beside_step h2 h6 q1 q6
  refine ⟨_, v', by rw [q10, beq_self_eq_true], Lib.hid ⟨F', _, S', M', G', st', q2, q6, q5, fun i hi => ⟨h4 i (Nat.le_trans q3.size hi), fun hF => ?_⟩, fun i hi => hi.2, fun i hi => ⟨fun hp => (h0 i hi).1 hp.1, fun hF => ?_, Nat.lt_of_lt_of_le (h0 i hi).2.2 q3.size⟩, q11, by rw [q9, h7], by omega, by omega⟩, Lib.hid fun i hi => q3.block i (h0 i hi).2.2 (h0 i hi).2.1, Lib.hid q3.size⟩
  · have := (q2.2.2 i hF).2
    omega
  · rcases q4 i hF with h10 | h10
    · exact (h0 i hi).2.1 h10
    · have := (h0 i hi).2.2
      omega
theorem DoesSt.both (h : DoesSt w lb N l k r v Q W) : ∃ P, Both w P lb (w.heap.size + 1) r v W ∧ r.base ≤ 100000000 ∧ r.recs.length ≤ 1000000 := by
  obtain ⟨F, P, S, M, G, st, h1, h2, h3, h4, h5, h0, h6, h7⟩ := h
  obtain ⟨Λ, h8, _⟩ := h1.lk.log
  have h9 := h6.ok h2
  exact ⟨P, ⟨⟨M, Λ, h8, h2.ok, h6.base.symm, h6.shot.symm, h6.recs.symm⟩, h3⟩, h9.base, h9.recs⟩
theorem DoesSt.same (h : DoesSt w lb N l k r v Q W) : Calls Tryz.prog 18 #[.pointer (some ⟨lb, 0, none⟩), v] W fun e V => e = .returned (.bool true) ∧ Hid (Below W.heap.size W V) := by
  obtain ⟨P, h1, h2, h3⟩ := h.both
  exact (same_any h1 h2 h3).mono fun e V h4 => ⟨h4.1, Lib.hid h4.2⟩
theorem DoesSt.synced (h : DoesSt w lb N l k r v Q W) : Calls Tryz.prog 19 #[.pointer (some ⟨lb, 0, none⟩)] W fun e V => e = .returned (.int .i64 r.syn) ∧ W = V := by
  obtain ⟨F, P, S, M, G, st, h1, h2, h3, h4, h5, h0, h6, h7⟩ := h
  obtain ⟨Λ, h8, _⟩ := h1.lk.log
  rw [h6.syn]
  exact h8.synced_
/-- The form of the document's value. -/
theorem DoesSt.form (h : DoesSt w lb N l k r v Q W) : ∃ tA tc rA rc, v = .agg #[.int .i64 r.base, .slice tA r.shot.length tc, .slice rA r.recs.length rc, .int .i64 r.syn, .int .i64 r.size, .int .i64 r.bytes, .int .i64 0] := by
  obtain ⟨F, P, S, M, G, st, h1, h2, h3, h4⟩ := h
  obtain ⟨tA, tc, rA, rc, l', hv, _⟩ := h3
  exact ⟨tA, tc, rA, rc, hv⟩
/-- The box of the document's log. -/
def BoxR (q : Nat) (r : RefM) (v : Value) (W : World) : Prop := ∃ tA tc rA rc, v = .agg #[.int .i64 r.base, .slice tA r.shot.length tc, .slice rA r.recs.length rc, .int .i64 r.syn, .int .i64 r.size, .int .i64 r.bytes, .int .i64 0] ∧ W.heap[q]? = some (.cells (bl r.base (.slice tA r.shot.length tc) (.slice rA r.recs.length rc) r.syn r.size r.bytes 0) 36 (0, 0))
end
end Go.Proofs.YtnomicnmpllajaaGreatDoor
end

section
namespace Go.Proofs.YtnomicnmpllajaaGreatDoor
open Go Go.RowKit
set_option linter.unusedVariables false

section
variable {w W W' V : World} {F P Kp Q : Nat → Prop} {lb d N B k n : Nat} {R : Int} {S : List RF} {M : LogM} {l : List OpM} {sh : List Int} {recs : List (List Int)} {r : RefM} {v : Value} {p : OpM} {A : Option Addr} {c : Nat}
theorem LK.set {b : Nat} (h : LK w Kp lb d R S M W) (hb : Kp b) (hc : Chg (fun i => i = b) W W') (hs : W'.heap.size = W.heap.size) (hw : w.heap.size ≤ b) : LK w Kp lb d R S M W' := by
  obtain ⟨⟨V, h⟩, h1, h2⟩ := h
  obtain ⟨Φ, Λ, hl, ⟨m, L, e, hD⟩, ha, hK⟩ := h.ex
  have hbl := h.below
  refine ⟨⟨V, hbl.trans (hc.below hbl.size fun i e => by omega), Φ, Λ, hl.keep hc fun i hi e => (hK i (.inr hi)).2.1 (e ▸ hb), ⟨m, L, e, hD.keep hc fun i hi e => (hK i (.inl hi)).2.1 (e ▸ hb)⟩, ha, fun i hi => ?_⟩, fun i hi => ?_, h2⟩
  · rw [hs]
    exact hK i hi
  · rw [hs]
    exact h1 i hi
/-- Behind a crash: a log that was opened, and the document's beside it. -/
def CrSt (w : World) (lb N B : Nat) (sh : List Int) (recs : List (List Int)) (r : RefM) (v : Value) (Q : Nat → Prop) (W : World) : Prop :=
  ∃ P Kp S M G st, LK w Kp lb (w.heap.size + 1) 1048576 S M W ∧ LI S M G st ∧ M.size = N ∧ M.base = B ∧ M.shot = sh ∧ M.recs = recs ∧ M.synced = M.last ∧ RefIs W P r v ∧ (∀ i, P i → Kp i) ∧ ∀ i, Q i → Kp i ∧ ¬ P i
theorem CrSt.below (h : CrSt w lb N B sh recs r v Q W) : Below w.heap.size w W := by
  obtain ⟨P, Kp, S, M, G, st, h1, _⟩ := h
  exact h1.below
theorem CrSt.later (h : CrSt w lb N B sh recs r v Q W) (hb : Below W.heap.size W W') : CrSt w lb N B sh recs r v Q W' := by
  obtain ⟨P, Kp, S, M, G, st, h1, h2, h3, h4, h5, h6, h7, h8, h9⟩ := h
  exact ⟨P, Kp, S, M, G, st, h1.later hb, h2, h3, h4, h5, h6, h7, h8.below hb, h9⟩
theorem CrSt.set {b : Nat} (h : CrSt w lb N B sh recs r v Q W) (hb : Q b) (hc : Chg (fun i => i = b) W W') (hs : W'.heap.size = W.heap.size) (hw : w.heap.size ≤ b) : CrSt w lb N B sh recs r v Q W' := by
  obtain ⟨P, Kp, S, M, G, st, h1, h2, h3, h4, h5, h6, h7, h8, h9, h10⟩ := h
  exact ⟨P, Kp, S, M, G, st, h1.set (h10 b hb).1 hc hs hw, h2, h3, h4, h5, h6, h7, h8.keep (Nat.le_of_eq hs.symm) fun i hi hp => ⟨hc.block i hi fun e => (h10 b hb).2 (e ▸ hp), hp⟩, h9, h10⟩
theorem CrSt.last_ (h : CrSt w lb N B sh recs r v Q W) : Calls Tryz.prog 21 #[.pointer (some ⟨lb, 0, none⟩)] W fun e w' => e = .returned (.int .i64 ((B : Int) + recs.length)) ∧ Below W.heap.size W w' := by
  obtain ⟨P, Kp, S, M, G, st, h1, h2, h3, h4, h5, h6, h7, h8, h9⟩ := h
  obtain ⟨Λ, hl, _⟩ := h1.log
  subst h4 h6
  refine (hl.last_ h2.ok).mono ?_
  rintro e w' ⟨rfl, q, rfl⟩
  refine ⟨?_, bdrewN (Below.refl _ _) q⟩
  unfold LogM.last
  rw [Int.natCast_add]
theorem CrSt.synced_ (h : CrSt w lb N B sh recs r v Q W) : Calls Tryz.prog 19 #[.pointer (some ⟨lb, 0, none⟩)] W fun e w' => e = .returned (.int .i64 ((B : Int) + recs.length)) ∧ W = w' := by
  obtain ⟨P, Kp, S, M, G, st, h1, h2, h3, h4, h5, h6, h7, h8, h9⟩ := h
  obtain ⟨Λ, hl, _⟩ := h1.log
  subst h4 h6
  refine hl.synced_.mono ?_
  rintro e w' ⟨rfl, rfl⟩
  refine ⟨?_, rfl⟩
  rw [h7]
  unfold LogM.last
  rw [Int.natCast_add]
theorem RefIs.take (h : RefIs W P r v) {t : Nat} (ht : t ≤ r.recs.length) : ∃ tA tc rA rc, v = .agg #[.int .i64 r.base, .slice tA r.shot.length tc, .slice rA r.recs.length rc, .int .i64 r.syn, .int .i64 r.size, .int .i64 r.bytes, .int .i64 0] ∧ r.recs.length ≤ rc ∧ rc ≤ 9223372036854775807 ∧ (rA = none → rc = 0) ∧
    RefIs W P { r with recs := r.recs.take t } (.agg #[.int .i64 r.base, .slice tA r.shot.length tc, .slice rA t rc, .int .i64 r.syn, .int .i64 r.size, .int .i64 r.bytes, .int .i64 0]) := by
  obtain ⟨tA, tc, rA, rc, l, rfl, h1, h2, h3⟩ := h
  have hlt : (r.recs.take t).length = t := by rw [List.length_take]; omega
  have hm := h2.max
  unfold maxLen at hm
  refine ⟨tA, tc, rA, rc, rfl, h2.cap, by omega, h2.nil, tA, tc, rA, rc, l.take t, ?_, h1, ?_, ?_⟩
  · show _ = rlv _ _ (.slice rA (r.recs.take t).length rc) _ _ _ _
    rw [hlt]
    rfl
  · show RowsP _ _ _ (r.recs.take t).length _ _
    rw [hlt]
    exact h2.take t ht
  · show _ = r.recs.take t
    rw [List.map_take, h3]
theorem CrSt.cut (h : CrSt w lb N B sh recs r v Q W) {t : Nat} (ht : t ≤ r.recs.length) : ∃ tA tc rA rc, v = .agg #[.int .i64 r.base, .slice tA r.shot.length tc, .slice rA r.recs.length rc, .int .i64 r.syn, .int .i64 r.size, .int .i64 r.bytes, .int .i64 0] ∧ r.recs.length ≤ rc ∧ rc ≤ 9223372036854775807 ∧ (rA = none → rc = 0) ∧
    CrSt w lb N B sh recs { r with recs := r.recs.take t } (.agg #[.int .i64 r.base, .slice tA r.shot.length tc, .slice rA t rc, .int .i64 r.syn, .int .i64 r.size, .int .i64 r.bytes, .int .i64 0]) Q W := by
  obtain ⟨P, Kp, S, M, G, st, h1, h2, h3, h4, h5, h6, h7, h8, h9⟩ := h
  obtain ⟨tA, tc, rA, rc, e1, e2, e3, e4, e5⟩ := h8.take ht
  exact ⟨tA, tc, rA, rc, e1, e2, e3, e4, P, Kp, S, M, G, st, h1, h2, h3, h4, h5, h6, h7, e5, h9⟩
/-- Open once more. -/
theorem CrSt.reopen (h : CrSt w lb N B sh recs r v Q W) (ht : Tab w) (e1 : r.base = B) (e2 : r.shot = sh) (e3 : r.recs = recs) :
    Calls Tryz.prog 15 #[.pointer (some ⟨w.heap.size + 1, 0, none⟩), .int .i64 N] W fun e w2 => ∃ lb2, e = .returned (.tuple #[.pointer (some ⟨lb2, 0, none⟩), .nilIface]) ∧ Hid (∀ i, Q i → w2.heap[i]? = W.heap[i]?) ∧ Hid (∃ P, Both w P lb (w.heap.size + 1) r v w2) ∧ Hid (∃ P, Both w P lb2 (w.heap.size + 1) r v w2) ∧ Hid (Below w.heap.size w w2) := by
  obtain ⟨P, Kp, S, M, G, st, h1, h2, rfl, h4, h5, h6, h7, h8, h9, h10⟩ := h
  obtain ⟨Λ, hlog, hdk⟩ := h1.log
  obtain ⟨S2, M2, G2, t, p1, p2, p3, p4, p5, p6, p7, p8, p9, p10⟩ := hdk.opened h2 h2.own_left ht
  refine p10.mono ?_
  rintro e w2 ⟨lb2, rfl, h3, hK⟩
  obtain ⟨Λ2, hlog2, _⟩ := h3.log
  have et : t = M.recs.length := by
    rw [h7] at p6
    unfold LogM.last at p6
    omega
  rw [et, List.take_length] at p8
  have hr2 : RefIs w2 P r v := h8.keep hK.2 fun i hi hp => ⟨hK.1 i (.inl (h9 i hp)), hp⟩
  subst h4 h5 h6
  refine ⟨lb2, rfl, Lib.hid fun i hi => hK.1 i (.inl (h10 i hi).1), Lib.hid ⟨P, ⟨M, Λ, hlog.kept hK (fun k hk => .inr hk) h3.below, h2.ok, e1.symm, e2.symm, e3.symm⟩, hr2⟩, Lib.hid ⟨P, ⟨M2, Λ2, hlog2, p1.ok, p3.trans e1.symm, p4.trans e2.symm, p8.trans e3.symm⟩, hr2⟩, Lib.hid h3.below⟩
theorem DoesSt.crash (h : DoesSt w lb N l k r v Q W) (ht : Tab w) {ks : List Int} (hr : Rd w w.heap.size .i64 A n c ks) (hks : ∀ z ∈ ks, -9223372036854775808 ≤ z ∧ z ≤ 9223372036854775807) :
    Calls Tryz.prog 20 #[.pointer (some ⟨w.heap.size + 1, 0, none⟩), .slice A n c] W fun e w1 => e = .returned (.tuple #[]) ∧ Hid (∀ i, Q i → w1.heap[i]? = W.heap[i]?) ∧ Hid (∃ t, t ≤ r.recs.length ∧ r.syn ≤ r.base + t ∧
      Calls Tryz.prog 15 #[.pointer (some ⟨w.heap.size + 1, 0, none⟩), .int .i64 N] w1 fun e w2 => ∃ lb2, e = .returned (.tuple #[.pointer (some ⟨lb2, 0, none⟩), .nilIface]) ∧ Hid (∀ i, Q i → w2.heap[i]? = w1.heap[i]?) ∧ Hid (CrSt w lb2 N r.base r.shot (r.recs.take t) r v Q w2)) := by
  obtain ⟨F, P, S, M, G, st, h1, h2, h3, h4, h5, h0, h6, rfl, h8, h9⟩ := h
  have hlk := h1.lk
  have hdk := hlk.dk
  have hA : ∀ a, A = some a → 0 < n → a.block < W.heap.size ∧ ¬ F a.block := fun a e hn => by
    obtain ⟨b', o', e', hb', _⟩ := hr.cell (j := 0) hn
    rw [e] at e'
    cases e'
    exact ⟨Nat.lt_of_lt_of_le hb' h1.below.size, fun hF => by have h7 : w.heap.size ≤ b' := (h1.2.2 _ hF).1; omega⟩
  refine (hdk.crash h2.few ((hr.below h1.below).more h1.below.size) hA hks).mono ?_
  rintro e w1 ⟨rfl, q1, q2⟩
  obtain ⟨S2, M2, G2, t, p1, p2, p3, p4, p5, p6, p7, p8, p9, p10⟩ := q1.opened h2 (crashF_left h2.rise ks) ht
  have hr1 : RefIs w1 (fun i => P i ∧ i < W.heap.size) r v := h3.keep q2.2 fun i hi hp => ⟨q2.1 i ⟨hi, h5 i hp⟩, hp, hi⟩
  refine ⟨rfl, Lib.hid fun i hi => q2.1 i ⟨(h0 i hi).2.2, (h0 i hi).2.1⟩, Lib.hid ⟨t, by rw [h6.recs]; exact p7, by rw [h6.syn, h6.base]; exact p6, p10.mono ?_⟩⟩
  rintro e w2 ⟨lb2, rfl, q3, q4⟩
  exact ⟨lb2, rfl, Lib.hid fun i hi => q4.1 i ⟨(h0 i hi).2.2, (h0 i hi).2.1⟩, Lib.hid ⟨fun i => P i ∧ i < W.heap.size, _, S2, M2, G2, st, q3, p1, p2, by rw [p3, h6.base], by rw [p4, h6.shot], by rw [p8, h6.recs], p5, hr1.keep q4.2 fun i hi hp => ⟨q4.1 i ⟨hp.2, h5 i hp.1⟩, hp⟩, fun i hp => ⟨hp.2, h5 i hp.1⟩, fun i hi => ⟨⟨(h0 i hi).2.2, (h0 i hi).2.1⟩, fun hp => (h0 i hi).1 hp.1⟩⟩⟩
end
end Go.Proofs.YtnomicnmpllajaaGreatDoor
end

section
namespace Go.Proofs.YtnomicnmpllajaaGreatDoor
open Go Go.RowKit
set_option linter.unusedVariables false

set_option maxHeartbeats 3200000 in
set_option maxRecDepth 100000 in
theorem crashes_any (size : Int) {A : Option Addr} {n c : Nat} {l : List OpM} {kA : Option Addr} {kn kc : Nat} {ks : List Int} (w : World) (hl : OpsRd w w.heap.size A n c l) (hks : Rd w w.heap.size .i64 kA kn kc ks) (hkb : ∀ z ∈ ks, -9223372036854775808 ≤ z ∧ z ≤ 9223372036854775807) (ht : Tab w) :
    Calls Tryz.prog 4 #[.int .i64 size, .slice A n c, .slice kA kn kc] w fun e w' => e = .returned (.bool true) ∧ Below w.heap.size w w' := by
  have hm1 := hl.max
  have hm2 := hl.cap
  unfold maxLen at hm1
  have HFEW := Lib.hid (few_any hl)
  have HAW := Lib.hid fun (W : World) (hW : Below w.heap.size w W) => awake_any W (ht.below hW)
  by_cases hf : fewF l = false
  · rw [hf] at HFEW
    clear hks hkb hf hl ht
    go_enter Tryz.func4, Tryz.ntmps4
    go_wp2_with (first
      | (go_at_call 11; refine HFEW.out.mono ?_; rintro e w0 ⟨rfl, q, rfl⟩)
      | (go_at_call 13; refine (HAW.out _ (bdrewN (Below.refl _ _) q)).mono ?_; rintro e w1 ⟨rfl, hb⟩))
    go_ret
    exact ⟨rfl, (bdrewN (Below.refl _ _) q).trans hb⟩
  have hf : fewF l = true := by simpa using hf
  by_cases hs : 16 ≤ size ∧ size ≤ 65536
  case neg =>
    have HSM := Lib.hid fun W => small_any size W
    rw [decide_eq_false hs] at HSM
    rw [hf] at HFEW
    clear hks hkb hf hl ht hs
    go_enter Tryz.func4, Tryz.ntmps4
    go_wp2_with (first
      | (go_at_call 11; refine HFEW.out.mono ?_; rintro e w0 ⟨rfl, q, rfl⟩)
      | (go_at_call 12; refine (HSM.out _).mono ?_; rintro e w2 ⟨rfl, rfl⟩)
      | (go_at_call 13; refine (HAW.out _ (bdrewN (Below.refl _ _) q)).mono ?_; rintro e w1 ⟨rfl, hb⟩))
    go_ret
    exact ⟨rfl, (bdrewN (Below.refl _ _) q).trans hb⟩
  obtain ⟨N, rfl⟩ : ∃ N : Nat, size = N := ⟨size.toNat, by omega⟩
  have HSM := Lib.hid fun W => small_any N W
  rw [decide_eq_true hs] at HSM
  rw [hf] at HFEW
  have HOP := Lib.hid fun W => open_lw W 1048576 N (by omega) (by omega)
  have HL := Lib.hid hl
  have HKS := Lib.hid hks
  have HKB := Lib.hid hkb
  have HT := Lib.hid ht
  have HS0 := Lib.hid hs
  unfold fewF at hf
  rw [Bool.and_eq_true, decide_eq_true_eq, decide_eq_true_eq, hl.len] at hf
  have HW := Lib.hid hf.2
  have hn40 := hf.1
  clear hks hkb hf hl ht hs
  go_enter Tryz.func4, Tryz.ntmps4
  go_wp2_with (first
    | (go_at_call 11; refine HFEW.out.mono ?_; rintro e w0 ⟨rfl, q, rfl⟩)
    | (go_at_call 12; refine (HSM.out _).mono ?_; rintro e w2 ⟨rfl, rfl⟩)
    | (go_at_call 14; refine (HOP.out _).mono ?_; rintro e w1 ⟨rfl, HO⟩)
    | (go_at_call 15; refine HO.out.mono ?_; rintro e w2 ⟨lb, rfl, h2⟩; have HN := Lib.hid (DoesSt.new (l := l) h2.rebase (by have := HS0.out; omega) (by have := HS0.out; omega)); clear h2 HO)
    | (go_at_call 16; refine HN.out.mono ?_; rintro e w3 ⟨v, rfl, hb3, HS⟩; clear HN hb3; obtain ⟨tA, tc, rA, rc, hv⟩ := HS.out.form; subst hv))
  have HQ0 : ∃ q0, q0 = w3.heap.size := ⟨_, rfl⟩
  obtain ⟨q0, hq0⟩ := HQ0
  have HSB : Hid (DoesSt w lb N l 0 ⟨0, [], [], 0, N, 0⟩ (.agg #[.int .i64 0, .slice tA 0 tc, .slice rA 0 rc, .int .i64 0, .int .i64 N, .int .i64 0, .int .i64 0]) (fun i => i = q0) (w3.alloc (.cells #[.int .i64 0, .slice tA 0 tc, .slice rA 0 rc, .int .i64 0, .int .i64 N, .int .i64 0, .int .i64 0] 36))) := Lib.hid ((HS.out.box _).less fun i hi => .inr (hi.trans hq0))
  have HBX : Hid (BoxR q0 ⟨0, [], [], 0, N, 0⟩ (.agg #[.int .i64 0, .slice tA 0 tc, .slice rA 0 rc, .int .i64 0, .int .i64 N, .int .i64 0, .int .i64 0]) (w3.alloc (.cells #[.int .i64 0, .slice tA 0 tc, .slice rA 0 rc, .int .i64 0, .int .i64 N, .int .i64 0, .int .i64 0] 36))) := Lib.hid ⟨tA, tc, rA, rc, rfl, by rw [hq0]; exact heap_alloc_new _ _⟩
  have HWQ : Hid (w.heap.size ≤ q0) := Lib.hid (by rw [hq0]; exact HS.out.below.size)
  rw [← hq0]
  generalize w3.alloc (.cells #[.int .i64 0, .slice tA 0 tc, .slice rA 0 rc, .int .i64 0, .int .i64 N, .int .i64 0, .int .i64 0] 36) = W3' at *
  clear HS HOP HSM HFEW hq0
  go_loopw [12, 49] (fun _ t wr => ∃ (k : Nat) (r : RefM) (v : Value), t = .int .i64 k ∧ k ≤ n ∧ Hid (DoesSt w lb N l k r v (fun i => i = q0) wr) ∧ Hid (BoxR q0 r v wr)) (fun _ t _ => n - (intOf t).toNat)
  case atStart => exact ⟨0, _, _, rfl, Nat.zero_le _, HSB, HBX⟩
  case round =>
    obtain ⟨k, r, v, rfl, hk, HS, HB⟩ := hrel
    obtain ⟨tA2, tc2, rA2, rc2, rfl, hbx⟩ := HB.out
    clear HSB HBX
    by_cases hkn : k < n
    · obtain ⟨p, b, o, hp, hpm, rfl, hbB, hcell, hok⟩ := HL.out.at hkn
      have hb := HS.out.below
      have cc : ∀ i u, p.vals[i]? = some u → wr.cell? ⟨b, o + k * 3 + i, none⟩ = some u := fun i u hu => by
        rw [hb.cell (p := ⟨b, o + k * 3 + i, none⟩) hbB, Nat.add_assoc]
        exact hcell i u hu
      have e0 := cc 0 _ rfl
      have e1 := cc 1 _ rfl
      have e2 := cc 2 _ rfl
      have hkn' : (k : Int) < n := by omega
      rw [Nat.add_zero] at e0
      clear hcell cc
      go_upto_region 11 with fail
      have HS1 : Hid (DoesSt w lb N l k r _ (fun i => i = q0) (wr.alloc (.cells #[.int .i64 p.kind, .int .i64 p.n, .slice p.bA p.bn p.bc] 39))) := Lib.hid ((HS.out.box _).less fun i hi => .inl hi)
      obtain ⟨c0, c1, c2, _⟩ := three_cells (heap_alloc_new wr (.cells #[.int .i64 p.kind, .int .i64 p.n, .slice p.bA p.bn p.bc] 39))
      have hbx1 := (Chg.of_below (Φ := fun _ => False) ((Below.refl wr.heap.size wr).alloc (Nat.le_refl _) (.cells #[.int .i64 p.kind, .int .i64 p.n, .slice p.bA p.bn p.bc] 39))).heap hbx id
      obtain ⟨r0, r1, r2, r3, r4, r5, r6, rf⟩ := bl_cells hbx1
      have HD := Lib.hid (HS1.out.does HT.out hok hp (by omega) HW.out)
      have HBX1 := Lib.hid hbx1
      have w1 : IntKind.i64.wrap ((k : Int) + 1) = (k : Int) + 1 := IntWalk.i64_in _ (by omega)
      obtain ⟨pk, pn, pbA, pbn, pbc, pb⟩ := p
      simp only at c0 c1 c2 HD HS1 HBX1 r0 r1 r2 r3 r4 r5 r6
      clear hb e0 e1 e2 hp hpm hok HS HB hbB hbx hbx1
      generalize wr.alloc (.cells #[.int .i64 pk, .int .i64 pn, .slice pbA pbn pbc] 39) = W1 at *
      generalize wr.heap.size = bq at *
      go_upto_region 12 with (
          go_at_call 17
          refine HD.out.mono ?_
          rintro e W2 ⟨r', v', rfl, HS2, HQ2, HZ2⟩
          obtain ⟨tB, tD, rB, rD, hv'⟩ := HS2.out.form
          subst hv'
          clear c0 c1 c2 r0 r1 r2 r3 r4 r5 r6 rf HD)
      have HNB : Hid ((W2.alloc (.cells (bl r'.base (.slice tB r'.shot.length tD) (.slice rB r'.recs.length rD) r'.syn r'.size r'.bytes 0) 36)).heap[W2.heap.size]? = some (.cells (bl r'.base (.slice tB r'.shot.length tD) (.slice rB r'.recs.length rD) r'.syn r'.size r'.bytes 0) 36 (0, 0))) := Lib.hid (heap_alloc_new _ _)
      have HB3 : Hid (Below W2.heap.size W2 (W2.alloc (.cells (bl r'.base (.slice tB r'.shot.length tD) (.slice rB r'.recs.length rD) r'.syn r'.size r'.bytes 0) 36))) := Lib.hid ((Below.refl _ _).alloc (Nat.le_refl _) _)
      have hbx2 : (W2.alloc (.cells (bl r'.base (.slice tB r'.shot.length tD) (.slice rB r'.recs.length rD) r'.syn r'.size r'.bytes 0) 36)).heap[q0]? = _ := (Chg.of_below (Φ := fun _ => False) HB3.out).heap ((HQ2.out q0 rfl).trans HBX1.out) id
      have HBX3 := Lib.hid hbx2
      have HS3 := Lib.hid (HS2.out.later HB3.out)
      clear hbx2 HBX1 HS1 HQ2
      unfold bl at HNB HB3 HBX3 HS3
      generalize hW3 : W2.alloc (.cells #[.int .i64 r'.base, .slice tB r'.shot.length tD, .slice rB r'.recs.length rD, .int .i64 r'.syn, .int .i64 r'.size, .int .i64 r'.bytes, .int .i64 0] 36) = W3 at *
      go_upto_region 14 with fail
      obtain ⟨n0, n1, n2, n3, n4, n5, n6, nf⟩ := bl_cells HNB.out
      have hbx4 := HBX3.out
      obtain ⟨r0, r1, r2, r3, r4, r5, r6, rf⟩ := bl_cells hbx4
      have HEND : Hid (∀ Vf, Vf = storedL W3 q0 r'.base (.slice tB r'.shot.length tD) (.slice rB r'.recs.length rD) r'.syn r'.size r'.bytes 0 → DoesSt w lb N l (k + 1) r' (.agg #[.int .i64 r'.base, .slice tB r'.shot.length tD, .slice rB r'.recs.length rD, .int .i64 r'.syn, .int .i64 r'.size, .int .i64 r'.bytes, .int .i64 0]) (fun i => i = q0) Vf ∧ BoxR q0 r' (.agg #[.int .i64 r'.base, .slice tB r'.shot.length tD, .slice rB r'.recs.length rD, .int .i64 r'.syn, .int .i64 r'.size, .int .i64 r'.bytes, .int .i64 0]) Vf) := Lib.hid fun Vf hf => by
        subst hf
        exact ⟨HS3.out.set rfl storedL_chg storedL_size HWQ.out, tB, tD, rB, rD, rfl, storedL_is hbx4⟩
      unfold storedL at HEND
      clear hbx4
      go_wp2_with fail
      obtain ⟨hD, hB⟩ := HEND.out _ rfl
      have HDD := Lib.hid hD
      have HBB := Lib.hid hB
      clear n0 n1 n2 n3 n4 n5 n6 nf r0 r1 r2 r3 r4 r5 r6 rf HEND hD hB
      go_roundw
      case rel => exact ⟨k + 1, _, _, by go_num, by omega, HDD, HBB⟩
      case measure => simp [intOf]; omega
    · obtain rfl : k = n := by omega
      have HCRS := Lib.hid (HS.out.crash HT.out HKS.out HKB.out)
      have HBX := Lib.hid hbx
      have HRB : Hid (r.base ≤ 100000000 ∧ r.recs.length ≤ 1000000) := Lib.hid (by obtain ⟨_, _, h1, h2⟩ := HS.out.both; exact ⟨h1, h2⟩)
      clear HS HB hbx
      go_upto_region 17 with (
          go_at_call 20
          refine HCRS.out.mono ?_
          rintro e V1 ⟨rfl, HQ1, HT1⟩)
      obtain ⟨t, ht1, ht2, hopen⟩ := HT1.out
      have HOPN := Lib.hid hopen
      clear hopen HT1 HCRS
      go_upto_region 18 with (
          go_at_call 15
          refine HOPN.out.mono ?_
          rintro e V2 ⟨lb2, rfl, HQ2, HCR⟩)
      have HBV2 : Hid (V2.heap[q0]? = some (.cells (bl r.base (.slice tA2 r.shot.length tc2) (.slice rA2 r.recs.length rc2) r.syn r.size r.bytes 0) 36 (0, 0))) := Lib.hid (((HQ2.out q0 rfl).trans (HQ1.out q0 rfl)).trans HBX.out)
      have hlt : (r.recs.take t).length = t := by rw [List.length_take]; omega
      obtain ⟨P1, Kp1, S1, M1, G1, st1, x1, x2, x3, x4, x5, x6, x7⟩ := HCR.out
      have hma := x2.many
      have hbr : r.base ≤ 100000000 ∧ r.recs.length ≤ 1000000 := HRB.out
      have hbm : r.base + t < 900000 := by
        unfold LogM.last at hma
        rw [x4, x6, hlt] at hma
        exact hma
      obtain ⟨tA3, tc3, rA3, rc3, hv3, hrc1, hrc2, hrc3, _⟩ := HCR.out.cut ht1
      clear x1 x2 x3 x4 x5 x6 x7 hma
      cases hv3
      have HLA := Lib.hid fun V => RLast_any (base := (r.base : Int)) (vT := .slice tA2 r.shot.length tc2) (syn := (r.syn : Int)) (size := (r.size : Int)) (bytes := (r.bytes : Int)) (here := 0) (A := rA2) (n := r.recs.length) (c := rc2) (by omega) (by omega) V
      unfold rlv at HLA
      have m1 : ¬ ((r.base : Int) + t < r.syn) := by omega
      have m2 : ¬ ((r.base : Int) + r.recs.length < (r.base : Int) + t) := by omega
      have m3 : IntKind.i64.wrap ((r.base : Int) + t - r.base) = t := by rw [IntWalk.i64_in _ (by omega)]; omega
      refine wp_region_G (fun w' => w'.heap[q0]? = some (.cells (bl r.base (.slice tA2 r.shot.length tc2) (.slice rA2 r.recs.length rc2) r.syn r.size r.bytes 0) 36 (0, 0))) 32 (by kernel_rfl) ?_
      have hS0 : V2.drew.heap[q0]? = some (.cells (bl r.base (.slice tA2 r.shot.length tc2) (.slice rA2 r.recs.length rc2) r.syn r.size r.bytes 0) 36 (0, 0)) := HBV2.out
      have HC3 : Hid (CrSt w lb2 N r.base r.shot (r.recs.take t) r _ (fun i => i = q0) V2.drew) := Lib.hid (HCR.out.later (Below.refl _ _).drew)
      refine wpAnyG_one (i := 0) (o := ⟨some 74, _, _, _, _, _⟩) (by kernel_rfl) rfl (fun K hK => ?_)
      go_simp
      refine hK.out _ _ (fun _ => hS0) ?_
      clear hK K
      try simp only [Act.put]
      refine wpAnyG_one (i := 1) (o := ⟨some 75, _, _, _, _, _⟩) (by kernel_rfl) rfl (fun K hK => ?_)
      go_simp
      refine hK.out _ _ (fun _ => hS0) ?_
      clear hK K
      try simp only [Act.put]
      refine wpAnyG_one (i := 2) (o := ⟨some 76, _, _, _, _, _⟩) (by kernel_rfl) rfl (fun K hK => ?_)
      go_simp
      refine hK.out _ _ (fun _ => hS0) ?_
      clear hK K
      try simp only [Act.put]
      refine wpAnyG_one (i := 3) (o := ⟨some 77, _, _, _, _, _⟩) (by kernel_rfl) rfl (fun K hK => ?_)
      go_simp
      refine hK.out _ _ (fun _ => hS0) ?_
      clear hK K
      try simp only [Act.put]
      refine wpAnyG_one (i := 4) (o := ⟨some 78, _, _, _, _, _⟩) (by kernel_rfl) rfl (fun K hK => ?_)
      go_simp
      refine hK.out _ _ (fun _ => hS0) ?_
      clear hK K
      try simp only [Act.put]
      refine wpAnyG_one (i := 5) (o := ⟨some 79, _, _, _, _, _⟩) (by kernel_rfl) rfl (fun K hK => ?_)
      go_simp
      refine hK.out _ _ (fun _ => hS0) ?_
      clear hK K
      try simp only [Act.put]
      refine wpAnyG_one (i := 6) (o := ⟨some 80, _, _, _, _, _⟩) (by kernel_rfl) rfl (fun K hK => ?_)
      go_simp
      refine hK.out _ _ (fun _ => hS0) ?_
      clear hK K
      try simp only [Act.put]
      refine wpAnyG_take (i := 9) (oi := _) (v := ?_) rfl (by kernel_rfl) (by kernel_rfl) (by kernel_rfl) (by kernel_rfl) (fun _ _ _ h => h) (Or.inl ⟨by rfl, ?_⟩) hS0 ?_
      rotate_left
      · (intro wS hSw; obtain ⟨n0, n1, n2, n3, n4, n5, n6, nf⟩ := bl_cells hSw; clear hSw; go_simp; try with_reducible rfl)
      try simp only [Act.put]
      refine wpAnyG_take (i := 10) (oi := _) (v := ?_) rfl (by kernel_rfl) (by kernel_rfl) (by kernel_rfl) (by kernel_rfl) (fun _ _ _ h => h) (Or.inl ⟨by rfl, ?_⟩) hS0 ?_
      rotate_left
      · (intro wS hSw; obtain ⟨n0, n1, n2, n3, n4, n5, n6, nf⟩ := bl_cells hSw; clear hSw; go_simp; try with_reducible rfl)
      try simp only [Act.put]
      refine wpAnyG_one (i := 7) (o := ⟨some 81, _, _, _, _, _⟩) (by kernel_rfl) rfl (fun K hK => ?_)
      go_simp
      refine hK.out _ _ (fun _ => hS0) ?_
      clear hK K
      try simp only [Act.put]
      refine wpAnyG_one (i := 8) (o := ⟨some 82, _, _, _, _, _⟩) (by kernel_rfl) rfl (fun K hK => ?_)
      go_simp
      refine HC3.out.last_.mono ?_
      rintro e V3 ⟨rfl, hb3⟩
      rw [hlt]
      have HC4 := Lib.hid (HC3.out.later hb3)
      have hS3 := (Chg.of_below (Φ := fun _ => False) hb3).heap hS0 id
      clear hS0 hb3
      refine hK.out _ _ (fun _ => hS3) ?_
      clear hK K
      try simp only [Act.put]
      refine wpAnyG_one (i := 11) (o := ⟨some 85, _, _, _, _, _⟩) (by kernel_rfl) rfl (fun K hK => ?_)
      go_simp
      refine hK.out _ _ (fun _ => hS3) ?_
      clear hK K
      try simp only [Act.put]
      refine wpAnyG_one (i := 12) (o := ⟨some 86, _, _, _, _, _⟩) (by kernel_rfl) rfl (fun K hK => ?_)
      go_simp
      refine hK.out _ _ (fun _ => hS3) ?_
      clear hK K
      try simp only [Act.put]
      refine wpAnyG_one (i := 13) (o := ⟨some 87, _, _, _, _, _⟩) (by kernel_rfl) rfl (fun K hK => ?_)
      go_simp
      refine hK.out _ _ (fun _ => hS3) ?_
      clear hK K
      try simp only [Act.put]
      refine wpAnyG_take (i := 16) (oi := _) (v := ?_) rfl (by kernel_rfl) (by kernel_rfl) (by kernel_rfl) (by kernel_rfl) (fun _ _ _ h => h) (Or.inl ⟨by rfl, ?_⟩) hS3 ?_
      rotate_left
      · (intro wS hSw; obtain ⟨n0, n1, n2, n3, n4, n5, n6, nf⟩ := bl_cells hSw; clear hSw; go_simp; try with_reducible rfl)
      try simp only [Act.put]
      refine wpAnyG_one (i := 14) (o := ⟨some 88, _, _, _, _, _⟩) (by kernel_rfl) rfl (fun K hK => ?_)
      go_simp
      refine hK.out _ _ (fun _ => hS3) ?_
      clear hK K
      try simp only [Act.put]
      refine wpAnyG_one (i := 15) (o := ⟨some 89, _, _, _, _, _⟩) (by kernel_rfl) rfl (fun K hK => ?_)
      go_simp
      refine HC4.out.last_.mono ?_
      rintro e V4 ⟨rfl, hb4⟩
      rw [hlt]
      have HC5 := Lib.hid (HC4.out.later hb4)
      have hS4 := (Chg.of_below (Φ := fun _ => False) hb4).heap hS3 id
      clear hS3 hb4
      refine hK.out _ _ (fun _ => hS4) ?_
      clear hK K
      try simp only [Act.put]
      refine wpAnyG_one (i := 17) (o := ⟨some 91, _, _, _, _, _⟩) (by kernel_rfl) rfl (fun K hK => ?_)
      go_simp
      refine (HLA.out V4).mono ?_
      rintro e V5 ⟨rfl, hb5⟩
      have HC6 := Lib.hid (HC5.out.later hb5)
      have hS5 := (Chg.of_below (Φ := fun _ => False) hb5).heap hS4 id
      clear hS4 hb5
      refine hK.out _ _ (fun _ => hS5) ?_
      clear hK K
      try simp only [Act.put]
      refine wpAnyG_one (i := 18) (o := ⟨some 92, _, _, _, _, _⟩) (by kernel_rfl) rfl (fun K hK => ?_)
      go_simp
      refine hK.out _ _ (fun _ => hS5) ?_
      clear hK K
      try simp only [Act.put]
      refine wpAnyG_one (i := 19) (o := ⟨some 93, _, _, _, _, _⟩) (by kernel_rfl) rfl (fun K hK => ?_)
      go_simp
      refine hK.out _ _ (fun _ => hS5) ?_
      clear hK K
      try simp only [Act.put]
      refine wpAnyG_one (i := 20) (o := ⟨some 94, _, _, _, _, _⟩) (by kernel_rfl) rfl (fun K hK => ?_)
      go_simp
      refine hK.out _ _ (fun _ => hS5) ?_
      clear hK K
      try simp only [Act.put]
      refine wpAnyG_take (i := 23) (oi := _) (v := ?_) rfl (by kernel_rfl) (by kernel_rfl) (by kernel_rfl) (by kernel_rfl) (fun _ _ _ h => h) (Or.inl ⟨by rfl, ?_⟩) hS5 ?_
      rotate_left
      · (intro wS hSw; obtain ⟨n0, n1, n2, n3, n4, n5, n6, nf⟩ := bl_cells hSw; clear hSw; go_simp; try with_reducible rfl)
      try simp only [Act.put]
      refine wpAnyG_one (i := 21) (o := ⟨some 95, _, _, _, _, _⟩) (by kernel_rfl) rfl (fun K hK => ?_)
      go_simp
      refine hK.out _ _ (fun _ => hS5) ?_
      clear hK K
      try simp only [Act.put]
      refine wpAnyG_one (i := 22) (o := ⟨some 96, _, _, _, _, _⟩) (by kernel_rfl) rfl (fun K hK => ?_)
      go_simp
      refine HC6.out.synced_.mono ?_
      rintro e V6 ⟨rfl, rfl⟩
      rw [hlt]
      refine hK.out _ _ (fun _ => hS5) ?_
      clear hK K
      try simp only [Act.put]
      refine wpAnyG_one (i := 24) (o := ⟨some 98, _, _, _, _, _⟩) (by kernel_rfl) rfl (fun K hK => ?_)
      go_simp
      refine HC6.out.last_.mono ?_
      rintro e V7 ⟨rfl, hb7⟩
      rw [hlt]
      have HC7 := Lib.hid (HC6.out.later hb7)
      have hS7 := (Chg.of_below (Φ := fun _ => False) hb7).heap hS5 id
      clear hS5 hb7
      refine hK.out _ _ (fun _ => hS7) ?_
      clear hK K
      try simp only [Act.put]
      refine wpAnyG_one (i := 25) (o := ⟨some 99, _, _, _, _, _⟩) (by kernel_rfl) rfl (fun K hK => ?_)
      go_simp
      refine hK.out _ _ (fun _ => hS7) ?_
      clear hK K
      try simp only [Act.put]
      refine wpAnyG_one (i := 26) (o := ⟨some 100, _, _, _, _, _⟩) (by kernel_rfl) rfl (fun K hK => ?_)
      go_simp
      refine hK.out _ _ (fun _ => hS7) ?_
      clear hK K
      try simp only [Act.put]
      refine wpAnyG_done (by kernel_rfl) ?_ _
      try go_simp
      go_upto_region 20 with fail
      refine wp_region_G (fun w' => w'.heap[q0]? = some (.cells (bl r.base (.slice tA2 r.shot.length tc2) (.slice rA2 r.recs.length rc2) r.syn r.size r.bytes 0) 36 (0, 0))) 9 (by kernel_rfl) ?_
      have hS8 : V7.drew.heap[q0]? = some (.cells (bl r.base (.slice tA2 r.shot.length tc2) (.slice rA2 r.recs.length rc2) r.syn r.size r.bytes 0) 36 (0, 0)) := hS7
      have HC8 : Hid (CrSt w lb2 N r.base r.shot (r.recs.take t) r _ (fun i => i = q0) V7.drew) := Lib.hid (HC7.out.later (Below.refl _ _).drew)
      refine wpAnyG_take (i := 0) (oi := _) (v := ?_) rfl (by kernel_rfl) (by kernel_rfl) (by kernel_rfl) (by kernel_rfl) (fun _ _ _ h => h) (Or.inl ⟨by rfl, ?_⟩) hS8 ?_
      rotate_left
      · (intro wS hSw; obtain ⟨n0, n1, n2, n3, n4, n5, n6, nf⟩ := bl_cells hSw; clear hSw; go_simp; try with_reducible rfl)
      try simp only [Act.put]
      refine wpAnyG_take (i := 1) (oi := _) (v := ?_) rfl (by kernel_rfl) (by kernel_rfl) (by kernel_rfl) (by kernel_rfl) (fun _ _ _ h => h) (Or.inl ⟨by rfl, ?_⟩) hS8 ?_
      rotate_left
      · (intro wS hSw; obtain ⟨n0, n1, n2, n3, n4, n5, n6, nf⟩ := bl_cells hSw; clear hSw; go_simp; try with_reducible rfl)
      try simp only [Act.put]
      refine wpAnyG_take (i := 2) (oi := _) (v := ?_) rfl (by kernel_rfl) (by kernel_rfl) (by kernel_rfl) (by kernel_rfl) (fun _ _ _ h => h) (Or.inl ⟨by rfl, ?_⟩) hS8 ?_
      rotate_left
      · (intro wS hSw; obtain ⟨n0, n1, n2, n3, n4, n5, n6, nf⟩ := bl_cells hSw; clear hSw; go_simp; try with_reducible rfl)
      try simp only [Act.put]
      refine wpAnyG_take (i := 4) (oi := _) (v := ?_) rfl (by kernel_rfl) (by kernel_rfl) (by kernel_rfl) (by kernel_rfl) (fun _ _ _ h => h) (Or.inl ⟨by rfl, ?_⟩) hS8 ?_
      rotate_left
      · (intro wS hSw; obtain ⟨n0, n1, n2, n3, n4, n5, n6, nf⟩ := bl_cells hSw; clear hSw; go_simp; try with_reducible rfl)
      try simp only [Act.put]
      refine wpAnyG_take (i := 5) (oi := _) (v := ?_) rfl (by kernel_rfl) (by kernel_rfl) (by kernel_rfl) (by kernel_rfl) (fun _ _ _ h => h) (Or.inl ⟨by rfl, ?_⟩) hS8 ?_
      rotate_left
      · (intro wS hSw; obtain ⟨n0, n1, n2, n3, n4, n5, n6, nf⟩ := bl_cells hSw; clear hSw; go_simp; try with_reducible rfl)
      try simp only [Act.put]
      refine wpAnyG_one (i := 3) (o := ⟨some 104, _, _, _, _, _⟩) (by kernel_rfl) rfl (fun K hK => ?_)
      go_simp
      refine HC8.out.last_.mono ?_
      rintro e V9 ⟨rfl, hb9⟩
      rw [hlt]
      have HC9 := Lib.hid (HC8.out.later hb9)
      have hS9 := (Chg.of_below (Φ := fun _ => False) hb9).heap hS8 id
      clear hS8 hb9
      refine hK.out _ _ (fun _ => hS9) ?_
      clear hK K
      try simp only [Act.put]
      refine wpAnyG_take (i := 6) (oi := _) (v := ?_) rfl (by kernel_rfl) (by kernel_rfl) (by kernel_rfl) (by kernel_rfl) (fun _ _ _ h => h) (Or.inl ⟨by rfl, ?_⟩) hS9 ?_
      rotate_left
      · (intro wS hSw; obtain ⟨n0, n1, n2, n3, n4, n5, n6, nf⟩ := bl_cells hSw; clear hSw; go_simp; try with_reducible rfl)
      try simp only [Act.put]
      refine wpAnyG_take (i := 7) (oi := _) (v := .slice rA2 t rc2) rfl (by kernel_rfl) (by kernel_rfl) (by kernel_rfl) (by kernel_rfl) (fun _ _ _ h => h) (Or.inl ⟨by rfl, ?_⟩) hS9 ?_
      · intro wS hSw
        clear hSw
        rcases rA2 with _ | a
        · have hr0 := hrc3 rfl
          subst hr0
          have hn0 : r.recs.length = 0 := by omega
          have ht0 : t = 0 := by omega
          subst ht0
          rw [hn0]
          go_simp
        · have hkc : (t : Int) ≤ rc2 := by omega
          go_simp
      try simp only [Act.put]
      refine wpAnyG_take (i := 8) (oi := _) (v := ?_) rfl (by kernel_rfl) (by kernel_rfl) (by kernel_rfl) (by kernel_rfl) (fun _ _ _ h => h) (Or.inl ⟨by rfl, ?_⟩) hS9 ?_
      rotate_left
      · (intro wS hSw; obtain ⟨n0, n1, n2, n3, n4, n5, n6, nf⟩ := bl_cells hSw; clear hSw; go_simp; try with_reducible rfl)
      try simp only [Act.put]
      refine wpAnyG_one (i := 9) (o := ⟨none, _, _, _, _, _⟩) (by kernel_rfl) rfl (fun K hK => ?_)
      obtain ⟨n0, n1, n2, n3, n4, n5, n6, nf⟩ := bl_cells hS9
      go_simp
      refine hK.out _ _ (fun h => absurd h (by decide)) ?_
      clear hK K
      try simp only [Act.put]
      refine wpAnyG_done (by kernel_rfl) ?_ _
      clear n0 n1 n2 n3 n4 n5 n6 nf
      try go_simp
      obtain ⟨tA4, tc4, rA4, rc4, hv4, _, _, _, hcc⟩ := HC9.out.cut ht1
      cases hv4
      have HCX := Lib.hid (hcc.set (b := q0) rfl (Chg.set V9 q0 2 (.slice rA2 t rc2)) (by rw [World.size_setCell]) HWQ.out)
      have hbx9 := bl_set2 hS9 (.slice rA2 t rc2)
      have HBXX := Lib.hid hbx9
      clear hcc hbx9 hS9
      generalize V9.setCell ⟨q0, 2, none⟩ (.slice rA2 t rc2) = VA at *
      have HRE := Lib.hid (HCX.out.reopen HT.out rfl rfl rfl)
      go_upto_region 22 with (
          go_at_call 15
          refine HRE.out.mono ?_
          rintro e VB ⟨lb3, rfl, HQB, HBM, HBN, HBLB⟩)
      obtain ⟨PM, hbm2⟩ := HBM.out
      obtain ⟨PN, hbn2⟩ := HBN.out
      have hbxb := (show VB.heap[q0]? = _ from (HQB.out q0 rfl).trans HBXX.out)
      have HBXB := Lib.hid hbxb
      have HSM1 := Lib.hid (same_any hbm2 (by show r.base ≤ _; omega) (by show (r.recs.take t).length ≤ _; rw [hlt]; omega))
      have HSN1 : Hid (∀ V, Below VB.heap.size VB V → _) := Lib.hid fun V hbV => same_any (hbn2.later hbV) (by show r.base ≤ _; omega) (by show (r.recs.take t).length ≤ _; rw [hlt]; omega)
      obtain ⟨r0, r1, r2, r3, r4, r5, r6, rf⟩ := bl_cells hbxb
      clear hbm2 hbn2 hbxb HBM HBN HRE HQB
      go_wp2_with (first
        | (go_at_call 18; refine HSM1.out.mono ?_; rintro e VC ⟨rfl, hbC⟩; have HBC := Lib.hid hbC; clear hbC HSM1 r0 r1 r2 r3 r4 r5 r6 rf; obtain ⟨r0, r1, r2, r3, r4, r5, r6, rf⟩ := bl_cells ((Chg.of_below (Φ := fun _ => False) HBC.out).heap HBXB.out id))
        | (go_at_call 18; refine (HSN1.out VC HBC.out).mono ?_; rintro e VD ⟨rfl, hbD⟩; have HBD : Hid (Below w.heap.size w VD) := Lib.hid ((HBLB.out.trans (HBC.out.mono HBLB.out.size)).trans (hbD.mono (Nat.le_trans HBLB.out.size HBC.out.size))); clear hbD HSN1)
        | (go_at_call 13; refine (HAW.out _ HBD.out).mono ?_; rintro e w9 ⟨rfl, hb9⟩))
      go_ret
      exact ⟨rfl, HBD.out.trans (hb9.mono HBD.out.size)⟩
end Go.Proofs.YtnomicnmpllajaaGreatDoor
end

section
namespace Go.Proofs.YtnomicnmpllajaaGreatDoor.walCrashes
open Go Go.ChangeShapes Go.WideShapes Go.ChangeAt Go.RowKit
set_option linter.unusedVariables false

theorem int_wf {n : Int} (h : (Lit.int .i64 n).wf = true) : -9223372036854775808 ≤ n ∧ n ≤ 9223372036854775807 := by
  have e1 : IntKind.i64.min = -9223372036854775808 := by decide
  have e2 : IntKind.i64.max = 9223372036854775807 := by decide
  simp [Lit.wf] at h
  exact ⟨by omega, by omega⟩

set_option maxRecDepth 100000 in
theorem lifted (os : Os) (started : os.Started) (H : Type) (enc : TypeId × Value → H) :
    ReturnsInHanded {} Tryz.checked os 4 .any (fun w args => (Rows.walCrashesSpec.pre enc Tryz.prog Tryz.f4 [] false w args ∧ laidMetH Tryz.prog Rows.walCrashesRow.laid w) ∧ sizedMet enc Tryz.prog Tryz.f4 (OpenSpec.ofChange Rows.walCrashesSpec) false w args)
      (Rows.walCrashesSpec.post enc Tryz.prog Tryz.f4 false true false false) := by
  refine tied.handed (C := Tryz.checked) (X := fun w _ => laidMetH Tryz.prog Rows.walCrashesRow.laid w) (fun _ _ _ hh h => h.of_heap hh) tied.own started (by kernel_rfl) Tryz.func4
    (ChangeSpec.witness_shaped (enc := enc) (C := Tryz.checked) (os := os) (X := fun w _ => laidMetH Tryz.prog Rows.walCrashesRow.laid w) false (World.doorLaid Tryz.prog 400 os) #[.int .i64 0, .slice none 0 0, .slice none 0 0] 8 rfl (World.shaped_of_RefB (by kernel_rfl) (by kernel_rfl)) (by kernel_rfl) (by kernel_rfl) (by kernel_rfl) (tied.door_met os _)) ?_
  intro W base args ds gs before hval0 hW _ hsz hL _
  have hval : ∀ (j : Nat) t v, Tryz.f4.params[j]? = some t → args[j]? = some v → Value.okWide Tryz.prog W .any base t v := hval0
  have hW' := hW
  obtain ⟨p, q, hA0, hV, rfl, hfz, hnd⟩ := hW
  have hA : DataW.TrodAll enc Tryz.prog W 0 (fun _ => true) true Tryz.f4.params.toList args.toList ds p := hA0
  rw [Tryz.params4] at hA hval
  obtain ⟨v0, vs0, d0, ds0, p0, q0, hargs, rfl, rfl, h0, r0⟩ := trodAll_cons hA
  obtain ⟨v1, vs1, d1, ds1, p1, q1, rfl, rfl, rfl, h1, r1⟩ := trodAll_cons r0
  obtain ⟨v2, vs2, d2, ds2, p2, q2, rfl, rfl, rfl, h2, r2⟩ := trodAll_cons r1
  obtain ⟨rfl, rfl, rfl⟩ := trodAll_nil r2
  obtain rfl : args = #[v0, v1, v2] := by cases args; simp_all
  obtain ⟨rfl, rfl⟩ := trodVars_none hV
  obtain ⟨a0, rfl, rfl, rfl, w0⟩ := open_int Tryz.underlying3 (hval 0 3 v0 rfl rfl) h0
  have k1 := h1
  have lt1 : ∀ x ∈ p1, x.block < W.heap.size := by obtain ⟨m, hm⟩ := k1; exact DataW.trod_lt m _ _ _ hm
  have s1 : ∀ n ∈ d1.weights Tryz.prog 22, n ≤ reachBytes := fun n hn => by
    have := List.all_eq_true.1 hsz n (DataW.weights_mem_each (j := 1) (t := 22) (d := d1) rfl rfl n hn)
    simpa using this
  obtain ⟨A1, n1, c1, l1, rfl, w1⟩ : ∃ A n c l, v1 = Value.slice A n c ∧ OpsRd W W.heap.size A n c l := by
    obtain ⟨bA, bn, bc, e⟩ := okWide_slice Tryz.underlying22 (hval 1 22 v1 rfl rfl)
    subst e
    obtain ⟨fuel, hf⟩ := h1
    exact ops_in (v := .slice bA bn bc) hf s1
  have k2 := h2
  have lt2 : ∀ x ∈ p2, x.block < W.heap.size := by obtain ⟨m, hm⟩ := k2; exact DataW.trod_lt m _ _ _ hm
  have s2 : ∀ n ∈ d2.weights Tryz.prog 45, n ≤ reachBytes := fun n hn => by
    have := List.all_eq_true.1 hsz n (DataW.weights_mem_each (j := 2) (t := 45) (d := d2) rfl rfl n hn)
    simpa using this
  obtain ⟨A2, n2, c2, z2, rfl, w2, b2⟩ : ∃ A n c z, v2 = Value.slice A n c ∧ Rd W W.heap.size .i64 A n c z ∧ ∀ x ∈ z, -9223372036854775808 ≤ x ∧ x ≤ 9223372036854775807 := by
    obtain ⟨bA, bn, bc, e⟩ := okWide_slice Tryz.underlying45 (hval 2 45 v2 rfl rfl)
    subst e
    obtain ⟨fuel, hf⟩ := h2
    obtain ⟨A, n, c, zs, e, h1, h2, _⟩ := ints_in (v := .slice bA bn bc) (bytes := 8) Tryz.underlying45 Tryz.underlying3 (by kernel_rfl) (by kernel_rfl) (by decide) hf s2
    exact ⟨A, n, c, zs, e, h1, fun x hx => int_wf (h2 x hx)⟩
  clear hA0 hval0
  refine (crashes_any a0 W w1 w2 b2 (tied.tab_of hL)).mono fun e W' ⟨he, bel⟩ => ?_
  subst he
  exact ⟨_, rfl, _, _, _, [], _, [], hW', trodAll_mk1 (shut_bool Tryz.underlying4 _), (trodAll_cons_mk (shut_int Tryz.underlying3 w0) (trodAll_cons_mk (Below.trod tied.laidOut (by kernel_rfl) (of_decide_eq_true (by kernel_rfl)) k1 bel lt1) (trodAll_cons_mk (Below.trod tied.laidOut (by kernel_rfl) (of_decide_eq_true (by kernel_rfl)) k2 bel lt2) trodAll_mk0))), rfl, bel.frame _, fun h => by cases h⟩

theorem over : Rows.walCrashesRow.holds Tryz.pinned (OpenSpec.ofChange Rows.walCrashesSpec) :=
  OpenClaim.holds_of_wide 4 Tryz.f4 rfl rfl rfl rfl rfl rfl rfl ⟨rfl, rfl, rfl, rfl, rfl⟩ rfl rfl rfl rfl rfl (by kernel_rfl) Tryz.func4 (by kernel_rfl)
    (of_decide_eq_true (by kernel_rfl)) (by unfold Func.isWrapper; first | (rw [if_pos (by decide +kernel)]; kernel_rfl) | (rw [if_neg (by decide +kernel)]; exact ⟨rfl, rfl⟩))
    (fun os started H enc _ => lifted os started H enc)

theorem proved : Rows.WalCrashesCardSaid :=
  Claim7.holds_tied_plain_at .later [] _ _ _ _
    over (fun _ h => by cases h) (by kernel_rfl) (fun _ h => by cases h) walCrashes_row_tie rfl ⟨rfl, rfl⟩ (by kernel_rfl) rfl
    (fun f fn hf hfn => by
      obtain rfl : f = 4 := Option.some.inj ((show Tryz.prog.funcNamed "daisychain/daisychainlaw04.WalCrashes" = some 4 by kernel_rfl).symm.trans hf) |>.symm
      obtain rfl : fn = Tryz.f4 := (Option.some.inj (Tryz.func4.symm.trans hfn)).symm
      exact ⟨by kernel_rfl, fun j t ht => by
        rw [Tryz.params4] at ht
        have h3 : t = 3 ∨ t = 22 ∨ t = 45 := by
          rcases j with _ | _ | _ | j
          · simp at ht; simp [← ht]
          · simp at ht; simp [← ht]
          · simp at ht; simp [← ht]
          · simp at ht
        rcases h3 with rfl | rfl | rfl
        · exact (show Tryz.prog.wantsStandIn 3 = false by kernel_rfl)
        · exact (show Tryz.prog.wantsStandIn 22 = false by kernel_rfl)
        · exact (show Tryz.prog.wantsStandIn 45 = false by kernel_rfl)⟩)
    (by kernel_rfl)
end Go.Proofs.YtnomicnmpllajaaGreatDoor.walCrashes
end
