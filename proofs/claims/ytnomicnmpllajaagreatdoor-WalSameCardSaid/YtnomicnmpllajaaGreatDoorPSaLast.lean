/- What is proved here: 'same': a log says what the document's does. -/
/- What is proved here: where a law's loop of 'does' stands. -/
/- What is proved here: two logs, on two disks, to which the same happens. -/
/- What is proved here: two new disks, and a log on each; what two disks tell at the end. -/
/- What is proved here: 'WalSame' returns true at all arguments. -/
/- What is proved here: 'WalSame' returns true at all arguments; the variable that strconv's conversions read starts as the program's text lays it (tied). -/
import Derived.Test.YtnomicnmpllajaaGreatDoorPSa2
import Derived.Test.YtnomicnmpllajaaGreatDoorPFu20
import Derived.Test.YtnomicnmpllajaaGreatDoorPFu9
import Derived.Test.YtnomicnmpllajaaGreatDoorTie
import Derived.Test.YtnomicnmpllajaaGreatDoorCards
import Derived.OpenShut
import Derived.ShutString
import Derived.Below
import Derived.SizedLaws
import Derived.Stop.Joined
import Derived.SevenTiedAt
section
namespace Go.Proofs.YtnomicnmpllajaaGreatDoor
open Go Go.RowKit
set_option linter.unusedVariables false

section
variable {w W V : World} {P : Nat → Prop} {lb d : Nat} {r : RefM} {v : Value}
/-- Both in one world. -/
def Both (w : World) (P : Nat → Prop) (lb d : Nat) (r : RefM) (v : Value) (W : World) : Prop := LogSt w lb d r.base r.shot r.recs W ∧ RefIs W P r v
theorem Both.later (h : Both w P lb d r v W) (hb : Below W.heap.size W V) : Both w P lb d r v V := ⟨h.1.later hb, h.2.below hb⟩
theorem both_get (h : Both w P lb d r v W) (hb : r.base ≤ 100000000) (hn : r.recs.length ≤ 1000000) (k : Int) (hk : 0 ≤ k ∧ k ≤ 200000000) (is_ : Bool) (hd : decide ((r.base : Int) < k ∧ k ≤ (r.base : Int) + r.recs.length) = is_) :
    Calls Tryz.prog 26 #[.pointer (some ⟨lb, 0, none⟩), .int .i64 k] W fun e V1 => ∃ A n c, e = .returned (.tuple #[.slice A n c, .bool is_]) ∧ Hid (Below W.heap.size W V1) ∧
      Hid (Calls Tryz.prog 50 #[v, .int .i64 k] V1 fun e V2 => ∃ A2 c2, e = .returned (.tuple #[.slice A2 n c2, .bool is_]) ∧ Hid (Below W.heap.size W V2) ∧
        Hid (Calls Tryz.prog 27 #[.slice A n c, .slice A2 n c2] V2 fun e V3 => e = .returned (.bool true) ∧ V2 = V3)) := by
  obtain ⟨h1, h2⟩ := h
  subst hd
  by_cases hin : (r.base : Int) < k ∧ k ≤ (r.base : Int) + r.recs.length
  · obtain ⟨j, rfl⟩ : ∃ j : Nat, k = (r.base : Int) + j + 1 := ⟨(k - r.base - 1).toNat, by omega⟩
    obtain ⟨xs, hxs⟩ : ∃ xs, r.recs[j]? = some xs := ⟨_, List.getElem?_eq_getElem (by omega)⟩
    refine (h1.get hxs rfl).mono ?_
    rintro e V1 ⟨A, c, rfl, hb1, hr1⟩
    rw [decide_eq_true hin]
    refine ⟨A, xs.length, c, rfl, Lib.hid hb1, Lib.hid ?_⟩
    obtain ⟨tA, tc, rA, rc, l, rfl, q1, q2, q3⟩ := h2.below hb1
    refine (RGet_any q2 (by omega) (by omega) _ (by omega)).mono ?_
    rintro e V2 ⟨hb2, ⟨hno, _⟩ | ⟨i, p, e1, e2, rfl⟩⟩
    · exact absurd hin hno
    · obtain rfl : i = j := by omega
      have hp := q2.ok p (List.mem_of_getElem? e2)
      have e3 : p.all = xs := by
        have e4 : (l.map Part.all)[i]? = some p.all := by rw [List.getElem?_map, e2]; rfl
        rw [q3, hxs] at e4
        exact (Option.some.inj e4).symm
      have hlen := hp.rd.len
      rw [e3] at hlen
      obtain ⟨pA, pn, pc, pall⟩ := p
      simp only at hlen e3
      subst hlen e3
      refine ⟨pA, pc, rfl, Lib.hid (hb1.trans (hb2.mono hb1.size)), Lib.hid ?_⟩
      refine (Equal_any A pA _ c _ pc _ _ pall pall V2 ((hr1.below hb2).more hb2.size) ((hp.rd.below hb2).more hb2.size) hp.byt hp.byt).mono ?_
      rintro e V3 ⟨rfl, rfl⟩
      exact ⟨by rw [decide_eq_true rfl], rfl⟩
  · refine (h1.get_no (by omega)).mono ?_
    rintro e V1 ⟨rfl, hb1⟩
    rw [decide_eq_false hin]
    refine ⟨none, 0, 0, rfl, Lib.hid hb1, Lib.hid ?_⟩
    obtain ⟨tA, tc, rA, rc, l, rfl, q1, q2, q3⟩ := h2.below hb1
    refine (RGet_any q2 (by omega) (by omega) _ (by omega)).mono ?_
    rintro e V2 ⟨hb2, ⟨hno, rfl⟩ | ⟨i, p, e1, e2, rfl⟩⟩
    · refine ⟨none, 0, rfl, Lib.hid (hb1.trans (hb2.mono hb1.size)), Lib.hid ?_⟩
      refine (Equal_any none none 0 0 0 0 0 0 [] [] V2 (Rd.none_ _ _ _) (Rd.none_ _ _ _) (fun x hx => by cases hx) (fun x hx => by cases hx)).mono ?_
      rintro e V3 ⟨rfl, rfl⟩
      exact ⟨by rw [decide_eq_true rfl], rfl⟩
    · have h5 := (List.getElem?_eq_some_iff.1 e2).1
      have h6 := q2.len
      omega
theorem both_shot (h : Both w P lb d r v W) : Calls Tryz.prog 39 #[.pointer (some ⟨lb, 0, none⟩)] W fun e V1 => ∃ A c, e = .returned (.slice A r.shot.length c) ∧ Hid (Below W.heap.size W V1) ∧ Hid (∀ (tA : Option Addr) (tc : Nat), Rd V1 V1.heap.size .u8 tA r.shot.length tc r.shot → (∀ x ∈ r.shot, 0 ≤ x ∧ x < 256) → Calls Tryz.prog 27 #[.slice A r.shot.length c, .slice tA r.shot.length tc] V1 fun e V3 => e = .returned (.bool true) ∧ V1 = V3) := by
  refine (h.1.shot_).mono ?_
  rintro e V1 ⟨A, c, rfl, hb, hr⟩
  refine ⟨A, c, rfl, Lib.hid hb, Lib.hid fun tA tc h1 h2 => ?_⟩
  refine (Equal_any A tA _ c _ tc _ _ r.shot r.shot V1 hr.out h1 h2 h2).mono ?_
  rintro e V3 ⟨rfl, rfl⟩
  exact ⟨by rw [decide_eq_true rfl], rfl⟩

set_option maxHeartbeats 3200000 in
set_option maxRecDepth 100000 in
theorem same_any (h : Both w P lb d r v W) (hb : r.base ≤ 100000000) (hn : r.recs.length ≤ 1000000) :
    Calls Tryz.prog 18 #[.pointer (some ⟨lb, 0, none⟩), v] W fun e V => e = .returned (.bool true) ∧ Below W.heap.size W V := by
  obtain ⟨tA, tc, rA, rc, l, rfl, q1, q2, q3⟩ := id h.2
  have HBW : Hid (Below W.heap.size W (W.alloc (.cells (bl r.base (.slice tA r.shot.length tc) (.slice rA r.recs.length rc) r.syn r.size r.bytes 0) 36))) := Lib.hid ((Below.refl _ _).alloc (Nat.le_refl _) _)
  have HB1 := Lib.hid (heap_alloc_new W (.cells (bl r.base (.slice tA r.shot.length tc) (.slice rA r.recs.length rc) r.syn r.size r.bytes 0) 36))
  obtain ⟨W0, hW0⟩ : ∃ W0, W0 = W.alloc (.cells (bl r.base (.slice tA r.shot.length tc) (.slice rA r.recs.length rc) r.syn r.size r.bytes 0) 36) := ⟨_, rfl⟩
  rw [← hW0] at HBW HB1
  have HS0 : Hid (W0.heap.size = W.heap.size + 1) := Lib.hid (by rw [hW0]; simp)
  have HH := Lib.hid (h.later HBW.out)
  have HQ := Lib.hid (q1.keep HBW.out.size fun k hk hP => ⟨HBW.out.block k hk, hP⟩)
  have HLA := Lib.hid fun V => RLast_any (base := (r.base : Int)) (vT := .slice tA r.shot.length tc) (syn := (r.syn : Int)) (size := (r.size : Int)) (bytes := (r.bytes : Int)) (here := 0) (A := rA) (n := r.recs.length) (c := rc) (by omega) (by omega) V
  unfold bl at hW0
  have HW0 := Lib.hid hW0
  unfold rlv at HH HLA ⊢
  clear h q1 q2 q3 hW0
  go_enter Tryz.func18, Tryz.ntmps18
  go_upto_region 1 with fail
  rw [← HW0.out]
  refine wp_region_G (fun w' => w'.heap[W.heap.size]? = some (.cells (bl r.base (.slice tA r.shot.length tc) (.slice rA r.recs.length rc) r.syn r.size r.bytes 0) 36 (0, 0))) 32 (by kernel_rfl) ?_
  have hS0 : W0.drew.heap[W.heap.size]? = some (.cells (bl r.base (.slice tA r.shot.length tc) (.slice rA r.recs.length rc) r.syn r.size r.bytes 0) 36 (0, 0)) := HB1.out
  have HBD : Hid (Below W0.heap.size W0 W0.drew) := Lib.hid (Below.refl _ _).drew
  refine wpAnyG_take (i := 0) (oi := _) (v := ?_) rfl (by kernel_rfl) (by kernel_rfl) (by kernel_rfl) (by kernel_rfl) (fun _ _ _ h => h) (Or.inl ⟨by rfl, ?_⟩) hS0 ?_
  rotate_left
  · (intro wS hSw; obtain ⟨c0, c1, c2, c3, c4, c5, c6, cf⟩ := bl_cells hSw; clear hSw; go_simp; try with_reducible rfl)
  try simp only [Act.put]
  refine wpAnyG_take (i := 2) (oi := _) (v := ?_) rfl (by kernel_rfl) (by kernel_rfl) (by kernel_rfl) (by kernel_rfl) (fun _ _ _ h => h) (Or.inl ⟨by rfl, ?_⟩) hS0 ?_
  rotate_left
  · (intro wS hSw; obtain ⟨c0, c1, c2, c3, c4, c5, c6, cf⟩ := bl_cells hSw; clear hSw; go_simp; try with_reducible rfl)
  try simp only [Act.put]
  refine wpAnyG_take (i := 3) (oi := _) (v := ?_) rfl (by kernel_rfl) (by kernel_rfl) (by kernel_rfl) (by kernel_rfl) (fun _ _ _ h => h) (Or.inl ⟨by rfl, ?_⟩) hS0 ?_
  rotate_left
  · (intro wS hSw; obtain ⟨c0, c1, c2, c3, c4, c5, c6, cf⟩ := bl_cells hSw; clear hSw; go_simp; try with_reducible rfl)
  try simp only [Act.put]
  refine wpAnyG_one (i := 1) (o := ⟨some 11, _, _, _, _, _⟩) (by kernel_rfl) rfl (fun K hK => ?_)
  go_simp
  refine (LogSt.base_ (HH.out.later HBD.out).1).mono ?_
  rintro e V1 ⟨rfl, rfl⟩
  refine hK.out _ _ (fun _ => hS0) ?_
  clear hK K
  try simp only [Act.put]
  refine wpAnyG_take (i := 4) (oi := _) (v := ?_) rfl (by kernel_rfl) (by kernel_rfl) (by kernel_rfl) (by kernel_rfl) (fun _ _ _ h => h) (Or.inl ⟨by rfl, ?_⟩) hS0 ?_
  rotate_left
  · (intro wS hSw; obtain ⟨c0, c1, c2, c3, c4, c5, c6, cf⟩ := bl_cells hSw; clear hSw; go_simp; try with_reducible rfl)
  try simp only [Act.put]
  refine wpAnyG_take (i := 5) (oi := _) (v := ?_) rfl (by kernel_rfl) (by kernel_rfl) (by kernel_rfl) (by kernel_rfl) (fun _ _ _ h => h) (Or.inl ⟨by rfl, ?_⟩) hS0 ?_
  rotate_left
  · (intro wS hSw; obtain ⟨c0, c1, c2, c3, c4, c5, c6, cf⟩ := bl_cells hSw; clear hSw; go_simp; try with_reducible rfl)
  try simp only [Act.put]
  refine wpAnyG_take (i := 6) (oi := _) (v := ?_) rfl (by kernel_rfl) (by kernel_rfl) (by kernel_rfl) (by kernel_rfl) (fun _ _ _ h => h) (Or.inl ⟨by rfl, ?_⟩) hS0 ?_
  rotate_left
  · (intro wS hSw; obtain ⟨c0, c1, c2, c3, c4, c5, c6, cf⟩ := bl_cells hSw; clear hSw; go_simp; try with_reducible rfl)
  try simp only [Act.put]
  refine wpAnyG_take (i := 8) (oi := _) (v := ?_) rfl (by kernel_rfl) (by kernel_rfl) (by kernel_rfl) (by kernel_rfl) (fun _ _ _ h => h) (Or.inl ⟨by rfl, ?_⟩) hS0 ?_
  rotate_left
  · (intro wS hSw; obtain ⟨c0, c1, c2, c3, c4, c5, c6, cf⟩ := bl_cells hSw; clear hSw; go_simp; try with_reducible rfl)
  try simp only [Act.put]
  refine wpAnyG_one (i := 7) (o := ⟨some 17, _, _, _, _, _⟩) (by kernel_rfl) rfl (fun K hK => ?_)
  go_simp
  refine (LogSt.last_ (HH.out.later HBD.out).1).mono ?_
  rintro e V2 ⟨rfl, q, hV2⟩
  have HB2 : Hid (Below W0.heap.size W0 V2) := Lib.hid (by rw [hV2]; exact bdrewN HBD.out q)
  have hS2 := (Chg.of_below (Φ := fun _ => False) HB2.out).heap HB1.out id
  clear hS0 hV2
  refine hK.out _ _ (fun _ => hS2) ?_
  clear hK K
  try simp only [Act.put]
  refine wpAnyG_one (i := 9) (o := ⟨some 19, _, _, _, _, _⟩) (by kernel_rfl) rfl (fun K hK => ?_)
  go_simp
  refine (HLA.out V2).mono ?_
  rintro e V3 ⟨rfl, hb3⟩
  have HB3 : Hid (Below W0.heap.size W0 V3) := Lib.hid (HB2.out.trans (hb3.mono HB2.out.size))
  have hS3 := (Chg.of_below (Φ := fun _ => False) HB3.out).heap HB1.out id
  clear hS2 hb3
  refine hK.out _ _ (fun _ => hS3) ?_
  clear hK K
  try simp only [Act.put]
  refine wpAnyG_take (i := 10) (oi := _) (v := ?_) rfl (by kernel_rfl) (by kernel_rfl) (by kernel_rfl) (by kernel_rfl) (fun _ _ _ h => h) (Or.inl ⟨by rfl, ?_⟩) hS3 ?_
  rotate_left
  · (intro wS hSw; obtain ⟨c0, c1, c2, c3, c4, c5, c6, cf⟩ := bl_cells hSw; clear hSw; go_simp; try with_reducible rfl)
  try simp only [Act.put]
  refine wpAnyG_take (i := 11) (oi := _) (v := ?_) rfl (by kernel_rfl) (by kernel_rfl) (by kernel_rfl) (by kernel_rfl) (fun _ _ _ h => h) (Or.inl ⟨by rfl, ?_⟩) hS3 ?_
  rotate_left
  · (intro wS hSw; obtain ⟨c0, c1, c2, c3, c4, c5, c6, cf⟩ := bl_cells hSw; clear hSw; go_simp; try with_reducible rfl)
  try simp only [Act.put]
  refine wpAnyG_take (i := 12) (oi := _) (v := ?_) rfl (by kernel_rfl) (by kernel_rfl) (by kernel_rfl) (by kernel_rfl) (fun _ _ _ h => h) (Or.inl ⟨by rfl, ?_⟩) hS3 ?_
  rotate_left
  · (intro wS hSw; obtain ⟨c0, c1, c2, c3, c4, c5, c6, cf⟩ := bl_cells hSw; clear hSw; go_simp; try with_reducible rfl)
  try simp only [Act.put]
  refine wpAnyG_take (i := 13) (oi := _) (v := ?_) rfl (by kernel_rfl) (by kernel_rfl) (by kernel_rfl) (by kernel_rfl) (fun _ _ _ h => h) (Or.inl ⟨by rfl, ?_⟩) hS3 ?_
  rotate_left
  · (intro wS hSw; obtain ⟨c0, c1, c2, c3, c4, c5, c6, cf⟩ := bl_cells hSw; clear hSw; go_simp; try with_reducible rfl)
  try simp only [Act.put]
  refine wpAnyG_take (i := 15) (oi := _) (v := ?_) rfl (by kernel_rfl) (by kernel_rfl) (by kernel_rfl) (by kernel_rfl) (fun _ _ _ h => h) (Or.inl ⟨by rfl, ?_⟩) hS3 ?_
  rotate_left
  · (intro wS hSw; obtain ⟨c0, c1, c2, c3, c4, c5, c6, cf⟩ := bl_cells hSw; clear hSw; go_simp; try with_reducible rfl)
  try simp only [Act.put]
  refine wpAnyG_take (i := 16) (oi := _) (v := ?_) rfl (by kernel_rfl) (by kernel_rfl) (by kernel_rfl) (by kernel_rfl) (fun _ _ _ h => h) (Or.inl ⟨by rfl, ?_⟩) hS3 ?_
  rotate_left
  · (intro wS hSw; obtain ⟨c0, c1, c2, c3, c4, c5, c6, cf⟩ := bl_cells hSw; clear hSw; go_simp; try with_reducible rfl)
  try simp only [Act.put]
  refine wpAnyG_one (i := 14) (o := ⟨some 24, _, _, _, _, _⟩) (by kernel_rfl) rfl (fun K hK => ?_)
  go_simp
  refine (both_shot (HH.out.later HB3.out)).mono ?_
  rintro e V4 ⟨A4, c4, rfl, HB4', HEQ⟩
  have HB4 : Hid (Below W0.heap.size W0 V4) := Lib.hid (HB3.out.trans (HB4'.out.mono HB3.out.size))
  have hS4 := (Chg.of_below (Φ := fun _ => False) HB4.out).heap HB1.out id
  have HE4 := Lib.hid (HEQ.out tA tc ((HQ.out.rd.below HB4.out).more HB4.out.size) HQ.out.byt)
  clear hS3 HEQ HB4'
  refine hK.out _ _ (fun _ => hS4) ?_
  clear hK K
  try simp only [Act.put]
  refine wpAnyG_one (i := 17) (o := ⟨some 27, _, _, _, _, _⟩) (by kernel_rfl) rfl (fun K hK => ?_)
  go_simp
  refine HE4.out.mono ?_
  rintro e V5 ⟨rfl, rfl⟩
  refine hK.out _ _ (fun _ => hS4) ?_
  clear hK K
  try simp only [Act.put]
  refine wpAnyG_take (i := 18) (oi := _) (v := ?_) rfl (by kernel_rfl) (by kernel_rfl) (by kernel_rfl) (by kernel_rfl) (fun _ _ _ h => h) (Or.inl ⟨by rfl, ?_⟩) hS4 ?_
  rotate_left
  · (intro wS hSw; obtain ⟨c0, c1, c2, c3, c4, c5, c6, cf⟩ := bl_cells hSw; clear hSw; go_simp; try with_reducible rfl)
  try simp only [Act.put]
  refine wpAnyG_take (i := 19) (oi := _) (v := ?_) rfl (by kernel_rfl) (by kernel_rfl) (by kernel_rfl) (by kernel_rfl) (fun _ _ _ h => h) (Or.inl ⟨by rfl, ?_⟩) hS4 ?_
  rotate_left
  · (intro wS hSw; obtain ⟨c0, c1, c2, c3, c4, c5, c6, cf⟩ := bl_cells hSw; clear hSw; go_simp; try with_reducible rfl)
  try simp only [Act.put]
  refine wpAnyG_done (by kernel_rfl) ?_ _
  obtain ⟨c0, c1, c2, c3, c4, c5, c6, cf⟩ := bl_cells hS4
  clear hS4
  try go_simp
  go_upto_region 3 with fail
  go_wp2_with fail
  go_loopw [5] (fun t wr => ∃ k : Nat, t = .int .i64 k ∧ r.base ≤ k ∧ k ≤ r.base + r.recs.length + 2 ∧ Hid (Below W0.heap.size W0 wr)) (fun t _ => r.base + r.recs.length + 2 - (intOf t).toNat)
  case atStart => exact ⟨r.base, rfl, Nat.le_refl _, by omega, HB4⟩
  case round =>
    obtain ⟨k, rfl, hk1, hk2, HBR⟩ := hrel
    clear c0 c1 c2 c3 c4 c5 c6 cf
    obtain ⟨c0, c1, c2, c3, c4, c5, c6, cf⟩ := bl_cells ((Chg.of_below (Φ := fun _ => False) HBR.out).heap HB1.out id)
    have u1 : IntKind.i64.wrap ((r.base : Int) + r.recs.length + 1) = (r.base : Int) + r.recs.length + 1 := IntWalk.i64_in _ (by omega)
    have u2 : IntKind.i64.wrap ((k : Int) + 1) = (k : Int) + 1 := IntWalk.i64_in _ (by omega)
    by_cases hkn : k ≤ r.base + r.recs.length + 1
    · have hkn' : (k : Int) ≤ (r.base : Int) + r.recs.length + 1 := by omega
      by_cases hin : (r.base : Int) < k ∧ (k : Int) ≤ (r.base : Int) + r.recs.length
      · have HG : Hid (∀ V, Below W0.heap.size W0 V → _) := Lib.hid fun V hbV => both_get (HH.out.later hbV) hb hn (k : Int) (by omega) true (decide_eq_true hin)
        clear hin
        go_wp2_with (first
          | (go_at_call 22; refine (HLA.out _).mono ?_; rintro e V1 ⟨rfl, hb1⟩; have HBV1 : Hid (Below W0.heap.size W0 V1) := Lib.hid (HBR.out.trans (hb1.mono HBR.out.size)); clear hb1)
          | (go_at_call 26; refine (HG.out V1 HBV1.out).mono ?_; rintro e V2 ⟨gA, gn, gc, rfl, HBG, HRG⟩; have HBV2 : Hid (Below W0.heap.size W0 V2) := Lib.hid (HBV1.out.trans (HBG.out.mono HBV1.out.size)); clear HBG c0 c1 c2 c3 c4 c5 c6 cf; obtain ⟨c0, c1, c2, c3, c4, c5, c6, cf⟩ := bl_cells ((Chg.of_below (Φ := fun _ => False) HBV2.out).heap HB1.out id))
          | (go_at_call 50; refine HRG.out.mono ?_; rintro e V3 ⟨gA2, gc2, rfl, HBG, HEQ⟩; have HBV3 : Hid (Below W0.heap.size W0 V3) := Lib.hid (HBV1.out.trans (HBG.out.mono HBV1.out.size)); clear HBG)
          | (go_at_call 27; refine HEQ.out.mono ?_; rintro e V4' ⟨rfl, rfl⟩))
        go_roundw
        case rel => exact ⟨k + 1, by go_num, by omega, by omega, HBV3⟩
        case measure => simp [intOf]; omega
      · have HG : Hid (∀ V, Below W0.heap.size W0 V → _) := Lib.hid fun V hbV => both_get (HH.out.later hbV) hb hn (k : Int) (by omega) false (decide_eq_false hin)
        clear hin
        go_wp2_with (first
          | (go_at_call 22; refine (HLA.out _).mono ?_; rintro e V1 ⟨rfl, hb1⟩; have HBV1 : Hid (Below W0.heap.size W0 V1) := Lib.hid (HBR.out.trans (hb1.mono HBR.out.size)); clear hb1)
          | (go_at_call 26; refine (HG.out V1 HBV1.out).mono ?_; rintro e V2 ⟨gA, gn, gc, rfl, HBG, HRG⟩; have HBV2 : Hid (Below W0.heap.size W0 V2) := Lib.hid (HBV1.out.trans (HBG.out.mono HBV1.out.size)); clear HBG c0 c1 c2 c3 c4 c5 c6 cf; obtain ⟨c0, c1, c2, c3, c4, c5, c6, cf⟩ := bl_cells ((Chg.of_below (Φ := fun _ => False) HBV2.out).heap HB1.out id))
          | (go_at_call 50; refine HRG.out.mono ?_; rintro e V3 ⟨gA2, gc2, rfl, HBG, HEQ⟩; have HBV3 : Hid (Below W0.heap.size W0 V3) := Lib.hid (HBV1.out.trans (HBG.out.mono HBV1.out.size)); clear HBG)
          | (go_at_call 27; refine HEQ.out.mono ?_; rintro e V4' ⟨rfl, rfl⟩))
        go_roundw
        case rel => exact ⟨k + 1, by go_num, by omega, by omega, HBV3⟩
        case measure => simp [intOf]; omega
    · have hkn' : ¬ (k : Int) ≤ (r.base : Int) + r.recs.length + 1 := by omega
      go_wp2_with (go_at_call 22; refine (HLA.out _).mono ?_; rintro e V1 ⟨rfl, hb1⟩; have HBV1 : Hid (Below W0.heap.size W0 V1) := Lib.hid (HBR.out.trans (hb1.mono HBR.out.size)); clear hb1)
      go_ret
      exact ⟨rfl, HBW.out.trans (HBV1.out.mono HBW.out.size)⟩
end
end Go.Proofs.YtnomicnmpllajaaGreatDoor
end

section
namespace Go.Proofs.YtnomicnmpllajaaGreatDoor
open Go Go.RowKit
set_option linter.unusedVariables false

/-- Behind k calls: the log, and the document's beside it; neither lies in the blocks of Q. -/
def DoesSt (w : World) (lb N : Nat) (l : List OpM) (k : Nat) (r : RefM) (v : Value) (Q : Nat → Prop) (W : World) : Prop :=
  ∃ F P S M G st, LF w F lb (w.heap.size + 1) 1048576 S M W ∧ LI S M G st ∧ RefIs W P r v ∧ (∀ i, W.heap.size ≤ i → P i) ∧ (∀ i, P i → ¬ F i) ∧ (∀ i, Q i → ¬ P i ∧ ¬ F i ∧ i < W.heap.size) ∧ Beside r M ∧ M.size = N ∧ M.last ≤ k ∧ usedN S ≤ weighs (l.take k) + 20 * k
section
variable {w W W' : World} {Q : Nat → Prop} {lb d N k n : Nat} {l : List OpM} {r : RefM} {v : Value} {p : OpM} {A : Option Addr} {c : Nat}
theorem LW.lf {R : Int} {S : List RF} {M : LogM} (h : LW w lb d R S M W) : LF w (fun k => w.heap.size ≤ k ∧ k < W.heap.size) lb d R S M W := by
  obtain ⟨V, h⟩ := h
  obtain ⟨Φ, Λ, h1, h2, h3, h4⟩ := h.ex
  exact ⟨⟨V, Φ, Λ, h1, h2, h3, fun k hk => ⟨(h4 k hk).1, (h4 k hk).2.2⟩⟩, h.below, fun k hk => hk⟩
theorem DoesSt.below (h : DoesSt w lb N l k r v Q W) : Below w.heap.size w W := by
  obtain ⟨F, P, S, M, G, st, h1, _⟩ := h
  exact h1.below
theorem DoesSt.later (h : DoesSt w lb N l k r v Q W) (hb : Below W.heap.size W W') : DoesSt w lb N l k r v Q W' := by
  obtain ⟨F, P, S, M, G, st, h1, h2, h3, h4, h5, h0, h6⟩ := h
  exact ⟨F, P, S, M, G, st, h1.later hb, h2, h3.below hb, fun i hi => h4 i (Nat.le_trans hb.size hi), h5, fun i hi => ⟨(h0 i hi).1, (h0 i hi).2.1, Nat.lt_of_lt_of_le (h0 i hi).2.2 hb.size⟩, h6⟩
/-- A box of the caller's own. -/
theorem DoesSt.box (h : DoesSt w lb N l k r v Q W) (o : Obj) : DoesSt w lb N l k r v (fun i => Q i ∨ i = W.heap.size) (W.alloc o) := by
  obtain ⟨F, P, S, M, G, st, h1, h2, h3, h4, h5, h0, h6⟩ := h
  have hb : Below W.heap.size W (W.alloc o) := (Below.refl _ _).alloc (Nat.le_refl _) _
  have hs : (W.alloc o).heap.size = W.heap.size + 1 := by simp
  refine ⟨F, fun i => P i ∧ i ≠ W.heap.size, S, M, G, st, h1.later hb, h2, h3.keep hb.size fun i hi hp => ⟨hb.block i hi, hp, by omega⟩, fun i hi => ⟨h4 i (by omega), by omega⟩, fun i hi => h5 i hi.1, fun i hi => ?_, h6⟩
  rcases hi with hi | rfl
  · exact ⟨fun hp => (h0 i hi).1 hp.1, (h0 i hi).2.1, by have := (h0 i hi).2.2; omega⟩
  · exact ⟨fun hp => hp.2 rfl, fun hf => by have := (h1.2.2 _ hf).2; omega, by omega⟩
/-- Such a box is written. -/
theorem DoesSt.set {b : Nat} (h : DoesSt w lb N l k r v Q W) (hb : Q b) (hc : Chg (fun i => i = b) W W') (hs : W'.heap.size = W.heap.size) (hw : w.heap.size ≤ b) : DoesSt w lb N l k r v Q W' := by
  obtain ⟨F, P, S, M, G, st, h1, h2, h3, h4, h5, h0, h6⟩ := h
  obtain ⟨q1, q2, q3⟩ := h0 b hb
  have hbl := h1.below
  exact ⟨F, P, S, M, G, st, h1.keep hc (fun i hi e => q2 (e ▸ hi)) (hbl.trans (hc.below hbl.size fun i e => by omega)), h2, h3.keep (Nat.le_of_eq hs.symm) fun i hi hp => ⟨hc.block i hi fun e => q1 (e ▸ hp), hp⟩, fun i hi => h4 i (by omega), h5, fun i hi => by rw [hs]; exact h0 i hi, h6⟩
theorem DoesSt.less {Q' : Nat → Prop} (h : DoesSt w lb N l k r v Q W) (hQ : ∀ i, Q' i → Q i) : DoesSt w lb N l k r v Q' W := by
  obtain ⟨F, P, S, M, G, st, h1, h2, h3, h4, h5, h0, h6⟩ := h
  exact ⟨F, P, S, M, G, st, h1, h2, h3, h4, h5, fun i hi => h0 i (hQ i hi), h6⟩
theorem DoesSt.new (h : LW w lb (w.heap.size + 1) 1048576 [] (newM N) W) (h1 : 16 ≤ N) (h2 : N ≤ 65536) : Calls Tryz.prog 16 #[.int .i64 N] W fun e W' => ∃ v, e = .returned v ∧ Below W.heap.size W W' ∧ Hid (DoesSt w lb N l 0 ⟨0, [], [], 0, N, 0⟩ v (fun _ => False) W') := by
  refine (RNew_is (P := fun k => ¬ (w.heap.size ≤ k ∧ k < W.heap.size)) N W).mono ?_
  rintro e W' ⟨v, rfl, hb, hr⟩
  refine ⟨v, rfl, hb, Lib.hid ⟨_, _, [], newM N, [], 1, h.lf.later hb, LI.new h1 h2, hr, fun i hi => ?_, fun i hi => hi, (fun i hi => hi.elim), newM_beside N, rfl, Nat.le_refl _, Nat.zero_le _⟩⟩
  have := hb.size
  omega
/-- 'does', in a law's loop. -/
theorem DoesSt.does (h : DoesSt w lb N l k r v Q W) (ht : Tab w) (hp : OpOk w w.heap.size p) (hl : l[k]? = some p) (hk : k < 40) (hw : weighs (l.take 41) ≤ 20000) :
    Calls Tryz.prog 17 #[.pointer (some ⟨w.heap.size + 1, 0, none⟩), .pointer (some ⟨lb, 0, none⟩), v, .agg #[.int .i64 p.kind, .int .i64 p.n, .slice p.bA p.bn p.bc]] W fun e W' => ∃ r' v', e = .returned (.tuple #[v', .bool true]) ∧ Hid (DoesSt w lb N l (k + 1) r' v' Q W') ∧ Hid (∀ i, Q i → W'.heap[i]? = W.heap[i]?) ∧ Hid (W.heap.size ≤ W'.heap.size) := by
  obtain ⟨F, P, S, M, G, st, h1, h2, h3, h4, h5, h0, h6, h7, h8, h9⟩ := h
  have hlen := hp.rb.len
  have hwk : weighs (l.take (k + 1)) = weighs (l.take k) + p.bn := by
    rw [List.take_add_one, hl]
    exact weighs_snoc _ _
  have hwm : weighs (l.take (k + 1)) ≤ weighs (l.take 41) := by
    have e : l.take 41 = l.take (k + 1) ++ (l.take 41).drop (k + 1) := by
      conv => lhs; rw [← List.take_append_drop (k + 1) (l.take 41)]
      rw [List.take_take, Nat.min_eq_left (by omega)]
    rw [e]
    unfold weighs
    rw [List.map_append, List.sum_append]
    exact Nat.le_add_right _ _
  refine (does_any h1 h2 ht h3 (h6.ok h2) h4 h5 hp (by omega) (by omega)).mono ?_
  rintro e W' ⟨v', el, S', M', rfl, hf⟩
  obtain ⟨q1, F', q2, q3, q4, q5⟩ := hf.out
  obtain ⟨G', st', q6, q7, q8, q9⟩ := log_step h2 q1 hp.byt (by omega)
  obtain ⟨q10, q11⟩ := beside_step h2 h6 q1 q6
  refine ⟨_, v', by rw [q10, beq_self_eq_true], Lib.hid ⟨F', _, S', M', G', st', q2, q6, q5, fun i hi => ⟨h4 i (Nat.le_trans q3.size hi), fun hF => ?_⟩, fun i hi => hi.2, fun i hi => ⟨fun hp => (h0 i hi).1 hp.1, fun hF => ?_, Nat.lt_of_lt_of_le (h0 i hi).2.2 q3.size⟩, q11, by rw [q9, h7], by omega, by omega⟩, Lib.hid fun i hi => q3.block i (h0 i hi).2.2 (h0 i hi).2.1, Lib.hid q3.size⟩
  · have := (q2.2.2 i hF).2
    omega
  · rcases q4 i hF with h10 | h10
    · exact (h0 i hi).2.1 h10
    · have := (h0 i hi).2.2
      omega
theorem DoesSt.both (h : DoesSt w lb N l k r v Q W) : ∃ P, Both w P lb (w.heap.size + 1) r v W ∧ r.base ≤ 100000000 ∧ r.recs.length ≤ 1000000 := by
  obtain ⟨F, P, S, M, G, st, h1, h2, h3, h4, h5, h0, h6, h7⟩ := h
  obtain ⟨Λ, h8, _⟩ := h1.lk.log
  have h9 := h6.ok h2
  exact ⟨P, ⟨⟨M, Λ, h8, h2.ok, h6.base.symm, h6.shot.symm, h6.recs.symm⟩, h3⟩, h9.base, h9.recs⟩
theorem DoesSt.same (h : DoesSt w lb N l k r v Q W) : Calls Tryz.prog 18 #[.pointer (some ⟨lb, 0, none⟩), v] W fun e V => e = .returned (.bool true) ∧ Hid (Below W.heap.size W V) := by
  obtain ⟨P, h1, h2, h3⟩ := h.both
  exact (same_any h1 h2 h3).mono fun e V h4 => ⟨h4.1, Lib.hid h4.2⟩
theorem DoesSt.synced (h : DoesSt w lb N l k r v Q W) : Calls Tryz.prog 19 #[.pointer (some ⟨lb, 0, none⟩)] W fun e V => e = .returned (.int .i64 r.syn) ∧ W = V := by
  obtain ⟨F, P, S, M, G, st, h1, h2, h3, h4, h5, h0, h6, h7⟩ := h
  obtain ⟨Λ, h8, _⟩ := h1.lk.log
  rw [h6.syn]
  exact h8.synced_
/-- The form of the document's value. -/
theorem DoesSt.form (h : DoesSt w lb N l k r v Q W) : ∃ tA tc rA rc, v = .agg #[.int .i64 r.base, .slice tA r.shot.length tc, .slice rA r.recs.length rc, .int .i64 r.syn, .int .i64 r.size, .int .i64 r.bytes, .int .i64 0] := by
  obtain ⟨F, P, S, M, G, st, h1, h2, h3, h4⟩ := h
  obtain ⟨tA, tc, rA, rc, l', hv, _⟩ := h3
  exact ⟨tA, tc, rA, rc, hv⟩
/-- The box of the document's log. -/
def BoxR (q : Nat) (r : RefM) (v : Value) (W : World) : Prop := ∃ tA tc rA rc, v = .agg #[.int .i64 r.base, .slice tA r.shot.length tc, .slice rA r.recs.length rc, .int .i64 r.syn, .int .i64 r.size, .int .i64 r.bytes, .int .i64 0] ∧ W.heap[q]? = some (.cells (bl r.base (.slice tA r.shot.length tc) (.slice rA r.recs.length rc) r.syn r.size r.bytes 0) 36 (0, 0))
end
end Go.Proofs.YtnomicnmpllajaaGreatDoor
end

section
namespace Go.Proofs.YtnomicnmpllajaaGreatDoor
open Go Go.RowKit
set_option linter.unusedVariables false

/-- Both say the same, and the document's does. -/
def TwoSt (w : World) (la lb N : Nat) (l : List OpM) (k : Nat) (r : RefM) (v : Value) (Q : Nat → Prop) (W : World) : Prop :=
  ∃ F1 F2 P S M G st, LF w F1 la (w.heap.size + 1) 1048576 S M W ∧ LF w F2 lb (w.heap.size + 3) 1048576 S M W ∧ (∀ i, F1 i → ¬ F2 i) ∧ LI S M G st ∧ RefIs W P r v ∧ (∀ i, W.heap.size ≤ i → P i) ∧ (∀ i, P i → ¬ F1 i ∧ ¬ F2 i) ∧ (∀ i, Q i → ¬ P i ∧ ¬ F1 i ∧ ¬ F2 i ∧ i < W.heap.size) ∧ Beside r M ∧ M.size = N ∧ M.last ≤ k ∧ usedN S ≤ weighs (l.take k) + 20 * k
/-- The first one has done the call. -/
def TwoMid (w : World) (la lb N : Nat) (l : List OpM) (k : Nat) (p : OpM) (r : RefM) (v : Value) (Q : Nat → Prop) (W : World) : Prop :=
  ∃ F1 F2 P S M G st S' M' G' st' el, LF w F1 la (w.heap.size + 1) 1048576 S' M' W ∧ LF w F2 lb (w.heap.size + 3) 1048576 S M W ∧ (∀ i, F1 i → ¬ F2 i) ∧ LI S M G st ∧ LI S' M' G' st' ∧ logTo p S M S' M' el ∧ RefIs W P r v ∧ (∀ i, W.heap.size ≤ i → P i) ∧ (∀ i, P i → ¬ F1 i ∧ ¬ F2 i) ∧ (∀ i, Q i → ¬ P i ∧ ¬ F1 i ∧ ¬ F2 i ∧ i < W.heap.size) ∧ Beside r M ∧ M.size = N ∧ M.last ≤ k ∧ usedN S ≤ weighs (l.take k) + 20 * k
section
variable {w W W' : World} {Q : Nat → Prop} {la lb N k n : Nat} {l : List OpM} {r : RefM} {v : Value} {p : OpM} {A : Option Addr} {c : Nat}
theorem TwoSt.below (h : TwoSt w la lb N l k r v Q W) : Below w.heap.size w W := by
  obtain ⟨F1, F2, P, S, M, G, st, h1, _⟩ := h
  exact h1.below
theorem TwoSt.later (h : TwoSt w la lb N l k r v Q W) (hb : Below W.heap.size W W') : TwoSt w la lb N l k r v Q W' := by
  obtain ⟨F1, F2, P, S, M, G, st, h1, h2, h3, h4, h5, h6, h7, h8, h9⟩ := h
  exact ⟨F1, F2, P, S, M, G, st, h1.later hb, h2.later hb, h3, h4, h5.below hb, fun i hi => h6 i (Nat.le_trans hb.size hi), h7, fun i hi => ⟨(h8 i hi).1, (h8 i hi).2.1, (h8 i hi).2.2.1, Nat.lt_of_lt_of_le (h8 i hi).2.2.2 hb.size⟩, h9⟩
theorem TwoMid.later (h : TwoMid w la lb N l k p r v Q W) (hb : Below W.heap.size W W') : TwoMid w la lb N l k p r v Q W' := by
  obtain ⟨F1, F2, P, S, M, G, st, S', M', G', st', el, h1, h2, h3, h4, h4', h4'', h5, h6, h7, h8, h9⟩ := h
  exact ⟨F1, F2, P, S, M, G, st, S', M', G', st', el, h1.later hb, h2.later hb, h3, h4, h4', h4'', h5.below hb, fun i hi => h6 i (Nat.le_trans hb.size hi), h7, fun i hi => ⟨(h8 i hi).1, (h8 i hi).2.1, (h8 i hi).2.2.1, Nat.lt_of_lt_of_le (h8 i hi).2.2.2 hb.size⟩, h9⟩
theorem TwoSt.less {Q' : Nat → Prop} (h : TwoSt w la lb N l k r v Q W) (hQ : ∀ i, Q' i → Q i) : TwoSt w la lb N l k r v Q' W := by
  obtain ⟨F1, F2, P, S, M, G, st, h1, h2, h3, h4, h5, h6, h7, h8, h9⟩ := h
  exact ⟨F1, F2, P, S, M, G, st, h1, h2, h3, h4, h5, h6, h7, fun i hi => h8 i (hQ i hi), h9⟩
theorem TwoSt.box (h : TwoSt w la lb N l k r v Q W) (o : Obj) : TwoSt w la lb N l k r v (fun i => Q i ∨ i = W.heap.size) (W.alloc o) := by
  obtain ⟨F1, F2, P, S, M, G, st, h1, h2, h3, h4, h5, h6, h7, h8, h9⟩ := h
  have hb : Below W.heap.size W (W.alloc o) := (Below.refl _ _).alloc (Nat.le_refl _) _
  have hs : (W.alloc o).heap.size = W.heap.size + 1 := by simp
  refine ⟨F1, F2, fun i => P i ∧ i ≠ W.heap.size, S, M, G, st, h1.later hb, h2.later hb, h3, h4, h5.keep hb.size fun i hi hp => ⟨hb.block i hi, hp, by omega⟩, fun i hi => ⟨h6 i (by omega), by omega⟩, fun i hi => h7 i hi.1, fun i hi => ?_, h9⟩
  rcases hi with hi | rfl
  · exact ⟨fun hp => (h8 i hi).1 hp.1, (h8 i hi).2.1, (h8 i hi).2.2.1, by have := (h8 i hi).2.2.2; omega⟩
  · exact ⟨fun hp => hp.2 rfl, fun hf => by have := (h1.2.2 _ hf).2; omega, fun hf => by have := (h2.2.2 _ hf).2; omega, by omega⟩
theorem TwoSt.set {b : Nat} (h : TwoSt w la lb N l k r v Q W) (hb : Q b) (hc : Chg (fun i => i = b) W W') (hs : W'.heap.size = W.heap.size) (hw : w.heap.size ≤ b) : TwoSt w la lb N l k r v Q W' := by
  obtain ⟨F1, F2, P, S, M, G, st, h1, h2, h3, h4, h5, h6, h7, h8, h9⟩ := h
  obtain ⟨q1, q2, q3, q4⟩ := h8 b hb
  have hbl := h1.below
  have hbl2 := hbl.trans (hc.below hbl.size fun i e => by omega)
  exact ⟨F1, F2, P, S, M, G, st, h1.keep hc (fun i hi e => q2 (e ▸ hi)) hbl2, h2.keep hc (fun i hi e => q3 (e ▸ hi)) hbl2, h3, h4, h5.keep (Nat.le_of_eq hs.symm) fun i hi hp => ⟨hc.block i hi fun e => q1 (e ▸ hp), hp⟩, fun i hi => h6 i (by omega), h7, fun i hi => by rw [hs]; exact h8 i hi, h9⟩
theorem take_weighs (hl : l[k]? = some p) (hk : k < 40) : weighs (l.take (k + 1)) = weighs (l.take k) + p.bn ∧ weighs (l.take (k + 1)) ≤ weighs (l.take 41) := by
  refine ⟨?_, ?_⟩
  · rw [List.take_add_one, hl]
    exact weighs_snoc _ _
  · have e : l.take 41 = l.take (k + 1) ++ (l.take 41).drop (k + 1) := by
      conv => lhs; rw [← List.take_append_drop (k + 1) (l.take 41)]
      rw [List.take_take, Nat.min_eq_left (by omega)]
    rw [e]
    unfold weighs
    rw [List.map_append, List.sum_append]
    exact Nat.le_add_right _ _
theorem RefIs.form {P : Nat → Prop} (h : RefIs W P r v) : ∃ tA tc rA rc, v = .agg #[.int .i64 r.base, .slice tA r.shot.length tc, .slice rA r.recs.length rc, .int .i64 r.syn, .int .i64 r.size, .int .i64 r.bytes, .int .i64 0] := by
  obtain ⟨tA, tc, rA, rc, l', hv, _⟩ := h
  exact ⟨tA, tc, rA, rc, hv⟩
/-- The first 'does'. -/
theorem TwoSt.does1 (h : TwoSt w la lb N l k r v Q W) (ht : Tab w) (hp : OpOk w w.heap.size p) (hl : l[k]? = some p) (hk : k < 40) (hw : weighs (l.take 41) ≤ 20000) :
    Calls Tryz.prog 17 #[.pointer (some ⟨w.heap.size + 1, 0, none⟩), .pointer (some ⟨la, 0, none⟩), v, .agg #[.int .i64 p.kind, .int .i64 p.n, .slice p.bA p.bn p.bc]] W fun e W' => ∃ (r' : RefM) (tA : Option Addr) (tc : Nat) (rA : Option Addr) (rc : Nat), e = .returned (.tuple #[.agg #[.int .i64 r'.base, .slice tA r'.shot.length tc, .slice rA r'.recs.length rc, .int .i64 r'.syn, .int .i64 r'.size, .int .i64 r'.bytes, .int .i64 0], .bool true]) ∧ Hid (TwoMid w la lb N l k p r v Q W') ∧ Hid (∀ i, Q i → W'.heap[i]? = W.heap[i]?) ∧ Hid (W.heap.size ≤ W'.heap.size) := by
  obtain ⟨F1, F2, P, S, M, G, st, h1, h2, h3, h4, h5, h6, h7, h8, h9, h10, h11, h12⟩ := h
  have hlen := hp.rb.len
  obtain ⟨hwk, hwm⟩ := take_weighs hl hk
  refine (does_any h1 h4 ht h5 (h9.ok h4) h6 (fun i hi => (h7 i hi).1) hp (by omega) (by omega)).mono ?_
  rintro e W' ⟨v', el, S', M', rfl, hf⟩
  obtain ⟨q1, F', q2, q3, q4, q5⟩ := hf.out
  obtain ⟨G', st', q6, q7, q8, q9⟩ := log_step h4 q1 hp.byt (by omega)
  obtain ⟨q10, q11⟩ := beside_step h4 h9 q1 q6
  obtain ⟨tA, tc, rA, rc, rfl⟩ := q5.form
  have hF2 : ∀ i, F2 i → i < W.heap.size := fun i hi => (h2.2.2 i hi).2
  refine ⟨_, tA, tc, rA, rc, by rw [q10, beq_self_eq_true], Lib.hid ⟨F', F2, fun i => P i ∧ ¬ F' i, S, M, G, st, S', M', G', st', el, q2, h2.keep q3 (fun i hi hf => h3 i hf hi) q2.below, fun i hi hf => ?_, h4, q6, q1, h5.keep q3.size fun i hi hp => ⟨q3.block i hi (h7 i hp).1, hp, fun hF => ?_⟩, fun i hi => ⟨h6 i (Nat.le_trans q3.size hi), fun hF => ?_⟩, fun i hi => ⟨hi.2, (h7 i hi.1).2⟩, fun i hi => ⟨fun hp => (h8 i hi).1 hp.1, fun hF => ?_, (h8 i hi).2.2.1, Nat.lt_of_lt_of_le (h8 i hi).2.2.2 q3.size⟩, h9, h10, h11, h12⟩, Lib.hid fun i hi => q3.block i (h8 i hi).2.2.2 (h8 i hi).2.1, Lib.hid q3.size⟩
  · rcases q4 i hi with h | h
    · exact h3 i h hf
    · have := hF2 i hf
      omega
  · rcases q4 i hF with h | h
    · exact (h7 i hp).1 h
    · omega
  · have := (q2.2.2 i hF).2
    omega
  · rcases q4 i hF with h | h
    · exact (h8 i hi).2.1 h
    · have := (h8 i hi).2.2.2
      omega
/-- The second one. -/
theorem TwoMid.does2 (h : TwoMid w la lb N l k p r v Q W) (ht : Tab w) (hp : OpOk w w.heap.size p) (hl : l[k]? = some p) (hk : k < 40) (hw : weighs (l.take 41) ≤ 20000) :
    Calls Tryz.prog 17 #[.pointer (some ⟨w.heap.size + 3, 0, none⟩), .pointer (some ⟨lb, 0, none⟩), v, .agg #[.int .i64 p.kind, .int .i64 p.n, .slice p.bA p.bn p.bc]] W fun e W' => ∃ (r' : RefM) (tA : Option Addr) (tc : Nat) (rA : Option Addr) (rc : Nat), e = .returned (.tuple #[.agg #[.int .i64 r'.base, .slice tA r'.shot.length tc, .slice rA r'.recs.length rc, .int .i64 r'.syn, .int .i64 r'.size, .int .i64 r'.bytes, .int .i64 0], .bool true]) ∧ Hid (TwoSt w la lb N l (k + 1) r' (.agg #[.int .i64 r'.base, .slice tA r'.shot.length tc, .slice rA r'.recs.length rc, .int .i64 r'.syn, .int .i64 r'.size, .int .i64 r'.bytes, .int .i64 0]) Q W') ∧ Hid (∀ i, Q i → W'.heap[i]? = W.heap[i]?) ∧ Hid (W.heap.size ≤ W'.heap.size) := by
  obtain ⟨F1, F2, P, S, M, G, st, S1, M1, G1, st1, el1, h1, h2, h3, h4, h4', h4'', h5, h6, h7, h8, h9, h10, h11, h12⟩ := h
  have hlen := hp.rb.len
  obtain ⟨hwk, hwm⟩ := take_weighs hl hk
  refine (does_any h2 h4 ht h5 (h9.ok h4) h6 (fun i hi => (h7 i hi).2) hp (by omega) (by omega)).mono ?_
  rintro e W' ⟨v', el, S', M', rfl, hf⟩
  obtain ⟨q1, F', q2, q3, q4, q5⟩ := hf.out
  obtain ⟨rfl, rfl⟩ := logTo.uniq h4 h4'' q1
  obtain ⟨G', st', q6, q7, q8, q9⟩ := log_step h4 q1 hp.byt (by omega)
  obtain ⟨q10, q11⟩ := beside_step h4 h9 q1 q6
  obtain ⟨tA, tc, rA, rc, rfl⟩ := q5.form
  have hF1 : ∀ i, F1 i → i < W.heap.size := fun i hi => (h1.2.2 i hi).2
  refine ⟨_, tA, tc, rA, rc, by rw [q10, beq_self_eq_true], Lib.hid ⟨F1, F', fun i => P i ∧ ¬ F' i, _, _, G', st', h1.keep q3 (fun i hi hf => h3 i hi hf) q2.below, q2, fun i hi hf => ?_, q6, q5, fun i hi => ⟨h6 i (Nat.le_trans q3.size hi), fun hF => ?_⟩, fun i hi => ⟨(h7 i hi.1).1, hi.2⟩, fun i hi => ⟨fun hp => (h8 i hi).1 hp.1, (h8 i hi).2.1, fun hF => ?_, Nat.lt_of_lt_of_le (h8 i hi).2.2.2 q3.size⟩, q11, by rw [q9, h10], by omega, by omega⟩, Lib.hid fun i hi => q3.block i (h8 i hi).2.2.2 (h8 i hi).2.2.1, Lib.hid q3.size⟩
  · rcases q4 i hf with h | h
    · exact h3 i hi h
    · have := hF1 i hi
      omega
  · have := (q2.2.2 i hF).2
    omega
  · rcases q4 i hF with h | h
    · exact (h8 i hi).2.2.1 h
    · have := (h8 i hi).2.2.2
      omega
end
end Go.Proofs.YtnomicnmpllajaaGreatDoor
end

section
namespace Go.Proofs.YtnomicnmpllajaaGreatDoor
open Go Go.RowKit
set_option linter.unusedVariables false

/-- Two disks that have the same files. -/
def DiskTwo (w : World) (S : List RF) (W : World) : Prop := (∃ R Φ, DiskAt W (w.heap.size + 1) R S Φ) ∧ (∃ R Φ, DiskAt W (w.heap.size + 3) R S Φ) ∧ S.length ≤ 1000000 ∧ (∀ f ∈ S, f.nm.length ≤ 1000) ∧ (∀ f ∈ S, f.b.length ≤ 1000000) ∧ (∀ f ∈ S, ∀ x ∈ f.b, 0 ≤ x ∧ x < 256) ∧ Below w.heap.size w W
section
variable {w W W' : World} {Q : Nat → Prop} {la lb N k n : Nat} {l : List OpM} {r : RefM} {v : Value} {p : OpM} {A : Option Addr} {c : Nat} {S : List RF} {M : LogM} {G : List SegR} {st : Nat}
theorem two_open (w : World) (n : Nat) (h1 : 16 ≤ n) (h2 : n ≤ 65536) (l : List OpM) : Calls Tryz.prog 14 #[.int .i64 1048576] w fun e w1 => e = .returned (.pointer (some ⟨w.heap.size + 1, 0, none⟩)) ∧
    Hid (Calls Tryz.prog 14 #[.int .i64 1048576] w1 fun e w2 => e = .returned (.pointer (some ⟨w.heap.size + 3, 0, none⟩)) ∧
    Hid (Calls Tryz.prog 15 #[.pointer (some ⟨w.heap.size + 1, 0, none⟩), .int .i64 n] w2 fun e w3 => ∃ la, e = .returned (.tuple #[.pointer (some ⟨la, 0, none⟩), .nilIface]) ∧
    Hid (Calls Tryz.prog 15 #[.pointer (some ⟨w.heap.size + 3, 0, none⟩), .int .i64 n] w3 fun e w4 => ∃ lb, e = .returned (.tuple #[.pointer (some ⟨lb, 0, none⟩), .nilIface]) ∧
    Hid (Calls Tryz.prog 16 #[.int .i64 n] w4 fun e w5 => ∃ tA tc rA rc, e = .returned (.agg #[.int .i64 0, .slice tA 0 tc, .slice rA 0 rc, .int .i64 0, .int .i64 n, .int .i64 0, .int .i64 0]) ∧ Hid (TwoSt w la lb n l 0 ⟨0, [], [], 0, n, 0⟩ (.agg #[.int .i64 0, .slice tA 0 tc, .slice rA 0 rc, .int .i64 0, .int .i64 n, .int .i64 0, .int .i64 0]) (fun _ => False) w5))))) := by
  refine (New_any 1048576 w).mono ?_
  rintro e w1 ⟨rfl, hb1, hs1, hd1⟩
  refine ⟨rfl, Lib.hid ?_⟩
  refine (New_any 1048576 w1).mono ?_
  rintro e w2 ⟨rfl, hb2, hs2, hd2⟩
  refine ⟨by rw [hs1], Lib.hid ?_⟩
  rw [hs1] at hd2 hs2
  have hcl : clampR 1048576 = 1048576 := by decide
  rw [hcl] at hd1 hd2
  have hb12 : Below w.heap.size w w2 := hb1.trans (hb2.mono hb1.size)
  refine (Open_empty (w0 := w) (Kp := fun k => k < w.heap.size ∨ (w.heap.size + 2 ≤ k ∧ k < w.heap.size + 4)) hb12 (hd1.later hb2) (fun k hk => ⟨hk.1, by omega, by omega⟩) (fun k hk => by omega) n h1 h2).mono ?_
  rintro e w3 ⟨la, rfl, hl1, hk3⟩
  refine ⟨la, rfl, Lib.hid ?_⟩
  obtain ⟨Φ1, Λ1, x1, x2, x3, x4⟩ := hl1.ex
  have hb3 := hl1.below
  have hs3 := hk3.2
  have hd23 : DiskAt w3 (w.heap.size + 2 + 1) 1048576 [] (fun k => w.heap.size + 2 ≤ k ∧ k < w.heap.size + 2 + 2) := by
    obtain ⟨m, L, e, hD⟩ := hd2
    exact ⟨m, L, e, hD.keep (Chg.of_kept hb12 hb3 hk3) fun k hk hn => hn (.inr (by omega))⟩
  refine (Open_empty (w0 := w) (d := w.heap.size + 3) (Kp := fun k => k < w3.heap.size ∧ ¬ (w.heap.size + 2 ≤ k ∧ k < w.heap.size + 4)) hb3 hd23 (fun k hk => ⟨by omega, by omega, by omega⟩) (fun k hk => by omega) n h1 h2).mono ?_
  rintro e w4 ⟨lb, rfl, hl2, hk4⟩
  refine ⟨lb, rfl, Lib.hid ?_⟩
  obtain ⟨Φ2, Λ2, y1, y2, y3, y4⟩ := hl2.ex
  have hb4 := hl2.below
  have hs4 := hk4.2
  have L1 : LF w (fun k => (w.heap.size ≤ k ∧ k < w.heap.size + 2) ∨ (w.heap.size + 4 ≤ k ∧ k < w3.heap.size)) la (w.heap.size + 1) 1048576 [] (newM n) w3 := ⟨⟨_, Φ1, Λ1, x1, x2, x3, fun k hk => by have := x4 k hk; omega⟩, hb3, fun k hk => by omega⟩
  have L1' : LF w (fun k => (w.heap.size ≤ k ∧ k < w.heap.size + 2) ∨ (w.heap.size + 4 ≤ k ∧ k < w3.heap.size)) la (w.heap.size + 1) 1048576 [] (newM n) w4 := L1.keep (Chg.of_kept hb3 hb4 hk4) (fun k hk hn => hn (by omega)) hb4
  have L2 : LF w (fun k => (w.heap.size + 2 ≤ k ∧ k < w.heap.size + 4) ∨ (w3.heap.size ≤ k ∧ k < w4.heap.size)) lb (w.heap.size + 3) 1048576 [] (newM n) w4 := ⟨⟨_, Φ2, Λ2, y1, y2, y3, fun k hk => by have := y4 k hk; omega⟩, hb4, fun k hk => by omega⟩
  refine (RNew_is (P := fun k => ¬ ((w.heap.size ≤ k ∧ k < w.heap.size + 2) ∨ (w.heap.size + 4 ≤ k ∧ k < w3.heap.size)) ∧ ¬ ((w.heap.size + 2 ≤ k ∧ k < w.heap.size + 4) ∨ (w3.heap.size ≤ k ∧ k < w4.heap.size))) n w4).mono ?_
  rintro e w5 ⟨v, rfl, hb5, hr⟩
  obtain ⟨tA, tc, rA, rc, hv⟩ := hr.form
  subst hv
  have hs5 := hb5.size
  exact ⟨tA, tc, rA, rc, rfl, Lib.hid ⟨_, _, _, [], newM n, [], 1, L1'.later hb5, L2.later hb5, fun k hk hk2 => by omega, LI.new h1 h2, hr, fun k hk => by omega, fun k hk => hk, fun k hk => hk.elim, newM_beside n, rfl, Nat.le_refl _, Nat.zero_le _⟩⟩
theorem LI.file_bytes (h : LI S M G st) : ∀ f ∈ S, ∀ x ∈ f.b, 0 ≤ x ∧ x < 256 := fun f hf => by
  rcases h.other f hf with h1 | h1
  · have h2 : f.nm ∈ logsOf S := mem_logs.2 ⟨⟨f, hf, rfl⟩, h1⟩
    rw [h.names] at h2
    obtain ⟨g, hg, e⟩ := List.mem_map.1 h2
    obtain ⟨f', a, b, _⟩ := h.file g hg
    rw [e, findN_some h.rise hf] at a
    cases a
    rw [b]
    intro x hx
    unfold bytesR at hx
    obtain ⟨r, hr, hx⟩ := List.mem_flatMap.1 hx
    exact sealF_bytes (h.byt g hg r hr).2 x hx
  · have h2 := findN_some h.rise hf
    rw [h1] at h2
    rcases h.snap with ⟨a, _⟩ | ⟨f', a, b, _⟩
    · rw [h2] at a
      cases a
    · rw [h2] at a
      cases a
      rw [b]
      refine sealF_bytes fun x hx => ?_
      rcases List.mem_append.1 hx with hx | hx
      · exact enc_bytes _ x hx
      · exact h.shot.2 x hx
theorem TwoSt.disks (h : TwoSt w la lb N l k r v Q W) : ∃ S, DiskTwo w S W ∧ Rising RF.nm S := by
  obtain ⟨F1, F2, P, S, M, G, st, h1, h2, h3, h4, h5⟩ := h
  have hb := h1.below
  obtain ⟨⟨_, Φ1, _, _, d1, _⟩, _⟩ := h1
  obtain ⟨⟨_, Φ2, _, _, d2, _⟩, _⟩ := h2
  exact ⟨S, ⟨⟨_, Φ1, d1⟩, ⟨_, Φ2, d2⟩, h4.few, h4.name_len, h4.small h4.own_left h4.rise, h4.file_bytes, hb⟩, h4.rise⟩
theorem DiskTwo.later (h : DiskTwo w S W) (hb : Below W.heap.size W W') : DiskTwo w S W' := by
  obtain ⟨⟨R1, Φ1, h1⟩, ⟨R2, Φ2, h2⟩, h3, h4, h5, h6, h7⟩ := h
  exact ⟨⟨R1, Φ1, h1.later hb⟩, ⟨R2, Φ2, h2.later hb⟩, h3, h4, h5, h6, h7.trans (hb.mono h7.size)⟩
/-- A file, told by both. -/
theorem DiskTwo.read (h : DiskTwo w S W) (hr : Rising RF.nm S) {f : RF} (hf : f ∈ S) (bs : ByteArray) (hbs : bs.data.toList = f.nm) :
    Calls Tryz.prog 41 #[.pointer (some ⟨w.heap.size + 1, 0, none⟩), .string bs] W fun e w1 => ∃ A1 c1 er, e = .returned (.tuple #[.slice A1 f.b.length c1, .int .i64 er]) ∧ Below W.heap.size W w1 ∧
      Hid (Calls Tryz.prog 41 #[.pointer (some ⟨w.heap.size + 3, 0, none⟩), .string bs] w1 fun e w2 => ∃ A2 c2 er, e = .returned (.tuple #[.slice A2 f.b.length c2, .int .i64 er]) ∧ Below W.heap.size W w2 ∧ Hid (DiskTwo w S w2) ∧
        Hid (∀ w3, Below w2.heap.size w2 w3 → Calls Tryz.prog 27 #[.slice A1 f.b.length c1, .slice A2 f.b.length c2] w3 fun e w4 => e = .returned (.bool true) ∧ w3 = w4)) := by
  have h0 := h
  obtain ⟨⟨R1, Φ1, h1⟩, ⟨R2, Φ2, h2⟩, h3, h4, h5, h6, h7⟩ := h
  have hnl := h4 f hf
  have hsz : bs.size ≤ maxLen := by
    have : bs.size = f.nm.length := by rw [← hbs]; simp
    unfold maxLen
    omega
  refine (Read_any h1 bs hsz).mono ?_
  rw [hbs]
  rintro e w1 ⟨hb1, ⟨hno, _⟩ | ⟨f', A1, c1, e1, rfl, o1⟩⟩
  · exact absurd hf fun hf => by rw [findN_some hr hf] at hno; cases hno
  rw [findN_some hr hf] at e1
  cases e1
  refine ⟨A1, c1, 0, rfl, hb1, Lib.hid ?_⟩
  refine (Read_any (h2.later hb1) bs hsz).mono ?_
  rw [hbs]
  rintro e w2 ⟨hb2, ⟨hno, _⟩ | ⟨f', A2, c2, e1, rfl, o2⟩⟩
  · exact absurd hf fun hf => by rw [findN_some hr hf] at hno; cases hno
  rw [findN_some hr hf] at e1
  cases e1
  have hb12 := hb1.trans (hb2.mono hb1.size)
  refine ⟨A2, c2, 0, rfl, hb12, Lib.hid (h0.later hb12), Lib.hid fun w3 hb3 => ?_⟩
  obtain ⟨_, _, e2, r1⟩ := Rd.of_own o1
  cases e2
  obtain ⟨_, _, e2, r2⟩ := Rd.of_own o2
  cases e2
  have hb13 := hb2.trans (hb3.mono hb2.size)
  refine (Equal_any A1 A2 _ c1 _ c2 _ _ f.b f.b w3 ((r1.below hb13).more hb13.size) ((r2.below hb3).more hb3.size) (h6 f hf) (h6 f hf)).mono ?_
  rintro e w4 ⟨rfl, rfl⟩
  exact ⟨by rw [decide_eq_true rfl], rfl⟩
/-- The names of either. -/
theorem DiskTwo.names1 (h : DiskTwo w S W) : Calls Tryz.prog 40 #[.pointer (some ⟨w.heap.size + 1, 0, none⟩)] W (NamesSaid S W) := by
  obtain ⟨⟨R1, Φ1, h1⟩, _, h3, _⟩ := h
  exact Names_any h1 h3
theorem DiskTwo.names2 (h : DiskTwo w S W) : Calls Tryz.prog 40 #[.pointer (some ⟨w.heap.size + 3, 0, none⟩)] W (NamesSaid S W) := by
  obtain ⟨_, ⟨R2, Φ2, h2⟩, h3, _⟩ := h
  exact Names_any h2 h3
end
end Go.Proofs.YtnomicnmpllajaaGreatDoor
end

section
namespace Go.Proofs.YtnomicnmpllajaaGreatDoor
open Go Go.RowKit
set_option linter.unusedVariables false

theorem ownCap {w : World} {base e n c : Nat} {A : Option Addr} {xs : List Value} (h : w.ownsRow base e 1 (.slice A n c) n xs) : n ≤ c := by
  rcases h.2 with ⟨e1, e2⟩ | ⟨g, cap, cur, e1, _, _, e3, _⟩
  · omega
  · cases e1; exact e3
theorem TwoSt.rebase {w W : World} {Q : Nat → Prop} {la lb N k q : Nat} {l : List OpM} {r : RefM} {v : Value} (h : TwoSt (w.drewN q) la lb N l k r v Q W) : TwoSt w la lb N l k r v Q W := by
  obtain ⟨F1, F2, P, S, M, G, st, ⟨a1, a2, a3⟩, ⟨b1, b2, b3⟩, h⟩ := h
  exact ⟨F1, F2, P, S, M, G, st, ⟨a1, (bdrewN (Below.refl _ _) q).trans a2, a3⟩, ⟨b1, (bdrewN (Below.refl _ _) q).trans b2, b3⟩, h⟩
set_option maxHeartbeats 3200000 in
set_option maxRecDepth 100000 in
theorem walSame_any (size : Int) {A : Option Addr} {n c : Nat} {l : List OpM} (w : World) (hl : OpsRd w w.heap.size A n c l) (ht : Tab w) :
    Calls Tryz.prog 10 #[.int .i64 size, .slice A n c] w fun e w' => e = .returned (.bool true) ∧ Below w.heap.size w w' := by
  have hm1 := hl.max
  have hm2 := hl.cap
  unfold maxLen at hm1
  have HFEW := Lib.hid (few_any hl)
  have HAW := Lib.hid fun (W : World) (hW : Below w.heap.size w W) => awake_any W (ht.below hW)
  by_cases hf : fewF l = false
  · rw [hf] at HFEW
    clear hf hl ht
    go_enter Tryz.func10, Tryz.ntmps10
    go_wp2_with (first
      | (go_at_call 11; refine HFEW.out.mono ?_; rintro e w0 ⟨rfl, q, rfl⟩)
      | (go_at_call 13; refine (HAW.out _ (bdrewN (Below.refl _ _) q)).mono ?_; rintro e w1 ⟨rfl, hb⟩))
    go_ret
    exact ⟨rfl, (bdrewN (Below.refl _ _) q).trans hb⟩
  have hf : fewF l = true := by simpa using hf
  by_cases hs : 16 ≤ size ∧ size ≤ 65536
  case neg =>
    have HSM := Lib.hid fun W => small_any size W
    rw [decide_eq_false hs] at HSM
    rw [hf] at HFEW
    clear hf hl ht hs
    go_enter Tryz.func10, Tryz.ntmps10
    go_wp2_with (first
      | (go_at_call 11; refine HFEW.out.mono ?_; rintro e w0 ⟨rfl, q, rfl⟩)
      | (go_at_call 12; refine (HSM.out _).mono ?_; rintro e w2 ⟨rfl, rfl⟩)
      | (go_at_call 13; refine (HAW.out _ (bdrewN (Below.refl _ _) q)).mono ?_; rintro e w1 ⟨rfl, hb⟩))
    go_ret
    exact ⟨rfl, (bdrewN (Below.refl _ _) q).trans hb⟩
  obtain ⟨N, rfl⟩ : ∃ N : Nat, size = N := ⟨size.toNat, by omega⟩
  have HSM := Lib.hid fun W => small_any N W
  rw [decide_eq_true hs] at HSM
  rw [hf] at HFEW
  have HOP := Lib.hid fun W => two_open W N (by omega) (by omega) l
  have HL := Lib.hid hl
  have HT := Lib.hid ht
  have HS0 := Lib.hid hs
  unfold fewF at hf
  rw [Bool.and_eq_true, decide_eq_true_eq, decide_eq_true_eq, hl.len] at hf
  have HW := Lib.hid hf.2
  have hn40 := hf.1
  clear hf hl ht hs
  go_enter Tryz.func10, Tryz.ntmps10
  go_wp2_with (first
    | (go_at_call 11; refine HFEW.out.mono ?_; rintro e w0 ⟨rfl, q, rfl⟩)
    | (go_at_call 12; refine (HSM.out _).mono ?_; rintro e w2 ⟨rfl, rfl⟩)
    | (go_at_call 14; refine (HOP.out _).mono ?_; rintro e w1 ⟨rfl, HO1⟩; clear HOP)
    | (go_at_call 14; refine HO1.out.mono ?_; rintro e w2 ⟨rfl, HO2⟩; clear HO1)
    | (go_at_call 15; refine HO2.out.mono ?_; rintro e w3 ⟨la, rfl, HO3⟩; clear HO2)
    | (go_at_call 15; refine HO3.out.mono ?_; rintro e w4 ⟨lb, rfl, HO4⟩; clear HO3)
    | (go_at_call 16; refine HO4.out.mono ?_; rintro e w5 ⟨tA, tc, rA, rc, rfl, HS⟩; clear HO4))
  have HQ0 : ∃ q0, q0 = w5.heap.size := ⟨_, rfl⟩
  obtain ⟨q0, hq0⟩ := HQ0
  have HSB : Hid (TwoSt w la lb N l 0 ⟨0, [], [], 0, N, 0⟩ (.agg #[.int .i64 0, .slice tA 0 tc, .slice rA 0 rc, .int .i64 0, .int .i64 N, .int .i64 0, .int .i64 0]) (fun i => i = q0) (w5.alloc (.cells #[.int .i64 0, .slice tA 0 tc, .slice rA 0 rc, .int .i64 0, .int .i64 N, .int .i64 0, .int .i64 0] 36))) := Lib.hid ((HS.out.rebase.box _).less fun i hi => .inr (hi.trans hq0))
  have HBX : Hid (BoxR q0 ⟨0, [], [], 0, N, 0⟩ (.agg #[.int .i64 0, .slice tA 0 tc, .slice rA 0 rc, .int .i64 0, .int .i64 N, .int .i64 0, .int .i64 0]) (w5.alloc (.cells #[.int .i64 0, .slice tA 0 tc, .slice rA 0 rc, .int .i64 0, .int .i64 N, .int .i64 0, .int .i64 0] 36))) := Lib.hid ⟨tA, tc, rA, rc, rfl, by rw [hq0]; exact heap_alloc_new _ _⟩
  have HWQ : Hid (w.heap.size ≤ q0) := Lib.hid (by rw [hq0]; exact HS.out.rebase.below.size)
  rw [← hq0]
  generalize w5.alloc (.cells #[.int .i64 0, .slice tA 0 tc, .slice rA 0 rc, .int .i64 0, .int .i64 N, .int .i64 0, .int .i64 0] 36) = W3' at *
  clear HS HSM HFEW hq0
  go_loopw [13, 74] (fun _ t wr => ∃ (k : Nat) (r : RefM) (v : Value), t = .int .i64 k ∧ k ≤ n ∧ Hid (TwoSt w la lb N l k r v (fun i => i = q0) wr) ∧ Hid (BoxR q0 r v wr)) (fun _ t _ => n - (intOf t).toNat)
  case atStart => exact ⟨0, _, _, rfl, Nat.zero_le _, HSB, HBX⟩
  case round =>
    obtain ⟨k, r, v, rfl, hk, HS, HB⟩ := hrel
    obtain ⟨tA2, tc2, rA2, rc2, rfl, hbx⟩ := HB.out
    clear HSB HBX
    by_cases hkn : k < n
    · obtain ⟨p, b, o, hp, hpm, rfl, hbB, hcell, hok⟩ := HL.out.at hkn
      have hb := HS.out.below
      have cc : ∀ i u, p.vals[i]? = some u → wr.cell? ⟨b, o + k * 3 + i, none⟩ = some u := fun i u hu => by
        rw [hb.cell (p := ⟨b, o + k * 3 + i, none⟩) hbB, Nat.add_assoc]
        exact hcell i u hu
      have e0 := cc 0 _ rfl
      have e1 := cc 1 _ rfl
      have e2 := cc 2 _ rfl
      have hkn' : (k : Int) < n := by omega
      rw [Nat.add_zero] at e0
      clear hcell cc
      go_upto_region 12 with fail
      have HS1 := Lib.hid (HS.out.box (.cells #[.int .i64 p.kind, .int .i64 p.n, .slice p.bA p.bn p.bc] 39))
      have hob := heap_alloc_new wr (.cells #[.int .i64 p.kind, .int .i64 p.n, .slice p.bA p.bn p.bc] 39)
      have hbx1 := (Chg.of_below (Φ := fun _ => False) ((Below.refl wr.heap.size wr).alloc (Nat.le_refl _) (.cells #[.int .i64 p.kind, .int .i64 p.n, .slice p.bA p.bn p.bc] 39))).heap hbx id
      have HOB := Lib.hid hob
      have HBX1 := Lib.hid hbx1
      have HD1 := Lib.hid (HS1.out.does1 HT.out hok hp (by omega) HW.out)
      have HD2 : Hid (∀ (V : World), TwoMid w la lb N l k p r (.agg #[.int .i64 r.base, .slice tA2 r.shot.length tc2, .slice rA2 r.recs.length rc2, .int .i64 r.syn, .int .i64 r.size, .int .i64 r.bytes, .int .i64 0]) (fun i => i = q0 ∨ i = wr.heap.size) V → _) := Lib.hid fun V hV => hV.does2 HT.out hok hp (by omega) HW.out
      have w1 : IntKind.i64.wrap ((k : Int) + 1) = (k : Int) + 1 := IntWalk.i64_in _ (by omega)
      obtain ⟨pk, pn, pbA, pbn, pbc, pb⟩ := p
      simp only at HD1 HD2 HS1 HBX1 HOB
      clear hb e0 e1 e2 hp hpm hok HS HB hbB hbx hob hbx1
      generalize wr.alloc (.cells #[.int .i64 pk, .int .i64 pn, .slice pbA pbn pbc] 39) = W1 at *
      generalize wr.heap.size = bq at *
      obtain ⟨c0, c1, c2, _⟩ := three_cells HOB.out
      obtain ⟨r0, s1, r2, r3, r4, r5, r6, rf⟩ := bl_cells HBX1.out
      go_upto_region 13 with (
          go_at_call 17
          refine HD1.out.mono ?_
          rintro e W2 ⟨r1, tB, tD, rB, rD, rfl, HM, HQ2, HZ2⟩
          clear c0 c1 c2 r0 s1 r2 r3 r4 r5 r6 rf HD1)
      have hb3 : Below W2.heap.size W2 (W2.alloc (.cells #[.int .i64 r1.base, .slice tB r1.shot.length tD, .slice rB r1.recs.length rD, .int .i64 r1.syn, .int .i64 r1.size, .int .i64 r1.bytes, .int .i64 0] 36)) := (Below.refl _ _).alloc (Nat.le_refl _) _
      have HBX3 := Lib.hid ((Chg.of_below (Φ := fun _ => False) hb3).heap ((HQ2.out q0 (.inl rfl)).trans HBX1.out) id)
      have HOB3 := Lib.hid ((Chg.of_below (Φ := fun _ => False) hb3).heap ((HQ2.out bq (.inr rfl)).trans HOB.out) id)
      have HD2' := Lib.hid (HD2.out _ (HM.out.later hb3))
      clear HBX1 HOB HQ2 HM HD2 hb3 HS1
      generalize W2.alloc (.cells #[.int .i64 r1.base, .slice tB r1.shot.length tD, .slice rB r1.recs.length rD, .int .i64 r1.syn, .int .i64 r1.size, .int .i64 r1.bytes, .int .i64 0] 36) = W3 at *
      obtain ⟨c0, c1, c2, _⟩ := three_cells HOB3.out
      obtain ⟨r0, s1, r2, r3, r4, r5, r6, rf⟩ := bl_cells HBX3.out
      go_upto_region 14 with (
          go_at_call 17
          refine HD2'.out.mono ?_
          rintro e W4 ⟨r', tE, tF, rE, rF, rfl, HS4, HQ4, HZ4⟩
          clear c0 c1 c2 r0 s1 r2 r3 r4 r5 r6 rf HD2')
      have hb5 : Below W4.heap.size W4 (W4.alloc (.cells #[.int .i64 r'.base, .slice tE r'.shot.length tF, .slice rE r'.recs.length rF, .int .i64 r'.syn, .int .i64 r'.size, .int .i64 r'.bytes, .int .i64 0] 36)) := (Below.refl _ _).alloc (Nat.le_refl _) _
      have HBX5 := Lib.hid ((Chg.of_below (Φ := fun _ => False) hb5).heap ((HQ4.out q0 (.inl rfl)).trans HBX3.out) id)
      have HNB : Hid ((W4.alloc (.cells (bl r'.base (.slice tE r'.shot.length tF) (.slice rE r'.recs.length rF) r'.syn r'.size r'.bytes 0) 36)).heap[W4.heap.size]? = some (.cells (bl r'.base (.slice tE r'.shot.length tF) (.slice rE r'.recs.length rF) r'.syn r'.size r'.bytes 0) 36 (0, 0))) := Lib.hid (heap_alloc_new _ _)
      have HS5 := Lib.hid (HS4.out.later hb5)
      clear HBX3 HOB3 HQ4 HS4 hb5
      have HNB' : Hid ((W4.alloc (.cells #[.int .i64 r'.base, .slice tE r'.shot.length tF, .slice rE r'.recs.length rF, .int .i64 r'.syn, .int .i64 r'.size, .int .i64 r'.bytes, .int .i64 0] 36)).heap[W4.heap.size]? = some (.cells (bl r'.base (.slice tE r'.shot.length tF) (.slice rE r'.recs.length rF) r'.syn r'.size r'.bytes 0) 36 (0, 0))) := HNB
      clear HNB
      generalize W4.alloc (.cells #[.int .i64 r'.base, .slice tE r'.shot.length tF, .slice rE r'.recs.length rF, .int .i64 r'.syn, .int .i64 r'.size, .int .i64 r'.bytes, .int .i64 0] 36) = W5 at *
      go_upto_region 16 with fail
      obtain ⟨n0, n1, n2, n3, n4, n5, n6, nf⟩ := bl_cells HNB'.out
      obtain ⟨r0, s1, r2, r3, r4, r5, r6, rf⟩ := bl_cells HBX5.out
      have HEND : Hid (∀ Vf, Vf = storedL W5 q0 r'.base (.slice tE r'.shot.length tF) (.slice rE r'.recs.length rF) r'.syn r'.size r'.bytes 0 → TwoSt w la lb N l (k + 1) r' (.agg #[.int .i64 r'.base, .slice tE r'.shot.length tF, .slice rE r'.recs.length rF, .int .i64 r'.syn, .int .i64 r'.size, .int .i64 r'.bytes, .int .i64 0]) (fun i => i = q0) Vf ∧ BoxR q0 r' (.agg #[.int .i64 r'.base, .slice tE r'.shot.length tF, .slice rE r'.recs.length rF, .int .i64 r'.syn, .int .i64 r'.size, .int .i64 r'.bytes, .int .i64 0]) Vf) := Lib.hid fun Vf hf => by
        subst hf
        exact ⟨(HS5.out.less (Q' := fun i => i = q0) fun i hi => .inl hi).set rfl storedL_chg storedL_size HWQ.out, tE, tF, rE, rF, rfl, storedL_is HBX5.out⟩
      unfold storedL at HEND
      go_wp2_with fail
      obtain ⟨hD, hB⟩ := HEND.out _ rfl
      have HDD := Lib.hid hD
      have HBB := Lib.hid hB
      clear n0 n1 n2 n3 n4 n5 n6 nf r0 s1 r2 r3 r4 r5 r6 rf HEND hD hB
      go_roundw
      case rel => exact ⟨k + 1, _, _, by go_num, by omega, HDD, HBB⟩
      case measure => simp [intOf]; omega
    · obtain rfl : k = n := by omega
      obtain ⟨S, hDK, hrise⟩ := HS.out.disks
      have HDK := Lib.hid hDK
      have HRI := Lib.hid hrise
      have hlen := hDK.2.2.1
      clear hDK hrise HS HB hbx
      go_wp2_with (first
        | (go_at_call 40; refine HDK.out.names2.mono ?_; rintro e V1 ⟨nA, nc, rfl, ho1, hb1⟩; have HO1 := Lib.hid ho1; have HB1 := Lib.hid hb1; clear ho1 hb1)
        | (go_at_call 40; refine (HDK.out.later HB1.out).names1.mono ?_; rintro e V2 ⟨mA, mc, rfl, ho2, hb2⟩; have HB2 := Lib.hid hb2; clear ho2 hb2))
      have HO2 : Hid (V2.ownsRow wr.heap.size 9 1 (.slice nA S.length nc) S.length (S.map fun f => nameV f.nm)) := Lib.hid (own_below HO1.out HB2.out)
      have hb12 := HB1.out.trans (HB2.out.mono HB1.out.size)
      have HDV := Lib.hid (HDK.out.later hb12)
      clear HO1 hb12 HDK HB1 HB2
      go_loopw [19, 20, 112] (fun _ _ t wq => ∃ j : Nat, t = .int .i64 j ∧ j ≤ S.length ∧ Hid (Below V2.heap.size V2 wq)) (fun _ _ t _ => S.length - (intOf t).toNat)
      case atStart => exact ⟨0, rfl, Nat.zero_le _, Lib.hid (Below.refl _ _)⟩
      case round =>
        obtain ⟨j, rfl, hj, HBQ⟩ := hrel
        by_cases hjn : j < S.length
        · obtain ⟨f, hf⟩ : ∃ f, S[j]? = some f := ⟨_, List.getElem?_eq_getElem hjn⟩
          have hfm := List.mem_of_getElem? hf
          obtain ⟨g, rfl, hg1, hg2, hcn⟩ := own_cell (k := j) (u := nameV f.nm) HO2.out (by rw [List.getElem?_map, hf]; rfl)
          obtain ⟨sn, hsn, hsn2⟩ : ∃ sn : ByteArray, nameV f.nm = .string sn ∧ sn.data.toList = f.nm := ⟨⟨f.nm.toArray⟩, rfl, by simp⟩
          rw [Nat.zero_add, hsn] at hcn
          have hcn' : wr.cell? ⟨g, j, none⟩ = some (.string sn) := by
            rw [HBQ.out.cell (p := ⟨g, j, none⟩) hg2]
            exact hcn
          have HRD := Lib.hid ((HDV.out.later HBQ.out).read HRI.out hfm sn hsn2)
          have HN1 : Hid (∀ W, DiskTwo w S W → Calls Tryz.prog 40 #[.pointer (some ⟨w.heap.size + 1, 0, none⟩)] W fun e W' => ∃ gA c7, e = .returned (.slice (some ⟨gA, 0, none⟩) S.length c7) ∧ S.length ≤ c7 ∧ W'.cell? ⟨gA, j, none⟩ = some (.string sn) ∧ Below W.heap.size W W') := Lib.hid fun W hW => hW.names1.mono (by
            rintro e W' ⟨A7, c7, rfl, ho7, hb7⟩
            obtain ⟨gA, rfl, _, _, hc⟩ := own_cell (k := j) (u := nameV f.nm) ho7 (by rw [List.getElem?_map, hf]; rfl)
            rw [Nat.zero_add, hsn] at hc
            exact ⟨gA, c7, rfl, ownCap ho7, hc, hb7⟩)
          have hjn' : (j : Int) < S.length := by omega
          have w1 : IntKind.i64.wrap ((j : Int) + 1) = (j : Int) + 1 := IntWalk.i64_in _ (by omega)
          clear hf hfm hcn hsn hsn2 hg1 hg2
          go_wp2_with (first
            | (go_at_call 41; refine HRD.out.mono ?_; rintro e W1 ⟨A1, c1, er1, rfl, hb1, HR2⟩; clear HRD)
            | (go_at_call 41; refine HR2.out.mono ?_; rintro e W2 ⟨A2, c2, er2, rfl, hb2, HD2, HEQ⟩; clear HR2)
            | (go_at_call 40; refine (HN1.out _ HD2.out).mono ?_; rintro e W3 ⟨gA, c7, rfl, hc7, hcell7, hb3⟩)
            | (go_at_call 27; refine (HEQ.out _ hb3).mono ?_; rintro e W4 ⟨rfl, rfl⟩))
          have hq := HBQ.out.size
          have hb4 := HBQ.out.trans ((hb2.trans (hb3.mono hb2.size)).mono hq)
          refine ⟨⟨j + 1, by simp, by omega, Lib.hid hb4⟩, ?_⟩
          simp [intOf]
          omega
        · obtain rfl : j = S.length := by omega
          have hbw := HDV.out.2.2.2.2.2.2.trans (HBQ.out.mono HDV.out.2.2.2.2.2.2.size)
          go_wp2_with (go_at_call 13; refine (HAW.out _ hbw).mono ?_; rintro e W5 ⟨rfl, hb5⟩)
          go_ret
          exact ⟨rfl, hbw.trans (hb5.mono hbw.size)⟩
end Go.Proofs.YtnomicnmpllajaaGreatDoor
end

section
namespace Go.Proofs.YtnomicnmpllajaaGreatDoor.walSame
open Go Go.ChangeShapes Go.WideShapes Go.ChangeAt Go.RowKit
set_option linter.unusedVariables false

set_option maxRecDepth 100000 in
theorem lifted (os : Os) (started : os.Started) (H : Type) (enc : TypeId × Value → H) :
    ReturnsInHanded {} Tryz.checked os 10 .any (fun w args => (Rows.walSameSpec.pre enc Tryz.prog Tryz.f10 [] false w args ∧ laidMetH Tryz.prog Rows.walSameRow.laid w) ∧ sizedMet enc Tryz.prog Tryz.f10 (OpenSpec.ofChange Rows.walSameSpec) false w args)
      (Rows.walSameSpec.post enc Tryz.prog Tryz.f10 false true false false) := by
  refine tied.handed (C := Tryz.checked) (X := fun w _ => laidMetH Tryz.prog Rows.walSameRow.laid w) (fun _ _ _ hh h => h.of_heap hh) tied.own started (by kernel_rfl) Tryz.func10
    (ChangeSpec.witness_shaped (enc := enc) (C := Tryz.checked) (os := os) (X := fun w _ => laidMetH Tryz.prog Rows.walSameRow.laid w) false (World.doorLaid Tryz.prog 400 os) #[.int .i64 0, .slice none 0 0] 8 rfl (World.shaped_of_RefB (by kernel_rfl) (by kernel_rfl)) (by kernel_rfl) (by kernel_rfl) (by kernel_rfl) (tied.door_met os _)) ?_
  intro W base args ds gs before hval0 hW _ hsz hL _
  have hval : ∀ (j : Nat) t v, Tryz.f10.params[j]? = some t → args[j]? = some v → Value.okWide Tryz.prog W .any base t v := hval0
  have hW' := hW
  obtain ⟨p, q, hA0, hV, rfl, hfz, hnd⟩ := hW
  have hA : DataW.TrodAll enc Tryz.prog W 0 (fun _ => true) true Tryz.f10.params.toList args.toList ds p := hA0
  rw [Tryz.params10] at hA hval
  obtain ⟨v0, vs0, d0, ds0, p0, q0, hargs, rfl, rfl, h0, r0⟩ := trodAll_cons hA
  obtain ⟨v1, vs1, d1, ds1, p1, q1, rfl, rfl, rfl, h1, r1⟩ := trodAll_cons r0
  obtain ⟨rfl, rfl, rfl⟩ := trodAll_nil r1
  obtain rfl : args = #[v0, v1] := by cases args; simp_all
  obtain ⟨rfl, rfl⟩ := trodVars_none hV
  obtain ⟨a0, rfl, rfl, rfl, w0⟩ := open_int Tryz.underlying3 (hval 0 3 v0 rfl rfl) h0
  have k1 := h1
  have lt1 : ∀ x ∈ p1, x.block < W.heap.size := by obtain ⟨m, hm⟩ := k1; exact DataW.trod_lt m _ _ _ hm
  have s1 : ∀ n ∈ d1.weights Tryz.prog 22, n ≤ reachBytes := fun n hn => by
    have := List.all_eq_true.1 hsz n (DataW.weights_mem_each (j := 1) (t := 22) (d := d1) rfl rfl n hn)
    simpa using this
  obtain ⟨A1, n1, c1, l1, rfl, w1⟩ : ∃ A n c l, v1 = Value.slice A n c ∧ OpsRd W W.heap.size A n c l := by
    obtain ⟨bA, bn, bc, e⟩ := okWide_slice Tryz.underlying22 (hval 1 22 v1 rfl rfl)
    subst e
    obtain ⟨fuel, hf⟩ := h1
    exact ops_in (v := .slice bA bn bc) hf s1
  clear hA0 hval0
  refine (walSame_any a0 W w1 (tied.tab_of hL)).mono fun e W' ⟨he, bel⟩ => ?_
  subst he
  exact ⟨_, rfl, _, _, _, [], _, [], hW', trodAll_mk1 (shut_bool Tryz.underlying4 _), (trodAll_cons_mk (shut_int Tryz.underlying3 w0) (trodAll_cons_mk (Below.trod tied.laidOut (by kernel_rfl) (of_decide_eq_true (by kernel_rfl)) k1 bel lt1) trodAll_mk0)), rfl, bel.frame _, fun h => by cases h⟩

theorem over : Rows.walSameRow.holds Tryz.pinned (OpenSpec.ofChange Rows.walSameSpec) :=
  OpenClaim.holds_of_wide 10 Tryz.f10 rfl rfl rfl rfl rfl rfl rfl ⟨rfl, rfl, rfl, rfl, rfl⟩ rfl rfl rfl rfl rfl (by kernel_rfl) Tryz.func10 (by kernel_rfl)
    (of_decide_eq_true (by kernel_rfl)) (by unfold Func.isWrapper; first | (rw [if_pos (by decide +kernel)]; kernel_rfl) | (rw [if_neg (by decide +kernel)]; exact ⟨rfl, rfl⟩))
    (fun os started H enc _ => lifted os started H enc)

theorem proved : Rows.WalSameCardSaid :=
  Claim7.holds_tied_plain_at .later [] _ _ _ _
    over (fun _ h => by cases h) (by kernel_rfl) (fun _ h => by cases h) walSame_row_tie rfl ⟨rfl, rfl⟩ (by kernel_rfl) rfl
    (fun f fn hf hfn => by
      obtain rfl : f = 10 := Option.some.inj ((show Tryz.prog.funcNamed "daisychain/daisychainlaw04.WalSame" = some 10 by kernel_rfl).symm.trans hf) |>.symm
      obtain rfl : fn = Tryz.f10 := (Option.some.inj (Tryz.func10.symm.trans hfn)).symm
      exact ⟨by kernel_rfl, fun j t ht => by
        rw [Tryz.params10] at ht
        have h3 : t = 3 ∨ t = 22 := by
          rcases j with _ | _ | j
          · simp at ht; simp [← ht]
          · simp at ht; simp [← ht]
          · simp at ht
        rcases h3 with rfl | rfl
        · exact (show Tryz.prog.wantsStandIn 3 = false by kernel_rfl)
        · exact (show Tryz.prog.wantsStandIn 22 = false by kernel_rfl)⟩)
    (by kernel_rfl)
end Go.Proofs.YtnomicnmpllajaaGreatDoor.walSame
end
