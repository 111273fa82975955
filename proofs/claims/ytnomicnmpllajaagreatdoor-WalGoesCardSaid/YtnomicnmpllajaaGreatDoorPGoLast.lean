/- What is proved here: 'same': a log says what the document's does. -/
/- What is proved here: where a law's loop of 'does' stands. -/
/- What is proved here: what 'WalGoes' calls. -/
/- What is proved here: 'WalGoes' returns true at all arguments. -/
/- What is proved here: for any size, calls, numbers that a crash draws and rows 'WalGoes' returns true; the variable that strconv's conversions read starts as the program's text lays it (tied). -/
import Derived.Test.YtnomicnmpllajaaGreatDoorPGo2
import Derived.Test.YtnomicnmpllajaaGreatDoorPFu20
import Derived.Test.YtnomicnmpllajaaGreatDoorPGo1
import Derived.Test.YtnomicnmpllajaaGreatDoorPFu9
import Derived.Test.YtnomicnmpllajaaGreatDoorTie
import Derived.Test.YtnomicnmpllajaaGreatDoorCards
import Derived.OpenShut
import Derived.ShutString
import Derived.Below
import Derived.SizedLaws
import Derived.Stop.Joined
import Derived.SevenTiedAt
import Derived.Deep.Matrix
section
namespace Go.Proofs.YtnomicnmpllajaaGreatDoor
open Go Go.RowKit
set_option linter.unusedVariables false

section
variable {w W V : World} {P : Nat → Prop} {lb d : Nat} {r : RefM} {v : Value}
/-- Both in one world. -/
def Both (w : World) (P : Nat → Prop) (lb d : Nat) (r : RefM) (v : Value) (W : World) : Prop := LogSt w lb d r.base r.shot r.recs W ∧ RefIs W P r v
theorem Both.later (h : Both w P lb d r v W) (hb : Below W.heap.size W V) : Both w P lb d r v V := ⟨h.1.later hb, h.2.below hb⟩
theorem both_get (h : Both w P lb d r v W) (hb : r.base ≤ 100000000) (hn : r.recs.length ≤ 1000000) (k : Int) (hk : 0 ≤ k ∧ k ≤ 200000000) (is_ : Bool) (hd : decide ((r.base : Int) < k ∧ k ≤ (r.base : Int) + r.recs.length) = is_) :
    Calls Tryz.prog 26 #[.pointer (some ⟨lb, 0, none⟩), .int .i64 k] W fun e V1 => ∃ A n c, e = .returned (.tuple #[.slice A n c, .bool is_]) ∧ Hid (Below W.heap.size W V1) ∧
      Hid (Calls Tryz.prog 50 #[v, .int .i64 k] V1 fun e V2 => ∃ A2 c2, e = .returned (.tuple #[.slice A2 n c2, .bool is_]) ∧ Hid (Below W.heap.size W V2) ∧
        Hid (Calls Tryz.prog 27 #[.slice A n c, .slice A2 n c2] V2 fun e V3 => e = .returned (.bool true) ∧ V2 = V3)) := by
  obtain ⟨h1, h2⟩ := h
  subst hd
  by_cases hin : (r.base : Int) < k ∧ k ≤ (r.base : Int) + r.recs.length
  · obtain ⟨j, rfl⟩ : ∃ j : Nat, k = (r.base : Int) + j + 1 := ⟨(k - r.base - 1).toNat, by omega⟩
    obtain ⟨xs, hxs⟩ : ∃ xs, r.recs[j]? = some xs := ⟨_, List.getElem?_eq_getElem (by omega)⟩
    refine (h1.get hxs rfl).mono ?_
    rintro e V1 ⟨A, c, rfl, hb1, hr1⟩
    rw [decide_eq_true hin]
    refine ⟨A, xs.length, c, rfl, Lib.hid hb1, Lib.hid ?_⟩
    obtain ⟨tA, tc, rA, rc, l, rfl, q1, q2, q3⟩ := h2.below hb1
    refine (RGet_any q2 (by omega) (by omega) _ (by omega)).mono ?_
    rintro e V2 ⟨hb2, ⟨hno, _⟩ | ⟨i, p, e1, e2, rfl⟩⟩
    · exact absurd hin hno
    · obtain rfl : i = j := by omega
      have hp := q2.ok p (List.mem_of_getElem? e2)
      have e3 : p.all = xs := by
        have e4 : (l.map Part.all)[i]? = some p.all := by rw [List.getElem?_map, e2]; rfl
        rw [q3, hxs] at e4
        exact (Option.some.inj e4).symm
      have hlen := hp.rd.len
      rw [e3] at hlen
      obtain ⟨pA, pn, pc, pall⟩ := p
      simp only at hlen e3
      subst hlen e3
      refine ⟨pA, pc, rfl, Lib.hid (hb1.trans (hb2.mono hb1.size)), Lib.hid ?_⟩
      refine (Equal_any A pA _ c _ pc _ _ pall pall V2 ((hr1.below hb2).more hb2.size) ((hp.rd.below hb2).more hb2.size) hp.byt hp.byt).mono ?_
      rintro e V3 ⟨rfl, rfl⟩
      exact ⟨by rw [decide_eq_true rfl], rfl⟩
  · refine (h1.get_no (by omega)).mono ?_
    rintro e V1 ⟨rfl, hb1⟩
    rw [decide_eq_false hin]
    refine ⟨none, 0, 0, rfl, Lib.hid hb1, Lib.hid ?_⟩
    obtain ⟨tA, tc, rA, rc, l, rfl, q1, q2, q3⟩ := h2.below hb1
    refine (RGet_any q2 (by omega) (by omega) _ (by omega)).mono ?_
    rintro e V2 ⟨hb2, ⟨hno, rfl⟩ | ⟨i, p, e1, e2, rfl⟩⟩
    · refine ⟨none, 0, rfl, Lib.hid (hb1.trans (hb2.mono hb1.size)), Lib.hid ?_⟩
      refine (Equal_any none none 0 0 0 0 0 0 [] [] V2 (Rd.none_ _ _ _) (Rd.none_ _ _ _) (fun x hx => by cases hx) (fun x hx => by cases hx)).mono ?_
      rintro e V3 ⟨rfl, rfl⟩
      exact ⟨by rw [decide_eq_true rfl], rfl⟩
    · have h5 := (List.getElem?_eq_some_iff.1 e2).1
      have h6 := q2.len
      omega
theorem both_shot (h : Both w P lb d r v W) : Calls Tryz.prog 39 #[.pointer (some ⟨lb, 0, none⟩)] W fun e V1 => ∃ A c, e = .returned (.slice A r.shot.length c) ∧ Hid (Below W.heap.size W V1) ∧ Hid (∀ (tA : Option Addr) (tc : Nat), Rd V1 V1.heap.size .u8 tA r.shot.length tc r.shot → (∀ x ∈ r.shot, 0 ≤ x ∧ x < 256) → Calls Tryz.prog 27 #[.slice A r.shot.length c, .slice tA r.shot.length tc] V1 fun e V3 => e = .returned (.bool true) ∧ V1 = V3) := by
  refine (h.1.shot_).mono ?_
  rintro e V1 ⟨A, c, rfl, hb, hr⟩
  refine ⟨A, c, rfl, Lib.hid hb, Lib.hid fun tA tc h1 h2 => ?_⟩
  refine (Equal_any A tA _ c _ tc _ _ r.shot r.shot V1 hr.out h1 h2 h2).mono ?_
  rintro e V3 ⟨rfl, rfl⟩
  exact ⟨by rw [decide_eq_true rfl], rfl⟩

set_option maxHeartbeats 3200000 in
set_option maxRecDepth 100000 in
theorem same_any (h : Both w P lb d r v W) (hb : r.base ≤ 100000000) (hn : r.recs.length ≤ 1000000) :
    Calls Tryz.prog 18 #[.pointer (some ⟨lb, 0, none⟩), v] W fun e V => e = .returned (.bool true) ∧ Below W.heap.size W V := by
  obtain ⟨tA, tc, rA, rc, l, rfl, q1, q2, q3⟩ := id h.2
  have HBW : Hid (Below W.heap.size W (W.alloc (.cells (bl r.base (.slice tA r.shot.length tc) (.slice rA r.recs.length rc) r.syn r.size r.bytes 0) 36))) := Lib.hid ((Below.refl _ _).alloc (Nat.le_refl _) _)
  have HB1 := Lib.hid (heap_alloc_new W (.cells (bl r.base (.slice tA r.shot.length tc) (.slice rA r.recs.length rc) r.syn r.size r.bytes 0) 36))
  obtain ⟨W0, hW0⟩ : ∃ W0, W0 = W.alloc (.cells (bl r.base (.slice tA r.shot.length tc) (.slice rA r.recs.length rc) r.syn r.size r.bytes 0) 36) := ⟨_, rfl⟩
  rw [← hW0] at HBW HB1
  have HS0 : Hid (W0.heap.size = W.heap.size + 1) := Lib.hid (by rw [hW0]; simp)
  have HH := Lib.hid (h.later HBW.out)
  have HQ := Lib.hid (q1.keep HBW.out.size fun k hk hP => ⟨HBW.out.block k hk, hP⟩)
  have HLA := Lib.hid fun V => RLast_any (base := (r.base : Int)) (vT := .slice tA r.shot.length tc) (syn := (r.syn : Int)) (size := (r.size : Int)) (bytes := (r.bytes : Int)) (here := 0) (A := rA) (n := r.recs.length) (c := rc) (by omega) (by omega) V
  unfold bl at hW0
  have HW0 := Lib.hid hW0
  unfold rlv at HH HLA ⊢
  clear h q1 q2 q3 hW0
  go_enter Tryz.func18, Tryz.ntmps18
  go_upto_region 1 with fail
  rw [← HW0.out]
  refine wp_region_G (fun w' => w'.heap[W.heap.size]? = some (.cells (bl r.base (.slice tA r.shot.length tc) (.slice rA r.recs.length rc) r.syn r.size r.bytes 0) 36 (0, 0))) 32 (by kernel_rfl) ?_
  have hS0 : W0.drew.heap[W.heap.size]? = some (.cells (bl r.base (.slice tA r.shot.length tc) (.slice rA r.recs.length rc) r.syn r.size r.bytes 0) 36 (0, 0)) := HB1.out
  have HBD : Hid (Below W0.heap.size W0 W0.drew) := Lib.hid (Below.refl _ _).drew
  refine wpAnyG_take (i := 0) (oi := _) (v := ?_) rfl (by kernel_rfl) (by kernel_rfl) (by kernel_rfl) (by kernel_rfl) (fun _ _ _ h => h) (Or.inl ⟨by rfl, ?_⟩) hS0 ?_
  rotate_left
  · (intro wS hSw; obtain ⟨c0, c1, c2, c3, c4, c5, c6, cf⟩ := bl_cells hSw; clear hSw; go_simp; try with_reducible rfl)
  try simp only [Act.put]
  refine wpAnyG_take (i := 2) (oi := _) (v := ?_) rfl (by kernel_rfl) (by kernel_rfl) (by kernel_rfl) (by kernel_rfl) (fun _ _ _ h => h) (Or.inl ⟨by rfl, ?_⟩) hS0 ?_
  rotate_left
  · (intro wS hSw; obtain ⟨c0, c1, c2, c3, c4, c5, c6, cf⟩ := bl_cells hSw; clear hSw; go_simp; try with_reducible rfl)
  try simp only [Act.put]
  refine wpAnyG_take (i := 3) (oi := _) (v := ?_) rfl (by kernel_rfl) (by kernel_rfl) (by kernel_rfl) (by kernel_rfl) (fun _ _ _ h => h) (Or.inl ⟨by rfl, ?_⟩) hS0 ?_
  rotate_left
  · (intro wS hSw; obtain ⟨c0, c1, c2, c3, c4, c5, c6, cf⟩ := bl_cells hSw; clear hSw; go_simp; try with_reducible rfl)
  try simp only [Act.put]
  refine wpAnyG_one (i := 1) (o := ⟨some 11, _, _, _, _, _⟩) (by kernel_rfl) rfl (fun K hK => ?_)
  go_simp
  refine (LogSt.base_ (HH.out.later HBD.out).1).mono ?_
  rintro e V1 ⟨rfl, rfl⟩
  refine hK.out _ _ (fun _ => hS0) ?_
  clear hK K
  try simp only [Act.put]
  refine wpAnyG_take (i := 4) (oi := _) (v := ?_) rfl (by kernel_rfl) (by kernel_rfl) (by kernel_rfl) (by kernel_rfl) (fun _ _ _ h => h) (Or.inl ⟨by rfl, ?_⟩) hS0 ?_
  rotate_left
  · (intro wS hSw; obtain ⟨c0, c1, c2, c3, c4, c5, c6, cf⟩ := bl_cells hSw; clear hSw; go_simp; try with_reducible rfl)
  try simp only [Act.put]
  refine wpAnyG_take (i := 5) (oi := _) (v := ?_) rfl (by kernel_rfl) (by kernel_rfl) (by kernel_rfl) (by kernel_rfl) (fun _ _ _ h => h) (Or.inl ⟨by rfl, ?_⟩) hS0 ?_
  rotate_left
  · (intro wS hSw; obtain ⟨c0, c1, c2, c3, c4, c5, c6, cf⟩ := bl_cells hSw; clear hSw; go_simp; try with_reducible rfl)
  try simp only [Act.put]
  refine wpAnyG_take (i := 6) (oi := _) (v := ?_) rfl (by kernel_rfl) (by kernel_rfl) (by kernel_rfl) (by kernel_rfl) (fun _ _ _ h => h) (Or.inl ⟨by rfl, ?_⟩) hS0 ?_
  rotate_left
  · (intro wS hSw; obtain ⟨c0, c1, c2, c3, c4, c5, c6, cf⟩ := bl_cells hSw; clear hSw; go_simp; try with_reducible rfl)
  try simp only [Act.put]
  refine wpAnyG_take (i := 8) (oi := _) (v := ?_) rfl (by kernel_rfl) (by kernel_rfl) (by kernel_rfl) (by kernel_rfl) (fun _ _ _ h => h) (Or.inl ⟨by rfl, ?_⟩) hS0 ?_
  rotate_left
  · (intro wS hSw; obtain ⟨c0, c1, c2, c3, c4, c5, c6, cf⟩ := bl_cells hSw; clear hSw; go_simp; try with_reducible rfl)
  try simp only [Act.put]
  refine wpAnyG_one (i := 7) (o := ⟨some 17, _, _, _, _, _⟩) (by kernel_rfl) rfl (fun K hK => ?_)
  go_simp
  refine (LogSt.last_ (HH.out.later HBD.out).1).mono ?_
  rintro e V2 ⟨rfl, q, hV2⟩
  have HB2 : Hid (Below W0.heap.size W0 V2) := Lib.hid (by rw [hV2]; exact bdrewN HBD.out q)
  have hS2 := (Chg.of_below (Φ := fun _ => False) HB2.out).heap HB1.out id
  clear hS0 hV2
  refine hK.out _ _ (fun _ => hS2) ?_
  clear hK K
  try simp only [Act.put]
  refine wpAnyG_one (i := 9) (o := ⟨some 19, _, _, _, _, _⟩) (by kernel_rfl) rfl (fun K hK => ?_)
  go_simp
  refine (HLA.out V2).mono ?_
  rintro e V3 ⟨rfl, hb3⟩
  have HB3 : Hid (Below W0.heap.size W0 V3) := Lib.hid (HB2.out.trans (hb3.mono HB2.out.size))
  have hS3 := (Chg.of_below (Φ := fun _ => False) HB3.out).heap HB1.out id
  clear hS2 hb3
  refine hK.out _ _ (fun _ => hS3) ?_
  clear hK K
  try simp only [Act.put]
  refine wpAnyG_take (i := 10) (oi := _) (v := ?_) rfl (by kernel_rfl) (by kernel_rfl) (by kernel_rfl) (by kernel_rfl) (fun _ _ _ h => h) (Or.inl ⟨by rfl, ?_⟩) hS3 ?_
  rotate_left
  · (intro wS hSw; obtain ⟨c0, c1, c2, c3, c4, c5, c6, cf⟩ := bl_cells hSw; clear hSw; go_simp; try with_reducible rfl)
  try simp only [Act.put]
  refine wpAnyG_take (i := 11) (oi := _) (v := ?_) rfl (by kernel_rfl) (by kernel_rfl) (by kernel_rfl) (by kernel_rfl) (fun _ _ _ h => h) (Or.inl ⟨by rfl, ?_⟩) hS3 ?_
  rotate_left
  · (intro wS hSw; obtain ⟨c0, c1, c2, c3, c4, c5, c6, cf⟩ := bl_cells hSw; clear hSw; go_simp; try with_reducible rfl)
  try simp only [Act.put]
  refine wpAnyG_take (i := 12) (oi := _) (v := ?_) rfl (by kernel_rfl) (by kernel_rfl) (by kernel_rfl) (by kernel_rfl) (fun _ _ _ h => h) (Or.inl ⟨by rfl, ?_⟩) hS3 ?_
  rotate_left
  · (intro wS hSw; obtain ⟨c0, c1, c2, c3, c4, c5, c6, cf⟩ := bl_cells hSw; clear hSw; go_simp; try with_reducible rfl)
  try simp only [Act.put]
  refine wpAnyG_take (i := 13) (oi := _) (v := ?_) rfl (by kernel_rfl) (by kernel_rfl) (by kernel_rfl) (by kernel_rfl) (fun _ _ _ h => h) (Or.inl ⟨by rfl, ?_⟩) hS3 ?_
  rotate_left
  · (intro wS hSw; obtain ⟨c0, c1, c2, c3, c4, c5, c6, cf⟩ := bl_cells hSw; clear hSw; go_simp; try with_reducible rfl)
  try simp only [Act.put]
  refine wpAnyG_take (i := 15) (oi := _) (v := ?_) rfl (by kernel_rfl) (by kernel_rfl) (by kernel_rfl) (by kernel_rfl) (fun _ _ _ h => h) (Or.inl ⟨by rfl, ?_⟩) hS3 ?_
  rotate_left
  · (intro wS hSw; obtain ⟨c0, c1, c2, c3, c4, c5, c6, cf⟩ := bl_cells hSw; clear hSw; go_simp; try with_reducible rfl)
  try simp only [Act.put]
  refine wpAnyG_take (i := 16) (oi := _) (v := ?_) rfl (by kernel_rfl) (by kernel_rfl) (by kernel_rfl) (by kernel_rfl) (fun _ _ _ h => h) (Or.inl ⟨by rfl, ?_⟩) hS3 ?_
  rotate_left
  · (intro wS hSw; obtain ⟨c0, c1, c2, c3, c4, c5, c6, cf⟩ := bl_cells hSw; clear hSw; go_simp; try with_reducible rfl)
  try simp only [Act.put]
  refine wpAnyG_one (i := 14) (o := ⟨some 24, _, _, _, _, _⟩) (by kernel_rfl) rfl (fun K hK => ?_)
  go_simp
  refine (both_shot (HH.out.later HB3.out)).mono ?_
  rintro e V4 ⟨A4, c4, rfl, HB4', HEQ⟩
  have HB4 : Hid (Below W0.heap.size W0 V4) := Lib.hid (HB3.out.trans (HB4'.out.mono HB3.out.size))
  have hS4 := (Chg.of_below (Φ := fun _ => False) HB4.out).heap HB1.out id
  have HE4 := Lib.hid (HEQ.out tA tc ((HQ.out.rd.below HB4.out).more HB4.out.size) HQ.out.byt)
  clear hS3 HEQ HB4'
  refine hK.out _ _ (fun _ => hS4) ?_
  clear hK K
  try simp only [Act.put]
  refine wpAnyG_one (i := 17) (o := ⟨some 27, _, _, _, _, _⟩) (by kernel_rfl) rfl (fun K hK => ?_)
  go_simp
  refine HE4.out.mono ?_
  rintro e V5 ⟨rfl, rfl⟩
  refine hK.out _ _ (fun _ => hS4) ?_
  clear hK K
  try simp only [Act.put]
  refine wpAnyG_take (i := 18) (oi := _) (v := ?_) rfl (by kernel_rfl) (by kernel_rfl) (by kernel_rfl) (by kernel_rfl) (fun _ _ _ h => h) (Or.inl ⟨by rfl, ?_⟩) hS4 ?_
  rotate_left
  · (intro wS hSw; obtain ⟨c0, c1, c2, c3, c4, c5, c6, cf⟩ := bl_cells hSw; clear hSw; go_simp; try with_reducible rfl)
  try simp only [Act.put]
  refine wpAnyG_take (i := 19) (oi := _) (v := ?_) rfl (by kernel_rfl) (by kernel_rfl) (by kernel_rfl) (by kernel_rfl) (fun _ _ _ h => h) (Or.inl ⟨by rfl, ?_⟩) hS4 ?_
  rotate_left
  · (intro wS hSw; obtain ⟨c0, c1, c2, c3, c4, c5, c6, cf⟩ := bl_cells hSw; clear hSw; go_simp; try with_reducible rfl)
  try simp only [Act.put]
  refine wpAnyG_done (by kernel_rfl) ?_ _
  obtain ⟨c0, c1, c2, c3, c4, c5, c6, cf⟩ := bl_cells hS4
  clear hS4
  try go_simp
  go_upto_region 3 with fail
  go_wp2_with fail
  go_loopw [5] (fun t wr => ∃ k : Nat, t = .int .i64 k ∧ r.base ≤ k ∧ k ≤ r.base + r.recs.length + 2 ∧ Hid (Below W0.heap.size W0 wr)) (fun t _ => r.base + r.recs.length + 2 - (intOf t).toNat)
  case atStart => exact ⟨r.base, rfl, Nat.le_refl _, by omega, HB4⟩
  case round =>
    obtain ⟨k, rfl, hk1, hk2, HBR⟩ := hrel
    clear c0 c1 c2 c3 c4 c5 c6 cf
    obtain ⟨c0, c1, c2, c3, c4, c5, c6, cf⟩ := bl_cells ((Chg.of_below (Φ := fun _ => False) HBR.out).heap HB1.out id)
    have u1 : IntKind.i64.wrap ((r.base : Int) + r.recs.length + 1) = (r.base : Int) + r.recs.length + 1 := IntWalk.i64_in _ (by omega)
    have u2 : IntKind.i64.wrap ((k : Int) + 1) = (k : Int) + 1 := IntWalk.i64_in _ (by omega)
    by_cases hkn : k ≤ r.base + r.recs.length + 1
    · have hkn' : (k : Int) ≤ (r.base : Int) + r.recs.length + 1 := by omega
      by_cases hin : (r.base : Int) < k ∧ (k : Int) ≤ (r.base : Int) + r.recs.length
      · have HG : Hid (∀ V, Below W0.heap.size W0 V → _) := Lib.hid fun V hbV => both_get (HH.out.later hbV) hb hn (k : Int) (by omega) true (decide_eq_true hin)
        clear hin
        go_wp2_with (first
          | (go_at_call 22; refine (HLA.out _).mono ?_; rintro e V1 ⟨rfl, hb1⟩; have HBV1 : Hid (Below W0.heap.size W0 V1) := Lib.hid (HBR.out.trans (hb1.mono HBR.out.size)); clear hb1)
          | (go_at_call 26; refine (HG.out V1 HBV1.out).mono ?_; rintro e V2 ⟨gA, gn, gc, rfl, HBG, HRG⟩; have HBV2 : Hid (Below W0.heap.size W0 V2) := Lib.hid (HBV1.out.trans (HBG.out.mono HBV1.out.size)); clear HBG c0 c1 c2 c3 c4 c5 c6 cf; obtain ⟨c0, c1, c2, c3, c4, c5, c6, cf⟩ := bl_cells ((Chg.of_below (Φ := fun _ => False) HBV2.out).heap HB1.out id))
          | (go_at_call 50; refine HRG.out.mono ?_; rintro e V3 ⟨gA2, gc2, rfl, HBG, HEQ⟩; have HBV3 : Hid (Below W0.heap.size W0 V3) := Lib.hid (HBV1.out.trans (HBG.out.mono HBV1.out.size)); clear HBG)
          | (go_at_call 27; refine HEQ.out.mono ?_; rintro e V4' ⟨rfl, rfl⟩))
        go_roundw
        case rel => exact ⟨k + 1, by go_num, by omega, by omega, HBV3⟩
        case measure => simp [intOf]; omega
      · have HG : Hid (∀ V, Below W0.heap.size W0 V → _) := Lib.hid fun V hbV => both_get (HH.out.later hbV) hb hn (k : Int) (by omega) false (decide_eq_false hin)
        clear hin
        go_wp2_with (first
          | (go_at_call 22; refine (HLA.out _).mono ?_; rintro e V1 ⟨rfl, hb1⟩; have HBV1 : Hid (Below W0.heap.size W0 V1) := Lib.hid (HBR.out.trans (hb1.mono HBR.out.size)); clear hb1)
          | (go_at_call 26; refine (HG.out V1 HBV1.out).mono ?_; rintro e V2 ⟨gA, gn, gc, rfl, HBG, HRG⟩; have HBV2 : Hid (Below W0.heap.size W0 V2) := Lib.hid (HBV1.out.trans (HBG.out.mono HBV1.out.size)); clear HBG c0 c1 c2 c3 c4 c5 c6 cf; obtain ⟨c0, c1, c2, c3, c4, c5, c6, cf⟩ := bl_cells ((Chg.of_below (Φ := fun _ => False) HBV2.out).heap HB1.out id))
          | (go_at_call 50; refine HRG.out.mono ?_; rintro e V3 ⟨gA2, gc2, rfl, HBG, HEQ⟩; have HBV3 : Hid (Below W0.heap.size W0 V3) := Lib.hid (HBV1.out.trans (HBG.out.mono HBV1.out.size)); clear HBG)
          | (go_at_call 27; refine HEQ.out.mono ?_; rintro e V4' ⟨rfl, rfl⟩))
        go_roundw
        case rel => exact ⟨k + 1, by go_num, by omega, by omega, HBV3⟩
        case measure => simp [intOf]; omega
    · have hkn' : ¬ (k : Int) ≤ (r.base : Int) + r.recs.length + 1 := by omega
      go_wp2_with (go_at_call 22; refine (HLA.out _).mono ?_; rintro e V1 ⟨rfl, hb1⟩; have HBV1 : Hid (Below W0.heap.size W0 V1) := Lib.hid (HBR.out.trans (hb1.mono HBR.out.size)); clear hb1)
      go_ret
      exact ⟨rfl, HBW.out.trans (HBV1.out.mono HBW.out.size)⟩
end
end Go.Proofs.YtnomicnmpllajaaGreatDoor
end

section
namespace Go.Proofs.YtnomicnmpllajaaGreatDoor
open Go Go.RowKit
set_option linter.unusedVariables false

/-- Behind k calls: the log, and the document's beside it; neither lies in the blocks of Q. -/
def DoesSt (w : World) (lb N : Nat) (l : List OpM) (k : Nat) (r : RefM) (v : Value) (Q : Nat → Prop) (W : World) : Prop :=
  ∃ F P S M G st, LF w F lb (w.heap.size + 1) 1048576 S M W ∧ LI S M G st ∧ RefIs W P r v ∧ (∀ i, W.heap.size ≤ i → P i) ∧ (∀ i, P i → ¬ F i) ∧ (∀ i, Q i → ¬ P i ∧ ¬ F i ∧ i < W.heap.size) ∧ Beside r M ∧ M.size = N ∧ M.last ≤ k ∧ usedN S ≤ weighs (l.take k) + 20 * k
section
variable {w W W' : World} {Q : Nat → Prop} {lb d N k n : Nat} {l : List OpM} {r : RefM} {v : Value} {p : OpM} {A : Option Addr} {c : Nat}
theorem LW.lf {R : Int} {S : List RF} {M : LogM} (h : LW w lb d R S M W) : LF w (fun k => w.heap.size ≤ k ∧ k < W.heap.size) lb d R S M W := by
  obtain ⟨V, h⟩ := h
  obtain ⟨Φ, Λ, h1, h2, h3, h4⟩ := h.ex
  exact ⟨⟨V, Φ, Λ, h1, h2, h3, fun k hk => ⟨(h4 k hk).1, (h4 k hk).2.2⟩⟩, h.below, fun k hk => hk⟩
theorem DoesSt.below (h : DoesSt w lb N l k r v Q W) : Below w.heap.size w W := by
  obtain ⟨F, P, S, M, G, st, h1, _⟩ := h
  exact h1.below
theorem DoesSt.later (h : DoesSt w lb N l k r v Q W) (hb : Below W.heap.size W W') : DoesSt w lb N l k r v Q W' := by
  obtain ⟨F, P, S, M, G, st, h1, h2, h3, h4, h5, h0, h6⟩ := h
  exact ⟨F, P, S, M, G, st, h1.later hb, h2, h3.below hb, fun i hi => h4 i (Nat.le_trans hb.size hi), h5, fun i hi => ⟨(h0 i hi).1, (h0 i hi).2.1, Nat.lt_of_lt_of_le (h0 i hi).2.2 hb.size⟩, h6⟩
/-- A box of the caller's own. -/
theorem DoesSt.box (h : DoesSt w lb N l k r v Q W) (o : Obj) : DoesSt w lb N l k r v (fun i => Q i ∨ i = W.heap.size) (W.alloc o) := by
  obtain ⟨F, P, S, M, G, st, h1, h2, h3, h4, h5, h0, h6⟩ := h
  have hb : Below W.heap.size W (W.alloc o) := (Below.refl _ _).alloc (Nat.le_refl _) _
  have hs : (W.alloc o).heap.size = W.heap.size + 1 := by simp
  refine ⟨F, fun i => P i ∧ i ≠ W.heap.size, S, M, G, st, h1.later hb, h2, h3.keep hb.size fun i hi hp => ⟨hb.block i hi, hp, by omega⟩, fun i hi => ⟨h4 i (by omega), by omega⟩, fun i hi => h5 i hi.1, fun i hi => ?_, h6⟩
  rcases hi with hi | rfl
  · exact ⟨fun hp => (h0 i hi).1 hp.1, (h0 i hi).2.1, by have := (h0 i hi).2.2; omega⟩
  · exact ⟨fun hp => hp.2 rfl, fun hf => by have := (h1.2.2 _ hf).2; omega, by omega⟩
/-- Such a box is written. -/
theorem DoesSt.set {b : Nat} (h : DoesSt w lb N l k r v Q W) (hb : Q b) (hc : Chg (fun i => i = b) W W') (hs : W'.heap.size = W.heap.size) (hw : w.heap.size ≤ b) : DoesSt w lb N l k r v Q W' := by
  obtain ⟨F, P, S, M, G, st, h1, h2, h3, h4, h5, h0, h6⟩ := h
  obtain ⟨q1, q2, q3⟩ := h0 b hb
  have hbl := h1.below
  exact ⟨F, P, S, M, G, st, h1.keep hc (fun i hi e => q2 (e ▸ hi)) (hbl.trans (hc.below hbl.size fun i e => by omega)), h2, h3.keep (Nat.le_of_eq hs.symm) fun i hi hp => ⟨hc.block i hi fun e => q1 (e ▸ hp), hp⟩, fun i hi => h4 i (by omega), h5, fun i hi => by rw [hs]; exact h0 i hi, h6⟩
theorem DoesSt.less {Q' : Nat → Prop} (h : DoesSt w lb N l k r v Q W) (hQ : ∀ i, Q' i → Q i) : DoesSt w lb N l k r v Q' W := by
  obtain ⟨F, P, S, M, G, st, h1, h2, h3, h4, h5, h0, h6⟩ := h
  exact ⟨F, P, S, M, G, st, h1, h2, h3, h4, h5, fun i hi => h0 i (hQ i hi), h6⟩
theorem DoesSt.new (h : LW w lb (w.heap.size + 1) 1048576 [] (newM N) W) (h1 : 16 ≤ N) (h2 : N ≤ 65536) : Calls Tryz.prog 16 #[.int .i64 N] W fun e W' => ∃ v, e = .returned v ∧ Below W.heap.size W W' ∧ Hid (DoesSt w lb N l 0 ⟨0, [], [], 0, N, 0⟩ v (fun _ => False) W') := by
  refine (RNew_is (P := fun k => ¬ (w.heap.size ≤ k ∧ k < W.heap.size)) N W).mono ?_
  rintro e W' ⟨v, rfl, hb, hr⟩
  refine ⟨v, rfl, hb, Lib.hid ⟨_, _, [], newM N, [], 1, h.lf.later hb, LI.new h1 h2, hr, fun i hi => ?_, fun i hi => hi, (fun i hi => hi.elim), newM_beside N, rfl, Nat.le_refl _, Nat.zero_le _⟩⟩
  have := hb.size
  omega
/-- 'does', in a law's loop. -/
theorem DoesSt.does (h : DoesSt w lb N l k r v Q W) (ht : Tab w) (hp : OpOk w w.heap.size p) (hl : l[k]? = some p) (hk : k < 40) (hw : weighs (l.take 41) ≤ 20000) :
    Calls Tryz.prog 17 #[.pointer (some ⟨w.heap.size + 1, 0, none⟩), .pointer (some ⟨lb, 0, none⟩), v, .agg #[.int .i64 p.kind, .int .i64 p.n, .slice p.bA p.bn p.bc]] W fun e W' => ∃ r' v', e = .returned (.tuple #[v', .bool true]) ∧ Hid (DoesSt w lb N l (k + 1) r' v' Q W') ∧ Hid (∀ i, Q i → W'.heap[i]? = W.heap[i]?) ∧ Hid (W.heap.size ≤ W'.heap.size) := by
  obtain ⟨F, P, S, M, G, st, h1, h2, h3, h4, h5, h0, h6, h7, h8, h9⟩ := h
  have hlen := hp.rb.len
  have hwk : weighs (l.take (k + 1)) = weighs (l.take k) + p.bn := by
    rw [List.take_add_one, hl]
    exact weighs_snoc _ _
  have hwm : weighs (l.take (k + 1)) ≤ weighs (l.take 41) := by
    have e : l.take 41 = l.take (k + 1) ++ (l.take 41).drop (k + 1) := by
      conv => lhs; rw [← List.take_append_drop (k + 1) (l.take 41)]
      rw [List.take_take, Nat.min_eq_left (by omega)]
    rw [e]
    unfold weighs
    rw [List.map_append, List.sum_append]
    exact Nat.le_add_right _ _
  refine (does_any h1 h2 ht h3 (h6.ok h2) h4 h5 hp (by omega) (by omega)).mono ?_
  rintro e W' ⟨v', el, S', M', rfl, hf⟩
  obtain ⟨q1, F', q2, q3, q4, q5⟩ := hf.out
  obtain ⟨G', st', q6, q7, q8, q9⟩ := log_step h2 q1 hp.byt (by omega)
  obtain ⟨q10, q11⟩ := beside_step h2 h6 q1 q6
  refine ⟨_, v', by rw [q10, beq_self_eq_true], Lib.hid ⟨F', _, S', M', G', st', q2, q6, q5, fun i hi => ⟨h4 i (Nat.le_trans q3.size hi), fun hF => ?_⟩, fun i hi => hi.2, fun i hi => ⟨fun hp => (h0 i hi).1 hp.1, fun hF => ?_, Nat.lt_of_lt_of_le (h0 i hi).2.2 q3.size⟩, q11, by rw [q9, h7], by omega, by omega⟩, Lib.hid fun i hi => q3.block i (h0 i hi).2.2 (h0 i hi).2.1, Lib.hid q3.size⟩
  · have := (q2.2.2 i hF).2
    omega
  · rcases q4 i hF with h10 | h10
    · exact (h0 i hi).2.1 h10
    · have := (h0 i hi).2.2
      omega
theorem DoesSt.both (h : DoesSt w lb N l k r v Q W) : ∃ P, Both w P lb (w.heap.size + 1) r v W ∧ r.base ≤ 100000000 ∧ r.recs.length ≤ 1000000 := by
  obtain ⟨F, P, S, M, G, st, h1, h2, h3, h4, h5, h0, h6, h7⟩ := h
  obtain ⟨Λ, h8, _⟩ := h1.lk.log
  have h9 := h6.ok h2
  exact ⟨P, ⟨⟨M, Λ, h8, h2.ok, h6.base.symm, h6.shot.symm, h6.recs.symm⟩, h3⟩, h9.base, h9.recs⟩
theorem DoesSt.same (h : DoesSt w lb N l k r v Q W) : Calls Tryz.prog 18 #[.pointer (some ⟨lb, 0, none⟩), v] W fun e V => e = .returned (.bool true) ∧ Hid (Below W.heap.size W V) := by
  obtain ⟨P, h1, h2, h3⟩ := h.both
  exact (same_any h1 h2 h3).mono fun e V h4 => ⟨h4.1, Lib.hid h4.2⟩
theorem DoesSt.synced (h : DoesSt w lb N l k r v Q W) : Calls Tryz.prog 19 #[.pointer (some ⟨lb, 0, none⟩)] W fun e V => e = .returned (.int .i64 r.syn) ∧ W = V := by
  obtain ⟨F, P, S, M, G, st, h1, h2, h3, h4, h5, h0, h6, h7⟩ := h
  obtain ⟨Λ, h8, _⟩ := h1.lk.log
  rw [h6.syn]
  exact h8.synced_
/-- The form of the document's value. -/
theorem DoesSt.form (h : DoesSt w lb N l k r v Q W) : ∃ tA tc rA rc, v = .agg #[.int .i64 r.base, .slice tA r.shot.length tc, .slice rA r.recs.length rc, .int .i64 r.syn, .int .i64 r.size, .int .i64 r.bytes, .int .i64 0] := by
  obtain ⟨F, P, S, M, G, st, h1, h2, h3, h4⟩ := h
  obtain ⟨tA, tc, rA, rc, l', hv, _⟩ := h3
  exact ⟨tA, tc, rA, rc, hv⟩
/-- The box of the document's log. -/
def BoxR (q : Nat) (r : RefM) (v : Value) (W : World) : Prop := ∃ tA tc rA rc, v = .agg #[.int .i64 r.base, .slice tA r.shot.length tc, .slice rA r.recs.length rc, .int .i64 r.syn, .int .i64 r.size, .int .i64 r.bytes, .int .i64 0] ∧ W.heap[q]? = some (.cells (bl r.base (.slice tA r.shot.length tc) (.slice rA r.recs.length rc) r.syn r.size r.bytes 0) 36 (0, 0))
end
end Go.Proofs.YtnomicnmpllajaaGreatDoor
end

section
namespace Go.Proofs.YtnomicnmpllajaaGreatDoor
open Go Go.RowKit
set_option linter.unusedVariables false

/-- Behind k calls: the log alone. -/
def GoesFx (w : World) (F : Nat → Prop) (lb N : Nat) (l : List OpM) (k : Nat) (S : List RF) (M : LogM) (G : List SegR) (st : Nat) (W : World) : Prop :=
  LF w F lb (w.heap.size + 1) 1048576 S M W ∧ LI S M G st ∧ M.size = N ∧ M.last ≤ k ∧ usedN S ≤ weighs (l.take k) + 20 * k
def GoesSt (w : World) (lb N : Nat) (l : List OpM) (k : Nat) (W : World) : Prop := ∃ F S M G st, GoesFx w F lb N l k S M G st W
/-- The records that come behind the crash. -/
def MoreSt (w : World) (lb N B : Nat) (sh : List Int) (recs : List (List Int)) (l : List Part) (s U k : Nat) (W : World) : Prop :=
  ∃ U', U' ≤ U + 406 * k ∧ LSt w (fun i => i < w.heap.size) lb (w.heap.size + 1) N B sh (recs ++ (l.take k).map Part.all) s U' W
section
variable {w W W' : World} {F : Nat → Prop} {lb lb2 N B s U k n : Nat} {l : List OpM} {S : List RF} {M : LogM} {G : List SegR} {st : Nat} {p : OpM} {A : Option Addr} {c : Nat} {sh : List Int} {recs : List (List Int)} {pl : List Part} {v : Value}
theorem GoesFx.later (h : GoesFx w F lb N l k S M G st W) (hb : Below W.heap.size W W') : GoesFx w F lb N l k S M G st W' := ⟨h.1.later hb, h.2⟩
theorem GoesFx.base_ (h : GoesFx w F lb N l k S M G st W) : Calls Tryz.prog 23 #[.pointer (some ⟨lb, 0, none⟩)] W fun e w' => e = .returned (.int .i64 M.base) ∧ W = w' := by
  obtain ⟨Λ, h1, _⟩ := h.1.lk.log
  exact h1.base_
theorem GoesFx.synced_ (h : GoesFx w F lb N l k S M G st W) : Calls Tryz.prog 19 #[.pointer (some ⟨lb, 0, none⟩)] W fun e w' => e = .returned (.int .i64 M.synced) ∧ W = w' := by
  obtain ⟨Λ, h1, _⟩ := h.1.lk.log
  exact h1.synced_
theorem GoesFx.new (h : GoesFx w F lb N l k S M G st W) : Calls Tryz.prog 16 #[.int .i64 N] W fun e W1 => ∃ tA tc rA rc, e = .returned (.agg #[.int .i64 0, .slice tA 0 tc, .slice rA 0 rc, .int .i64 0, .int .i64 N, .int .i64 0, .int .i64 0]) ∧ Below W.heap.size W W1 ∧ Hid (RefIs W1 (fun i => ¬ F i) ⟨0, [], [], 0, N, 0⟩ (.agg #[.int .i64 0, .slice tA 0 tc, .slice rA 0 rc, .int .i64 0, .int .i64 N, .int .i64 0, .int .i64 0])) := by
  refine (RNew_is (P := fun i => ¬ F i) N W).mono ?_
  rintro e W1 ⟨v, rfl, hb, hr⟩
  obtain ⟨tA, tc, rA, rc, l', hv, hx⟩ := id hr
  subst hv
  exact ⟨tA, tc, rA, rc, rfl, hb, Lib.hid hr⟩
theorem GoesFx.does (h : GoesFx w F lb N l k S M G st W) (ht : Tab w) (hr : RefIs W (fun i => ¬ F i) ⟨0, [], [], 0, N, 0⟩ v) (hp : OpOk w w.heap.size p) (hl : l[k]? = some p) (hk : k < 40) (hw : weighs (l.take 41) ≤ 20000) (x : Int) (hx : -9223372036854775808 ≤ x ∧ x ≤ 9223372036854775807) :
    Calls Tryz.prog 17 #[.pointer (some ⟨w.heap.size + 1, 0, none⟩), .pointer (some ⟨lb, 0, none⟩), v, .agg #[.int .i64 p.kind, .int .i64 x, .slice p.bA p.bn p.bc]] W fun e W' => ∃ v', e = .returned v' ∧ Hid (GoesSt w lb N l (k + 1) W') := by
  obtain ⟨h1, h2, h3, h4, h5⟩ := h
  have hlen := hp.rb.len
  have hwk : weighs (l.take (k + 1)) = weighs (l.take k) + p.bn := by
    rw [List.take_add_one, hl]
    exact weighs_snoc _ _
  have hwm : weighs (l.take (k + 1)) ≤ weighs (l.take 41) := by
    have e : l.take 41 = l.take (k + 1) ++ (l.take 41).drop (k + 1) := by
      conv => lhs; rw [← List.take_append_drop (k + 1) (l.take 41)]
      rw [List.take_take, Nat.min_eq_left (by omega)]
    rw [e]
    unfold weighs
    rw [List.map_append, List.sum_append]
    exact Nat.le_add_right _ _
  have hp' : OpOk w w.heap.size ⟨p.kind, x, p.bA, p.bn, p.bc, p.b⟩ := ⟨hp.rb, hp.byt, hp.ik, hx, hp.sb⟩
  refine (does_any (p := ⟨p.kind, x, p.bA, p.bn, p.bc, p.b⟩) h1 h2 ht hr ⟨Nat.zero_le _, Nat.zero_le _, Nat.zero_le _, Nat.zero_le _⟩ (fun i hi hF => ?_) (fun i hi => hi) hp' (by omega) (by show usedN S + (p.b.length + 20) ≤ _; omega)).mono ?_
  · have := (h1.2.2 i hF).2
    omega
  rintro e W' ⟨v', el, S', M', rfl, hf⟩
  obtain ⟨q1, F', q2, q3, q4, q5⟩ := hf.out
  obtain ⟨G', st', q6, q7, q8, q9⟩ := log_step h2 q1 hp.byt (by omega)
  have q8' : usedN S' ≤ usedN S + (p.b.length + 20) := q8
  exact ⟨_, rfl, Lib.hid ⟨F', S', M', G', st', q2, q6, by rw [q9, h3], by omega, by omega⟩⟩
theorem GoesSt.below (h : GoesSt w lb N l k W) : Below w.heap.size w W := by
  obtain ⟨F, S, M, G, st, h1, _⟩ := h
  exact h1.below
theorem GoesSt.later (h : GoesSt w lb N l k W) (hb : Below W.heap.size W W') : GoesSt w lb N l k W' := by
  obtain ⟨F, S, M, G, st, h⟩ := h
  exact ⟨F, S, M, G, st, h.later hb⟩
theorem GoesSt.crash (h : GoesSt w lb N l k W) (ht : Tab w) (hk : k ≤ 40) (hw : weighs (l.take k) ≤ 20000) {ks : List Int} (hr : Rd w w.heap.size .i64 A n c ks) (hks : ∀ z ∈ ks, -9223372036854775808 ≤ z ∧ z ≤ 9223372036854775807) :
    Calls Tryz.prog 20 #[.pointer (some ⟨w.heap.size + 1, 0, none⟩), .slice A n c] W fun e w1 => e = .returned (.tuple #[]) ∧ Hid (∃ B sh recs, B + recs.length ≤ 40 ∧
      Calls Tryz.prog 15 #[.pointer (some ⟨w.heap.size + 1, 0, none⟩), .int .i64 N] w1 fun e w2 => ∃ lb2, e = .returned (.tuple #[.pointer (some ⟨lb2, 0, none⟩), .nilIface]) ∧ Hid (∃ s, MoreSt w lb2 N B sh recs [] s 20800 0 w2)) := by
  obtain ⟨F, S, M, G, st, h1, h2, h3, h4, h5⟩ := h
  have hlst : LSt w (fun i => i < w.heap.size) lb (w.heap.size + 1) N M.base M.shot M.recs M.synced (usedN S) W := ⟨S, M, G, st, h1.lk.less (fun i hi => ⟨Nat.lt_of_lt_of_le hi h1.below.size, fun hF => by have := (h1.2.2 i hF).1; omega⟩) (fun i hi => hi), h2, h3, rfl, rfl, rfl, Nat.le_refl _, rfl⟩
  have hA : ∀ a, A = some a → 0 < n → a.block < w.heap.size := fun a e hn => by
    obtain ⟨b', o', e', hb', _⟩ := hr.cell (j := 0) hn
    rw [e] at e'
    cases e'
    exact hb'
  refine (hlst.crash ht ((hr.below h1.below).more h1.below.size) hA hks).mono ?_
  rintro e w1 ⟨rfl, _, _, q⟩
  obtain ⟨t, t1, t2, q2⟩ := q.out
  have hlast : M.base + M.recs.length ≤ k := h4
  refine ⟨rfl, Lib.hid ⟨M.base, M.shot, M.recs.take t, by rw [List.length_take]; omega, q2.mono ?_⟩⟩
  rintro e w2 ⟨lb2, rfl, q3, _⟩
  obtain ⟨U', u1, q4⟩ := q3.out
  refine ⟨lb2, rfl, Lib.hid ⟨M.base + t, U', by omega, ?_⟩⟩
  rw [List.take_nil, List.map_nil, List.append_nil]
  exact q4
theorem MoreSt.below (h : MoreSt w lb N B sh recs pl s U k W) : Below w.heap.size w W := by
  obtain ⟨U', _, h⟩ := h
  exact h.below
theorem MoreSt.later (h : MoreSt w lb N B sh recs pl s U k W) (hb : Below W.heap.size W W') : MoreSt w lb N B sh recs pl s U k W' := by
  obtain ⟨U', h1, h⟩ := h
  exact ⟨U', h1, h.later hb⟩
theorem MoreSt.begin {pl : List Part} (h : MoreSt w lb N B sh recs [] s U 0 W) : MoreSt w lb N B sh recs pl s U 0 W := by
  obtain ⟨U', h1, h⟩ := h
  exact ⟨U', h1, h⟩
theorem MoreSt.last_ (h : MoreSt w lb N B sh recs pl s U 0 W) : Calls Tryz.prog 21 #[.pointer (some ⟨lb, 0, none⟩)] W fun e w' => e = .returned (.int .i64 ((B : Int) + recs.length)) ∧ Below W.heap.size W w' := by
  obtain ⟨U', _, h⟩ := h
  refine h.log.last_.mono ?_
  rintro e w' ⟨rfl, q, rfl⟩
  rw [List.take_zero, List.map_nil, List.append_nil]
  exact ⟨rfl, bdrewN (Below.refl _ _) q⟩
theorem MoreSt.append (h : MoreSt w lb N B sh recs pl s U k W) (ht : Tab w) (hl : RdS w w.heap.size A n c pl) {p : Part} (hp : pl[k]? = some p) (hn : p.len ≤ 400) (hk : n ≤ 10) (hB : B + recs.length ≤ 40) (hU : U ≤ 20800) :
    Calls Tryz.prog 24 #[.pointer (some ⟨lb, 0, none⟩), .slice p.adr p.len p.cap] W fun e w' => e = .returned (.int .i64 0) ∧ MoreSt w lb N B sh recs pl s U (k + 1) w' := by
  have hkl := (List.getElem?_eq_some_iff.1 hp).1
  have hll := hl.len
  obtain ⟨h1, h2⟩ := hl.ok p (List.mem_of_getElem? hp)
  have h3 := h1.len
  obtain ⟨U', hU', h⟩ := h
  refine (LSt.append h ht (row_in h h1) h2 (by omega) (by rw [List.length_append, List.length_map, List.length_take]; omega) (by omega)).mono ?_
  rintro e w' ⟨rfl, h4, _⟩
  refine ⟨rfl, U' + (p.all.length + 6), by omega, ?_⟩
  rw [List.take_add_one, hp, List.map_append, ← List.append_assoc]
  exact h4
/-- What stands at the end: both logs. -/
def GoesEnd (w : World) (lb lb2 B : Nat) (sh : List Int) (recs : List (List Int)) (pl : List Part) (W : World) : Prop := LogSt w lb (w.heap.size + 1) B sh (recs ++ pl.map Part.all) W ∧ LogSt w lb2 (w.heap.size + 1) B sh (recs ++ pl.map Part.all) W
theorem MoreSt.turn (h : MoreSt w lb N B sh recs pl s U n W) (ht : Tab w) (hl : RdS w w.heap.size A n c pl) :
    Calls Tryz.prog 25 #[.pointer (some ⟨lb, 0, none⟩)] W fun e w1 => ∃ r, e = .returned r ∧
      Hid (Calls Tryz.prog 20 #[.pointer (some ⟨w.heap.size + 1, 0, none⟩), .slice none 0 0] w1 fun e w2 => e = .returned (.tuple #[]) ∧
      Hid (Calls Tryz.prog 15 #[.pointer (some ⟨w.heap.size + 1, 0, none⟩), .int .i64 N] w2 fun e w3 => ∃ lb2, e = .returned (.tuple #[.pointer (some ⟨lb2, 0, none⟩), .nilIface]) ∧ Hid (GoesEnd w lb lb2 B sh recs pl w3))) := by
  have hll := hl.len
  obtain ⟨U', _, h⟩ := h
  rw [List.take_of_length_le (by omega)] at h
  refine (h.sync ht).mono ?_
  rintro e w1 ⟨rfl, h1, _⟩
  refine ⟨_, rfl, Lib.hid ?_⟩
  refine (h1.crash ht (Rd.none_ _ _ _) (fun a e => by cases e) (fun z hz => by cases hz)).mono ?_
  rintro e w2 ⟨rfl, _, _, q⟩
  refine ⟨rfl, Lib.hid ?_⟩
  obtain ⟨t, t1, t2, q2⟩ := q.out
  refine q2.mono ?_
  rintro e w3 ⟨lb2, rfl, q3, q4, _⟩
  obtain ⟨U2, u1, q5⟩ := q3.out
  have et : t = (recs ++ pl.map Part.all).length := by omega
  rw [et, List.take_length] at q5
  exact ⟨lb2, rfl, Lib.hid ⟨q4, q5.log⟩⟩
theorem GoesEnd.below (h : GoesEnd w lb lb2 B sh recs pl W) : Below w.heap.size w W := LogSt.below h.1
theorem GoesEnd.later (h : GoesEnd w lb lb2 B sh recs pl W) (hb : Below W.heap.size W W') : GoesEnd w lb lb2 B sh recs pl W' := ⟨h.1.later hb, h.2.later hb⟩
theorem GoesEnd.last_ (h : GoesEnd w lb lb2 B sh recs pl W) (hl : pl.length = n) : Calls Tryz.prog 21 #[.pointer (some ⟨lb2, 0, none⟩)] W fun e w' => e = .returned (.int .i64 ((B : Int) + recs.length + n)) ∧ Hid (GoesEnd w lb lb2 B sh recs pl w') ∧ Below W.heap.size W w' := by
  refine (LogSt.last_ h.2).mono ?_
  rintro e w' ⟨rfl, q, rfl⟩
  refine ⟨?_, Lib.hid (h.later (bdrewN (Below.refl _ _) q)), bdrewN (Below.refl _ _) q⟩
  rw [List.length_append, List.length_map, hl]
  congr 2
  omega
theorem GoesEnd.get (h : GoesEnd w lb lb2 B sh recs pl W) {p : Part} (hp : pl[k]? = some p) (hr : p.ok w w.heap.size) {kk : Int} (hkk : kk = (B : Int) + recs.length + 1 + k) :
    Calls Tryz.prog 26 #[.pointer (some ⟨lb2, 0, none⟩), .int .i64 kk] W fun e w1 => ∃ A1 c1, e = .returned (.tuple #[.slice A1 p.len c1, .bool true]) ∧ Hid (GoesEnd w lb lb2 B sh recs pl w1) ∧ Below W.heap.size W w1 ∧
      Hid (Calls Tryz.prog 27 #[.slice p.adr p.len p.cap, .slice A1 p.len c1] w1 fun e w2 => e = .returned (.bool true) ∧ w1 = w2) := by
  obtain ⟨hr, hx⟩ := hr
  obtain ⟨pA, pn, pc, pall⟩ := p
  have hlen : pall.length = pn := hr.len
  subst hlen
  have hr : Rd w w.heap.size .u8 pA pall.length pc pall := hr
  have hx : ∀ x ∈ pall, 0 ≤ x ∧ x < 256 := hx
  have hq : (recs ++ pl.map Part.all)[recs.length + k]? = some pall := by
    rw [List.getElem?_append_right (by omega), Nat.add_sub_cancel_left, List.getElem?_map, hp]
    rfl
  refine (LogSt.get h.2 hq (k := kk) (by omega)).mono ?_
  rintro e w1 ⟨A1, c1, rfl, hb, h3⟩
  have hb0 := (LogSt.below h.1).trans (hb.mono (LogSt.below h.1).size)
  refine ⟨A1, c1, rfl, Lib.hid (h.later hb), hb, Lib.hid ?_⟩
  refine (Equal_any pA A1 _ pc _ c1 _ _ pall pall w1 (hr.below hb0) h3 hx hx).mono ?_
  rintro e w3 ⟨rfl, rfl⟩
  exact ⟨by rw [decide_eq_true rfl], rfl⟩
end
end Go.Proofs.YtnomicnmpllajaaGreatDoor
end

section
namespace Go.Proofs.YtnomicnmpllajaaGreatDoor
open Go Go.RowKit
set_option linter.unusedVariables false

set_option maxHeartbeats 3200000 in
set_option maxRecDepth 100000 in
theorem goes_any (size : Int) {A : Option Addr} {n c : Nat} {l : List OpM} {kA : Option Addr} {kn kc : Nat} {ks : List Int} {mA : Option Addr} {mn mc : Nat} {pl : List Part} (w : World) (hl : OpsRd w w.heap.size A n c l) (hks : Rd w w.heap.size .i64 kA kn kc ks) (hkb : ∀ z ∈ ks, -9223372036854775808 ≤ z ∧ z ≤ 9223372036854775807) (hpl : RdS w w.heap.size mA mn mc pl) (ht : Tab w) :
    Calls Tryz.prog 5 #[.int .i64 size, .slice A n c, .slice kA kn kc, .slice mA mn mc] w fun e w' => e = .returned (.bool true) ∧ Below w.heap.size w w' := by
  have hm1 := hl.max
  have hm2 := hl.cap
  have hm3 := hpl.max
  have hm4 := hpl.cap
  unfold maxLen at hm1 hm3
  have HFEW := Lib.hid (few_any hl)
  have HAW := Lib.hid fun (W : World) (hW : Below w.heap.size w W) => awake_any W (ht.below hW)
  by_cases hf : fewF l = false
  · rw [hf] at HFEW
    clear hpl hks hkb hf hl ht
    go_enter Tryz.func5, Tryz.ntmps5
    go_wp2_with (first
      | (go_at_call 11; refine HFEW.out.mono ?_; rintro e w0 ⟨rfl, q, rfl⟩)
      | (go_at_call 13; refine (HAW.out _ (bdrewN (Below.refl _ _) q)).mono ?_; rintro e w1 ⟨rfl, hb⟩))
    go_ret
    exact ⟨rfl, (bdrewN (Below.refl _ _) q).trans hb⟩
  have hf : fewF l = true := by simpa using hf
  by_cases hs : 16 ≤ size ∧ size ≤ 65536
  case neg =>
    have HSM := Lib.hid fun W => small_any size W
    rw [decide_eq_false hs] at HSM
    rw [hf] at HFEW
    clear hpl hks hkb hf hl ht hs
    go_enter Tryz.func5, Tryz.ntmps5
    go_wp2_with (first
      | (go_at_call 11; refine HFEW.out.mono ?_; rintro e w0 ⟨rfl, q, rfl⟩)
      | (go_at_call 12; refine (HSM.out _).mono ?_; rintro e w2 ⟨rfl, rfl⟩)
      | (go_at_call 13; refine (HAW.out _ (bdrewN (Below.refl _ _) q)).mono ?_; rintro e w1 ⟨rfl, hb⟩))
    go_ret
    exact ⟨rfl, (bdrewN (Below.refl _ _) q).trans hb⟩
  by_cases hmn : mn ≤ 10
  case neg =>
    have hmn' : (10 : Int) < mn := by omega
    have HSM := Lib.hid fun W => small_any size W
    rw [decide_eq_true hs] at HSM
    rw [hf] at HFEW
    clear hpl hks hkb hf hl ht hs hmn
    go_enter Tryz.func5, Tryz.ntmps5
    go_wp2_with (first
      | (go_at_call 11; refine HFEW.out.mono ?_; rintro e w0 ⟨rfl, q, rfl⟩)
      | (go_at_call 12; refine (HSM.out _).mono ?_; rintro e w2 ⟨rfl, rfl⟩)
      | (go_at_call 13; refine (HAW.out _ (bdrewN (Below.refl _ _) q)).mono ?_; rintro e w1 ⟨rfl, hb⟩))
    go_ret
    exact ⟨rfl, (bdrewN (Below.refl _ _) q).trans hb⟩
  have hmn' : ¬ (10 : Int) < mn := by omega
  obtain ⟨N, rfl⟩ : ∃ N : Nat, size = N := ⟨size.toNat, by omega⟩
  have HSM := Lib.hid fun W => small_any N W
  rw [decide_eq_true hs] at HSM
  rw [hf] at HFEW
  have HOP := Lib.hid fun W => open_lw W 1048576 N (by omega) (by omega)
  have HL := Lib.hid hl
  have HKS := Lib.hid hks
  have HKB := Lib.hid hkb
  have HPL := Lib.hid hpl
  have HT := Lib.hid ht
  have HS0 := Lib.hid hs
  unfold fewF at hf
  rw [Bool.and_eq_true, decide_eq_true_eq, decide_eq_true_eq, hl.len] at hf
  have HW := Lib.hid hf.2
  have hn40 := hf.1
  clear hpl hks hkb hf hl ht hs
  go_enter Tryz.func5, Tryz.ntmps5
  go_wp2_with (first
    | (go_at_call 11; refine HFEW.out.mono ?_; rintro e w0 ⟨rfl, q, rfl⟩)
    | (go_at_call 12; refine (HSM.out _).mono ?_; rintro e w2 ⟨rfl, rfl⟩)
    | (go_at_call 14; refine (HOP.out _).mono ?_; rintro e w1 ⟨rfl, HO⟩)
    | (go_at_call 15; refine HO.out.mono ?_; rintro e w2 ⟨lb, rfl, h2⟩))
  have HS : Hid (GoesSt w lb N l 0 w2) := Lib.hid ⟨_, [], newM N, [], 1, h2.rebase.lf, LI.new (by have := HS0.out; omega) (by have := HS0.out; omega), rfl, Nat.le_refl _, Nat.zero_le _⟩
  clear h2 HO HOP HSM HFEW
  go_loopw [13, 58] (fun _ t wr => ∃ k : Nat, t = .int .i64 k ∧ k ≤ n ∧ Hid (GoesSt w lb N l k wr)) (fun _ t _ => n - (intOf t).toNat)
  case atStart => exact ⟨0, rfl, Nat.zero_le _, HS⟩
  case round =>
    obtain ⟨k, rfl, hk, HS⟩ := hrel
    by_cases hkn : k < n
    · obtain ⟨p, b, o, hp, hpm, rfl, hbB, hcell, hok⟩ := HL.out.at hkn
      have hb := HS.out.below
      have cc : ∀ i u, p.vals[i]? = some u → wr.cell? ⟨b, o + k * 3 + i, none⟩ = some u := fun i u hu => by
        rw [hb.cell (p := ⟨b, o + k * 3 + i, none⟩) hbB, Nat.add_assoc]
        exact hcell i u hu
      have e0 := cc 0 _ rfl
      have e1 := cc 1 _ rfl
      have e2 := cc 2 _ rfl
      have hkn' : (k : Int) < n := by omega
      rw [Nat.add_zero] at e0
      clear hcell cc
      go_upto_region 10 with fail
      obtain ⟨F, S, M, G, st, hfx⟩ := HS.out
      have HFX := Lib.hid (hfx.later ((Below.refl wr.heap.size wr).alloc (Nat.le_refl _) (.cells #[.int .i64 p.kind, .int .i64 p.n, .slice p.bA p.bn p.bc] 39)))
      have hsy := hfx.2.1.sync
      have hma := hfx.2.1.many
      have hob := heap_alloc_new wr (.cells #[.int .i64 p.kind, .int .i64 p.n, .slice p.bA p.bn p.bc] 39)
      have HOB := Lib.hid hob
      have HOK := Lib.hid hok
      have HPK := Lib.hid hp
      have w1 : IntKind.i64.wrap ((k : Int) + 1) = (k : Int) + 1 := IntWalk.i64_in _ (by omega)
      obtain ⟨pk, pn, pbA, pbn, pbc, pb⟩ := p
      simp only at HOB
      clear hb e0 e1 e2 hp hpm hok HS hbB hfx hob
      generalize wr.alloc (.cells #[.int .i64 pk, .int .i64 pn, .slice pbA pbn pbc] 39) = W1 at *
      generalize wr.heap.size = bq at *
      refine wp_region_G (fun w' => w'.heap[bq]? = some (.cells #[.int .i64 pk, .int .i64 pn, .slice pbA pbn pbc] 39 (0, 0))) 17 (by kernel_rfl) ?_
      have hS0 : W1.drew.heap[bq]? = some (.cells #[.int .i64 pk, .int .i64 pn, .slice pbA pbn pbc] 39 (0, 0)) := HOB.out
      have HBD : Hid (Below W1.heap.size W1 W1.drew) := Lib.hid (Below.refl _ _).drew
      have HNW := Lib.hid (HFX.out.later HBD.out).new
      refine wpAnyG_takeT (i := 0) (oi := ⟨some 62, _, _, _, _, _⟩) (v := ?_) rfl (by kernel_rfl) (by kernel_rfl) (by kernel_rfl) (by kernel_rfl) (by kernel_rfl) (fun _ _ _ h => h) (Or.inl ⟨by rfl, ?_⟩) hS0 ?_
      rotate_left
      · (intro wS hSw; obtain ⟨n0, n1, n2, _⟩ := three_cells hSw; clear hSw; go_simp; try with_reducible rfl)
      try simp only [Act.put]
      refine wpAnyG_takeT (i := 1) (oi := ⟨some 63, _, _, _, _, _⟩) (v := ?_) rfl (by kernel_rfl) (by kernel_rfl) (by kernel_rfl) (by kernel_rfl) (by kernel_rfl) (fun _ _ _ h => h) (Or.inl ⟨by rfl, ?_⟩) hS0 ?_
      rotate_left
      · (intro wS hSw; obtain ⟨n0, n1, n2, _⟩ := three_cells hSw; clear hSw; go_simp; try with_reducible rfl)
      try simp only [Act.put]
      refine wpAnyG_takeT (i := 2) (oi := ⟨some 64, _, _, _, _, _⟩) (v := ?_) rfl (by kernel_rfl) (by kernel_rfl) (by kernel_rfl) (by kernel_rfl) (by kernel_rfl) (fun _ _ _ h => h) (Or.inl ⟨by rfl, ?_⟩) hS0 ?_
      rotate_left
      · (intro wS hSw; obtain ⟨n0, n1, n2, _⟩ := three_cells hSw; clear hSw; go_simp; try with_reducible rfl)
      try simp only [Act.put]
      refine wpAnyG_takeT (i := 4) (oi := ⟨some 66, _, _, _, _, _⟩) (v := ?_) rfl (by kernel_rfl) (by kernel_rfl) (by kernel_rfl) (by kernel_rfl) (by kernel_rfl) (fun _ _ _ h => h) (Or.inl ⟨by rfl, ?_⟩) hS0 ?_
      rotate_left
      · (intro wS hSw; obtain ⟨n0, n1, n2, _⟩ := three_cells hSw; clear hSw; go_simp; try with_reducible rfl)
      try simp only [Act.put]
      refine wpAnyG_takeT (i := 5) (oi := ⟨some 67, _, _, _, _, _⟩) (v := ?_) rfl (by kernel_rfl) (by kernel_rfl) (by kernel_rfl) (by kernel_rfl) (by kernel_rfl) (fun _ _ _ h => h) (Or.inl ⟨by rfl, ?_⟩) hS0 ?_
      rotate_left
      · (intro wS hSw; obtain ⟨n0, n1, n2, _⟩ := three_cells hSw; clear hSw; go_simp; try with_reducible rfl)
      try simp only [Act.put]
      refine wpAnyG_takeT (i := 6) (oi := ⟨some 68, _, _, _, _, _⟩) (v := ?_) rfl (by kernel_rfl) (by kernel_rfl) (by kernel_rfl) (by kernel_rfl) (by kernel_rfl) (fun _ _ _ h => h) (Or.inl ⟨by rfl, ?_⟩) hS0 ?_
      rotate_left
      · (intro wS hSw; obtain ⟨n0, n1, n2, _⟩ := three_cells hSw; clear hSw; go_simp; try with_reducible rfl)
      try simp only [Act.put]
      refine wpAnyG_takeT (i := 7) (oi := ⟨some 69, _, _, _, _, _⟩) (v := ?_) rfl (by kernel_rfl) (by kernel_rfl) (by kernel_rfl) (by kernel_rfl) (by kernel_rfl) (fun _ _ _ h => h) (Or.inl ⟨by rfl, ?_⟩) hS0 ?_
      rotate_left
      · (intro wS hSw; obtain ⟨n0, n1, n2, _⟩ := three_cells hSw; clear hSw; go_simp; try with_reducible rfl)
      try simp only [Act.put]
      refine wpAnyG_takeT (i := 8) (oi := ⟨some 70, _, _, _, _, _⟩) (v := ?_) rfl (by kernel_rfl) (by kernel_rfl) (by kernel_rfl) (by kernel_rfl) (by kernel_rfl) (fun _ _ _ h => h) (Or.inl ⟨by rfl, ?_⟩) hS0 ?_
      rotate_left
      · (intro wS hSw; obtain ⟨n0, n1, n2, _⟩ := three_cells hSw; clear hSw; go_simp; try with_reducible rfl)
      try simp only [Act.put]
      refine wpAnyG_takeT (i := 11) (oi := ⟨some 73, _, _, _, _, _⟩) (v := ?_) rfl (by kernel_rfl) (by kernel_rfl) (by kernel_rfl) (by kernel_rfl) (by kernel_rfl) (fun _ _ _ h => h) (Or.inl ⟨by rfl, ?_⟩) hS0 ?_
      rotate_left
      · (intro wS hSw; obtain ⟨n0, n1, n2, _⟩ := three_cells hSw; clear hSw; go_simp; try with_reducible rfl)
      try simp only [Act.put]
      refine wpAnyG_takeT (i := 14) (oi := ⟨some 76, _, _, _, _, _⟩) (v := ?_) rfl (by kernel_rfl) (by kernel_rfl) (by kernel_rfl) (by kernel_rfl) (by kernel_rfl) (fun _ _ _ h => h) (Or.inl ⟨by rfl, ?_⟩) hS0 ?_
      rotate_left
      · (intro wS hSw; obtain ⟨n0, n1, n2, _⟩ := three_cells hSw; clear hSw; go_simp; try with_reducible rfl)
      try simp only [Act.put]
      refine wpAnyG_takeT (i := 15) (oi := ⟨some 77, _, _, _, _, _⟩) (v := ?_) rfl (by kernel_rfl) (by kernel_rfl) (by kernel_rfl) (by kernel_rfl) (by kernel_rfl) (fun _ _ _ h => h) (Or.inl ⟨by rfl, ?_⟩) hS0 ?_
      rotate_left
      · (intro wS hSw; obtain ⟨n0, n1, n2, _⟩ := three_cells hSw; clear hSw; go_simp; try with_reducible rfl)
      try simp only [Act.put]
      refine wpAnyG_one (i := 3) (o := ⟨some 65, _, _, _, _, _⟩) (by kernel_rfl) rfl (fun K hK => ?_)
      go_simp
      refine HNW.out.mono ?_
      rintro e V2 ⟨tA, tc, rA, rc, rfl, hb2, HR2⟩
      have HFX2 := Lib.hid (HFX.out.later (HBD.out.trans hb2))
      have hS2 := (Chg.of_below (Φ := fun _ => False) hb2).heap hS0 id
      have HDO : Hid (∀ x : Int, (-9223372036854775808 ≤ x ∧ x ≤ 9223372036854775807) → _) := Lib.hid fun x hx => HFX2.out.does HT.out HR2.out HOK.out HPK.out (by omega) HW.out x hx
      clear hS0 hb2 HNW
      refine hK.out _ _ (fun _ => hS2) ?_
      clear hK K
      try simp only [Act.put]
      refine wpAnyG_one (i := 9) (o := ⟨some 71, _, _, _, _, _⟩) (by kernel_rfl) rfl (fun K hK => ?_)
      go_simp
      refine HFX2.out.base_.mono ?_
      rintro e V3 ⟨rfl, rfl⟩
      refine hK.out _ _ (fun _ => hS2) ?_
      clear hK K
      try simp only [Act.put]
      refine wpAnyG_takeT (i := 10) (oi := ⟨some 72, _, _, _, _, _⟩) (v := ?_) rfl (by kernel_rfl) (by kernel_rfl) (by kernel_rfl) (by kernel_rfl) (by kernel_rfl) (fun _ _ _ h => h) (Or.inl ⟨by rfl, ?_⟩) hS2 ?_
      rotate_left
      · (intro wS hSw; obtain ⟨n0, n1, n2, _⟩ := three_cells hSw; clear hSw; go_simp; try with_reducible rfl)
      try simp only [Act.put]
      refine wpAnyG_one (i := 12) (o := ⟨some 74, _, _, _, _, _⟩) (by kernel_rfl) rfl (fun K hK => ?_)
      go_simp
      refine HFX2.out.synced_.mono ?_
      rintro e V4 ⟨rfl, rfl⟩
      refine hK.out _ _ (fun _ => hS2) ?_
      clear hK K
      try simp only [Act.put]
      refine wpAnyG_one (i := 13) (o := ⟨some 75, _, _, _, _, _⟩) (by kernel_rfl) rfl (fun K hK => ?_)
      go_simp
      refine hK.out _ _ (fun _ => hS2) ?_
      clear hK K
      try simp only [Act.put]
      refine wpAnyG_one (i := 16) (o := ⟨some 78, _, _, _, _, _⟩) (by kernel_rfl) rfl (fun K hK => ?_)
      go_simp
      refine hK.out _ _ (fun _ => hS2) ?_
      clear hK K
      try simp only [Act.put]
      refine wpAnyG_one (i := 17) (o := ⟨some 79, _, _, _, _, _⟩) (by kernel_rfl) rfl (fun K hK => ?_)
      go_simp
      refine (HDO.out _ (by omega)).mono ?_
      rintro e V5 ⟨v5, rfl, HS5⟩
      refine hK.out _ _ (fun h => absurd h (by decide)) ?_
      clear hK K
      try simp only [Act.put]
      refine wpAnyG_done (by kernel_rfl) ?_ _
      try go_simp
      go_wp2_with fail
      go_roundw
      case rel => exact ⟨k + 1, by go_num, by omega, HS5⟩
      case measure => simp [intOf]; omega
    · obtain rfl : k = n := by omega
      have hwk : weighs (l.take k) ≤ 20000 := by
        have hlen := HL.out.len
        have h1 := HW.out
        rw [List.take_of_length_le (by omega)] at h1 ⊢
        exact h1
      have HCRS := Lib.hid (HS.out.crash HT.out (by omega) hwk HKS.out HKB.out)
      clear HS hwk
      go_wp2_with (first
        | (go_at_call 20; refine HCRS.out.mono ?_; rintro e V1 ⟨rfl, HT1⟩; obtain ⟨B, sh, recs, hB, hop⟩ := HT1.out; have HOPN := Lib.hid hop; clear HCRS HT1 hop)
        | (go_at_call 15; refine HOPN.out.mono ?_; rintro e V2 ⟨lb2, rfl, HMS⟩; obtain ⟨s, hms⟩ := HMS.out; have HM0 := Lib.hid (hms.begin (pl := pl)); clear hms HMS HOPN)
        | (go_at_call 21; refine HM0.out.last_.mono ?_; rintro e V3 ⟨rfl, hb3⟩; have HM1 := Lib.hid (HM0.out.later hb3); clear HM0 hb3))
      go_loopw [18, 100] (fun _ t wr => ∃ j : Nat, t = .int .i64 j ∧ j ≤ mn ∧ Hid (MoreSt w lb2 N B sh recs pl s 20800 j wr)) (fun _ t _ => mn - (intOf t).toNat)
      case atStart => exact ⟨0, rfl, Nat.zero_le _, HM1⟩
      case round =>
        obtain ⟨j, rfl, hj, HM⟩ := hrel
        clear HM1
        by_cases hjn : j < mn
        · obtain ⟨p, b, o, hp, hpm, rfl, hbB, hcell⟩ := HPL.out.at hjn
          have hb := HM.out.below
          have e0 : wr.cell? ⟨b, o + j, none⟩ = some (.slice p.adr p.len p.cap) := (hb.cell (p := ⟨b, o + j, none⟩) hbB).trans hcell
          have hjn' : (j : Int) < mn := by omega
          have w1 : IntKind.i64.wrap ((j : Int) + 1) = (j : Int) + 1 := IntWalk.i64_in _ (by omega)
          have hpx := (HPL.out.ok p hpm).1.max
          have hpy := (HPL.out.ok p hpm).1.cap
          unfold maxLen at hpx
          by_cases hpl' : p.len ≤ 400
          · have HAP := Lib.hid (HM.out.append HT.out HPL.out hp hpl' hmn hB (Nat.le_refl _))
            have hplx : ¬ (400 : Int) < p.len := by omega
            obtain ⟨pA, pn, pc, pall⟩ := p
            simp only at e0 HAP hplx hpx hpy
            clear hb hcell hp hpm HM hpl'
            go_wp2_with (go_at_call 24; refine HAP.out.mono ?_; rintro e w3 ⟨rfl, h3⟩; have HM3 := Lib.hid h3; clear h3)
            go_roundw
            case rel => exact ⟨j + 1, by go_num, by omega, HM3⟩
            case measure => simp [intOf]; omega
          · have hplx : (400 : Int) < p.len := by omega
            have HB := Lib.hid hb
            obtain ⟨pA, pn, pc, pall⟩ := p
            simp only at e0 hplx hpx hpy
            clear hb hcell hp hpm HM hpl'
            go_wp2_with (go_at_call 13; refine (HAW.out _ HB.out).mono ?_; rintro e w1 ⟨rfl, hb⟩)
            go_ret
            exact ⟨rfl, HB.out.trans (hb.mono HB.out.size)⟩
        · obtain rfl : j = mn := by omega
          have HTU := Lib.hid (HM.out.turn HT.out HPL.out)
          have HPN := Lib.hid HPL.out.len
          have u1 : IntKind.i64.wrap ((B : Int) + recs.length + j) = (B : Int) + recs.length + j := IntWalk.i64_in _ (by omega)
          clear HM
          go_wp2_with (first
            | (go_at_call 25; refine HTU.out.mono ?_; rintro e V4 ⟨r4, rfl, HC⟩; clear HTU)
            | (go_at_call 20; refine HC.out.mono ?_; rintro e V5 ⟨rfl, HO⟩; clear HC)
            | (go_at_call 15; refine HO.out.mono ?_; rintro e V6 ⟨lb3, rfl, HZ⟩; clear HO)
            | (go_at_call 21; refine (HZ.out.last_ HPN.out).mono ?_; rintro e V7 ⟨rfl, HZ7, hb7⟩; have HB2 := Lib.hid (LogSt.base_ HZ7.out.2); have HB1 := Lib.hid (LogSt.base_ HZ7.out.1); clear hb7 HZ)
            | (go_at_call 23; refine HB2.out.mono ?_; rintro e V8 ⟨rfl, rfl⟩; clear HB2)
            | (go_at_call 23; refine HB1.out.mono ?_; rintro e V9 ⟨rfl, rfl⟩; clear HB1))
          go_loopw [21, 22, 147] (fun _ _ t wr => ∃ i : Nat, t = .int .i64 i ∧ i ≤ j ∧ Hid (GoesEnd w lb2 lb3 B sh recs pl wr)) (fun _ _ t _ => j - (intOf t).toNat)
          case atStart => exact ⟨0, rfl, Nat.zero_le _, HZ7⟩
          case round =>
            obtain ⟨i, rfl, hi, HE⟩ := hrel
            clear HZ7
            by_cases hin : i < j
            · obtain ⟨p, b, o, hp, hpm, rfl, hbB, hcell⟩ := HPL.out.at hin
              have hb := HE.out.below
              have e0 : wr.cell? ⟨b, o + i, none⟩ = some (.slice p.adr p.len p.cap) := (hb.cell (p := ⟨b, o + i, none⟩) hbB).trans hcell
              have hin' : (i : Int) < j := by omega
              have w1 : IntKind.i64.wrap ((i : Int) + 1) = (i : Int) + 1 := IntWalk.i64_in _ (by omega)
              have w2 : IntKind.i64.wrap ((B : Int) + recs.length + 1) = (B : Int) + recs.length + 1 := IntWalk.i64_in _ (by omega)
              have w3 : IntKind.i64.wrap ((B : Int) + recs.length + 1 + i) = (B : Int) + recs.length + 1 + i := IntWalk.i64_in _ (by omega)
              have hpx := (HPL.out.ok p hpm).1.max
              have hpy := (HPL.out.ok p hpm).1.cap
              unfold maxLen at hpx
              have HGE := Lib.hid (HE.out.get hp (HPL.out.ok p hpm) (kk := (B : Int) + recs.length + 1 + i) rfl)
              obtain ⟨pA, pn, pc, pall⟩ := p
              simp only at e0 HGE hpx hpy
              clear hb hcell hp hpm HE
              go_wp2_with (first
                | (go_at_call 26; refine HGE.out.mono ?_; rintro e w10 ⟨A1, c1, rfl, HZ2, hb10, HEQ⟩; clear hb10 HGE)
                | (go_at_call 27; refine HEQ.out.mono ?_; rintro e w11 ⟨rfl, rfl⟩; clear HEQ))
              go_roundw
              case rel => exact ⟨i + 1, by go_num, by omega, HZ2⟩
              case measure => simp [intOf]; omega
            · obtain rfl : i = j := by omega
              have HBE := Lib.hid HE.out.below
              clear HE
              go_wp2_with (go_at_call 13; refine (HAW.out _ HBE.out).mono ?_; rintro e w9 ⟨rfl, hb9⟩)
              go_ret
              exact ⟨rfl, HBE.out.trans (hb9.mono HBE.out.size)⟩
end Go.Proofs.YtnomicnmpllajaaGreatDoor
end

section
namespace Go.Proofs.YtnomicnmpllajaaGreatDoor.walGoes
open Go Go.ChangeShapes Go.WideShapes Go.ChangeAt Go.RowKit
set_option linter.unusedVariables false

theorem int_wf {n : Int} (h : (Lit.int .i64 n).wf = true) : -9223372036854775808 ≤ n ∧ n ≤ 9223372036854775807 := by
  have e1 : IntKind.i64.min = -9223372036854775808 := by decide
  have e2 : IntKind.i64.max = 9223372036854775807 := by decide
  simp [Lit.wf] at h
  exact ⟨by omega, by omega⟩

set_option maxRecDepth 100000 in
theorem lifted (os : Os) (started : os.Started) (H : Type) (enc : TypeId × Value → H) :
    ReturnsInHanded {} Tryz.checked os 5 .any (fun w args => (Rows.walGoesSpec.pre enc Tryz.prog Tryz.f5 [] false w args ∧ laidMetH Tryz.prog Rows.walGoesRow.laid w) ∧ sizedMet enc Tryz.prog Tryz.f5 (OpenSpec.ofChange Rows.walGoesSpec) false w args)
      (Rows.walGoesSpec.post enc Tryz.prog Tryz.f5 false true false false) := by
  refine tied.handed (C := Tryz.checked) (X := fun w _ => laidMetH Tryz.prog Rows.walGoesRow.laid w) (fun _ _ _ hh h => h.of_heap hh) tied.own started (by kernel_rfl) Tryz.func5
    (ChangeSpec.witness_shaped (enc := enc) (C := Tryz.checked) (os := os) (X := fun w _ => laidMetH Tryz.prog Rows.walGoesRow.laid w) false (World.doorLaid Tryz.prog 400 os) #[.int .i64 0, .slice none 0 0, .slice none 0 0, .slice none 0 0] 8 rfl (World.shaped_of_RefB (by kernel_rfl) (by kernel_rfl)) (by kernel_rfl) (by kernel_rfl) (by kernel_rfl) (tied.door_met os _)) ?_
  intro W base args ds gs before hval0 hW _ hsz hL _
  have hval : ∀ (j : Nat) t v, Tryz.f5.params[j]? = some t → args[j]? = some v → Value.okWide Tryz.prog W .any base t v := hval0
  have hW' := hW
  obtain ⟨p, q, hA0, hV, rfl, hfz, hnd⟩ := hW
  have hA : DataW.TrodAll enc Tryz.prog W 0 (fun _ => true) true Tryz.f5.params.toList args.toList ds p := hA0
  rw [Tryz.params5] at hA hval
  obtain ⟨v0, vs0, d0, ds0, p0, q0, hargs, rfl, rfl, h0, r0⟩ := trodAll_cons hA
  obtain ⟨v1, vs1, d1, ds1, p1, q1, rfl, rfl, rfl, h1, r1⟩ := trodAll_cons r0
  obtain ⟨v2, vs2, d2, ds2, p2, q2, rfl, rfl, rfl, h2, r2⟩ := trodAll_cons r1
  obtain ⟨v3, vs3, d3, ds3, p3, q3, rfl, rfl, rfl, h3, r3⟩ := trodAll_cons r2
  obtain ⟨rfl, rfl, rfl⟩ := trodAll_nil r3
  obtain rfl : args = #[v0, v1, v2, v3] := by cases args; simp_all
  obtain ⟨rfl, rfl⟩ := trodVars_none hV
  obtain ⟨a0, rfl, rfl, rfl, w0⟩ := open_int Tryz.underlying3 (hval 0 3 v0 rfl rfl) h0
  have k1 := h1
  have lt1 : ∀ x ∈ p1, x.block < W.heap.size := by obtain ⟨m, hm⟩ := k1; exact DataW.trod_lt m _ _ _ hm
  have s1 : ∀ n ∈ d1.weights Tryz.prog 22, n ≤ reachBytes := fun n hn => by
    have := List.all_eq_true.1 hsz n (DataW.weights_mem_each (j := 1) (t := 22) (d := d1) rfl rfl n hn)
    simpa using this
  obtain ⟨A1, n1, c1, l1, rfl, w1⟩ : ∃ A n c l, v1 = Value.slice A n c ∧ OpsRd W W.heap.size A n c l := by
    obtain ⟨bA, bn, bc, e⟩ := okWide_slice Tryz.underlying22 (hval 1 22 v1 rfl rfl)
    subst e
    obtain ⟨fuel, hf⟩ := h1
    exact ops_in (v := .slice bA bn bc) hf s1
  have k2 := h2
  have lt2 : ∀ x ∈ p2, x.block < W.heap.size := by obtain ⟨m, hm⟩ := k2; exact DataW.trod_lt m _ _ _ hm
  have s2 : ∀ n ∈ d2.weights Tryz.prog 45, n ≤ reachBytes := fun n hn => by
    have := List.all_eq_true.1 hsz n (DataW.weights_mem_each (j := 2) (t := 45) (d := d2) rfl rfl n hn)
    simpa using this
  obtain ⟨A2, n2, c2, z2, rfl, w2, b2⟩ : ∃ A n c z, v2 = Value.slice A n c ∧ Rd W W.heap.size .i64 A n c z ∧ ∀ x ∈ z, -9223372036854775808 ≤ x ∧ x ≤ 9223372036854775807 := by
    obtain ⟨bA, bn, bc, e⟩ := okWide_slice Tryz.underlying45 (hval 2 45 v2 rfl rfl)
    subst e
    obtain ⟨fuel, hf⟩ := h2
    obtain ⟨A, n, c, zs, e, h1, h2, _⟩ := ints_in (v := .slice bA bn bc) (bytes := 8) Tryz.underlying45 Tryz.underlying3 (by kernel_rfl) (by kernel_rfl) (by decide) hf s2
    exact ⟨A, n, c, zs, e, h1, fun x hx => int_wf (h2 x hx)⟩
  have k3 := h3
  have lt3 : ∀ x ∈ p3, x.block < W.heap.size := by obtain ⟨m, hm⟩ := k3; exact DataW.trod_lt m _ _ _ hm
  have s3 : ∀ n ∈ d3.weights Tryz.prog 34, n ≤ reachBytes := fun n hn => by
    have := List.all_eq_true.1 hsz n (DataW.weights_mem_each (j := 3) (t := 34) (d := d3) rfl rfl n hn)
    simpa using this
  obtain ⟨A3, n3, c3, rfl⟩ := okWide_slice Tryz.underlying34 (hval 3 34 v3 rfl rfl)
  obtain ⟨l3, w3⟩ : ∃ l, RdS W W.heap.size A3 n3 c3 l := by
    refine RdS.of_rows ?_
    obtain ⟨fuel, hf⟩ := h3
    rcases Go.Deep.open_int_rows Tryz.underlying34 Tryz.underlying33 Tryz.underlying5 (by kernel_rfl) (by kernel_rfl) hf with ⟨hcs, _⟩ | ⟨x, l, c, A, L, C, Z, hcs, _, hl, hm, _, hall⟩
    · simp [Value.cells] at hcs
      obtain ⟨rfl, rfl, rfl⟩ := hcs
      exact .inl ⟨rfl, rfl, rfl⟩
    · simp [Value.cells] at hcs
      obtain ⟨rfl, rfl, rfl⟩ := hcs
      refine .inr ⟨_, A, L, C, Z, rfl, hl, hm, fun r hr => ?_⟩
      obtain ⟨q1, q2, q3, q4, q5, q6, q7⟩ := hall r hr
      exact ⟨q1, q2, q3, q4, q5, q6, fun a' ha c hc => (q7 a' ha).2 c hc⟩
  clear hA0 hval0
  refine (goes_any a0 W w1 w2 b2 w3 (tied.tab_of hL)).mono fun e W' ⟨he, bel⟩ => ?_
  subst he
  exact ⟨_, rfl, _, _, _, [], _, [], hW', trodAll_mk1 (shut_bool Tryz.underlying4 _), (trodAll_cons_mk (shut_int Tryz.underlying3 w0) (trodAll_cons_mk (Below.trod tied.laidOut (by kernel_rfl) (of_decide_eq_true (by kernel_rfl)) k1 bel lt1) (trodAll_cons_mk (Below.trod tied.laidOut (by kernel_rfl) (of_decide_eq_true (by kernel_rfl)) k2 bel lt2) (trodAll_cons_mk (Below.trod tied.laidOut (by kernel_rfl) (of_decide_eq_true (by kernel_rfl)) k3 bel lt3) trodAll_mk0)))), rfl, bel.frame _, fun h => by cases h⟩

theorem over : Rows.walGoesRow.holds Tryz.pinned (OpenSpec.ofChange Rows.walGoesSpec) :=
  OpenClaim.holds_of_wide 5 Tryz.f5 rfl rfl rfl rfl rfl rfl rfl ⟨rfl, rfl, rfl, rfl, rfl⟩ rfl rfl rfl rfl rfl (by kernel_rfl) Tryz.func5 (by kernel_rfl)
    (of_decide_eq_true (by kernel_rfl)) (by unfold Func.isWrapper; first | (rw [if_pos (by decide +kernel)]; kernel_rfl) | (rw [if_neg (by decide +kernel)]; exact ⟨rfl, rfl⟩))
    (fun os started H enc _ => lifted os started H enc)

theorem proved : Rows.WalGoesCardSaid :=
  Claim7.holds_tied_plain_at .later [] _ _ _ _
    over (fun _ h => by cases h) (by kernel_rfl) (fun _ h => by cases h) walGoes_row_tie rfl ⟨rfl, rfl⟩ (by kernel_rfl) rfl
    (fun f fn hf hfn => by
      obtain rfl : f = 5 := Option.some.inj ((show Tryz.prog.funcNamed "daisychain/daisychainlaw04.WalGoes" = some 5 by kernel_rfl).symm.trans hf) |>.symm
      obtain rfl : fn = Tryz.f5 := (Option.some.inj (Tryz.func5.symm.trans hfn)).symm
      exact ⟨by kernel_rfl, fun j t ht => by
        rw [Tryz.params5] at ht
        have h3 : t = 3 ∨ t = 22 ∨ t = 45 ∨ t = 34 := by
          rcases j with _ | _ | _ | _ | j
          · simp at ht; simp [← ht]
          · simp at ht; simp [← ht]
          · simp at ht; simp [← ht]
          · simp at ht; simp [← ht]
          · simp at ht
        rcases h3 with rfl | rfl | rfl | rfl
        · exact (show Tryz.prog.wantsStandIn 3 = false by kernel_rfl)
        · exact (show Tryz.prog.wantsStandIn 22 = false by kernel_rfl)
        · exact (show Tryz.prog.wantsStandIn 45 = false by kernel_rfl)
        · exact (show Tryz.prog.wantsStandIn 34 = false by kernel_rfl)⟩)
    (by kernel_rfl)
end Go.Proofs.YtnomicnmpllajaaGreatDoor.walGoes
end
