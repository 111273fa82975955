/- What is proved here: what a reader's inner functions for a length, a text and a list return, whatever the memory. Slices of at most a million elements. -/
import Derived.Test.YtkdncnhjlgidnaaGreatDoorRead
namespace Go.Proofs.YtkdncnhjlgidnaaGreatDoor
open Go Go.RowKit

section
variable (A : Option Addr) (n c B : Nat) (xs : List Int) (p : Nat) (w : World) (h : Rd w B .u8 A n c xs) (hB : B ≤ w.heap.size) (hx : ∀ x ∈ xs, 0 ≤ x ∧ x < 256) (hn : n ≤ 1000000) (hp : p ≤ n)
include h hB hx hn hp

set_option maxHeartbeats 400000 in
set_option maxRecDepth 100000 in
theorem size_ok (most : Int) (v u : Nat) (hN : numF 9 0 0 (xs.drop p) = (v, u, 0)) (hm : (v : Int) ≤ most) :
    Calls Tryz.prog 69 #[.agg #[.slice A n c, .int .i64 p], .int .i64 most] w fun e w' =>
      e = .returned (.tuple #[.int .i64 v, .agg #[.slice A n c, .int .i64 ((p : Int) + u)], .int .i64 0]) ∧ Below w.heap.size w w' := by
  have HN := Lib.hid (fun W h hB => num_ok A n c B xs p W h hB hx hn hp v u hN)
  clear hN hx
  go_enter Tryz.func69, Tryz.ntmps69
  go_wp2_with (go_at_call 41; refine (HN.out _ ((h.alloc hB _).alloc (by simp; omega) _) (by simp; omega)).mono ?_; rintro e w1 ⟨rfl, hb⟩
               obtain ⟨hk1, hk2, hb1⟩ := two_blocks hb
               clear hb
               have c0 := hk1.cell 0
               have c1 := hk1.cell 1
               have f0 := hk1.free 0
               have f1 := hk1.free 1
               have d0 := hk2.cell 0
               have d1 := hk2.cell 1
               have g0 := hk2.free 0
               have g1 := hk2.free 1
               simp at c0 c1 d0 d1)
  have hk3 := (hk1.set 0 (Value.slice A n c)).set 1 (Value.int IntKind.i64 (↑p + ↑u))
  have hk4 := (hk2.other (p := ⟨w.heap.size, 0, none⟩) (by simp) (Value.slice A n c)).other (p := ⟨w.heap.size, 1, none⟩) (by simp) (Value.int IntKind.i64 (↑p + ↑u))
  have hb3 : Below w.heap.size w ((w1.setCell ⟨w.heap.size, 0, none⟩ (Value.slice A n c)).setCell ⟨w.heap.size, 1, none⟩ (Value.int IntKind.i64 (↑p + ↑u))) := (hb1.setCell (Nat.le_refl _) _).setCell (Nat.le_refl _) _
  generalize (w1.setCell ⟨w.heap.size, 0, none⟩ (Value.slice A n c)).setCell ⟨w.heap.size, 1, none⟩ (Value.int IntKind.i64 (↑p + ↑u)) = w2 at *
  clear c0 c1 f0 f1 d0 d1 g0 g1
  have c0 := hk3.cell 0
  have c1 := hk3.cell 1
  have f0 := hk3.free 0
  have f1 := hk3.free 1
  have d0 := hk4.cell 0
  have d1 := hk4.cell 1
  have g0 := hk4.free 0
  have g1 := hk4.free 1
  simp at c0 c1 d0 d1
  go_region
  have hk7 := (hk4.set 0 (Value.slice A n c)).set 1 (Value.int IntKind.i64 (↑p + ↑u))
  have r0 := hk7.cell 0
  have r1 := hk7.cell 1
  simp at r0 r1
  clear c0 c1 f0 f1 d0 d1 g0 g1
  go_wp2
  refine bodyPost_ret (v := .tuple #[.int .i64 v, .agg #[Value.slice A n c, .int .i64 (↑p + ↑u)], .int .i64 0]) (by simp [results, Tryz.results69, go_sem, r0, r1]) rfl ?_
  exact ⟨rfl, (((hb3.setCell (by simp) _).setCell (by simp) _).drew)⟩
set_option maxHeartbeats 400000 in
set_option maxRecDepth 100000 in
theorem size_no (most : Int) (er : Nat) (hN : numF 9 0 0 (xs.drop p) = (0, 0, er)) (he : er = 2 ∨ er = 3) :
    Calls Tryz.prog 69 #[.agg #[.slice A n c, .int .i64 p], .int .i64 most] w fun e w' =>
      ∃ q : Int, e = .returned (.tuple #[.int .i64 0, .agg #[.slice A n c, .int .i64 q], .int .i64 er]) ∧ Below w.heap.size w w' := by
  have HN := Lib.hid (fun W h hB => num_no A n c B xs p W h hB hx hn hp er hN)
  clear hN hx
  rcases he with rfl | rfl
  · go_enter Tryz.func69, Tryz.ntmps69
    go_wp2_with (go_at_call 41; refine (HN.out _ ((h.alloc hB _).alloc (by simp; omega) _) (by simp; omega)).mono ?_; rintro e w1 ⟨q, rfl, hb⟩
                 obtain ⟨hk1, hk2, hb1⟩ := two_blocks hb
                 clear hb
                 have c0 := hk1.cell 0
                 have c1 := hk1.cell 1
                 have f0 := hk1.free 0
                 have f1 := hk1.free 1
                 have d0 := hk2.cell 0
                 have d1 := hk2.cell 1
                 have g0 := hk2.free 0
                 have g1 := hk2.free 1
                 simp at c0 c1 d0 d1)
    have hk3 := (hk1.set 0 (Value.slice A n c)).set 1 (Value.int IntKind.i64 (q))
    have hk4 := (hk2.other (p := ⟨w.heap.size, 0, none⟩) (by simp) (Value.slice A n c)).other (p := ⟨w.heap.size, 1, none⟩) (by simp) (Value.int IntKind.i64 (q))
    have hb3 : Below w.heap.size w ((w1.setCell ⟨w.heap.size, 0, none⟩ (Value.slice A n c)).setCell ⟨w.heap.size, 1, none⟩ (Value.int IntKind.i64 (q))) := (hb1.setCell (Nat.le_refl _) _).setCell (Nat.le_refl _) _
    generalize (w1.setCell ⟨w.heap.size, 0, none⟩ (Value.slice A n c)).setCell ⟨w.heap.size, 1, none⟩ (Value.int IntKind.i64 (q)) = w2 at *
    clear c0 c1 f0 f1 d0 d1 g0 g1
    have c0 := hk3.cell 0
    have c1 := hk3.cell 1
    have f0 := hk3.free 0
    have f1 := hk3.free 1
    have d0 := hk4.cell 0
    have d1 := hk4.cell 1
    have g0 := hk4.free 0
    have g1 := hk4.free 1
    simp at c0 c1 d0 d1
    go_region
    have hk7 := (hk4.set 0 (Value.slice A n c)).set 1 (Value.int IntKind.i64 (q))
    have r0 := hk7.cell 0
    have r1 := hk7.cell 1
    simp at r0 r1
    clear c0 c1 f0 f1 d0 d1 g0 g1
    go_wp2
    refine bodyPost_ret (v := .tuple #[.int .i64 0, .agg #[Value.slice A n c, .int .i64 (q)], .int .i64 2]) (by simp [results, Tryz.results69, go_sem, r0, r1]) rfl ?_
    exact ⟨q, rfl, (((hb3.setCell (by simp) _).setCell (by simp) _).drew)⟩
  · go_enter Tryz.func69, Tryz.ntmps69
    go_wp2_with (go_at_call 41; refine (HN.out _ ((h.alloc hB _).alloc (by simp; omega) _) (by simp; omega)).mono ?_; rintro e w1 ⟨q, rfl, hb⟩
                 obtain ⟨hk1, hk2, hb1⟩ := two_blocks hb
                 clear hb
                 have c0 := hk1.cell 0
                 have c1 := hk1.cell 1
                 have f0 := hk1.free 0
                 have f1 := hk1.free 1
                 have d0 := hk2.cell 0
                 have d1 := hk2.cell 1
                 have g0 := hk2.free 0
                 have g1 := hk2.free 1
                 simp at c0 c1 d0 d1)
    have hk3 := (hk1.set 0 (Value.slice A n c)).set 1 (Value.int IntKind.i64 (q))
    have hk4 := (hk2.other (p := ⟨w.heap.size, 0, none⟩) (by simp) (Value.slice A n c)).other (p := ⟨w.heap.size, 1, none⟩) (by simp) (Value.int IntKind.i64 (q))
    have hb3 : Below w.heap.size w ((w1.setCell ⟨w.heap.size, 0, none⟩ (Value.slice A n c)).setCell ⟨w.heap.size, 1, none⟩ (Value.int IntKind.i64 (q))) := (hb1.setCell (Nat.le_refl _) _).setCell (Nat.le_refl _) _
    generalize (w1.setCell ⟨w.heap.size, 0, none⟩ (Value.slice A n c)).setCell ⟨w.heap.size, 1, none⟩ (Value.int IntKind.i64 (q)) = w2 at *
    clear c0 c1 f0 f1 d0 d1 g0 g1
    have c0 := hk3.cell 0
    have c1 := hk3.cell 1
    have f0 := hk3.free 0
    have f1 := hk3.free 1
    have d0 := hk4.cell 0
    have d1 := hk4.cell 1
    have g0 := hk4.free 0
    have g1 := hk4.free 1
    simp at c0 c1 d0 d1
    go_region
    have hk7 := (hk4.set 0 (Value.slice A n c)).set 1 (Value.int IntKind.i64 (q))
    have r0 := hk7.cell 0
    have r1 := hk7.cell 1
    simp at r0 r1
    clear c0 c1 f0 f1 d0 d1 g0 g1
    go_wp2
    refine bodyPost_ret (v := .tuple #[.int .i64 0, .agg #[Value.slice A n c, .int .i64 (q)], .int .i64 3]) (by simp [results, Tryz.results69, go_sem, r0, r1]) rfl ?_
    exact ⟨q, rfl, (((hb3.setCell (by simp) _).setCell (by simp) _).drew)⟩
set_option maxHeartbeats 400000 in
set_option maxRecDepth 100000 in
theorem size_much (most : Int) (v u : Nat) (hN : numF 9 0 0 (xs.drop p) = (v, u, 0)) (hm : most < (v : Int)) :
    Calls Tryz.prog 69 #[.agg #[.slice A n c, .int .i64 p], .int .i64 most] w fun e w' =>
      ∃ q : Int, e = .returned (.tuple #[.int .i64 0, .agg #[.slice A n c, .int .i64 q], .int .i64 2]) ∧ Below w.heap.size w w' := by
  have HN := Lib.hid (fun W h hB => num_ok A n c B xs p W h hB hx hn hp v u hN)
  clear hN hx
  go_enter Tryz.func69, Tryz.ntmps69
  go_wp2_with (go_at_call 41; refine (HN.out _ ((h.alloc hB _).alloc (by simp; omega) _) (by simp; omega)).mono ?_; rintro e w1 ⟨rfl, hb⟩
               obtain ⟨hk1, hk2, hb1⟩ := two_blocks hb
               clear hb
               have c0 := hk1.cell 0
               have c1 := hk1.cell 1
               have f0 := hk1.free 0
               have f1 := hk1.free 1
               have d0 := hk2.cell 0
               have d1 := hk2.cell 1
               have g0 := hk2.free 0
               have g1 := hk2.free 1
               simp at c0 c1 d0 d1)
  have hk3 := (hk1.set 0 (Value.slice A n c)).set 1 (Value.int IntKind.i64 (↑p + ↑u))
  have hk4 := (hk2.other (p := ⟨w.heap.size, 0, none⟩) (by simp) (Value.slice A n c)).other (p := ⟨w.heap.size, 1, none⟩) (by simp) (Value.int IntKind.i64 (↑p + ↑u))
  have hb3 : Below w.heap.size w ((w1.setCell ⟨w.heap.size, 0, none⟩ (Value.slice A n c)).setCell ⟨w.heap.size, 1, none⟩ (Value.int IntKind.i64 (↑p + ↑u))) := (hb1.setCell (Nat.le_refl _) _).setCell (Nat.le_refl _) _
  generalize (w1.setCell ⟨w.heap.size, 0, none⟩ (Value.slice A n c)).setCell ⟨w.heap.size, 1, none⟩ (Value.int IntKind.i64 (↑p + ↑u)) = w2 at *
  clear c0 c1 f0 f1 d0 d1 g0 g1
  have c0 := hk3.cell 0
  have c1 := hk3.cell 1
  have f0 := hk3.free 0
  have f1 := hk3.free 1
  have d0 := hk4.cell 0
  have d1 := hk4.cell 1
  have g0 := hk4.free 0
  have g1 := hk4.free 1
  simp at c0 c1 d0 d1
  go_region
  have hk7 := (hk4.set 0 (Value.slice A n c)).set 1 (Value.int IntKind.i64 (↑p + ↑u))
  have r0 := hk7.cell 0
  have r1 := hk7.cell 1
  simp at r0 r1
  clear c0 c1 f0 f1 d0 d1 g0 g1
  go_wp2
  refine bodyPost_ret (v := .tuple #[.int .i64 0, .agg #[Value.slice A n c, .int .i64 (↑p + ↑u)], .int .i64 2]) (by simp [results, Tryz.results69, go_sem, r0, r1]) rfl ?_
  exact ⟨_, rfl, (((hb3.setCell (by simp) _).setCell (by simp) _).drew)⟩

set_option maxHeartbeats 400000 in
set_option maxRecDepth 100000 in
theorem text_no (most : Int) (er : Nat) (hN : numF 9 0 0 (xs.drop p) = (0, 0, er)) (he : er = 2 ∨ er = 3) :
    Calls Tryz.prog 64 #[.agg #[.slice A n c, .int .i64 p], .int .i64 most] w fun e w' =>
      ∃ q : Int, e = .returned (.tuple #[.string ⟨#[]⟩, .agg #[.slice A n c, .int .i64 q], .int .i64 er]) ∧ Below w.heap.size w w' := by
  have HN := Lib.hid (fun W h hB => size_no A n c B xs p W h hB hx hn hp most er hN he)
  clear hN hx
  rcases he with rfl | rfl
  · go_enter Tryz.func64, Tryz.ntmps64
    go_wp2_with (go_at_call 69; refine (HN.out _ ((h.alloc hB _).alloc (by simp; omega) _) (by simp; omega)).mono ?_; rintro e w1 ⟨q, rfl, hb⟩
                 obtain ⟨hk1, hk2, hb1⟩ := two_blocks hb
                 clear hb
                 have c0 := hk1.cell 0
                 have c1 := hk1.cell 1
                 have f0 := hk1.free 0
                 have f1 := hk1.free 1
                 have d0 := hk2.cell 0
                 have d1 := hk2.cell 1
                 have g0 := hk2.free 0
                 have g1 := hk2.free 1
                 simp at c0 c1 d0 d1)
    have hk3 := (hk1.set 0 (Value.slice A n c)).set 1 (Value.int IntKind.i64 (q))
    have hk4 := (hk2.other (p := ⟨w.heap.size, 0, none⟩) (by simp) (Value.slice A n c)).other (p := ⟨w.heap.size, 1, none⟩) (by simp) (Value.int IntKind.i64 (q))
    have hb3 : Below w.heap.size w ((w1.setCell ⟨w.heap.size, 0, none⟩ (Value.slice A n c)).setCell ⟨w.heap.size, 1, none⟩ (Value.int IntKind.i64 (q))) := (hb1.setCell (Nat.le_refl _) _).setCell (Nat.le_refl _) _
    generalize (w1.setCell ⟨w.heap.size, 0, none⟩ (Value.slice A n c)).setCell ⟨w.heap.size, 1, none⟩ (Value.int IntKind.i64 (q)) = w2 at *
    clear c0 c1 f0 f1 d0 d1 g0 g1
    have c0 := hk3.cell 0
    have c1 := hk3.cell 1
    have f0 := hk3.free 0
    have f1 := hk3.free 1
    have d0 := hk4.cell 0
    have d1 := hk4.cell 1
    have g0 := hk4.free 0
    have g1 := hk4.free 1
    simp at c0 c1 d0 d1
    go_region
    have hk7 := (hk4.set 0 (Value.slice A n c)).set 1 (Value.int IntKind.i64 (q))
    have r0 := hk7.cell 0
    have r1 := hk7.cell 1
    simp at r0 r1
    clear c0 c1 f0 f1 d0 d1 g0 g1
    go_wp2
    refine bodyPost_ret (v := .tuple #[.string ⟨#[]⟩, .agg #[Value.slice A n c, .int .i64 (q)], .int .i64 2]) (by simp [results, Tryz.results64, go_sem, r0, r1]) rfl ?_
    exact ⟨q, rfl, (((hb3.setCell (by simp) _).setCell (by simp) _).drew)⟩
  · go_enter Tryz.func64, Tryz.ntmps64
    go_wp2_with (go_at_call 69; refine (HN.out _ ((h.alloc hB _).alloc (by simp; omega) _) (by simp; omega)).mono ?_; rintro e w1 ⟨q, rfl, hb⟩
                 obtain ⟨hk1, hk2, hb1⟩ := two_blocks hb
                 clear hb
                 have c0 := hk1.cell 0
                 have c1 := hk1.cell 1
                 have f0 := hk1.free 0
                 have f1 := hk1.free 1
                 have d0 := hk2.cell 0
                 have d1 := hk2.cell 1
                 have g0 := hk2.free 0
                 have g1 := hk2.free 1
                 simp at c0 c1 d0 d1)
    have hk3 := (hk1.set 0 (Value.slice A n c)).set 1 (Value.int IntKind.i64 (q))
    have hk4 := (hk2.other (p := ⟨w.heap.size, 0, none⟩) (by simp) (Value.slice A n c)).other (p := ⟨w.heap.size, 1, none⟩) (by simp) (Value.int IntKind.i64 (q))
    have hb3 : Below w.heap.size w ((w1.setCell ⟨w.heap.size, 0, none⟩ (Value.slice A n c)).setCell ⟨w.heap.size, 1, none⟩ (Value.int IntKind.i64 (q))) := (hb1.setCell (Nat.le_refl _) _).setCell (Nat.le_refl _) _
    generalize (w1.setCell ⟨w.heap.size, 0, none⟩ (Value.slice A n c)).setCell ⟨w.heap.size, 1, none⟩ (Value.int IntKind.i64 (q)) = w2 at *
    clear c0 c1 f0 f1 d0 d1 g0 g1
    have c0 := hk3.cell 0
    have c1 := hk3.cell 1
    have f0 := hk3.free 0
    have f1 := hk3.free 1
    have d0 := hk4.cell 0
    have d1 := hk4.cell 1
    have g0 := hk4.free 0
    have g1 := hk4.free 1
    simp at c0 c1 d0 d1
    go_region
    have hk7 := (hk4.set 0 (Value.slice A n c)).set 1 (Value.int IntKind.i64 (q))
    have r0 := hk7.cell 0
    have r1 := hk7.cell 1
    simp at r0 r1
    clear c0 c1 f0 f1 d0 d1 g0 g1
    go_wp2
    refine bodyPost_ret (v := .tuple #[.string ⟨#[]⟩, .agg #[Value.slice A n c, .int .i64 (q)], .int .i64 3]) (by simp [results, Tryz.results64, go_sem, r0, r1]) rfl ?_
    exact ⟨q, rfl, (((hb3.setCell (by simp) _).setCell (by simp) _).drew)⟩
set_option maxHeartbeats 400000 in
set_option maxRecDepth 100000 in
theorem text_much (most : Int) (v u : Nat) (hN : numF 9 0 0 (xs.drop p) = (v, u, 0)) (hm : most < (v : Int)) :
    Calls Tryz.prog 64 #[.agg #[.slice A n c, .int .i64 p], .int .i64 most] w fun e w' =>
      ∃ q : Int, e = .returned (.tuple #[.string ⟨#[]⟩, .agg #[.slice A n c, .int .i64 q], .int .i64 2]) ∧ Below w.heap.size w w' := by
  have HN := Lib.hid (fun W h hB => size_much A n c B xs p W h hB hx hn hp most v u hN hm)
  clear hN hx
  go_enter Tryz.func64, Tryz.ntmps64
  go_wp2_with (go_at_call 69; refine (HN.out _ ((h.alloc hB _).alloc (by simp; omega) _) (by simp; omega)).mono ?_; rintro e w1 ⟨q, rfl, hb⟩
               obtain ⟨hk1, hk2, hb1⟩ := two_blocks hb
               clear hb
               have c0 := hk1.cell 0
               have c1 := hk1.cell 1
               have f0 := hk1.free 0
               have f1 := hk1.free 1
               have d0 := hk2.cell 0
               have d1 := hk2.cell 1
               have g0 := hk2.free 0
               have g1 := hk2.free 1
               simp at c0 c1 d0 d1)
  have hk3 := (hk1.set 0 (Value.slice A n c)).set 1 (Value.int IntKind.i64 (q))
  have hk4 := (hk2.other (p := ⟨w.heap.size, 0, none⟩) (by simp) (Value.slice A n c)).other (p := ⟨w.heap.size, 1, none⟩) (by simp) (Value.int IntKind.i64 (q))
  have hb3 : Below w.heap.size w ((w1.setCell ⟨w.heap.size, 0, none⟩ (Value.slice A n c)).setCell ⟨w.heap.size, 1, none⟩ (Value.int IntKind.i64 (q))) := (hb1.setCell (Nat.le_refl _) _).setCell (Nat.le_refl _) _
  generalize (w1.setCell ⟨w.heap.size, 0, none⟩ (Value.slice A n c)).setCell ⟨w.heap.size, 1, none⟩ (Value.int IntKind.i64 (q)) = w2 at *
  clear c0 c1 f0 f1 d0 d1 g0 g1
  have c0 := hk3.cell 0
  have c1 := hk3.cell 1
  have f0 := hk3.free 0
  have f1 := hk3.free 1
  have d0 := hk4.cell 0
  have d1 := hk4.cell 1
  have g0 := hk4.free 0
  have g1 := hk4.free 1
  simp at c0 c1 d0 d1
  go_region
  have hk7 := (hk4.set 0 (Value.slice A n c)).set 1 (Value.int IntKind.i64 (q))
  have r0 := hk7.cell 0
  have r1 := hk7.cell 1
  simp at r0 r1
  clear c0 c1 f0 f1 d0 d1 g0 g1
  go_wp2
  refine bodyPost_ret (v := .tuple #[.string ⟨#[]⟩, .agg #[Value.slice A n c, .int .i64 (q)], .int .i64 2]) (by simp [results, Tryz.results64, go_sem, r0, r1]) rfl ?_
  exact ⟨q, rfl, (((hb3.setCell (by simp) _).setCell (by simp) _).drew)⟩
set_option maxHeartbeats 400000 in
set_option maxRecDepth 100000 in
theorem text_end (most : Int) (v u : Nat) (hN : numF 9 0 0 (xs.drop p) = (v, u, 0)) (hm : (v : Int) ≤ most) (hu : p + u ≤ n) (hl : n - (p + u) < v) :
    Calls Tryz.prog 64 #[.agg #[.slice A n c, .int .i64 p], .int .i64 most] w fun e w' =>
      ∃ q : Int, e = .returned (.tuple #[.string ⟨#[]⟩, .agg #[.slice A n c, .int .i64 q], .int .i64 3]) ∧ Below w.heap.size w w' := by
  have HN := Lib.hid (fun W h hB => size_ok A n c B xs p W h hB hx hn hp most v u hN hm)
  clear hN hx
  have hl' : (n : Int) - (p + u) < v := by omega
  go_enter Tryz.func64, Tryz.ntmps64
  go_wp2_with (go_at_call 69; refine (HN.out _ ((h.alloc hB _).alloc (by simp; omega) _) (by simp; omega)).mono ?_; rintro e w1 ⟨rfl, hb⟩
               obtain ⟨hk1, hk2, hb1⟩ := two_blocks hb
               clear hb
               have c0 := hk1.cell 0
               have c1 := hk1.cell 1
               have f0 := hk1.free 0
               have f1 := hk1.free 1
               have d0 := hk2.cell 0
               have d1 := hk2.cell 1
               have g0 := hk2.free 0
               have g1 := hk2.free 1
               simp at c0 c1 d0 d1)
  have hk3 := (hk1.set 0 (Value.slice A n c)).set 1 (Value.int IntKind.i64 (↑p + ↑u))
  have hk4 := (hk2.other (p := ⟨w.heap.size, 0, none⟩) (by simp) (Value.slice A n c)).other (p := ⟨w.heap.size, 1, none⟩) (by simp) (Value.int IntKind.i64 (↑p + ↑u))
  have hb3 : Below w.heap.size w ((w1.setCell ⟨w.heap.size, 0, none⟩ (Value.slice A n c)).setCell ⟨w.heap.size, 1, none⟩ (Value.int IntKind.i64 (↑p + ↑u))) := (hb1.setCell (Nat.le_refl _) _).setCell (Nat.le_refl _) _
  generalize (w1.setCell ⟨w.heap.size, 0, none⟩ (Value.slice A n c)).setCell ⟨w.heap.size, 1, none⟩ (Value.int IntKind.i64 (↑p + ↑u)) = w2 at *
  clear c0 c1 f0 f1 d0 d1 g0 g1
  have c0 := hk3.cell 0
  have c1 := hk3.cell 1
  have f0 := hk3.free 0
  have f1 := hk3.free 1
  have d0 := hk4.cell 0
  have d1 := hk4.cell 1
  have g0 := hk4.free 0
  have g1 := hk4.free 1
  simp at c0 c1 d0 d1
  go_wp2_with (go_at_call 68; refine (Left_any A n c _ _ hn (by omega) (by omega)).mono ?_; rintro e w3 ⟨rfl, hw3⟩
               have hb4 : Below w2.heap.size w2 w3 := hw3 ▸ (Below.refl _ _).alloc (Nat.le_refl _) _
               clear hw3
               have hk5 := hk3.below hb4 hk3.lt
               have hk6 := hk4.below hb4 hk4.lt
               have hb5 := hb3.trans (hb4.mono hb3.size)
               clear c0 c1 f0 f1 d0 d1 g0 g1
               have c0 := hk5.cell 0
               have c1 := hk5.cell 1
               have f0 := hk5.free 0
               have f1 := hk5.free 1
               have d0 := hk6.cell 0
               have d1 := hk6.cell 1
               have g0 := hk6.free 0
               have g1 := hk6.free 1
               simp at c0 c1 d0 d1)
  go_region
  have hk7 := (hk6.set 0 (Value.slice A n c)).set 1 (Value.int IntKind.i64 (↑p + ↑u))
  have r0 := hk7.cell 0
  have r1 := hk7.cell 1
  simp at r0 r1
  clear c0 c1 f0 f1 d0 d1 g0 g1
  go_wp2
  refine bodyPost_ret (v := .tuple #[.string ⟨#[]⟩, .agg #[Value.slice A n c, .int .i64 (↑p + ↑u)], .int .i64 3]) (by simp [results, Tryz.results64, go_sem, r0, r1]) rfl ?_
  exact ⟨_, rfl, (((hb5.setCell (by simp) _).setCell (by simp) _).drew)⟩
end
end Go.Proofs.YtkdncnhjlgidnaaGreatDoor
