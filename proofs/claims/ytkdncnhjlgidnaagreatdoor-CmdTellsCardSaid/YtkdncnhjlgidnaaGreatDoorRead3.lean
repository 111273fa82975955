/- What is proved here: what a reader's inner function for a text returns, whatever the memory. Slices of at most a million elements. -/
import Derived.Test.YtkdncnhjlgidnaaGreatDoorRead2
import Derived.StillTailTactics
namespace Go.Proofs.YtkdncnhjlgidnaaGreatDoor
open Go Go.RowKit

section
variable (A : Option Addr) (n c B : Nat) (xs : List Int) (p : Nat) (w : World) (h : Rd w B .u8 A n c xs) (hB : B ≤ w.heap.size) (hx : ∀ x ∈ xs, 0 ≤ x ∧ x < 256) (hn : n ≤ 1000000) (hp : p ≤ n)
include h hB hx hn hp

set_option maxHeartbeats 400000 in
set_option maxRecDepth 100000 in
theorem text_ok1 (most : Int) (v u : Nat) (hN : numF 9 0 0 (xs.drop p) = (v, u, 0)) (hm : (v : Int) ≤ most) (hu : p + u ≤ n) (hl : v ≤ n - (p + u)) (hu0 : 0 < u) (q4 : ¬ c = p + u) :
    Calls Tryz.prog 64 #[.agg #[.slice A n c, .int .i64 p], .int .i64 most] w fun e w' =>
      e = .returned (.tuple #[.string (strOfNums ((xs.drop (p + u)).take v)), .agg #[.slice A n c, .int .i64 ((p : Int) + u + v)], .int .i64 0]) ∧ Below w.heap.size w w' := by
  obtain ⟨b, o, hA, hbl, hcell⟩ := h.cell (j := p) (by omega)
  subst hA
  clear hcell
  have HN := Lib.hid (fun W h hB => size_ok (some ⟨b, o, none⟩) n c B xs p W h hB hx hn hp most v u hN hm)
  clear hN hx
  have hl' : (v : Int) ≤ (n : Int) - (p + u) := by omega
  go_enter Tryz.func64, Tryz.ntmps64
  go_wp2_with (go_at_call 69; refine (HN.out _ ((h.alloc hB _).alloc (by simp; omega) _) (by simp; omega)).mono ?_; rintro e w1 ⟨rfl, hb⟩
               obtain ⟨hk1, hk2, hb1⟩ := two_blocks hb
               clear hb
               have c0 := hk1.cell 0
               have c1 := hk1.cell 1
               have f0 := hk1.free 0
               have f1 := hk1.free 1
               have d0 := hk2.cell 0
               have d1 := hk2.cell 1
               have g0 := hk2.free 0
               have g1 := hk2.free 1
               simp at c0 c1 d0 d1)
  have hk3 := (hk1.set 0 (Value.slice (some ⟨b, o, none⟩) n c)).set 1 (Value.int IntKind.i64 (↑p + ↑u))
  have hk4 := (hk2.other (p := ⟨w.heap.size, 0, none⟩) (by simp) (Value.slice (some ⟨b, o, none⟩) n c)).other (p := ⟨w.heap.size, 1, none⟩) (by simp) (Value.int IntKind.i64 (↑p + ↑u))
  have hb3 : Below w.heap.size w ((w1.setCell ⟨w.heap.size, 0, none⟩ (Value.slice (some ⟨b, o, none⟩) n c)).setCell ⟨w.heap.size, 1, none⟩ (Value.int IntKind.i64 (↑p + ↑u))) := (hb1.setCell (Nat.le_refl _) _).setCell (Nat.le_refl _) _
  generalize (w1.setCell ⟨w.heap.size, 0, none⟩ (Value.slice (some ⟨b, o, none⟩) n c)).setCell ⟨w.heap.size, 1, none⟩ (Value.int IntKind.i64 (↑p + ↑u)) = w2 at *
  clear c0 c1 f0 f1 d0 d1 g0 g1
  have c0 := hk3.cell 0
  have c1 := hk3.cell 1
  have f0 := hk3.free 0
  have f1 := hk3.free 1
  have d0 := hk4.cell 0
  have d1 := hk4.cell 1
  have g0 := hk4.free 0
  have g1 := hk4.free 1
  simp at c0 c1 d0 d1
  go_wp2_with (go_at_call 68; refine (Left_any _ n c _ _ hn (by omega) (by omega)).mono ?_; rintro e w3 ⟨rfl, hw3⟩
               have hb4 : Below w2.heap.size w2 w3 := hw3 ▸ (Below.refl _ _).alloc (Nat.le_refl _) _
               clear hw3
               have hk5 := hk3.below hb4 hk3.lt
               have hk6 := hk4.below hb4 hk4.lt
               have hb5 := hb3.trans (hb4.mono hb3.size)
               clear c0 c1 f0 f1 d0 d1 g0 g1
               have c0 := hk5.cell 0
               have c1 := hk5.cell 1
               have f0 := hk5.free 0
               have f1 := hk5.free 1
               have d0 := hk6.cell 0
               have d1 := hk6.cell 1
               have g0 := hk6.free 0
               have g1 := hk6.free 1
               simp at c0 c1 d0 d1)
  have hk7 := hk5.set 1 (Value.int IntKind.i64 (↑p + ↑u + ↑v))
  have hk8 := hk6.other (p := ⟨w.heap.size, 1, none⟩) (by simp) (Value.int IntKind.i64 (↑p + ↑u + ↑v))
  have hb6 : Below w.heap.size w (w3.setCell ⟨w.heap.size, 1, none⟩ (Value.int IntKind.i64 (↑p + ↑u + ↑v))) := hb5.setCell (Nat.le_refl _) _
  generalize w3.setCell ⟨w.heap.size, 1, none⟩ (Value.int IntKind.i64 (↑p + ↑u + ↑v)) = w4 at *
  clear c0 c1 f0 f1 d0 d1 g0 g1
  have c0 := hk7.cell 0
  have c1 := hk7.cell 1
  have d0 := hk8.cell 0
  have d1 := hk8.cell 1
  have g0 := hk8.free 0
  have g1 := hk8.free 1
  simp at c0 c1 d0 d1
  have q1 : (0 : Int) ≤ ↑p + ↑u := by omega
  have q2 : (p : Int) + u ≤ ↑p + ↑u + ↑v := by omega
  have q3 : (p : Int) + u + v ≤ c := by have := h.cap; omega
  have q5 : ((p : Int) + u).toNat = p + u := by omega
  have q6 : ((p : Int) + u + v).toNat = p + u + v := by omega
  have q7 : p + u + v - (p + u) = v := by omega
  have hconv : (convert 22 9 (.slice (some ⟨b, o + (p + u), none⟩) v (c - (p + u)))).run Tryz.prog w4.drew =
      .ok (.string (strOfNums ((xs.drop (p + u)).take v))) w4.drew := by
    refine run_convert_bytes_arg _ 22 5 Tryz.underlying22 Tryz.underlying5 b (o + (p + u)) v _ _ (by rw [List.length_take, List.length_drop, h.len]; omega) (fun i hi => ?_) 9 Tryz.underlying9
    obtain ⟨b', o', e', _, hc⟩ := h.cell (j := p + u + i) (by omega)
    obtain ⟨rfl, rfl⟩ : b = b' ∧ o = o' := by simpa using e'
    have hc' := (hb6.cell (p := ⟨b, o + (p + u + i), none⟩) (show b < _ by omega)).trans hc
    rw [Nat.add_assoc]
    refine Eq.trans hc' ?_
    rw [List.getD_eq_getElem?_getD, List.getD_eq_getElem?_getD, List.getElem?_take, if_pos hi, List.getElem?_drop]
  generalize hS : strOfNums ((xs.drop (p + u)).take v) = S at *
  have HS := Lib.hid hS
  clear hS
  go_still_tail 9, (by kernel_rfl)
  change wpList _ _ _ _ _ w4.drew
  have hk9 := hk7.drew
  have hk10 := hk8.drew
  have hb7 := hb6.drew
  generalize w4.drew = w5 at *
  clear c0 c1 d0 d1 g0 g1 hconv
  have d0 := hk10.cell 0
  have d1 := hk10.cell 1
  have g0 := hk10.free 0
  have g1 := hk10.free 1
  simp at d0 d1
  go_wp2
  have hk11 := (hk10.set 0 (Value.slice (some ⟨b, o, none⟩) n c)).set 1 (Value.int IntKind.i64 (↑p + ↑u + ↑v))
  have r0 := hk11.cell 0
  have r1 := hk11.cell 1
  simp at r0 r1
  refine bodyPost_ret (v := .tuple #[.string S, .agg #[Value.slice (some ⟨b, o, none⟩) n c, .int .i64 (↑p + ↑u + ↑v)], .int .i64 0]) (by simp [results, Tryz.results64, go_sem, r0, r1]) rfl ?_
  rw [HS.out]
  exact ⟨rfl, (hb7.setCell (by simp) _).setCell (by simp) _⟩
set_option maxHeartbeats 400000 in
set_option maxRecDepth 100000 in
theorem text_ok2 (most : Int) (u : Nat) (hN : numF 9 0 0 (xs.drop p) = (0, u, 0)) (hm : (0 : Int) ≤ most) (hu : p + u ≤ n) (hu0 : 0 < u) (q4 : c = p + u) :
    Calls Tryz.prog 64 #[.agg #[.slice A n (p + u), .int .i64 p], .int .i64 most] w fun e w' =>
      e = .returned (.tuple #[.string ⟨#[]⟩, .agg #[.slice A n (p + u), .int .i64 ((p : Int) + u)], .int .i64 0]) ∧ Below w.heap.size w w' := by
  subst q4
  obtain ⟨b, o, hA, hbl, hcell⟩ := h.cell (j := p) (by omega)
  subst hA
  clear hcell
  have HN := Lib.hid (fun W h hB => size_ok (some ⟨b, o, none⟩) n (p + u) B xs p W h hB hx hn hp most 0 u hN hm)
  clear hN hx
  have hl' : (0 : Int) ≤ (n : Int) - (p + u) := by omega
  go_enter Tryz.func64, Tryz.ntmps64
  go_wp2_with (go_at_call 69; refine (HN.out _ ((h.alloc hB _).alloc (by simp; omega) _) (by simp; omega)).mono ?_; rintro e w1 ⟨rfl, hb⟩
               obtain ⟨hk1, hk2, hb1⟩ := two_blocks hb
               clear hb
               have c0 := hk1.cell 0
               have c1 := hk1.cell 1
               have f0 := hk1.free 0
               have f1 := hk1.free 1
               have d0 := hk2.cell 0
               have d1 := hk2.cell 1
               have g0 := hk2.free 0
               have g1 := hk2.free 1
               simp at c0 c1 d0 d1)
  have hk3 := (hk1.set 0 (Value.slice (some ⟨b, o, none⟩) n (p + u))).set 1 (Value.int IntKind.i64 (↑p + ↑u))
  have hk4 := (hk2.other (p := ⟨w.heap.size, 0, none⟩) (by simp) (Value.slice (some ⟨b, o, none⟩) n (p + u))).other (p := ⟨w.heap.size, 1, none⟩) (by simp) (Value.int IntKind.i64 (↑p + ↑u))
  have hb3 : Below w.heap.size w ((w1.setCell ⟨w.heap.size, 0, none⟩ (Value.slice (some ⟨b, o, none⟩) n (p + u))).setCell ⟨w.heap.size, 1, none⟩ (Value.int IntKind.i64 (↑p + ↑u))) := (hb1.setCell (Nat.le_refl _) _).setCell (Nat.le_refl _) _
  generalize (w1.setCell ⟨w.heap.size, 0, none⟩ (Value.slice (some ⟨b, o, none⟩) n (p + u))).setCell ⟨w.heap.size, 1, none⟩ (Value.int IntKind.i64 (↑p + ↑u)) = w2 at *
  clear c0 c1 f0 f1 d0 d1 g0 g1
  have c0 := hk3.cell 0
  have c1 := hk3.cell 1
  have f0 := hk3.free 0
  have f1 := hk3.free 1
  have d0 := hk4.cell 0
  have d1 := hk4.cell 1
  have g0 := hk4.free 0
  have g1 := hk4.free 1
  simp at c0 c1 d0 d1
  go_wp2_with (go_at_call 68; refine (Left_any _ n (p + u) _ _ hn (by omega) (by omega)).mono ?_; rintro e w3 ⟨rfl, hw3⟩
               have hb4 : Below w2.heap.size w2 w3 := hw3 ▸ (Below.refl _ _).alloc (Nat.le_refl _) _
               clear hw3
               have hk5 := hk3.below hb4 hk3.lt
               have hk6 := hk4.below hb4 hk4.lt
               have hb5 := hb3.trans (hb4.mono hb3.size)
               clear c0 c1 f0 f1 d0 d1 g0 g1
               have c0 := hk5.cell 0
               have c1 := hk5.cell 1
               have f0 := hk5.free 0
               have f1 := hk5.free 1
               have d0 := hk6.cell 0
               have d1 := hk6.cell 1
               have g0 := hk6.free 0
               have g1 := hk6.free 1
               simp at c0 c1 d0 d1)
  have hk7 := hk5.set 1 (Value.int IntKind.i64 (↑p + ↑u))
  have hk8 := hk6.other (p := ⟨w.heap.size, 1, none⟩) (by simp) (Value.int IntKind.i64 (↑p + ↑u))
  have hb6 : Below w.heap.size w (w3.setCell ⟨w.heap.size, 1, none⟩ (Value.int IntKind.i64 (↑p + ↑u))) := hb5.setCell (Nat.le_refl _) _
  generalize w3.setCell ⟨w.heap.size, 1, none⟩ (Value.int IntKind.i64 (↑p + ↑u)) = w4 at *
  clear c0 c1 f0 f1 d0 d1 g0 g1
  have c0 := hk7.cell 0
  have c1 := hk7.cell 1
  have d0 := hk8.cell 0
  have d1 := hk8.cell 1
  have g0 := hk8.free 0
  have g1 := hk8.free 1
  simp at c0 c1 d0 d1
  have q1 : (0 : Int) ≤ ↑p + ↑u := by omega
  have q3 : (p : Int) + u ≤ ((p + u : Nat) : Int) := by have := h.cap; omega
  have q5 : ((p : Int) + u).toNat = p + u := by omega
  have hconv : (convert 22 9 (.slice (some ⟨b, o, none⟩) 0 0)).run Tryz.prog w4.drew = .ok (.string ⟨#[]⟩) w4.drew := by
    refine run_convert_bytes_arg _ 22 5 Tryz.underlying22 Tryz.underlying5 b o 0 _ [] rfl (fun i hi => absurd hi (by omega)) 9 Tryz.underlying9
  go_still_tail 9, (by kernel_rfl)
  change wpList _ _ _ _ _ w4.drew
  have hk9 := hk7.drew
  have hk10 := hk8.drew
  have hb7 := hb6.drew
  generalize w4.drew = w5 at *
  clear c0 c1 d0 d1 g0 g1 hconv
  have d0 := hk10.cell 0
  have d1 := hk10.cell 1
  have g0 := hk10.free 0
  have g1 := hk10.free 1
  simp at d0 d1
  go_wp2
  have hk11 := (hk10.set 0 (Value.slice (some ⟨b, o, none⟩) n (p + u))).set 1 (Value.int IntKind.i64 (↑p + ↑u))
  have r0 := hk11.cell 0
  have r1 := hk11.cell 1
  simp at r0 r1
  refine bodyPost_ret (v := .tuple #[Value.string ⟨#[]⟩, .agg #[Value.slice (some ⟨b, o, none⟩) n (p + u), .int .i64 (↑p + ↑u)], .int .i64 0]) (by simp [results, Tryz.results64, go_sem, r0, r1]) rfl ?_
  exact ⟨rfl, (hb7.setCell (by simp) _).setCell (by simp) _⟩
end
end Go.Proofs.YtkdncnhjlgidnaaGreatDoor
