/- What is proved here: 'awake', what the document fixes of a Tick, is true. -/
import Derived.Test.YtkdncnhjlgidnaaGreatDoorCOut
namespace Go.Proofs.YtkdncnhjlgidnaaGreatDoor
open Go Go.RowKit Go.Maps

set_option maxHeartbeats 800000 in
theorem IndexT_nil (g : Nat) (lb : Array Value) (w : World) : Calls Tryz.prog 85 #[.slice none 0 0, .func (.func g) #[] lb] w fun e w' => e = .returned (.int .i64 (-1)) ∧ w = w' := by
  go_enter Tryz.func85, Tryz.ntmps85
  go_wp2_with fail
  go_loopg [5, 8] 0 (fun gg _ s8 wr => s8 = .int .i64 0 ∧ w = wr)
  case atStart => exact ⟨rfl, rfl⟩
  case round =>
    obtain ⟨rfl, rfl⟩ := hrel
    go_wp2_with fail
    go_ret
    exact ⟨rfl, rfl⟩
set_option maxHeartbeats 800000 in
theorem ContainsT_nil (g : Nat) (lb : Array Value) (w : World) : Calls Tryz.prog 81 #[.slice none 0 0, .func (.func g) #[] lb] w fun e w' => e = .returned (.bool false) ∧ w = w' := by
  go_enter Tryz.func81, Tryz.ntmps81
  go_wp2_with (go_at_call 85; refine (IndexT_nil g lb _).mono ?_; rintro e w' ⟨rfl, rfl⟩)
  go_ret
  exact ⟨rfl, rfl⟩
set_option maxHeartbeats 800000 in
theorem AllT_nil (g : Nat) (w : World) : Calls Tryz.prog 67 #[.slice none 0 0, .func (.func g) #[] #[]] w fun e w' => e = .returned (.bool true) ∧ Below w.heap.size w w' := by
  go_enter Tryz.func67, Tryz.ntmps67
  go_wp2_with (go_at_call 81; refine (ContainsT_nil _ _ _).mono ?_; rintro e w' ⟨rfl, rfl⟩)
  go_ret
  exact ⟨rfl, (Below.refl _ _).alloc (Nat.le_refl _) _⟩
theorem allI_nil (W : World) : Calls Tryz.prog 66 #[.slice none 0 0, .func (.func 54) #[] #[]] W fun e w' => e = .returned (.bool true) ∧ Below W.heap.size W w' :=
  All_i 54 (by intro args w; kernel_rfl) none 0 0 (fun _ => .int .i64 0) (fun _ => true) W (fun _ _ j hj => absurd hj (Nat.not_lt_zero _)) (fun j hj => absurd hj (Nat.not_lt_zero _)) (by omega) (fun _ j _ hj => absurd hj (Nat.not_lt_zero _))
set_option maxHeartbeats 1600000 in
theorem RightAns6 (w : World) : Calls Tryz.prog 38 #[.agg #[.int .i64 6, .slice none 0 0, .slice none 0 0]] w fun e w' => e = .returned (.bool true) ∧ Below w.heap.size w w' := by
  have hb0 : Below w.heap.size w (w.alloc (.cells #[.int .i64 6, .slice none 0 0, .slice none 0 0] 27)) := (Below.refl _ _).alloc (Nat.le_refl _) _
  have hbk : Blk (w.alloc (.cells #[.int .i64 6, .slice none 0 0, .slice none 0 0] 27)) w.heap.size 27 #[.int .i64 6, .slice none 0 0, .slice none 0 0] := Blk.fresh _ _ _
  go_enter Tryz.func38, Tryz.ntmps38
  go_upto_region 1 with fail
  generalize w.alloc (.cells #[.int .i64 6, .slice none 0 0, .slice none 0 0] 27) = W at *
  have hlt := hbk.lt
  have c0 := hbk.cell 0
  have c1 := hbk.cell 1
  have c2 := hbk.cell 2
  simp at c0 c1 c2
  have HB := Lib.hid hb0; have HK := Lib.hid hbk
  clear hb0 hbk
  go_wp2_with (first
    | (go_at_call 54; refine (fits_any 6 _).mono ?_; rw [show fitB 6 = true from rfl]; rintro e w1 ⟨rfl, rfl⟩)
    | (go_at_call 66; refine (allI_nil W).mono ?_; rintro e w2 ⟨rfl, hb2⟩
       have HB2 := Lib.hid (HB.out.trans (hb2.mono HB.out.size))
       have c2' := (hb2.cell (p := ⟨w.heap.size, 2, none⟩) hlt).trans c2
       clear hb2)
    | (go_at_call 67; refine (AllT_nil _ _).mono ?_; rintro e w3 ⟨rfl, hb3⟩
       have HB3 := Lib.hid (HB2.out.trans (hb3.mono HB2.out.size))
       clear hb3))
  go_ret
  exact ⟨rfl, HB3.out⟩
theorem info_took : (Tryz.prog.info? 59).map (·.size) = some 5 := by kernel_rfl
set_option maxHeartbeats 1600000 in
theorem WriteAns6 (w : World) : Calls Tryz.prog 14 #[.agg #[.int .i64 6, .slice none 0 0, .slice none 0 0]] w fun e w' => ∃ (A : Option Addr) (d : Nat), e = .returned (.tuple #[.slice A 3 d, .nilIface]) ∧ Rd w' w'.heap.size .u8 A 3 d [6, 0, 0] ∧ Below w.heap.size w w' := by
  have hb0 : Below w.heap.size w (w.alloc (.cells #[.int .i64 6, .slice none 0 0, .slice none 0 0] 27)) := (Below.refl _ _).alloc (Nat.le_refl _) _
  have hbk : Blk (w.alloc (.cells #[.int .i64 6, .slice none 0 0, .slice none 0 0] 27)) w.heap.size 27 #[.int .i64 6, .slice none 0 0, .slice none 0 0] := Blk.fresh _ _ _
  have e6 : enc 6 = [6] := enc_small (by decide)
  have e0 : enc 0 = [0] := enc_small (by decide)
  have E6 := Lib.hid e6; have E0 := Lib.hid e0
  clear e6 e0
  go_enter Tryz.func14, Tryz.ntmps14
  go_upto_region 1 with fail
  generalize w.alloc (.cells #[.int .i64 6, .slice none 0 0, .slice none 0 0] 27) = W at *
  have hlt := hbk.lt
  have c0 := hbk.cell 0
  have c1 := hbk.cell 1
  have c2 := hbk.cell 2
  simp at c0 c1 c2
  have HB := Lib.hid hb0; have HK := Lib.hid hbk
  clear hb0 hbk
  go_wp2_with fail
  refine (RightAns6 W).mono ?_
  rintro e w1 ⟨rfl, hb1⟩
  have HB1 := Lib.hid (HB.out.trans (hb1.mono HB.out.size))
  have k0 := (hb1.cell (p := ⟨w.heap.size, 0, none⟩) hlt).trans c0
  have k1 := (hb1.cell (p := ⟨w.heap.size, 1, none⟩) hlt).trans c1
  have k2 := (hb1.cell (p := ⟨w.heap.size, 2, none⟩) hlt).trans c2
  have hlt1 : w.heap.size < w1.heap.size := Nat.lt_of_lt_of_le hlt hb1.size
  clear c0 c1 c2 hb1
  go_wp2_with fail
  refine (Num_any none 0 0 [] 6 w1 (Rd.none_ _ _ _) (by omega) (by omega) (by omega)).mono ?_
  rintro e w2 ⟨v2, rfl, hown, hb2⟩
  rw [show ((6 : Int).toNat) = 6 from rfl, E6.out, List.nil_append] at hown
  obtain ⟨A2, n2, d2, rfl, hr2⟩ := Rd.of_own' hown
  have HB2 := Lib.hid (HB1.out.trans (hb2.mono HB1.out.size))
  have hn2 := hr2.len
  have m1 := (hb2.cell (p := ⟨w.heap.size, 1, none⟩) hlt1).trans k1
  have m2 := (hb2.cell (p := ⟨w.heap.size, 2, none⟩) hlt1).trans k2
  have hlt2 : w.heap.size < w2.heap.size := Nat.lt_of_lt_of_le hlt1 hb2.size
  have HR2 := Lib.hid hr2
  obtain rfl : n2 = 1 := by simpa using hn2.symm
  clear k0 k1 k2 hb2 hown hn2 hr2
  go_wp2_with fail
  refine (Nums_any A2 1 d2 [6] none 0 0 [] w2 HR2.out (Rd.none_ _ _ _) (by omega) (by omega) (by simp)).mono ?_
  rintro e w3 ⟨v3, rfl, hown, hb3⟩
  rw [E0.out, show ([6] ++ ([0] ++ encAll []) : List Int) = [6, 0] from rfl] at hown
  obtain ⟨A3, n3, d3, rfl, hr3⟩ := Rd.of_own' hown
  have HB3 := Lib.hid (HB2.out.trans (hb3.mono HB2.out.size))
  have hn3 := hr3.len
  have q2 := (hb3.cell (p := ⟨w.heap.size, 2, none⟩) hlt2).trans m2
  have hlt3 : w.heap.size < w3.heap.size := Nat.lt_of_lt_of_le hlt2 hb3.size
  have HR3 := Lib.hid hr3
  obtain rfl : n3 = 2 := by simpa using hn3.symm
  clear m1 m2 hb3 hown hn3 hr3
  go_wp2_with fail
  refine (Num_any A3 2 d3 [6, 0] 0 w3 HR3.out (by omega) (by omega) (by omega)).mono ?_
  rintro e w4 ⟨v4, rfl, hown, hb4⟩
  rw [show ((0 : Int).toNat) = 0 from rfl, E0.out, show ([6, 0] ++ [0] : List Int) = [6, 0, 0] from rfl] at hown
  obtain ⟨A4, n4, d4, rfl, hr4⟩ := Rd.of_own' hown
  have HB4 := Lib.hid (HB3.out.trans (hb4.mono HB3.out.size))
  have hn4 := hr4.len
  have r2 := (hb4.cell (p := ⟨w.heap.size, 2, none⟩) hlt3).trans q2
  have HR4 := Lib.hid hr4
  obtain rfl : n4 = 3 := by simpa using hn4.symm
  clear q2 hb4 hown hn4 hr4
  go_wp2_with fail
  go_loopg [4, 28] 0 (fun gg s4 s28 wr => s4 = .slice A4 3 d4 ∧ s28 = .int .i64 0 ∧ w4 = wr)
  case atStart => exact ⟨rfl, rfl, rfl⟩
  case round =>
    obtain ⟨rfl, rfl, rfl⟩ := hrel
    go_wp2_with fail
    go_ret2
    exact ⟨A4, d4, rfl, HR4.out, HB4.out⟩
end Go.Proofs.YtkdncnhjlgidnaaGreatDoor
