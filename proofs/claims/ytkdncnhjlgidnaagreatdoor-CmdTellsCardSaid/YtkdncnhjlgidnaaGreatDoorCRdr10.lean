/- What is proved here: the document's own reader: a number more, a text more, the end. -/
import Derived.Test.YtkdncnhjlgidnaaGreatDoorCText10
namespace Go.Proofs.YtkdncnhjlgidnaaGreatDoor
open Go Go.RowKit Go.Maps

/-- The document's reader, as a value. -/
def rdrV (A : Option Addr) (n d p why : Nat) : Array Value := #[.slice A n d, .int .i64 p, .int .i64 why]

set_option maxHeartbeats 1600000 in
theorem num10_any (A : Option Addr) (n d : Nat) (xs : List Int) (p why : Nat) (w : World) (h : Rd w w.heap.size .u8 A n d xs) (hx : ∀ x ∈ xs, 0 ≤ x ∧ x < 256) (hn : n ≤ 1000000) (hp : p ≤ n) :
    Calls Tryz.prog 20 #[.agg (rdrV A n d p why)] w fun e w' => e = .returned (.tuple #[.agg (rdrV A n d (goNum xs p why).2.1 (goNum xs p why).2.2), .int .i64 (goNum xs p why).1]) ∧ Below w.heap.size w w' := by
  unfold rdrV
  by_cases h0 : why = 0
  · subst h0
    have HR := Lib.hid (fun (W : World) (hW : Below w.heap.size w W) => Read1_any A n d xs p W ((h.below hW).more hW.size) hx hn hp)
    clear h hx
    generalize goNum xs p 0 = T at *
    obtain ⟨v, q, er⟩ := T
    go_enter Tryz.func20, Tryz.ntmps20
    go_wp2_with (go_at_call 46; refine (HR.out _ (((Below.refl _ _).alloc (Nat.le_refl _) _).alloc (by simp) _)).mono ?_; rintro e w1 ⟨rfl, hb⟩
                 obtain ⟨hk1, hk2, hb1⟩ := two_blocks hb
                 clear hb
                 have c0 := hk1.cell 0
                 have c1 := hk1.cell 1
                 have c2 := hk1.cell 2
                 have f0 := hk1.free 0
                 have f1 := hk1.free 1
                 have f2 := hk1.free 2
                 have d0 := hk2.cell 0
                 have d1 := hk2.cell 1
                 have d2 := hk2.cell 2
                 have g0 := hk2.free 0
                 have g1 := hk2.free 1
                 have g2 := hk2.free 2
                 simp at c0 c1 c2 d0 d1 d2)
    have hk3 := ((((hk2.other (p := ⟨w.heap.size, 1, none⟩) (by simp) (Value.int IntKind.i64 ↑q)).other (p := ⟨w.heap.size, 2, none⟩) (by simp) (Value.int IntKind.i64 ↑er)).set 0 (Value.slice A n d)).set 1 (Value.int IntKind.i64 ↑q)).set 2 (Value.int IntKind.i64 ↑er)
    have r0 := hk3.cell 0
    have r1 := hk3.cell 1
    have r2 := hk3.cell 2
    simp at r0 r1 r2
    refine bodyPost_ret (v := .tuple #[.agg #[.slice A n d, .int .i64 q, .int .i64 er], .int .i64 v]) (by simp [results, Tryz.results20, go_sem, r0, r1, r2]) rfl ?_
    exact ⟨rfl, ((((hb1.setCell (by simp) _).setCell (by simp) _).setCell (by simp) _).setCell (by simp) _).setCell (by simp) _⟩
  · have hw : goNum xs p why = (0, p, why) := goNum_stop h0
    rw [hw]
    have d0 : ((why : Int) == 0) = false := by simpa using h0
    clear h hx hw
    go_enter Tryz.func20, Tryz.ntmps20
    go_wp2_with fail
    have hb : Below w.heap.size w ((w.alloc (Obj.cells #[Value.slice A n d, Value.int IntKind.i64 ↑p, Value.int IntKind.i64 ↑why] 63)).alloc (Obj.cells #[Value.slice A n d, Value.int IntKind.i64 ↑p, Value.int IntKind.i64 ↑why] 63)) := ((Below.refl _ _).alloc (Nat.le_refl _) _).alloc (by simp) _
    refine bodyPost_ret (v := .tuple #[.agg #[.slice A n d, .int .i64 p, .int .i64 why], .int .i64 0]) (by simp [results, Tryz.results20, go_sem]) rfl ?_
    exact ⟨rfl, hb⟩
set_option maxHeartbeats 1600000 in
theorem text10_any (A : Option Addr) (n d : Nat) (xs : List Int) (p why : Nat) (w : World) (h : Rd w w.heap.size .u8 A n d xs) (hx : ∀ x ∈ xs, 0 ≤ x ∧ x < 256) (hn : n ≤ 1000000) (hp : p ≤ n) :
    Calls Tryz.prog 22 #[.agg (rdrV A n d p why)] w fun e w' => e = .returned (.tuple #[.agg (rdrV A n d (goText xs p why 256).2.1 (goText xs p why 256).2.2), .string (strOfNums (goText xs p why 256).1)]) ∧ Below w.heap.size w w' := by
  unfold rdrV
  by_cases h0 : why = 0
  · subst h0
    have HR := Lib.hid (fun (W : World) (hW : Below w.heap.size w W) => ReadText1_any A n d xs p W ((h.below hW).more hW.size) hx hn hp)
    clear h hx
    generalize goText xs p 0 256 = T at *
    obtain ⟨v, q, er⟩ := T
    go_enter Tryz.func22, Tryz.ntmps22
    go_wp2_with (go_at_call 47; refine (HR.out _ (((Below.refl _ _).alloc (Nat.le_refl _) _).alloc (by simp) _)).mono ?_; rintro e w1 ⟨rfl, hb⟩
                 obtain ⟨hk1, hk2, hb1⟩ := two_blocks hb
                 clear hb
                 have c0 := hk1.cell 0
                 have c1 := hk1.cell 1
                 have c2 := hk1.cell 2
                 have f0 := hk1.free 0
                 have f1 := hk1.free 1
                 have f2 := hk1.free 2
                 have d0 := hk2.cell 0
                 have d1 := hk2.cell 1
                 have d2 := hk2.cell 2
                 have g0 := hk2.free 0
                 have g1 := hk2.free 1
                 have g2 := hk2.free 2
                 simp at c0 c1 c2 d0 d1 d2)
    have hk3 := ((((hk2.other (p := ⟨w.heap.size, 1, none⟩) (by simp) (Value.int IntKind.i64 ↑q)).other (p := ⟨w.heap.size, 2, none⟩) (by simp) (Value.int IntKind.i64 ↑er)).set 0 (Value.slice A n d)).set 1 (Value.int IntKind.i64 ↑q)).set 2 (Value.int IntKind.i64 ↑er)
    have r0 := hk3.cell 0
    have r1 := hk3.cell 1
    have r2 := hk3.cell 2
    simp at r0 r1 r2
    refine bodyPost_ret (v := .tuple #[.agg #[.slice A n d, .int .i64 q, .int .i64 er], .string (strOfNums v)]) (by simp [results, Tryz.results22, go_sem, r0, r1, r2]) rfl ?_
    exact ⟨rfl, ((((hb1.setCell (by simp) _).setCell (by simp) _).setCell (by simp) _).setCell (by simp) _).setCell (by simp) _⟩
  · have hw : goText xs p why 256 = ([], p, why) := goText_stop h0
    rw [hw]
    have d0 : ((why : Int) == 0) = false := by simpa using h0
    clear h hx hw
    go_enter Tryz.func22, Tryz.ntmps22
    go_wp2_with fail
    have hb : Below w.heap.size w ((w.alloc (Obj.cells #[Value.slice A n d, Value.int IntKind.i64 ↑p, Value.int IntKind.i64 ↑why] 63)).alloc (Obj.cells #[Value.slice A n d, Value.int IntKind.i64 ↑p, Value.int IntKind.i64 ↑why] 63)) := ((Below.refl _ _).alloc (Nat.le_refl _) _).alloc (by simp) _
    refine bodyPost_ret (v := .tuple #[.agg #[.slice A n d, .int .i64 p, .int .i64 why], .string ⟨#[]⟩]) (by simp [results, Tryz.results22, go_sem]) rfl ?_
    exact ⟨rfl, hb⟩
set_option maxHeartbeats 800000 in
theorem done10_any (A : Option Addr) (n d p why : Nat) (w : World) :
    Calls Tryz.prog 23 #[.agg (rdrV A n d p why)] w fun e w' => e = .returned (.int .i64 (if why = 0 ∧ p < n then 2 else why : Nat)) ∧ Below w.heap.size w w' := by
  unfold rdrV
  by_cases h0 : why = 0
  · subst h0
    by_cases h1 : p < n
    · rw [if_pos ⟨rfl, h1⟩]
      go_enter Tryz.func23, Tryz.ntmps23
      go_wp2_with fail
      go_ret
      exact ⟨rfl, (Below.refl _ _).alloc (Nat.le_refl _) _⟩
    · rw [if_neg (by omega)]
      go_enter Tryz.func23, Tryz.ntmps23
      go_wp2_with fail
      go_ret
      exact ⟨rfl, (Below.refl _ _).alloc (Nat.le_refl _) _⟩
  · rw [if_neg (by omega)]
    have d0 : ((why : Int) == 0) = false := by simpa using h0
    go_enter Tryz.func23, Tryz.ntmps23
    go_wp2_with fail
    go_ret
    exact ⟨rfl, (Below.refl _ _).alloc (Nat.le_refl _) _⟩
end Go.Proofs.YtkdncnhjlgidnaaGreatDoor
