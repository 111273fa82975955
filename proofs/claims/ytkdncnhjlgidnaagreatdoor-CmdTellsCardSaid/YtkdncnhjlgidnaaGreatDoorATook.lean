/- What is proved here: the message that cmd.took reads. -/
import Derived.Test.YtkdncnhjlgidnaaGreatDoorAExact
import Derived.Test.YtkdncnhjlgidnaaGreatDoorCRead10
import Derived.Test.YtkdncnhjlgidnaaGreatDoorCRead
namespace Go.Proofs.YtkdncnhjlgidnaaGreatDoor
open Go Go.RowKit

/-- The message that comes next, the place behind it, and why there is none. -/
def tkR (xs : List Int) (p why : Nat) : TK × Nat × Nat :=
  let a := goNum xs p why
  let b := goNum xs a.2.1 a.2.2
  let c := goText xs b.2.1 b.2.2 256
  let d := goText xs c.2.1 c.2.2 256
  let e := goText xs d.2.1 d.2.2 256
  (⟨a.1, b.1, strOfNums c.1, strOfNums d.1, strOfNums e.1⟩, e.2.1, e.2.2)
theorem rdr_far {w : World} {g : Nat} {A : Option Addr} {n c : Nat} {xs : List Int} {p why b i : Nat} {v : Value} (h : Rdr w g A n c xs p why) (hb : g < b) : Rdr (w.setCell ⟨b, i, none⟩ v) g A n c xs p why :=
  ⟨h.1.other (p := ⟨b, i, none⟩) (by show g ≠ b; omega) v, h.2.keep fun q hq => World.cell?_of_block (Below.heap_setCell w ⟨b, i, none⟩ v q.block (by show q.block ≠ b; omega))⟩
/-- What grew by one block, and has new ones. -/
theorem grow_trans {w a b : World} {g : Nat} (h : w.grownBy a (some g)) (k : a.grownBy b (some g)) : w.grownBy b (some g) :=
  ⟨k.os.trans h.os, k.tape.trans h.tape, k.output.trans h.output, Nat.le_trans h.size k.size, fun i hi hn => (k.block i (Nat.lt_of_lt_of_le hi h.size) hn).trans (h.block i hi hn)⟩
theorem grow_far {w a : World} {g b : Nat} (h : w.grownBy a (some g)) (hb : w.heap.size ≤ b) (i : Nat) (v : Value) : w.grownBy (a.setCell ⟨b, i, none⟩ v) (some g) :=
  ⟨h.os, h.tape, h.output, by simpa using h.size, fun k hk hn => (Below.heap_setCell a ⟨b, i, none⟩ v k (by show k ≠ b; omega)).trans (h.block k hk hn)⟩

theorem rdr_row {w : World} {g : Nat} {A : Option Addr} {n c : Nat} {xs : List Int} {p why b : Nat} {cs : Array Value} (h : Rdr w g A n c xs p why) (hb : g < b) : Rdr (w.setRow b cs) g A n c xs p why :=
  ⟨(setRow_other w b g cs (by omega)).trans h.1, h.2.keep fun q hq => World.cell?_of_block (setRow_other w b q.block cs (by omega))⟩
theorem grow_row {w a : World} {g b : Nat} {cs : Array Value} (h : w.grownBy a (some g)) (hb : w.heap.size ≤ b) : w.grownBy (a.setRow b cs) (some g) :=
  ⟨h.os, h.tape, h.output, by simpa using h.size, fun k hk hn => (setRow_other a b k cs (by omega)).trans (h.block k hk hn)⟩
theorem info_tk5 : (Tryz.prog.info? 59).map (·.size) = some 5 := by kernel_rfl

set_option maxHeartbeats 3200000 in
theorem took_any (g : Nat) (A : Option Addr) (d : Nat) (xs : List Int) (p why : Nat) (w : World) (hr : Rdr w g A xs.length d xs p why) (hw : Ok3 why) (hx : ∀ x ∈ xs, 0 ≤ x ∧ x < 256) (hn : xs.length ≤ 1000000) (hp : p ≤ xs.length) :
    Calls Tryz.prog 18 #[.pointer (some ⟨g, 0, none⟩)] w fun e w' => e = .returned (.agg (tkR xs p why).1.cells) ∧ Rdr w' g A xs.length d xs (tkR xs p why).2.1 (tkR xs p why).2.2 ∧ w.grownBy w' (some g) := by
  have HN0 : Hid (∀ W, Rdr W g A xs.length d xs p why → _) := Lib.hid fun W h => ReaderNum_any g A xs.length d xs p why W h hw hx hn hp
  unfold tkR TK.cells
  have k1 : (goNum xs p why).2.1 ≤ xs.length ∧ Ok3 (goNum xs p why).2.2 := ⟨goNum_le hp, goNum_ok3 hw⟩
  generalize goNum xs p why = T0 at *
  obtain ⟨v0, p1, y1⟩ := T0
  dsimp only at k1 HN0 ⊢
  have HN1 : Hid (∀ W, Rdr W g A xs.length d xs p1 y1 → _) := Lib.hid fun W h => ReaderNum_any g A xs.length d xs p1 y1 W h k1.2 hx hn k1.1
  have k2 : (goNum xs p1 y1).2.1 ≤ xs.length ∧ Ok3 (goNum xs p1 y1).2.2 := ⟨goNum_le k1.1, goNum_ok3 k1.2⟩
  generalize goNum xs p1 y1 = T1 at *
  obtain ⟨v1, p2, y2⟩ := T1
  dsimp only at k2 HN1 ⊢
  have HN2 : Hid (∀ W, Rdr W g A xs.length d xs p2 y2 → _) := Lib.hid fun W h => ReaderText_any g A xs.length d xs p2 y2 W h k2.2 hx hn k2.1 256
  have k3 : (goText xs p2 y2 256).2.1 ≤ xs.length ∧ Ok3 (goText xs p2 y2 256).2.2 := ⟨(goText_ok3 k2.1 k2.2).2, (goText_ok3 k2.1 k2.2).1⟩
  generalize goText xs p2 y2 256 = T2 at *
  obtain ⟨v2, p3, y3⟩ := T2
  dsimp only at k3 HN2 ⊢
  have HN3 : Hid (∀ W, Rdr W g A xs.length d xs p3 y3 → _) := Lib.hid fun W h => ReaderText_any g A xs.length d xs p3 y3 W h k3.2 hx hn k3.1 256
  have k4 : (goText xs p3 y3 256).2.1 ≤ xs.length ∧ Ok3 (goText xs p3 y3 256).2.2 := ⟨(goText_ok3 k3.1 k3.2).2, (goText_ok3 k3.1 k3.2).1⟩
  generalize goText xs p3 y3 256 = T3 at *
  obtain ⟨v3, p4, y4⟩ := T3
  dsimp only at k4 HN3 ⊢
  have HN4 : Hid (∀ W, Rdr W g A xs.length d xs p4 y4 → _) := Lib.hid fun W h => ReaderText_any g A xs.length d xs p4 y4 W h k4.2 hx hn k4.1 256
  generalize goText xs p4 y4 256 = T4 at *
  obtain ⟨v4, p5, y5⟩ := T4
  dsimp only at HN4 ⊢
  generalize strOfNums v2 = v2 at *
  generalize strOfNums v3 = v3 at *
  generalize strOfNums v4 = v4 at *
  have HGL : Hid (g < w.heap.size) := Lib.hid hr.1.lt
  have HR0 : Hid (Rdr (w.alloc (.cells #[.int .i64 0, .int .i64 0, .string ⟨#[]⟩, .string ⟨#[]⟩, .string ⟨#[]⟩] 59)) g A xs.length d xs p why) := Lib.hid (hr.keep ((Below.refl _ _).alloc (Nat.le_refl _) _))
  have HX0 : Hid (Blk (w.alloc (.cells #[.int .i64 0, .int .i64 0, .string ⟨#[]⟩, .string ⟨#[]⟩, .string ⟨#[]⟩] 59)) w.heap.size 59 #[.int .i64 0, .int .i64 0, .string ⟨#[]⟩, .string ⟨#[]⟩, .string ⟨#[]⟩]) := Lib.hid (Blk.fresh _ _ _)
  have HB0 : Hid (w.grownBy (w.alloc (.cells #[.int .i64 0, .int .i64 0, .string ⟨#[]⟩, .string ⟨#[]⟩, .string ⟨#[]⟩] 59)) (some g)) := Lib.hid (grow_below ((Below.refl _ _).alloc (Nat.le_refl _) _))
  clear hr hw hx hn hp k1 k2 k3 k4
  go_enter Tryz.func18, Tryz.ntmps18
  go_wp2_with (first
    | (go_at_call 16; with_reducible refine (HN0.out (w.alloc (.cells #[.int .i64 0, .int .i64 0, .string ⟨#[]⟩, .string ⟨#[]⟩, .string ⟨#[]⟩] 59)) HR0.out).mono ?_; rintro e u1 ⟨rfl, hr, hg⟩
       have hx : Blk u1 w.heap.size 59 #[.int .i64 0, .int .i64 0, .string ⟨#[]⟩, .string ⟨#[]⟩, .string ⟨#[]⟩] := Blk.grown HX0.out hg (by have := HGL.out; intro e; injection e with e; omega)
       have HR1 := Lib.hid hr; have HB1 := Lib.hid (grow_trans HB0.out hg); have HX1 := Lib.hid hx
       have z0 := hx.cell 0
       have f0 := hx.free 0
       simp at z0
       clear hr hg hx)
    | (go_at_call 16; with_reducible refine (HN1.out (u1.setCell ⟨w.heap.size, 0, none⟩ (.int .i64 v0)) (rdr_far HR1.out HGL.out)).mono ?_; rintro e u2 ⟨rfl, hr, hg⟩
       have hx : Blk u2 w.heap.size 59 #[.int .i64 v0, .int .i64 0, .string ⟨#[]⟩, .string ⟨#[]⟩, .string ⟨#[]⟩] := Blk.grown (HX1.out.set 0 (.int .i64 v0)) hg (by have := HGL.out; intro e; injection e with e; omega)
       have HR2 := Lib.hid hr; have HB2 := Lib.hid (grow_trans (grow_far HB1.out (Nat.le_refl _) 0 (.int .i64 v0)) hg); have HX2 := Lib.hid hx
       have z1 := hx.cell 1
       have f1 := hx.free 1
       simp at z1
       clear hr hg hx)
    | (go_at_call 36; with_reducible refine (HN2.out (u2.setCell ⟨w.heap.size, 1, none⟩ (.int .i64 v1)) (rdr_far HR2.out HGL.out)).mono ?_; rintro e u3 ⟨rfl, hr, hg⟩
       have hx : Blk u3 w.heap.size 59 #[.int .i64 v0, .int .i64 v1, .string ⟨#[]⟩, .string ⟨#[]⟩, .string ⟨#[]⟩] := Blk.grown (HX2.out.set 1 (.int .i64 v1)) hg (by have := HGL.out; intro e; injection e with e; omega)
       have HR3 := Lib.hid hr; have HB3 := Lib.hid (grow_trans (grow_far HB2.out (Nat.le_refl _) 1 (.int .i64 v1)) hg); have HX3 := Lib.hid hx
       have z2 := hx.cell 2
       have f2 := hx.free 2
       simp at z2
       clear hr hg hx)
    | (go_at_call 36; with_reducible refine (HN3.out (u3.setCell ⟨w.heap.size, 2, none⟩ (.string v2)) (rdr_far HR3.out HGL.out)).mono ?_; rintro e u4 ⟨rfl, hr, hg⟩
       have hx : Blk u4 w.heap.size 59 #[.int .i64 v0, .int .i64 v1, .string v2, .string ⟨#[]⟩, .string ⟨#[]⟩] := Blk.grown (HX3.out.set 2 (.string v2)) hg (by have := HGL.out; intro e; injection e with e; omega)
       have HR4 := Lib.hid hr; have HB4 := Lib.hid (grow_trans (grow_far HB3.out (Nat.le_refl _) 2 (.string v2)) hg); have HX4 := Lib.hid hx
       have z3 := hx.cell 3
       have f3 := hx.free 3
       simp at z3
       clear hr hg hx)
    | (go_at_call 36; with_reducible refine (HN4.out (u4.setCell ⟨w.heap.size, 3, none⟩ (.string v3)) (rdr_far HR4.out HGL.out)).mono ?_; rintro e u5 ⟨rfl, hr, hg⟩
       have hx : Blk u5 w.heap.size 59 #[.int .i64 v0, .int .i64 v1, .string v2, .string v3, .string ⟨#[]⟩] := Blk.grown (HX4.out.set 3 (.string v3)) hg (by have := HGL.out; intro e; injection e with e; omega)
       have HR5 := Lib.hid hr; have HB5 := Lib.hid (grow_trans (grow_far HB4.out (Nat.le_refl _) 3 (.string v3)) hg); have HX5 := Lib.hid hx
       have z4 := hx.cell 4
       have f4 := hx.free 4
       simp at z4
       clear hr hg hx)
    | (with_reducible refine at_dst (o := ⟨some 18, _, _, _, _, _⟩) (some 18) rfl ?_
       refine wpList_load_row rfl 59 (.tmp 2) rfl w.heap.size rfl 59 #[.int .i64 v0, .int .i64 v1, .string v2, .string v3, .string v4] (0, 0) _ (show Blk (u5.setCell ⟨w.heap.size, 4, none⟩ (.string v4)) w.heap.size 59 #[.int .i64 v0, .int .i64 v1, .string v2, .string v3, .string v4] from HX5.out.set 4 (.string v4)) Tryz.underlying59 rfl info_tk5 ?_)
    | (with_reducible refine at_dst (o := ⟨none, .store 59 (.tmp 2) (.tmp 18), _, _, _, _⟩) none rfl ?_
       refine wpList_store_row rfl 59 (.tmp 2) (.tmp 18) rfl w.heap.size #[.int .i64 v0, .int .i64 v1, .string v2, .string v3, .string v4] rfl rfl 59 #[.int .i64 v0, .int .i64 v1, .string v2, .string v3, .string v4] (show Blk (u5.setCell ⟨w.heap.size, 4, none⟩ (.string v4)) w.heap.size 59 #[.int .i64 v0, .int .i64 v1, .string v2, .string v3, .string v4] from HX5.out.set 4 (.string v4)) info_tk5 rfl (by simp [Value.oneCell']) ?_))
  have hx5 : Blk (u5.setCell ⟨w.heap.size, 4, none⟩ (.string v4)) w.heap.size 59 #[.int .i64 v0, .int .i64 v1, .string v2, .string v3, .string v4] := HX5.out.set 4 (.string v4)
  refine bodyPost_ret (v := .agg #[.int .i64 v0, .int .i64 v1, .string v2, .string v3, .string v4]) ?_ rfl ?_
  · exact results_cell_row (p := 2) Tryz.results18 _ _ w.heap.size 59 #[.int .i64 v0, .int .i64 v1, .string v2, .string v3, .string v4] (0, 0) _ rfl (hx5.row (cs' := #[.int .i64 v0, .int .i64 v1, .string v2, .string v3, .string v4])) Tryz.underlying59 rfl info_tk5
  · exact ⟨rfl, rdr_row (rdr_far HR5.out HGL.out) HGL.out, grow_row (grow_far HB5.out (Nat.le_refl _) 4 (.string v4)) (Nat.le_refl _)⟩
end Go.Proofs.YtkdncnhjlgidnaaGreatDoor
