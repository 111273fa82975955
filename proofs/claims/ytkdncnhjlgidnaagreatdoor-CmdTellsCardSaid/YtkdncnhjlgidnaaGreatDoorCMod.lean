/- What is proved here: commands as they lie in memory, plainly; and the small functions of package cmd: fits, short, flag, shifted, numbers, texts. -/
import Derived.Test.YtkdncnhjlgidnaaGreatDoorCPlain
import Derived.BigRegion
import Derived.Deep.DeepCutAuto
import Derived.Laws.Tables
import Derived.Laws.CopyOwn
namespace Go.Proofs.YtkdncnhjlgidnaaGreatDoor
open Go Go.RowKit

/-- A command: its fields, the bodies by their slice. -/
structure CM where
  cl : Int
  rq : Int
  kd : Int
  qn : ByteArray
  vi : Int
  re : Int
  de : Int
  wi : Int
  mx : Int
  dd : ByteArray
  ff : Bool
  bo : ByteArray
  gr : ByteArray
  ky : ByteArray
  rc : ByteArray
  bA : Option Addr
  bn : Nat
  bc : Nat
  n : Int
  m : Int
def CM.cells (c : CM) : Array Value := #[.int .i64 c.cl, .int .i64 c.rq, .int .i64 c.kd, .string c.qn, .int .i64 c.vi, .int .i64 c.re, .int .i64 c.de, .int .i64 c.wi, .int .i64 c.mx, .string c.dd, .bool c.ff, .string c.bo, .string c.gr, .string c.ky, .string c.rc, .slice c.bA c.bn c.bc, .int .i64 c.n, .int .i64 c.m]
def CM.ns (c : CM) : List Int := [c.cl, c.rq, c.kd, c.n, c.m, c.vi, c.re, c.de, c.wi, c.mx]
def CM.ts (c : CM) : List ByteArray := [c.qn, c.dd, c.bo, c.gr, c.ky, c.rc]
/-- Where the numbers, and the texts, lie. -/
def noff : List Nat := [0, 1, 2, 16, 17, 4, 5, 6, 7, 8]
def toff : List Nat := [3, 9, 11, 12, 13, 14]
theorem lt_ten {P : Nat → Prop} (h0 : P 0) (h1 : P 1) (h2 : P 2) (h3 : P 3) (h4 : P 4) (h5 : P 5) (h6 : P 6) (h7 : P 7) (h8 : P 8) (h9 : P 9) : ∀ j, j < 10 → P j
  | 0, _ => h0
  | 1, _ => h1
  | 2, _ => h2
  | 3, _ => h3
  | 4, _ => h4
  | 5, _ => h5
  | 6, _ => h6
  | 7, _ => h7
  | 8, _ => h8
  | 9, _ => h9
  | j + 10, h => absurd h (by omega)
theorem lt_six {P : Nat → Prop} (h0 : P 0) (h1 : P 1) (h2 : P 2) (h3 : P 3) (h4 : P 4) (h5 : P 5) : ∀ j, j < 6 → P j
  | 0, _ => h0
  | 1, _ => h1
  | 2, _ => h2
  | 3, _ => h3
  | 4, _ => h4
  | 5, _ => h5
  | j + 6, h => absurd h (by omega)
theorem CM.num_at (c : CM) : ∀ j, j < 10 → c.cells[noff.getD j 0]? = some (.int .i64 (c.ns.getD j 0)) := lt_ten rfl rfl rfl rfl rfl rfl rfl rfl rfl rfl
theorem CM.text_at (c : CM) : ∀ j, j < 6 → c.cells[toff.getD j 0]? = some (.string (c.ts.getD j ⟨#[]⟩)) := lt_six rfl rfl rfl rfl rfl rfl

/-- Numbers that fit the machine's words. -/
def I64 (x : Int) : Prop := -9223372036854775808 ≤ x ∧ x ≤ 9223372036854775807
/-- A number that may be written. -/
def fitB (x : Int) : Bool := decide (0 ≤ x) && decide (x ≤ 4611686018427387904)

set_option maxHeartbeats 400000 in
theorem fits_any (x : Int) (w : World) : Calls Tryz.prog 54 #[.int .i64 x] w fun e w' => e = .returned (.bool (fitB x)) ∧ w = w' := by
  unfold fitB
  by_cases h : 0 ≤ x
  · go_enter Tryz.func54, Tryz.ntmps54
    go_wp2
    go_ret
    simp [h]
  · have h' : decide (0 ≤ x) = false := decide_eq_false h
    rw [h', Bool.false_and]
    go_enter Tryz.func54, Tryz.ntmps54
    go_wp2
    go_ret
    simp
set_option maxHeartbeats 400000 in
theorem short_any (s : ByteArray) (w : World) : Calls Tryz.prog 56 #[.string s] w fun e w' => e = .returned (.bool (decide (s.size ≤ 256))) ∧ w = w' := by
  have e : decide (s.size ≤ 256) = decide ((s.size : Int) ≤ 256) := by by_cases h : s.size ≤ 256 <;> simp [h] <;> omega
  rw [e]
  go_enter Tryz.func56, Tryz.ntmps56
  go_wp2
  go_ret
  simp
set_option maxHeartbeats 400000 in
theorem flag_any (b : Bool) (w : World) : Calls Tryz.prog 33 #[.bool b] w fun e w' => e = .returned (.int .i64 (if b then 1 else 0)) ∧ w = w' := by
  cases b
  all_goals
    go_enter Tryz.func33, Tryz.ntmps33
    go_wp2
    go_ret
    simp
/-- A struct in one block: loaded, and stored, whole. -/
theorem info_cmd : (Tryz.prog.info? 50).map (·.size) = some 18 := by kernel_rfl
theorem CM.size (c : CM) : c.cells.size = 18 := rfl
theorem CM.ones (c : CM) : c.cells.all (·.oneCell') = true := by unfold CM.cells; simp [Value.oneCell']
theorem CM.info (c : CM) : (Tryz.prog.info? 50).map (·.size) = some c.cells.size := info_cmd
/-- No command. -/
def CM.zero : CM := ⟨0, 0, 0, ⟨#[]⟩, 0, 0, 0, 0, 0, ⟨#[]⟩, false, ⟨#[]⟩, ⟨#[]⟩, ⟨#[]⟩, ⟨#[]⟩, none, 0, 0, 0, 0⟩
theorem Blk.row {w : World} {g : Nat} {t : TypeId} {cs cs' : Array Value} (h : Blk w g t cs) : Blk (w.setRow g cs') g t cs' := setRow_heap w g cs cs' t (0, 0) h
/-- A command as the numbers lie: one more than said. -/
def CM.shift (c : CM) : CM := { c with n := wrap64 (c.n + 1) }
theorem CM.shift_cells (c : CM) : c.cells.setIfInBounds 16 (.int .i64 (wrap64 (c.n + 1))) = c.shift.cells := rfl

set_option maxHeartbeats 1600000 in
set_option maxRecDepth 100000 in
theorem shifted_any (c : CM) (w : World) : Calls Tryz.prog 30 #[.agg c.cells] w fun e w' => e = .returned (.agg c.shift.cells) ∧ Below w.heap.size w w' := by
  obtain ⟨cs, hcs⟩ : ∃ cs, cs = c.cells := ⟨_, rfl⟩
  obtain ⟨cs', hcs'⟩ : ∃ cs, cs = c.shift.cells := ⟨_, rfl⟩
  have hsh := c.shift_cells
  have i1 := c.info; have i2 := c.shift.info; have o2 := c.shift.ones; have h18 : cs[16]? = some (.int .i64 c.n) := by rw [hcs]; rfl
  have hs1 : cs.size = 18 := by rw [hcs]; rfl
  have hs2 : cs'.size = 18 := by rw [hcs']; rfl
  rw [← hcs, ← hcs'] at hsh
  rw [← hcs] at i1
  rw [← hcs'] at i2 o2
  rw [← hcs, ← hcs']
  have I1 := Lib.hid i1; have I2 := Lib.hid i2; have O2 := Lib.hid o2; have SH := Lib.hid hsh; have S1 := Lib.hid hs1; have S2 := Lib.hid hs2
  clear hcs hcs' hsh i1 i2 o2 hs1 hs2
  go_enter Tryz.func30, Tryz.ntmps30
  go_upto_region 1 with fail
  obtain ⟨W, hW⟩ : ∃ W, W = (w.alloc (.cells cs 50)).alloc (.cells CM.zero.cells 50) := ⟨_, rfl⟩
  have hb1 : Blk W w.heap.size 50 cs := by rw [hW]; exact (Blk.fresh w 50 cs).alloc _
  have hb2 : Blk W (w.heap.size + 1) 50 CM.zero.cells := by rw [hW]; simpa using Blk.fresh (w.alloc (.cells cs 50)) 50 CM.zero.cells
  have hbel : Below w.heap.size w W := by rw [hW]; exact ((Below.refl _ _).alloc (Nat.le_refl _) _).alloc (by simp) _
  show Code.wp _ _ _ _ ((w.alloc (.cells cs 50)).alloc (.cells CM.zero.cells 50))
  rw [← hW]
  clear hW
  have c16 := (hb1.cell 16).trans h18
  have f16 := hb1.free 16
  have hb3 := hb1.set 16 (.int .i64 (wrap64 (c.n + 1)))
  rw [SH.out] at hb3
  have hb4 := hb2.other (p := ⟨w.heap.size, 16, none⟩) (Nat.succ_ne_self _) (.int .i64 (wrap64 (c.n + 1)))
  have HB3 := Lib.hid hb3; have HB4 := Lib.hid hb4; have HBEL := Lib.hid hbel
  clear hb1 hb2 hb3 hb4 hbel h18
  go_wp2_with (first
    | (refine wpList_load_row (o := ⟨some 7, .load 50 (.tmp 1), _, _, _, _⟩) rfl 50 (.tmp 1) rfl w.heap.size rfl 50 cs' (0, 0) _ HB3.out Tryz.underlying50 rfl I2.out ?_)
    | (refine wpList_store_row (o := ⟨none, .store 50 (.tmp 2) (.tmp 7), _, _, _, _⟩) rfl 50 (.tmp 2) (.tmp 7) rfl (w.heap.size + 1) cs' rfl rfl 50 CM.zero.cells HB4.out I2.out (by rw [S2.out]; rfl) O2.out ?_))
  refine bodyPost_ret (v := .agg cs') ?_ rfl ⟨rfl, ?_⟩
  · exact results_cell_row rfl _ _ (w.heap.size + 1) 50 cs' (0, 0) _ rfl (setRow_heap _ _ _ _ _ _ HB4.out) Tryz.underlying50 rfl I2.out
  · exact below_setRow (HBEL.out.setCell (Nat.le_refl _) _) (Nat.le_succ _) _

set_option maxHeartbeats 3200000 in
set_option maxRecDepth 100000 in
theorem numbers_any (b : Nat) (w : World) : Calls Tryz.prog 31 #[.pointer (some ⟨b, 0, none⟩)] w fun e w' =>
    ∃ s, e = .returned (.slice (some ⟨s, 0, none⟩) 10 10) ∧ w.heap.size ≤ s ∧ Blk w' s 86 ((noff.map fun i => Value.pointer (some ⟨b, i, none⟩)).toArray) ∧ Below w.heap.size w w' := by
  go_enter Tryz.func31, Tryz.ntmps31
  go_upto_region 2 with fail
  go_region
  go_wp2
  go_ret
  exact ⟨_, rfl, Nat.le_refl _, Blk.fresh _ _ _, (Below.refl _ _).drew.alloc (Nat.le_refl _) _⟩
set_option maxHeartbeats 3200000 in
set_option maxRecDepth 100000 in
theorem texts_any (b : Nat) (w : World) : Calls Tryz.prog 34 #[.pointer (some ⟨b, 0, none⟩)] w fun e w' =>
    ∃ s, e = .returned (.slice (some ⟨s, 0, none⟩) 6 6) ∧ w.heap.size ≤ s ∧ Blk w' s 91 ((toff.map fun i => Value.pointer (some ⟨b, i, none⟩)).toArray) ∧ Below w.heap.size w w' := by
  go_enter Tryz.func34, Tryz.ntmps34
  go_upto_region 1 with fail
  go_region
  go_wp2
  go_ret
  exact ⟨_, rfl, Nat.le_refl _, Blk.fresh _ _ _, (Below.refl _ _).drew.alloc (Nat.le_refl _) _⟩
end Go.Proofs.YtkdncnhjlgidnaaGreatDoor
