/- What is proved here: cmd.exactly at a command whose bytes were read: that command. -/
import Derived.Test.YtkdncnhjlgidnaaGreatDoorCExact
namespace Go.Proofs.YtkdncnhjlgidnaaGreatDoor
open Go Go.RowKit

set_option maxHeartbeats 3200000 in
set_option maxRecDepth 100000 in
theorem exact_ok (A : Option Addr) (n d : Nat) (xs : List Int) (g : Nat) (A2 : Option Addr) (d2 : Nat) (L : List ByteArray) (c : CM) (w : World) (hb : Rd w w.heap.size .u8 A n d xs) (hr : Rdr w g A2 n d2 xs n 0) (hn : n ≤ 1000000) (hL : TRd w w.heap.size c.bA c.bn c.bc L) (hyes : c.right L = true) (hbx : ∀ x ∈ xs, 0 ≤ x ∧ x < 256) (heq : c.bytes L = xs) :
    Calls Tryz.prog 37 #[.slice A n d, .pointer (some ⟨g, 0, none⟩), .agg c.cells, .func (.func 12) #[] #[]] w fun e w' =>
      e = .returned (.tuple #[.agg c.cells, .nilIface]) ∧ Below w.heap.size w w' := by
  obtain ⟨cs, hcs⟩ : ∃ cs, cs = c.cells := ⟨_, rfl⟩
  have i1 := c.info
  have o1 := c.ones
  have hs1 : cs.size = 18 := by rw [hcs]; rfl
  rw [← hcs] at i1 o1
  have HWR : Hid (∀ W, Below w.heap.size w W → Calls Tryz.prog 12 #[.agg cs] W fun e w' => ∃ (A : Option Addr) (n d : Nat), e = .returned (.tuple #[.slice A n d, .nilIface]) ∧ Rd w' w'.heap.size .u8 A n d (c.bytes L) ∧ Below W.heap.size W w') := Lib.hid (fun W hW => by rw [hcs]; exact Write_ok c L W ((hL.below hW).more hW.size) hyes)
  rw [← hcs]
  obtain ⟨cz, hcz⟩ : ∃ cz, cz = CM.zero.cells := ⟨_, rfl⟩
  have iz := CM.zero.info
  have oz := CM.zero.ones
  have hsz : cz.size = 18 := by rw [hcz]; rfl
  rw [← hcz] at iz oz
  have I1 := Lib.hid i1; have O1 := Lib.hid o1; have S1 := Lib.hid hs1; have IZ := Lib.hid iz; have OZ := Lib.hid oz; have SZ := Lib.hid hsz
  have HR := Lib.hid hr; have HB := Lib.hid hb
  clear hcs i1 hs1 o1 iz oz hsz hr hb
  go_enter Tryz.func37, Tryz.ntmps37
  go_upto_region 2 with fail
  change Code.wp _ _ _ _ (((w.alloc (.cells cs 50)).alloc (.cells CM.zero.cells 50)).alloc (.cells CM.zero.cells 50))
  rw [← hcz]
  clear hcz
  obtain ⟨hb6, hb8, hb10, hbel, hsW⟩ := boxes3 w cs cz cz
  generalize ((w.alloc (.cells cs 50)).alloc (.cells cz 50)).alloc (.cells cz 50) = W at *
  have HB6 := Lib.hid hb6; have HB8 := Lib.hid hb8; have HB10 := Lib.hid hb10; have HBEL := Lib.hid hbel; have HSW := Lib.hid hsW
  have HRW := Lib.hid (HR.out.keep hbel)
  clear hb6 hb8 hb10 hbel hsW
  have HD : Hid (decide (c.bytes L = xs) = true) := Lib.hid (decide_eq_true heq)
  have hbc : ∀ x ∈ c.bytes L, 0 ≤ x ∧ x < 256 := by rw [heq]; exact hbx
  clear hL hyes heq
  go_upto_region 8 with (first
    | (go_at_call 45; refine (Done_fine g A2 n d2 xs W HRW.out hn).mono ?_; rintro e w1 ⟨rfl, hb1⟩
       have HB6' := Lib.hid (HB6.out.below hb1 HB6.out.lt); have HB8' := Lib.hid (HB8.out.below hb1 HB8.out.lt); have HB10' := Lib.hid (HB10.out.below hb1 HB10.out.lt); have HBEL1 := Lib.hid (HBEL.out.trans (hb1.mono HBEL.out.size)); have HS1 : Hid (w.heap.size + 3 ≤ w1.heap.size) := Lib.hid (by have := hb1.size; have := HSW.out; omega)
       clear hb1)
    | (refine wpList_load_row (o := ⟨some 22, .load 50 (.tmp 6), _, _, _, _⟩) rfl 50 (.tmp 6) rfl _ rfl 50 cs (0, 0) _ HB6'.out Tryz.underlying50 rfl I1.out ?_)
    | (go_at_call 12; refine (HWR.out w1 HBEL1.out).mono ?_; rintro e w2 ⟨A3, n3, d3, rfl, hr3, hb2⟩
       have HR3 := Lib.hid hr3; have HB6'' := Lib.hid (HB6'.out.below hb2 HB6'.out.lt); have HB8'' := Lib.hid (HB8'.out.below hb2 HB8'.out.lt); have HB10'' := Lib.hid (HB10'.out.below hb2 HB10'.out.lt); have HBEL2 := Lib.hid (HBEL1.out.trans (hb2.mono HBEL1.out.size)); have HS2 : Hid (w.heap.size + 3 ≤ w2.heap.size) := Lib.hid (Nat.le_trans HS1.out hb2.size); clear hb2; clear hr3; have HBX := Lib.hid (HB.out.below HBEL2.out))
    | (go_at_call 10; refine (Equal_any A3 A n3 d3 n d _ _ (c.bytes L) xs w2 HR3.out HBX.out hbc hbx).mono ?_; rw [HD.out]; rintro e w3 ⟨rfl, rfl⟩))
  go_wp2_with (first
    | (refine wpList_store_row (o := ⟨none, .store 50 (.tmp 8) (.tmp 38), _, _, _, _⟩) rfl 50 (.tmp 8) (.tmp 38) rfl _ cs rfl rfl 50 cz HB8''.out I1.out (by rw [SZ.out, S1.out]) O1.out ?_)
    | (refine wpList_load_row (o := ⟨some 38, .load 50 (.tmp 6), _, _, _, _⟩) rfl 50 (.tmp 6) rfl _ rfl 50 cs (0, 0) _ HB6''.out Tryz.underlying50 rfl I1.out ?_))
  refine bodyPost_ret (v := .tuple #[.agg cs, .nilIface]) ?_ rfl ?_
  · refine Eq.trans (results_cell_row_tmp (p := 8) (u := 9) Tryz.results37 _ _ _ 50 cs (0, 0) _ ?_ (HB8''.out.row (cs' := cs)) Tryz.underlying50 rfl I1.out) ?_
    · rfl
    · rfl
  · exact ⟨rfl, below_setRow HBEL2.out (Nat.le_succ _) _⟩
end Go.Proofs.YtkdncnhjlgidnaaGreatDoor
