/- What is proved here: cmd.exactly at an answer: what a reader read, if the bytes are its encoding. -/
import Derived.Test.YtkdncnhjlgidnaaGreatDoorAWrite
import Derived.Test.YtkdncnhjlgidnaaGreatDoorCExact2
namespace Go.Proofs.YtkdncnhjlgidnaaGreatDoor
open Go Go.RowKit

def AM.zero : AM := ⟨0, none, 0, 0, none, 0, 0⟩
theorem info_ans : (Tryz.prog.info? 27).map (·.size) = some 3 := by kernel_rfl
theorem AM.info (c : AM) : (Tryz.prog.info? 27).map (·.size) = some c.cells.size := info_ans
theorem AM.ones (c : AM) : c.cells.all (·.oneCell') = true := by unfold AM.cells; simp [Value.oneCell']
theorem aboxes3 (w : World) (a b c : Array Value) : Blk (((w.alloc (.cells a 27)).alloc (.cells b 27)).alloc (.cells c 27)) w.heap.size 27 a ∧
    Blk (((w.alloc (.cells a 27)).alloc (.cells b 27)).alloc (.cells c 27)) (w.heap.size + 1) 27 b ∧
    Blk (((w.alloc (.cells a 27)).alloc (.cells b 27)).alloc (.cells c 27)) (w.heap.size + 2) 27 c ∧
    Below w.heap.size w (((w.alloc (.cells a 27)).alloc (.cells b 27)).alloc (.cells c 27)) ∧
    (((w.alloc (.cells a 27)).alloc (.cells b 27)).alloc (.cells c 27)).heap.size = w.heap.size + 3 := by
  refine ⟨((Blk.fresh w _ a).alloc _).alloc _, ?_, ?_, (((Below.refl _ _).alloc (Nat.le_refl _) _).alloc (by simp) _).alloc (by simp <;> omega) _, by simp⟩
  · have := (Blk.fresh (w.alloc (.cells a 27)) 27 b).alloc (.cells c 27)
    simpa using this
  · simpa using Blk.fresh ((w.alloc (.cells a 27)).alloc (.cells b 27)) 27 c

set_option maxHeartbeats 3200000 in
set_option maxRecDepth 100000 in
theorem aexact_fault (A : Option Addr) (n d : Nat) (xs : List Int) (g : Nat) (A2 : Option Addr) (d2 : Nat) (p why : Nat) (c : AM) (w : World) (hb : Rd w w.heap.size .u8 A n d xs) (hr : Rdr w g A2 n d2 xs p why) (_ : n ≤ 1000000) (hw : why = 2 ∨ why = 3) :
    Calls Tryz.prog 19 #[.slice A n d, .pointer (some ⟨g, 0, none⟩), .agg c.cells, .func (.func 14) #[] #[]] w fun e w' =>
      ∃ er, e = .returned (.tuple #[.agg AM.zero.cells, er]) ∧ WrapsC w' er why ∧ Below w.heap.size w w' := by
  obtain ⟨cs, hcs⟩ : ∃ cs, cs = c.cells := ⟨_, rfl⟩
  have i1 := c.info
  have o1 := c.ones
  have hs1 : cs.size = 3 := by rw [hcs]; rfl
  rw [← hcs] at i1 o1
  rw [← hcs]
  obtain ⟨cz, hcz⟩ : ∃ cz, cz = AM.zero.cells := ⟨_, rfl⟩
  have iz := AM.zero.info
  have oz := AM.zero.ones
  have hsz : cz.size = 3 := by rw [hcz]; rfl
  rw [← hcz] at iz oz
  rw [← hcz]
  have I1 := Lib.hid i1; have O1 := Lib.hid o1; have S1 := Lib.hid hs1; have IZ := Lib.hid iz; have OZ := Lib.hid oz; have SZ := Lib.hid hsz
  have HR := Lib.hid hr; have HB := Lib.hid hb
  clear hcs i1 hs1 o1 iz oz hsz hr hb
  go_enter Tryz.func19, Tryz.ntmps19
  go_upto_region 2 with fail
  change Code.wp _ _ _ _ (((w.alloc (.cells cs 27)).alloc (.cells AM.zero.cells 27)).alloc (.cells AM.zero.cells 27))
  rw [← hcz]
  clear hcz
  obtain ⟨hb6, hb8, hb10, hbel, hsW⟩ := aboxes3 w cs cz cz
  generalize ((w.alloc (.cells cs 27)).alloc (.cells cz 27)).alloc (.cells cz 27) = W at *
  have HB6 := Lib.hid hb6; have HB8 := Lib.hid hb8; have HB10 := Lib.hid hb10; have HBEL := Lib.hid hbel; have HSW := Lib.hid hsW
  have HRW := Lib.hid (HR.out.keep hbel)
  clear hb6 hb8 hb10 hbel hsW
  go_wp2_with (first
    | (go_at_call 45; refine (Done_bad g A2 n d2 xs p why W HRW.out hw).mono ?_; rintro e w1 ⟨f, rfl, hf, hb1⟩
       have HF := Lib.hid hf; have HB8' := Lib.hid (HB8.out.below hb1 HB8.out.lt); have HB10' := Lib.hid (HB10.out.below hb1 HB10.out.lt); have HBEL1 := Lib.hid (HBEL.out.trans (hb1.mono HBEL.out.size)); have HF8 : Hid (f ≠ w.heap.size + 1) := Lib.hid (by intro e; subst e; have h1 := HB8'.out; have h2 := hf; unfold Blk at h1 h2; rw [h2] at h1; simp at h1)
       clear hf hb1)
    | (refine wpList_load_row (o := ⟨some 18, .load 27 (.tmp 10), _, _, _, _⟩) rfl 27 (.tmp 10) rfl _ rfl 27 cz (0, 0) _ HB10'.out Tryz.underlying27 rfl IZ.out ?_)
    | (refine wpList_store_row (o := ⟨none, .store 27 (.tmp 8) (.tmp 18), _, _, _, _⟩) rfl 27 (.tmp 8) (.tmp 18) rfl _ cz rfl rfl 27 cz HB8'.out IZ.out (by rw [SZ.out]) OZ.out ?_))
  refine bodyPost_ret (v := .tuple #[.agg cz, .iface 142 (.pointer (some ⟨f, 0, none⟩))]) ?_ rfl ?_
  · refine Eq.trans (results_cell_row_tmp (p := 8) (u := 9) Tryz.results19 _ _ _ 27 cz (0, 0) _ ?_ (HB8'.out.row (cs' := cz)) Tryz.underlying27 rfl IZ.out) ?_
    · rfl
    · rfl
  · exact ⟨_, rfl, .inl ⟨f, _, rfl, (setRow_other _ _ _ _ HF8.out).trans HF.out⟩, below_setRow HBEL1.out (Nat.le_succ _) _⟩


set_option maxHeartbeats 3200000 in
set_option maxRecDepth 100000 in
theorem aexact_more (A : Option Addr) (n d : Nat) (xs : List Int) (g : Nat) (A2 : Option Addr) (d2 : Nat) (p : Nat) (c : AM) (w : World) (hb : Rd w w.heap.size .u8 A n d xs) (hr : Rdr w g A2 n d2 xs p 0) (hn : n ≤ 1000000) (hp : p < n) :
    Calls Tryz.prog 19 #[.slice A n d, .pointer (some ⟨g, 0, none⟩), .agg c.cells, .func (.func 14) #[] #[]] w fun e w' =>
      ∃ er, e = .returned (.tuple #[.agg AM.zero.cells, er]) ∧ WrapsC w' er 2 ∧ Below w.heap.size w w' := by
  obtain ⟨cs, hcs⟩ : ∃ cs, cs = c.cells := ⟨_, rfl⟩
  have i1 := c.info
  have o1 := c.ones
  have hs1 : cs.size = 3 := by rw [hcs]; rfl
  rw [← hcs] at i1 o1
  rw [← hcs]
  obtain ⟨cz, hcz⟩ : ∃ cz, cz = AM.zero.cells := ⟨_, rfl⟩
  have iz := AM.zero.info
  have oz := AM.zero.ones
  have hsz : cz.size = 3 := by rw [hcz]; rfl
  rw [← hcz] at iz oz
  rw [← hcz]
  have I1 := Lib.hid i1; have O1 := Lib.hid o1; have S1 := Lib.hid hs1; have IZ := Lib.hid iz; have OZ := Lib.hid oz; have SZ := Lib.hid hsz
  have HR := Lib.hid hr; have HB := Lib.hid hb
  clear hcs i1 hs1 o1 iz oz hsz hr hb
  go_enter Tryz.func19, Tryz.ntmps19
  go_upto_region 2 with fail
  change Code.wp _ _ _ _ (((w.alloc (.cells cs 27)).alloc (.cells AM.zero.cells 27)).alloc (.cells AM.zero.cells 27))
  rw [← hcz]
  clear hcz
  obtain ⟨hb6, hb8, hb10, hbel, hsW⟩ := aboxes3 w cs cz cz
  generalize ((w.alloc (.cells cs 27)).alloc (.cells cz 27)).alloc (.cells cz 27) = W at *
  have HB6 := Lib.hid hb6; have HB8 := Lib.hid hb8; have HB10 := Lib.hid hb10; have HBEL := Lib.hid hbel; have HSW := Lib.hid hsW
  have HRW := Lib.hid (HR.out.keep hbel)
  clear hb6 hb8 hb10 hbel hsW
  go_wp2_with (first
    | (go_at_call 45; refine (Done_more g A2 n d2 xs p W HRW.out hn hp).mono ?_; rintro e w1 ⟨f, rfl, hf, hb1⟩
       have HF := Lib.hid hf; have HB8' := Lib.hid (HB8.out.below hb1 HB8.out.lt); have HB10' := Lib.hid (HB10.out.below hb1 HB10.out.lt); have HBEL1 := Lib.hid (HBEL.out.trans (hb1.mono HBEL.out.size)); have HF8 : Hid (f ≠ w.heap.size + 1) := Lib.hid (by intro e; subst e; have h1 := HB8'.out; have h2 := hf; unfold Blk at h1 h2; rw [h2] at h1; simp at h1)
       clear hf hb1)
    | (refine wpList_load_row (o := ⟨some 18, .load 27 (.tmp 10), _, _, _, _⟩) rfl 27 (.tmp 10) rfl _ rfl 27 cz (0, 0) _ HB10'.out Tryz.underlying27 rfl IZ.out ?_)
    | (refine wpList_store_row (o := ⟨none, .store 27 (.tmp 8) (.tmp 18), _, _, _, _⟩) rfl 27 (.tmp 8) (.tmp 18) rfl _ cz rfl rfl 27 cz HB8'.out IZ.out (by rw [SZ.out]) OZ.out ?_))
  refine bodyPost_ret (v := .tuple #[.agg cz, .iface 142 (.pointer (some ⟨f, 0, none⟩))]) ?_ rfl ?_
  · refine Eq.trans (results_cell_row_tmp (p := 8) (u := 9) Tryz.results19 _ _ _ 27 cz (0, 0) _ ?_ (HB8'.out.row (cs' := cz)) Tryz.underlying27 rfl IZ.out) ?_
    · rfl
    · rfl
  · exact ⟨_, rfl, .inl ⟨f, _, rfl, (setRow_other _ _ _ _ HF8.out).trans HF.out⟩, below_setRow HBEL1.out (Nat.le_succ _) _⟩


set_option maxHeartbeats 3200000 in
set_option maxRecDepth 100000 in
theorem aexact_wrong (A : Option Addr) (n d : Nat) (xs : List Int) (g : Nat) (A2 : Option Addr) (d2 : Nat) (I : List Int) (T : List TK) (c : AM) (w : World) (hb : Rd w w.heap.size .u8 A n d xs) (hr : Rdr w g A2 n d2 xs n 0) (hn : n ≤ 1000000) (hI : Rd w w.heap.size .i64 c.iA c.iN c.iC I) (hT : KRd w w.heap.size c.tA c.tN c.tC T) (hno : aRight c.cd I T = false) :
    Calls Tryz.prog 19 #[.slice A n d, .pointer (some ⟨g, 0, none⟩), .agg c.cells, .func (.func 14) #[] #[]] w fun e w' =>
      ∃ er, e = .returned (.tuple #[.agg AM.zero.cells, er]) ∧ WrapsC w' er 2 ∧ Below w.heap.size w w' := by
  obtain ⟨cs, hcs⟩ : ∃ cs, cs = c.cells := ⟨_, rfl⟩
  have i1 := c.info
  have o1 := c.ones
  have hs1 : cs.size = 3 := by rw [hcs]; rfl
  rw [← hcs] at i1 o1
  have HWR : Hid (∀ W, Below w.heap.size w W → Calls Tryz.prog 14 #[.agg cs] W fun e w' => ∃ (f : Nat) (s : ByteArray), e = .returned (.tuple #[.slice none 0 0, .iface 79 (.pointer (some ⟨f, 0, none⟩))]) ∧ Blk w' f 81 #[.string s, .int .i64 1] ∧ Below W.heap.size W w') := Lib.hid (fun W hW => by rw [hcs]; exact WriteAnswer_no c I T W (hI.later hW) (hT.later hW) hno)
  rw [← hcs]
  obtain ⟨cz, hcz⟩ : ∃ cz, cz = AM.zero.cells := ⟨_, rfl⟩
  have iz := AM.zero.info
  have oz := AM.zero.ones
  have hsz : cz.size = 3 := by rw [hcz]; rfl
  rw [← hcz] at iz oz
  rw [← hcz]
  have I1 := Lib.hid i1; have O1 := Lib.hid o1; have S1 := Lib.hid hs1; have IZ := Lib.hid iz; have OZ := Lib.hid oz; have SZ := Lib.hid hsz
  have HR := Lib.hid hr; have HB := Lib.hid hb
  clear hcs i1 hs1 o1 iz oz hsz hr hb
  go_enter Tryz.func19, Tryz.ntmps19
  go_upto_region 2 with fail
  change Code.wp _ _ _ _ (((w.alloc (.cells cs 27)).alloc (.cells AM.zero.cells 27)).alloc (.cells AM.zero.cells 27))
  rw [← hcz]
  clear hcz
  obtain ⟨hb6, hb8, hb10, hbel, hsW⟩ := aboxes3 w cs cz cz
  generalize ((w.alloc (.cells cs 27)).alloc (.cells cz 27)).alloc (.cells cz 27) = W at *
  have HB6 := Lib.hid hb6; have HB8 := Lib.hid hb8; have HB10 := Lib.hid hb10; have HBEL := Lib.hid hbel; have HSW := Lib.hid hsW
  have HRW := Lib.hid (HR.out.keep hbel)
  clear hb6 hb8 hb10 hbel hsW
  clear hI hT hno
  go_wp2_with (first
    | (go_at_call 45; refine (Done_fine g A2 n d2 xs W HRW.out hn).mono ?_; rintro e w1 ⟨rfl, hb1⟩
       have HB6' := Lib.hid (HB6.out.below hb1 HB6.out.lt); have HB8' := Lib.hid (HB8.out.below hb1 HB8.out.lt); have HB10' := Lib.hid (HB10.out.below hb1 HB10.out.lt); have HBEL1 := Lib.hid (HBEL.out.trans (hb1.mono HBEL.out.size)); have HS1 : Hid (w.heap.size + 3 ≤ w1.heap.size) := Lib.hid (by have := hb1.size; have := HSW.out; omega)
       clear hb1)
    | (refine wpList_load_row (o := ⟨some 22, .load 27 (.tmp 6), _, _, _, _⟩) rfl 27 (.tmp 6) rfl _ rfl 27 cs (0, 0) _ HB6'.out Tryz.underlying27 rfl I1.out ?_)
    | (go_at_call 14; refine (HWR.out w1 HBEL1.out).mono ?_; rintro e w2 ⟨f, s, rfl, hf, hb2⟩
       have HB6'' := Lib.hid (HB6'.out.below hb2 HB6'.out.lt); have HB8'' := Lib.hid (HB8'.out.below hb2 HB8'.out.lt); have HB10'' := Lib.hid (HB10'.out.below hb2 HB10'.out.lt); have HBEL2 := Lib.hid (HBEL1.out.trans (hb2.mono HBEL1.out.size)); have HS2 : Hid (w.heap.size + 3 ≤ w2.heap.size) := Lib.hid (Nat.le_trans HS1.out hb2.size); clear hb2; clear hf; have HB8A : Hid (Blk (w2.alloc (.cells #[.string ⟨#[98, 121, 116, 101, 115, 32, 116, 104, 97, 116, 32, 101, 110, 99, 111, 100, 101, 32, 110, 111, 116, 104, 105, 110, 103]⟩, .int .i64 2] 81)) (w.heap.size + 1) 27 cz) := Lib.hid (HB8''.out.alloc _))
    | (refine wpList_load_row (o := ⟨some 34, .load 27 (.tmp 10), _, _, _, _⟩) rfl 27 (.tmp 10) rfl _ rfl 27 cz (0, 0) _ HB10''.out Tryz.underlying27 rfl IZ.out ?_)
    | (refine wpList_store_row (o := ⟨none, .store 27 (.tmp 8) (.tmp 34), _, _, _, _⟩) rfl 27 (.tmp 8) (.tmp 34) rfl _ cz rfl rfl 27 cz HB8A.out IZ.out (by rw [SZ.out]) OZ.out ?_))
  refine bodyPost_ret (v := .tuple #[.agg cz, .iface 79 (.pointer (some ⟨w2.heap.size, 0, none⟩))]) ?_ rfl ?_
  · refine Eq.trans (results_cell_row_tmp (p := 8) (u := 9) Tryz.results19 _ _ _ 27 cz (0, 0) _ ?_ (HB8A.out.row (cs' := cz)) Tryz.underlying27 rfl IZ.out) ?_
    · rfl
    · rfl
  · exact ⟨_, rfl, .inr ⟨w2.heap.size, _, rfl, (setRow_other _ _ _ _ (by have := HS2.out; omega)).trans (Blk.fresh w2 _ _)⟩, below_setRow (HBEL2.out.alloc HBEL2.out.size _) (Nat.le_succ _) _⟩


set_option maxHeartbeats 3200000 in
set_option maxRecDepth 100000 in
theorem aexact_other (A : Option Addr) (n d : Nat) (xs : List Int) (g : Nat) (A2 : Option Addr) (d2 : Nat) (I : List Int) (T : List TK) (c : AM) (w : World) (hb : Rd w w.heap.size .u8 A n d xs) (hr : Rdr w g A2 n d2 xs n 0) (hn : n ≤ 1000000) (hI : Rd w w.heap.size .i64 c.iA c.iN c.iC I) (hT : KRd w w.heap.size c.tA c.tN c.tC T) (hyes : aRight c.cd I T = true) (hbx : ∀ x ∈ xs, 0 ≤ x ∧ x < 256) (hbc : ∀ x ∈ aBytes c.cd I T, 0 ≤ x ∧ x < 256) (hne : aBytes c.cd I T ≠ xs) :
    Calls Tryz.prog 19 #[.slice A n d, .pointer (some ⟨g, 0, none⟩), .agg c.cells, .func (.func 14) #[] #[]] w fun e w' =>
      ∃ er, e = .returned (.tuple #[.agg AM.zero.cells, er]) ∧ WrapsC w' er 2 ∧ Below w.heap.size w w' := by
  obtain ⟨cs, hcs⟩ : ∃ cs, cs = c.cells := ⟨_, rfl⟩
  have i1 := c.info
  have o1 := c.ones
  have hs1 : cs.size = 3 := by rw [hcs]; rfl
  rw [← hcs] at i1 o1
  have HWR : Hid (∀ W, Below w.heap.size w W → Calls Tryz.prog 14 #[.agg cs] W fun e w' => ∃ (A : Option Addr) (n d : Nat), e = .returned (.tuple #[.slice A n d, .nilIface]) ∧ Rd w' w'.heap.size .u8 A n d (aBytes c.cd I T) ∧ Below W.heap.size W w') := Lib.hid (fun W hW => by rw [hcs]; exact WriteAnswer_ok c I T W (hI.later hW) (hT.later hW) hyes)
  rw [← hcs]
  obtain ⟨cz, hcz⟩ : ∃ cz, cz = AM.zero.cells := ⟨_, rfl⟩
  have iz := AM.zero.info
  have oz := AM.zero.ones
  have hsz : cz.size = 3 := by rw [hcz]; rfl
  rw [← hcz] at iz oz
  rw [← hcz]
  have I1 := Lib.hid i1; have O1 := Lib.hid o1; have S1 := Lib.hid hs1; have IZ := Lib.hid iz; have OZ := Lib.hid oz; have SZ := Lib.hid hsz
  have HR := Lib.hid hr; have HB := Lib.hid hb
  clear hcs i1 hs1 o1 iz oz hsz hr hb
  go_enter Tryz.func19, Tryz.ntmps19
  go_upto_region 2 with fail
  change Code.wp _ _ _ _ (((w.alloc (.cells cs 27)).alloc (.cells AM.zero.cells 27)).alloc (.cells AM.zero.cells 27))
  rw [← hcz]
  clear hcz
  obtain ⟨hb6, hb8, hb10, hbel, hsW⟩ := aboxes3 w cs cz cz
  generalize ((w.alloc (.cells cs 27)).alloc (.cells cz 27)).alloc (.cells cz 27) = W at *
  have HB6 := Lib.hid hb6; have HB8 := Lib.hid hb8; have HB10 := Lib.hid hb10; have HBEL := Lib.hid hbel; have HSW := Lib.hid hsW
  have HRW := Lib.hid (HR.out.keep hbel)
  clear hb6 hb8 hb10 hbel hsW
  have HD : Hid (decide (aBytes c.cd I T = xs) = false) := Lib.hid (decide_eq_false hne)
  clear hI hT hyes hne
  go_wp2_with (first
    | (go_at_call 45; refine (Done_fine g A2 n d2 xs W HRW.out hn).mono ?_; rintro e w1 ⟨rfl, hb1⟩
       have HB6' := Lib.hid (HB6.out.below hb1 HB6.out.lt); have HB8' := Lib.hid (HB8.out.below hb1 HB8.out.lt); have HB10' := Lib.hid (HB10.out.below hb1 HB10.out.lt); have HBEL1 := Lib.hid (HBEL.out.trans (hb1.mono HBEL.out.size)); have HS1 : Hid (w.heap.size + 3 ≤ w1.heap.size) := Lib.hid (by have := hb1.size; have := HSW.out; omega)
       clear hb1)
    | (refine wpList_load_row (o := ⟨some 22, .load 27 (.tmp 6), _, _, _, _⟩) rfl 27 (.tmp 6) rfl _ rfl 27 cs (0, 0) _ HB6'.out Tryz.underlying27 rfl I1.out ?_)
    | (go_at_call 14; refine (HWR.out w1 HBEL1.out).mono ?_; rintro e w2 ⟨A3, n3, d3, rfl, hr3, hb2⟩
       have HR3 := Lib.hid hr3; have HB6'' := Lib.hid (HB6'.out.below hb2 HB6'.out.lt); have HB8'' := Lib.hid (HB8'.out.below hb2 HB8'.out.lt); have HB10'' := Lib.hid (HB10'.out.below hb2 HB10'.out.lt); have HBEL2 := Lib.hid (HBEL1.out.trans (hb2.mono HBEL1.out.size)); have HS2 : Hid (w.heap.size + 3 ≤ w2.heap.size) := Lib.hid (Nat.le_trans HS1.out hb2.size); clear hb2; clear hr3; have HBX := Lib.hid (HB.out.below HBEL2.out); have HB8A : Hid (Blk (w2.alloc (.cells #[.string ⟨#[98, 121, 116, 101, 115, 32, 116, 104, 97, 116, 32, 101, 110, 99, 111, 100, 101, 32, 110, 111, 116, 104, 105, 110, 103]⟩, .int .i64 2] 81)) (w.heap.size + 1) 27 cz) := Lib.hid (HB8''.out.alloc _))
    | (go_at_call 10; refine (Equal_any A3 A n3 d3 n d _ _ (aBytes c.cd I T) xs w2 HR3.out HBX.out hbc hbx).mono ?_; rw [HD.out]; rintro e w3 ⟨rfl, rfl⟩)
    | (refine wpList_load_row (o := ⟨some 34, .load 27 (.tmp 10), _, _, _, _⟩) rfl 27 (.tmp 10) rfl _ rfl 27 cz (0, 0) _ HB10''.out Tryz.underlying27 rfl IZ.out ?_)
    | (refine wpList_store_row (o := ⟨none, .store 27 (.tmp 8) (.tmp 34), _, _, _, _⟩) rfl 27 (.tmp 8) (.tmp 34) rfl _ cz rfl rfl 27 cz HB8A.out IZ.out (by rw [SZ.out]) OZ.out ?_))
  refine bodyPost_ret (v := .tuple #[.agg cz, .iface 79 (.pointer (some ⟨w2.heap.size, 0, none⟩))]) ?_ rfl ?_
  · refine Eq.trans (results_cell_row_tmp (p := 8) (u := 9) Tryz.results19 _ _ _ 27 cz (0, 0) _ ?_ (HB8A.out.row (cs' := cz)) Tryz.underlying27 rfl IZ.out) ?_
    · rfl
    · rfl
  · exact ⟨_, rfl, .inr ⟨w2.heap.size, _, rfl, (setRow_other _ _ _ _ (by have := HS2.out; omega)).trans (Blk.fresh w2 _ _)⟩, below_setRow (HBEL2.out.alloc HBEL2.out.size _) (Nat.le_succ _) _⟩


set_option maxHeartbeats 3200000 in
set_option maxRecDepth 100000 in
theorem aexact_ok (A : Option Addr) (n d : Nat) (xs : List Int) (g : Nat) (A2 : Option Addr) (d2 : Nat) (I : List Int) (T : List TK) (c : AM) (w : World) (hb : Rd w w.heap.size .u8 A n d xs) (hr : Rdr w g A2 n d2 xs n 0) (hn : n ≤ 1000000) (hI : Rd w w.heap.size .i64 c.iA c.iN c.iC I) (hT : KRd w w.heap.size c.tA c.tN c.tC T) (hyes : aRight c.cd I T = true) (hbx : ∀ x ∈ xs, 0 ≤ x ∧ x < 256) (heq : aBytes c.cd I T = xs) :
    Calls Tryz.prog 19 #[.slice A n d, .pointer (some ⟨g, 0, none⟩), .agg c.cells, .func (.func 14) #[] #[]] w fun e w' =>
      e = .returned (.tuple #[.agg c.cells, .nilIface]) ∧ Below w.heap.size w w' := by
  obtain ⟨cs, hcs⟩ : ∃ cs, cs = c.cells := ⟨_, rfl⟩
  have i1 := c.info
  have o1 := c.ones
  have hs1 : cs.size = 3 := by rw [hcs]; rfl
  rw [← hcs] at i1 o1
  have HWR : Hid (∀ W, Below w.heap.size w W → Calls Tryz.prog 14 #[.agg cs] W fun e w' => ∃ (A : Option Addr) (n d : Nat), e = .returned (.tuple #[.slice A n d, .nilIface]) ∧ Rd w' w'.heap.size .u8 A n d (aBytes c.cd I T) ∧ Below W.heap.size W w') := Lib.hid (fun W hW => by rw [hcs]; exact WriteAnswer_ok c I T W (hI.later hW) (hT.later hW) hyes)
  rw [← hcs]
  obtain ⟨cz, hcz⟩ : ∃ cz, cz = AM.zero.cells := ⟨_, rfl⟩
  have iz := AM.zero.info
  have oz := AM.zero.ones
  have hsz : cz.size = 3 := by rw [hcz]; rfl
  rw [← hcz] at iz oz
  have I1 := Lib.hid i1; have O1 := Lib.hid o1; have S1 := Lib.hid hs1; have IZ := Lib.hid iz; have OZ := Lib.hid oz; have SZ := Lib.hid hsz
  have HR := Lib.hid hr; have HB := Lib.hid hb
  clear hcs i1 hs1 o1 iz oz hsz hr hb
  go_enter Tryz.func19, Tryz.ntmps19
  go_upto_region 2 with fail
  change Code.wp _ _ _ _ (((w.alloc (.cells cs 27)).alloc (.cells AM.zero.cells 27)).alloc (.cells AM.zero.cells 27))
  rw [← hcz]
  clear hcz
  obtain ⟨hb6, hb8, hb10, hbel, hsW⟩ := aboxes3 w cs cz cz
  generalize ((w.alloc (.cells cs 27)).alloc (.cells cz 27)).alloc (.cells cz 27) = W at *
  have HB6 := Lib.hid hb6; have HB8 := Lib.hid hb8; have HB10 := Lib.hid hb10; have HBEL := Lib.hid hbel; have HSW := Lib.hid hsW
  have HRW := Lib.hid (HR.out.keep hbel)
  clear hb6 hb8 hb10 hbel hsW
  have HD : Hid (decide (aBytes c.cd I T = xs) = true) := Lib.hid (decide_eq_true heq)
  have hbc : ∀ x ∈ aBytes c.cd I T, 0 ≤ x ∧ x < 256 := by rw [heq]; exact hbx
  clear hI hT hyes heq
  go_upto_region 8 with (first
    | (go_at_call 45; refine (Done_fine g A2 n d2 xs W HRW.out hn).mono ?_; rintro e w1 ⟨rfl, hb1⟩
       have HB6' := Lib.hid (HB6.out.below hb1 HB6.out.lt); have HB8' := Lib.hid (HB8.out.below hb1 HB8.out.lt); have HB10' := Lib.hid (HB10.out.below hb1 HB10.out.lt); have HBEL1 := Lib.hid (HBEL.out.trans (hb1.mono HBEL.out.size)); have HS1 : Hid (w.heap.size + 3 ≤ w1.heap.size) := Lib.hid (by have := hb1.size; have := HSW.out; omega)
       clear hb1)
    | (refine wpList_load_row (o := ⟨some 22, .load 27 (.tmp 6), _, _, _, _⟩) rfl 27 (.tmp 6) rfl _ rfl 27 cs (0, 0) _ HB6'.out Tryz.underlying27 rfl I1.out ?_)
    | (go_at_call 14; refine (HWR.out w1 HBEL1.out).mono ?_; rintro e w2 ⟨A3, n3, d3, rfl, hr3, hb2⟩
       have HR3 := Lib.hid hr3; have HB6'' := Lib.hid (HB6'.out.below hb2 HB6'.out.lt); have HB8'' := Lib.hid (HB8'.out.below hb2 HB8'.out.lt); have HB10'' := Lib.hid (HB10'.out.below hb2 HB10'.out.lt); have HBEL2 := Lib.hid (HBEL1.out.trans (hb2.mono HBEL1.out.size)); have HS2 : Hid (w.heap.size + 3 ≤ w2.heap.size) := Lib.hid (Nat.le_trans HS1.out hb2.size); clear hb2; clear hr3; have HBX := Lib.hid (HB.out.below HBEL2.out))
    | (go_at_call 10; refine (Equal_any A3 A n3 d3 n d _ _ (aBytes c.cd I T) xs w2 HR3.out HBX.out hbc hbx).mono ?_; rw [HD.out]; rintro e w3 ⟨rfl, rfl⟩))
  go_wp2_with (first
    | (refine wpList_store_row (o := ⟨none, .store 27 (.tmp 8) (.tmp 38), _, _, _, _⟩) rfl 27 (.tmp 8) (.tmp 38) rfl _ cs rfl rfl 27 cz HB8''.out I1.out (by rw [SZ.out, S1.out]) O1.out ?_)
    | (refine wpList_load_row (o := ⟨some 38, .load 27 (.tmp 6), _, _, _, _⟩) rfl 27 (.tmp 6) rfl _ rfl 27 cs (0, 0) _ HB6''.out Tryz.underlying27 rfl I1.out ?_))
  refine bodyPost_ret (v := .tuple #[.agg cs, .nilIface]) ?_ rfl ?_
  · refine Eq.trans (results_cell_row_tmp (p := 8) (u := 9) Tryz.results19 _ _ _ 27 cs (0, 0) _ ?_ (HB8''.out.row (cs' := cs)) Tryz.underlying27 rfl I1.out) ?_
    · rfl
    · rfl
  · exact ⟨rfl, below_setRow HBEL2.out (Nat.le_succ _) _⟩
end Go.Proofs.YtkdncnhjlgidnaaGreatDoor
