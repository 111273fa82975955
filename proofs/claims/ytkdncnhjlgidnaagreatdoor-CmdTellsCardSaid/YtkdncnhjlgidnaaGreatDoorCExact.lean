/- What is proved here: cmd.Write where a command may not be written; cmd.exactly at a command: what a reader read, if the bytes are its encoding. -/
import Derived.Test.YtkdncnhjlgidnaaGreatDoorCWrite
import Derived.Test.YtkdncnhjlgidnaaGreatDoorErr
import Derived.Laws.ResultCell
namespace Go.Proofs.YtkdncnhjlgidnaaGreatDoor
open Go Go.RowKit

theorem results_cell_row_tmp {P : Program} {fn : Func} {p u : Tmp} {ty : TypeId} (h : fn.results = #[.cell p ty, .tmp u]) (tmps : Array Value) (w : World) (g : Nat) (t : TypeId) (cs : Array Value) (fr : Nat × Nat) (d : TypeDesc)
    (hp : tmps.getD p undef = .pointer (some ⟨g, 0, none⟩)) (hg : w.heap[g]? = some (.cells cs t fr))
    (hu : P.underlying ty = some d) (hd : (match d with | .struct _ | .array _ _ => true | _ => false) = true) (hi : (P.info? ty).map (·.size) = some cs.size) :
    (results fn tmps).run P w = .ok (.tuple #[.agg cs, tmps.getD u undef]) w := by
  rw [results_cell_tmp h, hp]
  simp only [asAddr, Sem.run_pure, Result.andThen_ok]
  rw [run_loadVar_row w g t ty cs fr d hg hu hd hi]
  rfl
theorem boxes3 (w : World) (a b c : Array Value) : Blk (((w.alloc (.cells a 50)).alloc (.cells b 50)).alloc (.cells c 50)) w.heap.size 50 a ∧
    Blk (((w.alloc (.cells a 50)).alloc (.cells b 50)).alloc (.cells c 50)) (w.heap.size + 1) 50 b ∧
    Blk (((w.alloc (.cells a 50)).alloc (.cells b 50)).alloc (.cells c 50)) (w.heap.size + 2) 50 c ∧
    Below w.heap.size w (((w.alloc (.cells a 50)).alloc (.cells b 50)).alloc (.cells c 50)) ∧
    (((w.alloc (.cells a 50)).alloc (.cells b 50)).alloc (.cells c 50)).heap.size = w.heap.size + 3 := by
  refine ⟨((Blk.fresh w _ a).alloc _).alloc _, ?_, ?_, (((Below.refl _ _).alloc (Nat.le_refl _) _).alloc (by simp) _).alloc (by simp <;> omega) _, by simp⟩
  · have := (Blk.fresh (w.alloc (.cells a 50)) 50 b).alloc (.cells c 50)
    simpa using this
  · simpa using Blk.fresh ((w.alloc (.cells a 50)).alloc (.cells b 50)) 50 c
/-- An error that wraps a number: a reader's, or a refusal. -/
def WrapsC (w : World) (e : Value) (n : Int) : Prop :=
  (∃ (f : Nat) (at_ : Int), e = .iface 142 (.pointer (some ⟨f, 0, none⟩)) ∧ Blk w f 160 #[.int .i64 at_, .iface 35 (.int .i64 n)]) ∨
  ∃ (f : Nat) (s : ByteArray), e = .iface 79 (.pointer (some ⟨f, 0, none⟩)) ∧ Blk w f 81 #[.string s, .int .i64 n]

set_option maxHeartbeats 3200000 in
set_option maxRecDepth 100000 in
theorem Write_no (c : CM) (L : List ByteArray) (w : World) (hL : TRd w w.heap.size c.bA c.bn c.bc L) (hn : c.bn ≤ 1000000) (hr : c.right L = false) :
    Calls Tryz.prog 12 #[.agg c.cells] w fun e w' => ∃ (f : Nat) (s : ByteArray), e = .returned (.tuple #[.slice none 0 0, .iface 79 (.pointer (some ⟨f, 0, none⟩))]) ∧ Blk w' f 81 #[.string s, .int .i64 1] ∧ Below w.heap.size w w' := by
  obtain ⟨cs, hcs⟩ : ∃ cs, cs = c.cells := ⟨_, rfl⟩
  have i1 := c.info
  rw [← hcs] at i1
  have HRT : Hid (∀ W, Below w.heap.size w W → Calls Tryz.prog 29 #[.agg cs] W fun e w' => e = .returned (.bool false) ∧ Below W.heap.size W w') := Lib.hid (fun W hW => by rw [hcs, ← hr]; exact Right_any c L W ((hL.below hW).more hW.size) hn)
  rw [← hcs]
  have I1 := Lib.hid i1
  clear hcs i1 hL hr
  go_enter Tryz.func12, Tryz.ntmps12
  go_upto_region 1 with fail
  have hb1 : Blk (w.alloc (.cells cs 50)) w.heap.size 50 cs := Blk.fresh _ _ _
  have hbel : Below w.heap.size w (w.alloc (.cells cs 50)) := (Below.refl _ _).alloc (Nat.le_refl _) _
  generalize w.alloc (.cells cs 50) = W at *
  have HB1 := Lib.hid hb1; have HBEL := Lib.hid hbel
  clear hb1 hbel
  go_wp2_with (first
    | (refine wpList_load_row (o := ⟨some 11, .load 50 (.tmp 1), _, _, _, _⟩) rfl 50 (.tmp 1) rfl w.heap.size rfl 50 cs (0, 0) _ HB1.out Tryz.underlying50 rfl I1.out ?_)
    | (go_at_call 29; refine (HRT.out W HBEL.out).mono ?_; rintro e w0 ⟨rfl, hb⟩
       have HBEL0 := Lib.hid (HBEL.out.trans (hb.mono HBEL.out.size))
       clear hb))
  go_ret2
  exact ⟨_, _, rfl, Blk.fresh _ _ _, HBEL0.out.alloc HBEL0.out.size _⟩

set_option maxHeartbeats 3200000 in
set_option maxRecDepth 100000 in
theorem exact_fault (A : Option Addr) (n d : Nat) (xs : List Int) (g : Nat) (A2 : Option Addr) (d2 : Nat) (p why : Nat) (c : CM) (w : World) (hb : Rd w w.heap.size .u8 A n d xs) (hr : Rdr w g A2 n d2 xs p why) (_ : n ≤ 1000000) (hw : why = 2 ∨ why = 3) :
    Calls Tryz.prog 37 #[.slice A n d, .pointer (some ⟨g, 0, none⟩), .agg c.cells, .func (.func 12) #[] #[]] w fun e w' =>
      ∃ er, e = .returned (.tuple #[.agg CM.zero.cells, er]) ∧ WrapsC w' er why ∧ Below w.heap.size w w' := by
  obtain ⟨cs, hcs⟩ : ∃ cs, cs = c.cells := ⟨_, rfl⟩
  have i1 := c.info
  have o1 := c.ones
  have hs1 : cs.size = 18 := by rw [hcs]; rfl
  rw [← hcs] at i1 o1
  rw [← hcs]
  obtain ⟨cz, hcz⟩ : ∃ cz, cz = CM.zero.cells := ⟨_, rfl⟩
  have iz := CM.zero.info
  have oz := CM.zero.ones
  have hsz : cz.size = 18 := by rw [hcz]; rfl
  rw [← hcz] at iz oz
  rw [← hcz]
  have I1 := Lib.hid i1; have O1 := Lib.hid o1; have S1 := Lib.hid hs1; have IZ := Lib.hid iz; have OZ := Lib.hid oz; have SZ := Lib.hid hsz
  have HR := Lib.hid hr; have HB := Lib.hid hb
  clear hcs i1 hs1 o1 iz oz hsz hr hb
  go_enter Tryz.func37, Tryz.ntmps37
  go_upto_region 2 with fail
  change Code.wp _ _ _ _ (((w.alloc (.cells cs 50)).alloc (.cells CM.zero.cells 50)).alloc (.cells CM.zero.cells 50))
  rw [← hcz]
  clear hcz
  obtain ⟨hb6, hb8, hb10, hbel, hsW⟩ := boxes3 w cs cz cz
  generalize ((w.alloc (.cells cs 50)).alloc (.cells cz 50)).alloc (.cells cz 50) = W at *
  have HB6 := Lib.hid hb6; have HB8 := Lib.hid hb8; have HB10 := Lib.hid hb10; have HBEL := Lib.hid hbel; have HSW := Lib.hid hsW
  have HRW := Lib.hid (HR.out.keep hbel)
  clear hb6 hb8 hb10 hbel hsW
  go_wp2_with (first
    | (go_at_call 45; refine (Done_bad g A2 n d2 xs p why W HRW.out hw).mono ?_; rintro e w1 ⟨f, rfl, hf, hb1⟩
       have HF := Lib.hid hf; have HB8' := Lib.hid (HB8.out.below hb1 HB8.out.lt); have HB10' := Lib.hid (HB10.out.below hb1 HB10.out.lt); have HBEL1 := Lib.hid (HBEL.out.trans (hb1.mono HBEL.out.size)); have HF8 : Hid (f ≠ w.heap.size + 1) := Lib.hid (by intro e; subst e; have h1 := HB8'.out; have h2 := hf; unfold Blk at h1 h2; rw [h2] at h1; simp at h1)
       clear hf hb1)
    | (refine wpList_load_row (o := ⟨some 18, .load 50 (.tmp 10), _, _, _, _⟩) rfl 50 (.tmp 10) rfl _ rfl 50 cz (0, 0) _ HB10'.out Tryz.underlying50 rfl IZ.out ?_)
    | (refine wpList_store_row (o := ⟨none, .store 50 (.tmp 8) (.tmp 18), _, _, _, _⟩) rfl 50 (.tmp 8) (.tmp 18) rfl _ cz rfl rfl 50 cz HB8'.out IZ.out (by rw [SZ.out]) OZ.out ?_))
  refine bodyPost_ret (v := .tuple #[.agg cz, .iface 142 (.pointer (some ⟨f, 0, none⟩))]) ?_ rfl ?_
  · refine Eq.trans (results_cell_row_tmp (p := 8) (u := 9) Tryz.results37 _ _ _ 50 cz (0, 0) _ ?_ (HB8'.out.row (cs' := cz)) Tryz.underlying50 rfl IZ.out) ?_
    · rfl
    · rfl
  · exact ⟨_, rfl, .inl ⟨f, _, rfl, (setRow_other _ _ _ _ HF8.out).trans HF.out⟩, below_setRow HBEL1.out (Nat.le_succ _) _⟩

set_option maxHeartbeats 3200000 in
set_option maxRecDepth 100000 in
theorem exact_more (A : Option Addr) (n d : Nat) (xs : List Int) (g : Nat) (A2 : Option Addr) (d2 : Nat) (p : Nat) (c : CM) (w : World) (hb : Rd w w.heap.size .u8 A n d xs) (hr : Rdr w g A2 n d2 xs p 0) (hn : n ≤ 1000000) (hp : p < n) :
    Calls Tryz.prog 37 #[.slice A n d, .pointer (some ⟨g, 0, none⟩), .agg c.cells, .func (.func 12) #[] #[]] w fun e w' =>
      ∃ er, e = .returned (.tuple #[.agg CM.zero.cells, er]) ∧ WrapsC w' er 2 ∧ Below w.heap.size w w' := by
  obtain ⟨cs, hcs⟩ : ∃ cs, cs = c.cells := ⟨_, rfl⟩
  have i1 := c.info
  have o1 := c.ones
  have hs1 : cs.size = 18 := by rw [hcs]; rfl
  rw [← hcs] at i1 o1
  rw [← hcs]
  obtain ⟨cz, hcz⟩ : ∃ cz, cz = CM.zero.cells := ⟨_, rfl⟩
  have iz := CM.zero.info
  have oz := CM.zero.ones
  have hsz : cz.size = 18 := by rw [hcz]; rfl
  rw [← hcz] at iz oz
  rw [← hcz]
  have I1 := Lib.hid i1; have O1 := Lib.hid o1; have S1 := Lib.hid hs1; have IZ := Lib.hid iz; have OZ := Lib.hid oz; have SZ := Lib.hid hsz
  have HR := Lib.hid hr; have HB := Lib.hid hb
  clear hcs i1 hs1 o1 iz oz hsz hr hb
  go_enter Tryz.func37, Tryz.ntmps37
  go_upto_region 2 with fail
  change Code.wp _ _ _ _ (((w.alloc (.cells cs 50)).alloc (.cells CM.zero.cells 50)).alloc (.cells CM.zero.cells 50))
  rw [← hcz]
  clear hcz
  obtain ⟨hb6, hb8, hb10, hbel, hsW⟩ := boxes3 w cs cz cz
  generalize ((w.alloc (.cells cs 50)).alloc (.cells cz 50)).alloc (.cells cz 50) = W at *
  have HB6 := Lib.hid hb6; have HB8 := Lib.hid hb8; have HB10 := Lib.hid hb10; have HBEL := Lib.hid hbel; have HSW := Lib.hid hsW
  have HRW := Lib.hid (HR.out.keep hbel)
  clear hb6 hb8 hb10 hbel hsW
  go_wp2_with (first
    | (go_at_call 45; refine (Done_more g A2 n d2 xs p W HRW.out hn hp).mono ?_; rintro e w1 ⟨f, rfl, hf, hb1⟩
       have HF := Lib.hid hf; have HB8' := Lib.hid (HB8.out.below hb1 HB8.out.lt); have HB10' := Lib.hid (HB10.out.below hb1 HB10.out.lt); have HBEL1 := Lib.hid (HBEL.out.trans (hb1.mono HBEL.out.size)); have HF8 : Hid (f ≠ w.heap.size + 1) := Lib.hid (by intro e; subst e; have h1 := HB8'.out; have h2 := hf; unfold Blk at h1 h2; rw [h2] at h1; simp at h1)
       clear hf hb1)
    | (refine wpList_load_row (o := ⟨some 18, .load 50 (.tmp 10), _, _, _, _⟩) rfl 50 (.tmp 10) rfl _ rfl 50 cz (0, 0) _ HB10'.out Tryz.underlying50 rfl IZ.out ?_)
    | (refine wpList_store_row (o := ⟨none, .store 50 (.tmp 8) (.tmp 18), _, _, _, _⟩) rfl 50 (.tmp 8) (.tmp 18) rfl _ cz rfl rfl 50 cz HB8'.out IZ.out (by rw [SZ.out]) OZ.out ?_))
  refine bodyPost_ret (v := .tuple #[.agg cz, .iface 142 (.pointer (some ⟨f, 0, none⟩))]) ?_ rfl ?_
  · refine Eq.trans (results_cell_row_tmp (p := 8) (u := 9) Tryz.results37 _ _ _ 50 cz (0, 0) _ ?_ (HB8'.out.row (cs' := cz)) Tryz.underlying50 rfl IZ.out) ?_
    · rfl
    · rfl
  · exact ⟨_, rfl, .inl ⟨f, _, rfl, (setRow_other _ _ _ _ HF8.out).trans HF.out⟩, below_setRow HBEL1.out (Nat.le_succ _) _⟩

set_option maxHeartbeats 3200000 in
set_option maxRecDepth 100000 in
theorem exact_wrong (A : Option Addr) (n d : Nat) (xs : List Int) (g : Nat) (A2 : Option Addr) (d2 : Nat) (L : List ByteArray) (c : CM) (w : World) (hb : Rd w w.heap.size .u8 A n d xs) (hr : Rdr w g A2 n d2 xs n 0) (hn : n ≤ 1000000) (hL : TRd w w.heap.size c.bA c.bn c.bc L) (hbn : c.bn ≤ 1000000) (hno : c.right L = false) :
    Calls Tryz.prog 37 #[.slice A n d, .pointer (some ⟨g, 0, none⟩), .agg c.cells, .func (.func 12) #[] #[]] w fun e w' =>
      ∃ er, e = .returned (.tuple #[.agg CM.zero.cells, er]) ∧ WrapsC w' er 2 ∧ Below w.heap.size w w' := by
  obtain ⟨cs, hcs⟩ : ∃ cs, cs = c.cells := ⟨_, rfl⟩
  have i1 := c.info
  have o1 := c.ones
  have hs1 : cs.size = 18 := by rw [hcs]; rfl
  rw [← hcs] at i1 o1
  have HWR : Hid (∀ W, Below w.heap.size w W → Calls Tryz.prog 12 #[.agg cs] W fun e w' => ∃ (f : Nat) (s : ByteArray), e = .returned (.tuple #[.slice none 0 0, .iface 79 (.pointer (some ⟨f, 0, none⟩))]) ∧ Blk w' f 81 #[.string s, .int .i64 1] ∧ Below W.heap.size W w') := Lib.hid (fun W hW => by rw [hcs]; exact Write_no c L W ((hL.below hW).more hW.size) hbn hno)
  rw [← hcs]
  obtain ⟨cz, hcz⟩ : ∃ cz, cz = CM.zero.cells := ⟨_, rfl⟩
  have iz := CM.zero.info
  have oz := CM.zero.ones
  have hsz : cz.size = 18 := by rw [hcz]; rfl
  rw [← hcz] at iz oz
  rw [← hcz]
  have I1 := Lib.hid i1; have O1 := Lib.hid o1; have S1 := Lib.hid hs1; have IZ := Lib.hid iz; have OZ := Lib.hid oz; have SZ := Lib.hid hsz
  have HR := Lib.hid hr; have HB := Lib.hid hb
  clear hcs i1 hs1 o1 iz oz hsz hr hb
  go_enter Tryz.func37, Tryz.ntmps37
  go_upto_region 2 with fail
  change Code.wp _ _ _ _ (((w.alloc (.cells cs 50)).alloc (.cells CM.zero.cells 50)).alloc (.cells CM.zero.cells 50))
  rw [← hcz]
  clear hcz
  obtain ⟨hb6, hb8, hb10, hbel, hsW⟩ := boxes3 w cs cz cz
  generalize ((w.alloc (.cells cs 50)).alloc (.cells cz 50)).alloc (.cells cz 50) = W at *
  have HB6 := Lib.hid hb6; have HB8 := Lib.hid hb8; have HB10 := Lib.hid hb10; have HBEL := Lib.hid hbel; have HSW := Lib.hid hsW
  have HRW := Lib.hid (HR.out.keep hbel)
  clear hb6 hb8 hb10 hbel hsW
  clear hL hno
  go_wp2_with (first
    | (go_at_call 45; refine (Done_fine g A2 n d2 xs W HRW.out hn).mono ?_; rintro e w1 ⟨rfl, hb1⟩
       have HB6' := Lib.hid (HB6.out.below hb1 HB6.out.lt); have HB8' := Lib.hid (HB8.out.below hb1 HB8.out.lt); have HB10' := Lib.hid (HB10.out.below hb1 HB10.out.lt); have HBEL1 := Lib.hid (HBEL.out.trans (hb1.mono HBEL.out.size)); have HS1 : Hid (w.heap.size + 3 ≤ w1.heap.size) := Lib.hid (by have := hb1.size; have := HSW.out; omega)
       clear hb1)
    | (refine wpList_load_row (o := ⟨some 22, .load 50 (.tmp 6), _, _, _, _⟩) rfl 50 (.tmp 6) rfl _ rfl 50 cs (0, 0) _ HB6'.out Tryz.underlying50 rfl I1.out ?_)
    | (go_at_call 12; refine (HWR.out w1 HBEL1.out).mono ?_; rintro e w2 ⟨f, s, rfl, hf, hb2⟩
       have HB6'' := Lib.hid (HB6'.out.below hb2 HB6'.out.lt); have HB8'' := Lib.hid (HB8'.out.below hb2 HB8'.out.lt); have HB10'' := Lib.hid (HB10'.out.below hb2 HB10'.out.lt); have HBEL2 := Lib.hid (HBEL1.out.trans (hb2.mono HBEL1.out.size)); have HS2 : Hid (w.heap.size + 3 ≤ w2.heap.size) := Lib.hid (Nat.le_trans HS1.out hb2.size); clear hb2; clear hf; have HB8A : Hid (Blk (w2.alloc (.cells #[.string ⟨#[98, 121, 116, 101, 115, 32, 116, 104, 97, 116, 32, 101, 110, 99, 111, 100, 101, 32, 110, 111, 116, 104, 105, 110, 103]⟩, .int .i64 2] 81)) (w.heap.size + 1) 50 cz) := Lib.hid (HB8''.out.alloc _))
    | (refine wpList_load_row (o := ⟨some 34, .load 50 (.tmp 10), _, _, _, _⟩) rfl 50 (.tmp 10) rfl _ rfl 50 cz (0, 0) _ HB10''.out Tryz.underlying50 rfl IZ.out ?_)
    | (refine wpList_store_row (o := ⟨none, .store 50 (.tmp 8) (.tmp 34), _, _, _, _⟩) rfl 50 (.tmp 8) (.tmp 34) rfl _ cz rfl rfl 50 cz HB8A.out IZ.out (by rw [SZ.out]) OZ.out ?_))
  refine bodyPost_ret (v := .tuple #[.agg cz, .iface 79 (.pointer (some ⟨w2.heap.size, 0, none⟩))]) ?_ rfl ?_
  · refine Eq.trans (results_cell_row_tmp (p := 8) (u := 9) Tryz.results37 _ _ _ 50 cz (0, 0) _ ?_ (HB8A.out.row (cs' := cz)) Tryz.underlying50 rfl IZ.out) ?_
    · rfl
    · rfl
  · exact ⟨_, rfl, .inr ⟨w2.heap.size, _, rfl, (setRow_other _ _ _ _ (by have := HS2.out; omega)).trans (Blk.fresh w2 _ _)⟩, below_setRow (HBEL2.out.alloc HBEL2.out.size _) (Nat.le_succ _) _⟩

set_option maxHeartbeats 3200000 in
set_option maxRecDepth 100000 in
theorem exact_other (A : Option Addr) (n d : Nat) (xs : List Int) (g : Nat) (A2 : Option Addr) (d2 : Nat) (L : List ByteArray) (c : CM) (w : World) (hb : Rd w w.heap.size .u8 A n d xs) (hr : Rdr w g A2 n d2 xs n 0) (hn : n ≤ 1000000) (hL : TRd w w.heap.size c.bA c.bn c.bc L) (hyes : c.right L = true) (hbx : ∀ x ∈ xs, 0 ≤ x ∧ x < 256) (hbc : ∀ x ∈ c.bytes L, 0 ≤ x ∧ x < 256) (hne : c.bytes L ≠ xs) :
    Calls Tryz.prog 37 #[.slice A n d, .pointer (some ⟨g, 0, none⟩), .agg c.cells, .func (.func 12) #[] #[]] w fun e w' =>
      ∃ er, e = .returned (.tuple #[.agg CM.zero.cells, er]) ∧ WrapsC w' er 2 ∧ Below w.heap.size w w' := by
  obtain ⟨cs, hcs⟩ : ∃ cs, cs = c.cells := ⟨_, rfl⟩
  have i1 := c.info
  have o1 := c.ones
  have hs1 : cs.size = 18 := by rw [hcs]; rfl
  rw [← hcs] at i1 o1
  have HWR : Hid (∀ W, Below w.heap.size w W → Calls Tryz.prog 12 #[.agg cs] W fun e w' => ∃ (A : Option Addr) (n d : Nat), e = .returned (.tuple #[.slice A n d, .nilIface]) ∧ Rd w' w'.heap.size .u8 A n d (c.bytes L) ∧ Below W.heap.size W w') := Lib.hid (fun W hW => by rw [hcs]; exact Write_ok c L W ((hL.below hW).more hW.size) hyes)
  rw [← hcs]
  obtain ⟨cz, hcz⟩ : ∃ cz, cz = CM.zero.cells := ⟨_, rfl⟩
  have iz := CM.zero.info
  have oz := CM.zero.ones
  have hsz : cz.size = 18 := by rw [hcz]; rfl
  rw [← hcz] at iz oz
  rw [← hcz]
  have I1 := Lib.hid i1; have O1 := Lib.hid o1; have S1 := Lib.hid hs1; have IZ := Lib.hid iz; have OZ := Lib.hid oz; have SZ := Lib.hid hsz
  have HR := Lib.hid hr; have HB := Lib.hid hb
  clear hcs i1 hs1 o1 iz oz hsz hr hb
  go_enter Tryz.func37, Tryz.ntmps37
  go_upto_region 2 with fail
  change Code.wp _ _ _ _ (((w.alloc (.cells cs 50)).alloc (.cells CM.zero.cells 50)).alloc (.cells CM.zero.cells 50))
  rw [← hcz]
  clear hcz
  obtain ⟨hb6, hb8, hb10, hbel, hsW⟩ := boxes3 w cs cz cz
  generalize ((w.alloc (.cells cs 50)).alloc (.cells cz 50)).alloc (.cells cz 50) = W at *
  have HB6 := Lib.hid hb6; have HB8 := Lib.hid hb8; have HB10 := Lib.hid hb10; have HBEL := Lib.hid hbel; have HSW := Lib.hid hsW
  have HRW := Lib.hid (HR.out.keep hbel)
  clear hb6 hb8 hb10 hbel hsW
  have HD : Hid (decide (c.bytes L = xs) = false) := Lib.hid (decide_eq_false hne)
  clear hL hyes hne
  go_wp2_with (first
    | (go_at_call 45; refine (Done_fine g A2 n d2 xs W HRW.out hn).mono ?_; rintro e w1 ⟨rfl, hb1⟩
       have HB6' := Lib.hid (HB6.out.below hb1 HB6.out.lt); have HB8' := Lib.hid (HB8.out.below hb1 HB8.out.lt); have HB10' := Lib.hid (HB10.out.below hb1 HB10.out.lt); have HBEL1 := Lib.hid (HBEL.out.trans (hb1.mono HBEL.out.size)); have HS1 : Hid (w.heap.size + 3 ≤ w1.heap.size) := Lib.hid (by have := hb1.size; have := HSW.out; omega)
       clear hb1)
    | (refine wpList_load_row (o := ⟨some 22, .load 50 (.tmp 6), _, _, _, _⟩) rfl 50 (.tmp 6) rfl _ rfl 50 cs (0, 0) _ HB6'.out Tryz.underlying50 rfl I1.out ?_)
    | (go_at_call 12; refine (HWR.out w1 HBEL1.out).mono ?_; rintro e w2 ⟨A3, n3, d3, rfl, hr3, hb2⟩
       have HR3 := Lib.hid hr3; have HB6'' := Lib.hid (HB6'.out.below hb2 HB6'.out.lt); have HB8'' := Lib.hid (HB8'.out.below hb2 HB8'.out.lt); have HB10'' := Lib.hid (HB10'.out.below hb2 HB10'.out.lt); have HBEL2 := Lib.hid (HBEL1.out.trans (hb2.mono HBEL1.out.size)); have HS2 : Hid (w.heap.size + 3 ≤ w2.heap.size) := Lib.hid (Nat.le_trans HS1.out hb2.size); clear hb2; clear hr3; have HBX := Lib.hid (HB.out.below HBEL2.out); have HB8A : Hid (Blk (w2.alloc (.cells #[.string ⟨#[98, 121, 116, 101, 115, 32, 116, 104, 97, 116, 32, 101, 110, 99, 111, 100, 101, 32, 110, 111, 116, 104, 105, 110, 103]⟩, .int .i64 2] 81)) (w.heap.size + 1) 50 cz) := Lib.hid (HB8''.out.alloc _))
    | (go_at_call 10; refine (Equal_any A3 A n3 d3 n d _ _ (c.bytes L) xs w2 HR3.out HBX.out hbc hbx).mono ?_; rw [HD.out]; rintro e w3 ⟨rfl, rfl⟩)
    | (refine wpList_load_row (o := ⟨some 34, .load 50 (.tmp 10), _, _, _, _⟩) rfl 50 (.tmp 10) rfl _ rfl 50 cz (0, 0) _ HB10''.out Tryz.underlying50 rfl IZ.out ?_)
    | (refine wpList_store_row (o := ⟨none, .store 50 (.tmp 8) (.tmp 34), _, _, _, _⟩) rfl 50 (.tmp 8) (.tmp 34) rfl _ cz rfl rfl 50 cz HB8A.out IZ.out (by rw [SZ.out]) OZ.out ?_))
  refine bodyPost_ret (v := .tuple #[.agg cz, .iface 79 (.pointer (some ⟨w2.heap.size, 0, none⟩))]) ?_ rfl ?_
  · refine Eq.trans (results_cell_row_tmp (p := 8) (u := 9) Tryz.results37 _ _ _ 50 cz (0, 0) _ ?_ (HB8A.out.row (cs' := cz)) Tryz.underlying50 rfl IZ.out) ?_
    · rfl
    · rfl
  · exact ⟨_, rfl, .inr ⟨w2.heap.size, _, rfl, (setRow_other _ _ _ _ (by have := HS2.out; omega)).trans (Blk.fresh w2 _ _)⟩, below_setRow (HBEL2.out.alloc HBEL2.out.size _) (Nat.le_succ _) _⟩

end Go.Proofs.YtkdncnhjlgidnaaGreatDoor
