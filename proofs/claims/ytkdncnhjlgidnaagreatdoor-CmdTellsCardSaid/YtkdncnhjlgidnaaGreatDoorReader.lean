/- What is proved here: what Of and a reader's calls return, at any state of the reader, and where it is behind each; and that 'awake', the example of the document, is true. Slices of at most a million elements. -/
import Derived.Test.YtkdncnhjlgidnaaGreatDoorRead6
namespace Go.Proofs.YtkdncnhjlgidnaaGreatDoor
open Go Go.RowKit

theorem Rdr.grow {w w' : World} {g : Nat} {A : Option Addr} {n c : Nat} {xs : List Int} {p why p' why' : Nat} (h : Rdr w g A n c xs p why) (hg : w.grownBy w' (some g)) (hb : Blk w' g 100 #[.slice A n c, .int .i64 p', .int .i64 why']) : Rdr w' g A n c xs p' why' :=
  ⟨hb, h.2.keep fun q hq => World.cell?_of_block (hg.block q.block (Nat.lt_trans hq h.1.lt) (fun e => by injection e with e; omega))⟩

theorem goNum_is (xs : List Int) (p why : Nat) (hp : p ≤ xs.length) (hw : why = 0 ∨ why = 2 ∨ why = 3) :
    (goNum xs p why).2.1 ≤ xs.length ∧ p ≤ (goNum xs p why).2.1 ∧ ((goNum xs p why).2.2 = 0 ∨ (goNum xs p why).2.2 = 2 ∨ (goNum xs p why).2.2 = 3) := by
  unfold goNum
  by_cases h : why = 0
  · rw [if_pos h]
    rcases numF_is 9 0 0 (xs.drop p) (by simp) (by omega) with ⟨v, u, e, hv, hu0, hul⟩ | ⟨er, e, he⟩
    · rw [List.length_drop] at hul
      rw [e, if_pos rfl]
      exact ⟨by simp only; omega, by simp only; omega, .inl rfl⟩
    · rw [e, if_neg (by show ¬ er = 0; omega)]
      exact ⟨hp, Nat.le_refl _, .inr he⟩
  · rw [if_neg h]
    exact ⟨hp, Nat.le_refl _, hw⟩

section
variable (g : Nat) (A : Option Addr) (n c : Nat) (xs : List Int) (p why : Nat) (w : World) (hr : Rdr w g A n c xs p why) (hw : why = 0 ∨ why = 2 ∨ why = 3) (hx : ∀ x ∈ xs, 0 ≤ x ∧ x < 256) (hn : n ≤ 1000000) (hp : p ≤ n)
include hr hw hx hn hp

theorem readNum_all : Calls Tryz.prog 40 #[.pointer (some ⟨g, 0, none⟩), .func (.func 41) #[] #[]] w fun e w' =>
      e = .returned (.int .i64 (goNum xs p why).1) ∧ Rdr w' g A n c xs (goNum xs p why).2.1 (goNum xs p why).2.2 ∧ w.grownBy w' (some g) := by
  unfold goNum
  rcases hw with rfl | hw
  · rw [if_pos rfl]
    rcases numF_is 9 0 0 (xs.drop p) (by simp) (by omega) with ⟨v, u, e, hv, hu0, hul⟩ | ⟨er, e, he⟩
    · rw [e, if_pos rfl]
      exact (readNum_ok g A n c xs p w hr hx hn hp v u e).mono fun e w' ⟨he, hb, hg⟩ => ⟨he, hr.grow hg hb, hg⟩
    · rw [e, if_neg (by show ¬ er = 0; omega)]
      exact (readNum_no g A n c xs p w hr hx hn hp er he e).mono fun e w' ⟨he, hb, hg⟩ => ⟨he, hr.grow hg hb, hg⟩
  · rw [if_neg (by omega)]
    exact (readNum_stop g A n c xs p w why hw hr).mono fun e w' ⟨he, hww⟩ => ⟨he, hww ▸ hr, hww ▸ World.grownBy.refl _ _⟩

theorem readText_all (m : Nat) (most : Int) (hm : Blk w m 3 #[.int .i64 most]) :
    Calls Tryz.prog 62 #[.pointer (some ⟨g, 0, none⟩), .func (.func 63) #[] #[.pointer (some ⟨m, 0, none⟩)]] w fun e w' =>
      e = .returned (.string (strOfNums (goText xs p why most).1)) ∧ Rdr w' g A n c xs (goText xs p why most).2.1 (goText xs p why most).2.2 ∧ w.grownBy w' (some g) := by
  unfold goText
  rcases hw with rfl | hw
  · rw [if_pos rfl]
    rcases textR_is xs p most (by rw [hr.2.len]; exact hp) with ⟨bs, us, e, hu0, hul⟩ | ⟨er, e, he⟩
    · rw [e, if_pos rfl]
      exact (readText_ok g A n c xs p w m most hm hr hx hn hp bs us e).mono fun e w' ⟨he, hb, hg⟩ => ⟨he, hr.grow hg hb, hg⟩
    · rw [e, if_neg (by show ¬ er = 0; omega)]
      exact (readText_no g A n c xs p w m most hm hr hx hn hp er he e).mono fun e w' ⟨he, hb, hg⟩ => ⟨he, hr.grow hg hb, hg⟩
  · rw [if_neg (by omega)]
    exact (readText_stop g A n c xs p w why hw hr m).mono fun e w' ⟨he, hww⟩ => ⟨he, hww ▸ hr, hww ▸ World.grownBy.refl _ _⟩

theorem readNums_all (m : Nat) (most : Int) (hm : Blk w m 3 #[.int .i64 most]) :
    Calls Tryz.prog 42 #[.pointer (some ⟨g, 0, none⟩), .func (.func 43) #[] #[.pointer (some ⟨m, 0, none⟩)]] w fun e w' =>
      ∃ r, e = .returned r ∧ w'.ownsRow (g + 1) 3 1 r (goNums xs p why most).1.length ((goNums xs p why most).1.map (Value.int .i64)) ∧ Rdr w' g A n c xs (goNums xs p why most).2.1 (goNums xs p why most).2.2 ∧ w.grownBy w' (some g) := by
  unfold goNums
  rcases hw with rfl | hw
  · rw [if_pos rfl]
    rcases numsR_is xs p most (by rw [hr.2.len]; exact hp) with ⟨bs, us, e, hu0, hul⟩ | ⟨us, er, e, he⟩
    · rw [e, if_pos rfl]
      exact (readNums_ok g A n c xs p w m most hm hr hx hn hp bs us e).mono fun e w' ⟨r, he, ho, hb, hg⟩ => ⟨r, he, ho, hr.grow hg hb, hg⟩
    · rw [e, if_neg (by show ¬ er = 0; omega)]
      exact (readNums_no g A n c xs p w m most hm hr hx hn hp us er he e).mono fun e w' ⟨he, hb, hg⟩ => ⟨_, he, World.ownsRow_nil _ _ _ _, hr.grow hg hb, hg⟩
  · rw [if_neg (by omega)]
    exact (readNums_stop g A n c xs p w why hw hr m).mono fun e w' ⟨he, hww⟩ => ⟨_, he, World.ownsRow_nil _ _ _ _, hww ▸ hr, hww ▸ World.grownBy.refl _ _⟩

set_option maxHeartbeats 400000 in
theorem ReaderNum_any : Calls Tryz.prog 16 #[.pointer (some ⟨g, 0, none⟩)] w fun e w' =>
      e = .returned (.int .i64 (goNum xs p why).1) ∧ Rdr w' g A n c xs (goNum xs p why).2.1 (goNum xs p why).2.2 ∧ w.grownBy w' (some g) := by
  have H := readNum_all g A n c xs p why w hr hw hx hn hp
  generalize goNum xs p why = T at *
  have HH := Lib.hid H
  clear H hr hw hx
  go_enter Tryz.func16, Tryz.ntmps16
  go_wp2_with (go_at_call 40; refine HH.out.mono ?_; rintro e w1 ⟨rfl, h1, h2⟩)
  go_ret
  exact ⟨rfl, h1, h2⟩

theorem Rdr.boxed (o : Obj) : Rdr (w.alloc o) g A n c xs p why := by
  have _ := hx; have _ := hn; have _ := hp; have _ := hw
  exact hr.keep ((Below.refl _ _).alloc (Nat.le_refl _) _)

set_option maxHeartbeats 400000 in
theorem ReaderText_any (most : Int) : Calls Tryz.prog 36 #[.pointer (some ⟨g, 0, none⟩), .int .i64 most] w fun e w' =>
      e = .returned (.string (strOfNums (goText xs p why most).1)) ∧ Rdr w' g A n c xs (goText xs p why most).2.1 (goText xs p why most).2.2 ∧ w.grownBy w' (some g) := by
  have H := readText_all g A n c xs p why _ (Rdr.boxed g A n c xs p why w hr hw hx hn hp (.cells #[.int .i64 most] 3)) hw hx hn hp w.heap.size most (Blk.fresh _ _ _)
  have hgr := fun w' (h : (w.alloc (.cells #[.int .i64 most] 3)).grownBy w' (some g)) => show w.grownBy w' (some g) from
    ⟨h.os, h.tape, h.output, Nat.le_trans (by simp) h.size, fun k hk hne => (h.block k (by simp; omega) hne).trans (Below.heap_alloc w _ k hk)⟩
  have HG := Lib.hid hgr
  generalize goText xs p why most = T at *
  have HH := Lib.hid H
  clear H hr hw hx hgr
  go_enter Tryz.func36, Tryz.ntmps36
  go_wp2_with (go_at_call 62; refine HH.out.mono ?_; rintro e w1 ⟨rfl, h1, h2⟩)
  go_ret
  exact ⟨rfl, h1, HG.out _ h2⟩

set_option maxHeartbeats 400000 in
theorem ReaderNums_any (most : Int) : Calls Tryz.prog 17 #[.pointer (some ⟨g, 0, none⟩), .int .i64 most] w fun e w' =>
      ∃ r, e = .returned r ∧ w'.ownsRow (g + 1) 3 1 r (goNums xs p why most).1.length ((goNums xs p why most).1.map (Value.int .i64)) ∧ Rdr w' g A n c xs (goNums xs p why most).2.1 (goNums xs p why most).2.2 ∧ w.grownBy w' (some g) := by
  have H := readNums_all g A n c xs p why _ (Rdr.boxed g A n c xs p why w hr hw hx hn hp (.cells #[.int .i64 most] 3)) hw hx hn hp w.heap.size most (Blk.fresh _ _ _)
  have hgr := fun w' (h : (w.alloc (.cells #[.int .i64 most] 3)).grownBy w' (some g)) => show w.grownBy w' (some g) from
    ⟨h.os, h.tape, h.output, Nat.le_trans (by simp) h.size, fun k hk hne => (h.block k (by simp; omega) hne).trans (Below.heap_alloc w _ k hk)⟩
  have HG := Lib.hid hgr
  generalize goNums xs p why most = T at *
  have HH := Lib.hid H
  clear H hr hw hx hgr
  go_enter Tryz.func17, Tryz.ntmps17
  go_wp2_with (go_at_call 42; refine HH.out.mono ?_; rintro e w1 ⟨r, rfl, h0, h1, h2⟩)
  go_ret
  exact ⟨r, rfl, h0, h1, HG.out _ h2⟩
end

set_option maxHeartbeats 400000 in
theorem Of_any (A : Option Addr) (n c : Nat) (xs : List Int) (w : World) (h : Rd w w.heap.size .u8 A n c xs) (hn : n ≤ 1000000) :
    Calls Tryz.prog 15 #[.slice A n c] w fun e w' =>
      ∃ (g : Nat) (A' : Option Addr) (c' : Nat), e = .returned (.pointer (some ⟨g, 0, none⟩)) ∧ w.heap.size ≤ g ∧ Rdr w' g A' n c' xs 0 0 ∧ Below w.heap.size w w' := by
  obtain ⟨i0, hi, hz0, hz1, hz2⟩ := info_parts info_u8
  go_enter Tryz.func15, Tryz.ntmps15
  go_wp2_with (at_builtin
               refine wpList_append_src rfl _ _ 22 rfl w.heap.size 5 i0 _ 1 1 Tryz.underlying22 hi hz0 hz1 hz2 rfl (by omega) (.slice none 0 0) 0 [] rfl (World.ownsRow_nil _ _ _ _) A n c (xs.map (Value.int .u8)) rfl (by have := h.len; simpa using this) h.nil h.news (ints_oneCell _ _) (by unfold maxLen; omega) (by omega) (Nat.le_refl _) ?_
               intro v1 w1 hown1 hg1
               rw [Nat.zero_add, List.nil_append] at hown1
               have hb1 : Below w.heap.size w w1 := (Below.refl _ _).grown hg1 (Nat.le_refl _) (fun k hk => by simp [Value.ownBlock] at hk)
               obtain ⟨A1, c1, rfl, hrd⟩ := Rd.of_own hown1)
  go_ret
  exact ⟨w1.heap.size, A1, c1, rfl, hb1.size, ⟨Blk.fresh _ _ _, hrd.alloc (Nat.le_refl _) _⟩, hb1.alloc hb1.size _⟩

set_option maxHeartbeats 400000 in
theorem Err_fine (g : Nat) (A : Option Addr) (n c : Nat) (xs : List Int) (p : Nat) (w : World) (hr : Rdr w g A n c xs p 0) :
    Calls Tryz.prog 70 #[.pointer (some ⟨g, 0, none⟩)] w fun e w' => e = .returned .nilIface ∧ w = w' := by
  have c2 := hr.1.cell 2
  simp at c2
  go_enter Tryz.func70, Tryz.ntmps70
  go_wp2
  go_ret
  exact ⟨rfl, rfl⟩

set_option maxHeartbeats 400000 in
theorem Done_fine (g : Nat) (A : Option Addr) (n c : Nat) (xs : List Int) (w : World) (hr : Rdr w g A n c xs n 0) (hn : n ≤ 1000000) :
    Calls Tryz.prog 45 #[.pointer (some ⟨g, 0, none⟩)] w fun e w' => e = .returned .nilIface ∧ Below w.heap.size w w' := by
  have c0 := hr.1.cell 0
  have c1 := hr.1.cell 1
  have c2 := hr.1.cell 2
  simp at c0 c1 c2
  go_enter Tryz.func45, Tryz.ntmps45
  go_wp2_with (first
    | (go_at_call 70; refine (Err_fine g A n c xs n _ hr).mono ?_; rintro e w1 ⟨rfl, rfl⟩)
    | (go_at_call 68; refine (Left_any A n c _ _ hn (by omega) (by omega)).mono ?_; rintro e w1 ⟨rfl, hw1⟩
       have hb1 : Below w.heap.size w w1 := hw1 ▸ (Below.refl _ _).alloc (Nat.le_refl _) _
       clear hw1))
  go_ret
  exact ⟨rfl, hb1⟩
end Go.Proofs.YtkdncnhjlgidnaaGreatDoor
