/- What is proved here: coil, as far as wal calls it: Of, Num, Err, At. -/
import Derived.Test.YtnomicnmpllajaaGreatDoorPFu3
section
namespace Go.Proofs.YtnomicnmpllajaaGreatDoor
open Go Go.RowKit
section
variable (g : Nat) (A : Option Addr) (n c : Nat) (xs : List Int) (p why : Nat) (w : World) (hr : Rdr w g A n c xs p why) (hw : why = 0 ∨ why = 2 ∨ why = 3) (hx : ∀ x ∈ xs, 0 ≤ x ∧ x < 256) (hn : n ≤ 1000000) (hp : p ≤ n)
include hr hw hx hn hp

theorem readNum_all : Calls Tryz.prog 102 #[.pointer (some ⟨g, 0, none⟩), .func (.func 103) #[] #[]] w fun e w' =>
      e = .returned (.int .i64 (goNum xs p why).1) ∧ Rdr w' g A n c xs (goNum xs p why).2.1 (goNum xs p why).2.2 ∧ w.grownBy w' (some g) := by
  unfold goNum
  rcases hw with rfl | hw
  · rw [if_pos rfl]
    rcases numF_is 9 0 0 (xs.drop p) (by simp) (by omega) with ⟨v, u, e, hv, hu0, hul⟩ | ⟨er, e, he⟩
    · rw [e, if_pos rfl]
      exact (readNum_ok g A n c xs p w hr hx hn hp v u e).mono fun e w' ⟨he, hb, hg⟩ => ⟨he, hr.grow hg hb, hg⟩
    · rw [e, if_neg (by show ¬ er = 0; omega)]
      exact (readNum_no g A n c xs p w hr hx hn hp er he e).mono fun e w' ⟨he, hb, hg⟩ => ⟨he, hr.grow hg hb, hg⟩
  · rw [if_neg (by omega)]
    exact (readNum_stop g A n c xs p w why hw hr).mono fun e w' ⟨he, hww⟩ => ⟨he, hww ▸ hr, hww ▸ World.grownBy.refl _ _⟩

set_option maxHeartbeats 400000 in
theorem ReaderNum_any : Calls Tryz.prog 80 #[.pointer (some ⟨g, 0, none⟩)] w fun e w' =>
      e = .returned (.int .i64 (goNum xs p why).1) ∧ Rdr w' g A n c xs (goNum xs p why).2.1 (goNum xs p why).2.2 ∧ w.grownBy w' (some g) := by
  have H := readNum_all g A n c xs p why w hr hw hx hn hp
  generalize goNum xs p why = T at *
  have HH := Lib.hid H
  clear H hr hw hx
  go_enter Tryz.func80, Tryz.ntmps80
  go_wp2_with (go_at_call 102; refine HH.out.mono ?_; rintro e w1 ⟨rfl, h1, h2⟩)
  go_ret
  exact ⟨rfl, h1, h2⟩

theorem Rdr.boxed (o : Obj) : Rdr (w.alloc o) g A n c xs p why := by
  have _ := hx; have _ := hn; have _ := hp; have _ := hw
  exact hr.keep ((Below.refl _ _).alloc (Nat.le_refl _) _)

end
set_option maxHeartbeats 400000 in
theorem Of_any (A : Option Addr) (n c : Nat) (xs : List Int) (w : World) (h : Rd w w.heap.size .u8 A n c xs) (hn : n ≤ 1000000) :
    Calls Tryz.prog 79 #[.slice A n c] w fun e w' =>
      ∃ (g : Nat) (A' : Option Addr) (c' : Nat), e = .returned (.pointer (some ⟨g, 0, none⟩)) ∧ w.heap.size ≤ g ∧ Rdr w' g A' n c' xs 0 0 ∧ Below w.heap.size w w' := by
  obtain ⟨i0, hi, hz0, hz1, hz2⟩ := info_parts info_u8
  go_enter Tryz.func79, Tryz.ntmps79
  go_wp2_with (at_builtin
               refine wpList_append_src rfl _ _ 33 rfl w.heap.size 5 i0 _ 1 1 Tryz.underlying33 hi hz0 hz1 hz2 rfl (by omega) (.slice none 0 0) 0 [] rfl (World.ownsRow_nil _ _ _ _) A n c (xs.map (Value.int .u8)) rfl (by have := h.len; simpa using this) h.nil h.news (ints_oneCell _ _) (by unfold maxLen; omega) (by omega) (Nat.le_refl _) ?_
               intro v1 w1 hown1 hg1
               rw [Nat.zero_add, List.nil_append] at hown1
               have hb1 : Below w.heap.size w w1 := (Below.refl _ _).grown hg1 (Nat.le_refl _) (fun k hk => by simp [Value.ownBlock] at hk)
               obtain ⟨A1, c1, rfl, hrd⟩ := Rd.of_own hown1)
  go_ret
  exact ⟨w1.heap.size, A1, c1, rfl, hb1.size, ⟨Blk.fresh _ _ _, hrd.alloc (Nat.le_refl _) _⟩, hb1.alloc hb1.size _⟩

set_option maxHeartbeats 400000 in
theorem Err_fine (g : Nat) (A : Option Addr) (n c : Nat) (xs : List Int) (p : Nat) (w : World) (hr : Rdr w g A n c xs p 0) :
    Calls Tryz.prog 81 #[.pointer (some ⟨g, 0, none⟩)] w fun e w' => e = .returned .nilIface ∧ w = w' := by
  have c2 := hr.1.cell 2
  simp at c2
  go_enter Tryz.func81, Tryz.ntmps81
  go_wp2
  go_ret
  exact ⟨rfl, rfl⟩

end Go.Proofs.YtnomicnmpllajaaGreatDoor
end
