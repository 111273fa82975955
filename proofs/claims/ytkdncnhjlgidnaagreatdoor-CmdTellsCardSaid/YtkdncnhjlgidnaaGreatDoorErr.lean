/- What is proved here: what a reader's Err and Done return, at any state; and that a number which goes on at the last byte is none. -/
import Derived.Test.YtkdncnhjlgidnaaGreatDoorAs2
namespace Go.Proofs.YtkdncnhjlgidnaaGreatDoor
open Go Go.RowKit

theorem numF_open : ∀ (f i acc : Nat) (l : List Int) (v u : Nat), numF f i acc (l ++ [128]) = (v, u, 0) → u ≤ i + l.length
  | 0, i, acc, l, v, u, h => by simp [numF] at h
  | f + 1, i, acc, [], v, u, h => by
    rw [List.nil_append, numF_on _ _ _ _ _ (by omega)] at h
    cases f with
    | zero => simp [numF] at h
    | succ f => simp [numF] at h
  | f + 1, i, acc, d :: r, v, u, h => by
    rw [List.cons_append] at h
    by_cases h1 : 128 ≤ d
    · rw [numF_on _ _ _ _ _ h1] at h
      have := numF_open f (i + 1) _ r v u h
      simp only [List.length_cons]
      omega
    · by_cases hz : d = 0 ∧ 0 < i
      · obtain ⟨rfl, h0⟩ := hz
        rw [numF_zero _ _ _ _ h0] at h
        simp at h
      · rw [numF_last _ _ _ _ _ h1 hz] at h
        simp only [Prod.mk.injEq] at h
        simp only [List.length_cons]
        omega

/-- A number that is read moves the reader, and not over the byte 128 at the end. -/
theorem goNum_open (l : List Int) (p : Nat) (hp : p ≤ l.length) (h : (goNum (l ++ [128]) p 0).2.2 = 0) : p < (goNum (l ++ [128]) p 0).2.1 ∧ (goNum (l ++ [128]) p 0).2.1 ≤ l.length := by
  have hd : (l ++ [128]).drop p = l.drop p ++ [128] := by rw [List.drop_append, show p - l.length = 0 by omega, List.drop_zero]
  unfold goNum at h ⊢
  rw [if_pos rfl] at h ⊢
  rcases numF_is 9 0 0 ((l ++ [128]).drop p) (by simp) (by omega) with ⟨v, u, e, hv, hu0, hul⟩ | ⟨er, e, he⟩
  · rw [e, if_pos rfl]
    rw [hd] at e
    have := numF_open 9 0 0 (l.drop p) v u e
    rw [List.length_drop] at this
    exact ⟨by simp only; omega, by simp only; omega⟩
  · rw [e, if_neg (by show ¬ er = 0; omega)] at h
    have h' : er = 0 := h
    omega

/-- What Err tells: nothing, or a fault with the place and the number. -/
def Told (w : World) (e : Value) (p why : Nat) : Prop :=
  (why = 0 ∧ e = .nilIface) ∨ (why ≠ 0 ∧ ∃ f : Nat, e = .iface 142 (.pointer (some ⟨f, 0, none⟩)) ∧ Blk w f 160 #[.int .i64 p, .iface 35 (.int .i64 why)])

set_option maxHeartbeats 400000 in
theorem Err_bad (g : Nat) (A : Option Addr) (n c : Nat) (xs : List Int) (p why : Nat) (w : World) (hr : Rdr w g A n c xs p why) (hw : why = 2 ∨ why = 3) :
    Calls Tryz.prog 70 #[.pointer (some ⟨g, 0, none⟩)] w fun e w' =>
      ∃ f : Nat, e = .returned (.iface 142 (.pointer (some ⟨f, 0, none⟩))) ∧ Blk w' f 160 #[.int .i64 p, .iface 35 (.int .i64 why)] ∧ Below w.heap.size w w' := by
  have c1 := hr.1.cell 1
  have c2 := hr.1.cell 2
  simp at c1 c2
  rcases hw with rfl | rfl
  all_goals
    go_enter Tryz.func70, Tryz.ntmps70
    go_wp2
    go_ret
    exact ⟨_, rfl, Blk.fresh _ _ _, (Below.refl _ _).alloc (Nat.le_refl _) _⟩

set_option maxHeartbeats 400000 in
theorem Done_bad (g : Nat) (A : Option Addr) (n c : Nat) (xs : List Int) (p why : Nat) (w : World) (hr : Rdr w g A n c xs p why) (hw : why = 2 ∨ why = 3) :
    Calls Tryz.prog 45 #[.pointer (some ⟨g, 0, none⟩)] w fun e w' =>
      ∃ f : Nat, e = .returned (.iface 142 (.pointer (some ⟨f, 0, none⟩))) ∧ Blk w' f 160 #[.int .i64 p, .iface 35 (.int .i64 why)] ∧ Below w.heap.size w w' := by
  go_enter Tryz.func45, Tryz.ntmps45
  go_wp2_with fail
  refine (Err_bad g A n c xs p why w hr hw).mono ?_
  rintro e w1 ⟨f, rfl, hf, hb⟩
  go_wp2_with fail
  go_ret
  exact ⟨f, rfl, hf, hb⟩

set_option maxHeartbeats 400000 in
theorem Done_more (g : Nat) (A : Option Addr) (n c : Nat) (xs : List Int) (p : Nat) (w : World) (hr : Rdr w g A n c xs p 0) (hn : n ≤ 1000000) (hp : p < n) :
    Calls Tryz.prog 45 #[.pointer (some ⟨g, 0, none⟩)] w fun e w' =>
      ∃ f : Nat, e = .returned (.iface 142 (.pointer (some ⟨f, 0, none⟩))) ∧ Blk w' f 160 #[.int .i64 p, .iface 35 (.int .i64 2)] ∧ Below w.heap.size w w' := by
  have hgl := hr.1.lt
  have c0 := hr.1.cell 0
  have c1 := hr.1.cell 1
  have c2 := hr.1.cell 2
  simp at c0 c1 c2
  have hp' : (0 : Int) < n - p := by omega
  go_enter Tryz.func45, Tryz.ntmps45
  go_wp2_with fail
  refine (Err_fine g A n c xs p w hr).mono ?_
  rintro e w1 ⟨rfl, rfl⟩
  go_wp2_with fail
  refine (Left_any A n c _ w hn (by omega) (by omega)).mono ?_
  rintro e w1 ⟨rfl, rfl⟩
  go_wp2
  go_ret
  exact ⟨_, rfl, by simpa using Blk.fresh (w.alloc (.cells #[.slice A n c, .int .i64 (p : Int)] 98)) 160 #[.int .i64 (p : Int), .iface 35 (.int .i64 2)], ((Below.refl _ _).alloc (Nat.le_refl _) _).alloc (by simp) _⟩
end Go.Proofs.YtkdncnhjlgidnaaGreatDoor
