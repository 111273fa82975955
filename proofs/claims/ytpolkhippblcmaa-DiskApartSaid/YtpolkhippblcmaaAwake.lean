/- What is proved here: 'awake' returns true. -/
import Derived.Test.YtpolkhippblcmaaRen
import Derived.Test.YtpolkhippblcmaaCrash
namespace Go.Proofs.Ytpolkhippblcmaa
open Go Go.RowKit Go.Maps

/-- Where a call stands that has made a disk: what was there is as it was, and the disk is all above it. -/
structure St (w : World) (d : Nat) (room : Int) (S : List RF) (wi : World) : Prop where
  below : Below w.heap.size w wi
  disk : DiskAt wi d room S fun k => w.heap.size ≤ k

section
variable {w wi w' : World} {d : Nat} {room : Int} {S S' : List RF} {Φ : Nat → Prop}
theorem St.tight (h : St w d room S wi) : DiskAt wi d room S fun k => w.heap.size ≤ k ∧ k < wi.heap.size := by
  obtain ⟨m, L, e, hD⟩ := h.disk
  exact ⟨m, L, e, hD.mono fun _ h1 h2 => ⟨h2, h1⟩⟩
theorem DiskAt.keep (h : DiskAt w d room S Φ) {Ψ : Nat → Prop} (hc : Chg Ψ w w') (hs : ∀ k, Φ k → ¬ Ψ k) : DiskAt w' d room S Φ := by
  obtain ⟨m, L, e, hD⟩ := h
  exact ⟨m, L, e, hD.keep hc hs⟩
theorem DiskAt.mono (h : DiskAt w d room S Φ) {Ψ : Nat → Prop} (hs : ∀ k, k < w.heap.size → Φ k → Ψ k) : DiskAt w d room S Ψ := by
  obtain ⟨m, L, e, hD⟩ := h
  exact ⟨m, L, e, hD.mono hs⟩
theorem St.later (h : St w d room S wi) (hb : Below wi.heap.size wi w') : St w d room S w' :=
  ⟨h.below.trans (hb.mono h.below.size), h.disk.keep (Ψ := fun _ => False) (Chg.of_below hb) fun _ _ => id⟩
theorem St.alloc (h : St w d room S wi) (o : Obj) : St w d room S (wi.alloc o) := h.later ((Below.refl _ _).alloc (Nat.le_refl _) o)
theorem St.drewN (h : St w d room S wi) (n : Nat) : St w d room S (wi.drewN n) := ⟨⟨h.below.os, h.below.tape, h.below.output, h.below.size, h.below.block⟩, h.disk.keep (Ψ := fun _ => False) (Chg.drewN wi n) fun _ _ => id⟩
theorem St.next (h : Below w.heap.size w wi) (hc : Chg Φ wi w') (hd : DiskAt w' d room S' (grow Φ wi w')) (hs : ∀ k, Φ k → w.heap.size ≤ k) : St w d room S' w' :=
  ⟨h.trans (hc.below h.size hs), hd.mono fun k _ hk => by
    rcases hk with hk | hk
    · exact hs k hk
    · have := h.size; have := hk.1; omega⟩
theorem St.op (h : St w d room S wi) {r : Int} {e : Ending} (ho : OpSaid d room S' r (fun k => w.heap.size ≤ k) wi e w') : e = .returned (.int .i64 r) ∧ St w d room S' w' :=
  ⟨ho.1, St.next h.below ho.2.1 ho.2.2 fun _ => id⟩
theorem St.op' (h : St w d room S wi) {r : Int} {e : Ending} (ho : OpSaid d room S' r (fun k => w.heap.size ≤ k ∧ k < wi.heap.size) wi e w') : e = .returned (.int .i64 r) ∧ St w d room S' w' :=
  ⟨ho.1, St.next h.below ho.2.1 ho.2.2 fun _ h => h.1⟩
end

theorem New_st (n : Int) (w : World) : Calls Try.prog 8 #[.int .i64 n] w fun e w' => e = .returned (.pointer (some ⟨w.heap.size + 1, 0, none⟩)) ∧ St w (w.heap.size + 1) (clampR n) [] w' ∧ w'.heap.size = w.heap.size + 2 := by
  refine (New_any n w).mono ?_
  rintro e w' ⟨rfl, h1, h2, h3⟩
  exact ⟨rfl, ⟨h1, h3.mono fun _ _ h => h.1⟩, h2⟩

abbrev strA : ByteArray := ⟨#[97]⟩
theorem strA_size : strA.size ≤ maxLen := by unfold maxLen strA; decide

section
variable {w wi : World} {d : Nat} {room : Int} {S : List RF}
theorem append_st (h : St w d room S wi) (s : ByteArray) (hs : s.size ≤ maxLen) (A : Option Addr) (n c : Nat) (ys : List Int) (hr : Rd wi wi.heap.size .u8 A n c ys) (hy : ∀ y ∈ ys, 0 ≤ y ∧ y < 256) (hL : S.length ≤ 1000000) :
    Calls Try.prog 18 #[.pointer (some ⟨d, 0, none⟩), .string s, .slice A n c] wi fun e w' => e = .returned (.int .i64 (appendF room S s.data.toList ys).2) ∧ St w d room (appendF room S s.data.toList ys).1 w' :=
  (Append_any h.disk s hs A n c ys hr hy hL).mono fun _ _ ho => h.op ho
theorem sync_st (h : St w d room S wi) (s : ByteArray) (hs : s.size ≤ maxLen) :
    Calls Try.prog 19 #[.pointer (some ⟨d, 0, none⟩), .string s] wi fun e w' => e = .returned (.int .i64 (syncF S s.data.toList).2) ∧ St w d room (syncF S s.data.toList).1 w' :=
  (Sync_any h.disk s hs).mono fun _ _ ho => h.op ho
theorem cut_st (h : St w d room S wi) (s : ByteArray) (hs : s.size ≤ maxLen) (n : Int) :
    Calls Try.prog 28 #[.pointer (some ⟨d, 0, none⟩), .string s, .int .i64 n] wi fun e w' => e = .returned (.int .i64 (cutF S s.data.toList n).2) ∧ St w d room (cutF S s.data.toList n).1 w' :=
  (Cut_any h.disk s hs n).mono fun _ _ ho => h.op ho
theorem remove_st (h : St w d room S wi) (s : ByteArray) (hs : s.size ≤ maxLen) :
    Calls Try.prog 29 #[.pointer (some ⟨d, 0, none⟩), .string s] wi fun e w' => e = .returned (.int .i64 (removeF S s.data.toList).2) ∧ St w d room (removeF S s.data.toList).1 w' :=
  (Remove_any h.disk s hs).mono fun _ _ ho => h.op ho
theorem rename_st (h : St w d room S wi) (s t : ByteArray) (hs : s.size ≤ maxLen) (ht : t.size ≤ maxLen) (hL : S.length ≤ 1000000) :
    Calls Try.prog 30 #[.pointer (some ⟨d, 0, none⟩), .string s, .string t] wi fun e w' => e = .returned (.int .i64 (renameF S s.data.toList t.data.toList).2) ∧ St w d room (renameF S s.data.toList t.data.toList).1 w' :=
  (Rename_any h.disk s t hs ht hL).mono fun _ _ ho => h.op ho
/-- Crash, with numbers that lie below the disk, or in memory that is newer than it. -/
theorem crash_st (h : St w d room S wi) (o : Obj) (A : Option Addr) (n c : Nat) (ks : List Int) (hr : Rd (wi.alloc o) (wi.alloc o).heap.size .i64 A n c ks) (hA : ∀ b o', A = some ⟨b, o', none⟩ → 0 < n → ¬ (w.heap.size ≤ b ∧ b < wi.heap.size))
    (hks : ∀ z ∈ ks, -9223372036854775808 ≤ z ∧ z ≤ 9223372036854775807) (hL : S.length ≤ 1000000) :
    Calls Try.prog 20 #[.pointer (some ⟨d, 0, none⟩), .slice A n c] (wi.alloc o) fun e w' => e = .returned (.tuple #[]) ∧ St w d room (crashF ks S) w' := by
  have ht : DiskAt (wi.alloc o) d room S fun k => w.heap.size ≤ k ∧ k < wi.heap.size := h.tight.keep (Ψ := fun _ => False) (Chg.alloc _ _) fun _ _ => id
  refine (Crash_any ht A n c ks hr hA hks hL).mono ?_
  rintro e w' ⟨rfl, h1, h2⟩
  exact ⟨rfl, St.next (h.alloc o).below h1 h2 fun _ h => h.1⟩
theorem crash_st0 (h : St w d room S wi) (A : Option Addr) (n c : Nat) (ks : List Int) (hr : Rd wi w.heap.size .i64 A n c ks)
    (hks : ∀ z ∈ ks, -9223372036854775808 ≤ z ∧ z ≤ 9223372036854775807) (hL : S.length ≤ 1000000) (hA : ∀ b o, A = some ⟨b, o, none⟩ → 0 < n → b < w.heap.size) :
    Calls Try.prog 20 #[.pointer (some ⟨d, 0, none⟩), .slice A n c] wi fun e w' => e = .returned (.tuple #[]) ∧ St w d room (crashF ks S) w' := by
  refine (Crash_any h.disk A n c ks (hr.more h.below.size) (fun b o e hn hb => by have := hA b o e hn; omega) hks hL).mono ?_
  rintro e w' ⟨rfl, h1, h2⟩
  exact ⟨rfl, St.next h.below h1 h2 fun _ => id⟩
theorem read_st (h : St w d room S wi) (s : ByteArray) (hs : s.size ≤ maxLen) :
    Calls Try.prog 15 #[.pointer (some ⟨d, 0, none⟩), .string s] wi fun e w' => ReadSaid S s.data.toList wi e w' ∧ St w d room S w' :=
  (Read_any h.disk s hs).mono fun _ _ ho => ⟨ho, h.later ho.1⟩
theorem loose_st (h : St w d room S wi) (s : ByteArray) (hs : s.size ≤ maxLen) :
    Calls Try.prog 17 #[.pointer (some ⟨d, 0, none⟩), .string s] wi fun e w' => e = .returned (.int .i64 (looseF S s.data.toList)) ∧ (∃ n, w' = wi.drewN n) ∧ St w d room S w' :=
  (Loose_any h.disk s hs).mono fun _ _ ⟨h1, n, h2⟩ => ⟨h1, ⟨n, h2⟩, by rw [h2]; exact h.drewN n⟩
theorem names_st (h : St w d room S wi) (hL : S.length ≤ 1000000) :
    Calls Try.prog 14 #[.pointer (some ⟨d, 0, none⟩)] wi fun e w' => NamesSaid S wi e w' ∧ St w d room S w' :=
  (Names_any h.disk hL).mono fun _ _ ho => ⟨ho, by obtain ⟨_, _, _, _, hb⟩ := ho; exact h.later hb⟩
end

/-! ### the example -/
def S1 : List RF := [⟨[97], [1, 2, 3], 0⟩]
def S2 : List RF := [⟨[97], [1, 2, 3], 3⟩]
def S3 : List RF := [⟨[97], [1, 2, 3, 4, 5, 6, 7], 3⟩]
def S4 : List RF := [⟨[97], [1, 2, 3, 4, 5], 5⟩]
theorem ex1 : appendF 100 [] strA.data.toList [1, 2, 3] = (S1, 0) := by rfl
theorem ex2 : syncF S1 strA.data.toList = (S2, 0) := by rfl
theorem ex3 : appendF 100 S2 strA.data.toList [4, 5, 6, 7] = (S3, 0) := by rfl
theorem ex4 : crashF [2] S3 = S4 := by rfl
theorem ex5 : findN S4 strA.data.toList = some ⟨[97], [1, 2, 3, 4, 5], 5⟩ := by rfl
theorem ex6 : looseF S4 strA.data.toList = 0 := by rfl
theorem ex7 : usedN S4 = 5 := by rfl
theorem ex8 : clampR 100 = 100 := by rfl

section
variable {w wi : World} {d : Nat}
theorem aw1 (h : St w d 100 [] wi) : Calls Try.prog 18 #[.pointer (some ⟨d, 0, none⟩), .string strA, .slice (some ⟨wi.heap.size, 0, none⟩) 3 3] (wi.alloc (.cells #[.int .u8 1, .int .u8 2, .int .u8 3] 5)) fun e w' => e = .returned (.int .i64 0) ∧ St w d 100 S1 w' := by
  have := append_st (h.alloc (.cells #[.int .u8 1, .int .u8 2, .int .u8 3] 5)) strA strA_size _ 3 3 [1, 2, 3] ((Rd.lit wi .u8 5 [1, 2, 3] (by decide)).more (by simp)) (by decide) (by decide)
  rwa [ex1] at this
theorem aw2 (h : St w d 100 S1 wi) : Calls Try.prog 19 #[.pointer (some ⟨d, 0, none⟩), .string strA] wi fun e w' => e = .returned (.int .i64 0) ∧ St w d 100 S2 w' := by
  have := sync_st h strA strA_size
  rwa [ex2] at this
theorem aw3 (h : St w d 100 S2 wi) : Calls Try.prog 18 #[.pointer (some ⟨d, 0, none⟩), .string strA, .slice (some ⟨wi.heap.size, 0, none⟩) 4 4] (wi.alloc (.cells #[.int .u8 4, .int .u8 5, .int .u8 6, .int .u8 7] 5)) fun e w' => e = .returned (.int .i64 0) ∧ St w d 100 S3 w' := by
  have := append_st (h.alloc (.cells #[.int .u8 4, .int .u8 5, .int .u8 6, .int .u8 7] 5)) strA strA_size _ 4 4 [4, 5, 6, 7] ((Rd.lit wi .u8 5 [4, 5, 6, 7] (by decide)).more (by simp)) (by decide) (by decide)
  rwa [ex3] at this
theorem aw4 (h : St w d 100 S3 wi) : Calls Try.prog 20 #[.pointer (some ⟨d, 0, none⟩), .slice (some ⟨wi.heap.size, 0, none⟩) 1 1] (wi.alloc (.cells #[.int .i64 2] 3)) fun e w' => e = .returned (.tuple #[]) ∧ St w d 100 S4 w' := by
  have := crash_st h (.cells #[.int .i64 2] 3) _ 1 1 [2] ((Rd.lit wi .i64 3 [2] (by decide)).more (by simp)) (fun b o e _ => by cases e; omega) (by decide) (by decide)
  rwa [ex4] at this
theorem aw5 (h : St w d 100 S4 wi) : Calls Try.prog 15 #[.pointer (some ⟨d, 0, none⟩), .string strA] wi fun e w' => ∃ A c, e = .returned (.tuple #[.slice A 5 c, .int .i64 0]) ∧ Rd w' w'.heap.size .u8 A 5 c [1, 2, 3, 4, 5] ∧ St w d 100 S4 w' := by
  refine (read_st h strA strA_size).mono ?_
  rintro e w' ⟨⟨_, h1⟩, h2⟩
  rw [ex5] at h1
  rcases h1 with ⟨h1, _⟩ | ⟨f, A, c, h1, h3, h4⟩
  · cases h1
  · cases h1
    obtain ⟨A', c', e', hr⟩ := Rd.of_own h4
    cases e'
    exact ⟨A, c, h3, hr, h2⟩
theorem aw6 (h : St w d 100 S4 wi) : Calls Try.prog 17 #[.pointer (some ⟨d, 0, none⟩), .string strA] wi fun e w' => e = .returned (.int .i64 0) ∧ St w d 100 S4 w' := by
  refine (loose_st h strA strA_size).mono ?_
  rintro e w' ⟨h1, _, h2⟩
  rw [ex6] at h1
  exact ⟨h1, h2⟩
theorem aw7 (h : St w d 100 S4 wi) : Calls Try.prog 21 #[.pointer (some ⟨d, 0, none⟩)] wi fun e w' => e = .returned (.int .i64 5) ∧ wi = w' := by
  have := Used_any h.disk
  rwa [ex7] at this
theorem aw8 (h : St w d 100 S4 wi) : Calls Try.prog 14 #[.pointer (some ⟨d, 0, none⟩)] wi fun e w' => ∃ A c, e = .returned (.slice A 1 c) ∧ St w d 100 S4 w' := by
  refine (names_st h (by decide)).mono ?_
  rintro e w' ⟨⟨A, c, h1, _⟩, h2⟩
  exact ⟨A, c, h1, h2⟩
end

set_option maxHeartbeats 1600000 in
set_option maxRecDepth 100000 in
theorem awake_any (w : World) : Calls Try.prog 7 #[] w fun e w' => e = .returned (.bool true) ∧ Below w.heap.size w w' := by
  have HNEW := Lib.hid (New_st 100 w)
  rw [ex8] at HNEW
  have hab : ∀ x ∈ ([1, 2, 3, 4, 5] : List Int), 0 ≤ x ∧ x < 256 := by decide
  have HAB := Lib.hid hab
  have HQ := Lib.hid fun (A : Option Addr) c W (hr : Rd W W.heap.size .u8 A 5 c [1, 2, 3, 4, 5]) => Equal_any A (some ⟨W.heap.size, 0, none⟩) 5 c 5 5 _ _ [1, 2, 3, 4, 5] [1, 2, 3, 4, 5] (W.alloc (.cells #[.int .u8 1, .int .u8 2, .int .u8 3, .int .u8 4, .int .u8 5] 5)) (hr.alloc (Nat.le_refl _) _) (Rd.lit W .u8 5 [1, 2, 3, 4, 5] (by decide)) HAB.out HAB.out
  clear hab
  go_enter Try.func7, Try.ntmps7
  go_wp2_with (first
    | (go_at_call 8; refine HNEW.out.mono ?_; rintro e w1 ⟨rfl, h1, -⟩)
    | (go_at_call 18; (with_reducible refine (aw1 h1).mono ?_); rintro e w2 ⟨rfl, h2⟩; clear h1)
    | (go_at_call 19; (with_reducible refine (aw2 h2).mono ?_); rintro e w3 ⟨rfl, h3⟩; clear h2)
    | (go_at_call 18; (with_reducible refine (aw3 h3).mono ?_); rintro e w4 ⟨rfl, h4⟩; clear h3)
    | (go_at_call 20; (with_reducible refine (aw4 h4).mono ?_); rintro e w5 ⟨rfl, h5⟩; clear h4)
    | (go_at_call 15; (with_reducible refine (aw5 h5).mono ?_); rintro e w6 ⟨A6, c6, rfl, hr6, h6⟩; clear h5)
    | (go_at_call 16; (with_reducible refine (HQ.out _ _ _ hr6).mono ?_); rintro e w7 ⟨rfl, rfl⟩)
    | (go_at_call 17; (with_reducible refine (aw6 (h6.alloc _)).mono ?_); rintro e w8 ⟨rfl, h8⟩)
    | (go_at_call 21; (with_reducible refine (aw7 h8).mono ?_); rintro e w9 ⟨rfl, rfl⟩)
    | (go_at_call 14; (with_reducible refine (aw8 h8).mono ?_); rintro e w10 ⟨A7, c7, rfl, h10⟩))
  go_ret
  exact ⟨rfl, h10.below⟩
end Go.Proofs.Ytpolkhippblcmaa
