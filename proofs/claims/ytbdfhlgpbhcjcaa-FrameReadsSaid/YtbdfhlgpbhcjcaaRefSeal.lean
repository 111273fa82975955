/- What is proved here: what the document's own Seal and Next return. -/
import Derived.Test.YtbdfhlgpbhcjcaaRefSum
namespace Go.Proofs.Ytbdfhlgpbhcjcaa
open Go Go.RowKit

theorem headF_two {xs : List Int} {n : Nat} (h : xs.length = n) (hn : n < 65536) : headF xs = [(n : Int) % 256, (n : Int) / 256] := by
  subst h
  unfold headF
  rw [lowB, lowB, lowB, Nat.mod_eq_of_lt (a := xs.length / 256) (by omega)]
  rfl

set_option maxHeartbeats 1600000 in
set_option maxRecDepth 100000 in
theorem refSeal_any (A : Option Addr) (n c : Nat) (xs : List Int) (w : World) (h : Rd w w.heap.size .u8 A n c xs) (hx : ∀ x ∈ xs, 0 ≤ x ∧ x < 256) (hn : n ≤ 5000) :
    Calls Try.prog 17 #[.slice A n c] w fun e w' =>
      ∃ v, e = .returned v ∧ w'.ownsRow w.heap.size 5 1 v (n + 6) ((sealF xs).map (Value.int .u8)) ∧ Below w.heap.size w w' := by
  obtain ⟨i0, hi, hz0, hz1, hz2⟩ := info_parts info_u8
  have HL := Lib.hid h.len
  have HX := Lib.hid hx
  have HH := Lib.hid (headF_two h.len (by omega))
  have HHL := Lib.hid (headF_length xs)
  have HLEN : Hid ((xs.map (Value.int .u8)).length = n * 1) := Lib.hid (by rw [List.length_map, HL.out, Nat.mul_one])
  have HO0 := Lib.hid (fun (W : World) => World.ownsRow_lit (e := 5) (size := 1) W #[] 0 (Nat.le_refl _) (by decide) rfl)
  have hb1 : Below w.heap.size w (w.alloc (.cells #[.int .u8 ((n : Int) % 256), .int .u8 ((n : Int) / 256)] 5)) := (Below.refl _ _).alloc (Nat.le_refl _) _
  have hown1 : (w.alloc (.cells #[.int .u8 ((n : Int) % 256), .int .u8 ((n : Int) / 256)] 5)).ownsRow w.heap.size 5 1 (.slice (some ⟨w.heap.size, 0, none⟩) 2 2) 2 ((headF xs).map (Value.int .u8)) := by
    have := World.ownsRow_lit (e := 5) (size := 1) w #[.int .u8 ((n : Int) % 256), .int .u8 ((n : Int) / 256)] 2 (Nat.le_refl _) (by decide) rfl
    rw [HH.out]
    exact this
  have HOWN1 := Lib.hid hown1
  obtain ⟨A1, c1, hA1, hr1⟩ := Rd.of_own hown1
  obtain ⟨rfl, rfl⟩ : A1 = some ⟨w.heap.size, 0, none⟩ ∧ c1 = 2 := by simp only [Value.slice.injEq] at hA1; exact ⟨hA1.1.symm, hA1.2.2.symm⟩
  have HR1 := Lib.hid hr1
  clear hx hown1 hA1 hr1
  go_enter Try.func17, Try.ntmps17
  go_upto_region 2 with fail
  generalize hW : w.alloc (.cells #[.int .u8 ((n : Int) % 256), .int .u8 ((n : Int) / 256)] 5) = w1 at *
  have hr0 := h.below hb1
  have HR0 := Lib.hid hr0
  have hHX : Hid ((List.map (Value.int .u8) (headF xs)).length = 2 * 1) := Lib.hid (by rw [List.length_map, HHL.out])
  have hz1' := hb1.size
  clear hr0 hW
  go_wp2_with (first
    | (at_builtin; refine wpList_append_src (o := ⟨some 17, _, _, _, _, _⟩) rfl _ _ 22 rfl w1.heap.size 5 i0 _ 1 1 Try.underlying22 hi hz0 hz1 hz2 rfl (by omega) _ 0 [] rfl (HO0.out w1) (some ⟨w.heap.size, 0, none⟩) 2 2 (List.map (Value.int .u8) (headF xs)) rfl hHX.out HR1.out.nil (HR1.out.alloc (Nat.le_refl _) _).news (ints_oneCell _ _) (by unfold maxLen; omega) (by omega) (by simp) ?_; intro v2 w2 hown2 hg2; have hb2 : Below w1.heap.size w1 w2 := ((Below.refl _ _).alloc (Nat.le_refl _) _).grown hg2 (by simp) (fun k hk => ((HO0.out w1).lt k hk).1); have hz2' := hb2.size)
    | (at_builtin; refine wpList_append_src (o := ⟨some 19, _, _, _, _, _⟩) rfl _ _ 22 rfl w1.heap.size 5 i0 _ 1 1 Try.underlying22 hi hz0 hz1 hz2 rfl (by omega) _ (0 + 2) ([] ++ List.map (Value.int .u8) (headF xs)) rfl hown2 A n c (xs.map (Value.int .u8)) rfl HLEN.out h.nil (HR0.out.below (hb2.mono hz1')).news (ints_oneCell _ _) (by unfold maxLen; omega) (by omega) hz2' ?_; intro v3 w3 hown3 hg3))
  have hb3 : Below w1.heap.size w1 w3 := hb2.grown hg3 hz2' (fun k hk => (hown2.lt k hk).1)
  obtain ⟨A3, c3, rfl, hr3⟩ := Rd.of_own (n := 2 + n) (xs := headF xs ++ xs) (k := .u8) (by simpa [Nat.add_comm] using hown3)
  have HS := Lib.hid (refSum_any A3 (2 + n) c3 (headF xs ++ xs) w3 hr3 (bytes_app (lowB_bytes _ _) HX.out) (by omega))
  clear hr3 hown3 hown2 hg3 hg2 hb2 hz2'
  refine HS.out.mono ?_
  rintro e w4 ⟨rfl, hb4⟩
  have hb14 : Below w1.heap.size w1 w4 := hb3.trans (hb4.mono hb3.size)
  have hown4 := own_below HOWN1.out hb14
  have hb04 := hb1.trans (hb14.mono hz1')
  have hSlt := sumL_lt (headF xs ++ xs) (bytes_app (lowB_bytes _ _) HX.out)
  generalize hSd : sumL (headF xs ++ xs) = S at *
  have HSD := Lib.hid hSd
  clear hSd HS HOWN1 HR1 HR0 hb3 hb4 hb14 hb1
  go_wp2_with fail
  go_loopw [3, 4, 5] (fun v' u i wr => ∃ (ys : List Int) (k r : Nat), i = .int .i64 k ∧ k ≤ 4 ∧ u = .int .u32 r ∧ r < 4294967296 ∧ ys.length ≤ 2 + k ∧ Hid (ys ++ lowB (4 - k) r = headF xs ++ lowB 4 S) ∧ wr.ownsRow w.heap.size 5 1 v' ys.length (ys.map (Value.int .u8)) ∧ Below w.heap.size w wr)
    (fun _ _ i _ => 4 - (intOf i).toNat)
  case atStart => exact ⟨headF xs, 0, S, rfl, Nat.zero_le _, rfl, hSlt, by rw [HHL.out]; omega, Lib.hid rfl, by rw [HHL.out]; exact hown4, hb04⟩
  case round =>
    obtain ⟨ys, k, r, rfl, hk, rfl, hr, hy, HY, hown5, hb5⟩ := hrel
    clear hown4 hb04
    by_cases hlt : k < 4
    · have HE : Hid (lowB (4 - k) r = ((r % 256 : Nat) : Int) :: lowB (4 - (k + 1)) (r / 256)) := by
        rw [show 4 - k = (4 - (k + 1)) + 1 by omega]; exact Lib.hid rfl
      have HU : Hid (((r % 256 : Nat) : Int) = (r : Int) % 256) := Lib.hid (by omega)
      have hbz := hb5.size
      go_wp2_with (at_builtin; refine wpList_append_src rfl _ _ 22 rfl w.heap.size 5 i0 _ 1 1 Try.underlying22 hi hz0 hz1 hz2 rfl (by omega) _ ys.length (ys.map (Value.int .u8)) rfl (hown5.alloc _) (some ⟨wr.heap.size, 0, none⟩) 1 1 [.int .u8 ((r : Int) % 256)] rfl rfl (fun h => by cases h) (news_new _ _ _) (one_cell _ _) (by unfold maxLen; omega) (by omega) (by simp; omega) ?_; intro v6 w6 hown6 hg6)
      have hb6 : Below w.heap.size w w6 := (hb5.alloc hbz _).grown hg6 (by simp; omega) (fun k hk => (hown5.lt k hk).1)
      go_roundw
      case rel =>
        refine ⟨ys ++ [((r % 256 : Nat) : Int)], k + 1, r / 256, by go_num, by omega, by go_num, by omega, by rw [List.length_append]; simp; omega, Lib.hid ?_, ?_, hb6⟩
        · rw [← HY.out, HE.out, List.append_assoc]; rfl
        · rw [HU.out]; simpa using hown6
      case measure => simp [intOf]; omega
    · have hk4 : k = 4 := by omega
      subst hk4
      have HYE : Hid (ys = headF xs ++ lowB 4 S) := Lib.hid (by rw [← HY.out]; simp [lowB])
      have HYL : Hid (ys.length = 6) := Lib.hid (by rw [HYE.out, List.length_append, HHL.out, lowB_length])
      rw [HYL.out] at hown5
      have hrn := h.below hb5
      have hbz := hb5.size
      clear HY hy
      go_wp2_with (at_builtin; refine wpList_append_src rfl _ _ 22 rfl w.heap.size 5 i0 _ 1 1 Try.underlying22 hi hz0 hz1 hz2 rfl (by omega) _ 6 _ rfl hown5 A n c (xs.map (Value.int .u8)) rfl HLEN.out h.nil hrn.news (ints_oneCell _ _) (by unfold maxLen; omega) (by omega) hbz ?_; intro v6 w6 hown6 hg6)
      go_ret
      refine ⟨v6, rfl, ?_, hb5.grown hg6 hbz (fun k hk => (hown5.lt k hk).1)⟩
      rw [Nat.add_comm]
      unfold sealF
      rw [HSD.out, ← HYE.out, List.map_append]
      exact hown6
end Go.Proofs.Ytbdfhlgpbhcjcaa
