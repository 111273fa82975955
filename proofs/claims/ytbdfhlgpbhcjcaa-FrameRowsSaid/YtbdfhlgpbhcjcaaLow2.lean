/- What is proved here: what frame.appendLow returns: the row, and behind it so many bytes of the number, the lowest first, in the row's own memory or a new one. -/
import Derived.Test.YtbdfhlgpbhcjcaaLow
namespace Go.Proofs.Ytbdfhlgpbhcjcaa
open Go Go.RowKit

/-- The lowest bytes of a number, the lowest one first. -/
def lowB : Nat → Nat → List Int
  | 0, _ => []
  | k + 1, n => ((n % 256 : Nat) : Int) :: lowB k (n / 256)
theorem lowB_length : ∀ k n, (lowB k n).length = k
  | 0, _ => rfl
  | k + 1, n => by rw [lowB, List.length_cons, lowB_length k]
theorem lowB_bytes : ∀ k n, ∀ x ∈ lowB k n, 0 ≤ x ∧ x < 256
  | 0, _, x, h => by cases h
  | k + 1, n, x, h => by
    rcases List.mem_cons.1 h with rfl | h
    · omega
    · exact lowB_bytes k (n / 256) x h
theorem lowN_lowB : ∀ k n, lowN (lowB k n) = n % 256 ^ k
  | 0, n => by simp [lowB, lowN, Nat.mod_one]
  | k + 1, n => by
    rw [lowB, lowN, lowN_lowB k, Int.toNat_natCast, Nat.pow_succ, Nat.mul_comm (256 ^ k), Nat.mod_mul]
theorem lowB_lowN : ∀ (l : List Int), (∀ x ∈ l, 0 ≤ x ∧ x < 256) → lowB l.length (lowN l) = l
  | [], _ => rfl
  | x :: l, h => by
    have h1 := h x (List.mem_cons_self ..)
    have h2 := lowB_lowN l fun y hy => h y (List.mem_cons_of_mem _ hy)
    rw [List.length_cons, lowB, lowN, show (x.toNat + 256 * lowN l) / 256 = lowN l by omega, h2, show (x.toNat + 256 * lowN l) % 256 = x.toNat by omega, Int.toNat_of_nonneg h1.1]
theorem lowN_inj {l m : List Int} (hl : ∀ x ∈ l, 0 ≤ x ∧ x < 256) (hm : ∀ x ∈ m, 0 ≤ x ∧ x < 256) (he : l.length = m.length) (h : lowN l = lowN m) : l = m := by
  rw [← lowB_lowN l hl, ← lowB_lowN m hm, he, h]

set_option maxHeartbeats 400000 in
theorem appendLow_any (base : Nat) (v : Value) (xs : List Int) (n m : Nat) (w : World) (hown : w.ownsRow base 5 1 v xs.length (xs.map (Value.int .u8))) (hbase : base ≤ w.heap.size)
    (hx : xs.length ≤ 10000000) (hn : n < 4294967296) (hm : m ≤ 4) :
    Calls Try.prog 22 #[v, .int .u32 n, .int .i64 m] w fun e w' =>
      ∃ v', e = .returned v' ∧ w'.ownsRow base 5 1 v' (xs ++ lowB m n).length ((xs ++ lowB m n).map (Value.int .u8)) ∧ Below base w w' := by
  obtain ⟨i0, hi, hz0, hz1, hz2⟩ := info_parts info_u8
  go_enter Try.func22, Try.ntmps22
  go_wp2
  go_loopw [0, 1, 8] (fun v' u i wr => ∃ (ys : List Int) (k r : Nat), i = .int .i64 k ∧ k ≤ m ∧ u = .int .u32 r ∧ r < 4294967296 ∧ ys.length ≤ xs.length + k ∧ Hid (ys ++ lowB (m - k) r = xs ++ lowB m n) ∧ wr.ownsRow base 5 1 v' ys.length (ys.map (Value.int .u8)) ∧ Below base w wr)
    (fun _ _ i _ => m - (intOf i).toNat)
  case atStart => exact ⟨xs, 0, n, rfl, Nat.zero_le _, rfl, hn, Nat.le_refl _, Lib.hid rfl, hown, Below.refl _ _⟩
  case round =>
    obtain ⟨ys, k, r, rfl, hk, rfl, hr, hy, HY, hown1, hb1⟩ := hrel
    by_cases hlt : k < m
    · have HE : Hid (lowB (m - k) r = ((r % 256 : Nat) : Int) :: lowB (m - (k + 1)) (r / 256)) := by
        rw [show m - k = (m - (k + 1)) + 1 by omega]; exact Lib.hid rfl
      have hu : ((r % 256 : Nat) : Int) = (r : Int) % 256 := by omega
      have HU := Lib.hid hu
      clear hu hown
      go_wp2_with (at_builtin
                   refine wpList_append_src rfl _ _ 22 rfl base 5 i0 _ 1 1 Try.underlying22 hi hz0 hz1 hz2 rfl (by omega) _ ys.length (ys.map (Value.int .u8)) rfl (hown1.alloc _)
                     (some ⟨wr.heap.size, 0, none⟩) 1 1 [.int .u8 ((r : Int) % 256)] rfl rfl (fun h => by cases h) (news_new _ _ _) (one_cell _ _) (by unfold maxLen; omega) (by omega) (by have := hb1.size; simp; omega) ?_
                   intro v2 w2 hown2 hg2)
      have hb2 : Below base w w2 := (hb1.alloc (by have := hb1.size; omega) _).grown hg2 (by have := hb1.size; simp; omega) (fun k hk => (hown1.lt k hk).1)
      go_roundw
      case rel =>
        refine ⟨ys ++ [((r % 256 : Nat) : Int)], k + 1, r / 256, by go_num, by omega, by go_num, by omega, by rw [List.length_append]; simp; omega, Lib.hid ?_, ?_, hb2⟩
        · rw [← HY.out, HE.out, List.append_assoc]; rfl
        · rw [HU.out]; simpa using hown2
      case measure => simp [intOf]; omega
    · go_wp2
      go_ret
      have e : ys = xs ++ lowB m n := by
        rw [← HY.out, show m - k = 0 by omega]; simp [lowB]
      rw [← e]
      exact ⟨_, rfl, hown1, hb1⟩
end Go.Proofs.Ytbdfhlgpbhcjcaa
