/- What is proved here: what frame.low returns: the number of at most four bytes, the lowest first; memory stays as it was. -/
import Derived.Test.YtbdfhlgpbhcjcaaCommon
import Derived.Test.YtbdfhlgpbhcjcaaCrc
import Derived.Laws.BitsAll
namespace Go.Proofs.Ytbdfhlgpbhcjcaa
open Go Go.RowKit

/-- The number of bytes, the lowest one first. -/
def lowN : List Int → Nat
  | [] => 0
  | x :: l => x.toNat + 256 * lowN l
theorem lowN_snoc : ∀ (l : List Int) (x : Int), lowN (l ++ [x]) = lowN l + x.toNat * 256 ^ l.length
  | [], x => by simp [lowN]
  | y :: l, x => by
    rw [List.cons_append, lowN, lowN_snoc l x, lowN, List.length_cons, Nat.pow_succ, Nat.mul_add, ← Nat.add_assoc]
    congr 1
    rw [Nat.mul_comm 256, Nat.mul_assoc]
theorem lowN_lt : ∀ (l : List Int), (∀ x ∈ l, 0 ≤ x ∧ x < 256) → lowN l < 256 ^ l.length
  | [], _ => by simp [lowN]
  | x :: l, h => by
    have h1 := lowN_lt l fun y hy => h y (List.mem_cons_of_mem _ hy)
    have h2 := h x (List.mem_cons_self ..)
    rw [lowN, List.length_cons, Nat.pow_succ]
    omega
theorem or_byte (i acc : Nat) (x : Int) (hi : i < 4) (hacc : acc < 256 ^ i) (hx : 0 ≤ x ∧ x < 256) :
    bits .or .u32 (acc : Int) (x * 2 ^ (8 * i) % 4294967296) = ((acc + x.toNat * 256 ^ i : Nat) : Int) := by
  obtain ⟨k, rfl⟩ : ∃ k : Nat, x = (k : Int) := ⟨x.toNat, by omega⟩
  have hp : (2 : Int) ^ (8 * i) = ((256 ^ i : Nat) : Int) := by
    rw [Int.pow_mul, Int.natCast_pow]
    rfl
  have h8 : 256 ^ i ≤ 256 ^ 3 := Nat.pow_le_pow_right (by omega) (by omega)
  have h88 : (256 : Nat) ^ 3 = 16777216 := by decide
  have hm : k * 256 ^ i ≤ 255 * 256 ^ i := Nat.mul_le_mul_right _ (by omega)
  rw [hp, ← Int.natCast_mul, Int.emod_eq_of_lt (by omega) (by omega), Int.toNat_natCast]
  have hor : acc + k * 256 ^ i = acc ||| (k * 256 ^ i) := by
    have h256 : 256 ^ i = 2 ^ (8 * i) := by rw [Nat.pow_mul]
    rw [Nat.mul_comm k, h256, Nat.add_comm, Nat.or_comm]
    exact Nat.two_pow_add_eq_or_of_lt (by rw [← h256]; exact hacc) k
  rw [hor]
  exact u32_or_nat _ _ (by omega) (by omega)
set_option maxHeartbeats 400000 in
theorem low_any (A : Option Addr) (n c : Nat) (xs : List Int) (B : Nat) (w : World) (h : Rd w B .u8 A n c xs) (hb : ∀ x ∈ xs, 0 ≤ x ∧ x < 256) (hn : n ≤ 4) :
    Calls Try.prog 26 #[.slice A n c] w fun e w' => e = .returned (.int .u32 (lowN xs)) ∧ w = w' := by
  have HL := Lib.hid h.len
  have HB := Lib.hid hb
  clear hb
  go_enter Try.func26, Try.ntmps26
  go_wp2
  go_loop [3, 8] (fun a i => ∃ k : Nat, k ≤ n ∧ i = .int .i64 k ∧ a = .int .u32 (lowN (xs.take k))) (fun _ i => n - (intOf i).toNat)
  case atStart => exact ⟨0, Nat.zero_le _, rfl, rfl⟩
  case round =>
    obtain ⟨k, hk, rfl, rfl⟩ := hrel
    have hbk : ∀ x ∈ xs.take k, 0 ≤ x ∧ x < 256 := fun x hx => HB.out x (List.mem_of_mem_take hx)
    have hlt := lowN_lt _ hbk
    rw [List.length_take, HL.out, Nat.min_eq_left hk] at hlt
    by_cases hkn : k < n
    · obtain ⟨b, o, rfl, hbl, hcell⟩ := h.cell hkn
      have HS := Lib.hid (take_snoc xs k (by rw [HL.out]; exact hkn))
      have hx := HB.out (xs.getD k 0) (by
        rw [List.getD_eq_getElem?_getD, List.getElem?_eq_getElem (by rw [HL.out]; exact hkn)]
        exact List.getElem_mem _)
      have HO := Lib.hid (or_byte k (lowN (xs.take k)) (xs.getD k 0) (by omega) hlt hx)
      have HN := Lib.hid (lowN_snoc (xs.take k) (xs.getD k 0))
      clear hlt hbk
      generalize xs.getD k 0 = x at *
      generalize hacc : lowN (xs.take k) = acc at *
      have HA := Lib.hid hacc
      clear hacc
      go_wp2
      go_round
      case rel =>
        refine ⟨k + 1, by omega, by go_num, ?_⟩
        rw [HO.out, HS.out, HN.out, List.length_take, HL.out, Nat.min_eq_left hk]
      case measure => simp [intOf]; omega
    · go_wp2
      go_ret
      have hkn' : k = n := by omega
      subst hkn'
      rw [List.take_of_length_le (by rw [HL.out]; exact Nat.le_refl _)]
      exact ⟨rfl, rfl⟩
end Go.Proofs.Ytbdfhlgpbhcjcaa
