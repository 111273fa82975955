/- What is proved here: the document's own reader of a number reads what the program's does. -/
import Derived.Test.YtkdncnhjlgidnaaGreatDoorCPlain
import Derived.Test.YtkdncnhjlgidnaaGreatDoorCChg
import Derived.Deep.QuietTactic
import Derived.BigQuiet
namespace Go.Proofs.YtkdncnhjlgidnaaGreatDoor
open Go Go.RowKit Go.Maps

/-- The number of so many bytes, the least ones first. -/
def valL : List Int → Nat → Nat
  | _, 0 => 0
  | [], _ + 1 => 0
  | d :: r, m + 1 => d.toNat % 128 + 128 * valL r m
theorem numF_ones : ∀ (m f i acc : Nat) (l : List Int), (∀ j, j < m → 128 ≤ l.getD j 0) → m ≤ l.length → numF (f + m) i acc l = numF f (i + m) (acc + valL l m * 128 ^ i) (l.drop m)
  | 0, f, i, acc, l, _, _ => by simp [valL]
  | m + 1, f, i, acc, [], _, hl => by simp at hl
  | m + 1, f, i, acc, d :: r, h, hl => by
    have h0 : 128 ≤ d := by have := h 0 (by omega); simpa using this
    rw [← Nat.add_assoc f m 1, numF_on _ _ _ _ _ h0, numF_ones m f (i + 1) _ r (fun j hj => by have := h (j + 1) (by omega); simpa using this) (by simpa using hl)]
    have e1 : i + 1 + m = i + (m + 1) := by omega
    have e2 : acc + d.toNat % 128 * 128 ^ i + valL r m * 128 ^ (i + 1) = acc + valL (d :: r) (m + 1) * 128 ^ i := by
      show _ = acc + (d.toNat % 128 + 128 * valL r m) * 128 ^ i
      rw [Nat.add_mul, Nat.pow_succ, ← Nat.add_assoc, Nat.mul_comm 128 (valL r m), Nat.mul_assoc, Nat.mul_comm (128 ^ i) 128]
    rw [e1, e2]
    rfl
theorem num_long {l : List Int} (h : ∀ j, j < 9 → 128 ≤ l.getD j 0) (hl : 9 ≤ l.length) : numF 9 0 0 l = (0, 0, 2) := by
  have := numF_ones 9 0 0 0 l h hl
  rw [Nat.zero_add] at this
  rw [this]; rfl
theorem num_ends {l : List Int} {m : Nat} (h : ∀ j, j < m → 128 ≤ l.getD j 0) (hm : m < 9) (hl : m = l.length) : numF 9 0 0 l = (0, 0, 3) := by
  obtain ⟨f, hf⟩ : ∃ f, 9 = f + 1 + m := ⟨8 - m, by omega⟩
  rw [hf, numF_ones m (f + 1) 0 0 l h (by omega), numF_end _ _ _ _ (by rw [hl]; simp)]
theorem num_zero {l : List Int} {m : Nat} (h : ∀ j, j < m → 128 ≤ l.getD j 0) (hm : m < 9) (hl : m < l.length) (h0 : l.getD m 0 = 0) (hp : 0 < m) : numF 9 0 0 l = (0, 0, 2) := by
  obtain ⟨f, hf⟩ : ∃ f, 9 = f + 1 + m := ⟨8 - m, by omega⟩
  rw [hf, numF_ones m (f + 1) 0 0 l h (by omega), drop_at _ _ hl, h0, numF_zero _ _ _ _ (by omega)]
theorem valL_succ : ∀ (m : Nat) (l : List Int), m < l.length → valL l (m + 1) = valL l m + (l.getD m 0).toNat % 128 * 128 ^ m
  | 0, d :: r, _ => by simp [valL]
  | m + 1, d :: r, h => by
    show d.toNat % 128 + 128 * valL r (m + 1) = d.toNat % 128 + 128 * valL r m + _
    rw [valL_succ m r (by simpa using h), Nat.mul_add, Nat.pow_succ]
    simp only [List.getD_cons_succ]
    have : 128 * ((r.getD m 0).toNat % 128 * 128 ^ m) = (r.getD m 0).toNat % 128 * (128 ^ m * 128) := by
      rw [Nat.mul_comm 128, Nat.mul_assoc]
    omega
  | _, [], h => by simp at h
theorem num_fine {l : List Int} {m : Nat} (h : ∀ j, j < m → 128 ≤ l.getD j 0) (hm : m < 9) (hl : m < l.length) (h1 : ¬ 128 ≤ l.getD m 0) (h0 : ¬ (l.getD m 0 = 0 ∧ 0 < m)) : numF 9 0 0 l = (valL l (m + 1), m + 1, 0) := by
  obtain ⟨f, hf⟩ : ∃ f, 9 = f + 1 + m := ⟨8 - m, by omega⟩
  rw [hf, numF_ones m (f + 1) 0 0 l h (by omega), drop_at _ _ hl, numF_last _ _ _ _ _ h1 (by rw [Nat.zero_add]; exact h0), valL_succ m l hl]
  simp
theorem valL_lt : ∀ (m : Nat) (l : List Int), valL l m < 128 ^ m
  | 0, _ => by simp [valL]
  | m + 1, [] => by simp only [valL]; exact Nat.pow_pos (by omega)
  | m + 1, d :: r => by
    show d.toNat % 128 + 128 * valL r m < _
    have := valL_lt m r
    have h2 : d.toNat % 128 < 128 := Nat.mod_lt _ (by omega)
    rw [Nat.pow_succ]
    omega
theorem rd_at {w : World} {B n c : Nat} {A : Option Addr} {xs : List Int} (h : Rd w B .u8 A n c xs) {j : Nat} (hj : j < n) : ∃ b o, A = some ⟨b, o, none⟩ ∧ b < B ∧ w.cell? ⟨b, o + j, none⟩ = some (.int .u8 (xs.getD j 0)) := by
  have hl := h.len
  exact h.place j _ (by rw [List.getD_eq_getElem?_getD, List.getElem?_eq_getElem (show j < xs.length by omega)]; rfl)
theorem goNum_bad {xs : List Int} {p er : Nat} (h : numF 9 0 0 (xs.drop p) = (0, 0, er + 1)) : goNum xs p 0 = (0, p, er + 1) := by
  unfold goNum
  rw [if_pos rfl, h, if_neg (by show ¬ er + 1 = 0; omega)]
theorem goNum_good {xs : List Int} {p v u : Nat} (h : numF 9 0 0 (xs.drop p) = (v, u, 0)) : goNum xs p 0 = (v, p + u, 0) := by
  unfold goNum
  rw [if_pos rfl, h, if_pos rfl]

set_option maxHeartbeats 3200000 in
theorem Read1_any (A : Option Addr) (n d : Nat) (xs : List Int) (p : Nat) (w : World) (h : Rd w w.heap.size .u8 A n d xs) (hx : ∀ x ∈ xs, 0 ≤ x ∧ x < 256) (hn : n ≤ 1000000) (hp : p ≤ n) :
    Calls Tryz.prog 46 #[.slice A n d, .int .i64 p] w fun e w' => e = .returned (.tuple #[.int .i64 (goNum xs p 0).1, .int .i64 (goNum xs p 0).2.1, .int .i64 (goNum xs p 0).2.2]) ∧ Below w.heap.size w w' := by
  have hlen := h.len
  have HL := Lib.hid h; have HLEN := Lib.hid hlen; have HX := Lib.hid hx
  clear h hlen hx
  have w1 : IntKind.i64.wrap ((p : Int) + 9) = (p : Int) + 9 := IntWalk.i64_in _ (by omega)
  go_enter Tryz.func46, Tryz.ntmps46
  go_wp2_with fail
  go_loopw [7] (fun v7 wr => ∃ (k : Nat), v7 = .int .i64 k ∧ p ≤ k ∧ k ≤ n ∧ k ≤ p + 9 ∧ Hid (∀ i, i < k - p → 128 ≤ (xs.drop p).getD i 0) ∧ Hid (Below w.heap.size w wr)) (fun i _ => n - (intOf i).toNat)
  case atStart => exact ⟨p, rfl, by omega, hp, by omega, Lib.hid (fun i hi => by omega), Lib.hid (Below.refl _ _)⟩
  case round =>
    obtain ⟨k, rfl, hk1, hk2, hk3, hall, hbw⟩ := hrel
    have HK := Lib.hid (And.intro hk1 (And.intro hk2 hk3))
    by_cases h1 : k < n
    · have d1 : decide ((k : Int) < n) = true := decide_eq_true (by omega)
      by_cases h2 : k < p + 9
      · have d2 : decide ((k : Int) < p + 9) = true := decide_eq_true (by omega)
        obtain ⟨b, o, rfl, hb, hc⟩ := rd_at (HL.out.below hbw.out) h1
        have w2 : IntKind.i64.wrap (k : Int) = k := IntWalk.i64_in _ (by omega)
        have w3 : IntKind.i64.wrap ((k : Int) + 1) = k + 1 := IntWalk.i64_in _ (by omega)
        have hget : xs.getD k 0 = (xs.drop p).getD (k - p) 0 := by
          rw [List.getD_eq_getElem?_getD, List.getD_eq_getElem?_getD, List.getElem?_drop, show p + (k - p) = k by omega]
        have HGET := Lib.hid hget
        clear hget
        generalize xs.getD k 0 = x at *
        by_cases h3 : 128 ≤ x
        · have d3 : decide (128 ≤ x) = true := decide_eq_true h3
          have hnew : ∀ i, i < k + 1 - p → 128 ≤ (xs.drop p).getD i 0 := fun i hi => by
            rcases Nat.lt_or_ge i (k - p) with h | h
            · exact hall.out i h
            · obtain rfl : i = k - p := by omega
              rw [← HGET.out]; exact h3
          have HNEW := Lib.hid hnew
          have H12 := Lib.hid (And.intro h1 h2)
          clear hnew hk1 hk2 hk3 hall
          go_wp2_with fail
          go_roundw
          case rel => exact ⟨k + 1, by go_num, by have := HK.out; omega, by have := H12.out; omega, by have := H12.out; omega, HNEW, hbw⟩
          case measure => simp [intOf]; have := H12.out; omega
        · have d3 : decide (128 ≤ x) = false := decide_eq_false h3
          have d4 : decide ((p : Int) + 9 ≤ k) = false := decide_eq_false (by omega)
          have d5 : decide ((n : Int) ≤ k) = false := decide_eq_false (by omega)
          by_cases h4 : x = 0 ∧ p < k
          · obtain ⟨rfl, h4⟩ := h4
            have d6 : decide ((p : Int) < k) = true := decide_eq_true (by omega)
            have HT : Hid (goNum xs p 0 = (0, p, 2)) := Lib.hid (goNum_bad (num_zero hall.out (by omega) (by rw [List.length_drop, HLEN.out]; omega) HGET.out.symm (by omega)))
            clear hk1 hk2 hk3 hall
            go_wp2_with fail
            go_ret3
            exact ⟨by rw [HT.out]; rfl, hbw.out⟩
          · have HT : Hid (goNum xs p 0 = (valL (xs.drop p) (k + 1 - p), k + 1, 0)) := Lib.hid (by
              rw [goNum_good (num_fine hall.out (by omega) (by rw [List.length_drop, HLEN.out]; omega) (by rw [← HGET.out]; exact h3) (by rw [← HGET.out]; omega)), show k - p + 1 = k + 1 - p by omega, show p + (k + 1 - p) = k + 1 by omega])
            have d6 : (x == 0 && decide (p < k)) = false := by
              rcases Decidable.not_and_iff_or_not.1 h4 with h | h
              · simp [h]
              · simp [h]
            have HHB : Hid (∀ W, Below w.heap.size w W → Below w.heap.size wr W → True) := Lib.hid fun _ _ _ => trivial
            have HKK := Lib.hid (And.intro h1 (And.intro h2 hk1))
            have w4 : IntKind.i64.wrap ((k : Int) + 1) = k + 1 := IntWalk.i64_in _ (by omega)
            by_cases hx0 : x = 0
            · have hpk : ¬ p < k := fun h => h4 ⟨hx0, h⟩
              clear hk1 hk2 hk3 hall HK
              subst hx0
              go_wp2_with fail
              go_loopw [8, 9] (fun v8 v9 wr2 => ∃ (j m : Nat) (z : Int), v8 = .int .i64 m ∧ v9 = .int .i64 z ∧ Hid (z = (j : Int) - 1 ∧ p ≤ j ∧ j ≤ k + 1 ∧ m = valL (xs.drop j) (k + 1 - j)) ∧ wr2 = wr) (fun _ i _ => (intOf i + 1).toNat)
              case atStart => exact ⟨k + 1, 0, k, rfl, rfl, Lib.hid ⟨by omega, by have := HKK.out; omega, by omega, by rw [Nat.sub_self]; cases xs.drop (k + 1) <;> rfl⟩, rfl⟩
              case round =>
                obtain ⟨j, m, z, rfl, rfl, hz, rfl⟩ := hrel
                by_cases hj : j = p
                · obtain rfl : z = (p : Int) - 1 := by have := hz.out; omega
                  have d7 : decide ((p : Int) ≤ p - 1) = false := decide_eq_false (by omega)
                  have HM : Hid (m = valL (xs.drop p) (k + 1 - p)) := Lib.hid (by have := hz.out.2.2.2; rw [hj] at this; exact this)
                  clear hz hj
                  go_wp2_with fail
                  go_ret3
                  exact ⟨by rw [HT.out, HM.out]; rfl, hbw.out⟩
                · obtain ⟨i, rfl⟩ : ∃ i, j = i + 1 := ⟨j - 1, by have := hz.out; omega⟩
                  obtain rfl : z = (i : Int) := by have := hz.out; omega
                  have hpi : p ≤ i := by have := hz.out; omega
                  have hik : i ≤ k := by have := hz.out; omega
                  have hin : i < n := by have := HKK.out; omega
                  have hcell : wr.cell? ⟨b, o + i, none⟩ = some (.int .u8 (xs.getD i 0)) := by
                    obtain ⟨b2, o2, e2, _, hc2⟩ := rd_at (HL.out.below hbw.out) hin
                    simp only [Option.some.injEq, Addr.mk.injEq] at e2
                    obtain ⟨rfl, rfl, _⟩ := e2
                    exact hc2
                  have hmem : 0 ≤ xs.getD i 0 ∧ xs.getD i 0 < 256 := by
                    rw [List.getD_eq_getElem?_getD, List.getElem?_eq_getElem (show i < xs.length by rw [HLEN.out]; omega)]
                    exact HX.out _ (List.getElem_mem _)
                  have hval : valL (xs.drop i) (k + 1 - i) = (xs.getD i 0).toNat % 128 + 128 * m := by
                    rw [drop_at xs i (by rw [HLEN.out]; omega), show k + 1 - i = (k + 1 - (i + 1)) + 1 by omega]
                    show _ + 128 * valL (xs.drop (i + 1)) (k + 1 - (i + 1)) = _
                    rw [← hz.out.2.2.2]
                  have hlt : valL (xs.drop i) (k + 1 - i) < 9223372036854775808 := by
                    refine Nat.lt_of_lt_of_le (valL_lt _ _) ?_
                    have : (128 : Nat) ^ (k + 1 - i) ≤ 128 ^ 9 := Nat.pow_le_pow_right (by omega) (by have := HKK.out; omega)
                    exact Nat.le_trans this (by decide)
                  generalize xs.getD i 0 = y at *
                  obtain ⟨q, rfl⟩ : ∃ q : Nat, y = q := ⟨y.toNat, by omega⟩
                  have w5 : IntKind.i64.wrap (i : Int) = i := IntWalk.i64_in _ (by omega)
                  have w6 : IntKind.i64.wrap ((i : Int) - 1) = (i : Int) - 1 := IntWalk.i64_in _ (by omega)
                  have w7 : IntKind.i64.wrap ((m : Int) * 128) = (m : Int) * 128 := IntWalk.i64_in _ (by omega)
                  have w8 : IntKind.i64.wrap (q : Int) = q := IntWalk.i64_in _ (by omega)
                  have d7 : decide ((p : Int) ≤ i) = true := decide_eq_true (by omega)
                  have HV := Lib.hid (And.intro hval (And.intro hlt hmem))
                  have HI := Lib.hid (And.intro hpi (And.intro hik hin))
                  clear hval hlt hmem hz hj hik
                  go_wp2_with fail
                  go_roundw
                  case rel =>
                    refine ⟨i, m * 128 + q % 128, (i : Int) - 1, ?_, by go_num, Lib.hid ⟨rfl, HI.out.1, by have := HI.out; omega, ?_⟩, trivial⟩
                    · have hq := HV.out
                      have : wrap64 ((m : Int) * 128 + (q : Int) % 128) = ((m * 128 + q % 128 : Nat) : Int) := by
                        have h3 : q % 128 + 128 * m < 9223372036854775808 := by
                          have h1 := hq.1; have h2 := hq.2.1
                          rw [h1] at h2
                          simpa using h2
                        have h4 : wrap64 ((m : Int) * 128 + (q : Int) % 128) = (m : Int) * 128 + (q : Int) % 128 := by unfold wrap64; omega
                        rw [h4]
                        omega
                      rw [this]
                    · rw [HV.out.1]; simp; omega
                  case measure => simp [intOf]
            · clear hk1 hk2 hk3 hall HK
              go_wp2_with fail
              go_loopw [8, 9] (fun v8 v9 wr2 => ∃ (j m : Nat) (z : Int), v8 = .int .i64 m ∧ v9 = .int .i64 z ∧ Hid (z = (j : Int) - 1 ∧ p ≤ j ∧ j ≤ k + 1 ∧ m = valL (xs.drop j) (k + 1 - j)) ∧ wr2 = wr) (fun _ i _ => (intOf i + 1).toNat)
              case atStart => exact ⟨k + 1, 0, k, rfl, rfl, Lib.hid ⟨by omega, by have := HKK.out; omega, by omega, by rw [Nat.sub_self]; cases xs.drop (k + 1) <;> rfl⟩, rfl⟩
              case round =>
                obtain ⟨j, m, z, rfl, rfl, hz, rfl⟩ := hrel
                by_cases hj : j = p
                · obtain rfl : z = (p : Int) - 1 := by have := hz.out; omega
                  have d7 : decide ((p : Int) ≤ p - 1) = false := decide_eq_false (by omega)
                  have HM : Hid (m = valL (xs.drop p) (k + 1 - p)) := Lib.hid (by have := hz.out.2.2.2; rw [hj] at this; exact this)
                  clear hz hj
                  go_wp2_with fail
                  go_ret3
                  exact ⟨by rw [HT.out, HM.out]; rfl, hbw.out⟩
                · obtain ⟨i, rfl⟩ : ∃ i, j = i + 1 := ⟨j - 1, by have := hz.out; omega⟩
                  obtain rfl : z = (i : Int) := by have := hz.out; omega
                  have hpi : p ≤ i := by have := hz.out; omega
                  have hik : i ≤ k := by have := hz.out; omega
                  have hin : i < n := by have := HKK.out; omega
                  have hcell : wr.cell? ⟨b, o + i, none⟩ = some (.int .u8 (xs.getD i 0)) := by
                    obtain ⟨b2, o2, e2, _, hc2⟩ := rd_at (HL.out.below hbw.out) hin
                    simp only [Option.some.injEq, Addr.mk.injEq] at e2
                    obtain ⟨rfl, rfl, _⟩ := e2
                    exact hc2
                  have hmem : 0 ≤ xs.getD i 0 ∧ xs.getD i 0 < 256 := by
                    rw [List.getD_eq_getElem?_getD, List.getElem?_eq_getElem (show i < xs.length by rw [HLEN.out]; omega)]
                    exact HX.out _ (List.getElem_mem _)
                  have hval : valL (xs.drop i) (k + 1 - i) = (xs.getD i 0).toNat % 128 + 128 * m := by
                    rw [drop_at xs i (by rw [HLEN.out]; omega), show k + 1 - i = (k + 1 - (i + 1)) + 1 by omega]
                    show _ + 128 * valL (xs.drop (i + 1)) (k + 1 - (i + 1)) = _
                    rw [← hz.out.2.2.2]
                  have hlt : valL (xs.drop i) (k + 1 - i) < 9223372036854775808 := by
                    refine Nat.lt_of_lt_of_le (valL_lt _ _) ?_
                    have : (128 : Nat) ^ (k + 1 - i) ≤ 128 ^ 9 := Nat.pow_le_pow_right (by omega) (by have := HKK.out; omega)
                    exact Nat.le_trans this (by decide)
                  generalize xs.getD i 0 = y at *
                  obtain ⟨q, rfl⟩ : ∃ q : Nat, y = q := ⟨y.toNat, by omega⟩
                  have w5 : IntKind.i64.wrap (i : Int) = i := IntWalk.i64_in _ (by omega)
                  have w6 : IntKind.i64.wrap ((i : Int) - 1) = (i : Int) - 1 := IntWalk.i64_in _ (by omega)
                  have w7 : IntKind.i64.wrap ((m : Int) * 128) = (m : Int) * 128 := IntWalk.i64_in _ (by omega)
                  have w8 : IntKind.i64.wrap (q : Int) = q := IntWalk.i64_in _ (by omega)
                  have d7 : decide ((p : Int) ≤ i) = true := decide_eq_true (by omega)
                  have HV := Lib.hid (And.intro hval (And.intro hlt hmem))
                  have HI := Lib.hid (And.intro hpi (And.intro hik hin))
                  clear hval hlt hmem hz hj hik
                  go_wp2_with fail
                  go_roundw
                  case rel =>
                    refine ⟨i, m * 128 + q % 128, (i : Int) - 1, ?_, by go_num, Lib.hid ⟨rfl, HI.out.1, by have := HI.out; omega, ?_⟩, trivial⟩
                    · have hq := HV.out
                      have : wrap64 ((m : Int) * 128 + (q : Int) % 128) = ((m * 128 + q % 128 : Nat) : Int) := by
                        have h3 : q % 128 + 128 * m < 9223372036854775808 := by
                          have h1 := hq.1; have h2 := hq.2.1
                          rw [h1] at h2
                          simpa using h2
                        have h4 : wrap64 ((m : Int) * 128 + (q : Int) % 128) = (m : Int) * 128 + (q : Int) % 128 := by unfold wrap64; omega
                        rw [h4]
                        omega
                      rw [this]
                    · rw [HV.out.1]; simp; omega
                  case measure => simp [intOf]
      · have HT : Hid (goNum xs p 0 = (0, p, 2)) := Lib.hid (goNum_bad (num_long (fun j hj => hall.out j (by omega)) (by rw [List.length_drop, HLEN.out]; omega)))
        have d2 : decide ((k : Int) < p + 9) = false := decide_eq_false (by omega)
        have d4 : decide ((p : Int) + 9 ≤ k) = true := decide_eq_true (by omega)
        clear hk1 hk2 hk3 hall
        go_wp2_with fail
        go_ret3
        exact ⟨by rw [HT.out]; rfl, hbw.out⟩
    · have d1 : decide ((k : Int) < n) = false := decide_eq_false (by omega)
      have d5 : decide ((n : Int) ≤ k) = true := decide_eq_true (by omega)
      by_cases h2 : k < p + 9
      · have HT : Hid (goNum xs p 0 = (0, p, 3)) := Lib.hid (goNum_bad (num_ends hall.out (by omega) (by rw [List.length_drop, HLEN.out]; omega)))
        have d4 : decide ((p : Int) + 9 ≤ k) = false := decide_eq_false (by omega)
        clear hk1 hk2 hk3 hall
        go_wp2_with fail
        go_ret3
        exact ⟨by rw [HT.out]; rfl, hbw.out⟩
      · have HT : Hid (goNum xs p 0 = (0, p, 2)) := Lib.hid (goNum_bad (num_long (fun j hj => hall.out j (by omega)) (by rw [List.length_drop, HLEN.out]; omega)))
        have d4 : decide ((p : Int) + 9 ≤ k) = true := decide_eq_true (by omega)
        clear hk1 hk2 hk3 hall
        go_wp2_with fail
        go_ret3
        exact ⟨by rw [HT.out]; rfl, hbw.out⟩
end Go.Proofs.YtkdncnhjlgidnaaGreatDoor
