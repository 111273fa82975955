/- What is proved here: plain facts on the names of segments: eight decimal digits, their order, and how they are read. -/
/- What is proved here: what a segment's 'name' and 'firstOf' answer (strconv's table as its text lays it). -/
/- What is proved here: what a law's first world holds of the variables that the conversions read; the wrap that hands on a law's variables and its world's shape. -/
/- What is proved here: what it is that memory holds a log; its queries. -/
import Derived.Lib.ItoaNum
import Derived.WideAt
import Derived.WideShapes
import Derived.Lib.Strings
import Derived.Test.YtnomicnmpllajaaGreatDoorPFu6
import Derived.Test.YtnomicnmpllajaaGreatDoorPFu7
import Derived.Test.YtnomicnmpllajaaGreatDoorShelf
import Derived.WalkSmall
import Derived.Lib.AppendIntMem
import Derived.Laws.RangeAny
import Derived.Test.YtnomicnmpllajaaGreatDoorRows
import Derived.WalkKit
import Derived.ProofKit
import Derived.ChangeOld
import Derived.ChangeVars
import Derived.JoinedOf
import Derived.LaidLaws
import Derived.LaidHandle
import Derived.LaidSub
import Derived.LaidMore
import Derived.Handed
import Derived.Lib.LaidTab
import Derived.Shelf.Vars
import Derived.Deep.RegionHeld3
section
namespace Go.Proofs.YtnomicnmpllajaaGreatDoor
open Go

/-- The last n decimal digits of a number. -/
def pad : Nat → Nat → List UInt8
  | 0, _ => []
  | n + 1, k => pad n (k / 10) ++ [UInt8.ofNat (48 + k % 10)]
theorem pad_len : ∀ (n k : Nat), (pad n k).length = n
  | 0, _ => rfl
  | n + 1, k => by simp [pad, pad_len n]
theorem dec_pad : ∀ (n k : Nat), k < 10 ^ n → Lib.decDigits (10 ^ n + k) = 49 :: pad n k
  | 0, k, h => by
    obtain rfl : k = 0 := by simpa using h
    rw [Lib.decDigits, dif_pos (by simp)]
    rfl
  | n + 1, k, h => by
    have h10 : 1 ≤ 10 ^ n := Nat.one_le_pow n 10 (by omega)
    have hp : 10 ^ (n + 1) = 10 ^ n * 10 := Nat.pow_succ 10 n
    rw [hp] at h ⊢
    rw [Lib.decDigits, dif_neg (by omega), show (10 ^ n * 10 + k) / 10 = 10 ^ n + k / 10 by omega, dec_pad n (k / 10) (by omega), show (10 ^ n * 10 + k) % 10 = k % 10 by omega]
    rfl
/-- The name of the segment whose first record has that number. -/
def segName (k : Nat) : List UInt8 := [108, 111, 103] ++ pad 8 k
theorem segName_len (k : Nat) : (segName k).length = 11 := by simp [segName, pad_len]
theorem dig_lt {a b : Nat} (ha : a < 10) (hb : b < 10) : (UInt8.ofNat (48 + a) < UInt8.ofNat (48 + b)) ↔ a < b := by
  rw [UInt8.lt_iff_toNat_lt, UInt8.toNat_ofNat', UInt8.toNat_ofNat', Nat.mod_eq_of_lt (by omega), Nat.mod_eq_of_lt (by omega)]
  omega
theorem dig_eq {a b : Nat} (ha : a < 10) (hb : b < 10) : (UInt8.ofNat (48 + a) = UInt8.ofNat (48 + b)) ↔ a = b := by
  constructor
  · intro h
    have := congrArg UInt8.toNat h
    rw [UInt8.toNat_ofNat', UInt8.toNat_ofNat', Nat.mod_eq_of_lt (by omega), Nat.mod_eq_of_lt (by omega)] at this
    omega
  · rintro rfl; rfl
theorem before_snoc (c d : UInt8) : ∀ (x y : List UInt8), x.length = y.length → bytesBefore (x ++ [c]) (y ++ [d]) = (bytesBefore x y || (x == y && decide (c < d)))
  | [], [], _ => by simp [bytesBefore]
  | a :: r, b :: s, h => by
    have ih := before_snoc c d r s (by simpa using h)
    simp only [List.cons_append, bytesBefore, ih, List.cons_beq_cons]
    generalize (a == b) = e
    cases decide (a < b) <;> cases e <;> simp
  | [], _ :: _, h => by simp at h
  | _ :: _, [], h => by simp at h
theorem pad_inj : ∀ (n a b : Nat), a < 10 ^ n → b < 10 ^ n → (pad n a = pad n b ↔ a = b)
  | 0, a, b, ha, hb => by simp at ha hb; simp [ha, hb]
  | n + 1, a, b, ha, hb => by
    have hp : 10 ^ (n + 1) = 10 ^ n * 10 := Nat.pow_succ 10 n
    rw [hp] at ha hb
    have ih := pad_inj n (a / 10) (b / 10) (by omega) (by omega)
    constructor
    · intro h
      have h2 := List.append_inj' h rfl
      have h3 := ih.1 h2.1
      have h4 : UInt8.ofNat (48 + a % 10) = UInt8.ofNat (48 + b % 10) := by simpa using h2.2
      have h5 := (dig_eq (Nat.mod_lt a (by omega)) (Nat.mod_lt b (by omega))).1 h4
      omega
    · rintro rfl; rfl
theorem pad_before : ∀ (n a b : Nat), a < 10 ^ n → b < 10 ^ n → bytesBefore (pad n a) (pad n b) = decide (a < b)
  | 0, a, b, ha, hb => by simp at ha hb; subst ha hb; rfl
  | n + 1, a, b, ha, hb => by
    have hp : 10 ^ (n + 1) = 10 ^ n * 10 := Nat.pow_succ 10 n
    rw [hp] at ha hb
    show bytesBefore (pad n (a / 10) ++ [_]) (pad n (b / 10) ++ [_]) = _
    rw [before_snoc _ _ _ _ (by rw [pad_len, pad_len]), pad_before n (a / 10) (b / 10) (by omega) (by omega)]
    have h1 := pad_inj n (a / 10) (b / 10) (by omega) (by omega)
    have h2 := dig_lt (Nat.mod_lt a (show 10 > 0 by omega)) (Nat.mod_lt b (show 10 > 0 by omega))
    rw [Bool.eq_iff_iff]
    simp only [Bool.or_eq_true, decide_eq_true_eq, Bool.and_eq_true, beq_iff_eq, h1, h2]
    omega
theorem segName_inj {a b : Nat} (ha : a < 100000000) (hb : b < 100000000) : segName a = segName b ↔ a = b := by
  unfold segName
  rw [List.append_cancel_left_eq]
  exact pad_inj 8 a b ha hb
theorem segName_before {a b : Nat} (ha : a < 100000000) (hb : b < 100000000) : bytesBefore (segName a) (segName b) = decide (a < b) := by
  show bytesBefore (108 :: 111 :: 103 :: pad 8 a) (108 :: 111 :: 103 :: pad 8 b) = _
  simp only [bytesBefore, pad_before 8 a b ha hb]
  simp

/-- What digits read as. -/
def valD (l : List UInt8) : Nat := l.foldl (fun v c => 10 * v + (c.toNat - 48)) 0
def allD (l : List UInt8) : Bool := l.all fun c => decide (48 ≤ c.toNat) && decide (c.toNat ≤ 57)
theorem valD_snoc (l : List UInt8) (c : UInt8) : valD (l ++ [c]) = 10 * valD l + (c.toNat - 48) := by simp [valD]
theorem allD_snoc (l : List UInt8) (c : UInt8) : allD (l ++ [c]) = (allD l && (decide (48 ≤ c.toNat) && decide (c.toNat ≤ 57))) := by simp [allD]
theorem dig_nat {a : Nat} (ha : a < 10) : (UInt8.ofNat (48 + a)).toNat = 48 + a := by rw [UInt8.toNat_ofNat', Nat.mod_eq_of_lt (by omega)]
theorem pad_val : ∀ (n k : Nat), k < 10 ^ n → valD (pad n k) = k ∧ allD (pad n k) = true
  | 0, k, h => by simp at h; subst h; exact ⟨rfl, rfl⟩
  | n + 1, k, h => by
    have hp : 10 ^ (n + 1) = 10 ^ n * 10 := Nat.pow_succ 10 n
    rw [hp] at h
    obtain ⟨h1, h2⟩ := pad_val n (k / 10) (by omega)
    have hd := dig_nat (Nat.mod_lt k (show 10 > 0 by omega))
    unfold pad
    rw [valD_snoc, allD_snoc, h1, h2, hd]
    refine ⟨by omega, ?_⟩
    have := Nat.mod_lt k (show 10 > 0 by omega)
    rw [decide_eq_true (by omega), decide_eq_true (by omega)]
    rfl
theorem rev_ind {α : Type} {P : List α → Prop} (h0 : P []) (h1 : ∀ l c, P l → P (l ++ [c])) (l : List α) : P l := by
  have : ∀ m : List α, P m.reverse := by
    intro m
    induction m with
    | nil => exact h0
    | cons c r ih => rw [List.reverse_cons]; exact h1 _ _ ih
  have h2 := this l.reverse
  rwa [List.reverse_reverse] at h2
theorem valD_lt : ∀ (l : List UInt8), allD l = true → valD l < 10 ^ l.length := by
  refine rev_ind (fun _ => by simp [valD]) fun l c ih h => ?_
  rw [allD_snoc] at h
  simp only [Bool.and_eq_true, decide_eq_true_eq] at h
  have := ih h.1
  rw [valD_snoc, List.length_append]
  show _ < 10 ^ (l.length + 1)
  rw [Nat.pow_succ]
  omega
/-- What a segment's name reads as: the number of its first record, and whether it is one. -/
def firstF (l : List UInt8) : Nat × Bool := if l.length = 8 ∧ allD l = true then (valD l, true) else (0, false)
theorem firstF_pad {k : Nat} (hk : k < 100000000) : firstF (pad 8 k) = (k, true) := by
  obtain ⟨h1, h2⟩ := pad_val 8 k hk
  unfold firstF
  rw [if_pos ⟨pad_len 8 k, h2⟩, h1]
/-- What reads as a number is that number's name. -/
theorem pad_of_val : ∀ (l : List UInt8), allD l = true → l = pad l.length (valD l) := by
  refine rev_ind (fun _ => rfl) fun l c ih h => ?_
  rw [allD_snoc] at h
  simp only [Bool.and_eq_true, decide_eq_true_eq] at h
  have h1 := ih h.1
  rw [valD_snoc, List.length_append]
  show l ++ [c] = pad l.length ((10 * valD l + (c.toNat - 48)) / 10) ++ [UInt8.ofNat (48 + (10 * valD l + (c.toNat - 48)) % 10)]
  rw [show (10 * valD l + (c.toNat - 48)) / 10 = valD l by omega, ← h1, show 48 + (10 * valD l + (c.toNat - 48)) % 10 = c.toNat by omega, UInt8.ofNat_toNat]
end Go.Proofs.YtnomicnmpllajaaGreatDoor
end

section
namespace Go.Proofs.YtnomicnmpllajaaGreatDoor
open Go Go.RowKit

/-- strconv's table of powers. -/
def Tab (w : World) : Prop := Lib.TabIs Tryz.prog w "internal/strconv.uint64pow10" .u64 Lib.pow10Tab
theorem tab_global : Tryz.prog.globalNamed "internal/strconv.uint64pow10" = some 2 := by kernel_rfl
theorem Tab.lt {w : World} (h : Tab w) : 2 < w.heap.size := World.block_lt_of_cell? w _ (h.cell tab_global 0 (by decide))
theorem Tab.below {w w' : World} (h : Tab w) (hb : Below w.heap.size w w') : Tab w' := var?_below hb tab_global h.lt h

theorem str_ext {a b : ByteArray} (h : a.data.toList = b.data.toList) : a = b := by
  cases a with
  | mk x => cases b with
    | mk y =>
      have : x = y := by simpa using congrArg List.toArray h
      rw [this]
/-- A segment's name as a string. -/
def nameS (k : Nat) : ByteArray := ⟨(segName k).toArray⟩
theorem nameS_size (k : Nat) : (nameS k).size = 11 := segName_len k
theorem nameS_list (k : Nat) : (nameS k).data.toList = segName k := by simp [nameS]
theorem itoa_pad {k : Nat} (hk : k < 100000000) : Lib.itoa (100000000 + (k : Int)) = 49 :: pad 8 k := by
  unfold Lib.itoa
  rw [if_neg (by omega), show (100000000 + (k : Int)).toNat = 10 ^ 8 + k by omega]
  exact dec_pad 8 k hk
theorem name_join {k : Nat} (hk : k < 100000000) {D : ByteArray} (hD : D = ⟨(Lib.itoa (100000000 + (k : Int))).toArray⟩) : D.size = 9 ∧ (⟨#[108, 111, 103]⟩ : ByteArray) ++ D.extract 1 D.size = nameS k := by
  rw [itoa_pad hk] at hD
  have hs : D.size = 9 := by
    rw [hD]
    show (49 :: pad 8 k).length = 9
    simp [pad_len]
  refine ⟨hs, str_ext ?_⟩
  rw [nameS_list, hs, hD]
  simp [ByteArray.data_append, ByteArray.data_extract, segName]
  exact List.take_of_length_le (by rw [pad_len]; exact Nat.le_refl _)

set_option maxHeartbeats 400000 in
theorem name_any (k : Nat) (b : Int) (w : World) (hk : k < 100000000) (ht : Tab w) :
    Calls Tryz.prog 54 #[.agg #[.int .i64 k, .int .i64 b]] w fun e w' => e = .returned (.string (nameS k)) ∧ Below w.heap.size w w' := by
  obtain ⟨W, hW⟩ : ∃ W, W = w.alloc (.cells #[.int .i64 k, .int .i64 b] 99) := ⟨_, rfl⟩
  have hb : Below w.heap.size w W := by rw [hW]; exact (Below.refl _ _).alloc (Nat.le_refl _) _
  have q0 : W.cell? ⟨w.heap.size, 0, none⟩ = some (.int .i64 k) := by rw [hW]; simp
  obtain ⟨D, hD⟩ : ∃ D : ByteArray, D = ⟨(Lib.itoa (100000000 + (k : Int))).toArray⟩ := ⟨_, rfl⟩
  have HI : Hid (Calls Tryz.prog 75 #[.int .i64 (100000000 + (k : Int))] W fun e w' => e = .returned (.string D) ∧ Below w.heap.size w w') := Lib.hid ((Tryz.strconv_Itoa _ (by omega) (by omega) W (ht.below hb)).mono fun _ _ ⟨he, k', os, hw⟩ => ⟨by rw [hD]; exact he, hb.trans ((hw ▸ Lib.below_grow W.heap.size W (Nat.le_refl _) k' os).mono hb.size)⟩)
  obtain ⟨hs, hj⟩ := name_join hk hD
  have HW := Lib.hid hW
  have HJ := Lib.hid hj
  have h1 : (1 : Int) ≤ D.size := by omega
  have h2 : (D.size : Int) ≤ 9 := by omega
  have h3 : D.size ≤ 9 := by omega
  clear hW hj hD hs
  go_enter Tryz.func54, Tryz.ntmps54
  go_wp2_with (rw [← HW.out]; go_at_call 75; refine HI.out.mono ?_; rintro e w1 ⟨rfl, hb1⟩)
  go_ret
  exact ⟨congrArg (fun x => Ending.returned (Value.string x)) HJ.out, hb1⟩

theorem iter_below (w : World) (s : ByteArray) (p : Nat) : Below w.heap.size w (w.iter s p) := (Below.refl _ _).alloc (Nat.le_refl _) _
theorem bytes_at {s : ByteArray} {k : Nat} (hk : k < s.size) : s.data.toList.take (k + 1) = s.data.toList.take k ++ [s[k]] := by
  rw [List.take_succ_eq_append_getElem (by simpa using hk)]
  rfl
theorem firstF_bad {l : List UInt8} {k : Nat} (h : allD (l.take k) = false) : firstF l = (0, false) := by
  unfold firstF
  rw [if_neg]
  rintro ⟨_, h2⟩
  rw [← List.take_append_drop k l] at h2
  unfold allD at h h2
  rw [List.all_append, h] at h2
  simp at h2
theorem firstF_good {l : List UInt8} (h8 : l.length = 8) (h : allD l = true) : firstF l = (valD l, true) := if_pos ⟨h8, h⟩
theorem firstF_short {l : List UInt8} (h8 : l.length ≠ 8) : firstF l = (0, false) := if_neg fun h => h8 h.1
theorem ret2 {a b : Int} {x y : Bool} (h : a = b) (h' : x = y) : Ending.returned (.tuple #[.int .i64 a, .bool x]) = .returned (.tuple #[.int .i64 b, .bool y]) := by rw [h, h']
set_option maxHeartbeats 800000 in
set_option maxRecDepth 100000 in
theorem firstOf_any (nm : ByteArray) (w : World) (h3 : 3 ≤ nm.size) (hs : nm.size ≤ 1000000) :
    Calls Tryz.prog 86 #[.string nm] w fun e w' => e = .returned (.tuple #[.int .i64 (firstF (nm.data.toList.drop 3)).1, .bool (firstF (nm.data.toList.drop 3)).2]) ∧ Below w.heap.size w w' := by
  obtain ⟨s, hsd⟩ : ∃ s, s = nm.extract 3 nm.size := ⟨_, rfl⟩
  have hl : s.data.toList = nm.data.toList.drop 3 := by
    rw [hsd]
    simp [ByteArray.data_extract]
    exact List.take_of_length_le (by rw [List.length_drop, Array.length_toList]; exact Nat.le_refl _)
  have hsz : s.size = nm.size - 3 := by
    have h1 : s.data.toList.length = nm.data.toList.length - 3 := by rw [hl, List.length_drop]
    rwa [Array.length_toList, Array.length_toList] at h1
  rw [← hl]
  have i3 : (3 : Int) ≤ nm.size := by omega
  have hrw : nm.extract 3 nm.size = s := hsd.symm
  by_cases h8 : s.size = 8
  · have HL8 : Hid (s.data.toList.length = 8) := Lib.hid (by rw [Array.length_toList]; exact h8)
    have HS8 := Lib.hid h8
    have h8n : ((s.size : Int) == 8) = true := by rw [h8]; rfl
    have hn8 : s.size ≤ 8 := by omega
    clear hsd hl hsz h8
    go_enter Tryz.func86, Tryz.ntmps86
    go_wp2_with fail
    go_loopw [5] (fun v wr => ∃ pos : Nat, wr = w.iter s pos ∧ pos ≤ s.size ∧ v = .int .i64 (valD (s.data.toList.take pos)) ∧ Hid (allD (s.data.toList.take pos) = true)) (fun _ wr => s.size - wr.iterPos w.heap.size)
    case atStart => exact ⟨0, rfl, Nat.zero_le _, rfl, Lib.hid rfl⟩
    case round =>
      obtain ⟨pos, rfl, hpos, rfl, HA⟩ := hrel
      have hvl : valD (s.data.toList.take pos) < 1000000000 := by
        have h1 := valD_lt _ HA.out
        have h2 : (s.data.toList.take pos).length ≤ 8 := by rw [List.length_take]; omega
        have h3 : 10 ^ (s.data.toList.take pos).length ≤ 10 ^ 8 := Nat.pow_le_pow_right (by omega) h2
        omega
      by_cases hp : pos < s.size
      · have hts := bytes_at hp
        by_cases ha : (s[pos]'hp).toNat < 128
        · have hnx : ∀ ty, (Instr.next (.pointer (some ⟨w.heap.size, 0, none⟩)) true ty).run Tryz.prog (w.iter s pos) = _ := fun ty => run_next_ascii w s pos ty hp ha
          have hv2 := valD_snoc (s.data.toList.take pos) (s[pos]'hp)
          have ha2 := allD_snoc (s.data.toList.take pos) (s[pos]'hp)
          rw [← hts] at hv2 ha2
          rw [HA.out, Bool.true_and] at ha2
          have HV2 := Lib.hid hv2
          have HA2 := Lib.hid ha2
          have HTS := Lib.hid hts
          clear hv2 ha2 hts
          generalize hc : (s[pos]'hp).toNat = c at *
          generalize valD (s.data.toList.take pos) = v at *
          have hc0 : (0 : Int) ≤ c := by omega
          have hc1 : (c : Int) < 128 := by omega
          have hv0 : (v : Int) < 1000000000 := by omega
          by_cases c48 : (c : Int) < 48
          · have HB : Hid (firstF s.data.toList = (0, false)) := Lib.hid (firstF_bad (k := pos + 1) (by rw [HA2.out, decide_eq_false (by omega)]; rfl))
            clear HA2 HV2
            go_wp2_with fail
            go_ret2
            exact ⟨by rw [HB.out]; rfl, iter_below _ _ _⟩
          · by_cases c57 : (57 : Int) < c
            · have HB : Hid (firstF s.data.toList = (0, false)) := Lib.hid (firstF_bad (k := pos + 1) (by rw [HA2.out, decide_eq_false (p := c ≤ 57) (by omega), Bool.and_false]))
              have d1 : decide ((c : Int) < 48) = false := decide_eq_false c48
              clear HA2 HV2
              go_wp2_with fail
              go_ret2
              exact ⟨by rw [HB.out]; rfl, iter_below _ _ _⟩
            · have d1 : decide ((c : Int) < 48) = false := decide_eq_false c48
              have c48' : (48 : Int) ≤ c := by omega
              have c57' : (c : Int) ≤ 57 := by omega
              go_wp2_with fail
              go_roundw
              case rel => exact ⟨pos + 1, rfl, by omega, by rw [HV2.out]; go_num, Lib.hid (by rw [HA2.out, decide_eq_true (by omega), decide_eq_true (by omega)]; rfl)⟩
              case measure => simp; omega
        · obtain ⟨hr, _⟩ := decode_high s pos hp (by omega)
          have hle := decode_le s pos
          have ha2 := allD_snoc (s.data.toList.take pos) (s[pos]'hp)
          rw [← hts] at ha2
          have HB : Hid (firstF s.data.toList = (0, false)) := Lib.hid (firstF_bad (k := pos + 1) (by rw [ha2, decide_eq_false (p := (s[pos]'hp).toNat ≤ 57) (by omega), Bool.and_false, Bool.and_false]))
          have hnx : ∀ ty, (Instr.next (.pointer (some ⟨w.heap.size, 0, none⟩)) true ty).run Tryz.prog (w.iter s pos) = _ := fun ty => run_next_any w s pos ty hp
          clear ha2 hts ha
          generalize (Utf8.decode s pos).1 = r at *
          generalize (Utf8.decode s pos).2 = m at *
          have r57 : (57 : Int) < r := by omega
          have d1 : decide ((r : Int) < 48) = false := decide_eq_false (by omega)
          clear hr
          go_wp2_with fail
          go_ret2
          exact ⟨by rw [HB.out]; rfl, iter_below _ _ _⟩
      · have hps : pos = s.size := by omega
        have hall : s.data.toList.take pos = s.data.toList := List.take_of_length_le (by rw [Array.length_toList, hps]; exact Nat.le_refl _)
        have h1 := HA.out
        rw [hall] at h1 hvl ⊢
        have HB : Hid (firstF s.data.toList = (valD s.data.toList, true)) := Lib.hid (firstF_good HL8.out h1)
        have hnx : ∀ ty, (Instr.next (.pointer (some ⟨w.heap.size, 0, none⟩)) true ty).run Tryz.prog (w.iter s pos) = _ := fun ty => run_next_end w s pos ty hp
        clear h1 hall hps
        generalize valD s.data.toList = v at *
        go_wp2_with fail
        go_ret2
        exact ⟨by rw [HB.out]; rfl, iter_below _ _ _⟩
  · have HB : Hid (firstF s.data.toList = (0, false)) := Lib.hid (firstF_short (by rw [Array.length_toList]; exact h8))
    have h8n : ((s.size : Int) == 8) = false := beq_eq_false_iff_ne.2 (by omega)
    clear hsd hl hsz h8
    go_enter Tryz.func86, Tryz.ntmps86
    go_wp2_with fail
    go_ret2
    exact ⟨by rw [HB.out]; rfl, Below.refl _ _⟩
end Go.Proofs.YtnomicnmpllajaaGreatDoor
end

section
namespace Go.Proofs.YtnomicnmpllajaaGreatDoor.tied
open Go Go.ChangeShapes Go.WideShapes Go.ChangeAt Go.RowKit

theorem own : ownKnob Tryz.prog.godebug = none := by kernel_rfl
theorem laidOut : laidOutB Tryz.prog = true := by kernel_rfl
abbrev laidL : List (String × DataW Unit) := Rows.walFullRow.laid
theorem pow_table : ((laidL.filter fun x => x.2.handleName?.isNone).filter fun x => x.1 == "internal/strconv.uint64pow10") = [("internal/strconv.uint64pow10", Lib.tabData .u64 Lib.pow10Tab)] := by kernel_rfl
theorem tab_of {W : World} (h : laidMetH Tryz.prog laidL W) : Tab W := by
  have h' := ((laidMetH_iff.1 h).1).filter fun x => x.1 == "internal/strconv.uint64pow10"
  rw [pow_table] at h'
  exact Lib.tabIs_of_head tab_global (t := 202) (by kernel_rfl) Tryz.underlying202 Tryz.underlying187 (by kernel_rfl) (by kernel_rfl) h'
theorem door_met (os : Os) (args : Array Value) : laidMetH Tryz.prog laidL ((World.doorLaid Tryz.prog 400 os).forCall (fun _ _ => 0) ⟨#[], args, []⟩).memory :=
  laidMetH_of_parts3 (fuel := 8) (laidMet_of_run' 8 (by kernel_rfl) (by kernel_rfl)) (by kernel_rfl) (by kernel_rfl)
/-- The kit's wrap for a row with variables, the world's shape handed on beside them. -/
theorem handed {H : Type} {enc : TypeId × Value → H} {a : Assume} {C : Checked} {os : Os} {f : FuncId} {fn : Func} {s : ChangeSpec} {conds : List PathCond} {apart fresh handsOn again : Bool} {X : World → Array Value → Prop}
    (hX : ∀ (w w' : World) (args : Array Value), w.heap = w'.heap → X w args → X w' args)
    (own : ownKnob C.prog.godebug = none) (started : os.Started) (noInit : C.prog.inits.idxOf? f = none) (hfn : C.prog.funcs[f]? = some fn)
    (witness : ∃ (w : World) (tape : Tape) (i : Input), w.os = os ∧ (w.forCall tape i).Shaped C.prog ∧ i.vars = [] ∧ Input.okWide C.prog (w.forCall tape i) .any w.heap.size f i ∧
      ((s.pre enc C.prog fn conds apart (w.forCall tape i).memory i.args ∧ X (w.forCall tape i).memory i.args) ∧ sizedMet enc C.prog fn (OpenSpec.ofChange s) apart (w.forCall tape i).memory i.args) ∧ a.holds C.prog (lone (Frame.enter C.prog f i.args .normal) [] (w.forCall tape i)))
    (contract : ∀ (W : World) (base : Nat) (args : Array Value) (ds gs : List (DataW H)) (before : List MemPlace),
      (∀ (j : Nat) t v, fn.params[j]? = some t → args[j]? = some v → Value.okWide C.prog W .any base t v) →
      DataW.Whole enc C.prog fn.params.toList s.vars apart W args.toList ds gs before →
      conds.all (PathCond.test C.prog ⟨fn.params.toList, ds, s.plain.varTypes C.prog, gs⟩) = true →
      (DataW.weightsEach C.prog (fn.params.toList ++ s.plain.varTypes C.prog) (ds ++ gs)).all (· ≤ reachBytes) = true → X W args →
      W.ShapedOpen C.prog →
      Calls C.prog f args W fun e W' => ∃ v, e = .returned v ∧ s.post enc C.prog fn apart fresh handsOn again W args v W') :
    ReturnsInHanded a C os f .any (fun w args => (s.pre enc C.prog fn conds apart w args ∧ X w args) ∧ sizedMet enc C.prog fn (OpenSpec.ofChange s) apart w args) (s.post enc C.prog fn apart fresh handsOn again) := by
  refine returnsInHanded_of_calls own started noInit witness ?_
  intro w tape i _ hsh _ hok hpre _
  obtain ⟨_, _, _, fn', hfn', _, _, _, _, hval⟩ := hok
  obtain rfl : fn' = fn := Option.some.inj (hfn'.symm.trans hfn)
  obtain ⟨⟨⟨ds, gs, before, hw, hc⟩, hx⟩, hz⟩ := hpre
  refine (contract (w.forCall tape i) w.heap.size i.args ds gs before hval (DataW.Whole.of_heap (w' := w.forCall tape i) (by rfl) hw) hc (hz.weights hw) (hX _ _ _ (by rfl) hx) hsh).mono fun e W' ⟨v, he, hp⟩ => ?_
  subst he
  exact ChangeSpec.post_blind hp
end Go.Proofs.YtnomicnmpllajaaGreatDoor.tied
end

section
namespace Go.Proofs.YtnomicnmpllajaaGreatDoor
open Go Go.RowKit

/-- A log: the size that its segments are given; of each segment the number of its first record, and how many bytes its frames have; the snapshot's number and bytes; the records behind it; the last one that is synced. -/
structure LogM where
  size : Nat
  segs : List (Nat × Nat)
  base : Nat
  shot : List Int
  recs : List (List Int)
  synced : Nat
def LogM.last (M : LogM) : Nat := M.base + M.recs.length
/-- Where its slices lie. -/
structure LogV where
  sA : Option Addr
  sC : Nat
  tA : Option Addr
  tC : Nat
  rA : Option Addr
  rC : Nat
  rv : List (Option Addr × Nat)
def segC (l : List (Nat × Nat)) : List Value := l.flatMap fun s => [.int .i64 s.1, .int .i64 s.2]
def recC (rv : List (Option Addr × Nat)) (l : List (List Int)) : List Value := List.zipWith (fun p xs => .slice p.1 xs.length p.2) rv l
/-- Bytes in a block of bytes. -/
structure Byt (w : World) (Λ : Nat → Prop) (A : Option Addr) (c : Nat) (xs : List Int) : Prop where
  rd : Rd w w.heap.size .u8 A xs.length c xs
  inn : ∀ a, A = some a → Λ a.block ∧ ∃ cur, w.heap[a.block]? = some (.cells cur 5 (0, 0))
  byt : ∀ x ∈ xs, 0 ≤ x ∧ x < 256
  len : xs.length ≤ 1048576
structure LogAt (w : World) (lb d : Nat) (M : LogM) (V : LogV) (Λ : Nat → Prop) : Prop where
  blk : w.heap[lb]? = some (.cells #[.pointer (some ⟨d, 0, none⟩), .int .i64 M.size, .slice V.sA M.segs.length V.sC, .int .i64 M.base, .slice V.tA M.shot.length V.tC, .slice V.rA M.recs.length V.rC, .int .i64 M.synced] 82 (0, 0))
  segs : w.ownsRow 0 99 2 (.slice V.sA M.segs.length V.sC) M.segs.length (segC M.segs)
  shot : Byt w Λ V.tA V.tC M.shot
  recs : w.ownsRow 0 33 1 (.slice V.rA M.recs.length V.rC) M.recs.length (recC V.rv M.recs)
  rlen : V.rv.length = M.recs.length
  each : ∀ (j : Nat) (p : Option Addr × Nat) (xs : List Int), V.rv[j]? = some p → M.recs[j]? = some xs → Byt w Λ p.1 p.2 xs
  inn : Λ lb ∧ (∀ a, V.sA = some a → Λ a.block) ∧ ∀ a, V.rA = some a → Λ a.block
/-- What else is asked of it. -/
structure LogOk (M : LogM) : Prop where
  size : M.size ≤ 65536
  segn : M.segs.length ≤ 1000000
  recn : M.recs.length ≤ 1000000
  base : M.base < 100000000
  segs : ∀ s ∈ M.segs, s.1 < 100000000 ∧ s.2 ≤ 1048576
  synced : M.synced ≤ 200000000

section
variable {w w' : World} {Φ Λ Λ' : Nat → Prop} {lb d : Nat} {M : LogM} {V : LogV}
theorem Byt.keep {A : Option Addr} {c : Nat} {xs : List Int} (h : Byt w Λ A c xs) (hc : Chg Φ w w') (hs : ∀ k, Λ k → ¬ Φ k) : Byt w' Λ A c xs :=
  ⟨⟨h.rd.len, h.rd.cap, h.rd.max, h.rd.nil, fun j u hu => by
    obtain ⟨b, o, e, hb, hcell⟩ := h.rd.place j u hu
    exact ⟨b, o, e, Nat.lt_of_lt_of_le hb hc.size, by rw [hc.cell (p := ⟨b, o + j, none⟩) hb (hs b (h.inn _ e).1)]; exact hcell⟩⟩,
   fun a e => by
    obtain ⟨h1, cur, h2⟩ := h.inn a e
    exact ⟨h1, cur, hc.heap h2 (hs _ h1)⟩, h.byt, h.len⟩
theorem Byt.mono {A : Option Addr} {c : Nat} {xs : List Int} (h : Byt w Λ A c xs) (hs : ∀ k, k < w.heap.size → Λ k → Λ' k) : Byt w Λ' A c xs :=
  ⟨h.rd, fun a e => by
    obtain ⟨h1, cur, h2⟩ := h.inn a e
    exact ⟨hs _ (lt_of_block h2) h1, cur, h2⟩, h.byt, h.len⟩
theorem own_block {A : Option Addr} {n c g : Nat} (h : (Value.slice A n c).ownBlock = some g) : ∃ a, A = some a ∧ a.block = g := by
  cases A with
  | none => simp [Value.ownBlock] at h
  | some a => exact ⟨a, rfl, by simpa [Value.ownBlock] using h⟩
theorem LogAt.keep (h : LogAt w lb d M V Λ) (hc : Chg Φ w w') (hs : ∀ k, Λ k → ¬ Φ k) : LogAt w' lb d M V Λ :=
  ⟨hc.heap h.blk (hs _ h.inn.1), hc.own h.segs (fun g hg => by obtain ⟨a, e, rfl⟩ := own_block hg; exact hs _ (h.inn.2.1 a e)), h.shot.keep hc hs,
   hc.own h.recs (fun g hg => by obtain ⟨a, e, rfl⟩ := own_block hg; exact hs _ (h.inn.2.2 a e)), h.rlen, fun j p xs h1 h2 => (h.each j p xs h1 h2).keep hc hs, h.inn⟩
theorem LogAt.later (h : LogAt w lb d M V Λ) (hb : Below w.heap.size w w') : LogAt w' lb d M V Λ := h.keep (Φ := fun _ => False) (Chg.of_below hb) fun _ _ => id
theorem LogAt.lt (h : LogAt w lb d M V Λ) : lb < w.heap.size := lt_of_block h.blk
/-- The cells of the log's block. -/
theorem LogAt.cells (h : LogAt w lb d M V Λ) : w.cell? ⟨lb, 0, none⟩ = some (.pointer (some ⟨d, 0, none⟩)) ∧ w.cell? ⟨lb, 1, none⟩ = some (.int .i64 M.size) ∧ w.cell? ⟨lb, 2, none⟩ = some (.slice V.sA M.segs.length V.sC) ∧ w.cell? ⟨lb, 3, none⟩ = some (.int .i64 M.base) ∧
    w.cell? ⟨lb, 4, none⟩ = some (.slice V.tA M.shot.length V.tC) ∧ w.cell? ⟨lb, 5, none⟩ = some (.slice V.rA M.recs.length V.rC) ∧ w.cell? ⟨lb, 6, none⟩ = some (.int .i64 M.synced) ∧ ∀ i, w.frozen? ⟨lb, i, none⟩ = false := by
  have c : ∀ i u, (#[Value.pointer (some ⟨d, 0, none⟩), .int .i64 M.size, .slice V.sA M.segs.length V.sC, .int .i64 M.base, .slice V.tA M.shot.length V.tC, .slice V.rA M.recs.length V.rC, .int .i64 M.synced] : Array Value)[i]? = some u → w.cell? ⟨lb, i, none⟩ = some u := fun i u hu => by
    rw [cell_of_row _ _ _ _ _ _ h.blk]; exact hu
  exact ⟨c 0 _ rfl, c 1 _ rfl, c 2 _ rfl, c 3 _ rfl, c 4 _ rfl, c 5 _ rfl, c 6 _ rfl, fun i => by simp [World.frozen?, h.blk]⟩

set_option maxHeartbeats 400000 in
theorem Base_any (h : LogAt w lb d M V Λ) : Calls Tryz.prog 23 #[.pointer (some ⟨lb, 0, none⟩)] w fun e w' => e = .returned (.int .i64 M.base) ∧ w = w' := by
  obtain ⟨_, _, _, c3, _⟩ := h.cells
  clear h
  go_enter Tryz.func23, Tryz.ntmps23
  go_wp2
  go_ret
  exact ⟨rfl, rfl⟩
set_option maxHeartbeats 400000 in
theorem Synced_any (h : LogAt w lb d M V Λ) : Calls Tryz.prog 19 #[.pointer (some ⟨lb, 0, none⟩)] w fun e w' => e = .returned (.int .i64 M.synced) ∧ w = w' := by
  obtain ⟨_, _, _, _, _, _, c6, _⟩ := h.cells
  clear h
  go_enter Tryz.func19, Tryz.ntmps19
  go_wp2
  go_ret
  exact ⟨rfl, rfl⟩
set_option maxHeartbeats 400000 in
theorem Last_any (h : LogAt w lb d M V Λ) (hk : LogOk M) : Calls Tryz.prog 21 #[.pointer (some ⟨lb, 0, none⟩)] w fun e w' => e = .returned (.int .i64 M.last) ∧ ∃ q, w' = w.drewN q := by
  obtain ⟨_, _, _, c3, _, c5, _⟩ := h.cells
  have h1 := hk.base
  have h2 := hk.recn
  have hl : M.last = M.base + M.recs.length := rfl
  have HL := Lib.hid hl
  clear h hl
  generalize M.base = b at *
  generalize M.recs.length = n at *
  have hw : IntKind.i64.wrap ((b : Int) + (n : Int)) = (b : Int) + (n : Int) := IntWalk.i64_in _ (by omega)
  go_enter Tryz.func21, Tryz.ntmps21
  go_wp2
  go_quiet (fail)
  clear hw
  go_wp2
  go_ret
  exact ⟨by rw [HL.out]; rfl, _, rfl⟩
set_option maxHeartbeats 400000 in
theorem last_none (h : LogAt w lb d M V Λ) (hn : M.segs = []) : Calls Tryz.prog 53 #[.pointer (some ⟨lb, 0, none⟩)] w fun e w' => e = .returned (.pointer none) ∧ ∃ q, w' = w.drewN q := by
  obtain ⟨_, _, c2, _⟩ := h.cells
  have h0 : M.segs.length = 0 := by rw [hn]; rfl
  rw [h0] at c2
  clear h h0 hn
  go_enter Tryz.func53, Tryz.ntmps53
  go_wp2
  go_ret
  exact ⟨rfl, 0, rfl⟩
set_option maxHeartbeats 400000 in
theorem last_some (h : LogAt w lb d M V Λ) (hk : LogOk M) {k g : Nat} (hn : M.segs.length = k + 1) (hg : V.sA = some ⟨g, 0, none⟩) : Calls Tryz.prog 53 #[.pointer (some ⟨lb, 0, none⟩)] w fun e w' => e = .returned (.pointer (some ⟨g, k * 2, none⟩)) ∧ ∃ q, w' = w.drewN q := by
  obtain ⟨_, _, c2, _⟩ := h.cells
  rw [hn, hg] at c2
  have h1 := hk.segn
  rw [hn] at h1
  generalize V.sC = c at *
  clear h hn hg
  have hw2 : IntKind.i64.wrap ((k : Int) + 1 - 1) = (k : Int) := by rw [IntWalk.i64_in _ (by omega)]; omega
  have hk0 : (0 : Int) ≤ k := by omega
  go_enter Tryz.func53, Tryz.ntmps53
  go_wp2
  go_quiet (fail)
  go_wp2
  go_ret
  exact ⟨rfl, _, rfl⟩
end
end Go.Proofs.YtnomicnmpllajaaGreatDoor
end
