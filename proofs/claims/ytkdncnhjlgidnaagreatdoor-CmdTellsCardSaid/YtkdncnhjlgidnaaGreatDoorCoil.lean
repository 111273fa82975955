/- What is proved here: what each function of package coil that writes does, whatever the memory in which it is called: which bytes it returns, in new memory, and that nothing that was there has changed. Slices and texts of at most a million elements. -/
import Derived.Test.YtkdncnhjlgidnaaGreatDoorRows
import Derived.Test.YtkdncnhjlgidnaaGreatDoorBase
namespace Go.Proofs.YtkdncnhjlgidnaaGreatDoor
open Go Go.RowKit

theorem info_u8 : (Tryz.prog.info? 5).map (fun i => (i.zero, i.size, i.bytes)) = some (some (.int .u8 0), 1, 1) := by kernel_rfl

set_option maxHeartbeats 400000 in
theorem cloneFor_any (A : Option Addr) (n c : Nat) (xs : List Int) (m : Int) (w : World) (h : Rd w w.heap.size .u8 A n c xs) (hn : n ≤ 1000000) (hm : 0 ≤ m) (hm2 : m ≤ 1000100) :
    Calls Tryz.prog 61 #[.slice A n c, .int .i64 m] w fun e w' =>
      ∃ v, e = .returned v ∧ w'.ownsRow w.heap.size 5 1 v n (xs.map (Value.int .u8)) ∧ Below w.heap.size w w' := by
  obtain ⟨i0, hi, hz0, hz1, hz2⟩ := info_parts info_u8
  go_enter Tryz.func61, Tryz.ntmps61
  go_wp2_with (first
    | (at_make
       refine wpList_make_own _ rfl _ _ 22 rfl w.heap.size 5 i0 _ 1 Tryz.underlying22 hi hz0 hz1 _ _ _ (n + m.toNat) rfl rfl (by omega) (by rw [hz2]; omega) (by unfold maxLen; omega) (Nat.le_refl _) ?_
       intro w1 hown1 hg1
       have hb1 : Below w.heap.size w w1 := (Below.refl _ _).grown hg1 (Nat.le_refl _) (fun k hk => by cases hk))
    | (at_builtin
       refine wpList_append_src rfl _ _ 22 rfl w.heap.size 5 i0 _ 1 1 Tryz.underlying22 hi hz0 hz1 hz2 rfl (by omega) _ 0 [] rfl hown1 A n c (xs.map (Value.int .u8)) rfl
         (by have := h.len; simpa using this) h.nil (h.below hb1).news (ints_oneCell _ _) (by unfold maxLen; omega) (by omega) hb1.size ?_
       intro v2 w2 hown2 hg2))
  go_ret
  refine ⟨v2, rfl, by simpa using hown2, hb1.grown hg2 hb1.size (fun k hk => (hown1.lt k hk).1)⟩

set_option maxHeartbeats 400000 in
set_option maxRecDepth 100000 in
theorem appendNum_any (base : Nat) (v : Value) (xs : List Int) (n : Int) (w : World) (hown : w.ownsRow base 5 1 v xs.length (xs.map (Value.int .u8))) (hbase : base ≤ w.heap.size)
    (hx : xs.length ≤ 10000000) (hn : -9223372036854775808 ≤ n) (hn2 : n ≤ 9223372036854775807) :
    Calls Tryz.prog 60 #[v, .int .i64 n] w fun e w' =>
      ∃ v', e = .returned v' ∧ w'.ownsRow base 5 1 v' (xs ++ enc n.toNat).length ((xs ++ enc n.toNat).map (Value.int .u8)) ∧ Below base w w' := by
  obtain ⟨i0, hi, hz0, hz1, hz2⟩ := info_parts info_u8
  have h9 : (enc n.toNat).length ≤ 9 := enc_len9 (by omega)
  go_enter Tryz.func60, Tryz.ntmps60
  have hlen : (xs ++ enc n.toNat).length ≤ 10000009 := by rw [List.length_append]; omega
  by_cases h0 : 0 ≤ n
  all_goals
    go_wp2
    go_loopw [0, 1] (fun v' i wr => ∃ (ys : List Int) (m : Nat), i = .int .i64 m ∧ m ≤ n.toNat ∧ Hid (ys ++ enc m = xs ++ enc n.toNat) ∧ wr.ownsRow base 5 1 v' ys.length (ys.map (Value.int .u8)) ∧ Below base w wr)
      (fun _ i _ => (intOf i).toNat)
    case atStart =>
      first
        | exact ⟨xs, n.toNat, by rw [Int.toNat_of_nonneg h0], Nat.le_refl _, Lib.hid rfl, hown, Below.refl _ _⟩
        | exact ⟨xs, n.toNat, by rw [show n.toNat = 0 by omega]; rfl, Nat.le_refl _, Lib.hid rfl, hown, Below.refl _ _⟩
    case round =>
      obtain ⟨ys, m, rfl, hmn, hys, hown1, hb1⟩ := hrel
      have hyl : ys.length + (enc m).length ≤ 10000009 := by rw [← List.length_append, hys.out]; exact hlen
      have hep := enc_pos m
      by_cases hm : m < 128
      · have he : Hid (enc m = [(m : Int)]) := Lib.hid (enc_small hm)
        go_wp2_with (at_builtin
                     refine wpList_append_src rfl _ _ 22 rfl base 5 i0 _ 1 1 Tryz.underlying22 hi hz0 hz1 hz2 rfl (by omega) _ ys.length (ys.map (Value.int .u8)) rfl (hown1.alloc _)
                       (some ⟨wr.heap.size, 0, none⟩) 1 1 [.int .u8 (m : Int)] rfl rfl (fun h => by cases h) (news_new _ _ _) (one_cell _ _) (by unfold maxLen; omega) (by omega) (by have := hb1.size; simp; omega) ?_
                     intro v2 w2 hown2 hg2)
        go_ret
        have e : xs ++ enc n.toNat = ys ++ [(m : Int)] := by rw [← hys.out, he.out]
        rw [e]
        refine ⟨v2, rfl, by simpa using hown2, (hb1.alloc (by have := hb1.size; omega) _).grown hg2 (by have := hb1.size; simp; omega) (fun k hk => (hown1.lt k hk).1)⟩
      · first | (exfalso; omega) | skip
        all_goals
          have he : Hid (enc m = ((128 + m % 128 : Nat) : Int) :: enc (m / 128)) := Lib.hid (enc_big hm)
          have hm' : (128 : Int) ≤ m := by omega
          go_wp2_with (at_builtin
                       refine wpList_append_src rfl _ _ 22 rfl base 5 i0 _ 1 1 Tryz.underlying22 hi hz0 hz1 hz2 rfl (by omega) _ ys.length (ys.map (Value.int .u8)) rfl (hown1.alloc _)
                         (some ⟨wr.heap.size, 0, none⟩) 1 1 [.int .u8 (128 + (m : Int) % 128)] rfl rfl (fun h => by cases h) (news_new _ _ _) (one_cell _ _) (by unfold maxLen; omega) (by omega) (by have := hb1.size; simp; omega) ?_
                       intro v2 w2 hown2 hg2)
          have hb2 : Below base w w2 := (hb1.alloc (by have := hb1.size; omega) _).grown hg2 (by have := hb1.size; simp; omega) (fun k hk => (hown1.lt k hk).1)
          go_roundw
          case rel => exact ⟨ys ++ [(128 + (m : Int) % 128)], m / 128, by go_num, by omega, Lib.hid (by rw [← hys.out, he.out]; simp), by simpa using hown2, hb2⟩
          case measure => simp [intOf]; omega

set_option maxHeartbeats 400000 in
theorem Num_any (A : Option Addr) (k c : Nat) (xs : List Int) (n : Int) (w : World) (h : Rd w w.heap.size .u8 A k c xs) (hk : k ≤ 1000000) (hn : -9223372036854775808 ≤ n) (hn2 : n ≤ 9223372036854775807) :
    Calls Tryz.prog 32 #[.slice A k c, .int .i64 n] w fun e w' =>
      ∃ v, e = .returned v ∧ w'.ownsRow w.heap.size 5 1 v (xs ++ enc n.toNat).length ((xs ++ enc n.toNat).map (Value.int .u8)) ∧ Below w.heap.size w w' := by
  have hl := h.len
  subst hl
  go_enter Tryz.func32, Tryz.ntmps32
  go_wp2_with (first
    | (go_at_call 61; refine (cloneFor_any A _ c xs 9 _ h hk (by omega) (by omega)).mono ?_; rintro e w1 ⟨v1, rfl, hown1, hb1⟩)
    | (go_at_call 60; refine (appendNum_any w.heap.size v1 xs n _ hown1 hb1.size (by omega) hn hn2).mono ?_; rintro e w2 ⟨v2, rfl, hown2, hb2⟩))
  go_ret
  exact ⟨v2, rfl, hown2, hb1.trans hb2⟩

theorem strCells_nums (s : ByteArray) : Lib.strCells s = (nums s).map (Value.int .u8) := by
  unfold Lib.strCells nums
  rw [List.map_map]
  rfl

set_option maxHeartbeats 400000 in
theorem Text_any (A : Option Addr) (k c : Nat) (xs : List Int) (s : ByteArray) (w : World) (h : Rd w w.heap.size .u8 A k c xs) (hk : k ≤ 1000000) (hs : s.size ≤ 1000000) :
    Calls Tryz.prog 35 #[.slice A k c, .string s] w fun e w' =>
      ∃ v, e = .returned v ∧ w'.ownsRow w.heap.size 5 1 v (xs ++ (enc s.size ++ nums s)).length ((xs ++ (enc s.size ++ nums s)).map (Value.int .u8)) ∧ Below w.heap.size w w' := by
  have hl := h.len
  subst hl
  have h9 : (enc s.size).length ≤ 9 := enc_len9 (by omega)
  have hlen : (xs ++ enc s.size).length ≤ 1000009 := by rw [List.length_append]; omega
  obtain ⟨i0, hi, hz0, hz1, hz2⟩ := info_parts info_u8
  go_enter Tryz.func35, Tryz.ntmps35
  go_wp2_with (first
    | (go_at_call 61; refine (cloneFor_any A _ c xs _ _ h hk (by omega) (by omega)).mono ?_; rintro e w1 ⟨v1, rfl, hown1, hb1⟩)
    | (go_at_call 60; refine (appendNum_any w.heap.size v1 xs _ _ hown1 hb1.size (by omega) (by omega) (by omega)).mono ?_; rintro e w2 ⟨v2, rfl, hown2, hb2⟩)
    | (at_builtin
       refine Lib.wpList_append_own_string _ rfl _ _ 22 9 rfl w.heap.size 5 i0 Tryz.underlying22 Tryz.underlying9 hi hz0 hz1 hz2 v2 _ _ rfl hown2 s rfl (by unfold maxLen; simp only [Int.toNat_natCast]; omega) (by simp only [Int.toNat_natCast]; omega) (by have := hb1.size; have := hb2.size; omega) ?_
       intro v3 w3 hown3 hg3 _))
  go_ret
  rw [Int.toNat_natCast, strCells_nums, ← List.map_append, List.append_assoc] at hown3
  refine ⟨v3, rfl, ?_, (hb1.trans hb2).grown hg3 (by have := hb1.size; have := hb2.size; omega) (fun k hk => (hown2.lt k hk).1)⟩
  have e : (xs ++ (enc s.size ++ nums s)).length = (xs ++ enc s.size).length + s.size := by simp [nums_length, Nat.add_assoc]
  rw [e]
  exact hown3

set_option maxHeartbeats 400000 in
theorem Equal_any (A B : Option Addr) (n c m d B1 B2 : Nat) (xs ys : List Int) (w : World) (hx : Rd w B1 .u8 A n c xs) (hy : Rd w B2 .u8 B m d ys) (bx : ∀ x ∈ xs, 0 ≤ x ∧ x < 256) (yb : ∀ y ∈ ys, 0 ≤ y ∧ y < 256) :
    Calls Tryz.prog 10 #[.slice A n c, .slice B m d] w fun e w' => e = .returned (.bool (decide (xs = ys))) ∧ w = w' := by
  have g1 := hx.convert (P := Tryz.prog) 22 5 9 Tryz.underlying22 Tryz.underlying5 Tryz.underlying9
  have g2 := hy.convert (P := Tryz.prog) 22 5 9 Tryz.underlying22 Tryz.underlying5 Tryz.underlying9
  have e : ((strOfNums xs).toList == (strOfNums ys).toList) = decide (xs = ys) := by
    by_cases h : xs = ys
    · subst h; simp
    · rw [decide_eq_false h, beq_eq_false_iff_ne]
      intro hh
      rw [ByteArray.toList_eq, ByteArray.toList_eq] at hh
      exact h (strOfNums_eq bx yb (by
        generalize strOfNums xs = a at hh ⊢
        generalize strOfNums ys = b at hh ⊢
        cases a; cases b
        simpa using hh))
  have E := Lib.hid e
  clear hx hy e
  go_enter Tryz.func10, Tryz.ntmps10
  go_wp2
  go_ret
  refine ⟨?_, rfl⟩
  rw [← E.out]
  rfl

set_option maxHeartbeats 400000 in
set_option maxRecDepth 100000 in
theorem Nums_any (A : Option Addr) (k c : Nat) (xs : List Int) (A2 : Option Addr) (m c2 : Nat) (l : List Int) (w : World) (h : Rd w w.heap.size .u8 A k c xs) (hl : Rd w w.heap.size .i64 A2 m c2 l)
    (hk : k ≤ 1000000) (hm : m ≤ 10000) (hr : ∀ x ∈ l, -9223372036854775808 ≤ x ∧ x ≤ 9223372036854775807) :
    Calls Tryz.prog 39 #[.slice A k c, .slice A2 m c2] w fun e w' =>
      ∃ v, e = .returned v ∧ w'.ownsRow w.heap.size 5 1 v (xs ++ (enc m ++ encAll l)).length ((xs ++ (enc m ++ encAll l)).map (Value.int .u8)) ∧ Below w.heap.size w w' := by
  have hl1 := h.len
  subst hl1
  have h9 : (enc m).length ≤ 9 := enc_len9 (by omega)
  have hpre : (xs ++ enc m).length ≤ 1000009 := by rw [List.length_append]; omega
  have HL := Lib.hid hl.len
  go_enter Tryz.func39, Tryz.ntmps39
  go_wp2_with (first
    | (go_at_call 61; refine (cloneFor_any A _ c xs _ _ h hk (by omega) (by omega)).mono ?_; rintro e w1 ⟨v1, rfl, hown1, hb1⟩)
    | (go_at_call 60; refine (appendNum_any w.heap.size v1 xs _ _ hown1 hb1.size (by omega) (by omega) (by omega)).mono ?_; rintro e w2 ⟨v2, rfl, hown2, hb2⟩))
  rw [Int.toNat_natCast] at hown2
  go_loopw [5, 18] (fun v' i wr => ∃ j : Nat, j ≤ m ∧ i = .int .i64 j ∧ wr.ownsRow w.heap.size 5 1 v' ((xs ++ enc m) ++ encAll (l.take j)).length (((xs ++ enc m) ++ encAll (l.take j)).map (Value.int .u8)) ∧ Below w.heap.size w wr)
    (fun _ i _ => m - (intOf i).toNat)
  case atStart => exact ⟨0, Nat.zero_le _, rfl, by simpa [encAll_nil] using hown2, hb1.trans hb2⟩
  case round =>
    obtain ⟨j, hj, rfl, hown3, hb3⟩ := hrel
    by_cases hlt : j < m
    · obtain ⟨b, o, rfl, hbl, hcell⟩ := hl.cell hlt
      have hcell' := (hb3.cell (p := ⟨b, o + j, none⟩) hbl).trans hcell
      have hsnoc := take_snoc l j (by rw [HL.out]; exact hlt)
      have HS := Lib.hid hsnoc
      have hrj := hr (l.getD j 0) (by
        rw [List.getD_eq_getElem?_getD, List.getElem?_eq_getElem (by rw [HL.out]; exact hlt)]
        exact List.getElem_mem _)
      have hxl : ((xs ++ enc m) ++ encAll (l.take j)).length ≤ 10000000 := by
        have := encAll_len (l.take j) (fun x hx => (hr x (List.mem_of_mem_take hx)).2)
        have := List.length_take_le j l
        rw [List.length_append]
        omega
      clear hsnoc hcell hr
      generalize l.getD j 0 = x at *
      go_wp2_with (go_at_call 60; refine (appendNum_any w.heap.size _ _ x _ hown3 hb3.size hxl hrj.1 hrj.2).mono ?_; rintro e w4 ⟨v4, rfl, hown4, hb4⟩)
      go_roundw
      case rel =>
        refine ⟨j + 1, by omega, by go_num, ?_, hb3.trans hb4⟩
        rw [HS.out, encAll_snoc, ← List.append_assoc]
        exact hown4
      case measure => simp [intOf]; omega
    · go_wp2
      go_ret
      have hjm : j = m := by omega
      subst hjm
      rw [List.take_of_length_le (by rw [HL.out]; exact Nat.le_refl _), List.append_assoc] at hown3
      exact ⟨_, rfl, hown3, hb3⟩
end Go.Proofs.YtkdncnhjlgidnaaGreatDoor
