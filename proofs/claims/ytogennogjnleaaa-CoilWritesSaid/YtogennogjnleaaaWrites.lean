/- What is proved here: 'CoilWrites' returns true for any bytes, any number, any text and any list, whatever the memory in which it is called, and nothing that was there has changed. -/
import Derived.Test.YtogennogjnleaaaRef2
namespace Go.Proofs.Ytogennogjnleaaa
open Go Go.RowKit

theorem own_apart {w w' : World} {base e n : Nat} {v vw : Value} {xs : List Value} (h : w.ownsRow base e 1 v n xs) (hg : w.grownBy w' vw.ownBlock) (hlt : ∀ k, vw.ownBlock = some k → k < base) : w'.ownsRow base e 1 v n xs := by
  refine h.kept hg ?_
  cases hv : v.ownBlock with
  | none => exact .inl rfl
  | some k =>
    refine .inr fun e => ?_
    have h1 := (h.lt k hv).1
    have h2 := hlt k e.symm
    omega

set_option maxHeartbeats 2000000 in
set_option maxRecDepth 100000 in
theorem writes_short (A : Option Addr) (n c : Nat) (xs : List Int) (x : Int) (s : ByteArray) (A2 : Option Addr) (m d : Nat) (l : List Int) (w : World) (h : Rd w w.heap.size .u8 A n c xs) (hx : ∀ x ∈ xs, 0 ≤ x ∧ x < 256)
    (hlo : -9223372036854775808 ≤ x) (hhi : x ≤ 9223372036854775807) (hl : Rd w w.heap.size .i64 A2 m d l) (hr : ∀ x ∈ l, -9223372036854775808 ≤ x ∧ x ≤ 9223372036854775807) (hn : n ≤ 400) (hs : s.size ≤ 400) (hm : m ≤ 400) :
    Calls Try.prog 3 #[.slice A n c, .int .i64 x, .string s, .slice A2 m d] w fun e w' => e = .returned (.bool true) ∧ Below w.heap.size w w' := by
  obtain ⟨i0, hi, hz0, hz1, hz2⟩ := info_parts info_u8
  have HX := Lib.hid hx
  have HR := Lib.hid hr
  have HLEN := Lib.hid h.len
  have h9 : (enc x.toNat).length ≤ 9 := enc_len9 (by omega)
  have h9' := enc_pos x.toNat
  have t9 : (enc s.size ++ nums s).length ≤ 409 := by rw [List.length_append, nums_length]; have := enc_len9 (n := s.size) (by omega); omega
  have t9' : 0 < (enc s.size ++ nums s).length := by rw [List.length_append]; have := enc_pos s.size; omega
  have l9 : (enc m ++ encAll l).length ≤ 4000 := by
    rw [List.length_append]
    have h1 := enc_len9 (n := m) (by omega)
    have h2 := encAll_len l (fun x hx => (hr x hx).2)
    rw [hl.len] at h2
    omega
  have l9' : 0 < (enc m ++ encAll l).length := by rw [List.length_append]; have := enc_pos m; omega
  have t9b : (enc s.size).length + (nums s).length ≤ 409 := by rw [← List.length_append]; exact t9
  have l9b : (enc m).length + (encAll l).length ≤ 4000 := by rw [← List.length_append]; exact l9
  clear hx hr
  have hlit : ∀ W : World, (W.alloc (.cells #[] 5)).ownsRow W.heap.size 5 1 (.slice (some ⟨W.heap.size, 0, none⟩) 0 0) 0 [] := fun W => World.ownsRow_lit (e := 5) (size := 1) W #[] 0 (Nat.le_refl _) (by decide) rfl
  have HLIT := Lib.hid hlit
  clear hlit
  go_enter Try.func3, Try.ntmps3
  go_wp2_with (first
    | (at_builtin
       refine wpList_append_src rfl _ _ 22 rfl w.heap.size 5 i0 _ 1 1 Try.underlying22 hi hz0 hz1 hz2 rfl (by omega) _ 0 [] rfl (HLIT.out w) A n c (xs.map (Value.int .u8)) rfl (by have := h.len; simpa using this) h.nil (h.alloc (Nat.le_refl _) _).news (ints_oneCell _ _) (by unfold maxLen; omega) (by omega) (by simp) ?_
       intro v1 w1 hown1 hg1
       rw [Nat.zero_add, List.nil_append] at hown1
       have hb1 : Below w.heap.size w w1 := ((Below.refl _ _).alloc (Nat.le_refl _) _).grown hg1 (by simp) (fun k hk => ((HLIT.out w).lt k hk).1)
       clear hg1
       obtain ⟨A1, n1, c1, rfl, hwas⟩ := Rd.of_own' hown1
       clear hown1)
    | (at_builtin
       refine wpList_append_src rfl _ _ 22 rfl w1.heap.size 5 i0 _ 1 1 Try.underlying22 hi hz0 hz1 hz2 rfl (by omega) _ 0 [] rfl (HLIT.out w1) A n c (xs.map (Value.int .u8)) rfl (by have := h.len; simpa using this) h.nil ((h.below hb1).alloc hb1.size _).news (ints_oneCell _ _) (by unfold maxLen; omega) (by omega) (by simp) ?_
       intro v2 w2 hown2 hg2
       rw [Nat.zero_add, List.nil_append] at hown2
       have hb2 : Below w1.heap.size w1 w2 := ((Below.refl _ _).alloc (Nat.le_refl _) _).grown hg2 (by simp) (fun k hk => ((HLIT.out w1).lt k hk).1)
       clear hg2
       obtain ⟨A2', n2, c2, rfl, _⟩ := Rd.of_own' hown2))
  have hz1' := hb1.size
  have hz2' := hb2.size
  have HB2 : Below w1.heap.size w1 w2 := hb2
  have HBW : Below w.heap.size w w1 := hb1
  have LOW := hown2.lt
  clear hb1 hb2
  go_wp2_with fail
  refine (Num_any A n c xs x w2 ((h.below (HBW.trans (HB2.mono hz1'))).more (by have := HB2.size; omega)) (by omega) hlo hhi).mono ?_
  rintro e w3 ⟨p3, rfl, own3, hb3⟩
  have hz3 := hb3.size
  have want3 := own_below hown2 hb3
  have HB3 : Below w1.heap.size w1 w3 := HB2.trans (hb3.mono HB2.size)
  go_wp2_with fail
  refine (refNum_any _ x w3 (Nat.le_refl _) hlo hhi).mono ?_
  rintro e w4 ⟨p4, rfl, own4, hb4⟩
  have hz4 := hb4.size
  have want4 := own_below want3 hb4
  have HB4 : Below w1.heap.size w1 w4 := HB3.trans (hb4.mono HB3.size)
  have own3' := own_below own3 hb4
  obtain ⟨g4, cap4, rfl, _, _, cell4⟩ := own_place own4 h9'
  clear hown2 own3 hb3
  go_wp2_with (at_builtin
               refine wpList_append_keep rfl _ _ 22 rfl w1.heap.size 5 i0 _ 1 Try.underlying22 hi hz0 hz1 hz2 rfl _ n (xs.map (Value.int .u8)) rfl want4 ⟨g4, 0, none⟩ _ _ ((enc x.toNat).map (Value.int .u8)) rfl (by simp) cell4 (ints_oneCell _ _) (by unfold maxLen; omega) (by omega) (by omega) ?_
               intro p5 w5 own5 want5 hg5)
  have hz45 := hg5.size
  have HB5 : Below w1.heap.size w1 w5 := HB4.grown hg5 HB4.size (fun k hk => (want4.lt k hk).1)
  have hz5 := HB5.size
  have own3'' := own_apart own3' hg5 (fun k hk => by have := (LOW k hk).2; omega)
  obtain ⟨P3, N3, C3, rfl, R3⟩ := Rd.of_own' own3''
  rw [← List.map_append] at own5
  obtain ⟨P5, N5, C5, rfl, R5⟩ := Rd.of_own' own5
  have E5 := Equal_any P3 P5 N3 C3 N5 C5 _ _ _ _ w5 R3 R5 (app_bytes HX.out (enc_bytes _)) (app_bytes HX.out (enc_bytes _))
  rw [decide_eq_true rfl] at E5
  have HE5 := Lib.hid E5
  clear E5 R3 R5 own3' own3'' own4 own5 cell4 hb4 hg5 want4 HB2 HB3 HB4
  go_wp2_with fail
  refine HE5.out.mono ?_
  rintro e wx ⟨rfl, rfl⟩
  clear HE5
  go_wp2_with fail
  refine (Text_any A n c xs s w5 ((h.below (HBW.trans (HB5.mono hz1'))).more (by have := HB5.size; omega)) (by omega) (by omega)).mono ?_
  rintro e w6 ⟨p6, rfl, own6, hb6⟩
  have hz6 := hb6.size
  have want6 := own_below want5 hb6
  have HB6 : Below w1.heap.size w1 w6 := HB5.trans (hb6.mono HB5.size)
  go_wp2_with fail
  refine (refText_any s w6 (by omega)).mono ?_
  rintro e w7 ⟨p7, rfl, own7, hb7⟩
  have hz7 := hb7.size
  have want7 := own_below want6 hb7
  have HB7 : Below w1.heap.size w1 w7 := HB6.trans (hb7.mono HB6.size)
  have own6' := own_below own6 hb7
  obtain ⟨g7, cap7, rfl, _, _, cell7⟩ := own_place own7 t9'
  clear want5 own6 hb6
  go_wp2_with (at_builtin
               refine wpList_append_keep rfl _ _ 22 rfl w1.heap.size 5 i0 _ 1 Try.underlying22 hi hz0 hz1 hz2 rfl _ n (xs.map (Value.int .u8)) rfl want7 ⟨g7, 0, none⟩ _ _ ((enc s.size ++ nums s).map (Value.int .u8)) rfl (by simp) cell7 (ints_oneCell _ _) (by unfold maxLen; omega) (by omega) (by omega) ?_
               intro p8 w8 own8 want8 hg8)
  have hz78 := hg8.size
  have HB8 : Below w1.heap.size w1 w8 := HB7.grown hg8 HB7.size (fun k hk => (want7.lt k hk).1)
  have hz8 := HB8.size
  have own6'' := own_apart own6' hg8 (fun k hk => by have := (LOW k hk).2; omega)
  obtain ⟨P6, N6, C6, rfl, R6⟩ := Rd.of_own' own6''
  rw [← List.map_append] at own8
  obtain ⟨P8, N8, C8, rfl, R8⟩ := Rd.of_own' own8
  have E8 := Equal_any P6 P8 N6 C6 N8 C8 _ _ _ _ w8 R6 R8 (app_bytes HX.out (app_bytes (enc_bytes _) (nums_bytes _))) (app_bytes HX.out (app_bytes (enc_bytes _) (nums_bytes _)))
  rw [decide_eq_true rfl] at E8
  have HE8 := Lib.hid E8
  clear E8 R6 R8 own6' own6'' own7 own8 cell7 hb7 hg8 want7 HB5 HB6 HB7
  go_wp2_with fail
  refine HE8.out.mono ?_
  rintro e wx ⟨rfl, rfl⟩
  clear HE8
  go_wp2_with fail
  refine (Nums_any A n c xs A2 m d l w8 ((h.below (HBW.trans (HB8.mono hz1'))).more (by have := HB8.size; omega)) ((hl.below (HBW.trans (HB8.mono hz1'))).more (by have := HB8.size; omega)) (by omega) (by omega) HR.out).mono ?_
  rintro e w9 ⟨p9, rfl, own9, hb9⟩
  have hz9 := hb9.size
  have want9 := own_below want8 hb9
  have HB9 : Below w1.heap.size w1 w9 := HB8.trans (hb9.mono HB8.size)
  go_wp2_with fail
  refine (refNums_any A2 m d l w9 ((hl.below (HBW.trans (HB9.mono hz1'))).more (by have := HB9.size; omega)) HR.out (by omega)).mono ?_
  rintro e w10 ⟨p10, rfl, own10, hb10⟩
  have hz10 := hb10.size
  have want10 := own_below want9 hb10
  have HB10 : Below w1.heap.size w1 w10 := HB9.trans (hb10.mono HB9.size)
  have own9' := own_below own9 hb10
  obtain ⟨g10, cap10, rfl, _, _, cell10⟩ := own_place own10 l9'
  clear want8 own9 hb9
  go_wp2_with (at_builtin
               refine wpList_append_keep rfl _ _ 22 rfl w1.heap.size 5 i0 _ 1 Try.underlying22 hi hz0 hz1 hz2 rfl _ n (xs.map (Value.int .u8)) rfl want10 ⟨g10, 0, none⟩ _ _ ((enc m ++ encAll l).map (Value.int .u8)) rfl (by simp) cell10 (ints_oneCell _ _) (by unfold maxLen; omega) (by omega) (by omega) ?_
               intro p11 w11 own11 want11 hg11)
  have hzab := hg11.size
  have HB11 : Below w1.heap.size w1 w11 := HB10.grown hg11 HB10.size (fun k hk => (want10.lt k hk).1)
  have hz11 := HB11.size
  have own9'' := own_apart own9' hg11 (fun k hk => by have := (LOW k hk).2; omega)
  obtain ⟨P9, N9, C9, rfl, R9⟩ := Rd.of_own' own9''
  rw [← List.map_append] at own11
  obtain ⟨P11, N11, C11, rfl, R11⟩ := Rd.of_own' own11
  have E11 := Equal_any P9 P11 N9 C9 N11 C11 _ _ _ _ w11 R9 R11 (app_bytes HX.out (app_bytes (enc_bytes _) (encAll_bytes _))) (app_bytes HX.out (app_bytes (enc_bytes _) (encAll_bytes _)))
  rw [decide_eq_true rfl] at E11
  have HE11 := Lib.hid E11
  clear E11 R9 R11 own9' own9'' own10 own11 cell10 hb10 hg11 want10 HB8 HB9 HB10
  go_wp2_with fail
  refine HE11.out.mono ?_
  rintro e wx ⟨rfl, rfl⟩
  clear HE11
  have E := Equal_any A A1 n c n1 c1 _ _ _ _ w11 ((h.below (HBW.trans (HB11.mono hz1'))).more (by have := HB11.size; omega)) (hwas.below HB11) HX.out HX.out
  rw [decide_eq_true rfl] at E
  have HE := Lib.hid E
  clear E
  go_wp2_with fail
  refine HE.out.mono ?_
  rintro e wx ⟨rfl, rfl⟩
  clear HE
  go_wp2_with fail
  refine (awake_any w11).mono ?_
  rintro e wy ⟨rfl, hby⟩
  go_wp2_with fail
  go_ret
  have hz := HB11.size
  exact ⟨rfl, (HBW.trans (HB11.mono hz1')).trans (hby.mono (by omega))⟩

set_option maxHeartbeats 400000 in
theorem writes_any (A : Option Addr) (n c : Nat) (xs : List Int) (x : Int) (s : ByteArray) (A2 : Option Addr) (m d : Nat) (l : List Int) (w : World) (h : Rd w w.heap.size .u8 A n c xs) (hx : ∀ x ∈ xs, 0 ≤ x ∧ x < 256)
    (hlo : -9223372036854775808 ≤ x) (hhi : x ≤ 9223372036854775807) (hl : Rd w w.heap.size .i64 A2 m d l) (hr : ∀ x ∈ l, -9223372036854775808 ≤ x ∧ x ≤ 9223372036854775807) (hs : s.size ≤ maxLen) :
    Calls Try.prog 3 #[.slice A n c, .int .i64 x, .string s, .slice A2 m d] w fun e w' => e = .returned (.bool true) ∧ Below w.heap.size w w' := by
  unfold maxLen at hs
  have hm1 := h.cap
  have hm2 := h.max
  have hm3 := hl.cap
  have hm4 := hl.max
  unfold maxLen at hm2 hm4
  by_cases h1 : n ≤ 400
  · by_cases h2 : s.size ≤ 400
    · by_cases h3 : m ≤ 400
      · exact writes_short A n c xs x s A2 m d l w h hx hlo hhi hl hr h1 h2 h3
      · have h3' : (400 : Int) < m := by omega
        clear hx hr
        go_enter Try.func3, Try.ntmps3
        go_wp2_with (go_at_call 7; refine (awake_any w).mono ?_; rintro e w1 ⟨rfl, hb1⟩)
        go_ret
        exact ⟨rfl, hb1⟩
    · have h2' : (400 : Int) < s.size := by omega
      clear hx hr
      go_enter Try.func3, Try.ntmps3
      go_wp2_with (go_at_call 7; refine (awake_any w).mono ?_; rintro e w1 ⟨rfl, hb1⟩)
      go_ret
      exact ⟨rfl, hb1⟩
  · have h1' : (400 : Int) < n := by omega
    clear hx hr
    go_enter Try.func3, Try.ntmps3
    go_wp2_with (go_at_call 7; refine (awake_any w).mono ?_; rintro e w1 ⟨rfl, hb1⟩)
    go_ret
    exact ⟨rfl, hb1⟩
end Go.Proofs.Ytogennogjnleaaa
