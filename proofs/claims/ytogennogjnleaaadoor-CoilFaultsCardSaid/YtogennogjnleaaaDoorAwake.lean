/- What is proved here: 'awake', the example of the document, returns true whatever the memory in which it is called, and nothing that was there has changed. -/
import Derived.Test.YtogennogjnleaaaDoorReader
namespace Go.Proofs.YtogennogjnleaaaDoor
open Go Go.RowKit

theorem Rd.lit (w : World) (k : IntKind) (t : TypeId) (xs : List Int) (hl : xs.length ≤ maxLen) : Rd (w.alloc (.cells (xs.map (Value.int k)).toArray t)) (w.heap.size + 1) k (some ⟨w.heap.size, 0, none⟩) xs.length xs.length xs :=
  ⟨rfl, Nat.le_refl _, hl, (fun h => by cases h), fun j u hu => ⟨w.heap.size, 0, rfl, Nat.lt_succ_self _, by
    rw [Nat.zero_add, cell_of_row _ _ _ _ _ _ (heap_alloc_new w _)]
    simp [hu]⟩⟩
theorem below_grow {w w' : World} {g B : Nat} (h : w.grownBy w' (some g)) (hg : B ≤ g) (hB : B ≤ w.heap.size) : Below B w w' :=
  (Below.refl _ _).grown h hB (fun k hk => by injection hk with hk; omega)
theorem example_enc : enc 300 = [172, 2] := by
  rw [enc_big (by decide), enc_small (by decide)]
  rfl
theorem example_three : enc 3 = [3] := enc_small (by decide)

set_option maxHeartbeats 800000 in
set_option maxRecDepth 100000 in
theorem awake_any (w : World) : Calls Tryd.prog 5 #[] w fun e w' => e = .returned (.bool true) ∧ Below w.heap.size w w' := by
  have abc : nums ⟨#[97, 98, 99]⟩ = [97, 98, 99] := rfl
  have ABC := Lib.hid abc
  clear abc
  go_enter Tryd.func5, Tryd.ntmps5
  go_wp2_with fail
  refine (Num_any none 0 0 [] 300 w (Rd.none_ _ _ _) (by omega) (by omega) (by omega)).mono ?_
  rintro e w1 ⟨v1, rfl, hown1, hb1⟩
  rw [show ((300 : Int).toNat) = 300 from rfl, example_enc, List.nil_append, show ([172, 2] : List Int).length = 2 from rfl] at hown1
  obtain ⟨A1, c1, rfl, hr1⟩ := Rd.of_own hown1
  clear hown1
  go_wp2_with fail
  refine (Text_any A1 2 c1 [172, 2] _ w1 hr1 (by omega) (by decide)).mono ?_
  rintro e w2 ⟨v2, rfl, hown2, hb2⟩
  have e2 : ([172, 2] : List Int) ++ (enc (ByteArray.mk #[97, 98, 99]).size ++ nums ⟨#[97, 98, 99]⟩) = [172, 2, 3, 97, 98, 99] := by
    rw [show (ByteArray.mk #[97, 98, 99]).size = 3 from rfl, example_three, ABC.out]
    rfl
  rw [e2, show ([172, 2, 3, 97, 98, 99] : List Int).length = 6 from rfl] at hown2
  obtain ⟨A2, c2, rfl, hr2⟩ := Rd.of_own hown2
  clear hown2 e2
  go_wp2_with fail
  refine (Of_any A2 6 c2 _ w2 hr2 (by omega)).mono ?_
  rintro e w3 ⟨g, A3, c3, rfl, hg, hrd, hb3⟩
  have by6 : ∀ x ∈ ([172, 2, 3, 97, 98, 99] : List Int), 0 ≤ x ∧ x < 256 := by decide
  have go1 : goNum [172, 2, 3, 97, 98, 99] 0 0 = (300, 2, 0) := by decide
  have go2 : goText [172, 2, 3, 97, 98, 99] 2 0 3 = ([97, 98, 99], 6, 0) := by decide
  have H1 := ReaderNum_any g A3 6 c3 _ 0 0 w3 hrd (.inl rfl) by6 (by omega) (by omega)
  rw [go1] at H1
  have HH1 := Lib.hid H1
  have GO2 := Lib.hid go2
  clear go1 go2 H1
  go_wp2_with fail
  refine HH1.out.mono ?_
  rintro e w4 ⟨rfl, hrd1, hgr1⟩
  clear HH1
  have H2 := ReaderText_any g A3 6 c3 _ 2 0 w4 hrd1 (.inl rfl) by6 (by omega) (by omega) 3
  rw [GO2.out, show strOfNums [97, 98, 99] = ⟨#[97, 98, 99]⟩ from rfl] at H2
  have HH2 := Lib.hid H2
  clear H2
  go_wp2_with fail
  refine HH2.out.mono ?_
  rintro e w5 ⟨rfl, hrd2, hgr2⟩
  clear HH2
  have BY6 := Lib.hid by6
  clear by6
  go_wp2_with fail
  have hz2 := hb1.size
  have hz3 := hb2.size
  have hz4 := hb3.size
  have hz5 := hgr1.size
  have hz6 := hgr2.size
  have hb5 : Below w2.heap.size w2 w5 := (hb3.trans (below_grow hgr1 hg hz4)).trans (below_grow hgr2 hg (by omega))
  have hrl : Rd (w5.alloc (.cells #[.int .u8 172, .int .u8 2, .int .u8 3, .int .u8 97, .int .u8 98, .int .u8 99] 5)) (w5.heap.size + 1) .u8 (some ⟨w5.heap.size, 0, none⟩) 6 6 [172, 2, 3, 97, 98, 99] :=
    Rd.lit w5 .u8 5 [172, 2, 3, 97, 98, 99] (by decide)
  have H3 := Equal_any A2 (some ⟨w5.heap.size, 0, none⟩) 6 c2 6 6 _ _ _ _ _ ((hr2.below hb5).alloc hb5.size (.cells #[.int .u8 172, .int .u8 2, .int .u8 3, .int .u8 97, .int .u8 98, .int .u8 99] 5)) hrl BY6.out BY6.out
  rw [decide_eq_true rfl] at H3
  have HH3 := Lib.hid H3
  have hrd3 := hrd2.keep ((Below.refl _ _).alloc (Nat.le_refl _) (.cells #[.int .u8 172, .int .u8 2, .int .u8 3, .int .u8 97, .int .u8 98, .int .u8 99] 5))
  have hb6 : Below w2.heap.size w2 (w5.alloc (.cells #[.int .u8 172, .int .u8 2, .int .u8 3, .int .u8 97, .int .u8 98, .int .u8 99] 5)) := hb5.alloc hb5.size _
  clear H3 hrl
  refine HH3.out.mono ?_
  rintro e w6 ⟨rfl, rfl⟩
  clear HH3
  go_wp2_with fail
  refine (Err_fine g A3 6 c3 _ 6 _ hrd3).mono ?_
  rintro e w6 ⟨rfl, rfl⟩
  go_wp2_with fail
  refine (Done_fine g A3 6 c3 _ _ hrd3 (by omega)).mono ?_
  rintro e w7 ⟨rfl, hb7⟩
  have hrd4 := hrd3.keep hb7
  have hb8 : Below w2.heap.size w2 w7 := hb6.trans (hb7.mono (by simp; have := hb5.size; omega))
  have c0 := hrd4.1.cell 0
  have c1 := hrd4.1.cell 1
  have hgl := hrd4.1.lt
  simp at c0 c1
  go_wp2_with fail
  refine (At_any A3 6 c3 _ _).mono ?_
  rintro e w8 ⟨rfl, rfl⟩
  go_wp2_with fail
  refine (Left_any A3 6 c3 _ _ (by omega) (by omega) (by omega)).mono ?_
  rintro e w8 ⟨rfl, rfl⟩
  go_wp2_with fail
  go_ret
  refine ⟨rfl, ?_⟩
  have hb9 := hb8.mono (B' := w.heap.size) (by omega)
  have hz8 := hb8.size
  exact (((hb1.trans (hb2.mono hz2)).trans hb9).alloc (by omega) _).alloc (by simp; omega) _
end Go.Proofs.YtogennogjnleaaaDoor
