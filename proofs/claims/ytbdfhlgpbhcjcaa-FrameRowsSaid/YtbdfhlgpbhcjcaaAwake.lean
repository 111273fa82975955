/- What is proved here: 'awake', the example of the document, returns true whatever the memory in which it is called, and nothing that was there has changed. -/
import Derived.Test.YtbdfhlgpbhcjcaaSealMath
import Derived.Lib.SlBytesConst
namespace Go.Proofs.Ytbdfhlgpbhcjcaa
open Go Go.RowKit

theorem example_sum : sumL [49, 50, 51, 52, 53, 54, 55, 56, 57] = 3421780262 := by decide +kernel

/-- A literal's row, marked or not. -/
theorem Rd.litF (w : World) (k : IntKind) (t : TypeId) (xs : List Int) (fr : Nat × Nat) (hl : xs.length ≤ maxLen) (n : Nat) (hn : xs.length = n) (cs : Array Value) (hcs : cs = (xs.map (Value.int k)).toArray) :
    Rd (w.alloc (.cells cs t fr)) (w.alloc (.cells cs t fr)).heap.size k (some ⟨w.heap.size, 0, none⟩) n n xs := by
  subst hn hcs
  exact ⟨rfl, Nat.le_refl _, hl, (fun h => by cases h), fun j u hu => ⟨w.heap.size, 0, rfl, by simp, by
    rw [Nat.zero_add, cell_of_row _ _ _ _ _ _ (heap_alloc_new w _)]
    simp [hu]⟩⟩

set_option maxHeartbeats 1600000 in
set_option maxRecDepth 100000 in
theorem awake_any (w : World) : Calls Try.prog 11 #[] w fun e w' => e = .returned (.bool true) ∧ Below w.heap.size w w' := by
  obtain ⟨i0, hi, hz0, hz1, hz2⟩ := info_parts info_u8
  have kc := fun (w : World) (C : Array Value) (n c : Nat) => Lib.run_convert_bytes_const (P := Try.prog) w 22 5 C n c Try.underlying22 Try.underlying5
  have hab : ∀ x ∈ ([97, 98] : List Int), 0 ≤ x ∧ x < 256 := by decide
  have hnine : ∀ x ∈ ([49, 50, 51, 52, 53, 54, 55, 56, 57] : List Int), 0 ≤ x ∧ x < 256 := by decide
  have hb0 : Below w.heap.size w (w.alloc (.cells #[.int .u8 97, .int .u8 98] 5 (2, 3))) := (Below.refl _ _).alloc (Nat.le_refl _) _
  have hr0 := Rd.litF w .u8 5 [97, 98] (2, 3) (by decide) 2 rfl #[.int .u8 97, .int .u8 98] rfl
  have HS := Lib.hid (Seal_any _ _ _ _ _ hr0 hab (by decide))
  have HN := Lib.hid hnine
  have HO0 := Lib.hid (fun (W : World) => World.ownsRow_lit (e := 5) (size := 1) W #[] 0 (Nat.le_refl _) (by decide) rfl)
  clear hr0 hnine
  go_enter Try.func11, Try.ntmps11
  go_wp2_with fail
  refine HS.out.mono ?_
  rintro e w1 ⟨v1, rfl, hown1, hb1⟩
  obtain ⟨A1, c1, rfl, hr1⟩ := Rd.of_own hown1
  have hl1 : (List.map (Value.int .u8) (sealF [97, 98])).length = (2 + 6) * 1 := by rw [List.length_map, sealF_length]; rfl
  have HL1 := Lib.hid hl1
  have hbw1 := hb0.trans (hb1.mono hb0.size)
  clear hl1 hown1 HS hb1 hb0
  go_wp2_with (first
    | (at_builtin; refine wpList_append_src (o := ⟨some 15, _, _, _, _, _⟩) rfl _ _ 22 rfl w1.heap.size 5 i0 _ 1 1 Try.underlying22 hi hz0 hz1 hz2 rfl (by omega) _ 0 [] rfl (HO0.out w1) A1 (2 + 6) c1 (List.map (Value.int .u8) (sealF [97, 98])) rfl HL1.out hr1.nil (hr1.alloc (Nat.le_refl _) _).news (ints_oneCell _ _) (by unfold maxLen; omega) (by omega) (by simp) ?_; intro v2 w2 hown2 hg2)
    | (at_builtin; refine wpList_append_src (o := ⟨some 17, _, _, _, _, _⟩) rfl _ _ 22 rfl w1.heap.size 5 i0 _ 1 1 Try.underlying22 hi hz0 hz1 hz2 rfl (by omega) _ (0 + (2 + 6)) ([] ++ List.map (Value.int .u8) (sealF [97, 98])) rfl (hown2.alloc _) (some ⟨w2.heap.size, 0, none⟩) 1 1 [.int .u8 7] rfl rfl (fun h => by cases h) (news_new _ _ _) (one_cell _ _) (by unfold maxLen; omega) (by omega) (by have := hg2.size; simp at this; simp; omega) ?_; intro v3 w3 hown3 hg3))
  have hbw3 : Below w.heap.size w w3 := by
    have h1 := hbw1.size
    have h2 := hg2.size
    simp at h2
    exact ((((hbw1.alloc h1 _).grown hg2 (by simp; omega) (fun k hk => by have := ((HO0.out w1).lt k hk).1; omega)).alloc (by omega) _).grown hg3 (by simp; omega) (fun k hk => by have := (hown2.lt k hk).1; omega))
  obtain ⟨A3, c3, rfl, hr3⟩ := Rd.of_own (n := 9) (xs := sealF [97, 98] ++ [7]) (k := .u8) (by simpa using hown3)
  have hby : ∀ x ∈ sealF [97, 98] ++ [7], 0 ≤ x ∧ x < 256 := bytes_app (sealF_bytes hab) (by decide)
  have HW := Lib.hid (seal_why (xs := [97, 98]) (by decide) hab [7])
  have HSZ := Lib.hid (seal_size (xs := [97, 98]) (by decide) [7])
  have HBD := Lib.hid (seal_body (xs := [97, 98]) (by decide) [7])
  have HRS := Lib.hid (seal_rest (xs := [97, 98]) (by decide) [7])
  have HLX : Hid ((sealF [97, 98] ++ [7]).length = 9) := Lib.hid (by rw [List.length_append, sealF_length]; rfl)
  have HNX := Lib.hid (Next_any A3 9 c3 _ w3 hr3 hby (by omega))
  clear hr3 hby hown3 hg3 hown2 hg2 hr1 hbw1
  refine HNX.out.mono ?_
  rintro e w4 ⟨hb4, ⟨h0, _⟩ | ⟨_, _, A4, c4, A5, c5, rfl, hr4, hr5⟩⟩
  · exact absurd HW.out h0
  · rw [HBD.out, HSZ.out] at hr4
    rw [HRS.out, HLX.out, HSZ.out] at hr5
    simp only [HSZ.out, HLX.out]
    have hb5 : Below w4.heap.size w4 (w4.alloc (.cells #[.int .u8 49, .int .u8 50, .int .u8 51, .int .u8 52, .int .u8 53, .int .u8 54, .int .u8 55, .int .u8 56, .int .u8 57] 5 (9, 10))) := (Below.refl _ _).alloc (Nat.le_refl _) _
    have hr9 := Rd.litF w4 .u8 5 [49, 50, 51, 52, 53, 54, 55, 56, 57] (9, 10) (by decide) 9 rfl #[.int .u8 49, .int .u8 50, .int .u8 51, .int .u8 52, .int .u8 53, .int .u8 54, .int .u8 55, .int .u8 56, .int .u8 57] rfl
    have HSM := Lib.hid (Sum_any _ _ _ _ _ hr9 HN.out (by omega))
    clear hr9
    go_wp2_with fail
    refine HSM.out.mono ?_
    rintro e w6 ⟨rfl, hb6⟩
    have hb46 := hb5.trans (hb6.mono hb5.size)
    have hr4' := hr4.below hb46
    have hr5' := hr5.below hb46
    obtain ⟨b5, o5, rfl, _, hcell5⟩ := hr5'.cell (j := 0) (by decide)
    have hcv : (convert 22 9 (.slice A4 2 c4)).run Try.prog w6 = .ok (.string (strOfNums [97, 98])) w6 := hr4'.convert (P := Try.prog) 22 5 9 Try.underlying22 Try.underlying5 Try.underlying9
    rw [show strOfNums [97, 98] = ⟨#[97, 98]⟩ from rfl] at hcv
    rw [show ([7] : List Int).getD 0 0 = 7 from rfl, Nat.add_zero] at hcell5
    rw [example_sum]
    have hbw6 := hbw3.trans ((hb4.trans (hb46.mono hb4.size)).mono hbw3.size)
    clear hr4 hr5 hr5' hr4' hb5 hb6 hb46 hb4 hbw3 HSM
    go_wp2_with fail
    go_ret
    exact ⟨rfl, hbw6⟩
end Go.Proofs.Ytbdfhlgpbhcjcaa
