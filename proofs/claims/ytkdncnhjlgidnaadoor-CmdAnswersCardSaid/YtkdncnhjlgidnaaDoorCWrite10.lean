/- What is proved here: what the document's own Write returns for a command that may be written: its bytes, in new memory. -/
import Derived.Test.YtkdncnhjlgidnaaDoorCNum10
import Derived.Test.YtkdncnhjlgidnaaDoorRef2
namespace Go.Proofs.YtkdncnhjlgidnaaDoor
open Go Go.RowKit Go.Maps

/-- Bytes in a row of one's own. -/
def Own10 (w : World) (B : Nat) (v : Value) (E : List Int) : Prop := w.ownsRow B 5 1 v E.length (E.map (Value.int .u8))
theorem own_next {w : World} {B : Nat} {v : Value} {E ys E' : List Int} (h : w.ownsRow B 5 1 v (E.length + ys.length) (E.map (Value.int .u8) ++ ys.map (Value.int .u8))) (e : E' = E ++ ys) : Own10 w B v E' := by
  subst e
  unfold Own10
  rw [List.length_append, List.map_append]
  exact h
/-- A block of another type stays. -/
theorem own_blk {w w' : World} {B s : Nat} {v : Value} {E : List Int} {t : TypeId} {cs : Array Value} (h : Own10 w B v E) (hg : w.grownBy w' v.ownBlock) (hb : Blk w s t cs) (ht : t ≠ 5) : Blk w' s t cs := by
  refine (hg.block s hb.lt ?_).trans hb
  intro he
  rcases h.2 with ⟨hv, _⟩ | ⟨g, cap, cur, hv, _, hgg, _⟩
  · rw [hv] at he
    simp [Value.ownBlock] at he
  · rw [hv] at he
    simp [Value.ownBlock] at he
    subst he
    have h2 := hgg.symm.trans hb
    simp at h2
    exact ht h2.2.symm
theorem CM.ns11_next (c : CM) {j : Nat} (h : j < 11) : encN (c.rns.take (j + 1)) = encN (c.rns.take j) ++ enc (c.ns11.getD j 0).toNat := by
  have hl : j < c.ns11.length := h
  rw [← c.rns_of, ← List.map_take, ← List.map_take, List.take_succ_eq_append_getElem hl, List.map_append, List.map_singleton, encN_snoc, List.getD_eq_getElem?_getD, List.getElem?_eq_getElem hl, Option.getD_some]
theorem CM.Good.ns11 {c : CM} {L : List ByteArray} (h : c.Good L) : ∀ x ∈ c.ns11, 0 ≤ x ∧ x ≤ 4611686018427387904 := fun x hx => by
  have e : c.ns11 = c.shift.ns ++ [if c.ff then 1 else 0] := rfl
  rw [e] at hx
  rcases List.mem_append.1 hx with hx | hx
  · exact h.ns x hx
  · rw [List.mem_singleton.1 hx]
    cases c.ff <;> decide
theorem CM.Good.lenJ {c : CM} {L : List ByteArray} (h : c.Good L) (j : Nat) : (encN (c.rns.take j)).length ≤ 99 := by
  have := encN_len (c.rns.take j) fun v hv => by have := h.rns v (List.mem_of_mem_take hv); omega
  rw [List.length_take, show c.rns.length = 11 from rfl] at this
  omega
theorem encT_nums (s : ByteArray) : encT (nums s) = enc s.size ++ nums s := by rw [encT, nums_length]

set_option maxHeartbeats 6400000 in
set_option maxRecDepth 100000 in
theorem Write10_any (c : CM) (L : List ByteArray) (w : World) (hL : TRd w w.heap.size c.bA c.bn c.bc L) (hr : c.right L = true) :
    Calls Tryd.prog 15 #[.agg c.cells] w fun e w' => ∃ v, e = .returned v ∧ Own10 w' w.heap.size v (c.bytes L) ∧ Below w.heap.size w w' := by
  have hgood := CM.good hr
  have hbn := hgood.few
  have hLn := hL.len
  obtain ⟨cs, hcs⟩ : ∃ cs, cs = c.cells := ⟨_, rfl⟩
  have i1 : (Tryd.prog.info? 37).map (·.size) = some cs.size := by rw [hcs]; exact info_ref
  have HNU : Hid (∀ W, Calls Tryd.prog 33 #[.agg cs] W fun e w' => ∃ s, e = .returned (.slice (some ⟨s, 0, none⟩) 11 11) ∧ Blk w' s 3 (c.ns11.map (Value.int .i64)).toArray ∧ Below W.heap.size W w') := Lib.hid (by rw [hcs]; exact refNumbers_any c)
  have HTU : Hid (∀ W, Calls Tryd.prog 34 #[.agg cs] W fun e w' => ∃ s, e = .returned (.slice (some ⟨s, 0, none⟩) 6 6) ∧ W.heap.size ≤ s ∧ Blk w' s 9 (c.ts.map Value.string).toArray ∧ Below W.heap.size W w') := Lib.hid (by rw [hcs]; exact refTexts_any c)
  have h15 : cs[15]? = some (.slice c.bA c.bn c.bc) := by rw [hcs]; rfl
  rw [← hcs]
  have I1 := Lib.hid i1; have H15 := Lib.hid h15
  have HL := Lib.hid hL
  have GD := Lib.hid hgood
  clear hcs i1 h15 hL hgood hr
  generalize c.bA = bA at *
  generalize c.bc = bc at *
  obtain ⟨i0, hi, hz0, hz1, hz2⟩ := info_parts info_u8
  go_enter Tryd.func15, Tryd.ntmps15
  go_upto_region 1 with fail
  have hb1 : Blk (w.alloc (.cells cs 37)) w.heap.size 37 cs := Blk.fresh _ _ _
  have hbel : Below w.heap.size w (w.alloc (.cells cs 37)) := (Below.refl _ _).alloc (Nat.le_refl _) _
  generalize w.alloc (.cells cs 37) = W at *
  have HB1 := Lib.hid hb1; have HBEL := Lib.hid hbel
  clear hb1 hbel
  go_wp2_with (first
    | (refine wpList_load_row (o := ⟨some 9, .load 37 (.tmp 1), _, _, _, _⟩) rfl 37 (.tmp 1) rfl w.heap.size rfl 37 cs (0, 0) _ HB1.out Tryd.underlying37 rfl I1.out ?_)
    | (go_at_call 33; refine (HNU.out W).mono ?_; rintro e w2 ⟨s1, rfl, hk1, hbl1⟩
       have HK1 := Lib.hid hk1; have HB2 := Lib.hid (HB1.out.below hbl1 HB1.out.lt); have HBEL2 := Lib.hid (HBEL.out.trans (hbl1.mono HBEL.out.size)); clear hk1 hbl1))
  clear HB1 HBEL
  have hz := HBEL2.out.size
  have hsz := HB2.out.lt
  go_loopw [3, 5] (fun v3 v5 wr => ∃ (j : Nat), j ≤ 11 ∧ v5 = .int .i64 j ∧ Hid (Own10 wr w2.heap.size v3 (encN (c.rns.take j))) ∧ Hid (Below w2.heap.size w2 wr)) (fun _ i _ => 11 - (intOf i).toNat)
  case atStart => exact ⟨0, by omega, rfl, Lib.hid (World.ownsRow_nil _ _ _ _), Lib.hid (Below.refl _ _)⟩
  case round =>
    obtain ⟨j, hj, rfl, hown, hbw⟩ := hrel
    by_cases hlt : j < 11
    · have hjz : (j : Int) < 11 := by omega
      have hcell : wr.cell? ⟨s1, j, none⟩ = some (.int .i64 (c.ns11.getD j 0)) := by
        rw [(HK1.out.below hbw.out HK1.out.lt).cell]
        simp [List.getD_eq_getElem?_getD, List.getElem?_eq_getElem (show j < c.ns11.length from hlt)]
      have hx := GD.out.ns11 (c.ns11.getD j 0) (by rw [List.getD_eq_getElem?_getD, List.getElem?_eq_getElem (show j < c.ns11.length from hlt)]; exact List.getElem_mem _)
      have HN := Lib.hid (c.ns11_next hlt)
      have hk := GD.out.lenJ j
      generalize c.ns11.getD j 0 = x at *
      generalize encN (c.rns.take j) = E at *
      have hep := enc_pos x.toNat
      have h9 := enc_len9 (n := x.toNat) (by omega)
      go_wp2_with fail
      refine (refNum_any _ x wr (Nat.le_refl _) (by omega) (by omega)).mono ?_
      rintro e w4 ⟨v4, rfl, hown2, hb4⟩
      have hown0 := own_below hown.out hb4
      obtain ⟨g1, cap1, rfl, hg1, hg2, hcell1⟩ := own_place hown2 hep
      have hq1 := hbw.out.size
      have hq2 := hb4.size
      have HO0 := Lib.hid hown0; have HB4 := Lib.hid hb4
      clear hown0 hb4 hown2
      go_wp2_with (at_builtin
                   refine wpList_append_keep rfl _ _ 30 rfl w2.heap.size 5 i0 _ 1 Tryd.underlying30 hi hz0 (by assumption) (by assumption) rfl _ E.length (E.map (Value.int .u8)) rfl HO0.out ⟨g1, 0, none⟩ _ _ ((enc x.toNat).map (Value.int .u8)) rfl (by simp) hcell1 (ints_oneCell _ _) (by unfold maxLen; omega) (by omega) (by omega) ?_
                   intro v3 w3 hown3 hown4 hg3
                   have HO3 := Lib.hid hown3; have HG3 := Lib.hid hg3; clear hown3 hown4 hg3)
      go_roundw
      case rel => exact ⟨j + 1, by omega, by go_num, Lib.hid (own_next HO3.out HN.out), Lib.hid ((hbw.out.trans (HB4.out.mono hq1)).grown HG3.out (by omega) (fun k hk => (HO0.out.lt k hk).1))⟩
      case measure => simp [intOf]; omega
    · obtain rfl : j = 11 := by omega
      have HE2 : Hid (encN (c.rns.take 11) = c.e2 0) := Lib.hid (by rw [c.e2_zero, List.take_of_length_le (Nat.le_refl 11)])
      rw [HE2.out] at hown
      have HBr := Lib.hid (HB2.out.below hbw.out HB2.out.lt)
      go_wp2_with (first
        | (refine wpList_load_row (o := ⟨some 24, .load 37 (.tmp 1), _, _, _, _⟩) rfl 37 (.tmp 1) rfl w.heap.size rfl 37 cs (0, 0) _ HBr.out Tryd.underlying37 rfl I1.out ?_)
        | (go_at_call 34; refine (HTU.out wr).mono ?_; rintro e w5 ⟨s2, rfl, _, hk2, hbl2⟩
           have HK2 := Lib.hid hk2; have HO5 := Lib.hid (own_below hown.out hbl2); have HBEL5 := Lib.hid (hbw.out.trans (hbl2.mono hbw.out.size)); clear hk2 hbl2))
      clear HE2 hown hbw HBr HK1 HNU HTU
      have hz5 := HBEL5.out.size
      go_loopw [3, 7] (fun v3 v7 wr => ∃ (j : Nat), j ≤ 6 ∧ v7 = .int .i64 j ∧ Hid (Own10 wr w2.heap.size v3 (c.e2 j)) ∧ Hid (Below w2.heap.size w2 wr) ∧ Hid (Blk wr s2 9 (c.ts.map Value.string).toArray)) (fun _ i _ => 6 - (intOf i).toNat)
      case atStart => exact ⟨0, by omega, rfl, HO5, HBEL5, HK2⟩
      case round =>
        obtain ⟨j, hj, rfl, hown, hbw, hbk⟩ := hrel
        by_cases hlt : j < 6
        · have hjz : (j : Int) < 6 := by omega
          have hcell : wr.cell? ⟨s2, j, none⟩ = some (.string (c.ts.getD j ⟨#[]⟩)) := by
            rw [hbk.out.cell]
            simp [List.getD_eq_getElem?_getD, List.getElem?_eq_getElem (show j < c.ts.length from hlt)]
          have hx := GD.out.ts (c.ts.getD j ⟨#[]⟩) (by rw [List.getD_eq_getElem?_getD, List.getElem?_eq_getElem (show j < c.ts.length from hlt)]; exact List.getElem_mem _)
          have hn := c.e2_next hlt
          rw [encT_nums] at hn
          have HN := Lib.hid hn
          clear hn
          have hk := GD.out.len2 j
          generalize c.ts.getD j ⟨#[]⟩ = x at *
          generalize c.e2 j = E at *
          have hep : 0 < (enc x.size ++ nums x).length := by rw [List.length_append]; have := enc_pos x.size; omega
          have h9 : (enc x.size ++ nums x).length ≤ 1000 := by rw [List.length_append, nums_length]; have := enc_len9 (n := x.size) (by omega); omega
          go_wp2_with fail
          refine (refText_any x wr (by omega)).mono ?_
          rintro e w4 ⟨v4, rfl, hown2, hb4⟩
          have hown0 := own_below hown.out hb4
          have hbk4 := hbk.out.below hb4 hbk.out.lt
          obtain ⟨g1, cap1, rfl, hg1, hg2, hcell1⟩ := own_place hown2 hep
          have hq1 := hbw.out.size
          have hq2 := hb4.size
          have HO0 := Lib.hid hown0; have HB4 := Lib.hid hb4; have HK4 := Lib.hid hbk4
          clear hown0 hb4 hown2 hbk4
          generalize enc x.size ++ nums x = Y at *
          go_wp2_with (at_builtin
                       refine wpList_append_keep rfl _ _ 30 rfl w2.heap.size 5 i0 _ 1 Tryd.underlying30 hi hz0 (by assumption) (by assumption) rfl _ E.length (E.map (Value.int .u8)) rfl HO0.out ⟨g1, 0, none⟩ _ _ (Y.map (Value.int .u8)) rfl (by simp) hcell1 (ints_oneCell _ _) (by unfold maxLen; omega) (by omega) (by omega) ?_
                       intro v3 w3 hown3 hown4 hg3
                       have HO3 := Lib.hid hown3; have HG3 := Lib.hid hg3; clear hown3 hown4 hg3)
          go_roundw
          case rel => exact ⟨j + 1, by omega, by go_num, Lib.hid (own_next HO3.out HN.out), Lib.hid ((hbw.out.trans (HB4.out.mono hq1)).grown HG3.out (by omega) (fun k hk => (HO0.out.lt k hk).1)), Lib.hid (own_blk HO0.out HG3.out HK4.out (by decide))⟩
          case measure => simp [intOf]; omega
        · obtain rfl : j = 6 := by omega
          have h15 := ((HB2.out.below hbw.out HB2.out.lt).cell 15).trans H15.out
          have hk := GD.out.len2 6
          have HE3 : Hid (c.e3 L 0 = c.e2 6 ++ enc c.bn) := Lib.hid (by rw [c.e2_all, c.e3_zero, hLn])
          have hep := enc_pos c.bn
          have h9 := enc_len9 (n := c.bn) (by omega)
          generalize c.e2 6 = E at *
          clear hbk
          go_wp2_with fail
          refine (refNum_any _ (c.bn : Int) wr (Nat.le_refl _) (by omega) (by omega)).mono ?_
          rw [Int.toNat_natCast]
          rintro e w4 ⟨v4, rfl, hown2, hb4⟩
          have hown0 := own_below hown.out hb4
          obtain ⟨g1, cap1, rfl, hg1, hg2, hcell1⟩ := own_place hown2 hep
          have hq1 := hbw.out.size
          have hq2 := hb4.size
          have HO0 := Lib.hid hown0; have HB4 := Lib.hid hb4
          clear hown0 hb4 hown2
          go_wp2_with (at_builtin
                       refine wpList_append_keep rfl _ _ 30 rfl w2.heap.size 5 i0 _ 1 Tryd.underlying30 hi hz0 (by assumption) (by assumption) rfl _ E.length (E.map (Value.int .u8)) rfl HO0.out ⟨g1, 0, none⟩ _ _ ((enc c.bn).map (Value.int .u8)) rfl (by simp) hcell1 (ints_oneCell _ _) (by unfold maxLen; omega) (by omega) (by omega) ?_
                       intro v6 w6 hown3 hown4 hg3
                       have HO6 := Lib.hid (own_next hown3 HE3.out); have HBEL6 := Lib.hid ((hbw.out.trans (HB4.out.mono hq1)).grown hg3 (by omega) (fun k hk => (HO0.out.lt k hk).1)); clear hown3 hown4 hg3)
          clear HE3 HO0 HB4 hcell1 h15 hown hbw HO5 HBEL5 HK2
          go_loopw [3, 8] (fun v3 v8 wr => ∃ (j : Nat), j ≤ c.bn ∧ v8 = .int .i64 j ∧ Hid (Own10 wr w2.heap.size v3 (c.e3 L j)) ∧ Hid (Below w2.heap.size w2 wr)) (fun _ i _ => c.bn - (intOf i).toNat)
          case atStart => exact ⟨0, by omega, rfl, HO6, HBEL6⟩
          case round =>
            obtain ⟨j, hj, rfl, hown, hbw⟩ := hrel
            have h15 := ((HB2.out.below hbw.out HB2.out.lt).cell 15).trans H15.out
            by_cases hlt : j < c.bn
            · have hjz : (j : Int) < c.bn := by omega
              have hd1 : decide ((j : Int) < (c.bn : Int)) = true := decide_eq_true hjz
              obtain ⟨b, o, rfl, hbl, htx⟩ := (HL.out.below (HBEL2.out.trans (hbw.out.mono hz))).cell hlt
              have hx := GD.out.bs (L.getD j ⟨#[]⟩) (by rw [List.getD_eq_getElem?_getD, List.getElem?_eq_getElem (show j < L.length by omega)]; exact List.getElem_mem _)
              have hn := c.e3_next L (show j < L.length by omega)
              rw [encT_nums] at hn
              have HN := Lib.hid hn
              clear hn
              have hk := GD.out.len3 (by omega : L.length ≤ 10) j
              generalize L.getD j ⟨#[]⟩ = x at *
              generalize c.e3 L j = E at *
              have hep : 0 < (enc x.size ++ nums x).length := by rw [List.length_append]; have := enc_pos x.size; omega
              have h9 : (enc x.size ++ nums x).length ≤ 1000 := by rw [List.length_append, nums_length]; have := enc_len9 (n := x.size) (by omega); omega
              go_wp2_with fail
              refine (refText_any x wr (by omega)).mono ?_
              rintro e w4 ⟨v4, rfl, hown2, hb4⟩
              have hown0 := own_below hown.out hb4
              obtain ⟨g1, cap1, rfl, hg1, hg2, hcell1⟩ := own_place hown2 hep
              have hq1 := hbw.out.size
              have hq2 := hb4.size
              have HO0 := Lib.hid hown0; have HB4 := Lib.hid hb4
              clear hown0 hb4 hown2
              generalize enc x.size ++ nums x = Y at *
              go_wp2_with (at_builtin
                           refine wpList_append_keep rfl _ _ 30 rfl w2.heap.size 5 i0 _ 1 Tryd.underlying30 hi hz0 (by assumption) (by assumption) rfl _ E.length (E.map (Value.int .u8)) rfl HO0.out ⟨g1, 0, none⟩ _ _ (Y.map (Value.int .u8)) rfl (by simp) hcell1 (ints_oneCell _ _) (by unfold maxLen; omega) (by omega) (by omega) ?_
                           intro v3 w3 hown3 hown4 hg3
                           have HO3 := Lib.hid hown3; have HG3 := Lib.hid hg3; clear hown3 hown4 hg3)
              go_roundw
              case rel => exact ⟨j + 1, by omega, by go_num, Lib.hid (own_next HO3.out HN.out), Lib.hid ((hbw.out.trans (HB4.out.mono hq1)).grown HG3.out (by omega) (fun k hk => (HO0.out.lt k hk).1))⟩
              case measure => simp [intOf]; omega
            · have hjb : j = c.bn := by omega
              have HE : Hid (c.e3 L j = c.bytes L) := Lib.hid (c.e3_all L (by omega))
              rw [HE.out] at hown
              have hd0 : decide ((j : Int) < (c.bn : Int)) = false := decide_eq_false (by omega)
              have HO := Lib.hid (own_base hown.out (show w.heap.size ≤ w2.heap.size from hz))
              have HBF := Lib.hid (HBEL2.out.trans (hbw.out.mono hz))
              clear hown hbw hjb
              go_wp2_with fail
              go_ret
              exact ⟨_, rfl, HO.out, HBF.out⟩
end Go.Proofs.YtkdncnhjlgidnaaDoor
