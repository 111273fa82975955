/- What is proved here: what the document's own Next returns. -/
import Derived.Test.YtbdfhlgpbhcjcaaRefSeal
namespace Go.Proofs.Ytbdfhlgpbhcjcaa
open Go Go.RowKit

theorem seal_iff {xs : List Int} (hx : ∀ x ∈ xs, 0 ≤ x ∧ x < 256) (h1 : 6 + sizeF xs ≤ xs.length) (h2 : sizeF xs ≤ 4096) : decide (sealF ((xs.drop 6).take (sizeF xs)) = xs.take (6 + sizeF xs)) = sumF xs := by
  by_cases h : sealF ((xs.drop 6).take (sizeF xs)) = xs.take (6 + sizeF xs)
  · rw [decide_eq_true h]
    have hl : ((xs.drop 6).take (sizeF xs)).length = sizeF xs := by rw [List.length_take, List.length_drop]; omega
    have := seal_sumF (xs := (xs.drop 6).take (sizeF xs)) (by omega) (take_bytes (drop_bytes hx 6) _) (xs.drop (6 + sizeF xs))
    rw [h, List.take_append_drop] at this
    exact this.symm
  · rw [decide_eq_false h]
    by_cases hs : sumF xs = true
    · exfalso
      have hw : whyF xs = 0 := by
        unfold whyF
        rw [if_neg (by omega), if_neg (by omega), if_neg (by omega), if_pos hs]
      exact h (why_zero hx hw).2.2.symm
    · simpa using hs
theorem size_two {xs : List Int} (h : 2 ≤ xs.length) : (sizeF xs : Int) = (xs.getD 0 0).toNat + 256 * (xs.getD 1 0).toNat := by
  unfold sizeF
  rcases xs with _ | ⟨a, _ | ⟨b, xs⟩⟩
  · simp at h
  · simp at h
  · simp [lowN]

theorem str_eq {xs ys : List Int} (bx : ∀ x ∈ xs, 0 ≤ x ∧ x < 256) (yb : ∀ y ∈ ys, 0 ≤ y ∧ y < 256) : ((strOfNums xs).toList == (strOfNums ys).toList) = decide (xs = ys) := by
  by_cases h : xs = ys
  · subst h; simp
  · rw [decide_eq_false h, beq_eq_false_iff_ne]
    intro hh
    rw [ByteArray.toList_eq, ByteArray.toList_eq] at hh
    exact h (strOfNums_eq bx yb (by
      generalize strOfNums xs = a at hh ⊢
      generalize strOfNums ys = b at hh ⊢
      cases a; cases b
      simpa using hh))
/-- What the document's own Next answers. -/
def RefNextSaid (w : World) (xs : List Int) (e : Ending) (w' : World) : Prop :=
  Below w.heap.size w w' ∧ e = .returned (.tuple #[.int .i64 ((if whyF xs = 0 then 6 + sizeF xs else 0 : Nat) : Int), .int .i64 (whyF xs)])
theorem RefNextSaid.bad {w w' : World} {xs : List Int} {e : Ending} (er : Nat) (hw : whyF xs = er) (h0 : er ≠ 0) (he : e = .returned (.tuple #[.int .i64 0, .int .i64 er])) (hb : Below w.heap.size w w') : RefNextSaid w xs e w' :=
  ⟨hb, by rw [hw, if_neg h0]; exact he⟩

set_option maxHeartbeats 400000 in
theorem refNext_short (A : Option Addr) (n c : Nat) (xs : List Int) (w : World) (h : Rd w w.heap.size .u8 A n c xs) (hn : n < 6) :
    Calls Try.prog 18 #[.slice A n c] w (RefNextSaid w xs) := by
  have hm := h.max
  have hc := h.cap
  unfold maxLen at hm
  have hn' : (n : Int) < 6 := by omega
  have HW : Hid (whyF xs = 3) := Lib.hid (by unfold whyF; rw [if_pos (by rw [h.len]; exact hn)])
  go_enter Try.func18, Try.ntmps18
  go_wp2_with fail
  go_ret2
  exact RefNextSaid.bad 3 HW.out (by omega) rfl (Below.refl _ _)

set_option maxHeartbeats 1600000 in
set_option maxRecDepth 100000 in
theorem refNext_long (b o n c : Nat) (xs : List Int) (w : World) (h : Rd w w.heap.size .u8 (some ⟨b, o, none⟩) n c xs) (hx : ∀ x ∈ xs, 0 ≤ x ∧ x < 256) (hn : 6 ≤ n) (hn2 : n ≤ 1000000) :
    Calls Try.prog 18 #[.slice (some ⟨b, o, none⟩) n c] w (RefNextSaid w xs) := by
  have hm := h.max
  have hc := h.cap
  unfold maxLen at hm
  have hn' : ¬ ((n : Int) < 6) := by omega
  have hn0 : (0 : Int) < n := by omega
  have hn1 : (1 : Int) < n := by omega
  have HL := Lib.hid h.len
  have HX := Lib.hid hx
  have HD := Lib.hid h
  obtain ⟨b0, o0, e0, _, hc0⟩ := h.cell (j := 0) (by omega)
  obtain ⟨b1, o1, e1, _, hc1⟩ := h.cell (j := 1) (by omega)
  obtain ⟨rfl, rfl⟩ : b = b0 ∧ o = o0 := by simpa using e0
  obtain ⟨rfl, rfl⟩ : b = b1 ∧ o = o1 := by simpa using e1
  have hx0 := hx (xs.getD 0 0) (by rw [List.getD_eq_getElem?_getD, List.getElem?_eq_getElem (by rw [HL.out]; omega)]; exact List.getElem_mem _)
  have hx1 := hx (xs.getD 1 0) (by rw [List.getD_eq_getElem?_getD, List.getElem?_eq_getElem (by rw [HL.out]; omega)]; exact List.getElem_mem _)
  have HS2 : Hid ((sizeF xs : Int) = xs.getD 0 0 + 256 * xs.getD 1 0) := Lib.hid (by rw [size_two (by rw [HL.out]; omega)]; omega)
  rw [Nat.add_zero] at hc0
  clear hx e0 e1 h
  go_enter Try.func18, Try.ntmps18
  go_upto_region 3 with fail
  go_cut [4] (fun s4 wx => s4 = .int .i64 (sizeF xs) ∧ Below w.heap.size w wx)
  case first =>
    generalize xs.getD 0 0 = y0 at *
    generalize xs.getD 1 0 = y1 at *
    go_quiet (fail)
    go_wp2_with fail
    go_meet
    case rel => exact ⟨congrArg (Value.int .i64) HS2.out.symm, below_drewN (Below.refl _ _) _⟩
  case rest =>
    obtain ⟨rfl, hb⟩ := hcut
    clear hc0 hc1 hx0 hx1 HS2
    by_cases h1 : 4096 < sizeF xs
    · have HW : Hid (whyF xs = 2) := Lib.hid (by unfold whyF; rw [if_neg (by rw [HL.out]; omega), if_pos h1])
      generalize sizeF xs = N at *
      go_wp2_with fail
      go_ret2
      exact RefNextSaid.bad 2 HW.out (by omega) rfl hb
    · by_cases h2 : n - 6 < sizeF xs
      · have HW : Hid (whyF xs = 3) := Lib.hid (by unfold whyF; rw [if_neg (by rw [HL.out]; omega), if_neg h1, HL.out, if_pos h2])
        generalize sizeF xs = N at *
        go_wp2_with fail
        go_ret2
        exact RefNextSaid.bad 3 HW.out (by omega) rfl hb
      · go_upto_region 8 with fail
        have hbz := hb.size
        have HSUM := Lib.hid (seal_iff HX.out (by rw [HL.out]; omega) (by omega))
        have hseal : ∀ V A6 c6, Below wc.heap.size wc V → Rd w w.heap.size .u8 A6 (sizeF xs) c6 ((xs.drop 6).take (sizeF xs)) →
            Calls Try.prog 17 #[.slice A6 (sizeF xs) c6] V fun e w' => ∃ A c, e = .returned (.slice A (sizeF xs + 6) c) ∧ Below wc.heap.size wc w' ∧ Rd w' w'.heap.size .u8 A (sizeF xs + 6) c (sealF ((xs.drop 6).take (sizeF xs))) := fun V A6 c6 hV hr => by
          have hbV := hb.trans (hV.mono hbz)
          refine (refSeal_any _ _ _ _ V ((hr.below hbV).more hbV.size) (take_bytes (drop_bytes HX.out 6) _) (by omega)).mono ?_
          rintro e w' ⟨v, rfl, hown, hb'⟩
          obtain ⟨A, c, rfl, hr'⟩ := Rd.of_own hown
          exact ⟨A, c, rfl, hV.trans (hb'.mono hV.size), hr'⟩
        have HSEAL := Lib.hid hseal
        have HCB : Hid (∀ V, Below wc.heap.size wc V → (convert 22 9 (.slice (some ⟨b, o, none⟩) (6 + sizeF xs) c)).run Try.prog V = .ok (.string (strOfNums (xs.take (6 + sizeF xs)))) V) := Lib.hid fun V hV =>
          (((HD.out.take (m := 6 + sizeF xs) (by omega)).below (hb.trans (hV.mono hbz)))).convert (P := Try.prog) 22 5 9 Try.underlying22 Try.underlying5 Try.underlying9
        have HCS : Hid (∀ V A c, Rd V V.heap.size .u8 A (sizeF xs + 6) c (sealF ((xs.drop 6).take (sizeF xs))) → (convert 22 9 (.slice A (sizeF xs + 6) c)).run Try.prog V = .ok (.string (strOfNums (sealF ((xs.drop 6).take (sizeF xs))))) V) := Lib.hid fun V A c hV =>
          hV.convert (P := Try.prog) 22 5 9 Try.underlying22 Try.underlying5 Try.underlying9
        have HEQ : Hid (((strOfNums (sealF ((xs.drop 6).take (sizeF xs)))).toList == (strOfNums (xs.take (6 + sizeF xs))).toList) = sumF xs) := Lib.hid (by
          rw [← HSUM.out]
          exact str_eq (sealF_bytes (take_bytes (drop_bytes HX.out 6) _)) (take_bytes HX.out _))
        clear hseal
        go_cut [36] (fun s36 wx => s36 = .bool (!sumF xs) ∧ Below w.heap.size w wx)
        case first =>
          by_cases hc6 : c = 6
          · have hN0 : sizeF xs = 0 := by omega
            have hR6 : Hid (Rd w w.heap.size .u8 (some ⟨b, o, none⟩) (sizeF xs) 0 ((xs.drop 6).take (sizeF xs))) := Lib.hid (by rw [hN0]; exact Rd.empty _)
            have q4 : 6 + ((sizeF xs : Nat) : Int) ≤ 6 := by omega
            clear hN0
            subst hc6
            have hcb := HCB.out wc.drew ((Below.refl _ _).drew)
            have q1 : IntKind.i64.wrap (6 + ((sizeF xs : Nat) : Int)) = 6 + ((sizeF xs : Nat) : Int) := IntWalk.i64_in _ (by omega)
            have q2 : (6 : Int) ≤ 6 + ((sizeF xs : Nat) : Int) := by omega
            have q3 : (6 + ((sizeF xs : Nat) : Int)).toNat = 6 + sizeF xs := by omega
            have q5 : 6 + sizeF xs - 6 = sizeF xs := by omega
            have q7 : (0 : Int) ≤ 6 + ((sizeF xs : Nat) : Int) := by omega
            generalize sizeF xs = N at *
            go_region_with (go_at_call 17; refine (HSEAL.out _ _ _ ((Below.refl _ _).drew) hR6.out).mono ?_; rintro e w1 ⟨A7, c7, rfl, hb7, hr7⟩; have hcb1 := HCB.out w1 hb7; have hcs1 := HCS.out w1 A7 c7 hr7)
            all_goals
              go_wp2_with fail
              go_meet
              case rel => exact ⟨congrArg Value.bool (by rw [← HEQ.out]), hb.trans (hb7.mono hbz)⟩
          · have hR6 := Lib.hid ((HD.out.drop (m := 6) (by omega)).take (m := sizeF xs) (by omega))
            have hcb := HCB.out wc.drew ((Below.refl _ _).drew)
            have q1 : IntKind.i64.wrap (6 + ((sizeF xs : Nat) : Int)) = 6 + ((sizeF xs : Nat) : Int) := IntWalk.i64_in _ (by omega)
            have q2 : (6 : Int) ≤ 6 + ((sizeF xs : Nat) : Int) := by omega
            have q3 : (6 + ((sizeF xs : Nat) : Int)).toNat = 6 + sizeF xs := by omega
            have q4 : 6 + ((sizeF xs : Nat) : Int) ≤ c := by omega
            have q5 : 6 + sizeF xs - 6 = sizeF xs := by omega
            have q6 : (6 : Int) ≤ c := by omega
            have q7 : (0 : Int) ≤ 6 + ((sizeF xs : Nat) : Int) := by omega
            generalize sizeF xs = N at *
            go_region_with (go_at_call 17; refine (HSEAL.out _ _ _ ((Below.refl _ _).drew) hR6.out).mono ?_; rintro e w1 ⟨A7, c7, rfl, hb7, hr7⟩; have hcb1 := HCB.out w1 hb7; have hcs1 := HCS.out w1 A7 c7 hr7)
            all_goals
              go_wp2_with fail
              go_meet
              case rel => exact ⟨congrArg Value.bool (by rw [← HEQ.out]), hb.trans (hb7.mono hbz)⟩
        case rest =>
          obtain ⟨rfl, hb2⟩ := hcut
          by_cases hsf : sumF xs = true
          · have HW : Hid (whyF xs = 0) := Lib.hid (by unfold whyF; rw [if_neg (by rw [HL.out]; omega), if_neg h1, HL.out, if_neg h2, if_pos hsf])
            rw [hsf]
            clear hsf HSUM HSEAL HCB HCS HEQ
            generalize hN : sizeF xs = N at *
            have HN := Lib.hid hN
            clear hN
            go_wp2_with fail
            go_ret2
            have hN := HN.out
            subst hN
            exact ⟨hb2, by rw [HW.out]; rfl⟩
          · have hsf' : sumF xs = false := by simpa using hsf
            have HW : Hid (whyF xs = 4) := Lib.hid (by unfold whyF; rw [if_neg (by rw [HL.out]; omega), if_neg h1, HL.out, if_neg h2, if_neg hsf])
            rw [hsf']
            clear hsf hsf' HSUM HSEAL HCB HCS HEQ
            generalize sizeF xs = N at *
            go_wp2_with fail
            go_ret2
            exact RefNextSaid.bad 4 HW.out (by omega) rfl hb2

theorem refNext_any (A : Option Addr) (n c : Nat) (xs : List Int) (w : World) (h : Rd w w.heap.size .u8 A n c xs) (hx : ∀ x ∈ xs, 0 ≤ x ∧ x < 256) (hn2 : n ≤ 1000000) :
    Calls Try.prog 18 #[.slice A n c] w (RefNextSaid w xs) := by
  by_cases hn : n < 6
  · exact refNext_short A n c xs w h hn
  · obtain ⟨b, o, rfl, _⟩ := h.cell (j := 0) (by omega)
    exact refNext_long b o n c xs w h hx (by omega) hn2
end Go.Proofs.Ytbdfhlgpbhcjcaa
