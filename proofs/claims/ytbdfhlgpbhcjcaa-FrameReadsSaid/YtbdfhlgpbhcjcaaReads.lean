/- What is proved here: 'FrameReads' returns true for any bytes, whatever the memory in which it is called, and nothing that was there has changed. -/
import Derived.Test.YtbdfhlgpbhcjcaaUsed
import Derived.Test.YtbdfhlgpbhcjcaaRefNext
namespace Go.Proofs.Ytbdfhlgpbhcjcaa
open Go Go.RowKit

/-- A slice's elements from one place to another. -/
theorem Rd.mid {w : World} {B : Nat} {k : IntKind} {b o n c : Nat} {xs : List Int} (h : Rd w B k (some ⟨b, o, none⟩) n c xs) {lo m : Nat} (hm : lo + m ≤ n) : Rd w B k (some ⟨b, o + lo, none⟩) m (c - lo) ((xs.drop lo).take m) := by
  have := (h.drop (m := lo) (by omega)).take (m := m) (by omega)
  exact this

set_option maxHeartbeats 3200000 in
set_option maxRecDepth 100000 in
theorem reads_short (A : Option Addr) (n c : Nat) (xs : List Int) (w : World) (h : Rd w w.heap.size .u8 A n c xs) (hx : ∀ x ∈ xs, 0 ≤ x ∧ x < 256) (hn : n ≤ 600) :
    Calls Try.prog 5 #[.slice A n c] w fun e w' => e = .returned (.bool true) ∧ Below w.heap.size w w' := by
  have h1 : ¬ ((600 : Int) < n) := by omega
  have hm := h.max
  have hc := h.cap
  unfold maxLen at hm
  have HX := Lib.hid hx
  have HL := Lib.hid h.len
  clear hx
  go_enter Try.func5, Try.ntmps5
  go_wp2_with fail
  refine (Next_any A n c xs w h HX.out (by omega)).mono ?_
  rintro e w1 ⟨hb1, hcase⟩
  obtain ⟨s3, s4, rfl, HCASE⟩ : ∃ s3 s4, e = .returned (.tuple #[s3, s4, .int .i64 (whyF xs)]) ∧ Hid ((whyF xs ≠ 0 ∧ s3 = .slice none 0 0 ∧ s4 = .slice none 0 0) ∨ (whyF xs = 0 ∧ 6 + sizeF xs ≤ n ∧ ∃ A1 c1 A2 c2, s3 = .slice A1 (sizeF xs) c1 ∧ s4 = .slice A2 (n - (6 + sizeF xs)) c2 ∧
      Rd w1 w1.heap.size .u8 A1 (sizeF xs) c1 ((xs.drop 6).take (sizeF xs)) ∧ Rd w1 w1.heap.size .u8 A2 (n - (6 + sizeF xs)) c2 (xs.drop (6 + sizeF xs)))) := by
    rcases hcase with ⟨hw, rfl⟩ | ⟨hw, hle, A1, c1, A2, c2, rfl, hr1, hr2⟩
    · exact ⟨_, _, rfl, Lib.hid (.inl ⟨hw, rfl, rfl⟩)⟩
    · rw [HL.out] at hle hr2
      exact ⟨_, _, by rw [hw, HL.out]; rfl, Lib.hid (.inr ⟨hw, hle, A1, c1, A2, c2, rfl, rfl, hr1, hr2⟩)⟩
  have hz1 := hb1.size
  clear hcase
  have HF := Lib.hid (refNext_any A n c xs w1 ((h.below hb1).more hz1) HX.out (by omega))
  go_wp2_with fail
  refine HF.out.mono ?_
  rintro e w2 ⟨hb2, rfl⟩
  have hb02 := hb1.trans (hb2.mono hz1)
  have hz02 := hb02.size
  clear HF
  generalize hN1 : (if whyF xs = 0 then 6 + sizeF xs else 0) = N1 at *
  have HN1 := Lib.hid hN1
  generalize her : whyF xs = er at *
  have HER := Lib.hid her
  clear hN1 her
  go_upto_region 5 with fail
  go_cut [69] (fun s69 wx => s69 = .bool false ∧ w2 = wx)
  case first =>
    rcases HCASE.out with ⟨hw, rfl, rfl⟩ | ⟨hw, hle, A1, c1, A2, c2, rfl, rfl, hr1, hr2⟩
    · have hwb : ((er : Int) == 0) = false := beq_eq_false_iff_ne.2 (by omega)
      have hwc : ((er : Int) != 0) = true := bne_iff_ne.2 (by omega)
      clear hw HCASE
      go_wp2_with fail
      go_meet
      case rel => exact ⟨rfl, rfl⟩
    · obtain ⟨b, o, rfl, _⟩ := h.cell (j := 0) (by omega)
      have hN1 := HN1.out
      subst hw
      rw [if_pos rfl] at hN1
      subst hN1
      have hr0 := h.below hb02
      have HE1 : Hid (∀ A6 m c6, m = sizeF xs → Rd w2 w.heap.size .u8 A6 m c6 ((xs.drop 6).take (sizeF xs)) → Calls Try.prog 16 #[.slice A1 m c1, .slice A6 m c6] w2 fun e w' => e = .returned (.bool true) ∧ w2 = w') := Lib.hid fun A6 m c6 hm h6 => by
        subst hm
        have := Equal_any A1 A6 (sizeF xs) c1 (sizeF xs) c6 _ _ _ _ w2 (hr1.below hb2) h6 (take_bytes (drop_bytes HX.out 6) _) (take_bytes (drop_bytes HX.out 6) _)
        rwa [decide_eq_true rfl] at this
      have HE2 : Hid (∀ A6 m c6, m = n - (6 + sizeF xs) → Rd w2 w.heap.size .u8 A6 m c6 (xs.drop (6 + sizeF xs)) → Calls Try.prog 16 #[.slice A2 (n - (6 + sizeF xs)) c2, .slice A6 m c6] w2 fun e w' => e = .returned (.bool true) ∧ w2 = w') := Lib.hid fun A6 m c6 hm h6 => by
        subst hm
        have := Equal_any A2 A6 (n - (6 + sizeF xs)) c2 (n - (6 + sizeF xs)) c6 _ _ _ _ w2 (hr2.below hb2) h6 (drop_bytes HX.out _) (drop_bytes HX.out _)
        rwa [decide_eq_true rfl] at this
      have HR0 := Lib.hid hr0
      clear hr0 hr1 hr2 HCASE HN1 HER
      generalize hN : sizeF xs = N at *
      have HN := Lib.hid hN
      clear hN
      generalize hM : n - (6 + N) = M at *
      have HM := Lib.hid hM
      clear hM
      by_cases c6 : c = 6
      · obtain rfl : N = 0 := by omega
        obtain rfl : n = 6 := by omega
        subst c6
        go_wp2_with fail
        refine (HE1.out _ _ _ rfl (Rd.empty _)).mono ?_
        rintro e w3 ⟨rfl, rfl⟩
        go_wp2_with fail
        refine (HE2.out _ _ _ (by have := HM.out; omega) (by rw [List.drop_of_length_le (by rw [HL.out]; omega)]; exact Rd.empty _)).mono ?_
        rintro e w3 ⟨rfl, rfl⟩
        go_wp2_with fail
        go_meet
        case rel => exact ⟨rfl, rfl⟩
      · have q4 : 6 + (N : Int) ≤ c := by omega
        by_cases c7 : c = 6 + N
        · obtain rfl : n = 6 + N := by omega
          subst c7
          go_wp2_with fail
          refine (HE1.out _ _ _ rfl (by have := HR0.out.mid (lo := 6) (m := N) (by omega); simpa using this)).mono ?_
          rintro e w3 ⟨rfl, rfl⟩
          go_wp2_with fail
          refine (HE2.out _ _ _ (by have := HM.out; omega) (by rw [List.drop_of_length_le (by rw [HL.out]; omega)]; exact Rd.empty _)).mono ?_
          rintro e w3 ⟨rfl, rfl⟩
          go_wp2_with fail
          go_meet
          case rel => exact ⟨rfl, rfl⟩
        · go_wp2_with fail
          refine (HE1.out _ _ _ rfl (HR0.out.mid (lo := 6) (m := N) (by omega))).mono ?_
          rintro e w3 ⟨rfl, rfl⟩
          go_wp2_with fail
          refine (HE2.out _ _ _ HM.out (HR0.out.drop (by omega))).mono ?_
          rintro e w3 ⟨rfl, rfl⟩
          go_wp2_with fail
          go_meet
          case rel => exact ⟨rfl, rfl⟩
  case rest =>
    obtain ⟨rfl, rfl⟩ := hcut
    have HA := Lib.hid (All_any A n c xs w2 ((h.below hb02).more hz02) HX.out (by omega))
    go_wp2_with fail
    refine HA.out.mono ?_
    rintro e w3 ⟨l, v, u, hch, hu, hlu, hstop, rfl, hown, hparts, hb3⟩
    obtain ⟨Av, cv, rfl, hcv1, hcv2⟩ := own_slice hown rfl
    unfold maxLen at hcv2
    have HOWN := Lib.hid hown
    have HPARTS := Lib.hid hparts
    have HSTOP := Lib.hid (stop_why HL.out hu hstop)
    have HCH := Lib.hid hch
    have hb03 := hb02.trans (hb3.mono hz02)
    have hz03 := hb03.size
    generalize hg : (if u = n then 0 else whyF (xs.drop u)) = gr at *
    have HG := Lib.hid hg
    generalize hLl : l.length = L at *
    have HLl := Lib.hid hLl
    clear hown hparts hstop hch HA hb1 hb2 hb3 hg hLl HCASE
    go_wp2_with fail
    go_loopw [11, 78] (fun s11 s78 wr => ∃ k p : Nat, s78 = .int .i64 k ∧ k ≤ L ∧ s11 = .int .i64 p ∧ p ≤ u ∧ Hid (Chain ((l.drop k).map Part.all) (xs.drop p) (u - p)) ∧ Below w3.heap.size w3 wr)
      (fun _ i _ => L - (intOf i).toNat)
    case atStart => exact ⟨0, 0, rfl, Nat.zero_le _, rfl, Nat.zero_le _, Lib.hid (by simpa using HCH.out), Below.refl _ _⟩
    case round =>
      obtain ⟨k, p, rfl, hk, rfl, hp, HCP, hb4⟩ := hrel
      have hz34 := hb4.size
      by_cases hkL : k < L
      · obtain ⟨q, hq⟩ : ∃ q, l[k]? = some q := ⟨_, List.getElem?_eq_getElem (by rw [HLl.out]; exact hkL)⟩
        have hdk : l.drop k = q :: l.drop (k + 1) := by
          have hk' : k < l.length := by rw [HLl.out]; exact hkL
          rw [List.drop_eq_getElem_cons hk']
          congr 1
          rw [List.getElem?_eq_getElem hk'] at hq
          exact Option.some.inj hq
        have hcp := HCP.out
        rw [hdk, List.map_cons] at hcp
        obtain ⟨hw, hqa, u', hu', hch'⟩ := hcp
        have hqm := List.mem_of_getElem? hq
        obtain ⟨gv, capv, hv, hgv1, hgv2, hcells⟩ := own_place HOWN.out (by omega)
        obtain ⟨rfl, rfl⟩ : Av = some ⟨gv, 0, none⟩ ∧ cv = capv := by simp only [Value.slice.injEq] at hv; exact ⟨hv.1, hv.2.2⟩
        have hcq := hcells k q.val (by rw [List.getElem?_map, hq]; rfl)
        rw [Addr.add_lit, Nat.zero_add] at hcq
        have hcq' := (hb4.cell (p := ⟨gv, k, none⟩) hgv2).trans hcq
        obtain ⟨Aq, cq, hqv, hrq⟩ := Rd.of_own (HPARTS.out q hqm)
        have hql : q.len = q.all.length := by have := (HPARTS.out q hqm).1; simpa using this.symm
        rw [hqv] at hcq'
        have hsz : q.len = sizeF (xs.drop p) := by
          obtain ⟨w1', w2', w3'⟩ := why_parts hw
          rw [List.length_drop] at w1'
          rw [hql, hqa, List.length_take, List.length_drop, List.length_drop]
          omega
        rw [hsz] at hcq' hrq
        rw [hqa] at hrq
        have hw6 := (why_parts hw).1
        rw [List.length_drop, HL.out] at hw6
        obtain ⟨b, o, rfl, _⟩ := h.cell (j := 0) (by omega)
        have hcp2 : ¬ (c = p) := by omega
        have hb04 := hb03.trans (hb4.mono hz03)
        have HF := Lib.hid (refNext_any (some ⟨b, o + p, none⟩) (n - p) (c - p) (xs.drop p) wr (((h.drop (m := p) (by omega)).below hb04).more hb04.size) (drop_bytes HX.out p) (by omega))
        have HRQ := Lib.hid hrq
        have HW := Lib.hid hw
        have HCH' := Lib.hid hch'
        clear hw hqa hqm hv hcells hcq hqv hql hsz hdk hq hch' hrq HCP
        generalize hNs : sizeF (xs.drop p) = N at *
        have HNS := Lib.hid hNs
        clear hNs
        go_wp2_with fail
        refine HF.out.mono ?_
        rintro e w5 ⟨hb5, rfl⟩
        rw [HW.out, if_pos rfl, HNS.out]
        have hb05 := hb04.trans (hb5.mono hb04.size)
        have hb35 : Below w3.heap.size w3 w5 := hb4.trans (hb5.mono hz34)
        have HE : Hid (∀ A6 m c6, m = N → Rd w5 w.heap.size .u8 A6 m c6 (((xs.drop p).drop 6).take N) → Calls Try.prog 16 #[.slice Aq N cq, .slice A6 m c6] w5 fun e w' => e = .returned (.bool true) ∧ w5 = w') := Lib.hid fun A6 m c6 hm h6 => by
          subst hm
          have := Equal_any Aq A6 m cq m c6 _ _ _ _ w5 (HRQ.out.below hb35) h6 (take_bytes (drop_bytes (drop_bytes HX.out p) 6) _) (take_bytes (drop_bytes (drop_bytes HX.out p) 6) _)
          rwa [decide_eq_true rfl] at this
        have HR5 := Lib.hid (h.below hb05)
        clear hb4 hb5 hcq' hb04 HF
        have r1 : p + (6 + N) - (p + 6) = N := by omega
        have r2 : (p : Int) + (6 + N) ≤ c := by omega
        go_upto_region 13 with fail
        go_cut [102] (fun s102 wx => s102 = .bool false ∧ w5 = wx)
        case first =>
          by_cases c6 : c = p + 6
          · subst c6
            go_wp2_with fail
            refine (HE.out _ _ _ (by omega) (by
              obtain rfl : N = 0 := by omega
              exact Rd.empty _)).mono ?_
            rintro e w6 ⟨rfl, rfl⟩
            go_wp2_with fail
            go_meet
            case rel => exact ⟨rfl, rfl⟩
          · go_wp2_with fail
            refine (HE.out _ _ _ (by omega) (by
              have := HR5.out.mid (lo := p + 6) (m := N) (by omega)
              rw [← List.drop_drop] at this
              exact this)).mono ?_
            rintro e w6 ⟨rfl, rfl⟩
            go_wp2_with fail
            go_meet
            case rel => exact ⟨rfl, rfl⟩
        case rest =>
          obtain ⟨rfl, rfl⟩ := hcut
          have HCH2 : Hid (Chain ((l.drop (k + 1)).map Part.all) (xs.drop (p + (6 + N))) (u - (p + (6 + N)))) := Lib.hid (by
            have := HCH'.out
            rw [List.drop_drop] at this
            rw [show u - (p + (6 + N)) = u' by omega]
            exact this)
          have hpu : p + (6 + N) ≤ u := by omega
          clear hu' HCH'
          go_wp2_with fail
          go_roundw
          case rel => exact ⟨k + 1, p + (6 + N), by go_num, by omega, by go_num, hpu, HCH2, hb35⟩
          case measure => simp [intOf]; omega
      · have hkL' : k = L := by omega
        have hcp := HCP.out
        rw [List.drop_of_length_le (by rw [HLl.out]; omega)] at hcp
        have hpu : u - p = 0 := hcp
        obtain rfl : p = u := by omega
        have hb04 := hb03.trans (hb4.mono hz03)
        clear hcp HCP hpu hz34
        by_cases hun : p = n
        · have hgr := HG.out
          rw [if_pos hun] at hgr
          subst hgr
          subst hun
          go_wp2_with fail
          refine (awake_any wr).mono ?_
          rintro e w5 ⟨rfl, hb5⟩
          go_wp2_with fail
          go_ret
          exact ⟨rfl, hb04.trans (hb5.mono hb04.size)⟩
        · have hgr := HG.out
          rw [if_neg hun] at hgr
          have hune : ((p : Int) == n) = false := beq_eq_false_iff_ne.2 (by omega)
          obtain ⟨b, o, rfl, _⟩ := h.cell (j := 0) (by omega)
          have hcp2 : ¬ (c = p) := by omega
          have HF := Lib.hid (refNext_any (some ⟨b, o + p, none⟩) (n - p) (c - p) (xs.drop p) wr (((h.drop (m := p) (by omega)).below hb04).more hb04.size) (drop_bytes HX.out p) (by omega))
          clear hun HG
          go_wp2_with fail
          refine HF.out.mono ?_
          rintro e w5 ⟨hb5, rfl⟩
          rw [hgr]
          have hgne : ((gr : Int) != 0) = true := bne_iff_ne.2 (by have := HSTOP.out; omega)
          have hb05 := hb04.trans (hb5.mono hb04.size)
          clear hgr HF hb5 hb04 hb4
          generalize (if gr = 0 then 6 + sizeF (xs.drop p) else 0) = n2 at *
          go_wp2_with fail
          refine (awake_any w5).mono ?_
          rintro e w6 ⟨rfl, hb6⟩
          go_wp2_with fail
          go_ret
          exact ⟨rfl, hb05.trans (hb6.mono hb05.size)⟩

set_option maxHeartbeats 400000 in
theorem reads_any (A : Option Addr) (n c : Nat) (xs : List Int) (w : World) (h : Rd w w.heap.size .u8 A n c xs) (hx : ∀ x ∈ xs, 0 ≤ x ∧ x < 256) :
    Calls Try.prog 5 #[.slice A n c] w fun e w' => e = .returned (.bool true) ∧ Below w.heap.size w w' := by
  by_cases hn : n ≤ 600
  · exact reads_short A n c xs w h hx hn
  · have h1 : ((600 : Int) < n) := by omega
    go_enter Try.func5, Try.ntmps5
    go_wp2_with (go_at_call 11; refine (awake_any w).mono ?_; rintro e w1 ⟨rfl, hb1⟩)
    go_ret
    exact ⟨rfl, hb1⟩
end Go.Proofs.Ytbdfhlgpbhcjcaa
