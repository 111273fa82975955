/- What is proved here: 'FrameRows' returns true for any rows of bytes and any place, whatever the memory in which it is called, and nothing that was there has changed. -/
import Derived.Test.YtbdfhlgpbhcjcaaRowsMath
namespace Go.Proofs.Ytbdfhlgpbhcjcaa
open Go Go.RowKit

/-- What came in as a slice of slices reads as a list of parts. -/
theorem RdS.of_rows {w : World} {a : Option Addr} {len cap : Nat}
    (h : (a = none ∧ len = 0 ∧ cap = 0) ∨ ∃ x, ∃ (A : Nat → Option Addr) (L C : Nat → Nat) (Z : Nat → List Int), a = some x ∧ len ≤ cap ∧ cap ≤ maxLen ∧ ∀ r, r < cap → w.cell? (x.add r) = some (.slice (A r) (L r) (C r)) ∧ L r ≤ C r ∧ C r ≤ maxLen ∧ (Z r).length = C r ∧
      (∀ n ∈ Z r, (Lit.int .u8 n).wf = true) ∧ (A r = none → C r = 0) ∧ ∀ a', A r = some a' → ∀ c, c < C r → w.cell? (a'.add c) = some (.int .u8 ((Z r).getD c 0))) : ∃ l, RdS w w.heap.size a len cap l := by
  rcases h with ⟨rfl, rfl, rfl⟩ | ⟨x, A, L, C, Z, rfl, hl, hm, hall⟩
  · exact ⟨[], rfl, Nat.le_refl _, Nat.zero_le _, fun j p hp => by simp at hp, fun p hp => by cases hp⟩
  · refine ⟨(List.range len).map fun r => ⟨A r, L r, C r, (Z r).take (L r)⟩, by simp, hl, hm, fun j p hp => ?_, fun p hp => ?_⟩
    · rw [List.getElem?_map] at hp
      obtain ⟨r, hr, rfl⟩ := Option.map_eq_some_iff.1 hp
      have hj : j < len := by
        have := (List.getElem?_eq_some_iff.1 hr).1
        simpa using this
      obtain rfl : j = r := by
        rw [List.getElem?_range hj] at hr
        exact Option.some.inj hr
      have h1 := (hall j (by omega)).1
      obtain ⟨b, o, spot⟩ := x
      have hspot : spot = none := by simpa [Addr.add] using World.cell?_spot (hall 0 (by omega)).1
      subst hspot
      rw [Addr.add_lit] at h1
      exact ⟨b, o, rfl, World.block_lt_of_cell? w _ h1, h1⟩
    · obtain ⟨r, hr, rfl⟩ := List.mem_map.1 hp
      have hr' : r < len := by simpa using hr
      obtain ⟨_, q2, q3, q4, q5, q6, q7⟩ := hall r (by omega)
      have hrow := Rd.of_row (w := w) (k := .u8) (a := A r) (len := L r) (cap := C r) (zs := Z r) (by
        rcases hA : A r with _ | a'
        · have := q6 hA
          exact .inl ⟨rfl, by omega, this, List.eq_nil_of_length_eq_zero (by omega)⟩
        · exact .inr ⟨a', rfl, q2, q3, q4, fun i hi => q7 a' hA i (by omega), q5⟩)
      exact ⟨hrow.1, wf_bytes hrow.2⟩

set_option maxHeartbeats 3200000 in
set_option maxRecDepth 100000 in
theorem rows_short (A : Option Addr) (n c : Nat) (ct : Int) (l : List Part) (w : World) (h : RdS w w.heap.size A n c l) (hn : n ≤ 20) (hc0 : 0 ≤ ct) (hc1 : ct < 256) :
    Calls Try.prog 7 #[.slice A n c, .int .u8 ct] w fun e w' => e = .returned (.bool true) ∧ Below w.heap.size w w' := by
  obtain ⟨i0, hi, hz0, hz1, hz2⟩ := info_parts info_u8
  have kc := fun (w : World) (C : Array Value) (n c : Nat) => Lib.run_convert_bytes_const (P := Try.prog) w 22 5 C n c Try.underlying22 Try.underlying5
  have h1 : ¬ ((20 : Int) < n) := by omega
  have hm := h.max
  have hc := h.cap
  unfold maxLen at hm
  have HL := Lib.hid h.len
  have HD := Lib.hid h
  have htorn : ∀ x ∈ ([116, 111, 114, 110] : List Int), 0 ≤ x ∧ x < 256 := by decide
  have HTN := Lib.hid htorn
  have HO0 := Lib.hid (fun (W : World) => World.ownsRow_lit (e := 5) (size := 1) W #[] 0 (Nat.le_refl _) (by decide) rfl)
  clear h htorn
  go_enter Try.func7, Try.ntmps7
  go_wp2_with fail
  go_loopw [5, 23] (fun v i wr => ∃ k N : Nat, i = .int .i64 k ∧ k ≤ n ∧ N ≤ 106 * k ∧ Hid (N = (allF (l.take k)).length) ∧ Hid (∀ p ∈ l.take k, p.len ≤ 100) ∧ wr.ownsRow w.heap.size 5 1 v N ((allF (l.take k)).map (Value.int .u8)) ∧ Below w.heap.size w wr)
    (fun _ i _ => n - (intOf i).toNat)
  case atStart => exact ⟨0, 0, rfl, Nat.zero_le _, Nat.zero_le _, Lib.hid rfl, Lib.hid (fun p hp => by cases hp), World.ownsRow_nil _ _ _ _, Below.refl _ _⟩
  case round =>
    obtain ⟨k, N, rfl, hk, hN, HNL, HP, hown, hb⟩ := hrel
    have hbz := hb.size
    by_cases hkn : k < n
    · obtain ⟨p, b, o, hp, hpm, rfl, hbB, hcell⟩ := HD.out.at hkn
      have hcell' := (hb.cell (p := ⟨b, o + k, none⟩) hbB).trans hcell
      obtain ⟨hrd, hby⟩ := HD.out.ok p hpm
      have htk : l.take (k + 1) = l.take k ++ [p] := by rw [List.take_add_one, hp]; rfl
      have HTK := Lib.hid htk
      obtain ⟨Ap, np, cp, xp⟩ := p
      simp only [Part.val] at hcell' hrd hby
      have hmp := hrd.max
      have hcpp := hrd.cap
      unfold maxLen at hmp
      have hr1 := (hrd.below hb).more hbz
      have HBY := Lib.hid hby
      have HPL := Lib.hid hrd.len
      clear hcell hrd hby hpm hp htk
      by_cases hp1 : np ≤ 100
      · have q1 : ¬ ((100 : Int) < np) := by omega
        have q1' : decide ((100 : Int) < np) = false := by simpa using q1
        go_wp2_with fail
        refine (Seal_any Ap np cp xp wr hr1 HBY.out (by omega)).mono ?_
        rintro e w1 ⟨v1, rfl, hown1, hb1⟩
        obtain ⟨A1, c1, rfl, hr2⟩ := Rd.of_own hown1
        have hown0 := own_below hown hb1
        have hbw1 := hb.trans (hb1.mono hbz)
        have hbz1 := hbw1.size
        have HSL : Hid ((List.map (Value.int .u8) (sealF xp)).length = (np + 6) * 1) := Lib.hid (by rw [List.length_map, sealF_length, HPL.out, Nat.mul_one])
        clear hown hown1 hr1 hb hb1
        go_wp2_with (at_builtin; refine wpList_append_src (o := ⟨some 47, _, _, _, _, _⟩) rfl _ _ 22 rfl w.heap.size 5 i0 _ 1 1 Try.underlying22 hi hz0 hz1 hz2 rfl (by omega) _ N _ rfl hown0 A1 (np + 6) c1 (List.map (Value.int .u8) (sealF xp)) rfl HSL.out hr2.nil hr2.news (ints_oneCell _ _) (by unfold maxLen; omega) (by omega) hbz1 ?_; intro v3 w3 hown3 hg3)
        have hb3 : Below w.heap.size w w3 := hbw1.grown hg3 hbz1 (fun k hk => (hown0.lt k hk).1)
        go_roundw
        case rel =>
          refine ⟨k + 1, N + (np + 6), by go_num, by omega, by omega, Lib.hid ?_, Lib.hid ?_, ?_, hb3⟩
          · rw [HTK.out, allF_snoc, List.length_append, ← HNL.out, sealF_length, HPL.out]
          · rw [HTK.out]
            intro p hp
            rcases List.mem_append.1 hp with hp | hp
            · exact HP.out p hp
            · simp at hp
              subst hp
              exact hp1
          · rw [HTK.out, allF_snoc, List.map_append]
            exact hown3
        case measure => simp [intOf]; omega
      · have q1 : ((100 : Int) < np) := by omega
        have q1' : decide ((100 : Int) < np) = true := by simpa using q1
        by_cases hp2 : np ≤ 4096
        · go_wp2_with fail
          refine (Seal_any Ap np cp xp wr hr1 HBY.out (by omega)).mono ?_
          rintro e w1 ⟨v1, rfl, hown1, hb1⟩
          have hbw1 := hb.trans (hb1.mono hbz)
          clear hown hown1 hr1 hb hb1
          go_wp2_with fail
          refine (awake_any w1).mono ?_
          rintro e w3 ⟨rfl, hb3⟩
          go_wp2_with fail
          go_ret
          exact ⟨rfl, hbw1.trans (hb3.mono hbw1.size)⟩
        · go_wp2_with fail
          refine (Seal_no Ap np cp xp _ wr hr1 (by omega)).mono ?_
          rintro e w1 ⟨rfl, rfl⟩
          clear hown hr1
          go_wp2_with fail
          refine (awake_any wr).mono ?_
          rintro e w3 ⟨rfl, hb3⟩
          go_wp2_with fail
          go_ret
          exact ⟨rfl, hb.trans (hb3.mono hbz)⟩
    · have hkn' : k = n := by omega
      subst hkn'
      have HTA : Hid (l.take k = l) := Lib.hid (List.take_of_length_le (by rw [HL.out]; exact Nat.le_refl _))
      rw [HTA.out] at HNL HP hown
      have hb4 : Below wr.heap.size wr (wr.alloc (.cells #[.int .u8 116, .int .u8 111, .int .u8 114, .int .u8 110] 5 (4, 5))) := (Below.refl _ _).alloc (Nat.le_refl _) _
      have hr4 := Rd.litF wr .u8 5 [116, 111, 114, 110] (4, 5) (by decide) 4 rfl #[.int .u8 116, .int .u8 111, .int .u8 114, .int .u8 110] rfl
      have HS := Lib.hid (Seal_any _ _ _ _ _ hr4 HTN.out (by decide))
      clear hr4
      go_wp2_with fail
      refine HS.out.mono ?_
      rintro e w1 ⟨v1, rfl, hown1, hb1⟩
      obtain ⟨A1, c1, rfl, hr1⟩ := Rd.of_own hown1
      have hown0 := own_below hown (hb4.trans (hb1.mono hb4.size))
      have hb01 := hb.trans ((hb4.trans (hb1.mono hb4.size)).mono hbz)
      clear hown hown1 HS hb4 hb1 hb
      go_upto_region 14 with fail
      obtain ⟨j, hj, hj10⟩ : ∃ j : Nat, ct % 10 = (j : Int) ∧ j < 10 := ⟨(ct % 10).toNat, by omega, by omega⟩
      have HJ := Lib.hid hj
      generalize ct % 10 = mny at *
      subst hj
      obtain ⟨Aa, ca, rfl, hra⟩ := Rd.of_own hown0
      have hac : ca ≤ maxLen := hra.max
      have hr1c := hr1.cap
      have hr1m := hr1.max
      unfold maxLen at hac hr1m
      have HAL : Hid ((List.map (Value.int .u8) (allF l)).length = N * 1) := Lib.hid (by rw [List.length_map, HNL.out, Nat.mul_one])
      have HTL : Hid ((List.map (Value.int .u8) ((sealF [116, 111, 114, 110]).take j)).length = j * 1) := Lib.hid (by rw [List.length_map, List.length_take, sealF_length, Nat.mul_one]; simp; omega)
      have hrt := hr1.take (m := j) (by omega)
      have HRA := Lib.hid hra
      have HRT := Lib.hid hrt
      have j1 : (0 : Int) ≤ j := by omega
      have j2 : (j : Int) ≤ c1 := by omega
      clear hown0 hra hr1 hrt
      obtain ⟨er, HER⟩ : ∃ er : Nat, Hid ((if j = 0 then 0 else 3) = er) := ⟨_, Lib.hid rfl⟩
      have HALLX : Hid (∀ V A3 c3, Rd V V.heap.size .u8 A3 (N + j) c3 (allF l ++ (sealF [116, 111, 114, 110]).take j) → Below w1.heap.size w1 V → Calls Try.prog 19 #[.slice A3 (N + j) c3] V fun e w' => ∃ Av cv, ∃ l2 : List Part, e = .returned (.tuple #[.slice Av k cv, .int .i64 N, .int .i64 (er : Nat)]) ∧ Below w1.heap.size w1 w' ∧
          l2.map Part.all = l.map Part.all ∧ w'.ownsRow w1.heap.size 22 1 (.slice Av k cv) k (l2.map Part.val) ∧ ∀ p ∈ l2, w'.ownsRow w1.heap.size 5 1 p.val p.len (p.all.map (Value.int .u8))) := Lib.hid fun V A3 c3 hr hV => by
        have hlen : ∀ p ∈ l, p.all.length ≤ 4096 ∧ ∀ x ∈ p.all, 0 ≤ x ∧ x < 256 := fun p hp => ⟨by have := (HD.out.ok p hp).1.len; have := HP.out p hp; omega, (HD.out.ok p hp).2⟩
        have hch := allF_chain l ((sealF [116, 111, 114, 110]).take j) hlen
        have hXb : ∀ x ∈ allF l ++ (sealF [116, 111, 114, 110]).take j, 0 ≤ x ∧ x < 256 := bytes_app (allF_bytes fun p hp => (hlen p hp).2) (take_bytes (sealF_bytes HTN.out) j)
        have htj : ((sealF [116, 111, 114, 110]).take j).length = j := by rw [List.length_take, sealF_length]; simp; omega
        have hdrop : (allF l ++ (sealF [116, 111, 114, 110]).take j).drop N = (sealF [116, 111, 114, 110]).take j := drop_app HNL.out.symm
        have hwj : whyF ((sealF [116, 111, 114, 110]).take j) = 3 := cut_why' (by decide) (by simpa using hj10)
        refine (All_any A3 (N + j) c3 _ V hr hXb (by omega)).mono ?_
        rintro e w' ⟨l2, v, u, hch2, hu, _, hstop, rfl, hown, hparts, hb⟩
        rw [← HNL.out] at hch
        obtain ⟨e1, rfl⟩ := Chain.only _ _ _ _ _ hch hch2 (by rw [hdrop, hwj]; omega) (stop_why (n := N + j) (by rw [List.length_append, htj, ← HNL.out]) hu hstop)
        have hl2 : l2.length = k := by
          have := congrArg List.length e1
          rw [List.length_map, List.length_map, HL.out] at this
          exact this.symm
        rw [hl2] at hown
        obtain ⟨Av, cv, rfl, _, _⟩ := own_slice hown rfl
        refine ⟨Av, cv, l2, ?_, hV.trans (hb.mono hV.size), e1.symm, own_base hown hV.size, fun p hp => own_base (hparts p hp) hV.size⟩
        have her := HER.out
        by_cases hj0 : j = 0
        · rw [if_pos hj0] at her
          rw [if_pos (by omega), her]
        · rw [if_neg hj0] at her
          rw [if_neg (by omega), hdrop, hwj, her]
      go_cut [13, 14, 15] (fun s13 s14 s15 wx => ∃ Av cv, s13 = .slice Av k cv ∧ s14 = .int .i64 N ∧ s15 = .int .i64 (er : Nat) ∧ Below w.heap.size w wx ∧ ∃ l2 : List Part, Hid (l2.map Part.all = l.map Part.all) ∧ Hid (wx.ownsRow w1.heap.size 22 1 (.slice Av k cv) k (l2.map Part.val)) ∧ Hid (∀ p ∈ l2, wx.ownsRow w1.heap.size 5 1 p.val p.len (p.all.map (Value.int .u8))))
      case first =>
        go_region_law (first
          | (refine step_append_src (o := ⟨some 64, _, _, _, _, _⟩) rfl (.tmp 62) (.tmp 63) 22 rfl w1.heap.size 5 i0 _ 1 1 Try.underlying22 hi hz0 hz1 hz2 rfl (by omega) _ 0 [] rfl (HO0.out w1).drew Aa N ca (List.map (Value.int .u8) (allF l)) rfl HAL.out HRA.out.nil (HRA.out.alloc (Nat.le_refl _) _).news (ints_oneCell _ _) (by unfold maxLen; omega) (by omega) (by simp) ?_; intro v2 w2 hown2 hg2; have hb2 : Below w1.heap.size w1 w2 := (((Below.refl w1.heap.size w1).alloc (Nat.le_refl _) _).drew).grown hg2 (by simp) (fun k hk => ((HO0.out w1).lt k hk).1); have hrt2 := HRT.out.below hb2; have hz2' := hb2.size)
          | (refine step_append_src (o := ⟨some 68, _, _, _, _, _⟩) rfl (.tmp 64) (.tmp 67) 22 rfl w1.heap.size 5 i0 _ 1 1 Try.underlying22 hi hz0 hz1 hz2 rfl (by omega) _ (0 + N) ([] ++ List.map (Value.int .u8) (allF l)) rfl hown2 A1 j c1 (List.map (Value.int .u8) ((sealF [116, 111, 114, 110]).take j)) rfl HTL.out hrt2.nil hrt2.news (ints_oneCell _ _) (by unfold maxLen; omega) (by omega) hz2' ?_; intro v3 w3 hown3 hg3; have hb3 : Below w1.heap.size w1 w3 := hb2.grown hg3 hz2' (fun k hk => (hown2.lt k hk).1); obtain ⟨A3, c3, rfl, hr3⟩ := Rd.of_own (n := N + j) (xs := allF l ++ (sealF [116, 111, 114, 110]).take j) (k := .u8) (by simpa using hown3); clear hown3 hown2 hg3 hg2 hrt2)
          | (go_simp; go_at_call 19; refine (HALLX.out w3 A3 c3 hr3 hb3).mono ?_; rintro e w4 ⟨Av, cv, l2, rfl, hb4, hm4, ho4, hp4⟩))
        all_goals
          go_wp2_with fail
          go_meet
          case rel => exact ⟨Av, cv, rfl, rfl, rfl, hb01.trans (hb4.mono hb01.size), l2, Lib.hid hm4, Lib.hid ho4, Lib.hid hp4⟩
      case rest =>
        obtain ⟨Av, cv, rfl, rfl, rfl, hb2, l2, HM, HO, HPO⟩ := hcut
        have hfe : ((er : Int) == 0) = ((j : Int) == 0) := by
          have her := HER.out
          by_cases hj0 : j = 0
          · subst hj0; rw [if_pos rfl] at her; subst her; rfl
          · rw [if_neg hj0] at her
            rw [beq_eq_false_iff_ne.2 (by omega), beq_eq_false_iff_ne.2 (by omega)]
        generalize hfj : ((j : Int) == 0) = fb at *
        go_wp2_with fail
        go_loopw [93] (fun i wr => ∃ q : Nat, i = .int .i64 q ∧ q ≤ k ∧ Below wc.heap.size wc wr)
          (fun i _ => k - (intOf i).toNat)
        case atStart => exact ⟨0, rfl, Nat.zero_le _, Below.refl _ _⟩
        case round =>
          obtain ⟨q, rfl, hq, hb3⟩ := hrel
          have hz2 := hb2.size
          have hbw := hb2.trans (hb3.mono hz2)
          by_cases hqk : q < k
          · obtain ⟨p, b, o, hp, hpm, rfl, hbB, hcell⟩ := HD.out.at hqk
            have hcell' := (hbw.cell (p := ⟨b, o + q, none⟩) hbB).trans hcell
            obtain ⟨hrd, hby⟩ := HD.out.ok p hpm
            obtain ⟨gv, capv, hv, hgv1, hgv2, hcells⟩ := own_place HO.out (by omega)
            obtain ⟨rfl, rfl⟩ : Av = some ⟨gv, 0, none⟩ ∧ cv = capv := by simp only [Value.slice.injEq] at hv; exact ⟨hv.1, hv.2.2⟩
            obtain ⟨p2, hp2⟩ : ∃ p2, l2[q]? = some p2 := by
              have h2 : q < l2.length := by
                have := congrArg List.length HM.out
                rw [List.length_map, List.length_map, HL.out] at this
                omega
              exact ⟨_, List.getElem?_eq_getElem h2⟩
            have hpe : p2.all = p.all := by
              have := congrArg (fun L : List (List Int) => L[q]?) HM.out
              simp only [List.getElem?_map, hp, hp2, Option.map_some, Option.some.injEq] at this
              exact this
            have hc2 := hcells q p2.val (by rw [List.getElem?_map, hp2]; rfl)
            rw [Addr.add_lit, Nat.zero_add] at hc2
            have hc2' := (hb3.cell (p := ⟨gv, q, none⟩) hgv2).trans hc2
            obtain ⟨Aq, cq, hqv, hrq⟩ := Rd.of_own (HPO.out p2 (List.mem_of_getElem? hp2))
            rw [hqv] at hc2'
            rw [hpe] at hrq
            obtain ⟨Ap, np, cp, xp⟩ := p
            simp only [Part.val] at hcell' hrd hby hrq
            have hq2 : (q : Int) < k := by omega
            have hcap1 : k ≤ cv := by
              rcases HO.out.2 with ⟨h', _⟩ | ⟨g', cap', cur, h', _, _, hnc, _⟩
              · cases h'
              · simp only [Value.slice.injEq] at h'
                omega
            have HE : Hid (∀ V, Below wr.heap.size wr V → Calls Try.prog 16 #[.slice Aq p2.len cq, .slice Ap np cp] V fun e w' => e = .returned (.bool true) ∧ V = w') := Lib.hid fun V hV => by
              have := Equal_any Aq Ap p2.len cq np cp _ _ xp xp V (hrq.below (hb3.trans (hV.mono hb3.size))) (hrd.below (hbw.trans (hV.mono hbw.size))) hby hby
              rwa [decide_eq_true rfl] at this
            clear hcell hv hcells hc2 hp hpm hp2 hpe hqv hrq hrd hby
            go_upto_region 20 with fail
            go_quiet ((go_at_call 16; exact Calls.quiet_of_same ((HE.out _ (below_drewN (Below.refl _ _) _)).mono fun e w' hh => ⟨hh.1, hh.2.symm⟩)))
            go_wp2_with fail
            go_roundw
            case rel => exact ⟨q + 1, by go_num, by omega, below_drewN hb3 _⟩
            case measure => simp [intOf]; omega
          · have hqk' : ¬ (q : Int) < k := by omega
            go_wp2_with fail
            refine (awake_any wr).mono ?_
            rintro e w5 ⟨rfl, hb5⟩
            go_wp2_with fail
            go_ret
            exact ⟨rfl, hbw.trans (hb5.mono hbw.size)⟩

set_option maxHeartbeats 400000 in
theorem rows_any (A : Option Addr) (n c : Nat) (ct : Int) (l : List Part) (w : World) (h : RdS w w.heap.size A n c l) (hc0 : 0 ≤ ct) (hc1 : ct < 256) :
    Calls Try.prog 7 #[.slice A n c, .int .u8 ct] w fun e w' => e = .returned (.bool true) ∧ Below w.heap.size w w' := by
  by_cases hn : n ≤ 20
  · exact rows_short A n c ct l w h hn hc0 hc1
  · have h1 : ((20 : Int) < n) := by omega
    have hm := h.max
    have hc := h.cap
    unfold maxLen at hm
    clear h
    go_enter Try.func7, Try.ntmps7
    go_wp2_with (go_at_call 11; refine (awake_any w).mono ?_; rintro e w1 ⟨rfl, hb1⟩)
    go_ret
    exact ⟨rfl, hb1⟩
end Go.Proofs.Ytbdfhlgpbhcjcaa
