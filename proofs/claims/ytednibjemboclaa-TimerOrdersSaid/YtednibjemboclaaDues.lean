/- What is proved here: that what is due at one time, and then at a later one, is what is due at the later one at once (TimerDue). -/
import Derived.Test.YtednibjemboclaaArgs
namespace Go.Proofs.Ytednibjemboclaa
open Go Go.RowKit Go.Maps

/-- All are set, one behind the other. -/
def setAll (L : List It) : List It := L.foldl setR []
theorem setAll_snoc (L : List It) (x : It) : setAll (L ++ [x]) = setR (setAll L) x := by simp [setAll]
theorem setAll_nil : setAll [] = [] := rfl
theorem length_setR (R : List It) (x : It) : (setR R x).length ≤ R.length + 1 := by
  unfold setR
  rw [length_insR]
  have : (dropR R x.1).length ≤ R.length := List.length_filter_le _ _
  omega
theorem fold_ord : ∀ (L : List It) {R : List It}, Ord R → Ord (L.foldl setR R)
  | [], _, h => h
  | x :: r, _, h => fold_ord r (h.set x)
theorem setAll_ord (L : List It) : Ord (setAll L) := fold_ord L ord_nil
theorem fold_len : ∀ (L : List It) (R : List It), (L.foldl setR R).length ≤ R.length + L.length
  | [], R => by simp
  | x :: r, R => by
    have h1 := fold_len r (setR R x)
    have h2 := length_setR R x
    simp only [List.foldl_cons, List.length_cons]
    omega
theorem setAll_len (L : List It) : (setAll L).length ≤ L.length := by
  have := fold_len L []
  simpa [setAll] using this
theorem setAll_take {L : List It} {k : Nat} (hk : k < L.length) : setAll (L.take (k + 1)) = setR (setAll (L.take k)) (g L k) := by rw [take_g hk, setAll_snoc]
theorem due_split {R : List It} {now later : Int} (h : now ≤ later) : dueN R now + dueN (R.drop (dueN R now)) later = dueN R later := by
  have h1 : dueN R now ≤ dueN R later := by
    rcases Nat.lt_or_ge (dueN R later) (dueN R now) with h2 | h2
    · have h3 := dueN_lt h2
      have h4 := dueN_at (R := R) (now := later) (by have := dueN_le R now; omega)
      omega
    · exact h2
  have hg : ∀ j, g (R.drop (dueN R now)) j = g R (dueN R now + j) := fun j => by
    unfold g
    rw [List.getD_eq_getElem?_getD, List.getD_eq_getElem?_getD, List.getElem?_drop]
  have h5 : dueN (R.drop (dueN R now)) later = dueN R later - dueN R now := by
    refine dueN_eq ?_ (fun j hj => ?_) fun hlt => ?_
    · have := dueN_le R later
      rw [List.length_drop]
      omega
    · rw [hg]
      exact dueN_lt (by omega)
    · rw [hg, show dueN R now + (dueN R later - dueN R now) = dueN R later by omega]
      rw [List.length_drop] at hlt
      exact dueN_at (by omega)
  omega
theorem take_split (R : List It) (a b : Nat) : R.take a ++ (R.drop a).take b = R.take (a + b) := by rw [List.take_add]

/-- A thing that came in, in a later world. -/
theorem IRd.there {w0 w : World} {A : Option Addr} {n c : Nat} {L : List It} (h : IRd w0 (fun k => k < w0.heap.size) A n c L) (hb : Below w0.heap.size w0 w) {j : Nat} (hj : j < n) :
    ∃ b o, A = some ⟨b, o, none⟩ ∧ w.cell? ⟨b, o + j * 2, none⟩ = some (.int .i64 (g L j).1) ∧ w.cell? ⟨b, o + j * 2 + 1, none⟩ = some (.int .i64 (g L j).2) := by
  obtain ⟨b, o, e, h1, _, h3, h4⟩ := h.place j hj
  exact ⟨b, o, e, (hb.cell (p := ⟨b, o + j * 2, none⟩) h1).trans h3, (hb.cell (p := ⟨b, o + j * 2 + 1, none⟩) h1).trans h4⟩
theorem IRd.own_cells {w : World} {base e n c : Nat} {A : Option Addr} {L : List It} (h : w.ownsRow base e 2 (.slice A n c) n (flat L)) : ∀ ad, A = some ad → ∀ j u, (flat L)[j]? = some u → w.cell? (ad.add j) = some u := fun ad had j u hu => by
  rcases h.2 with ⟨e1, _⟩ | ⟨gb, cap, cur, e1, _, _⟩
  · rw [had] at e1
    cases e1
  · have e2 : A = some ⟨gb, 0, none⟩ := (Value.slice.inj e1).1
    subst e2
    cases had
    exact h.cells (g := gb) rfl j u hu
theorem flat_one_cell (L : List It) : ∀ u ∈ flat L, u.oneCell' = true := fun u hu => by
  unfold flat at hu
  obtain ⟨y, _, hy⟩ := List.mem_flatMap.1 hu
  exact one_cell2 _ _ u hy
theorem own_nil {w : World} {base e n c : Nat} {A : Option Addr} {xs : List Value} (h : w.ownsRow base e 2 (.slice A n c) n xs) : A = none → n = 0 ∧ c = 0 := fun hA => by
  rcases h.2 with ⟨e1, h1⟩ | ⟨gb, cap, cur, e1, _, _⟩
  · exact ⟨h1, (Value.slice.inj e1).2.2⟩
  · have e2 : A = some ⟨gb, 0, none⟩ := (Value.slice.inj e1).1
    rw [hA] at e2
    cases e2

set_option maxHeartbeats 3200000 in
set_option maxRecDepth 100000 in
theorem timerDue_any {w : World} {A : Option Addr} {n c : Nat} {l : List (List Int)} (hk : KRd w 2 A n c l) (now later : Int) :
    Calls Try.prog 7 #[.slice A n c, .int .i64 now, .int .i64 later] w fun e w' => e = .returned (.bool true) ∧ Below w.heap.size w w' := by
  obtain ⟨hI, hwf⟩ := hk.items
  generalize items l = L at *
  have HAW := Lib.hid fun W => awake_any W
  have hcm := hI.max
  have hcc := hI.cap
  unfold maxLen at hcm
  have HI := Lib.hid hI
  have HL := Lib.hid hI.len
  have HWF := Lib.hid hwf
  have HN := Lib.hid (New_any w)
  clear hk hI hwf
  by_cases h80 : 80 < n
  · have h80' : (80 : Int) < n := by omega
    have hd : decide ((80 : Int) < (n : Int)) = true := decide_eq_true h80'
    go_enter Try.func7, Try.ntmps7
    go_wp2_with (go_at_call 9; refine (HAW.out _).mono ?_; rintro e w1 ⟨rfl, hb⟩; have HB := Lib.hid hb; clear hb)
    go_ret
    exact ⟨rfl, HB.out⟩
  · have h80' : ¬ (80 : Int) < n := by omega
    have hd : decide ((80 : Int) < (n : Int)) = false := decide_eq_false h80'
    by_cases hln : later < now
    · have hd2 : decide (later < now) = true := decide_eq_true hln
      go_enter Try.func7, Try.ntmps7
      go_wp2_with (go_at_call 9; refine (HAW.out _).mono ?_; rintro e w1 ⟨rfl, hb⟩; have HB := Lib.hid hb; clear hb)
      go_ret
      exact ⟨rfl, HB.out⟩
    · have hd2 : decide (later < now) = false := decide_eq_false hln
      go_enter Try.func7, Try.ntmps7
      go_wp2_with (go_at_call 10; refine HN.out.mono ?_; rintro e w1 ⟨rfl, hb, _, ht⟩; have HT0 := Lib.hid (Tm.new (Below.refl _ _) hb ht); clear hb ht)
      generalize w.heap.size + 1 = t at *
      clear HN
      go_loopw [28] (fun i wr => ∃ k : Nat, i = .int .i64 k ∧ k ≤ n ∧ Hid (Tm w wr t (setAll (L.take k)))) (fun i _ => n - (intOf i).toNat)
      case atStart => exact ⟨0, rfl, Nat.zero_le _, HT0⟩
      case round =>
        clear HT0
        obtain ⟨k, rfl, hkn, HT⟩ := hrel
        by_cases hlt : k < n
        · obtain ⟨b, o, hA, r0, r1⟩ := HI.out.there HT.out.2 hlt
          subst hA
          have hlt' : (k : Int) < n := by omega
          have hkL : k < L.length := by rw [HL.out]; exact hlt
          have hlen : (setAll (L.take k)).length < 900000 := by
            have := setAll_len (L.take k)
            rw [List.length_take] at this
            omega
          have HS : Hid (∀ V, Below wr.heap.size wr V → Calls Try.prog 11 #[.pointer (some ⟨t, 0, none⟩), .int .i64 (g L k).1, .int .i64 (g L k).2] V fun e w' => e = .returned (.tuple #[]) ∧ Hid (Tm w w' t (setAll (L.take (k + 1))))) := Lib.hid fun V hV => by
            rw [setAll_take hkL]
            exact (HT.out.later hV).set hlen _ (HWF.out _ (g_mem hkL)).1
          clear hlen
          generalize g L k = x at *
          go_wp2_with (go_at_call 11; refine (HS.out _ (by first | exact (Below.refl _ _).alloc (Nat.le_refl _) _ | exact (((Below.refl _ _).alloc (Nat.le_refl _) _).setCell (Nat.le_refl _) _).setCell (Nat.le_refl _) _)).mono ?_; rintro e w2 ⟨rfl, HT2⟩)
          go_roundw
          case rel => exact ⟨k + 1, by go_num, by omega, HT2⟩
          case measure => simp [intOf]; omega
        · obtain rfl : k = n := by omega
          obtain ⟨R, hR⟩ : ∃ R, R = setAll L := ⟨_, rfl⟩
          have HTR : Hid (Tm w wr t R) := Lib.hid (by
            have := HT.out
            rwa [List.take_of_length_le (by rw [HL.out]; exact Nat.le_refl _), ← hR] at this)
          have HO : Hid (Ord R) := Lib.hid (by rw [hR]; exact setAll_ord L)
          have hRl : R.length < 900000 := by
            have := setAll_len L
            rw [hR]
            have := HL.out
            omega
          have HCP := Lib.hid (HTR.out.copy hRl)
          clear HT hR
          go_upto_region 14 with (go_at_call 18; refine HCP.out.mono ?_; rintro e w1 ⟨c', rfl, HTW⟩)
          clear HCP HTR
          have HCH : Hid (∃ Φ Ψ : Nat → Prop, (∀ k, Φ k → w.heap.size ≤ k ∧ k < w1.heap.size) ∧ (∀ k, Ψ k → w.heap.size ≤ k ∧ k < w1.heap.size) ∧ (∀ k, Φ k → ¬ Ψ k) ∧ TimerAt w1 t R Φ ∧ TimerAt w1 c' R Ψ ∧ Below w.heap.size w w1) := Lib.hid (by
            obtain ⟨Φ, Ψ, p1, p2, p3, p4, p5, p6⟩ := HTW.out
            exact ⟨fun k => Φ k ∧ k < w1.heap.size, fun k => Ψ k ∧ k < w1.heap.size, fun k hk => ⟨p1 k hk.1, hk.2⟩, fun k hk => ⟨p2 k hk.1, hk.2⟩, fun k hk hk2 => p3 k hk.1 hk2.1, p4.mono fun k hk hp => ⟨hp, hk⟩, p5.mono fun k hk hp => ⟨hp, hk⟩, p6⟩)
          obtain ⟨Φ, Ψ, hc⟩ := HCH.out
          have HC := Lib.hid hc
          clear hc HCH HTW
          obtain ⟨d1, hd1⟩ : ∃ d1, d1 = dueN R now := ⟨_, rfl⟩
          obtain ⟨d2, hd2⟩ : ∃ d2, d2 = dueN (R.drop d1) later := ⟨_, rfl⟩
          obtain ⟨d3, hd3⟩ : ∃ d3, d3 = dueN R later := ⟨_, rfl⟩
          have HSP : Hid (d1 + d2 = d3 ∧ d3 ≤ R.length) := Lib.hid (by
            rw [hd2, hd1, hd3]
            exact ⟨due_split (by omega), dueN_le _ _⟩)
          have hd12 : d1 < 900000 ∧ d2 < 900000 ∧ d3 < 900000 := by have := HSP.out; omega
          have HD1 : Hid (Calls Try.prog 17 #[.pointer (some ⟨t, 0, none⟩), .int .i64 now] w1 fun e w2 => ∃ A1 n1, e = .returned (.slice A1 d1 n1) ∧ Hid (w2.ownsRow w1.heap.size 41 2 (.slice A1 d1 n1) d1 (flat (R.take d1)) ∧ TimerAt w2 t (R.drop d1) Φ ∧ TimerAt w2 c' R Ψ ∧ Below w.heap.size w w2 ∧ w1.heap.size ≤ w2.heap.size)) := Lib.hid (by
            obtain ⟨p1, p2, p3, p4, p5, p6⟩ := HC.out
            refine (Due_any p4 hRl now).mono ?_
            unfold DueSaid
            rw [← hd1]
            rintro e w2 ⟨v, rfl, hr, ht, hcg⟩
            obtain ⟨A1, n1, rfl, _⟩ := own_isSlice hr
            exact ⟨A1, n1, rfl, Lib.hid ⟨hr, ht, p5.keep hcg fun k hk hp => p3 k hp hk, p6.trans (hcg.below p6.size fun i hi => (p1 i hi).1), hcg.size⟩⟩)
          have HD2 : Hid (∀ A1 n1 w2, (w2.ownsRow w1.heap.size 41 2 (.slice A1 d1 n1) d1 (flat (R.take d1)) ∧ TimerAt w2 t (R.drop d1) Φ ∧ TimerAt w2 c' R Ψ ∧ Below w.heap.size w w2 ∧ w1.heap.size ≤ w2.heap.size) →
              Calls Try.prog 17 #[.pointer (some ⟨t, 0, none⟩), .int .i64 later] w2 fun e w3 => ∃ A2 n2, e = .returned (.slice A2 d2 n2) ∧ Hid (w3.ownsRow w1.heap.size 41 2 (.slice A1 d1 n1) d1 (flat (R.take d1)) ∧ w3.ownsRow w2.heap.size 41 2 (.slice A2 d2 n2) d2 (flat ((R.drop d1).take d2)) ∧ TimerAt w3 t ((R.drop d1).drop d2) Φ ∧ TimerAt w3 c' R Ψ ∧ Below w.heap.size w w3 ∧ w1.heap.size ≤ w3.heap.size)) := Lib.hid fun A1 n1 w2 ⟨q1, q2, q3, q4, q5⟩ => by
            obtain ⟨p1, p2, p3, p4, p5, p6⟩ := HC.out
            refine (Due_any q2 (by rw [List.length_drop]; omega) later).mono ?_
            unfold DueSaid
            rw [← hd2]
            rintro e w3 ⟨v, rfl, hr, ht, hcg⟩
            obtain ⟨A2, n2, rfl, _⟩ := own_isSlice hr
            refine ⟨A2, n2, rfl, Lib.hid ⟨hcg.own q1 fun g hg hp => ?_, hr, ht, q3.keep hcg fun k hk hp => p3 k hp hk, q4.trans (hcg.below q4.size fun i hi => (p1 i hi).1), Nat.le_trans q5 hcg.size⟩⟩
            have h1 := (q1.lt g hg).1
            have h2 := (p1 g hp).2
            omega
          have HAP : Hid (∀ A1 n1 w3 v4 w4, (w3.ownsRow w1.heap.size 41 2 (.slice A1 d1 n1) d1 (flat (R.take d1)) ∧ TimerAt w3 t ((R.drop d1).drop d2) Φ ∧ TimerAt w3 c' R Ψ ∧ Below w.heap.size w w3 ∧ w1.heap.size ≤ w3.heap.size) →
              w4.ownsRow w1.heap.size 41 2 v4 (d1 + d2) (flat (R.take d1) ++ flat ((R.drop d1).take d2)) → w3.grownBy w4 (Value.slice A1 d1 n1).ownBlock →
              ∃ A4 n4, v4 = .slice A4 d3 n4 ∧ Hid (w4.ownsRow w1.heap.size 41 2 (.slice A4 d3 n4) d3 (flat (R.take d3)) ∧ TimerAt w4 t (R.drop d3) Φ ∧ TimerAt w4 c' R Ψ ∧ Below w.heap.size w w4 ∧ w1.heap.size ≤ w4.heap.size)) := Lib.hid fun A1 n1 w3 v4 w4 ⟨q1, q2, q3, q4, q5⟩ ho hg => by
            obtain ⟨p1, p2, p3, p4, p5, p6⟩ := HC.out
            rw [← flat_append, take_split, HSP.out.1] at ho
            rw [List.drop_drop, HSP.out.1] at q2
            obtain ⟨A4, n4, rfl, _⟩ := own_isSlice ho
            have hcg := Chg.of_grown hg
            have hb : ∀ i, some i = (Value.slice A1 d1 n1).ownBlock → w1.heap.size ≤ i := fun i hi => (q1.lt i hi.symm).1
            exact ⟨A4, n4, rfl, Lib.hid ⟨ho, q2.keep hcg fun k hk hp => by have := (p1 k hk).2; have := hb k hp.symm; omega, q3.keep hcg fun k hk hp => by have := (p2 k hk).2; have := hb k hp.symm; omega, q4.trans (hcg.below q4.size fun i hi => by have := hb i hi.symm; have := p6.size; omega), Nat.le_trans q5 hcg.size⟩⟩
          have HD3 : Hid (∀ A4 n4 w4, (w4.ownsRow w1.heap.size 41 2 (.slice A4 d3 n4) d3 (flat (R.take d3)) ∧ TimerAt w4 t (R.drop d3) Φ ∧ TimerAt w4 c' R Ψ ∧ Below w.heap.size w w4 ∧ w1.heap.size ≤ w4.heap.size) →
              Calls Try.prog 17 #[.pointer (some ⟨c', 0, none⟩), .int .i64 later] w4 fun e w5 => ∃ A5 n5, e = .returned (.slice A5 d3 n5) ∧ Hid (IRd w5 (fun _ => True) A4 d3 n4 (R.take d3) ∧ IRd w5 (fun _ => True) A5 d3 n5 (R.take d3) ∧ TimerAt w5 t (R.drop d3) Φ ∧ TimerAt w5 c' (R.drop d3) Ψ ∧ Below w.heap.size w w5)) := Lib.hid fun A4 n4 w4 ⟨q1, q2, q3, q4, q5⟩ => by
            obtain ⟨p1, p2, p3, p4, p5, p6⟩ := HC.out
            refine (Due_any q3 hRl later).mono ?_
            unfold DueSaid
            rw [← hd3]
            rintro e w5 ⟨v, rfl, hr, ht, hcg⟩
            obtain ⟨A5, n5, rfl, _⟩ := own_isSlice hr
            refine ⟨A5, n5, rfl, Lib.hid ⟨IRd.of_slice (hcg.own q1 fun g hg hp => ?_) fun _ _ => trivial, IRd.of_slice hr fun _ _ => trivial, q2.keep hcg fun k hk hp => p3 k hk hp, ht, q4.trans (hcg.below q4.size fun i hi => (p2 i hi).1)⟩⟩
            have h1 := (q1.lt g hg).1
            have h2 := (p2 g hp).2
            omega
          obtain ⟨i0, hi, hz0, hz1, hz2⟩ := info_parts info_item
          clear hd1 hd2 hd3 HI HWF hcc
          go_upto_region 15 with (first
            | (go_at_call_of 17 (Value.int .i64 now); refine HD1.out.mono ?_; rintro e w2 ⟨A1, n1, rfl, HX2⟩; have HE2 := Lib.hid (HD2.out A1 n1 w2 HX2.out))
            | (go_at_call 17; refine HE2.out.mono ?_; rintro e w3 ⟨A2, n2, rfl, HX3⟩)
            | (at_builtin; refine wpList_append_src (o := ⟨some 49, _, _, _, _, _⟩) rfl (.tmp 45) (.tmp 48) 35 rfl w1.heap.size 41 i0 _ 2 16 Try.underlying35 hi hz0 hz1 hz2 rfl (by omega) _ d1 _ rfl HX3.out.1 A2 d2 n2 (flat ((R.drop d1).take d2)) rfl HX3.out.2.1.1 (own_nil HX3.out.2.1) (IRd.own_cells HX3.out.2.1) (flat_one_cell _) (by unfold maxLen; omega) (by omega) (HX3.out.2.2.2.2.2) ?_; intro v4 w4 ho4 hg4; have HX4 := Lib.hid (HAP.out A1 n1 w3 v4 w4 ⟨HX3.out.1, HX3.out.2.2⟩ ho4 hg4); obtain ⟨A4, n4, rfl, HX5⟩ := HX4.out; clear ho4 hg4))
          have HE3 := Lib.hid (HD3.out A4 n4 w4 HX5.out)
          clear HD1 HD2 HAP HD3
          go_upto_region 16 with (go_at_call 17; refine HE3.out.mono ?_; rintro e w5 ⟨A5, n5, rfl, HX6⟩)
          have HL1 := Lib.hid (Len_any HX6.out.2.2.1)
          have HL2 := Lib.hid (Len_any HX6.out.2.2.2.1)
          have m1 := HX6.out.1.max
          have m2 := HX6.out.1.cap
          have m3 := HX6.out.2.1.max
          have m4 := HX6.out.2.1.cap
          unfold maxLen at m1 m3
          clear HX2 HX3 HX4 HX5 HE2 HE3
          obtain ⟨y, hy⟩ : ∃ y, y = (R.drop d3).length := ⟨_, rfl⟩
          rw [← hy] at HL1 HL2
          clear hy
          go_upto_region 18 with (first
            | (go_at_call_of 19 (Value.pointer (some ⟨t, 0, none⟩)); refine HL1.out.mono ?_; rintro e w6 ⟨rfl, rfl⟩)
            | (go_at_call_of 19 (Value.pointer (some ⟨c', 0, none⟩)); refine HL2.out.mono ?_; rintro e w6 ⟨rfl, rfl⟩))
          go_wp2_with fail
          go_loopw [67] (fun i wz => ∃ j q : Nat, i = .int .i64 j ∧ j ≤ d3 ∧ Hid (wz = w5.drewN q)) (fun i _ => d3 - (intOf i).toNat)
          case atStart => exact ⟨0, 0, rfl, Nat.zero_le _, Lib.hid rfl⟩
          case round =>
            obtain ⟨j, q, rfl, hj, HW⟩ := hrel
            obtain rfl := HW.out
            by_cases hjd : j < d3
            · obtain ⟨b, o, hA, hbl, _, r0, r1⟩ := HX6.out.1.place j hjd
              obtain ⟨b', o', hB, hbl', _, s0, s1⟩ := HX6.out.2.1.place j hjd
              subst hA hB
              have hjd' : (j : Int) < d3 := by omega
              generalize g (R.take d3) j = y at *
              have e0 : (y.1 == y.1) = true := beq_self_eq_true _
              have e1 : (y.2 == y.2) = true := beq_self_eq_true _
              go_wp2_with fail
              go_quiet (fail)
              go_wp2
              go_roundw
              case rel => exact ⟨j + 1, _, by go_num, by omega, Lib.hid (by first | rfl | (rw [World.drewN_drewN]))⟩
              case measure => simp [intOf]; omega
            · obtain rfl : j = d3 := by omega
              have HBZ : Hid (Below w.heap.size w (w5.drewN q)) := Lib.hid (by
                have h1 := HX6.out.2.2.2.2
                exact ⟨h1.os, h1.tape, h1.output, h1.size, h1.block⟩)
              go_wp2_with (go_at_call 9; refine (HAW.out _).mono ?_; rintro e w7 ⟨rfl, hb⟩; have HB := Lib.hid hb; clear hb)
              go_ret
              exact ⟨rfl, HBZ.out.trans (HB.out.mono HBZ.out.size)⟩
end Go.Proofs.Ytednibjemboclaa
