/- What is proved here: that what is set again is due at its new time alone, and what is dropped is never due (TimerLate). -/
import Derived.Test.YtednibjemboclaaDues
namespace Go.Proofs.Ytednibjemboclaa
open Go Go.RowKit Go.Maps

theorem ord_g {R : List It} (h : Ord R) {i j : Nat} (hij : i < j) (hj : j < R.length) : bef (g R i) (g R j) := by
  rw [← g_get (show i < R.length by omega), ← g_get hj]
  exact List.pairwise_iff_getElem.1 h.1 i j (by omega) hj hij
/-- What is not due is late. -/
theorem drop_late {R : List It} (h : Ord R) {now : Int} {y : It} (hy : y ∈ R.drop (dueN R now)) : now < y.2 := by
  obtain ⟨j, hj, rfl⟩ := mem_g hy
  rw [List.length_drop] at hj
  have e : g (R.drop (dueN R now)) j = g R (dueN R now + j) := by
    unfold g
    rw [List.getD_eq_getElem?_getD, List.getD_eq_getElem?_getD, List.getElem?_drop]
  have h1 := dueN_at (R := R) (now := now) (by omega)
  rw [e]
  rcases Nat.eq_zero_or_pos j with h0 | h0
  · subst h0
    rw [Nat.add_zero]
    omega
  · have h2 := ord_g h (i := dueN R now) (j := dueN R now + j) (by omega) (by omega)
    unfold bef at h2
    omega
theorem take_due {R : List It} {now : Int} {y : It} (hy : y ∈ R.take (dueN R now)) : y.2 ≤ now := by
  obtain ⟨j, hj, rfl⟩ := mem_g hy
  rw [List.length_take] at hj
  have e : g (R.take (dueN R now)) j = g R j := by
    unfold g
    rw [List.getD_eq_getElem?_getD, List.getD_eq_getElem?_getD, List.getElem?_take, if_pos (by omega)]
  rw [e]
  exact dueN_lt (by omega)
theorem Ord.take {R : List It} (h : Ord R) (k : Nat) : Ord (R.take k) := ⟨h.1.sublist (List.take_sublist _ _), h.2.sublist (List.Sublist.map _ (List.take_sublist _ _))⟩
theorem Ord.same {R : List It} (h : Ord R) {x y : It} (hx : x ∈ R) (hy : y ∈ R) (e : x.1 = y.1) : x = y := by
  obtain ⟨i, hi, rfl⟩ := mem_g hx
  obtain ⟨j, hj, rfl⟩ := mem_g hy
  rw [nodup_g h.2 hi hj e]
/-- How many of the due ones have the number that was set: one, or none; and whether it is there still. -/
theorem late_count {R : List It} (h : Ord R) {id tm now : Int} (hx : (id, tm) ∈ R) {cnt : Nat} (hc : cnt + (dropR (R.take (dueN R now)) id).length = dueN R now) :
    (tm ≤ now → cnt = 1 ∧ ∀ y ∈ R.drop (dueN R now), y.1 ≠ id) ∧ (¬ tm ≤ now → cnt = 0 ∧ (id, tm) ∈ R.drop (dueN R now)) := by
  have hl : (R.take (dueN R now)).length = dueN R now := by
    rw [List.length_take]
    have := dueN_le R now
    omega
  have hpart : (id, tm) ∈ R.take (dueN R now) ∨ (id, tm) ∈ R.drop (dueN R now) := by
    rw [← List.take_append_drop (dueN R now) R] at hx
    exact List.mem_append.1 hx
  refine ⟨fun hle => ⟨?_, fun y hy e => ?_⟩, fun hgt => ⟨?_, ?_⟩⟩
  · rcases hpart with h1 | h1
    · have h2 := dropR_length (h.take (dueN R now)).2 h1
      simp only at h2
      omega
    · have := drop_late h h1
      simp only at this
      omega
  · have h1 := h.same (List.mem_of_mem_drop hy) hx e
    have h2 := drop_late h hy
    rw [h1] at h2
    simp only at h2
    omega
  · have h1 : dropR (R.take (dueN R now)) id = R.take (dueN R now) := dropR_none fun y hy e => by
      have h2 := h.same (List.mem_of_mem_take hy) hx e
      have h3 := take_due hy
      rw [h2] at h3
      simp only at h3
      omega
    rw [h1, hl] at hc
    omega
  · rcases hpart with h1 | h1
    · have := take_due h1
      simp only at this
      omega
    · exact h1

/-- In the rounds over what is due: the row, and both timers. -/
def LateAt (w wr : World) (A : Option Addr) (d n : Nat) (D : List It) (t : Nat) (R : List It) (Φ : Nat → Prop) (c : Nat) (S : List It) (Ψ : Nat → Prop) : Prop :=
  IRd wr (fun _ => True) A d n D ∧ TimerAt wr t R Φ ∧ TimerAt wr c S Ψ ∧ Below w.heap.size w wr
theorem LateAt.later {w wr w' : World} {A : Option Addr} {d n t c : Nat} {D R S : List It} {Φ Ψ : Nat → Prop} (h : LateAt w wr A d n D t R Φ c S Ψ) (hb : Below wr.heap.size wr w') : LateAt w w' A d n D t R Φ c S Ψ :=
  ⟨h.1.below hb, h.2.1.below hb, h.2.2.1.below hb, h.2.2.2.trans (hb.mono h.2.2.2.size)⟩

set_option maxHeartbeats 3200000 in
set_option maxRecDepth 100000 in
theorem timerLate_any {w : World} {A : Option Addr} {n c : Nat} {l : List (List Int)} (hk : KRd w 2 A n c l) (id tm now : Int) (hid : wfk id) :
    Calls Try.prog 6 #[.slice A n c, .int .i64 id, .int .i64 tm, .int .i64 now] w fun e w' => e = .returned (.bool true) ∧ Below w.heap.size w w' := by
  obtain ⟨hI, hwf⟩ := hk.items
  generalize items l = L at *
  have HAW := Lib.hid fun W => awake_any W
  have hcm := hI.max
  have hcc := hI.cap
  unfold maxLen at hcm
  have HI := Lib.hid hI
  have HL := Lib.hid hI.len
  have HWF := Lib.hid hwf
  have HN := Lib.hid (New_any w)
  have HID := Lib.hid hid
  clear hk hI hwf hid
  by_cases h80 : 80 < n
  · have h80' : (80 : Int) < n := by omega
    have hd : decide ((80 : Int) < (n : Int)) = true := decide_eq_true h80'
    go_enter Try.func6, Try.ntmps6
    go_wp2_with (go_at_call 9; refine (HAW.out _).mono ?_; rintro e w1 ⟨rfl, hb⟩; have HB := Lib.hid hb; clear hb)
    go_ret
    exact ⟨rfl, HB.out⟩
  · have h80' : ¬ (80 : Int) < n := by omega
    have hd : decide ((80 : Int) < (n : Int)) = false := decide_eq_false h80'
    go_enter Try.func6, Try.ntmps6
    go_wp2_with (go_at_call 10; refine HN.out.mono ?_; rintro e w1 ⟨rfl, hb, _, ht⟩; have HT0 := Lib.hid (Tm.new (Below.refl _ _) hb ht); clear hb ht)
    generalize w.heap.size + 1 = t at *
    clear HN
    go_loopw [29] (fun i wr => ∃ k : Nat, i = .int .i64 k ∧ k ≤ n ∧ Hid (Tm w wr t (setAll (L.take k)))) (fun i _ => n - (intOf i).toNat)
    case atStart => exact ⟨0, rfl, Nat.zero_le _, HT0⟩
    case round =>
      clear HT0
      obtain ⟨k, rfl, hkn, HT⟩ := hrel
      by_cases hlt : k < n
      · obtain ⟨b, o, hA, r0, r1⟩ := HI.out.there HT.out.2 hlt
        subst hA
        have hlt' : (k : Int) < n := by omega
        have hkL : k < L.length := by rw [HL.out]; exact hlt
        have hlen : (setAll (L.take k)).length < 900000 := by
          have := setAll_len (L.take k)
          rw [List.length_take] at this
          omega
        have HS : Hid (∀ V, Below wr.heap.size wr V → Calls Try.prog 11 #[.pointer (some ⟨t, 0, none⟩), .int .i64 (g L k).1, .int .i64 (g L k).2] V fun e w' => e = .returned (.tuple #[]) ∧ Hid (Tm w w' t (setAll (L.take (k + 1))))) := Lib.hid fun V hV => by
          rw [setAll_take hkL]
          exact (HT.out.later hV).set hlen _ (HWF.out _ (g_mem hkL)).1
        clear hlen
        generalize g L k = x at *
        go_wp2_with (go_at_call 11; refine (HS.out _ (by first | exact (Below.refl _ _).alloc (Nat.le_refl _) _ | exact (((Below.refl _ _).alloc (Nat.le_refl _) _).setCell (Nat.le_refl _) _).setCell (Nat.le_refl _) _)).mono ?_; rintro e w2 ⟨rfl, HT2⟩)
        go_roundw
        case rel => exact ⟨k + 1, by go_num, by omega, HT2⟩
        case measure => simp [intOf]; omega
      · obtain rfl : k = n := by omega
        obtain ⟨R, hR⟩ : ∃ R, R = setAll L := ⟨_, rfl⟩
        have HTR : Hid (Tm w wr t R) := Lib.hid (by
          have := HT.out
          rwa [List.take_of_length_le (by rw [HL.out]; exact Nat.le_refl _), ← hR] at this)
        have HO : Hid (Ord R) := Lib.hid (by rw [hR]; exact setAll_ord L)
        have hRl : R.length ≤ 80 := by
          have := setAll_len L
          rw [hR]
          have := HL.out
          omega
        have HS1 := Lib.hid (HTR.out.set (by omega) (id, tm) HID.out)
        clear HT hR HTR
        go_upto_region 12 with (go_at_call 11; refine HS1.out.mono ?_; rintro e w1 ⟨rfl, HT1⟩)
        have hR1l := length_setR R (id, tm)
        have HO1 := Lib.hid (HO.out.set (id, tm))
        have HX0 : Hid ((id, tm) ∈ setR R (id, tm)) := Lib.hid (mem_setR.2 (.inl rfl))
        generalize setR R (id, tm) = R1 at *
        have HCP := Lib.hid (HT1.out.copy (by omega))
        clear HS1 HT1 HO
        go_upto_region 13 with (go_at_call 18; refine HCP.out.mono ?_; rintro e w2 ⟨c', rfl, HTW⟩)
        clear HCP
        have hdr : decide ((dropR R1 id).length < R1.length) = true := decide_eq_true (by have := dropR_length HO1.out.2 HX0.out; simp only at this; omega)
        have hdp := HTW.out.swap.drop (by omega) id HID.out
        rw [hdr] at hdp
        have HDP := Lib.hid hdp
        clear hdr hdp HTW
        go_upto_region 15 with (go_at_call 14; refine HDP.out.mono ?_; rintro e w3 ⟨rfl, HTW⟩)
        clear HDP
        obtain ⟨S, hS⟩ : ∃ S, S = dropR R1 id := ⟨_, rfl⟩
        rw [← hS] at HTW
        have HSN : Hid (∀ y ∈ S, y.1 ≠ id) := Lib.hid fun y hy => by rw [hS] at hy; exact (mem_dropR.1 hy).2
        have hSl : S.length ≤ R1.length := by rw [hS]; exact List.length_filter_le _ _
        clear hS
        obtain ⟨d, hd1⟩ : ∃ d, d = dueN R1 now := ⟨_, rfl⟩
        obtain ⟨d2, hd2⟩ : ∃ d2, d2 = dueN S now := ⟨_, rfl⟩
        have hdl : d ≤ 81 ∧ d2 ≤ 81 := by have := dueN_le R1 now; have := dueN_le S now; omega
        have HD1 := Lib.hid hd1
        have HCH : Hid (∃ Φ Ψ : Nat → Prop, (∀ k, Φ k → w.heap.size ≤ k) ∧ (∀ k, Ψ k → w.heap.size ≤ k) ∧ (∀ k, Φ k → ¬ Ψ k) ∧ TimerAt w3 t R1 Φ ∧ TimerAt w3 c' S Ψ ∧ Below w.heap.size w w3) := Lib.hid HTW.out.swap
        obtain ⟨Φ, Ψ, hc⟩ := HCH.out
        have HC := Lib.hid hc
        clear hc HCH HTW
        have HE1 : Hid (Calls Try.prog 17 #[.pointer (some ⟨t, 0, none⟩), .int .i64 now] w3 fun e w4 => ∃ A1 n1, e = .returned (.slice A1 d n1) ∧ Hid (LateAt w w4 A1 d n1 (R1.take d) t (R1.drop d) Φ c' S Ψ)) := Lib.hid (by
          obtain ⟨p1, p2, p3, p4, p5, p6⟩ := HC.out
          refine (Due_any p4 (by omega) now).mono ?_
          unfold DueSaid
          rw [← hd1]
          rintro e w4 ⟨v, rfl, hr, ht, hcg⟩
          obtain ⟨A1, n1, rfl, _⟩ := own_isSlice hr
          exact ⟨A1, n1, rfl, Lib.hid ⟨IRd.of_slice hr fun _ _ => trivial, ht, p5.keep hcg fun k hk hp => p3 k hp hk, p6.trans (hcg.below p6.size p1)⟩⟩)
        have HE2 : Hid (∀ w5, TimerAt w5 t (R1.drop d) Φ → TimerAt w5 c' S Ψ → Below w.heap.size w w5 → Calls Try.prog 17 #[.pointer (some ⟨c', 0, none⟩), .int .i64 now] w5 fun e w6 => ∃ A2 n2, e = .returned (.slice A2 d2 n2) ∧ Hid (LateAt w w6 A2 d2 n2 (S.take d2) t (R1.drop d) Φ c' (S.drop d2) Ψ)) := Lib.hid fun w5 q1 q2 q3 => by
          obtain ⟨p1, p2, p3, p4, p5, p6⟩ := HC.out
          refine (Due_any q2 (by omega) now).mono ?_
          unfold DueSaid
          rw [← hd2]
          rintro e w6 ⟨v, rfl, hr, ht, hcg⟩
          obtain ⟨A2, n2, rfl, _⟩ := own_isSlice hr
          exact ⟨A2, n2, rfl, Lib.hid ⟨IRd.of_slice hr fun _ _ => trivial, q1.keep hcg fun k hk hp => p3 k hk hp, ht, q3.trans (hcg.below q3.size p2)⟩⟩
        clear HC hd1 hd2
        go_upto_region 17 with (go_at_call 17; refine HE1.out.mono ?_; rintro e w4 ⟨A1, n1, rfl, HX1⟩)
        clear HE1
        go_wp2_with fail
        go_loopw [13, 58] (fun u i wr => ∃ j cnt : Nat, i = .int .i64 j ∧ u = .int .i64 cnt ∧ j ≤ d ∧ cnt ≤ j ∧ Hid (cnt + (dropR ((R1.take d).take j) id).length = j) ∧ Hid (LateAt w wr A1 d n1 (R1.take d) t (R1.drop d) Φ c' S Ψ)) (fun _ i _ => d - (intOf i).toNat)
        case atStart => exact ⟨0, 0, rfl, rfl, Nat.zero_le _, Nat.le_refl _, Lib.hid rfl, HX1⟩
        case round =>
          clear HX1
          obtain ⟨j, cnt, rfl, rfl, hj, hcj, HCT, HX1⟩ := hrel
          have m1 := HX1.out.1.max
          have m2 := HX1.out.1.cap
          unfold maxLen at m1
          by_cases hjd : j < d
          · obtain ⟨b, o, hA, hbl, _, r0, r1⟩ := HX1.out.1.place j hjd
            subst hA
            have hjd' : (j : Int) < d := by omega
            have htk := take_g (L := R1.take d) (k := j) (by rw [HX1.out.1.len]; exact hjd)
            have HLT : Hid (∀ V, Below wr.heap.size wr V → LateAt w V _ d n1 (R1.take d) t (R1.drop d) Φ c' S Ψ) := Lib.hid fun V hV => HX1.out.later hV
            by_cases hie : (g (R1.take d) j).1 = id
            · have he : ((g (R1.take d) j).1 == id) = true := beq_iff_eq.2 hie
              have HC2 : Hid (cnt + 1 + (dropR ((R1.take d).take (j + 1)) id).length = j + 1) := Lib.hid (by
                rw [htk, dropR_snoc, if_pos hie]
                have := HCT.out
                omega)
              clear htk hie
              generalize g (R1.take d) j = y at *
              go_wp2_with fail
              go_roundw
              case rel => exact ⟨j + 1, cnt + 1, by go_num, by go_num, by omega, by omega, HC2, Lib.hid (HLT.out _ (by first | exact (Below.refl _ _).alloc (Nat.le_refl _) _ | exact (((Below.refl _ _).alloc (Nat.le_refl _) _).setCell (Nat.le_refl _) _).setCell (Nat.le_refl _) _))⟩
              case measure => simp [intOf]; omega
            · have he : ((g (R1.take d) j).1 == id) = false := beq_eq_false_iff_ne.2 hie
              have HC2 : Hid (cnt + (dropR ((R1.take d).take (j + 1)) id).length = j + 1) := Lib.hid (by
                rw [htk, dropR_snoc, if_neg hie, List.length_append]
                have := HCT.out
                simp
                omega)
              clear htk hie
              generalize g (R1.take d) j = y at *
              go_wp2_with fail
              go_roundw
              case rel => exact ⟨j + 1, cnt, by go_num, rfl, by omega, by omega, HC2, Lib.hid (HLT.out _ (by first | exact (Below.refl _ _).alloc (Nat.le_refl _) _ | exact (((Below.refl _ _).alloc (Nat.le_refl _) _).setCell (Nat.le_refl _) _).setCell (Nat.le_refl _) _))⟩
              case measure => simp [intOf]; omega
          · obtain rfl : j = d := by omega
            have HCC : Hid ((tm ≤ now → cnt = 1 ∧ ∀ y ∈ R1.drop j, y.1 ≠ id) ∧ (¬ tm ≤ now → cnt = 0 ∧ (id, tm) ∈ R1.drop j)) := Lib.hid (by
              have h1 := HCT.out
              rw [List.take_take, Nat.min_self, HD1.out] at h1
              have h2 := late_count HO1.out HX0.out h1
              rwa [← HD1.out] at h2)
            have HE3 := Lib.hid (HE2.out _ HX1.out.2.1 HX1.out.2.2.1 HX1.out.2.2.2)
            clear HE2 HX1 HCT
            go_upto_region 23 with (go_at_call 17; refine HE3.out.mono ?_; rintro e w6 ⟨A2, n2, rfl, HX2⟩)
            clear HE3
            go_wp2_with fail
            go_loopw [73] (fun i wr => ∃ q : Nat, i = .int .i64 q ∧ q ≤ d2 ∧ Hid (LateAt w wr A2 d2 n2 (S.take d2) t (R1.drop j) Φ c' (S.drop d2) Ψ)) (fun i _ => d2 - (intOf i).toNat)
            case atStart => exact ⟨0, rfl, Nat.zero_le _, HX2⟩
            case round =>
              clear HX2
              obtain ⟨q, rfl, hq, HX2⟩ := hrel
              have m3 := HX2.out.1.max
              have m4 := HX2.out.1.cap
              unfold maxLen at m3
              by_cases hqd : q < d2
              · obtain ⟨b, o, hA, hbl, _, r0, r1⟩ := HX2.out.1.place q hqd
                subst hA
                have hqd' : (q : Int) < d2 := by omega
                have HLT : Hid (∀ V, Below wr.heap.size wr V → LateAt w V _ d2 n2 (S.take d2) t (R1.drop j) Φ c' (S.drop d2) Ψ) := Lib.hid fun V hV => HX2.out.later hV
                have he : ((g (S.take d2) q).1 == id) = false := beq_eq_false_iff_ne.2 (HSN.out _ (List.mem_of_mem_take (g_mem (by rw [HX2.out.1.len]; exact hqd))))
                generalize g (S.take d2) q = y at *
                go_wp2_with fail
                go_roundw
                case rel => exact ⟨q + 1, by go_num, by omega, Lib.hid (HLT.out _ (by first | exact (Below.refl _ _).alloc (Nat.le_refl _) _ | exact (((Below.refl _ _).alloc (Nat.le_refl _) _).setCell (Nat.le_refl _) _).setCell (Nat.le_refl _) _))⟩
                case measure => simp [intOf]; omega
              · obtain rfl : q = d2 := by omega
                have HAT := Lib.hid (At_any HX2.out.2.1 id HID.out)
                have HBW := Lib.hid HX2.out.2.2.2
                clear HX2
                by_cases hle : tm ≤ now
                · obtain ⟨rfl, hno⟩ := HCC.out.1 hle
                  have HNO := Lib.hid hno
                  have d5 : decide (tm ≤ now) = true := decide_eq_true hle
                  have d6 : decide (now < tm) = false := decide_eq_false (by omega)
                  clear hno HCC
                  have HAT2 : Hid (Calls Try.prog 22 #[.pointer (some ⟨t, 0, none⟩), .int .i64 id] wr fun e w' => e = .returned (.tuple #[.int .i64 0, .bool false]) ∧ wr = w') := Lib.hid (HAT.out.mono (by
                    rintro e w' ⟨h1 | ⟨y, hy, h2, _⟩, h3⟩
                    · exact ⟨h1.1, h3⟩
                    · exact absurd h2 (HNO.out y hy)))
                  clear HAT
                  go_wp2_with (first
                    | (go_at_call 22; refine HAT2.out.mono ?_; rintro e w7 ⟨rfl, rfl⟩)
                    | (go_at_call 9; refine (HAW.out _).mono ?_; rintro e w8 ⟨rfl, hb⟩; have HB := Lib.hid hb; clear hb))
                  go_ret
                  exact ⟨rfl, HBW.out.trans (HB.out.mono HBW.out.size)⟩
                · obtain ⟨rfl, hin⟩ := HCC.out.2 (by omega)
                  have HNO := Lib.hid hin
                  have d5 : decide (tm ≤ now) = false := decide_eq_false hle
                  have d6 : decide (now < tm) = true := decide_eq_true (by omega)
                  clear hin HCC
                  have HAT2 : Hid (Calls Try.prog 22 #[.pointer (some ⟨t, 0, none⟩), .int .i64 id] wr fun e w' => ∃ z : Int, e = .returned (.tuple #[.int .i64 z, .bool true]) ∧ wr = w') := Lib.hid (HAT.out.mono (by
                    rintro e w' ⟨h1 | ⟨y, hy, h2, h4⟩, h3⟩
                    · exact absurd rfl (h1.2 _ HNO.out)
                    · exact ⟨y.2, h4, h3⟩))
                  clear HAT
                  go_wp2_with (first
                    | (go_at_call 22; refine HAT2.out.mono ?_; rintro e w7 ⟨z, rfl, rfl⟩)
                    | (go_at_call 9; refine (HAW.out _).mono ?_; rintro e w8 ⟨rfl, hb⟩; have HB := Lib.hid hb; clear hb))
                  go_ret
                  exact ⟨rfl, HBW.out.trans (HB.out.mono HBW.out.size)⟩
end Go.Proofs.Ytednibjemboclaa
