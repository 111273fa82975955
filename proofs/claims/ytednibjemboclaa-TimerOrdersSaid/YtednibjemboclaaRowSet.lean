/- What is proved here: what the document's own Set and Due answer; when the law's 'same' says yes. -/
import Derived.Test.YtednibjemboclaaRow
namespace Go.Proofs.Ytednibjemboclaa
open Go Go.RowKit Go.Maps

set_option maxHeartbeats 1600000 in
set_option maxRecDepth 100000 in
theorem ahead_any (x y : It) (w : World) :
    Calls Try.prog 24 #[.agg #[.int .i64 x.1, .int .i64 x.2], .agg #[.int .i64 y.1, .int .i64 y.2]] w fun e w' => e = .returned (.bool (decide (bef x y))) ∧ Below w.heap.size w w' := by
  obtain ⟨W, hW⟩ : ∃ W, W = (w.alloc (.cells #[.int .i64 x.1, .int .i64 x.2] 44)).alloc (.cells #[.int .i64 y.1, .int .i64 y.2] 44) := ⟨_, rfl⟩
  have hb : Below w.heap.size w W := by rw [hW]; exact ((Below.refl _ _).alloc (Nat.le_refl _) _).alloc (by simp) _
  have q0 : W.cell? ⟨w.heap.size, 0, none⟩ = some (.int .i64 x.1) := by rw [hW]; simp
  have q1 : W.cell? ⟨w.heap.size, 1, none⟩ = some (.int .i64 x.2) := by rw [hW]; simp
  have q2 : W.cell? ⟨w.heap.size + 1, 0, none⟩ = some (.int .i64 y.1) := by rw [hW]; simp
  have q3 : W.cell? ⟨w.heap.size + 1, 1, none⟩ = some (.int .i64 y.2) := by rw [hW]; simp
  have HW := Lib.hid hW
  have HB := Lib.hid hb
  clear hW hb
  by_cases h1 : x.2 < y.2
  · have HE : Hid (decide (bef x y) = true) := Lib.hid (decide_eq_true (.inl h1))
    have d1 : decide (x.2 < y.2) = true := decide_eq_true h1
    go_enter Try.func24, Try.ntmps24
    go_wp2_with fail
    rw [← HW.out]
    go_ret
    exact ⟨by rw [HE.out]; rfl, HB.out⟩
  · have d1 : decide (x.2 < y.2) = false := decide_eq_false h1
    by_cases h2 : x.2 = y.2
    · have d2 : (x.2 == y.2) = true := beq_iff_eq.2 h2
      have HE : Hid (decide (bef x y) = decide (x.1 < y.1)) := Lib.hid (by
        by_cases h3 : x.1 < y.1
        · rw [decide_eq_true h3]; exact decide_eq_true (.inr ⟨h2, h3⟩)
        · rw [decide_eq_false h3]
          refine decide_eq_false fun h => ?_
          rcases h with h | h
          · exact h1 h
          · exact h3 h.2)
      clear h2
      go_enter Try.func24, Try.ntmps24
      go_wp2_with fail
      rw [← HW.out]
      go_ret
      exact ⟨by rw [HE.out]; rfl, HB.out⟩
    · have d2 : (x.2 == y.2) = false := beq_eq_false_iff_ne.2 h2
      have HE : Hid (decide (bef x y) = false) := Lib.hid (decide_eq_false fun h => by
        rcases h with h | h
        · exact h1 h
        · exact h2 h.1)
      go_enter Try.func24, Try.ntmps24
      go_wp2_with fail
      rw [← HW.out]
      go_ret
      exact ⟨by rw [HE.out]; rfl, HB.out⟩

/-- How far a thing has found its place. -/
def Placing (x : It) (D : List It) (k : Nat) (db : Bool) (O : List It) : Prop :=
  if db then O = insR x (D.take k) ∧ (∃ y ∈ D.take k, bef x y) else O = D.take k ∧ ∀ y ∈ D.take k, ¬ bef x y
theorem Placing.start (x : It) (D : List It) : Placing x D 0 false [] := ⟨rfl, fun y hy => by simp at hy⟩
theorem Placing.skip {x : It} {D : List It} {k : Nat} {O : List It} (h : Placing x D k false O) (hk : k < D.length) (hb : ¬ bef x (g D k)) : Placing x D (k + 1) false (O ++ [g D k]) := by
  obtain ⟨h1, h2⟩ := h
  refine ⟨by rw [take_g hk, h1], fun y hy => ?_⟩
  rw [take_g hk] at hy
  rcases List.mem_append.1 hy with hy | hy
  · exact h2 y hy
  · simp at hy
    rw [hy]
    exact hb
theorem Placing.here {x : It} {D : List It} {k : Nat} {O : List It} (h : Placing x D k false O) (hk : k < D.length) (hb : bef x (g D k)) : Placing x D (k + 1) true (O ++ [x] ++ [g D k]) := by
  obtain ⟨h1, h2⟩ := h
  refine ⟨by rw [take_g hk, insR_here h2 hb, h1], g D k, ?_, hb⟩
  rw [take_g hk]
  simp
theorem Placing.done {x : It} {D : List It} {k : Nat} {O : List It} (h : Placing x D k true O) (hk : k < D.length) : Placing x D (k + 1) true (O ++ [g D k]) := by
  obtain ⟨h1, y, hy, hb⟩ := h
  refine ⟨by rw [take_g hk, insR_done ⟨y, hy, hb⟩, h1], y, ?_, hb⟩
  rw [take_g hk]
  exact List.mem_append_left _ hy
theorem Placing.end_true {x : It} {D : List It} {k : Nat} {O : List It} (h : Placing x D k true O) (hk : k = D.length) : O = insR x D := by
  have := h.1
  rwa [List.take_of_length_le (by omega)] at this
theorem Placing.end_false {x : It} {D : List It} {k : Nat} {O : List It} (h : Placing x D k false O) (hk : k = D.length) : O ++ [x] = insR x D := by
  obtain ⟨h1, h2⟩ := h
  rw [List.take_of_length_le (by omega)] at h1 h2
  rw [h1, insR_after h2]

set_option maxHeartbeats 3200000 in
set_option maxRecDepth 100000 in
theorem refSet_any {w : World} {Ψ : Nat → Prop} {A : Option Addr} {n c : Nat} {L : List It} (h : IRd w Ψ A n c L) (hn : n < 900000) (x : It) :
    Calls Try.prog 12 #[.slice A n c, .int .i64 x.1, .int .i64 x.2] w (RowSaid (setR L x) w) := by
  have HD := Lib.hid (refDrop_any h hn x.1)
  have hdl : (dropR L x.1).length < 900000 := by
    have : (dropR L x.1).length ≤ L.length := List.length_filter_le _ _
    have := h.len
    omega
  obtain ⟨i0, hi, hz0, hz1, hz2⟩ := info_parts info_ref
  have HSET : Hid (setR L x = insR x (dropR L x.1)) := Lib.hid rfl
  generalize dropR L x.1 = D at *
  clear h
  go_enter Try.func12, Try.ntmps12
  go_wp2_with (go_at_call 13; refine HD.out.mono ?_; rintro e w1 ⟨A1, c1, rfl, ho1, hb1⟩; have HR1 := Lib.hid (IRd.of_slice (Ψ := fun _ => True) ho1 fun _ _ => trivial); have HB1 := Lib.hid hb1; clear ho1 hb1)
  have HS1 : Hid (w.heap.size ≤ w1.heap.size) := Lib.hid HB1.out.size
  have hcm := HR1.out.max
  have hcc := HR1.out.cap
  unfold maxLen at hcm
  go_loopw [7, 8, 9] (fun v db i wr => ∃ (k : Nat) (b : Bool) (O : List It), i = .int .i64 k ∧ db = .bool b ∧ k ≤ D.length ∧ Hid (Placing x D k b O) ∧ Hid (Making w1 (k + 1) O v wr)) (fun _ _ i _ => D.length - (intOf i).toNat)
  case atStart => exact ⟨0, false, [], rfl, rfl, Nat.zero_le _, Lib.hid (Placing.start x D), Lib.hid ⟨World.ownsRow_nil _ _ _ _, Below.refl _ _, Nat.zero_le _⟩⟩
  case round =>
    obtain ⟨k, db, O, rfl, rfl, hk, HP, HM⟩ := hrel
    by_cases hkn : k < D.length
    · obtain ⟨b, o, hA, hbl, _, r0, r1⟩ := HR1.out.place k hkn
      subst hA
      have hbw := HM.out.2.1
      have e0 := (hbw.cell (p := ⟨b, o + k * 2, none⟩) hbl).trans r0
      have e1 := (hbw.cell (p := ⟨b, o + k * 2 + 1, none⟩) hbl).trans r1
      have hkn' : (k : Int) < D.length := by omega
      have hol : O.length ≤ k + 1 := HM.out.2.2
      have HSZ := Lib.hid hbw.size
      have HBL := Lib.hid hbl
      have HRC := Lib.hid (And.intro r0 r1)
      cases db with
      | true =>
        have HN := Lib.hid (HP.out.done hkn)
        clear r0 r1 hbw
        generalize g D k = y at *
        go_wp2_with (at_builtin; refine wpList_append_src (o := ⟨some 43, _, _, _, _, _⟩) rfl (.tmp 37) (.tmp 42) 26 rfl w1.heap.size 44 i0 _ 2 16 Try.underlying26 hi hz0 hz1 hz2 rfl (by omega) _ O.length _ rfl (HM.out.1.alloc _) (some ⟨wr.heap.size, 0, none⟩) 1 1 [.int .i64 y.1, .int .i64 y.2] rfl rfl (fun e => by cases e) (news_item wr _ _ _) (one_cell2 _ _) (by unfold maxLen; omega) (by omega) (by have := HSZ.out; simp; omega) ?_; intro v2 w2 ho2 hg2; have HQ := Lib.hid (HM.out.app y ho2 hg2); obtain ⟨A2, c2, rfl⟩ := HQ.out.1; clear ho2 hg2)
        go_roundw
        case rel => exact ⟨k + 1, true, _, by go_num, rfl, by omega, HN, Lib.hid HQ.out.2.1⟩
        case measure => simp [intOf]; omega
      | false =>
        have HAH := Lib.hid fun W => ahead_any x (g D k) W
        by_cases hbf : bef x (g D k)
        · have HN := Lib.hid (HP.out.here hkn hbf)
          have HDE : Hid (decide (bef x (g D k)) = true) := Lib.hid (decide_eq_true hbf)
          rw [decide_eq_true hbf] at HAH
          have HM3 : Hid (∀ w3, Below wr.heap.size wr w3 → Making w1 (k + 1) O _ w3 ∧ wr.heap.size ≤ w3.heap.size ∧ w3.cell? ⟨b, o + k * 2, none⟩ = some (.int .i64 (g D k).1) ∧ w3.cell? ⟨b, o + k * 2 + 1, none⟩ = some (.int .i64 (g D k).2)) := Lib.hid fun w3 h3 => by
            have hz := HSZ.out
            have hbw3 := hbw.trans (h3.mono hz)
            exact ⟨⟨own_below HM.out.1 h3, hbw3, HM.out.2.2⟩, h3.size, (hbw3.cell (p := ⟨b, o + k * 2, none⟩) hbl).trans r0, (hbw3.cell (p := ⟨b, o + k * 2 + 1, none⟩) hbl).trans r1⟩
          clear r0 r1 hbw hbf
          generalize g D k = y at *
          go_wp2_with (first
            | (go_at_call 24; refine (HAH.out _).mono ?_; rintro e w3 ⟨rfl, hb3⟩; obtain ⟨hm3, hz3, f0, f1⟩ := HM3.out w3 hb3; have HM4 := Lib.hid hm3; clear hb3 hm3 hz3 e0 e1)
            | (at_builtin; refine wpList_append_src (o := ⟨some 36, _, _, _, _, _⟩) rfl (.tmp 31) (.tmp 35) 26 rfl w1.heap.size 44 i0 _ 2 16 Try.underlying26 hi hz0 hz1 hz2 rfl (by omega) _ O.length _ rfl (HM4.out.1.alloc _) (some ⟨w3.heap.size, 0, none⟩) 1 1 [.int .i64 x.1, .int .i64 x.2] rfl rfl (fun e => by cases e) (news_item w3 _ _ _) (one_cell2 _ _) (by unfold maxLen; first | omega | (simp; omega)) (by first | omega | (simp; omega)) (by have := HM4.out.2.1.size; simp; omega) ?_; intro v2 w2 ho2 hg2; have HQ := Lib.hid (HM4.out.app x ho2 hg2); obtain ⟨A2, c2, rfl⟩ := HQ.out.1; have HM5 := Lib.hid HQ.out.2.1; have g0 := (HQ.out.2.2 ⟨b, o + k * 2, none⟩ HBL.out).trans HRC.out.1; have g1 := (HQ.out.2.2 ⟨b, o + k * 2 + 1, none⟩ HBL.out).trans HRC.out.2; clear ho2 hg2 f0 f1 HQ)
            | (at_builtin; refine wpList_append_src (o := ⟨some 43, _, _, _, _, _⟩) rfl (.tmp 37) (.tmp 42) 26 rfl w1.heap.size 44 i0 _ 2 16 Try.underlying26 hi hz0 hz1 hz2 rfl (by omega) _ (O ++ [x]).length _ rfl (HM5.out.1.alloc _) (some ⟨w2.heap.size, 0, none⟩) 1 1 [.int .i64 y.1, .int .i64 y.2] rfl rfl (fun e => by cases e) (news_item w2 _ _ _) (one_cell2 _ _) (by unfold maxLen; first | omega | (simp; omega)) (by first | omega | (simp; omega)) (by have := HM5.out.2.1.size; simp; omega) ?_; intro v4 w4 ho4 hg4; have HQ := Lib.hid (HM5.out.app y ho4 hg4); obtain ⟨A4, c4, rfl⟩ := HQ.out.1; clear ho4 hg4))
          go_roundw
          case rel =>
            refine ⟨k + 1, true, _, by go_num, rfl, by omega, HN, Lib.hid ⟨?_, HQ.out.2.1.2.1, ?_⟩⟩
            · rw [show O.length + 1 + 1 = (O ++ [x]).length + 1 by simp]
              exact HQ.out.2.1.1
            · have h9 := congrArg List.length HN.out.1
              rw [length_insR, List.length_take] at h9
              omega
          case measure => simp [intOf]; omega
        · have HN := Lib.hid (HP.out.skip hkn hbf)
          rw [decide_eq_false hbf] at HAH
          have HM3 : Hid (∀ w3, Below wr.heap.size wr w3 → Making w1 (k + 1) O _ w3 ∧ wr.heap.size ≤ w3.heap.size ∧ w3.cell? ⟨b, o + k * 2, none⟩ = some (.int .i64 (g D k).1) ∧ w3.cell? ⟨b, o + k * 2 + 1, none⟩ = some (.int .i64 (g D k).2)) := Lib.hid fun w3 h3 => by
            have hz := HSZ.out
            have hbw3 := hbw.trans (h3.mono hz)
            exact ⟨⟨own_below HM.out.1 h3, hbw3, HM.out.2.2⟩, h3.size, (hbw3.cell (p := ⟨b, o + k * 2, none⟩) hbl).trans r0, (hbw3.cell (p := ⟨b, o + k * 2 + 1, none⟩) hbl).trans r1⟩
          clear r0 r1 hbw hbf
          generalize g D k = y at *
          go_wp2_with (first
            | (go_at_call 24; refine (HAH.out _).mono ?_; rintro e w3 ⟨rfl, hb3⟩; obtain ⟨hm3, hz3, f0, f1⟩ := HM3.out w3 hb3; have HM4 := Lib.hid hm3; clear hb3 hm3 hz3 e0 e1)
            | (at_builtin; refine wpList_append_src (o := ⟨some 43, _, _, _, _, _⟩) rfl (.tmp 37) (.tmp 42) 26 rfl w1.heap.size 44 i0 _ 2 16 Try.underlying26 hi hz0 hz1 hz2 rfl (by omega) _ O.length _ rfl (HM4.out.1.alloc _) (some ⟨w3.heap.size, 0, none⟩) 1 1 [.int .i64 y.1, .int .i64 y.2] rfl rfl (fun e => by cases e) (news_item w3 _ _ _) (one_cell2 _ _) (by unfold maxLen; first | omega | (simp; omega)) (by first | omega | (simp; omega)) (by have := HM4.out.2.1.size; simp; omega) ?_; intro v4 w4 ho4 hg4; have HQ := Lib.hid (HM4.out.app y ho4 hg4); obtain ⟨A4, c4, rfl⟩ := HQ.out.1; clear ho4 hg4))
          go_roundw
          case rel => exact ⟨k + 1, false, _, by go_num, rfl, by omega, HN, Lib.hid HQ.out.2.1⟩
          case measure => simp [intOf]; omega
    · have hkd : k = D.length := by omega
      have HKD := Lib.hid hkd
      have hol : O.length ≤ k + 1 := HM.out.2.2
      cases db with
      | true =>
        have HX : Hid (∀ v, v = v → ∀ wr, Making w1 (k + 1) O v wr → ∃ A c, v = Value.slice A (setR L x).length c ∧ RowSaid (setR L x) w (.returned (.slice A (setR L x).length c)) wr) := Lib.hid fun v _ wr h1 => by
          have hO : O = setR L x := by rw [HP.out.end_true HKD.out, HSET.out]
          rw [hO] at h1
          obtain ⟨A2, c2, e, _⟩ := own_isSlice h1.1
          refine ⟨A2, c2, e, A2, c2, rfl, ?_, HB1.out.trans (h1.2.1.mono HS1.out)⟩
          rw [← e]
          exact own_base h1.1 HS1.out
        obtain ⟨A2, c2, rfl, hx⟩ := HX.out _ rfl _ HM.out
        have HY := Lib.hid hx
        clear HX hx HM hkd
        go_wp2
        go_ret
        exact HY.out
      | false =>
        have HX : Hid (∀ v wr, Making w1 (k + 1 + 1) (O ++ [x]) v wr → ∃ A c, v = Value.slice A (setR L x).length c ∧ RowSaid (setR L x) w (.returned (.slice A (setR L x).length c)) wr) := Lib.hid fun v wr h1 => by
          have hO : O ++ [x] = setR L x := by rw [HP.out.end_false HKD.out, HSET.out]
          rw [hO] at h1
          obtain ⟨A2, c2, e, _⟩ := own_isSlice h1.1
          refine ⟨A2, c2, e, A2, c2, rfl, ?_, HB1.out.trans (h1.2.1.mono HS1.out)⟩
          rw [← e]
          exact own_base h1.1 HS1.out
        clear hkd
        go_wp2_with (at_builtin; refine wpList_append_src (o := ⟨some 51, _, _, _, _, _⟩) rfl (.tmp 46) (.tmp 50) 26 rfl w1.heap.size 44 i0 _ 2 16 Try.underlying26 hi hz0 hz1 hz2 rfl (by omega) _ O.length _ rfl (HM.out.1.alloc _) (some ⟨wr.heap.size, 0, none⟩) 1 1 [.int .i64 x.1, .int .i64 x.2] rfl rfl (fun e => by cases e) (news_item wr _ _ _) (one_cell2 _ _) (by unfold maxLen; first | omega | (simp; omega)) (by first | omega | (simp; omega)) (by have := HM.out.2.1.size; simp; omega) ?_; intro v4 w4 ho4 hg4; obtain ⟨A4, c4, rfl, hx⟩ := HX.out _ _ (HM.out.app x ho4 hg4).2.1; have HY := Lib.hid hx; clear ho4 hg4 hx)
        go_ret
        exact HY.out

set_option maxHeartbeats 800000 in
theorem refDue_any {w : World} {Ψ : Nat → Prop} {A : Option Addr} {n c : Nat} {L : List It} (h : IRd w Ψ A n c L) (now : Int) :
    Calls Try.prog 15 #[.slice A n c, .int .i64 now] w fun e w' => e = .returned (.int .i64 (dueN L now)) ∧ w = w' := by
  have HR := Lib.hid h
  have HL := Lib.hid h.len
  have hcm := h.max
  have hcc := h.cap
  unfold maxLen at hcm
  clear h
  go_enter Try.func15, Try.ntmps15
  go_wp2
  go_loop [5] (fun i => ∃ k : Nat, i = .int .i64 k ∧ k ≤ n ∧ Hid (∀ j, j < k → (g L j).2 ≤ now)) (fun i => n - (intOf i).toNat)
  case atStart => exact ⟨0, rfl, Nat.zero_le _, Lib.hid fun j hj => absurd hj (Nat.not_lt_zero _)⟩
  case round =>
    obtain ⟨k, rfl, hk, HA⟩ := hrel
    by_cases hkn : k < n
    · obtain ⟨b, o, hA, hbl, _, r0, r1⟩ := HR.out.place k hkn
      subst hA
      have hkn' : (k : Int) < n := by omega
      have hd0 : decide ((k : Int) < (n : Int)) = true := decide_eq_true hkn'
      have hd1 : decide (k < n) = true := decide_eq_true hkn
      by_cases hle : (g L k).2 ≤ now
      · have hdl : decide ((g L k).2 ≤ now) = true := decide_eq_true hle
        have HA2 : Hid (∀ j, j < k + 1 → (g L j).2 ≤ now) := Lib.hid fun j hj => by
          rcases Nat.lt_or_ge j k with h1 | h1
          · exact HA.out j h1
          · obtain rfl : j = k := by omega
            exact hle
        clear HA
        generalize g L k = y at *
        go_wp2
        go_round
        case rel => exact ⟨k + 1, by go_num, by omega, HA2⟩
        case measure => simp [intOf]; omega
      · have hdl : decide ((g L k).2 ≤ now) = false := decide_eq_false hle
        have HE : Hid (dueN L now = k) := Lib.hid (dueN_eq (by rw [HL.out]; exact hk) HA.out fun _ => hle)
        clear HA
        generalize g L k = y at *
        go_wp2
        go_ret
        exact ⟨by rw [HE.out]; rfl, rfl⟩
    · obtain rfl : k = n := by omega
      have HE : Hid (dueN L now = k) := Lib.hid (dueN_eq (by rw [HL.out]; exact Nat.le_refl _) HA.out fun h => absurd h (by rw [HL.out]; exact Nat.lt_irrefl _))
      have hd0 : decide ((k : Int) < (k : Int)) = false := decide_eq_false (by omega)
      have hd1 : decide (k < k) = false := decide_eq_false (by omega)
      clear HA
      go_wp2
      go_ret
      exact ⟨by rw [HE.out]; rfl, rfl⟩

/-- Whether two rows are the same, one by one. -/
theorem rows_eq {L M : List It} (hl : L.length = M.length) (h : ∀ j, j < L.length → (g L j).1 = (g M j).1 ∧ (g L j).2 = (g M j).2) : L = M := by
  apply List.ext_getElem hl
  intro j h1 h2
  rw [g_get h1, g_get h2]
  exact Prod.ext (h j h1).1 (h j h1).2
set_option maxHeartbeats 1600000 in
set_option maxRecDepth 100000 in
theorem same_any {w : World} {Ψ Ψ' : Nat → Prop} {A B : Option Addr} {n c m d : Nat} {L : List It} (h : IRd w Ψ A n c L) (h' : IRd w Ψ' B m d L) (hn : n < 1000000) :
    Calls Try.prog 16 #[.slice A n c, .slice B m d] w fun e w' => e = .returned (.bool true) ∧ ∃ q, w' = w.drewN q := by
  obtain rfl : n = m := by rw [← h.len, h'.len]
  have HR := Lib.hid h
  have HR' := Lib.hid h'
  have HL := Lib.hid h.len
  have hcm := h.max
  have hcc := h.cap
  have hdm := h'.max
  have hdc := h'.cap
  unfold maxLen at hcm hdm
  clear h h'
  go_enter Try.func16, Try.ntmps16
  go_wp2
  go_loopw [13] (fun i wr => ∃ k q : Nat, i = .int .i64 k ∧ k ≤ n ∧ Hid (wr = w.drewN q)) (fun i _ => n - (intOf i).toNat)
  case atStart => exact ⟨0, 0, rfl, Nat.zero_le _, Lib.hid rfl⟩
  case round =>
    obtain ⟨k, q, rfl, hk, HW⟩ := hrel
    obtain rfl := HW.out
    by_cases hkn : k < n
    · obtain ⟨b, o, hA, hbl, _, r0, r1⟩ := HR.out.place k hkn
      obtain ⟨b', o', hB, hbl', _, s0, s1⟩ := HR'.out.place k hkn
      subst hA hB
      have hkn' : (k : Int) < n := by omega
      generalize g L k = y at *
      have d0 : (y.1 == y.1) = true := beq_self_eq_true _
      have d1 : (y.2 == y.2) = true := beq_self_eq_true _
      have d2 : (y.1 != y.1) = false := by simp
      have d3 : (y.2 != y.2) = false := by simp
      go_wp2_with fail
      go_quiet (fail)
      go_wp2
      go_roundw
      case rel => exact ⟨k + 1, _, by go_num, by omega, Lib.hid (by first | rfl | (rw [World.drewN_drewN]))⟩
      case measure => simp [intOf]; omega
    · obtain rfl : k = n := by omega
      go_wp2
      go_ret
      exact ⟨rfl, q, rfl⟩
end Go.Proofs.Ytednibjemboclaa
