/- What is proved here: that whatever is set, dropped and due, one behind the other, each call tells what the document says, and all are its, in order (TimerDoes). -/
import Derived.Test.YtednibjemboclaaNext
import Derived.Deep.RegionHeld3
namespace Go.Proofs.Ytednibjemboclaa
open Go Go.RowKit Go.Maps

theorem IRd.drop {w : World} {Ψ : Nat → Prop} {b o n c : Nat} {L : List It} (h : IRd w Ψ (some ⟨b, o, none⟩) n c L) {m : Nat} (hm : m ≤ n) : IRd w Ψ (some ⟨b, o + m * 2, none⟩) (n - m) (c - m) (L.drop m) :=
  ⟨by rw [List.length_drop, h.len], by have := h.cap; omega, by have := h.max; omega, (fun e => by cases e), fun j hj => by
    obtain ⟨b', o', e, hb, hp, h0, h1⟩ := h.place (m + j) (by omega)
    obtain ⟨rfl, rfl⟩ : b = b' ∧ o = o' := by simpa using e
    have eg : g (L.drop m) j = g L (m + j) := by
      unfold g
      rw [List.getD_eq_getElem?_getD, List.getD_eq_getElem?_getD, List.getElem?_drop]
    refine ⟨b, o + m * 2, rfl, hb, hp, ?_, ?_⟩
    · rw [eg, show o + m * 2 + j * 2 = o + (m + j) * 2 by omega]
      exact h0
    · rw [eg, show o + m * 2 + j * 2 + 1 = o + (m + j) * 2 + 1 by omega]
      exact h1⟩
theorem IRd.take {w : World} {Ψ : Nat → Prop} {A : Option Addr} {n c : Nat} {L : List It} (h : IRd w Ψ A n c L) {m : Nat} (hm : m ≤ n) : IRd w Ψ A m c (L.take m) :=
  ⟨by rw [List.length_take, h.len]; omega, by have := h.cap; omega, h.max, fun e => ⟨by have := (h.nil e).1; omega, (h.nil e).2⟩, fun j hj => by
    obtain ⟨b, o, e, hb, hp, h0, h1⟩ := h.place j (by omega)
    have eg : g (L.take m) j = g L j := by
      unfold g
      rw [List.getD_eq_getElem?_getD, List.getD_eq_getElem?_getD, List.getElem?_take, if_pos hj]
    rw [eg]
    exact ⟨b, o, e, hb, hp, h0, h1⟩⟩
theorem IRd.empty (w : World) (Ψ : Nat → Prop) (a : Addr) : IRd w Ψ (some a) 0 0 [] := ⟨rfl, Nat.le_refl _, Nat.zero_le _, (fun e => by cases e), fun _ hj => absurd hj (Nat.not_lt_zero _)⟩
section
variable {w0 w w' V : World} {t n c cc : Nat} {R L S : List It} {A : Option Addr}
theorem TR.row_drop {b o : Nat} (h : TR w0 w t R (some ⟨b, o, none⟩) n c L) {m : Nat} (hm : m ≤ n) : TR w0 w t R (some ⟨b, o + m * 2, none⟩) (n - m) (c - m) (L.drop m) := by
  obtain ⟨Φ, h1, h2, h3, h4⟩ := h
  exact ⟨Φ, h1, h2, h3.drop hm, h4⟩
theorem TR.row_empty {a : Addr} (h : TR w0 w t R A n c L) : TR w0 w t R (some a) 0 0 [] := by
  obtain ⟨Φ, h1, h2, h3, h4⟩ := h
  exact ⟨Φ, h1, h2, IRd.empty _ _ _, h4⟩
theorem TR.row_zero {a : Addr} {q m : Nat} (h : TR w0 w t R A m c L) (hq : q ≤ maxLen) : TR w0 w t R (some a) 0 q [] := by
  obtain ⟨Φ, h1, h2, h3, h4⟩ := h
  exact ⟨Φ, h1, h2, ⟨rfl, Nat.zero_le _, hq, (fun e => by cases e), fun _ hj => absurd hj (Nat.not_lt_zero _)⟩, h4⟩
theorem TRC.swap (h : TRC w0 w t R A n c L cc S) : TRC w0 w cc S A n c L t R := by
  obtain ⟨Φ, Ψ, h1, h2, h3, h4, h5, h6, h7⟩ := h
  exact ⟨Ψ, Φ, h2, h1, fun k hk hk2 => h3 k hk2 hk, h5, h4, h6.mono fun k _ hk => ⟨hk.2, hk.1⟩, h7⟩
end

set_option maxHeartbeats 6400000 in
set_option maxRecDepth 100000 in
theorem timerDoes_any {w : World} {A : Option Addr} {n c : Nat} {l : List (List Int)} (hk : KRd w 3 A n c l) :
    Calls Try.prog 3 #[.slice A n c] w fun e w' => e = .returned (.bool true) ∧ Below w.heap.size w w' := by
  have HAW := Lib.hid fun W => awake_any W
  have hcm := hk.max
  have hcc := hk.cap
  unfold maxLen at hcm
  have HK := Lib.hid hk
  have HN := Lib.hid (New_any w)
  clear hk
  by_cases h80 : 80 < n
  · have h80' : (80 : Int) < n := by omega
    have hd : decide ((80 : Int) < (n : Int)) = true := decide_eq_true h80'
    go_enter Try.func3, Try.ntmps3
    go_wp2_with (go_at_call 9; refine (HAW.out _).mono ?_; rintro e w1 ⟨rfl, hb⟩; have HB := Lib.hid hb; clear hb)
    go_ret
    exact ⟨rfl, HB.out⟩
  · have h80' : ¬ (80 : Int) < n := by omega
    have hd : decide ((80 : Int) < (n : Int)) = false := decide_eq_false h80'
    have hn80 : n ≤ 80 := by omega
    have HTAIL : Hid (∀ wx tt R2 A2 N2 c2, N2 = List.length R2 → R2.length < 900000 → TR w wx tt R2 A2 N2 c2 R2 → (Calls Try.prog 19 #[.pointer (some ⟨tt, 0, none⟩)] wx fun e w' => e = .returned (.int .i64 N2) ∧ wx = w') ∧
        (Calls Try.prog 20 #[.pointer (some ⟨tt, 0, none⟩)] wx fun e wy => ∃ A5 c5, e = .returned (.slice A5 N2 c5) ∧
          Hid (Calls Try.prog 16 #[.slice A5 N2 c5, .slice A2 N2 c2] wy fun e wz => e = .returned (.bool true) ∧ Hid (TR w wz tt R2 A2 N2 c2 R2)))) := Lib.hid fun wx tt R2 A2 N2 c2 hN hR hT => by
      subst hN
      refine ⟨hT.tm.len, (hT.all hR).mono ?_⟩
      rintro e wy ⟨A5, c5, he, hB⟩
      have hT2 := hB.out.tr
      have h5 : IRd wy (fun _ => True) A5 R2.length c5 R2 := by
        obtain ⟨Φ, h1, h2, h3, h4, h5, h6, h7⟩ := hB.out
        exact IRd.of_slice h7 fun _ _ => trivial
      refine ⟨A5, c5, he, Lib.hid ((same_any h5 hT2.rd (by omega)).mono ?_)⟩
      rintro e wz ⟨he2, q, rfl⟩
      exact ⟨he2, Lib.hid (hT2.later ⟨rfl, rfl, rfl, Nat.le_refl _, fun _ _ => rfl⟩)⟩
    go_enter Try.func3, Try.ntmps3
    go_wp2_with (go_at_call 10; refine HN.out.mono ?_; rintro e w1 ⟨rfl, hb, _, ht⟩; have HT0 := Lib.hid (TR.of_tm (Tm.new (Below.refl _ _) hb ht)); clear hb ht)
    generalize w.heap.size + 1 = t at *
    clear HN h80
    go_loopw [3, 4, 19] (fun tv v i wr => ∃ (k t : Nat) (A' : Option Addr) (c' N : Nat) (R : List It), tv = .pointer (some ⟨t, 0, none⟩) ∧ v = .slice A' N c' ∧ i = .int .i64 k ∧ k ≤ n ∧ R.length ≤ k ∧ Hid (N = R.length) ∧ Hid (TR w wr t R A' N c' R)) (fun _ _ i _ => n - (intOf i).toNat)
    case atStart => exact ⟨0, t, none, 0, 0, [], rfl, rfl, rfl, Nat.zero_le _, Nat.le_refl _, Lib.hid rfl, HT0⟩
    case round =>
      clear HT0
      obtain ⟨k, t, A', c', N, R, rfl, rfl, rfl, hkn, hRk, HNN, HT⟩ := hrel
      by_cases hlt : k < n
      · obtain ⟨kd, oi, tm, hoi, b, o, hA, r0, r1, r2⟩ := HK.out.op HT.out.tm.2 hlt
        subst hA
        have HOI := Lib.hid hoi
        have hlt' : (k : Int) < n := by omega
        have hVb : Below wr.heap.size wr (wr.alloc (.cells #[.int .i64 kd, .int .i64 oi, .int .i64 tm] 28)) := (Below.refl _ _).alloc (Nat.le_refl _) _
        obtain ⟨V, hV⟩ : ∃ V, V = wr.alloc (.cells #[.int .i64 kd, .int .i64 oi, .int .i64 tm] 28) := ⟨_, rfl⟩
        rw [← hV] at hVb
        have v0 : V.cell? ⟨wr.heap.size, 0, none⟩ = some (.int .i64 kd) := by rw [hV]; simp
        have v1 : V.cell? ⟨wr.heap.size, 1, none⟩ = some (.int .i64 oi) := by rw [hV]; simp
        have v2 : V.cell? ⟨wr.heap.size, 2, none⟩ = some (.int .i64 tm) := by rw [hV]; simp
        have vs : wr.heap.size < V.heap.size := by rw [hV]; simp
        have HV := Lib.hid hV
        have HBX : Hid (∃ Φ, TimerAt V t R Φ ∧ ∀ w' R', TOp t R' Φ V w' → (w'.cell? ⟨wr.heap.size, 1, none⟩ = some (.int .i64 oi) ∧ w'.cell? ⟨wr.heap.size, 2, none⟩ = some (.int .i64 tm)) ∧ TR w w' t R' A' N c' R) := Lib.hid (by
          obtain ⟨Φ, p1, p2⟩ := HT.out.boxStep hVb
          refine ⟨Φ, p1, fun w' R' ho => ?_⟩
          obtain ⟨q1, q2⟩ := p2 w' R' ho
          exact ⟨⟨(q1 ⟨wr.heap.size, 1, none⟩ (Nat.le_refl _) vs).trans v1, (q1 ⟨wr.heap.size, 2, none⟩ (Nat.le_refl _) vs).trans v2⟩, q2⟩)
        have HTV := Lib.hid (HT.out.later hVb)
        have hNk : N ≤ 80 := by rw [HNN.out]; omega
        clear hoi hVb hV HT
        go_upto_region 10 with fail
        rw [← HV.out]
        clear r0 r1 r2
        generalize wr.heap.size = bx at *
        by_cases hk0 : kd = 0
        · subst hk0
          have HC1 : Hid (Calls Try.prog 11 #[.pointer (some ⟨t, 0, none⟩), .int .i64 oi, .int .i64 tm] V fun e w' => e = .returned (.tuple #[]) ∧ w'.cell? ⟨bx, 1, none⟩ = some (.int .i64 oi) ∧ w'.cell? ⟨bx, 2, none⟩ = some (.int .i64 tm) ∧
              Hid (Calls Try.prog 12 #[.slice A' N c', .int .i64 oi, .int .i64 tm] w' fun e w'' => ∃ A2 c2 N2, e = .returned (.slice A2 N2 c2) ∧ Hid (N2 = (setR R (oi, tm)).length ∧ TR w w'' t (setR R (oi, tm)) A2 N2 c2 (setR R (oi, tm))))) := Lib.hid (by
            obtain ⟨Φ, p1, p2⟩ := HBX.out
            refine (Set_any p1 (by omega) (oi, tm) HOI.out).mono ?_
            rintro e w' ⟨he, ho⟩
            obtain ⟨q1, q2⟩ := p2 _ _ ho
            refine ⟨he, q1.1, q1.2, Lib.hid ((q2.rset (by omega) (oi, tm)).mono ?_)⟩
            rintro e w'' ⟨A2, c2, he2, hT2⟩
            exact ⟨A2, c2, _, he2, Lib.hid ⟨rfl, hT2.out⟩⟩)
          have hR2 : (setR R (oi, tm)).length ≤ k + 1 := by have := length_setR R (oi, tm); omega
          generalize setR R (oi, tm) = R2 at *
          clear HBX HTV
          go_upto_region 30 with (first
            | (go_at_call 11; refine HC1.out.mono ?_; rintro e w2 ⟨rfl, e1, e2, HC2⟩)
            | (go_at_call 12; refine HC2.out.mono ?_; rintro e w3 ⟨A2, c2, N2, rfl, HT2⟩))
          clear v0 v1 v2 vs e1 e2 HC1 HC2
          obtain ⟨htl1, htl2⟩ := HTAIL.out w3 t R2 A2 N2 c2 HT2.out.1 (by omega) HT2.out.2
          have HLN := Lib.hid htl1
          have HAL := Lib.hid htl2
          have HN2 := Lib.hid HT2.out.1
          clear htl1 htl2 HT2
          go_wp2_with (first
            | (go_at_call 19; refine HLN.out.mono ?_; rintro e w5 ⟨rfl, rfl⟩)
            | (go_at_call 20; refine HAL.out.mono ?_; rintro e w6 ⟨A5, c5, rfl, HSM⟩)
            | (go_at_call 16; refine HSM.out.mono ?_; rintro e w7 ⟨rfl, HTX⟩))
          go_roundw
          case rel => exact ⟨k + 1, t, A2, c2, N2, R2, rfl, rfl, by go_num, by omega, hR2, HN2, HTX⟩
          case measure => simp [intOf]; omega
        · have hb0 : (kd == 0) = false := beq_eq_false_iff_ne.2 hk0
          by_cases hk1 : kd = 1
          · subst hk1
            have HC1 : Hid (Calls Try.prog 13 #[.slice A' N c', .int .i64 oi] V fun e w' => ∃ A2 c2 N2 bb, e = .returned (.slice A2 N2 c2) ∧ w'.cell? ⟨bx, 1, none⟩ = some (.int .i64 oi) ∧ decide ((N2 : Int) < (N : Int)) = bb ∧ decide (N2 < N) = bb ∧
                Hid (Calls Try.prog 14 #[.pointer (some ⟨t, 0, none⟩), .int .i64 oi] w' fun e w'' => e = .returned (.bool bb) ∧ Hid (N2 = (dropR R oi).length ∧ TR w w'' t (dropR R oi) A2 N2 c2 (dropR R oi)))) := Lib.hid (by
              refine (refDrop_any HTV.out.rd (by omega) oi).mono ?_
              rintro e w' hr
              have hrb := hr
              obtain ⟨A3, c3, _, _, hb⟩ := hrb
              obtain ⟨A2, c2, he, hT2⟩ := HTV.out.row hr
              refine ⟨A2, c2, _, decide ((dropR R oi).length < R.length), he, (hb.cell (p := ⟨bx, 1, none⟩) vs).trans v1, by rw [HNN.out]; simp, by rw [HNN.out], Lib.hid ((hT2.out.drop (by omega) oi HOI.out).mono ?_)⟩
              rintro e w'' ⟨he2, hT3⟩
              exact ⟨he2, Lib.hid ⟨rfl, hT3.out⟩⟩)
            have hR2 : (dropR R oi).length ≤ k + 1 := by have : (dropR R oi).length ≤ R.length := List.length_filter_le _ _; omega
            generalize dropR R oi = R2 at *
            clear HBX HTV
            go_upto_region 30 with (first
              | (go_at_call 13; refine HC1.out.mono ?_; rintro e w2 ⟨A2, c2, N2, bb, rfl, e1, db1, db2, HC2⟩)
              | (go_at_call 14; refine HC2.out.mono ?_; rintro e w3 ⟨rfl, HT2⟩))
            clear v0 v1 v2 vs e1 db1 db2 HC1 HC2
            obtain ⟨htl1, htl2⟩ := HTAIL.out w3 t R2 A2 N2 c2 HT2.out.1 (by omega) HT2.out.2
            have HLN := Lib.hid htl1
            have HAL := Lib.hid htl2
            have HN2 := Lib.hid HT2.out.1
            clear htl1 htl2 HT2
            go_wp2_with (first
              | (go_at_call 19; refine HLN.out.mono ?_; rintro e w5 ⟨rfl, rfl⟩)
              | (go_at_call 20; refine HAL.out.mono ?_; rintro e w6 ⟨A5, c5, rfl, HSM⟩)
              | (go_at_call 16; refine HSM.out.mono ?_; rintro e w7 ⟨rfl, HTX⟩))
            go_roundw
            case rel => exact ⟨k + 1, t, A2, c2, N2, R2, rfl, rfl, by go_num, by omega, hR2, HN2, HTX⟩
            case measure => simp [intOf]; omega
          · have hb1 : (kd == 1) = false := beq_eq_false_iff_ne.2 hk1
            by_cases hk2 : kd = 2
            · subst hk2
              obtain ⟨dn, hdn⟩ : ∃ dn, dn = dueN R tm := ⟨_, rfl⟩
              have hdl : dn ≤ N := by rw [hdn, HNN.out]; exact dueN_le _ _
              have hrd := refDue_any HTV.out.rd tm
              rw [← hdn] at hrd
              have HRD := Lib.hid hrd
              have HC1 : Hid (Calls Try.prog 17 #[.pointer (some ⟨t, 0, none⟩), .int .i64 tm] V.drew fun e w' => ∃ A1 c1, e = .returned (.slice A1 dn c1) ∧ w'.cell? ⟨bx, 2, none⟩ = some (.int .i64 tm) ∧
                  Hid (Calls Try.prog 16 #[.slice A1 dn c1, .slice A' dn c'] w' fun e w'' => e = .returned (.bool true) ∧ w''.cell? ⟨bx, 2, none⟩ = some (.int .i64 tm) ∧ Hid (TR w w'' t (R.drop dn) A' N c' R))) := Lib.hid (by
                obtain ⟨Φ, p1, p2⟩ := HBX.out
                have hbd : Below V.heap.size V V.drew := (Below.refl _ _).drew
                refine (Due_any (p1.below hbd) (by omega) tm).mono ?_
                unfold DueSaid
                rw [← hdn]
                rintro e w' ⟨v, rfl, hr, ht, hcg⟩
                have hcg2 : Chg Φ V w' := (Chg.of_below hbd).trans hcg fun _ _ e => e
                obtain ⟨q1, q2⟩ := p2 w' _ ⟨ht.mono fun _ _ hk => .inl hk, hcg2⟩
                obtain ⟨A1, c1, rfl, _⟩ := own_isSlice hr
                refine ⟨A1, c1, rfl, q1.2, Lib.hid ((same_any (IRd.of_slice (Ψ := fun _ => True) hr fun _ _ => trivial) (q2.rd.take hdl) (by omega)).mono ?_)⟩
                rintro e w'' ⟨he, q, rfl⟩
                exact ⟨he, q1.2, Lib.hid (q2.later ⟨rfl, rfl, rfl, Nat.le_refl _, fun _ _ => rfl⟩)⟩)
              have hR2 : (R.drop dn).length ≤ k + 1 := by rw [List.length_drop]; omega
              have hcap := HTV.out.rd.cap
              have hmax := HTV.out.rd.max
              have hnil := HTV.out.rd.nil
              unfold maxLen at hmax
              have HR2N : Hid (N - dn = (R.drop dn).length) := Lib.hid (by rw [List.length_drop, HNN.out])
              clear HBX HTV hrd hdn
              go_upto_region 27 with (go_at_call 15; refine HRD.out.mono ?_; rintro e w2 ⟨rfl, rfl⟩)
              have hdl' : (dn : Int) ≤ N := by omega
              have hdc : dn ≤ c' := by omega
              go_region_held3 (fun w' => w'.cell? ⟨bx, 2, none⟩ = some (.int .i64 tm))
                (first | assumption | exact v2)
                (first
                  | (go_at_call 17; refine HC1.out.mono ?_; rintro e w3 ⟨A1, c1, rfl, e2, HC2⟩)
                  | (go_at_call 16; refine HC2.out.mono ?_; rintro e w4 ⟨rfl, e3, HT2⟩))
              all_goals
                clear v0 v1 v2 vs e2 e3 HC1 HC2 HRD
                rcases A' with _ | a
                · obtain ⟨rfl, rfl⟩ := hnil rfl
                  obtain rfl : dn = 0 := by omega
                  go_upto_region 30 with fail
                  have HT3 : Hid (0 = (R.drop 0).length ∧ TR w w4 t (R.drop 0) none 0 0 (R.drop 0)) := Lib.hid (by
                    have h1 := HT2.out
                    have h0 : R = [] := List.eq_nil_of_length_eq_zero HNN.out.symm
                    subst h0
                    exact ⟨rfl, h1⟩)
                  generalize R.drop 0 = R2 at *
                  clear HT2 hnil
                  obtain ⟨htl1, htl2⟩ := HTAIL.out w4 t R2 none 0 0 HT3.out.1 (by omega) HT3.out.2
                  have HLN := Lib.hid htl1
                  have HAL := Lib.hid htl2
                  have HN2 := Lib.hid HT3.out.1
                  clear htl1 htl2 HT3
                  go_wp2_with (first
                    | (go_at_call 19; refine HLN.out.mono ?_; rintro e w5 ⟨rfl, rfl⟩)
                    | (go_at_call 20; refine HAL.out.mono ?_; rintro e w6 ⟨A5, c5, rfl, HSM⟩)
                    | (go_at_call 16; refine HSM.out.mono ?_; rintro e w7 ⟨rfl, HTX⟩))
                  go_roundw
                  case rel => exact ⟨k + 1, t, none, 0, 0, R2, rfl, rfl, by go_num, by omega, hR2, HN2, HTX⟩
                  case measure => simp [intOf]; omega
                · by_cases hN0 : N = 0
                  · obtain rfl : dn = 0 := by omega
                    have HT3 : Hid (∀ x cq, cq ≤ c' → 0 = (R.drop 0).length ∧ TR w w4 t (R.drop 0) (some x) 0 cq (R.drop 0)) := Lib.hid fun x cq hcq => by
                      have h1 := HT2.out
                      have h0 : R = [] := List.eq_nil_of_length_eq_zero (by rw [← HNN.out]; exact hN0)
                      subst h0
                      exact ⟨rfl, TR.row_zero h1 (by unfold maxLen; omega)⟩
                    subst hN0
                    generalize R.drop 0 = R2 at *
                    by_cases hc0 : c' = 0
                    · subst hc0
                      go_upto_region 30 with fail
                      have HT4 := Lib.hid (HT3.out a 0 (Nat.le_refl _))
                      clear HT2 HT3 hnil
                      obtain ⟨htl1, htl2⟩ := HTAIL.out w4 t R2 (some a) 0 0 HT4.out.1 (by omega) HT4.out.2
                      have HLN := Lib.hid htl1
                      have HAL := Lib.hid htl2
                      have HN2 := Lib.hid HT4.out.1
                      clear htl1 htl2 HT4
                      go_wp2_with (first
                        | (go_at_call 19; refine HLN.out.mono ?_; rintro e w5 ⟨rfl, rfl⟩)
                        | (go_at_call 20; refine HAL.out.mono ?_; rintro e w6 ⟨A5, c5, rfl, HSM⟩)
                        | (go_at_call 16; refine HSM.out.mono ?_; rintro e w7 ⟨rfl, HTX⟩))
                      go_roundw
                      case rel => exact ⟨k + 1, t, (some a), 0, 0, R2, rfl, rfl, by go_num, by omega, hR2, HN2, HTX⟩
                      case measure => simp [intOf]; omega
                    · go_upto_region 30 with fail
                      have HT4 := Lib.hid (HT3.out a c' (Nat.le_refl _))
                      clear HT2 HT3 hnil
                      obtain ⟨htl1, htl2⟩ := HTAIL.out w4 t R2 (some a) 0 c' HT4.out.1 (by omega) HT4.out.2
                      have HLN := Lib.hid htl1
                      have HAL := Lib.hid htl2
                      have HN2 := Lib.hid HT4.out.1
                      clear htl1 htl2 HT4
                      go_wp2_with (first
                        | (go_at_call 19; refine HLN.out.mono ?_; rintro e w5 ⟨rfl, rfl⟩)
                        | (go_at_call 20; refine HAL.out.mono ?_; rintro e w6 ⟨A5, c5, rfl, HSM⟩)
                        | (go_at_call 16; refine HSM.out.mono ?_; rintro e w7 ⟨rfl, HTX⟩))
                      go_roundw
                      case rel => exact ⟨k + 1, t, (some a), c', 0, R2, rfl, rfl, by go_num, by omega, hR2, HN2, HTX⟩
                      case measure => simp [intOf]; omega
                  · obtain ⟨bb, oo, ea, _⟩ := HT2.out.rd.place 0 (by omega)
                    cases ea
                    by_cases hc0 : c' = dn
                    · have HT4 : Hid (0 = (R.drop dn).length ∧ TR w w4 t (R.drop dn) (some ⟨bb, oo, none⟩) 0 0 (R.drop dn)) := Lib.hid (by
                        have h0 : R.drop dn = [] := List.eq_nil_of_length_eq_zero (by rw [List.length_drop, ← HNN.out]; omega)
                        have h1 := HT2.out
                        rw [h0] at h1 ⊢
                        exact ⟨rfl, TR.row_zero h1 (Nat.zero_le _)⟩)
                      generalize R.drop dn = R2 at *
                      subst hc0
                      go_upto_region 30 with fail
                      clear HT2 hnil
                      obtain ⟨htl1, htl2⟩ := HTAIL.out w4 t R2 (some ⟨bb, oo, none⟩) 0 0 HT4.out.1 (by omega) HT4.out.2
                      have HLN := Lib.hid htl1
                      have HAL := Lib.hid htl2
                      have HN2 := Lib.hid HT4.out.1
                      clear htl1 htl2 HT4
                      go_wp2_with (first
                        | (go_at_call 19; refine HLN.out.mono ?_; rintro e w5 ⟨rfl, rfl⟩)
                        | (go_at_call 20; refine HAL.out.mono ?_; rintro e w6 ⟨A5, c5, rfl, HSM⟩)
                        | (go_at_call 16; refine HSM.out.mono ?_; rintro e w7 ⟨rfl, HTX⟩))
                      go_roundw
                      case rel => exact ⟨k + 1, t, (some ⟨bb, oo, none⟩), 0, 0, R2, rfl, rfl, by go_num, by omega, hR2, HN2, HTX⟩
                      case measure => simp [intOf]; omega
                    · have HT4 : Hid (N - dn = (R.drop dn).length ∧ TR w w4 t (R.drop dn) (some ⟨bb, oo + dn * 2, none⟩) (N - dn) (c' - dn) (R.drop dn)) := Lib.hid ⟨HR2N.out, by
                        obtain ⟨Φ, h1, h2, h3, h4⟩ := HT2.out
                        exact ⟨Φ, h1, h2, h3.drop hdl, h4⟩⟩
                      go_upto_region 30 with fail
                      generalize R.drop dn = R2 at *
                      clear HT2 hnil
                      obtain ⟨htl1, htl2⟩ := HTAIL.out w4 t R2 (some ⟨bb, oo + dn * 2, none⟩) (N - dn) (c' - dn) HT4.out.1 (by omega) HT4.out.2
                      have HLN := Lib.hid htl1
                      have HAL := Lib.hid htl2
                      have HN2 := Lib.hid HT4.out.1
                      clear htl1 htl2 HT4
                      go_wp2_with (first
                        | (go_at_call 19; refine HLN.out.mono ?_; rintro e w5 ⟨rfl, rfl⟩)
                        | (go_at_call 20; refine HAL.out.mono ?_; rintro e w6 ⟨A5, c5, rfl, HSM⟩)
                        | (go_at_call 16; refine HSM.out.mono ?_; rintro e w7 ⟨rfl, HTX⟩))
                      go_roundw
                      case rel => exact ⟨k + 1, t, (some ⟨bb, oo + dn * 2, none⟩), (c' - dn), (N - dn), R2, rfl, rfl, by go_num, by omega, hR2, HN2, HTX⟩
                      case measure => simp [intOf]; omega
            · have hb2 : (kd == 2) = false := beq_eq_false_iff_ne.2 hk2
              have HC1 : Hid (Calls Try.prog 18 #[.pointer (some ⟨t, 0, none⟩)] V fun e w' => ∃ cc, e = .returned (.pointer (some ⟨cc, 0, none⟩)) ∧ Hid (Calls Try.prog 11 #[.pointer (some ⟨t, 0, none⟩), .int .i64 1, .int .i64 1] w' fun e w'' => e = .returned (.tuple #[]) ∧
                  Hid (Calls Try.prog 17 #[.pointer (some ⟨t, 0, none⟩), .int .i64 1] w'' fun e w3 => ∃ v, e = .returned v ∧ Hid (N = R.length ∧ TR w w3 cc R A' N c' R)))) := Lib.hid (by
                refine (HTV.out.copy (by omega)).mono ?_
                rintro e w' ⟨cc, he, h1⟩
                refine ⟨cc, he, Lib.hid ((h1.out.swap.set (by omega) (1, 1) (by unfold wfk; decide)).mono ?_)⟩
                rintro e w'' ⟨he2, h2⟩
                refine ⟨he2, Lib.hid ((h2.out.due (by have := length_setR R (1, 1); omega) 1).mono ?_)⟩
                rintro e w3 ⟨v, he3, h3⟩
                exact ⟨v, he3, Lib.hid ⟨HNN.out, h3.out.tr⟩⟩)
              have hR2 : R.length ≤ k + 1 := by omega
              clear HBX HTV
              go_upto_region 30 with (first
                | (go_at_call 18; refine HC1.out.mono ?_; rintro e w2 ⟨cc, rfl, HC2⟩)
                | (go_at_call 11; refine HC2.out.mono ?_; rintro e w3 ⟨rfl, HC3⟩)
                | (go_at_call 17; refine HC3.out.mono ?_; rintro e w4 ⟨v5, rfl, HT2⟩))
              clear v0 v1 v2 vs HC1 HC2 HC3
              obtain ⟨htl1, htl2⟩ := HTAIL.out w4 cc R A' N c' HT2.out.1 (by omega) HT2.out.2
              have HLN := Lib.hid htl1
              have HAL := Lib.hid htl2
              have HN2 := Lib.hid HT2.out.1
              clear htl1 htl2 HT2
              go_wp2_with (first
                | (go_at_call 19; refine HLN.out.mono ?_; rintro e w5 ⟨rfl, rfl⟩)
                | (go_at_call 20; refine HAL.out.mono ?_; rintro e w6 ⟨A5, c5, rfl, HSM⟩)
                | (go_at_call 16; refine HSM.out.mono ?_; rintro e w7 ⟨rfl, HTX⟩))
              go_roundw
              case rel => exact ⟨k + 1, cc, A', c', N, R, rfl, rfl, by go_num, by omega, hR2, HN2, HTX⟩
              case measure => simp [intOf]; omega
      · obtain rfl : k = n := by omega
        have HBW := Lib.hid HT.out.tm.2
        clear HT
        go_wp2_with (go_at_call 9; refine (HAW.out _).mono ?_; rintro e w8 ⟨rfl, hb⟩; have HB := Lib.hid hb; clear hb)
        go_ret
        exact ⟨rfl, HBW.out.trans (HB.out.mono HBW.out.size)⟩
end Go.Proofs.Ytednibjemboclaa
