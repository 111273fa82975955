/- What is proved here: that whatever is put, dropped and swept, each call tells what the document says, and what is known is its (LedgerDoes). Written by mkdoes.py. -/
import Derived.Test.YtcdjahmnobjpkaaDoesL
namespace Go.Proofs.Ytcdjahmnobjpkaa
open Go Go.RowKit Go.Maps Go.WideMaps

set_option maxHeartbeats 12800000 in
set_option maxRecDepth 100000 in
theorem ledgerDoes_any {w : World} {A : Option Addr} {n c : Nat} {ops : List OpM} (rm : Int) (hrm : -9223372036854775808 ≤ rm ∧ rm ≤ 9223372036854775807) (hops : OpsRd w w.heap.size A n c ops) :
    Calls Try.prog 3 #[.int .i64 rm, .slice A n c] w fun e w' => e = .returned (.bool true) ∧ Below w.heap.size w w' := by
  have HAW := Lib.hid fun W => awake_any W
  have hcm := hops.max
  have hcc := hops.cap
  unfold maxLen at hcm
  have HK := Lib.hid hops
  have HN := Lib.hid (LG.new (Below.refl w.heap.size w) hrm)
  have HRM := Lib.hid hrm
  clear hops hrm
  by_cases h60 : 60 < n
  · have h60' : (60 : Int) < n := by omega
    go_enter Try.func3, Try.ntmps3
    go_wp2_with (go_at_call 8; refine (HAW.out _).mono ?_; rintro e w1 ⟨rfl, hb⟩; have HB := Lib.hid hb; clear hb)
    go_ret
    exact ⟨rfl, HB.out⟩
  · have h60' : ¬ (60 : Int) < n := by omega
    have hn60 : n ≤ 60 := by omega
    go_enter Try.func3, Try.ntmps3
    go_wp2_with (go_at_call 9; refine HN.out.mono ?_; rintro e w1 ⟨l0, rfl, HT00⟩; have HT0 := Lib.hid (LR.start HT00.out.1); clear HN HT00)
    clear h60
    go_loopw [5, 6, 25] (fun q v i wr => ∃ (k l : Nat) (A2 : Option Addr) (n2 c2 : Nat) (L : List En), q = .pointer (some ⟨l, 0, none⟩) ∧ v = .slice A2 n2 c2 ∧ i = .int .i64 k ∧ k ≤ n ∧ n2 ≤ k ∧ Hid (n2 = L.length) ∧ Hid (LR w wr l rm.toNat L A2 n2 c2 L)) (fun _ _ i _ => n - (intOf i).toNat)
    case atStart => exact ⟨0, l0, none, 0, 0, [], rfl, rfl, rfl, Nat.zero_le _, Nat.le_refl _, Lib.hid rfl, HT0⟩
    case round =>
      clear HT0
      obtain ⟨k, l, A2, n2, c2, L, rfl, rfl, rfl, hkn, hn2k, HNN, HT⟩ := hrel
      by_cases hlt : k < n
      · obtain ⟨p, b, o, hok, hpl, hA, r0, r1, r2, r3⟩ := HK.out.op HT.out.low hlt
        subst hA
        have hlt' : (k : Int) < n := by omega
        obtain ⟨v0, v1, v2, v3⟩ := box_cells wr p
        obtain ⟨V, hV⟩ : ∃ V, V = wr.alloc (opBox p) := ⟨_, rfl⟩
        rw [← hV] at v0 v1 v2 v3
        have HC0 : Hid (¬ 20 < p.k.size → _) := Lib.hid fun h20 => put_does HT.out hV (by omega) HRM.out (by unfold maxLen; omega)
        have HC1 : Hid (¬ 20 < p.k.size → _) := Lib.hid fun h20 => drop_does HT.out hV (by omega) (by unfold maxLen; omega)
        have HC2 := Lib.hid (sweep_does HT.out hV (by omega))
        have HC3 : Hid (¬ 20 < p.k.size → _) := Lib.hid fun h20 => copy_does HT.out hV (by omega) (by unfold maxLen; omega)
        have HLOW : Hid (Below w.heap.size w V) := Lib.hid (HT.out.low.trans (by rw [hV]; exact (below_box wr p).mono HT.out.low.size))
        have HLP : Hid ((putR rm.toNat L ⟨p.k, .int .i64 p.v, p.t⟩).length ≤ L.length + 1) := Lib.hid (put_len2 _ _ HT.out.lg.1.ok.srt _)
        have HLD : Hid ((dropE L p.k).length ≤ L.length) := Lib.hid (length_delN _ _)
        have HLS := Lib.hid (left_len L p.t)
        have HV := Lib.hid hV
        have hLk : L.length ≤ k := by have := HNN.out; omega
        clear hV hpl
        go_upto_region 10 with fail
        rw [← HV.out]
        clear r0 r1 r2 r3 HT
        generalize wr.heap.size = bx at *
        by_cases h20 : 20 < p.k.size
        · have h20' : (20 : Int) < p.k.size := by omega
          go_wp2_with (go_at_call 8; refine (HAW.out _).mono ?_; rintro e w1 ⟨rfl, hb⟩; have HB := Lib.hid (HLOW.out.trans (hb.mono HLOW.out.size)); clear hb)
          go_ret
          exact ⟨rfl, HB.out⟩
        · have h20' : ¬ (20 : Int) < p.k.size := by omega
          have HD0 := Lib.hid (HC0.out h20)
          have HD1 := Lib.hid (HC1.out h20)
          have HD3 := Lib.hid (HC3.out h20)
          clear HC0 HC1 HC3
          by_cases hk0 : p.kind = 0
          · have hkb : (p.kind == 0) = true := by simpa using hk0
            have hn3 : (putR rm.toNat L ⟨p.k, .int .i64 p.v, p.t⟩).length ≤ k + 1 := by have := HLP.out; omega
            have HLK := Lib.hid hn3
            clear HD1 HC2 HD3 HLD HLS HLP hn3
            generalize putR rm.toNat L ⟨p.k, .int .i64 p.v, p.t⟩ = L3 at *
            generalize putA rm.toNat L p.k = a3 at *
            go_upto_region 34 with (first
              | (go_at_call 10; go_fit HD0.out; rintro e w2 ⟨A3, n3, c3, rfl, ⟨u1, u2, u3⟩, HN3, HE0⟩; clear HD0 v0 v1 v2 v3)
              | (go_at_call 11; go_fit HE0.out; rintro e w3 ⟨rfl, HT3⟩; clear HE0 u1 u2 u3))
            have hn61 : n3 ≤ k + 1 := by
              have h1 := HN3.out
              have h2 := HLK.out
              omega
            have HSM := Lib.hid (HT3.out.same (by omega))
            clear HT3
            go_wp2_with (go_at_call 19; go_fit HSM.out; rintro e w9 ⟨rfl, HT9⟩)
            go_roundw
            case rel => exact ⟨k + 1, l, A3, n3, c3, L3, rfl, rfl, by go_num, by omega, hn61, HN3, HT9⟩
            case measure => simp [intOf]; omega
          · have hkb : (p.kind == 0) = false := beq_eq_false_iff_ne.2 hk0
            by_cases hk1 : p.kind = 1
            · have hkb1 : (p.kind == 1) = true := by simpa using hk1
              have hn3 : (dropE L p.k).length ≤ k + 1 := by have := HLD.out; omega
              have HLK := Lib.hid hn3
              clear HD0 HC2 HD3 HLD HLS HLP hn3
              generalize dropE L p.k = L3 at *
              generalize (findE L p.k).isSome = q3 at *
              go_upto_region 34 with (first
                | (go_at_call 12; go_fit HD1.out; rintro e w2 ⟨⟨i3, rfl, hi3⟩, rfl, HE0⟩; clear HD1)
                | (go_at_call 13; go_fit HE0.out; rintro e w3 ⟨rfl, u3, HE1⟩; clear HE0 v0 v1 v2 v3)
                | (go_at_call 14; go_fit HE1.out; rintro e w4 ⟨A3, n3, c3, rfl, HX4⟩; have HN3 := Lib.hid HX4.out.1; have HT3 := Lib.hid HX4.out.2; clear HE1 u3 HX4))
              have hn61 : n3 ≤ k + 1 := by
                have h1 := HN3.out
                have h2 := HLK.out
                omega
              have HSM := Lib.hid (HT3.out.same (by omega))
              clear HT3
              go_wp2_with (go_at_call 19; go_fit HSM.out; rintro e w9 ⟨rfl, HT9⟩)
              go_roundw
              case rel => exact ⟨k + 1, l, A3, n3, c3, L3, rfl, rfl, by go_num, by omega, hn61, HN3, HT9⟩
              case measure => simp [intOf]; omega
            · have hkb1 : (p.kind == 1) = false := beq_eq_false_iff_ne.2 hk1
              by_cases hk2 : p.kind = 2
              · have hkb2 : (p.kind == 2) = true := by simpa using hk2
                have hn3 : (leftE L p.t).length ≤ k + 1 := by have := HLS.out; omega
                have HLK := Lib.hid hn3
                clear HD0 HD1 HD3 HLD HLS HLP hn3
                generalize leftE L p.t = L3 at *
                go_upto_region 34 with (first
                  | (go_at_call 15; go_fit HC2.out; rintro e w2 ⟨A3, n3, c3, A4, q4, c4, rfl, u2, HN3, HE0⟩; clear HC2 v0 v1 v2 v3)
                  | (go_at_call 17; go_fit HE0.out; rintro e w3 ⟨A5, c5, rfl, HE1⟩; clear HE0 u2)
                  | (go_at_call 16; go_fit HE1.out; rintro e w4 ⟨rfl, HT3⟩; clear HE1))
                have hn61 : n3 ≤ k + 1 := by
                  have h1 := HN3.out
                  have h2 := HLK.out
                  omega
                have HSM := Lib.hid (HT3.out.same (by omega))
                clear HT3
                go_wp2_with (go_at_call 19; go_fit HSM.out; rintro e w9 ⟨rfl, HT9⟩)
                go_roundw
                case rel => exact ⟨k + 1, l, A3, n3, c3, L3, rfl, rfl, by go_num, by omega, hn61, HN3, HT9⟩
                case measure => simp [intOf]; omega
              · have hkb2 : (p.kind == 2) = false := beq_eq_false_iff_ne.2 hk2
                have HLK : Hid (L.length ≤ k + 1) := Lib.hid (by omega)
                have HN3 : Hid (n2 = L.length) := HNN
                clear HD0 HD1 HC2 HLD HLS HLP
                go_upto_region 34 with (first
                  | (go_at_call 18; go_fit HD3.out; rintro e w2 ⟨lc, rfl, ⟨u1, u2, u3⟩, HE0⟩; clear HD3 v0 v1 v2 v3)
                  | (go_at_call 11; go_fit (HE0.out _); rintro e w3 ⟨⟨q3, rfl⟩, HE1⟩; clear HE0 u1 u2 u3)
                  | (go_at_call 17; go_fit HE1.out; rintro e w4 ⟨⟨A5, q5, c5, rfl⟩, HT3⟩; clear HE1))
                have hn61 : n2 ≤ k + 1 := by
                  have h1 := HN3.out
                  have h2 := HLK.out
                  omega
                have HSM := Lib.hid (HT3.out.same (by omega))
                clear HT3
                go_wp2_with (go_at_call 19; go_fit HSM.out; rintro e w9 ⟨rfl, HT9⟩)
                go_roundw
                case rel => exact ⟨k + 1, lc, A2, n2, c2, L, rfl, rfl, by go_num, by omega, hn61, HN3, HT9⟩
                case measure => simp [intOf]; omega
      · obtain rfl : k = n := by omega
        have hd0 : decide ((k : Int) < (k : Int)) = false := decide_eq_false (by omega)
        have HBW := Lib.hid HT.out.low
        clear HT
        go_wp2_with (go_at_call 8; refine (HAW.out _).mono ?_; rintro e w8 ⟨rfl, hb⟩; have HB := Lib.hid hb; clear hb)
        go_ret
        exact ⟨rfl, HBW.out.trans (HB.out.mono HBW.out.size)⟩
end Go.Proofs.Ytcdjahmnobjpkaa
