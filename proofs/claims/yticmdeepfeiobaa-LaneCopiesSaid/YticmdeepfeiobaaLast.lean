/- What is proved here: that one that goes, and comes again, is the last of all and of its group (LaneLast). -/
import Derived.Test.YticmdeepfeiobaaGroups
import Derived.Test.YticmdeepfeiobaaAll
import Derived.Test.YticmdeepfeiobaaOf
namespace Go.Proofs.Yticmdeepfeiobaa
open Go Go.RowKit Go.Maps Go.WideMaps

theorem addT_new {L : List Th} {k : Int} (h : at_ L k = none) (s : ByteArray) (N : Nat) : addT L s k N = L ++ [⟨s, k, N + 1⟩] := by
  unfold addT
  rw [h]
  rfl
theorem ids_snoc (L : List Th) (x : Th) : ids (L ++ [x]) = ids L ++ [x.id] := by simp [ids]
theorem ofG_snoc (L : List Th) (s : ByteArray) (k : Int) (n : Nat) : ofG (L ++ [⟨s, k, n⟩]) s = ofG L s ++ [k] := by simp [ofG]
/-- A row of its own whose last is k. -/
theorem own_last {w : World} {base n c : Nat} {A : Option Addr} {xs : List Int} {k : Int} (h : w.ownsRow base 3 1 (.slice A n c) n ((xs ++ [k]).map (Value.int .i64))) (hn : n = xs.length + 1) :
    ∃ b, A = some ⟨b, 0, none⟩ ∧ b < w.heap.size ∧ w.cell? ⟨b, xs.length, none⟩ = some (.int .i64 k) ∧ n ≤ c ∧ c ≤ maxLen := by
  rcases h.2 with ⟨e, h0⟩ | ⟨g, cap, cur, e, _, hg, h1, h2, _⟩
  · omega
  · cases e
    refine ⟨g, rfl, (Array.getElem?_eq_some_iff.1 hg).1, ?_, h1, h2⟩
    have := h.cellAt xs.length (by simp; omega)
    simpa using this

/-- What the last two questions answer. -/
theorem last_two {w0 w : World} {l N : Nat} {L : List Th} (hL : L.length < 800000) {s : ByteArray} (hs : s.size ≤ maxLen) {k : Int} {n : Nat} {m m1 q q1 : Nat} (hm : m = L.length) (hm1 : m + 1 = m1) (hq : q = (ofG L s).length) (hq1 : q + 1 = q1)
    (h2 : LN w0 w l (L ++ [⟨s, k, n⟩]) N) :
    Calls Try.prog 17 #[.pointer (some ⟨l, 0, none⟩)] w fun e w' => ∃ b c, e = .returned (.slice (some ⟨b, 0, none⟩) m1 c) ∧ w'.cell? ⟨b, m, none⟩ = some (.int .i64 k) ∧ m1 ≤ c ∧ c ≤ maxLen ∧
      Hid (Calls Try.prog 20 #[.pointer (some ⟨l, 0, none⟩), .string s] w' fun e w'' => ∃ b2 c2, e = .returned (.slice (some ⟨b2, 0, none⟩) q1 c2) ∧ w''.cell? ⟨b, m, none⟩ = some (.int .i64 k) ∧ w''.cell? ⟨b2, q, none⟩ = some (.int .i64 k) ∧ q1 ≤ c2 ∧ c2 ≤ maxLen ∧ Hid (Below w0.heap.size w0 w'')) := by
  have hl2 : (L ++ [(⟨s, k, n⟩ : Th)]).length < 900000 := by simp; omega
  refine (All_any h2.1 (by omega)).mono ?_
  rintro e w' ⟨A, c, rfl, how, hb⟩
  rw [ids_snoc] at how
  have hlen : (ids L ++ [k]).length = m1 := by simp [ids]; omega
  obtain ⟨b, rfl, hblt, hc, hc1, hc2⟩ := own_last how (by simp)
  have hidl : (ids L).length = m := by simp [ids]; omega
  rw [hidl] at hc
  refine ⟨b, c, ?_, hc, ?_, hc2, Lib.hid ?_⟩
  · rw [ids_snoc, hlen]
  · rw [← hlen]; exact hc1
  · have h3 := h2.later hb
    refine (Of_any h3.1 hs hl2).mono ?_
    rintro e w'' ⟨A2, c2, rfl, how2, hb2⟩
    rw [ofG_snoc] at how2 ⊢
    have hlen2 : (ofG L s ++ [k]).length = q1 := by simp; omega
    obtain ⟨b2, rfl, _, hd, hd1, hd2⟩ := own_last how2 (by simp)
    rw [← hq] at hd
    refine ⟨b2, c2, by rw [hlen2], ?_, hd, by rw [← hlen2]; exact hd1, hd2, Lib.hid (h3.2.trans (hb2.mono h3.2.size))⟩
    rw [hb2.cell (p := ⟨b, m, none⟩) hblt]
    exact hc

set_option maxHeartbeats 6400000 in
set_option maxRecDepth 100000 in
theorem laneLast_any {w : World} {A : Option Addr} {n c : Nat} {ops : List OpM} (hops : OpsRd w w.heap.size A n c ops) (s : ByteArray) (hs : s.size ≤ maxLen) (id : Int) (hid : wfk id) :
    Calls Try.prog 6 #[.slice A n c, .string s, .int .i64 id] w fun e w' => e = .returned (.bool true) ∧ Below w.heap.size w w' := by
  have HAW := Lib.hid fun W => awake_any W
  have hcm := hops.max
  have hcc := hops.cap
  unfold maxLen at hcm
  have HK := Lib.hid hops
  have HN := Lib.hid (New_any w)
  have HS := Lib.hid hs
  have HID := Lib.hid hid
  clear hops hs hid
  by_cases h60 : 60 < n
  · have h60' : (60 : Int) < n := by omega
    go_enter Try.func6, Try.ntmps6
    go_wp2_with (go_at_call 8; refine (HAW.out _).mono ?_; rintro e w1 ⟨rfl, hb⟩; have HB := Lib.hid hb; clear hb)
    go_ret
    exact ⟨rfl, HB.out⟩
  · have h60' : ¬ (60 : Int) < n := by omega
    have hn60 : n ≤ 60 := by omega
    by_cases h20 : 20 < s.size
    · have h20' : (20 : Int) < s.size := by omega
      go_enter Try.func6, Try.ntmps6
      go_wp2_with (go_at_call 8; refine (HAW.out _).mono ?_; rintro e w1 ⟨rfl, hb⟩; have HB := Lib.hid hb; clear hb)
      go_ret
      exact ⟨rfl, HB.out⟩
    · have h20' : ¬ (20 : Int) < s.size := by omega
      go_enter Try.func6, Try.ntmps6
      go_wp2_with (go_at_call 9; refine HN.out.mono ?_; rintro e w1 ⟨rfl, hb, ht⟩; have HT0 := Lib.hid (LN.new (Below.refl _ _) hb ht); clear hb ht)
      generalize w.heap.size + 2 = l at *
      clear HN h60 h20
      go_loopw [27] (fun i wr => ∃ (k N : Nat) (L : List Th), i = .int .i64 k ∧ k ≤ n ∧ Hid (N ≤ k ∧ L.length ≤ k) ∧ Hid (LN w wr l L N)) (fun i _ => n - (intOf i).toNat)
      case atStart => exact ⟨0, 0, [], rfl, Nat.zero_le _, Lib.hid ⟨Nat.le_refl _, Nat.le_refl _⟩, HT0⟩
      case round =>
        clear HT0
        obtain ⟨k, N, L, rfl, hkn, HNK, HT⟩ := hrel
        by_cases hlt : k < n
        · obtain ⟨p, b, o, hok, hpl, hA, r0, r1, r2⟩ := HK.out.op HT.out.2 hlt
          subst hA
          have hlt' : (k : Int) < n := by omega
          obtain ⟨V, hV⟩ : ∃ V, V = wr.alloc (.cells #[.int .i64 p.kind, .int .i64 p.id, .string p.g] 28) := ⟨_, rfl⟩
          have v1 : V.cell? ⟨wr.heap.size, 1, none⟩ = some (.int .i64 p.id) := by rw [hV]; simp
          have v2 : V.cell? ⟨wr.heap.size, 2, none⟩ = some (.string p.g) := by rw [hV]; simp
          have HTV : Hid (LN w V l L N) := Lib.hid (HT.out.later (by rw [hV]; exact (Below.refl wr.heap.size wr).alloc (Nat.le_refl _) _))
          have HC : Hid (¬ 20 < p.g.size → _) := Lib.hid fun h20 => HTV.out.add (by have := HNK.out; omega) (by have := HNK.out; omega) (s := p.g) (by unfold maxLen; omega) (k := p.id) hok.ii
          have HL2 : Hid (addN L p.id N ≤ k + 1 ∧ (addT L p.g p.id N).length ≤ k + 1) := Lib.hid (by
            have := HNK.out
            have := addN_le L p.id N
            have := length_addT L p.g p.id N
            omega)
          have HV := Lib.hid hV
          clear hV hpl
          go_upto_region 9 with fail
          rw [← HV.out]
          clear r0 r1 r2 HT
          generalize wr.heap.size = bx at *
          by_cases h20g : 20 < p.g.size
          · have h20g' : (20 : Int) < p.g.size := by omega
            go_wp2_with (go_at_call 8; refine (HAW.out _).mono ?_; rintro e w1 ⟨rfl, hb⟩; have HB := Lib.hid (HTV.out.2.trans (hb.mono HTV.out.2.size)); clear hb)
            go_ret
            exact ⟨rfl, HB.out⟩
          · have h20g' : ¬ (20 : Int) < p.g.size := by omega
            have HC2 := Lib.hid (HC.out h20g)
            clear HC
            generalize addT L p.g p.id N = L3 at *
            generalize addN L p.id N = N3 at *
            generalize (at_ L p.id).isNone = q at *
            go_wp2_with (go_at_call 11; go_fit HC2.out; rintro e w2 ⟨rfl, HT3⟩)
            go_roundw
            case rel => exact ⟨k + 1, N3, L3, by go_num, by omega, HL2, HT3⟩
            case measure => simp [intOf]; omega
        · obtain rfl : k = n := by omega
          have hd0 : decide ((k : Int) < (k : Int)) = false := decide_eq_false (by omega)
          obtain ⟨n0, hn0⟩ : ∃ x, L.length = x := ⟨_, rfl⟩
          have HLEN := Lib.hid HT.out.len
          rw [hn0] at HLEN
          have HDR := Lib.hid (HT.out.drop (by have := HNK.out; omega) HID.out)
          have hn0k : n0 ≤ k := by have := HNK.out; omega
          obtain ⟨L1, hL1⟩ : ∃ x, dropT L id = x := ⟨_, rfl⟩
          have hat : at_ L1 id = none := by rw [← hL1]; exact at_drop_same L id
          rw [hL1] at HDR
          obtain ⟨m, hm⟩ : ∃ x, L1.length = x := ⟨_, rfl⟩
          have hnd : (ids L).Nodup := by
            obtain ⟨_, _, _, _, _, h'⟩ := HT.out.1
            exact h'.nodup
          obtain ⟨m1, hm1⟩ : ∃ x, m + 1 = x := ⟨_, rfl⟩
          obtain ⟨q, hq⟩ : ∃ x, x = (ofG L1 s).length := ⟨_, rfl⟩
          obtain ⟨q1, hq1⟩ : ∃ x, q + 1 = x := ⟨_, rfl⟩
          have hql : q ≤ m := by
            rw [hq, ← hm]
            unfold ofG
            rw [List.length_map]
            exact List.length_filter_le _ _
          have hm1z : (m : Int) + 1 = (m1 : Int) := by omega
          have hq1z : (q1 : Int) - 1 = (q : Int) := by omega
          have hmm : m < m1 := by omega
          have hqq : q < q1 := by omega
          have hmmz : (m : Int) < (m1 : Int) := by omega
          have hqqz : (q : Int) < (q1 : Int) := by omega
          have hq0z : (0 : Int) < (q1 : Int) := by omega
          have hmle : m ≤ n0 := by rw [← hm, ← hn0, ← hL1]; exact length_dropT_le L id
          have hm1s : m1 < 100 := by omega
          have hq1s : q1 < 100 := by omega
          have HADD : Hid (∀ w2, LN w w2 l L1 N → Calls Try.prog 11 #[.pointer (some ⟨l, 0, none⟩), .string s, .int .i64 id] w2 fun e w' => e = .returned (.bool true) ∧ Hid (LN w w' l (L1 ++ [⟨s, id, N + 1⟩]) (N + 1))) := Lib.hid fun w2 h => by
            have := h.add (by have := HNK.out; omega) (by omega) HS.out HID.out
            rw [addT_new hat, hat] at this
            unfold addN at this
            rw [hat] at this
            exact this
          have HLEN2 : Hid (∀ w2, LN w w2 l (L1 ++ [⟨s, id, N + 1⟩]) (N + 1) → Calls Try.prog 15 #[.pointer (some ⟨l, 0, none⟩)] w2 fun e w' => e = .returned (.int .i64 m1) ∧ w2 = w') := Lib.hid fun w2 h => by
            have := h.len
            rwa [show (L1 ++ [(⟨s, id, N + 1⟩ : Th)]).length = m1 by simp; omega] at this
          have HTWO : Hid (∀ w2, LN w w2 l (L1 ++ [⟨s, id, N + 1⟩]) (N + 1) → _) := Lib.hid fun w2 h => last_two (L := L1) (k := id) (n := N + 1) (m := m) (m1 := m1) (q := q) (q1 := q1) (s := s) (by omega) HS.out hm.symm hm1 hq hq1 h
          cases hqq2 : (at_ L id).isSome with
          | true =>
            rw [hqq2] at HDR
            have hn0z : (n0 : Int) - 1 = (m : Int) := by
              have := dropT_lt L id
              rw [hqq2] at this
              have h1 : (dropT L id).length < L.length := by simpa using this.symm
              obtain ⟨x, hx⟩ : ∃ x, at_ L id = some x := Option.isSome_iff_exists.1 hqq2
              obtain ⟨hx1, hx2⟩ := at_some hx
              have h2 := length_dropT hnd hx1
              rw [hx2] at h2
              rw [← hm, ← hL1]
              omega
            clear hat hnd hL1 hm hn0 hq hq1 hm1 hqq2
            go_wp2_with (first
              | (go_at_call 15; go_fit HLEN.out; rintro e w2 ⟨rfl, rfl⟩)
              | (go_at_call 13; go_fit HDR.out; rintro e w2 ⟨rfl, HT2⟩)
              | (go_at_call 11; go_fit (HADD.out _ HT2.out); rintro e w3 ⟨rfl, HT3⟩)
              | (go_at_call 15; go_fit (HLEN2.out _ HT3.out); rintro e w4 ⟨rfl, rfl⟩)
              | (go_at_call 17; go_fit (HTWO.out _ HT3.out); rintro e w5 ⟨b, c1, rfl, k1, hc1, hc2, HOF⟩)
              | (go_at_call 20; go_fit HOF.out; rintro e w6 ⟨b2, c2, rfl, k2, k3, hc3, hc4, HLO⟩)
              | (go_at_call 8; refine (HAW.out _).mono ?_; rintro e w7 ⟨rfl, hb⟩; have HB := Lib.hid (HLO.out.trans (hb.mono HLO.out.size)); clear hb))
            go_ret
            exact ⟨rfl, HB.out⟩
          | false =>
            rw [hqq2] at HDR
            obtain rfl : n0 = m := by
              have h1 : at_ L id = none := by
                cases h2 : at_ L id with
                | none => rfl
                | some x => rw [h2] at hqq2; cases hqq2
              rw [← hm, ← hL1, dropT_none h1, hn0]
            clear hat hnd hL1 hm hn0 hq hq1 hm1 hqq2
            go_wp2_with (first
              | (go_at_call 15; go_fit HLEN.out; rintro e w2 ⟨rfl, rfl⟩)
              | (go_at_call 13; go_fit HDR.out; rintro e w2 ⟨rfl, HT2⟩)
              | (go_at_call 11; go_fit (HADD.out _ HT2.out); rintro e w3 ⟨rfl, HT3⟩)
              | (go_at_call 15; go_fit (HLEN2.out _ HT3.out); rintro e w4 ⟨rfl, rfl⟩)
              | (go_at_call 17; go_fit (HTWO.out _ HT3.out); rintro e w5 ⟨b, c1, rfl, k1, hc1, hc2, HOF⟩)
              | (go_at_call 20; go_fit HOF.out; rintro e w6 ⟨b2, c2, rfl, k2, k3, hc3, hc4, HLO⟩)
              | (go_at_call 8; refine (HAW.out _).mono ?_; rintro e w7 ⟨rfl, hb⟩; have HB := Lib.hid (HLO.out.trans (hb.mono HLO.out.size)); clear hb))
            go_ret
            exact ⟨rfl, HB.out⟩
end Go.Proofs.Yticmdeepfeiobaa
