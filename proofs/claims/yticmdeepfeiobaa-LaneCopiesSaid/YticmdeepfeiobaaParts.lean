/- What is proved here: that all things are those of all groups, and of each head its group begins with it (LaneParts). -/
import Derived.Test.YticmdeepfeiobaaLast
import Derived.Test.YticmdeepfeiobaaPartsM
namespace Go.Proofs.Yticmdeepfeiobaa
open Go Go.RowKit Go.Maps Go.WideMaps

/-- A round over the heads: the head's group, and all of it. -/
theorem part_two {w0 w : World} {l N : Nat} {L : List Th} (h : LN w0 w l L N) (hL : L.length < 800000) {x : Th} (hx : x ∈ headsT L) {q : Nat} (hq : q = (ofG L x.g).length) {A : Option Addr} {hn c : Nat} (hrow : w.ownsRow 0 3 1 (.slice A hn c) hn (((headsT L).map Th.id).map (Value.int .i64))) :
    Calls Try.prog 22 #[.pointer (some ⟨l, 0, none⟩), .int .i64 x.id] w fun e w' => e = .returned (.tuple #[.string x.g, .bool true]) ∧
      Hid (Calls Try.prog 20 #[.pointer (some ⟨l, 0, none⟩), .string x.g] w' fun e w'' => ∃ b2 c2, e = .returned (.slice (some ⟨b2, 0, none⟩) q c2) ∧ w''.cell? ⟨b2, 0, none⟩ = some (.int .i64 x.id) ∧ Hid (LN w0 w'' l L N ∧ w''.ownsRow 0 3 1 (.slice A hn c) hn (((headsT L).map Th.id).map (Value.int .i64)))) := by
  obtain ⟨hxL, hhd⟩ := headsT_mem.1 hx
  have hwf : wfk x.id ∧ x.g.size ≤ maxLen := by
    obtain ⟨_, _, _, _, _, h'⟩ := h.1
    exact h'.wf x hxL
  have hnd : (ids L).Nodup := by
    obtain ⟨_, _, _, _, _, h'⟩ := h.1
    exact h'.nodup
  have hat : at_ L x.id = some x := by
    cases ha : at_ L x.id with
    | none => exact absurd rfl (at_none.1 ha x hxL)
    | some y =>
      obtain ⟨hy, he⟩ := at_some ha
      rw [nodup_id hnd hy hxL he]
  refine (Group_any h.1 hwf.1).mono ?_
  rintro e w' ⟨rfl, hb⟩
  refine ⟨by rw [hat]; rfl, Lib.hid ?_⟩
  have h3 := h.later hb
  have hrow3 := own_below hrow hb
  refine (Of_any h3.1 hwf.2 (by omega)).mono ?_
  rintro e w'' ⟨A2, c2, rfl, how, hb2⟩
  obtain ⟨r, hr⟩ : ∃ r, ofG L x.g = x.id :: r := by
    cases ho : ofG L x.g with
    | nil => rw [ho] at hhd; cases hhd
    | cons y r =>
      rw [ho] at hhd
      exact ⟨r, by rw [Option.some.inj hhd]⟩
  rw [hr] at how hq
  obtain ⟨b2, c3, e, _⟩ := how.form (by simp)
  obtain ⟨rfl, rfl⟩ : A2 = some ⟨b2, 0, none⟩ ∧ c2 = c3 := by simpa using e
  have hc := how.cellAt 0 (by simp)
  refine ⟨b2, c2, by rw [hq, hr], by simpa using hc, Lib.hid ⟨h3.later hb2, own_below hrow3 hb2⟩⟩

set_option maxHeartbeats 6400000 in
set_option maxRecDepth 100000 in
theorem laneParts_any {w : World} {A : Option Addr} {n c : Nat} {ops : List OpM} (hops : OpsRd w w.heap.size A n c ops) :
    Calls Try.prog 5 #[.slice A n c] w fun e w' => e = .returned (.bool true) ∧ Below w.heap.size w w' := by
  have HAW := Lib.hid fun W => awake_any W
  have hcm := hops.max
  have hcc := hops.cap
  unfold maxLen at hcm
  have HK := Lib.hid hops
  have HN := Lib.hid (New_any w)
  clear hops
  by_cases h60 : 60 < n
  · have h60' : (60 : Int) < n := by omega
    go_enter Try.func5, Try.ntmps5
    go_wp2_with (go_at_call 8; refine (HAW.out _).mono ?_; rintro e w1 ⟨rfl, hb⟩; have HB := Lib.hid hb; clear hb)
    go_ret
    exact ⟨rfl, HB.out⟩
  · have h60' : ¬ (60 : Int) < n := by omega
    have hn60 : n ≤ 60 := by omega
    go_enter Try.func5, Try.ntmps5
    go_wp2_with (go_at_call 9; refine HN.out.mono ?_; rintro e w1 ⟨rfl, hb, ht⟩; have HT0 := Lib.hid (LN.new (Below.refl _ _) hb ht); clear hb ht)
    generalize w.heap.size + 2 = l at *
    clear HN h60
    go_loopw [21] (fun i wr => ∃ (k N : Nat) (L : List Th), i = .int .i64 k ∧ k ≤ n ∧ Hid (N ≤ k ∧ L.length ≤ k) ∧ Hid (LN w wr l L N)) (fun i _ => n - (intOf i).toNat)
    case atStart => exact ⟨0, 0, [], rfl, Nat.zero_le _, Lib.hid ⟨Nat.le_refl _, Nat.le_refl _⟩, HT0⟩
    case round =>
      clear HT0
      obtain ⟨k, N, L, rfl, hkn, HNK, HT⟩ := hrel
      by_cases hlt : k < n
      · obtain ⟨p, b, o, hok, hpl, hA, r0, r1, r2⟩ := HK.out.op HT.out.2 hlt
        subst hA
        have hlt' : (k : Int) < n := by omega
        obtain ⟨V, hV⟩ : ∃ V, V = wr.alloc (.cells #[.int .i64 p.kind, .int .i64 p.id, .string p.g] 28) := ⟨_, rfl⟩
        have v0 : V.cell? ⟨wr.heap.size, 0, none⟩ = some (.int .i64 p.kind) := by rw [hV]; simp
        have v1 : V.cell? ⟨wr.heap.size, 1, none⟩ = some (.int .i64 p.id) := by rw [hV]; simp
        have v2 : V.cell? ⟨wr.heap.size, 2, none⟩ = some (.string p.g) := by rw [hV]; simp
        have HTV : Hid (LN w V l L N) := Lib.hid (HT.out.later (by rw [hV]; exact (Below.refl wr.heap.size wr).alloc (Nat.le_refl _) _))
        have HC : Hid (¬ 20 < p.g.size → _) := Lib.hid fun h20 => HTV.out.add (by have := HNK.out; omega) (by have := HNK.out; omega) (s := p.g) (by unfold maxLen; omega) (k := p.id) hok.ii
        have HDR := Lib.hid (HTV.out.drop (by have := HNK.out; omega) (k := p.id) hok.ii)
        have HL2 : Hid (addN L p.id N ≤ k + 1 ∧ (addT L p.g p.id N).length ≤ k + 1) := Lib.hid (by
          have := HNK.out
          have := addN_le L p.id N
          have := length_addT L p.g p.id N
          omega)
        have HL3 : Hid (N ≤ k + 1 ∧ (dropT L p.id).length ≤ k + 1) := Lib.hid (by
          have := HNK.out
          have := length_dropT_le L p.id
          omega)
        have HV := Lib.hid hV
        clear hV hpl
        go_upto_region 9 with fail
        rw [← HV.out]
        clear r0 r1 r2 HT
        generalize wr.heap.size = bx at *
        by_cases h20g : 20 < p.g.size
        · have h20g' : (20 : Int) < p.g.size := by omega
          go_wp2_with (go_at_call 8; refine (HAW.out _).mono ?_; rintro e w1 ⟨rfl, hb⟩; have HB := Lib.hid (HTV.out.2.trans (hb.mono HTV.out.2.size)); clear hb)
          go_ret
          exact ⟨rfl, HB.out⟩
        · have h20g' : ¬ (20 : Int) < p.g.size := by omega
          have HC2 := Lib.hid (HC.out h20g)
          clear HC
          by_cases hk1 : p.kind = 1
          · have hkb : (p.kind == 1) = true := by simpa using hk1
            generalize dropT L p.id = L3 at *
            generalize (at_ L p.id).isSome = q at *
            go_wp2_with (go_at_call 13; go_fit HDR.out; rintro e w2 ⟨rfl, HT3⟩)
            go_roundw
            case rel => exact ⟨k + 1, N, L3, by go_num, by omega, HL3, HT3⟩
            case measure => simp [intOf]; omega
          · have hkb : (p.kind == 1) = false := beq_eq_false_iff_ne.2 hk1
            generalize addT L p.g p.id N = L3 at *
            generalize addN L p.id N = N3 at *
            generalize (at_ L p.id).isNone = q at *
            go_wp2_with (go_at_call 11; go_fit HC2.out; rintro e w2 ⟨rfl, HT3⟩)
            go_roundw
            case rel => exact ⟨k + 1, N3, L3, by go_num, by omega, HL2, HT3⟩
            case measure => simp [intOf]; omega
      · obtain rfl : k = n := by omega
        have hd0 : decide ((k : Int) < (k : Int)) = false := decide_eq_false (by omega)
        have hnd : (ids L).Nodup := by
          obtain ⟨_, _, _, _, _, h'⟩ := HT.out.1
          exact h'.nodup
        have hLk : L.length ≤ k := HNK.out.2
        obtain ⟨hn, hhn⟩ : ∃ x, ((headsT L).map Th.id).length = x := ⟨_, rfl⟩
        have hhn2 : hn = (headsT L).length := by rw [← hhn, List.length_map]
        have hhl : hn ≤ L.length := by rw [hhn2]; exact List.length_filter_le _ _
        have HHD := Lib.hid (HT.out.heads (by omega) (by
          by_cases he : headsT L = []
          · exact .inl he
          · exact .inr (sortN (List.length_pos_iff.2 he) (by omega))))
        rw [hhn] at HHD
        obtain ⟨n0, hn0⟩ : ∃ x, L.length = x := ⟨_, rfl⟩
        have HLEN : Hid (∀ w2, LN w w2 l L N → Calls Try.prog 15 #[.pointer (some ⟨l, 0, none⟩)] w2 fun e w' => e = .returned (.int .i64 n0) ∧ w2 = w') := Lib.hid fun w2 h => by
          rw [← hn0]
          exact h.len
        have HALL : Hid (∀ w2, LN w w2 l L N → Calls Try.prog 17 #[.pointer (some ⟨l, 0, none⟩)] w2 fun e w' => ∃ A c, e = .returned (.slice A n0 c) ∧ Hid (Below w.heap.size w w')) := Lib.hid fun w2 h => (All_any h.1 (by omega)).mono (by
          rintro e w' ⟨A, c, rfl, _, hb⟩
          exact ⟨A, c, by rw [show (ids L).length = n0 by simp [ids]; exact hn0], Lib.hid (h.2.trans (hb.mono h.2.size))⟩)
        have HSE : Hid (sumN L hn = n0) := Lib.hid ((sumN_end hnd hhn2).trans hn0)
        have HST : Hid (∀ j, j < hn → ∃ x, (headsT L)[j]? = some x ∧ x ∈ headsT L ∧ sumN L (j + 1) = sumN L j + (ofG L x.g).length) := Lib.hid fun j hj => by
          have hj' : j < (headsT L).length := by omega
          exact ⟨(headsT L)[j], List.getElem?_eq_getElem hj', List.getElem_mem hj', sumN_step (List.getElem?_eq_getElem hj')⟩
        have HS0 : Hid (sumN L 0 = 0) := Lib.hid rfl
        have HLL : Hid (L.length ≤ 60) := Lib.hid (by omega)
        have hhn60 : hn ≤ 60 := by omega
        have hn060 : n0 ≤ 60 := by omega
        have HQ : Hid (∀ s, (ofG L s).length ≤ 60) := Lib.hid fun s => by
          unfold ofG
          rw [List.length_map]
          have := List.length_filter_le (fun x : Th => decide (x.g = s)) L
          omega
        clear hhn hhn2 hn0 hhl hLk hnd
        go_upto_region 17 with (go_at_call 18; go_fit HHD.out; rintro e w2 ⟨A2, c2, rfl, HX⟩; have HR0 := Lib.hid (own_base HX.out.1 (Nat.zero_le _)); have HT2 := Lib.hid HX.out.2; clear HX)
        go_loopw [6, 47] (fun sv iv wr => ∃ (j sm : Nat), sv = .int .i64 sm ∧ iv = .int .i64 j ∧ j ≤ hn ∧ sm ≤ j * 60 ∧ Hid (sm = sumN L j) ∧ Hid (LN w wr l L N) ∧ Hid (wr.ownsRow 0 3 1 (.slice A2 hn c2) hn (((headsT L).map Th.id).map (Value.int .i64)))) (fun _ iv _ => hn - (intOf iv).toNat)
        case atStart => exact ⟨0, 0, rfl, rfl, Nat.zero_le _, Nat.zero_le _, HS0, HT2, HR0⟩
        case round =>
          clear HT2 HR0
          obtain ⟨j, sm, rfl, rfl, hjn, hsmj, HSM, HT2, HR0⟩ := hrel
          by_cases hj : j < hn
          · have hjz : (j : Int) < (hn : Int) := by omega
            obtain ⟨x, hx1, hx2, hst⟩ := HST.out j hj
            obtain ⟨q, hq⟩ : ∃ q, q = (ofG L x.g).length := ⟨_, rfl⟩
            have HTW := Lib.hid (part_two HT2.out (by have := HLL.out; omega) hx2 hq HR0.out)
            obtain ⟨rb, cap, e, _⟩ := HR0.out.form (by omega)
            obtain ⟨rfl, rfl⟩ : A2 = some ⟨rb, 0, none⟩ ∧ c2 = cap := by simpa using e
            have hc := HR0.out.cellAt j (by omega)
            have hcc2 : ∀ V : World, V.cell? ⟨rb, 0 + j, none⟩ = (((headsT L).map Th.id).map (Value.int .i64))[j]? → V.cell? ⟨rb, j, none⟩ = some (.int .i64 x.id) := fun V hV => by
              rw [Nat.zero_add] at hV
              rw [hV, List.getElem?_map, List.getElem?_map, hx1]
              rfl
            have hcell := hcc2 _ (by simpa using hc)
            have hq60 : q ≤ 60 := by rw [hq]; exact HQ.out _
            have hq0 : 0 < q := by
              have := (headsT_mem.1 hx2).2
              cases ho : ofG L x.g with
              | nil => rw [ho] at this; cases this
              | cons y r => rw [hq, ho]; simp
            have hqz : (0 : Int) < (q : Int) := by omega
            have hqne : ((q : Int) == 0) = false := beq_eq_false_iff_ne.2 (by omega)
            obtain ⟨sm2, hsm2⟩ : ∃ y, y = sm + q := ⟨_, rfl⟩
            have hsmz : (sm : Int) + (q : Int) = (sm2 : Int) := by omega
            have hsm3 : sm2 ≤ (j + 1) * 60 := by omega
            have HSM2 : Hid (sm2 = sumN L (j + 1)) := Lib.hid (by rw [hst, ← HSM.out, ← hq, hsm2])
            have hsms : sm2 < 100000 := by omega
            clear hx1 hx2 hst hc hcc2 e hq hsm2
            go_wp2_with (first
              | (go_at_call 22; go_fit HTW.out; rintro e w3 ⟨rfl, HOF⟩)
              | (go_at_call 20; go_fit HOF.out; rintro e w4 ⟨b2, c3, rfl, k0, HLO⟩))
            go_roundw
            case rel => exact ⟨j + 1, sm2, rfl, by go_num, by omega, hsm3, HSM2, Lib.hid HLO.out.1, Lib.hid HLO.out.2⟩
            case measure => simp [intOf]; omega
          · have hjz : ¬ (j : Int) < (hn : Int) := by omega
            obtain rfl : sm = n0 := by rw [HSM.out, show j = hn by omega, HSE.out]
            go_wp2_with (first
              | (go_at_call 15; go_fit (HLEN.out _ HT2.out); rintro e w3 ⟨rfl, rfl⟩)
              | (go_at_call 17; go_fit (HALL.out _ HT2.out); rintro e w4 ⟨A3, c3, rfl, HLO⟩)
              | (go_at_call 8; refine (HAW.out _).mono ?_; rintro e w5 ⟨rfl, hb⟩; have HB := Lib.hid (HLO.out.trans (hb.mono HLO.out.size)); clear hb))
            go_ret
            exact ⟨rfl, HB.out⟩
end Go.Proofs.Yticmdeepfeiobaa
