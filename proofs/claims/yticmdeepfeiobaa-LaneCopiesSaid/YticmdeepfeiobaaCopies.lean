/- What is proved here: that a copy goes on of its own (LaneCopies). -/
import Derived.Test.YticmdeepfeiobaaParts
import Derived.Test.YticmdeepfeiobaaCopy
import Derived.Test.YticmdeepfeiobaaSame
namespace Go.Proofs.Yticmdeepfeiobaa
open Go Go.RowKit Go.Maps Go.WideMaps

/-- A thing's group, and that there is something in it. -/
theorem copies_two {w0 w : World} {l N : Nat} {L : List Th} (h : LN w0 w l L N) (hL : L.length < 800000) {x : Th} (hx : x ∈ L) :
    Calls Try.prog 22 #[.pointer (some ⟨l, 0, none⟩), .int .i64 x.id] w fun e w' => e = .returned (.tuple #[.string x.g, .bool true]) ∧
      Hid (Calls Try.prog 20 #[.pointer (some ⟨l, 0, none⟩), .string x.g] w' fun e w'' => ∃ A2 q c2, e = .returned (.slice A2 q c2) ∧ ((q : Int) == 0) = false ∧ Hid (Below w.heap.size w w'')) := by
  have hwf : wfk x.id ∧ x.g.size ≤ maxLen := by
    obtain ⟨_, _, _, _, _, h'⟩ := h.1
    exact h'.wf x hx
  have hnd : (ids L).Nodup := by
    obtain ⟨_, _, _, _, _, h'⟩ := h.1
    exact h'.nodup
  have hat : at_ L x.id = some x := by
    cases ha : at_ L x.id with
    | none => exact absurd rfl (at_none.1 ha x hx)
    | some y =>
      obtain ⟨hy, he⟩ := at_some ha
      rw [nodup_id hnd hy hx he]
  refine (Group_any h.1 hwf.1).mono ?_
  rintro e w' ⟨rfl, hb⟩
  refine ⟨by rw [hat]; rfl, Lib.hid ?_⟩
  have h3 := h.later hb
  refine (Of_any h3.1 hwf.2 (by omega)).mono ?_
  rintro e w'' ⟨A2, c2, rfl, _, hb2⟩
  have hne : ofG L x.g ≠ [] := fun e => by
    have : x.id ∈ ofG L x.g := by
      unfold ofG
      exact List.mem_map.2 ⟨x, List.mem_filter.2 ⟨hx, by simp⟩, rfl⟩
    rw [e] at this
    cases this
  exact ⟨A2, _, c2, rfl, beq_eq_false_iff_ne.2 (by have := List.length_pos_iff.2 hne; omega), Lib.hid (hb.trans (hb2.mono hb.size))⟩

set_option maxHeartbeats 6400000 in
set_option maxRecDepth 100000 in
theorem laneCopies_any {w : World} {A B : Option Addr} {n c m d : Nat} {ops more : List OpM} (hops : OpsRd w w.heap.size A n c ops) (hmore : OpsRd w w.heap.size B m d more) :
    Calls Try.prog 7 #[.slice A n c, .slice B m d] w fun e w' => e = .returned (.bool true) ∧ Below w.heap.size w w' := by
  have HAW := Lib.hid fun W => awake_any W
  have hcm := hops.max
  have hcc := hops.cap
  have hdm := hmore.max
  have hdc := hmore.cap
  unfold maxLen at hcm hdm
  have HK := Lib.hid hops
  have HKM := Lib.hid hmore
  have HN := Lib.hid (New_any w)
  clear hops hmore
  by_cases h60 : 60 < n
  · have h60' : (60 : Int) < n := by omega
    go_enter Try.func7, Try.ntmps7
    go_wp2_with (go_at_call 8; refine (HAW.out _).mono ?_; rintro e w1 ⟨rfl, hb⟩; have HB := Lib.hid hb; clear hb)
    go_ret
    exact ⟨rfl, HB.out⟩
  · have h60' : ¬ (60 : Int) < n := by omega
    have hn60 : n ≤ 60 := by omega
    by_cases h61 : 60 < m
    · have h61' : (60 : Int) < m := by omega
      go_enter Try.func7, Try.ntmps7
      go_wp2_with (go_at_call 8; refine (HAW.out _).mono ?_; rintro e w1 ⟨rfl, hb⟩; have HB := Lib.hid hb; clear hb)
      go_ret
      exact ⟨rfl, HB.out⟩
    · have h61' : ¬ (60 : Int) < m := by omega
      have hm60 : m ≤ 60 := by omega
      go_enter Try.func7, Try.ntmps7
      go_wp2_with (go_at_call 9; refine HN.out.mono ?_; rintro e w1 ⟨rfl, hb, ht⟩; have HT0 := Lib.hid (LN.new (Below.refl _ _) hb ht); clear hb ht)
      generalize w.heap.size + 2 = l at *
      clear HN h60 h61
      go_loopw [29] (fun i wr => ∃ (k N : Nat) (L : List Th), i = .int .i64 k ∧ k ≤ n ∧ Hid (N ≤ k ∧ L.length ≤ k) ∧ Hid (LN w wr l L N)) (fun i _ => n - (intOf i).toNat)
      case atStart => exact ⟨0, 0, [], rfl, Nat.zero_le _, Lib.hid ⟨Nat.le_refl _, Nat.le_refl _⟩, HT0⟩
      case round =>
        clear HT0
        obtain ⟨k, N, L, rfl, hkn, HNK, HT⟩ := hrel
        by_cases hlt : k < n
        · obtain ⟨p, b, o, hok, hpl, hA, r0, r1, r2⟩ := HK.out.op HT.out.2 hlt
          subst hA
          have hlt' : (k : Int) < n := by omega
          obtain ⟨V, hV⟩ : ∃ V, V = wr.alloc (.cells #[.int .i64 p.kind, .int .i64 p.id, .string p.g] 28) := ⟨_, rfl⟩
          have v1 : V.cell? ⟨wr.heap.size, 1, none⟩ = some (.int .i64 p.id) := by rw [hV]; simp
          have v2 : V.cell? ⟨wr.heap.size, 2, none⟩ = some (.string p.g) := by rw [hV]; simp
          have HTV : Hid (LN w V l L N) := Lib.hid (HT.out.later (by rw [hV]; exact (Below.refl wr.heap.size wr).alloc (Nat.le_refl _) _))
          have HC2 := Lib.hid (HTV.out.add (by have := HNK.out; omega) (by have := HNK.out; omega) (s := p.g) (by have := hok.sg; unfold maxLen; omega) (k := p.id) hok.ii)
          have HL2 : Hid (addN L p.id N ≤ k + 1 ∧ (addT L p.g p.id N).length ≤ k + 1) := Lib.hid (by
            have := HNK.out
            have := addN_le L p.id N
            have := length_addT L p.g p.id N
            omega)
          have HV := Lib.hid hV
          clear hV hpl
          go_upto_region 9 with fail
          rw [← HV.out]
          clear r0 r1 r2 HT
          generalize wr.heap.size = bx at *
          generalize addT L p.g p.id N = L3 at *
          generalize addN L p.id N = N3 at *
          generalize (at_ L p.id).isNone = q at *
          go_wp2_with (go_at_call 11; go_fit HC2.out; rintro e w2 ⟨rfl, HT3⟩)
          go_roundw
          case rel => exact ⟨k + 1, N3, L3, by go_num, by omega, HL2, HT3⟩
          case measure => simp [intOf]; omega
        · obtain rfl : k = n := by omega
          have hd0 : decide ((k : Int) < (k : Int)) = false := decide_eq_false (by omega)
          have hNk := HNK.out
          obtain ⟨n0, hn0⟩ : ∃ x, (ids L).length = x := ⟨_, rfl⟩
          have hn0L : n0 = L.length := by rw [← hn0]; simp [ids]
          have HAL : Hid (∀ w2, LN w w2 l L N → Calls Try.prog 17 #[.pointer (some ⟨l, 0, none⟩)] w2 fun e w' => ∃ A c, e = .returned (.slice A n0 c) ∧ Hid (w'.ownsRow 0 3 1 (.slice A n0 c) n0 ((ids L).map (Value.int .i64)) ∧ LN w w' l L N ∧ Below w2.heap.size w2 w')) := Lib.hid fun w2 h => (All_any h.1 (by omega)).mono (by
            rintro e w' ⟨A, c, rfl, how, hb⟩
            rw [hn0] at how
            exact ⟨A, c, by rw [hn0], Lib.hid ⟨own_base how (Nat.zero_le _), h.later hb, hb⟩⟩)
          have HCP : Hid (∀ w2, LN w w2 l L N → Calls Try.prog 14 #[.pointer (some ⟨l, 0, none⟩)] w2 fun e w' => ∃ b, e = .returned (.pointer (some ⟨b, 0, none⟩)) ∧ Hid (LN w2 w' b L N)) := Lib.hid fun w2 h => (Copy_any h.1 (by omega) (by omega)).mono (by
            rintro e w' ⟨b, rfl, _, ht, hb⟩
            exact ⟨b, rfl, Lib.hid ⟨ht, hb⟩⟩)
          have HAL1 := Lib.hid (HAL.out wr HT.out)
          have HNL : Hid (N ≤ 60 ∧ L.length ≤ 60 ∧ n0 = L.length ∧ (ids L).length = n0) := Lib.hid ⟨by omega, by omega, hn0L, hn0⟩
          have hn060 : n0 ≤ 60 := by omega
          clear hn0L hn0 hNk
          go_upto_region 16 with (first
            | (go_at_call 17; go_fit HAL1.out; rintro e w2 ⟨A2, c2, rfl, HX⟩)
            | (go_at_call 14; go_fit (HCP.out _ HX.out.2.1); rintro e w3 ⟨b, rfl, HTC⟩))
          have HLB : Hid (∀ V, Below w2.heap.size w2 V → LN w V l L N ∧ V.ownsRow 0 3 1 (.slice A2 n0 c2) n0 ((ids L).map (Value.int .i64))) := Lib.hid fun V hb => ⟨HX.out.2.1.later hb, own_below HX.out.1 hb⟩
          have HLO : Hid (∀ V, Below w2.heap.size w2 V → Below w.heap.size w V) := Lib.hid fun V hb => HX.out.2.1.2.trans (hb.mono HX.out.2.1.2.size)
          have HTC2 := HTC
          clear HAL1 HCP HT HX HNK
          go_loopw [48] (fun i wr => ∃ (k N2 : Nat) (L2 : List Th), i = .int .i64 k ∧ k ≤ m ∧ Hid (N2 ≤ 60 + k ∧ L2.length ≤ 60 + k) ∧ Hid (LN w2 wr b L2 N2)) (fun i _ => m - (intOf i).toNat)
          case atStart => exact ⟨0, N, L, rfl, Nat.zero_le _, Lib.hid ⟨HNL.out.1, HNL.out.2.1⟩, HTC⟩
          case round =>
            clear HTC HTC2
            obtain ⟨k2, N2, L2, rfl, hkn2, HNK2, HT⟩ := hrel
            by_cases hlt : k2 < m
            · obtain ⟨p, b2, o2, hok, hpl, hA, r0, r1, r2⟩ := HKM.out.op (HLO.out _ HT.out.2) hlt
              subst hA
              have hlt' : (k2 : Int) < m := by omega
              obtain ⟨V, hV⟩ : ∃ V, V = wr.alloc (.cells #[.int .i64 p.kind, .int .i64 p.id, .string p.g] 28) := ⟨_, rfl⟩
              have v0 : V.cell? ⟨wr.heap.size, 0, none⟩ = some (.int .i64 p.kind) := by rw [hV]; simp
              have v1 : V.cell? ⟨wr.heap.size, 1, none⟩ = some (.int .i64 p.id) := by rw [hV]; simp
              have v2 : V.cell? ⟨wr.heap.size, 2, none⟩ = some (.string p.g) := by rw [hV]; simp
              have HTV : Hid (LN w2 V b L2 N2) := Lib.hid (HT.out.later (by rw [hV]; exact (Below.refl wr.heap.size wr).alloc (Nat.le_refl _) _))
              have HC2 := Lib.hid (HTV.out.add (by have := HNK2.out; omega) (by have := HNK2.out; omega) (s := p.g) (by have := hok.sg; unfold maxLen; omega) (k := p.id) hok.ii)
              have HDR := Lib.hid (HTV.out.drop (by have := HNK2.out; omega) (k := p.id) hok.ii)
              have HL2 : Hid (addN L2 p.id N2 ≤ 60 + (k2 + 1) ∧ (addT L2 p.g p.id N2).length ≤ 60 + (k2 + 1)) := Lib.hid (by
                have := HNK2.out
                have := addN_le L2 p.id N2
                have := length_addT L2 p.g p.id N2
                omega)
              have HL3 : Hid (N2 ≤ 60 + (k2 + 1) ∧ (dropT L2 p.id).length ≤ 60 + (k2 + 1)) := Lib.hid (by
                have := HNK2.out
                have := length_dropT_le L2 p.id
                omega)
              have HV := Lib.hid hV
              clear hV hpl
              go_upto_region 18 with fail
              rw [← HV.out]
              clear r0 r1 r2 HT
              generalize wr.heap.size = bx at *
              by_cases h20g : 20 < p.g.size
              · have h20g' : (20 : Int) < p.g.size := by omega
                go_wp2_with (go_at_call 8; refine (HAW.out _).mono ?_; rintro e w5 ⟨rfl, hb⟩; have HB := Lib.hid ((HLO.out _ HTV.out.2).trans (hb.mono (HLO.out _ HTV.out.2).size)); clear hb)
                go_ret
                exact ⟨rfl, HB.out⟩
              · have h20g' : ¬ (20 : Int) < p.g.size := by omega
                by_cases hk1 : p.kind = 1
                · have hkb : (p.kind == 1) = true := by simpa using hk1
                  generalize dropT L2 p.id = L3 at *
                  generalize (at_ L2 p.id).isSome = q at *
                  go_wp2_with (go_at_call 13; go_fit HDR.out; rintro e w6 ⟨rfl, HT3⟩)
                  go_roundw
                  case rel => exact ⟨k2 + 1, N2, L3, by go_num, by omega, HL3, HT3⟩
                  case measure => simp [intOf]; omega
                · have hkb : (p.kind == 1) = false := beq_eq_false_iff_ne.2 hk1
                  generalize addT L2 p.g p.id N2 = L3 at *
                  generalize addN L2 p.id N2 = N3 at *
                  generalize (at_ L2 p.id).isNone = q at *
                  go_wp2_with (go_at_call 11; go_fit HC2.out; rintro e w6 ⟨rfl, HT3⟩)
                  go_roundw
                  case rel => exact ⟨k2 + 1, N3, L3, by go_num, by omega, HL2, HT3⟩
                  case measure => simp [intOf]; omega
            · obtain rfl : k2 = m := by omega
              have hd1 : decide ((k2 : Int) < (k2 : Int)) = false := decide_eq_false (by omega)
              have HBW := Lib.hid HT.out.2
              clear HT HNK2
              go_upto_region 25 with fail
              go_loopw [73] (fun i wr => ∃ (j : Nat), i = .int .i64 j ∧ j ≤ n0 ∧ Hid (Below w2.heap.size w2 wr)) (fun i _ => n0 - (intOf i).toNat)
              case atStart => exact ⟨0, rfl, Nat.zero_le _, HBW⟩
              case round =>
                clear HBW
                obtain ⟨j, rfl, hjn, HBW⟩ := hrel
                by_cases hj : j < n0
                · have hjz : (j : Int) < (n0 : Int) := by omega
                  obtain ⟨hln, hrow⟩ := HLB.out _ HBW.out
                  obtain ⟨x, hx⟩ : ∃ x, L[j]? = some x := ⟨_, List.getElem?_eq_getElem (by have := HNL.out; omega)⟩
                  have HTW := Lib.hid (copies_two hln (by have := HNL.out; omega) (List.mem_of_getElem? hx))
                  obtain ⟨rb, cap, e, hfm⟩ := hrow.form (by omega)
                  obtain ⟨rfl, rfl⟩ : A2 = some ⟨rb, 0, none⟩ ∧ c2 = cap := by simpa using e
                  have hc := hrow.cellAt j (by omega)
                  have hcell : wr.cell? ⟨rb, j, none⟩ = some (.int .i64 x.id) := by
                    rw [hc, List.getElem?_map]
                    unfold ids
                    rw [List.getElem?_map, hx]
                    rfl
                  clear hln hrow hx e hc hfm
                  go_wp2_with (first
                    | (go_at_call 22; go_fit HTW.out; rintro e w5 ⟨rfl, HOF⟩)
                    | (go_at_call 20; go_fit HOF.out; rintro e w6 ⟨A3, q, c3, rfl, hq0, HLL⟩))
                  go_roundw
                  case rel => exact ⟨j + 1, by go_num, by omega, Lib.hid (HBW.out.trans (HLL.out.mono HBW.out.size))⟩
                  case measure => simp [intOf]; omega
                · obtain rfl : j = n0 := by omega
                  have hd2 : decide ((j : Int) < (j : Int)) = false := decide_eq_false (by omega)
                  have HAL2 := Lib.hid (HAL.out _ (HLB.out _ HBW.out).1)
                  have HSM : Hid (∀ V A3 c3, Below wr.heap.size wr V → V.ownsRow 0 3 1 (.slice A3 j c3) j ((ids L).map (Value.int .i64)) → Calls Try.prog 16 #[.slice A3 j c3, .slice A2 j c2] V fun e w' => e = .returned (.bool true) ∧ Hid (LN w w' l L N)) := Lib.hid fun V A3 c3 hb ho => by
                    have hbV := HBW.out.trans (hb.mono HBW.out.size)
                    refine (same_true (xs := ids L) ⟨ho, (HLB.out V hbV).2⟩ (by omega)).mono ?_
                    rintro e w' ⟨rfl, q, rfl⟩
                    exact ⟨rfl, Lib.hid ((HLB.out V hbV).1.later ((Chg.drewN (Φ := fun _ => False) V q).below (Nat.le_refl _) fun _ h => h.elim))⟩
                  have HLE : Hid (∀ V, LN w V l L N → Calls Try.prog 15 #[.pointer (some ⟨l, 0, none⟩)] V fun e w' => e = .returned (.int .i64 j) ∧ V = w') := Lib.hid fun V h => by
                    rw [HNL.out.2.2.1]
                    exact h.len
                  go_wp2_with (first
                    | (go_at_call 17; go_fit HAL2.out; rintro e w5 ⟨A3, c3, rfl, HX3⟩)
                    | (go_at_call 16; go_fit (HSM.out _ _ _ HX3.out.2.2 HX3.out.1); rintro e w6 ⟨rfl, HT6⟩)
                    | (go_at_call 15; go_fit (HLE.out _ HT6.out); rintro e w7 ⟨rfl, rfl⟩)
                    | (go_at_call 8; refine (HAW.out _).mono ?_; rintro e w8 ⟨rfl, hb⟩; have HB := Lib.hid (HT6.out.2.trans (hb.mono HT6.out.2.size)); clear hb))
                  go_ret
                  exact ⟨rfl, HB.out⟩
end Go.Proofs.Yticmdeepfeiobaa
