/- What is proved here: that whatever comes and goes, each call tells what the document says, and all, the heads, and each group, are its (LaneDoes). Written by mkdoes.py. -/
import Derived.Test.YticmdeepfeiobaaDoesT
import Derived.Deep.RegionHeld3
namespace Go.Proofs.Yticmdeepfeiobaa
open Go Go.RowKit Go.Maps Go.WideMaps

set_option maxHeartbeats 12800000 in
set_option maxRecDepth 100000 in
theorem laneDoes_any {w : World} {A : Option Addr} {n c : Nat} {ops : List OpM} (hops : OpsRd w w.heap.size A n c ops) :
    Calls Try.prog 3 #[.slice A n c] w fun e w' => e = .returned (.bool true) ∧ Below w.heap.size w w' := by
  have HAW := Lib.hid fun W => awake_any W
  have hcm := hops.max
  have hcc := hops.cap
  unfold maxLen at hcm
  have HK := Lib.hid hops
  have HN := Lib.hid (New_any w)
  obtain ⟨i0, hi, hz0, hz1, hz2⟩ := info_parts info_int
  clear hops
  by_cases h60 : 60 < n
  · have h60' : (60 : Int) < n := by omega
    go_enter Try.func3, Try.ntmps3
    go_wp2_with (go_at_call 8; refine (HAW.out _).mono ?_; rintro e w1 ⟨rfl, hb⟩; have HB := Lib.hid hb; clear hb)
    go_ret
    exact ⟨rfl, HB.out⟩
  · have h60' : ¬ (60 : Int) < n := by omega
    have hn60 : n ≤ 60 := by omega
    go_enter Try.func3, Try.ntmps3
    go_wp2_with (go_at_call 9; refine HN.out.mono ?_; rintro e w1 ⟨rfl, hb, ht⟩; have HT0 := Lib.hid (LT.start (LN.new (Below.refl _ _) hb ht)); clear hb ht)
    generalize w.heap.size + 2 = l0 at *
    clear HN h60
    go_loopw [3, 4, 24] (fun q v i wr => ∃ (k l : Nat) (A2 : Option Addr) (n2 c2 N : Nat) (L : List Th), q = .pointer (some ⟨l, 0, none⟩) ∧ v = .slice A2 n2 c2 ∧ i = .int .i64 k ∧ k ≤ n ∧ n2 ≤ k ∧ N ≤ k ∧ Hid (n2 = L.length) ∧ Hid (LT w wr l L N A2 n2 c2 L)) (fun _ _ i _ => n - (intOf i).toNat)
    case atStart => exact ⟨0, l0, none, 0, 0, 0, [], rfl, rfl, rfl, Nat.zero_le _, Nat.le_refl _, Nat.le_refl _, Lib.hid rfl, HT0⟩
    case round =>
      clear HT0
      obtain ⟨k, l, A2, n2, c2, N, L, rfl, rfl, rfl, hkn, hn2k, hNk, HNN, HT⟩ := hrel
      by_cases hlt : k < n
      · obtain ⟨p, b, o, hok, hpl, hA, r0, r1, r2⟩ := HK.out.op HT.out.low hlt
        subst hA
        have hlt' : (k : Int) < n := by omega
        obtain ⟨V, hV⟩ : ∃ V, V = wr.alloc (boxT p) := ⟨_, rfl⟩
        have v0 : V.cell? ⟨wr.heap.size, 0, none⟩ = some (.int .i64 p.kind) := by rw [hV]; simp
        have v1 : V.cell? ⟨wr.heap.size, 1, none⟩ = some (.int .i64 p.id) := by rw [hV]; simp
        have v2 : V.cell? ⟨wr.heap.size, 2, none⟩ = some (.string p.g) := by rw [hV]; simp
        have HC0 : Hid (¬ 20 < p.g.size → _) := Lib.hid fun h20 => add_does HT.out hV rfl (by omega) (by omega) hok.ii (by unfold maxLen; omega)
        have HC1 := Lib.hid (drop_does HT.out hV rfl (by omega) (by omega) hok.ii)
        have HC2 : Hid (¬ 20 < p.g.size → _) := Lib.hid fun h20 => copy_does HT.out hV rfl (by omega) (by omega) hok.ii (by unfold maxLen; omega)
        have HLOW : Hid (Below w.heap.size w V) := Lib.hid (HT.out.low.trans (by rw [hV]; exact ((Below.refl wr.heap.size wr).alloc (Nat.le_refl _) _).mono HT.out.low.size))
        have HLD := Lib.hid (length_dropT_le L p.id)
        have HLA := Lib.hid (length_addT L p.g p.id N)
        have HNA := Lib.hid (addN_le L p.id N)
        have HV := Lib.hid hV
        have hLk : L.length ≤ k := by have := HNN.out; omega
        clear hV hpl
        go_upto_region 10 with fail
        rw [← HV.out]
        clear r0 r1 r2 HT
        generalize wr.heap.size = bx at *
        by_cases h20 : 20 < p.g.size
        · have h20' : (20 : Int) < p.g.size := by omega
          go_wp2_with (go_at_call 8; refine (HAW.out _).mono ?_; rintro e w1 ⟨rfl, hb⟩; have HB := Lib.hid (HLOW.out.trans (hb.mono HLOW.out.size)); clear hb)
          go_ret
          exact ⟨rfl, HB.out⟩
        · have h20' : ¬ (20 : Int) < p.g.size := by omega
          have HGS : Hid (p.g.size ≤ maxLen) := Lib.hid (by unfold maxLen; omega)
          have HD0 := Lib.hid (HC0.out h20)
          have HD2 := Lib.hid (HC2.out h20)
          clear HC0 HC2
          by_cases hk0 : p.kind = 0
          · have hkb : (p.kind == 0) = true := by simpa using hk0
            have hn3 : (addT L p.g p.id N).length ≤ k + 1 := by have := HLA.out; omega
            have hN3 : addN L p.id N ≤ k + 1 := by have := HNA.out; omega
            clear HD2 HC1 HLD HLA HNA
            generalize addT L p.g p.id N = L3 at *
            generalize addN L p.id N = N3 at *
            generalize at_ L p.id = q at *
            go_upto_region 30 with (first
              | (go_at_call 10; go_fit HD0.out; rintro e w2 ⟨A3, n3, c3, rfl, u1, u2, HN3, HE0⟩; clear HD0 v0 v1 v2)
              | (go_at_call 11; go_fit HE0.out; rintro e w3 ⟨rfl, u3, HT3⟩; clear HE0 u1 u2))
            go_wp2_with fail
            have HWX := Lib.hid HT3.out.1
            have HG0 : Hid (∀ wy, Below w3.heap.size w3 wy → wy.cell? ⟨bx, 2, none⟩ = some (.string p.g)) := Lib.hid fun wy hb => (hb.cell (p := ⟨bx, 2, none⟩) HT3.out.2).trans u3
            have HLK : Hid (L3.length ≤ k + 1) := Lib.hid hn3
            have hn61 : n3 ≤ k + 1 := by have := HN3.out; omega
            obtain ⟨hxc, hxm⟩ := HWX.out.row.caps
            clear u3 HT3 hn3
            go_loopw [12, 86] (fun v i wr => ∃ (j : Nat) (A4 : Option Addr) (c4 : Nat), v = .slice A4 j c4 ∧ i = .int .i64 j ∧ j ≤ n3 ∧ Hid (MakingI w3 ((ids L3).take j) (.slice A4 j c4) wr)) (fun _ i _ => n3 - (intOf i).toNat)
            case atStart => exact ⟨0, none, 0, rfl, rfl, Nat.zero_le _, Lib.hid ⟨by simpa using World.ownsRow_nil _ _ _ _, Below.refl _ _⟩⟩
            case round =>
              obtain ⟨j, A4, c4, rfl, rfl, hjn, HM⟩ := hrel
              by_cases hj : j < n3
              · obtain ⟨x, hx⟩ : ∃ x, L3[j]? = some x := ⟨_, List.getElem?_eq_getElem (by have := HN3.out; omega)⟩
                obtain ⟨b5, hA5, hbl5, r0, r1⟩ := (HWX.out.row.below HM.out.2).cell hx
                subst hA5
                have hj' : (j : Int) < n3 := by omega
                have HSZ := Lib.hid HM.out.2.size
                have htk : ((ids L3).take j).length = j := by
                  rw [List.length_take]
                  have := HN3.out
                  simp [ids]
                  omega
                have hMO := HM.out.1
                rw [htk] at hMO
                have HMO := Lib.hid hMO
                have HAP : Hid (∀ B v2 wz, wz.ownsRow w3.heap.size 3 1 v2 (j + 1) (((ids L3).take j).map (Value.int .i64) ++ [.int .i64 x.id]) → ((wr.alloc B).alloc (.cells #[.int .i64 x.id] 3)).grownBy wz (Value.slice A4 j c4).ownBlock → ∃ A5 c5, v2 = .slice A5 (j + 1) c5 ∧ MakingI w3 ((ids L3).take (j + 1)) (.slice A5 (j + 1) c5) wz) := Lib.hid fun B v2 wz ho hg => by
                  obtain ⟨A5, c5, rfl⟩ := own_slice2 ho
                  have e8 : (ids L3).take (j + 1) = (ids L3).take j ++ [x.id] := by
                    rw [List.take_add_one]
                    simp [ids, hx]
                  refine ⟨A5, c5, rfl, ?_, ((HM.out.2.alloc HM.out.2.size B).alloc (by simp; have := HM.out.2.size; omega) _).grown hg (by simp; have := HM.out.2.size; omega) fun i hi => (HM.out.1.lt i hi).1⟩
                  rw [e8, List.length_append, htk, List.map_append]
                  exact ho
                clear hx hMO htk HM
                generalize (ids L3).take j = O at *
                go_wp2_with (at_builtin; refine wpList_append_src (o := ⟨some 94, _, _, _, _, _⟩) rfl (.tmp 90) (.tmp 93) 34 rfl w3.heap.size 3 i0 _ 1 8 Try.underlying34 hi hz0 hz1 hz2 rfl (by omega) _ j (O.map (Value.int .i64)) rfl ((HMO.out.alloc _).alloc _) (some ⟨wr.heap.size + 1, 0, none⟩) 1 1 [.int .i64 x.id] rfl rfl (fun e => by cases e) (by simpa using news_new (wr.alloc _) _ _) (one_cell _ _) (by unfold maxLen; omega) (by omega) (by have := HSZ.out; simp; omega) ?_; intro v2 wz ho2 hg2; obtain ⟨A5, c5, rfl, hM3⟩ := HAP.out _ _ _ ho2 hg2; have HM3 := Lib.hid hM3; clear ho2 hg2 hM3)
                go_roundw
                case rel => exact ⟨j + 1, A5, c5, rfl, by go_num, by omega, HM3⟩
                case measure => simp [intOf]; omega
              · obtain rfl : j = n3 := by omega
                have hd1 : decide ((j : Int) < (j : Int)) = false := decide_eq_false (by omega)
                have hids : (ids L3).length = j := by rw [HN3.out]; simp [ids]
                obtain ⟨hn, on, hhn, hon, htl⟩ := tail_of (g := p.g) (A4 := A4) (c4 := c4) (HWX.out.later HM.out.2) HN3.out (by omega) (by
                  have := HM.out.1
                  rw [List.take_of_length_le (by omega), hids] at this
                  exact own_base this (Nat.zero_le _)) HGS.out
                have HTL := Lib.hid htl
                have HBL := Lib.hid HM.out.2
                have g0 := HG0.out wr HM.out.2
                have HG1 : Hid (∀ wz, Below wr.heap.size wr wz → wz.cell? ⟨bx, 2, none⟩ = some (.string p.g)) := Lib.hid fun wz hb => HG0.out wz (HM.out.2.trans (hb.mono HM.out.2.size))
                have hj6 : j < 1000000 := by omega
                clear htl hids HM HG0
                go_wp2_with fail
                go_region_held3 (fun w' => w'.cell? ⟨bx, 2, none⟩ = some (.string p.g))
                  (first | assumption | (simp; assumption))
                  (first
                  | (go_at_call 15; refine (HTL.out.len _ (by first | exact Below.refl _ _ | exact (Below.refl _ _).drew)).mono ?_; rintro e w5 ⟨rfl, rfl⟩)
                  | (go_at_call 17; refine (HTL.out.all _ (by first | exact Below.refl _ _ | exact (Below.refl _ _).drew)).mono ?_; rintro e w5 ⟨A5, c5, rfl, HB5, HR5⟩; have g5 := HG1.out _ HB5.out.1; clear g0)
                  | (go_at_call 16; go_fit (same_rows HR5.out (HTL.out.row _ HB5.out.1) hj6); rintro e w6 ⟨rfl, hb6⟩; have HB6 := Lib.hid (HB5.out.1.trans (hb6.out.mono HB5.out.1.size)); have g6 := HG1.out _ HB6.out; clear HR5 hb6 g5)
                  | (go_at_call 18; refine (HTL.out.heads _ HB6.out).mono ?_; rintro e w7 ⟨A7, c7, rfl, HB7, HR7⟩; have g7 := HG1.out _ HB7.out.1; clear g6)
                  | (go_at_call 19; refine (HTL.out.rheads _ HB7.out.1).mono ?_; rintro e w8 ⟨A8, c8, rfl, HB8, HR8⟩; have HR9 := Lib.hid (HR7.out.below HB8.out.2); have g8 := HG1.out _ HB8.out.1; clear HR7 g7)
                  | (go_at_call 16; go_fit (same_rows HR9.out HR8.out hhn); rintro e w9 ⟨rfl, hb9⟩; have HB9 := Lib.hid (HB8.out.1.trans (hb9.out.mono HB8.out.1.size)); have g9 := HG1.out _ HB9.out; clear HR8 HR9 hb9 g8)
                  | (go_at_call 20; refine (HTL.out.of _ HB9.out).mono ?_; rintro e w10 ⟨A10, c10, rfl, HB10, HR10⟩; have g10 := HG1.out _ HB10.out.1; clear g9)
                  | (go_at_call 21; refine (HTL.out.rof _ HB10.out.1).mono ?_; rintro e w11 ⟨A11, c11, rfl, HB11, HR11⟩; have HR12 := Lib.hid (HR10.out.below HB11.out.2); have g11 := HG1.out _ HB11.out.1; clear HR10 g10)
                  | (go_at_call 16; go_fit (same_rows HR12.out HR11.out hon); rintro e w12 ⟨rfl, hb12⟩; have HB12 := Lib.hid (HB11.out.1.trans (hb12.out.mono HB11.out.1.size)); have g12 := HG1.out _ HB12.out; clear HR11 HR12 hb12 g11))
                all_goals
                  go_wp2_with fail
                  go_roundw
                  case rel => exact ⟨k + 1, l, A3, j, c3, N3, L3, rfl, rfl, by go_num, by omega, by omega, by omega, HN3, Lib.hid ((HWX.out.later HBL.out).later HB12.out)⟩
                  case measure => simp [intOf]; omega
          · have hkb : (p.kind == 0) = false := beq_eq_false_iff_ne.2 hk0
            by_cases hk1 : p.kind = 1
            · have hkb1 : (p.kind == 1) = true := by simpa using hk1
              have hn3 : (dropT L p.id).length ≤ k + 1 := by have := HLD.out; omega
              clear HD0 HD2 HLD HLA HNA
              generalize dropT L p.id = L3 at *
              generalize at_ L p.id = q at *
              go_upto_region 30 with (first
                | (go_at_call 12; go_fit HC1.out; rintro e w2 ⟨A3, n3, c3, rfl, u1, HN3, HE0⟩; clear HC1 v0 v1 v2)
                | (go_at_call 13; go_fit HE0.out; rintro e w3 ⟨rfl, u3, HT3⟩; clear HE0 u1))
              go_wp2_with fail
              have HWX := Lib.hid HT3.out.1
              have HG0 : Hid (∀ wy, Below w3.heap.size w3 wy → wy.cell? ⟨bx, 2, none⟩ = some (.string p.g)) := Lib.hid fun wy hb => (hb.cell (p := ⟨bx, 2, none⟩) HT3.out.2).trans u3
              have HLK : Hid (L3.length ≤ k + 1) := Lib.hid hn3
              have hn61 : n3 ≤ k + 1 := by have := HN3.out; omega
              obtain ⟨hxc, hxm⟩ := HWX.out.row.caps
              clear u3 HT3 hn3
              go_loopw [12, 86] (fun v i wr => ∃ (j : Nat) (A4 : Option Addr) (c4 : Nat), v = .slice A4 j c4 ∧ i = .int .i64 j ∧ j ≤ n3 ∧ Hid (MakingI w3 ((ids L3).take j) (.slice A4 j c4) wr)) (fun _ i _ => n3 - (intOf i).toNat)
              case atStart => exact ⟨0, none, 0, rfl, rfl, Nat.zero_le _, Lib.hid ⟨by simpa using World.ownsRow_nil _ _ _ _, Below.refl _ _⟩⟩
              case round =>
                obtain ⟨j, A4, c4, rfl, rfl, hjn, HM⟩ := hrel
                by_cases hj : j < n3
                · obtain ⟨x, hx⟩ : ∃ x, L3[j]? = some x := ⟨_, List.getElem?_eq_getElem (by have := HN3.out; omega)⟩
                  obtain ⟨b5, hA5, hbl5, r0, r1⟩ := (HWX.out.row.below HM.out.2).cell hx
                  subst hA5
                  have hj' : (j : Int) < n3 := by omega
                  have HSZ := Lib.hid HM.out.2.size
                  have htk : ((ids L3).take j).length = j := by
                    rw [List.length_take]
                    have := HN3.out
                    simp [ids]
                    omega
                  have hMO := HM.out.1
                  rw [htk] at hMO
                  have HMO := Lib.hid hMO
                  have HAP : Hid (∀ B v2 wz, wz.ownsRow w3.heap.size 3 1 v2 (j + 1) (((ids L3).take j).map (Value.int .i64) ++ [.int .i64 x.id]) → ((wr.alloc B).alloc (.cells #[.int .i64 x.id] 3)).grownBy wz (Value.slice A4 j c4).ownBlock → ∃ A5 c5, v2 = .slice A5 (j + 1) c5 ∧ MakingI w3 ((ids L3).take (j + 1)) (.slice A5 (j + 1) c5) wz) := Lib.hid fun B v2 wz ho hg => by
                    obtain ⟨A5, c5, rfl⟩ := own_slice2 ho
                    have e8 : (ids L3).take (j + 1) = (ids L3).take j ++ [x.id] := by
                      rw [List.take_add_one]
                      simp [ids, hx]
                    refine ⟨A5, c5, rfl, ?_, ((HM.out.2.alloc HM.out.2.size B).alloc (by simp; have := HM.out.2.size; omega) _).grown hg (by simp; have := HM.out.2.size; omega) fun i hi => (HM.out.1.lt i hi).1⟩
                    rw [e8, List.length_append, htk, List.map_append]
                    exact ho
                  clear hx hMO htk HM
                  generalize (ids L3).take j = O at *
                  go_wp2_with (at_builtin; refine wpList_append_src (o := ⟨some 94, _, _, _, _, _⟩) rfl (.tmp 90) (.tmp 93) 34 rfl w3.heap.size 3 i0 _ 1 8 Try.underlying34 hi hz0 hz1 hz2 rfl (by omega) _ j (O.map (Value.int .i64)) rfl ((HMO.out.alloc _).alloc _) (some ⟨wr.heap.size + 1, 0, none⟩) 1 1 [.int .i64 x.id] rfl rfl (fun e => by cases e) (by simpa using news_new (wr.alloc _) _ _) (one_cell _ _) (by unfold maxLen; omega) (by omega) (by have := HSZ.out; simp; omega) ?_; intro v2 wz ho2 hg2; obtain ⟨A5, c5, rfl, hM3⟩ := HAP.out _ _ _ ho2 hg2; have HM3 := Lib.hid hM3; clear ho2 hg2 hM3)
                  go_roundw
                  case rel => exact ⟨j + 1, A5, c5, rfl, by go_num, by omega, HM3⟩
                  case measure => simp [intOf]; omega
                · obtain rfl : j = n3 := by omega
                  have hd1 : decide ((j : Int) < (j : Int)) = false := decide_eq_false (by omega)
                  have hids : (ids L3).length = j := by rw [HN3.out]; simp [ids]
                  obtain ⟨hn, on, hhn, hon, htl⟩ := tail_of (g := p.g) (A4 := A4) (c4 := c4) (HWX.out.later HM.out.2) HN3.out (by omega) (by
                    have := HM.out.1
                    rw [List.take_of_length_le (by omega), hids] at this
                    exact own_base this (Nat.zero_le _)) HGS.out
                  have HTL := Lib.hid htl
                  have HBL := Lib.hid HM.out.2
                  have g0 := HG0.out wr HM.out.2
                  have HG1 : Hid (∀ wz, Below wr.heap.size wr wz → wz.cell? ⟨bx, 2, none⟩ = some (.string p.g)) := Lib.hid fun wz hb => HG0.out wz (HM.out.2.trans (hb.mono HM.out.2.size))
                  have hj6 : j < 1000000 := by omega
                  clear htl hids HM HG0
                  go_wp2_with fail
                  go_region_held3 (fun w' => w'.cell? ⟨bx, 2, none⟩ = some (.string p.g))
                    (first | assumption | (simp; assumption))
                    (first
                    | (go_at_call 15; refine (HTL.out.len _ (by first | exact Below.refl _ _ | exact (Below.refl _ _).drew)).mono ?_; rintro e w5 ⟨rfl, rfl⟩)
                    | (go_at_call 17; refine (HTL.out.all _ (by first | exact Below.refl _ _ | exact (Below.refl _ _).drew)).mono ?_; rintro e w5 ⟨A5, c5, rfl, HB5, HR5⟩; have g5 := HG1.out _ HB5.out.1; clear g0)
                    | (go_at_call 16; go_fit (same_rows HR5.out (HTL.out.row _ HB5.out.1) hj6); rintro e w6 ⟨rfl, hb6⟩; have HB6 := Lib.hid (HB5.out.1.trans (hb6.out.mono HB5.out.1.size)); have g6 := HG1.out _ HB6.out; clear HR5 hb6 g5)
                    | (go_at_call 18; refine (HTL.out.heads _ HB6.out).mono ?_; rintro e w7 ⟨A7, c7, rfl, HB7, HR7⟩; have g7 := HG1.out _ HB7.out.1; clear g6)
                    | (go_at_call 19; refine (HTL.out.rheads _ HB7.out.1).mono ?_; rintro e w8 ⟨A8, c8, rfl, HB8, HR8⟩; have HR9 := Lib.hid (HR7.out.below HB8.out.2); have g8 := HG1.out _ HB8.out.1; clear HR7 g7)
                    | (go_at_call 16; go_fit (same_rows HR9.out HR8.out hhn); rintro e w9 ⟨rfl, hb9⟩; have HB9 := Lib.hid (HB8.out.1.trans (hb9.out.mono HB8.out.1.size)); have g9 := HG1.out _ HB9.out; clear HR8 HR9 hb9 g8)
                    | (go_at_call 20; refine (HTL.out.of _ HB9.out).mono ?_; rintro e w10 ⟨A10, c10, rfl, HB10, HR10⟩; have g10 := HG1.out _ HB10.out.1; clear g9)
                    | (go_at_call 21; refine (HTL.out.rof _ HB10.out.1).mono ?_; rintro e w11 ⟨A11, c11, rfl, HB11, HR11⟩; have HR12 := Lib.hid (HR10.out.below HB11.out.2); have g11 := HG1.out _ HB11.out.1; clear HR10 g10)
                    | (go_at_call 16; go_fit (same_rows HR12.out HR11.out hon); rintro e w12 ⟨rfl, hb12⟩; have HB12 := Lib.hid (HB11.out.1.trans (hb12.out.mono HB11.out.1.size)); have g12 := HG1.out _ HB12.out; clear HR11 HR12 hb12 g11))
                  all_goals
                    go_wp2_with fail
                    go_roundw
                    case rel => exact ⟨k + 1, l, A3, j, c3, N, L3, rfl, rfl, by go_num, by omega, by omega, by omega, HN3, Lib.hid ((HWX.out.later HBL.out).later HB12.out)⟩
                    case measure => simp [intOf]; omega
            · have hkb1 : (p.kind == 1) = false := beq_eq_false_iff_ne.2 hk1
              have hn3 : L.length ≤ k + 1 := by omega
              clear HD0 HC1 HLD HLA HNA
              have HN3 : Hid (n2 = L.length) := HNN
              go_upto_region 30 with (first
                | (go_at_call 14; go_fit HD2.out; rintro e w2 ⟨lc, rfl, u1, u2, HE0⟩; clear HD2 v0 v1 v2)
                | (go_at_call 11; go_fit HE0.out; rintro e w3 ⟨⟨q3, rfl⟩, u1, HE1⟩; clear HE0)
                | (go_at_call 13; go_fit HE1.out; rintro e w4 ⟨⟨q4, rfl⟩, u3, HT3⟩; clear HE1))
              go_wp2_with fail
              have HWX := Lib.hid HT3.out.1
              have HG0 : Hid (∀ wy, Below w4.heap.size w4 wy → wy.cell? ⟨bx, 2, none⟩ = some (.string p.g)) := Lib.hid fun wy hb => (hb.cell (p := ⟨bx, 2, none⟩) HT3.out.2).trans u3
              have HLK : Hid (L.length ≤ k + 1) := Lib.hid hn3
              have hn61 : n2 ≤ k + 1 := by have := HN3.out; omega
              obtain ⟨hxc, hxm⟩ := HWX.out.row.caps
              clear u3 HT3 hn3
              go_loopw [12, 86] (fun v i wr => ∃ (j : Nat) (A4 : Option Addr) (c4 : Nat), v = .slice A4 j c4 ∧ i = .int .i64 j ∧ j ≤ n2 ∧ Hid (MakingI w4 ((ids L).take j) (.slice A4 j c4) wr)) (fun _ i _ => n2 - (intOf i).toNat)
              case atStart => exact ⟨0, none, 0, rfl, rfl, Nat.zero_le _, Lib.hid ⟨by simpa using World.ownsRow_nil _ _ _ _, Below.refl _ _⟩⟩
              case round =>
                obtain ⟨j, A4, c4, rfl, rfl, hjn, HM⟩ := hrel
                by_cases hj : j < n2
                · obtain ⟨x, hx⟩ : ∃ x, L[j]? = some x := ⟨_, List.getElem?_eq_getElem (by have := HN3.out; omega)⟩
                  obtain ⟨b5, hA5, hbl5, r0, r1⟩ := (HWX.out.row.below HM.out.2).cell hx
                  subst hA5
                  have hj' : (j : Int) < n2 := by omega
                  have HSZ := Lib.hid HM.out.2.size
                  have htk : ((ids L).take j).length = j := by
                    rw [List.length_take]
                    have := HN3.out
                    simp [ids]
                    omega
                  have hMO := HM.out.1
                  rw [htk] at hMO
                  have HMO := Lib.hid hMO
                  have HAP : Hid (∀ B v2 wz, wz.ownsRow w4.heap.size 3 1 v2 (j + 1) (((ids L).take j).map (Value.int .i64) ++ [.int .i64 x.id]) → ((wr.alloc B).alloc (.cells #[.int .i64 x.id] 3)).grownBy wz (Value.slice A4 j c4).ownBlock → ∃ A5 c5, v2 = .slice A5 (j + 1) c5 ∧ MakingI w4 ((ids L).take (j + 1)) (.slice A5 (j + 1) c5) wz) := Lib.hid fun B v2 wz ho hg => by
                    obtain ⟨A5, c5, rfl⟩ := own_slice2 ho
                    have e8 : (ids L).take (j + 1) = (ids L).take j ++ [x.id] := by
                      rw [List.take_add_one]
                      simp [ids, hx]
                    refine ⟨A5, c5, rfl, ?_, ((HM.out.2.alloc HM.out.2.size B).alloc (by simp; have := HM.out.2.size; omega) _).grown hg (by simp; have := HM.out.2.size; omega) fun i hi => (HM.out.1.lt i hi).1⟩
                    rw [e8, List.length_append, htk, List.map_append]
                    exact ho
                  clear hx hMO htk HM
                  generalize (ids L).take j = O at *
                  go_wp2_with (at_builtin; refine wpList_append_src (o := ⟨some 94, _, _, _, _, _⟩) rfl (.tmp 90) (.tmp 93) 34 rfl w4.heap.size 3 i0 _ 1 8 Try.underlying34 hi hz0 hz1 hz2 rfl (by omega) _ j (O.map (Value.int .i64)) rfl ((HMO.out.alloc _).alloc _) (some ⟨wr.heap.size + 1, 0, none⟩) 1 1 [.int .i64 x.id] rfl rfl (fun e => by cases e) (by simpa using news_new (wr.alloc _) _ _) (one_cell _ _) (by unfold maxLen; omega) (by omega) (by have := HSZ.out; simp; omega) ?_; intro v2 wz ho2 hg2; obtain ⟨A5, c5, rfl, hM3⟩ := HAP.out _ _ _ ho2 hg2; have HM3 := Lib.hid hM3; clear ho2 hg2 hM3)
                  go_roundw
                  case rel => exact ⟨j + 1, A5, c5, rfl, by go_num, by omega, HM3⟩
                  case measure => simp [intOf]; omega
                · obtain rfl : j = n2 := by omega
                  have hd1 : decide ((j : Int) < (j : Int)) = false := decide_eq_false (by omega)
                  have hids : (ids L).length = j := by rw [HN3.out]; simp [ids]
                  obtain ⟨hn, on, hhn, hon, htl⟩ := tail_of (g := p.g) (A4 := A4) (c4 := c4) (HWX.out.later HM.out.2) HN3.out (by omega) (by
                    have := HM.out.1
                    rw [List.take_of_length_le (by omega), hids] at this
                    exact own_base this (Nat.zero_le _)) HGS.out
                  have HTL := Lib.hid htl
                  have HBL := Lib.hid HM.out.2
                  have g0 := HG0.out wr HM.out.2
                  have HG1 : Hid (∀ wz, Below wr.heap.size wr wz → wz.cell? ⟨bx, 2, none⟩ = some (.string p.g)) := Lib.hid fun wz hb => HG0.out wz (HM.out.2.trans (hb.mono HM.out.2.size))
                  have hj6 : j < 1000000 := by omega
                  clear htl hids HM HG0
                  go_wp2_with fail
                  go_region_held3 (fun w' => w'.cell? ⟨bx, 2, none⟩ = some (.string p.g))
                    (first | assumption | (simp; assumption))
                    (first
                    | (go_at_call 15; refine (HTL.out.len _ (by first | exact Below.refl _ _ | exact (Below.refl _ _).drew)).mono ?_; rintro e w5 ⟨rfl, rfl⟩)
                    | (go_at_call 17; refine (HTL.out.all _ (by first | exact Below.refl _ _ | exact (Below.refl _ _).drew)).mono ?_; rintro e w5 ⟨A5, c5, rfl, HB5, HR5⟩; have g5 := HG1.out _ HB5.out.1; clear g0)
                    | (go_at_call 16; go_fit (same_rows HR5.out (HTL.out.row _ HB5.out.1) hj6); rintro e w6 ⟨rfl, hb6⟩; have HB6 := Lib.hid (HB5.out.1.trans (hb6.out.mono HB5.out.1.size)); have g6 := HG1.out _ HB6.out; clear HR5 hb6 g5)
                    | (go_at_call 18; refine (HTL.out.heads _ HB6.out).mono ?_; rintro e w7 ⟨A7, c7, rfl, HB7, HR7⟩; have g7 := HG1.out _ HB7.out.1; clear g6)
                    | (go_at_call 19; refine (HTL.out.rheads _ HB7.out.1).mono ?_; rintro e w8 ⟨A8, c8, rfl, HB8, HR8⟩; have HR9 := Lib.hid (HR7.out.below HB8.out.2); have g8 := HG1.out _ HB8.out.1; clear HR7 g7)
                    | (go_at_call 16; go_fit (same_rows HR9.out HR8.out hhn); rintro e w9 ⟨rfl, hb9⟩; have HB9 := Lib.hid (HB8.out.1.trans (hb9.out.mono HB8.out.1.size)); have g9 := HG1.out _ HB9.out; clear HR8 HR9 hb9 g8)
                    | (go_at_call 20; refine (HTL.out.of _ HB9.out).mono ?_; rintro e w10 ⟨A10, c10, rfl, HB10, HR10⟩; have g10 := HG1.out _ HB10.out.1; clear g9)
                    | (go_at_call 21; refine (HTL.out.rof _ HB10.out.1).mono ?_; rintro e w11 ⟨A11, c11, rfl, HB11, HR11⟩; have HR12 := Lib.hid (HR10.out.below HB11.out.2); have g11 := HG1.out _ HB11.out.1; clear HR10 g10)
                    | (go_at_call 16; go_fit (same_rows HR12.out HR11.out hon); rintro e w12 ⟨rfl, hb12⟩; have HB12 := Lib.hid (HB11.out.1.trans (hb12.out.mono HB11.out.1.size)); have g12 := HG1.out _ HB12.out; clear HR11 HR12 hb12 g11))
                  all_goals
                    go_wp2_with fail
                    go_roundw
                    case rel => exact ⟨k + 1, lc, A2, j, c2, N, L, rfl, rfl, by go_num, by omega, by omega, by omega, HN3, Lib.hid ((HWX.out.later HBL.out).later HB12.out)⟩
                    case measure => simp [intOf]; omega
      · obtain rfl : k = n := by omega
        have hd0 : decide ((k : Int) < (k : Int)) = false := decide_eq_false (by omega)
        have HBW := Lib.hid HT.out.low
        clear HT
        go_wp2_with (go_at_call 8; refine (HAW.out _).mono ?_; rintro e w8 ⟨rfl, hb⟩; have HB := Lib.hid hb; clear hb)
        go_ret
        exact ⟨rfl, HBW.out.trans (HB.out.mono HBW.out.size)⟩
end Go.Proofs.Yticmdeepfeiobaa
