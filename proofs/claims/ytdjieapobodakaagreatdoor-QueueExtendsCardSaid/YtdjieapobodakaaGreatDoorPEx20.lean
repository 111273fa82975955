/- What is proved here: slices.partitionEqualCmpFunc, with a comparison that is a method of a ledger. Written by mksrte.py. -/
/- What is proved here: slices.partitionCmpFunc, with a comparison that is a method of a ledger. Written by mksrtq.py. -/
/- What is proved here: slices.partialInsertionSortCmpFunc, with a comparison that is a method of a ledger. Written by mksrtb.py. -/
import Derived.Test.YtdjieapobodakaaGreatDoorPEx19
import Derived.Sort.WalkC
import Derived.Deep.DeepCutAuto
section
namespace Go.Proofs.YtdjieapobodakaaGreatDoor.Led
open Go Go.RowKit Go.Maps Go.WideMaps Go.Shelf Go.Lib Go.Sort
set_option maxRecDepth 100000

variable {G : ByteArray → Prop} [Inhabited (W64 G)]

set_option maxHeartbeats 6400000 in
set_option maxRecDepth 100000 in
theorem partEq_any {cf : (W64 G) → (W64 G) → Int} {l blk cap : Nat} {d0 : Array (W64 G)} {w0 : World} (H : Srt cf l blk cap d0 w0) {d : Array (W64 G)} {w : World} (hs : d.size = d0.size) (S : SW encW w0 blk 0 d w) {a b pv n : Nat} (hn : n = d0.size) (hap : a ≤ pv) (hpb : pv < b) (hb : b ≤ n) :
    Calls Tryz.prog 128 #[.slice (some ⟨blk, 0, none⟩) n cap, .int .i64 a, .int .i64 b, .int .i64 pv, .func (.func 75) #[.pointer (some ⟨l, 0, none⟩)] #[]] w fun e w' => e = .returned (.int .i64 (Sort.partitionEqual (ltOf cf) d a b pv).1) ∧ Hid (SW encW w0 blk 0 (Sort.partitionEqual (ltOf cf) d a b pv).2 w' ∧ (Sort.partitionEqual (ltOf cf) d a b pv).2.size = d0.size) := by
  have HS := Lib.hid S
  have HZ := Lib.hid hs
  have hbig := H.big
  have hcap := H.cap
  have HN := Lib.hid hn
  have HH := Lib.hid H
  have hn1 : n < 1000000 := by omega
  have hnc : n ≤ cap := by omega
  obtain ⟨bp, hbp⟩ : ∃ x, b = x + 1 := ⟨b - 1, by omega⟩
  have hbpz : (b : Int) - 1 = (bp : Int) := by omega
  have hbpn : bp < n := by omega
  have hai : (a : Int) < (n : Int) := by omega
  have hpi : (pv : Int) < (n : Int) := by omega
  have had : a < d0.size := by omega
  have hpd : pv < d0.size := by omega
  have hR : Hid (Sort.partitionEqual (ltOf cf) d a b pv = partEqLoop (ltOf cf) a (a + 1) bp (swp d a pv)) := Lib.hid (by unfold Sort.partitionEqual; rw [hbp]; rfl)
  generalize Sort.partitionEqual (ltOf cf) d a b pv = R at *
  have hpn : pv < n := by omega
  have habp : a ≤ bp := by omega
  obtain ⟨y1, HY1, p1, b1, g1⟩ := H.look hs S had
  obtain ⟨y2, HY2, p2, b2, g2⟩ := H.look hs S hpd
  have HSW : Hid (SW encW w0 blk 0 (swp d a pv) ((w.setCell ⟨blk, a, none⟩ (.string y2.val)).setCell ⟨blk, pv, none⟩ (.string y1.val)).drew) := Lib.hid (H.swap2 hs S had hpd HY1.out HY2.out 1)
  have HE12 : Hid (a = pv → y2 = y1) := Lib.hid (by rintro rfl; rw [HY1.out, HY2.out])
  have HZ1 : Hid ((swp d a pv).size = d0.size) := Lib.hid (by rw [swp_sz]; exact hs)
  generalize swp d a pv = d1 at *
  clear S hs hn hbig hcap H HS HZ HY1 HY2 p1 p2 hbp
  have mixed := mixed_prog
  go_enter Tryz.func128, Tryz.ntmps128
  go_wp2_with fail
  go_cut [0] (fun s0 wx => s0 = .slice (some ⟨blk, 0, none⟩) n cap ∧ Hid (SW encW w0 blk 0 d1 wx))
  case first =>
    by_cases hapv : a = pv
    · obtain rfl := HE12.out hapv
      subst hapv
      clear HE12
      go_region
      go_wp2_with fail
      go_meet
      case rel => exact ⟨rfl, HSW⟩
    · have hlt : a < pv := by omega
      go_region
      go_wp2_with fail
      go_meet
      case rel => exact ⟨rfl, HSW⟩
  case rest =>
    obtain ⟨rfl, HS1⟩ := hcut
    clear HSW HE12 b1 b2 g1 g2
    go_wp2
    go_loopw [11, 12] (fun vi vj wr => ∃ (i j : Nat) (dk : Array (W64 G)), vi = .int .i64 i ∧ vj = .int .i64 j ∧ a < i ∧ i ≤ j + 1 ∧ j ≤ bp ∧ Hid (dk.size = d0.size) ∧ Hid (SW encW w0 blk 0 dk wr) ∧ Hid (partEqLoop (ltOf cf) a i j dk = partEqLoop (ltOf cf) a (a + 1) bp d1)) (fun vi vj _ => (intOf vj).toNat + 1 - (intOf vi).toNat)
    case atStart => exact ⟨a + 1, bp, d1, by go_num, rfl, by omega, by omega, Nat.le_refl _, HZ1, HS1, Lib.hid rfl⟩
    case round =>
      clear HS1 HZ1
      obtain ⟨i, j, dk, rfl, rfl, hai2, hij, hjb, HZ, HS, HO⟩ := hrel
      go_wp2
      go_loopw [11] (fun vi wr => ∃ (i2 : Nat), vi = .int .i64 i2 ∧ i ≤ i2 ∧ i2 ≤ j + 1 ∧ Hid (SW encW w0 blk 0 dk wr) ∧ Hid (scanUp (fun x => !(ltOf cf) dk[a]! x) dk j i2 = scanUp (fun x => !(ltOf cf) dk[a]! x) dk j i)) (fun vi _ => j + 1 - (intOf vi).toNat)
      case atStart => exact ⟨i, rfl, Nat.le_refl _, hij, HS, Lib.hid rfl⟩
      case round =>
        clear HS
        obtain ⟨i2, rfl, hi2, hij2, HS, HU⟩ := hrel
        by_cases hle : i2 ≤ j
        · have hlez : (i2 : Int) ≤ (j : Int) := by omega
          have hi2i : (i2 : Int) < (n : Int) := by omega
          have hi2d : i2 < d0.size := by have := HN.out; omega
          obtain ⟨xa, HXA, qa, ca, fa⟩ := HH.out.look HZ.out HS.out had
          obtain ⟨xi, HXI, qi, ci, fi⟩ := HH.out.look HZ.out HS.out hi2d
          have HC := Lib.hid (HH.out.at_ HZ.out HS.out xa xi)
          cases hlv : (ltOf cf) xa xi with
          | false =>
            have hcv : decide (cf xa xi < 0) = false := hlv
            have HU2 : Hid (scanUp (fun x => !(ltOf cf) dk[a]! x) dk j (i2 + 1) = scanUp (fun x => !(ltOf cf) dk[a]! x) dk j i) := Lib.hid (by rw [← HU.out, scanUp_go _ _ _ _ hle (by rw [← HXA.out, ← HXI.out, hlv]; rfl)])
            generalize cf xa xi = cv at *
            clear hlv HU HXA HXI
            go_wp2_with fail
            go_quiet_grown ((go_at_call 75; exact Calls.grown_of (HC.out _ _)))
            have HS3 := Lib.hid (HS.out.grown nq osq)
            generalize grow (wr.drewN nq) osq = W3 at *
            clear HC HS qa ca fa qi ci fi
            go_wp2
            go_roundw
            case rel => exact ⟨i2 + 1, by go_num, by omega, by omega, HS3, HU2⟩
            case measure => (simp [intOf] <;> omega)
          | true =>
            have hcv : decide (cf xa xi < 0) = true := hlv
            have hcv' : cf xa xi < 0 := of_decide_eq_true hlv
            have HI2 : Hid (i2 = scanUp (fun x => !(ltOf cf) dk[a]! x) dk j i) := Lib.hid (by rw [← HU.out, scanUp_end _ _ _ _ (.inr (by rw [← HXA.out, ← HXI.out, hlv]; rfl))])
            generalize cf xa xi = cv at *
            clear hlv HU HXA HXI
            go_wp2_with fail
            go_quiet_grown ((go_at_call 75; exact Calls.grown_of (HC.out _ _)))
            have HS3 := Lib.hid (HS.out.grown nq osq)
            generalize grow (wr.drewN nq) osq = W3 at *
            clear HC HS qa ca fa qi ci fi hcv hcv'
            go_wp2
            go_loopw [12] (fun vj wr => ∃ (j2 : Nat), vj = .int .i64 j2 ∧ i2 ≤ j2 + 1 ∧ j2 ≤ j ∧ Hid (SW encW w0 blk 0 dk wr) ∧ Hid (scanDown (fun x => (ltOf cf) dk[a]! x) dk i2 j2 = scanDown (fun x => (ltOf cf) dk[a]! x) dk i2 j)) (fun vj _ => (intOf vj).toNat)
            case atStart => exact ⟨j, rfl, hij2, Nat.le_refl _, HS3, Lib.hid rfl⟩
            case round =>
              clear HS3
              obtain ⟨j2, rfl, hij3, hj2, HS, HV⟩ := hrel
              by_cases hle2 : i2 ≤ j2
              · have hle2z : (i2 : Int) ≤ (j2 : Int) := by omega
                have hj2i : (j2 : Int) < (n : Int) := by omega
                have hj2d : j2 < d0.size := by have := HN.out; omega
                obtain ⟨jp, hjp⟩ : ∃ x, j2 = x + 1 := ⟨j2 - 1, by omega⟩
                have hjpz : (j2 : Int) - 1 = (jp : Int) := by omega
                obtain ⟨xa, HXA, qa, ca, fa⟩ := HH.out.look HZ.out HS.out had
                obtain ⟨xj, HXJ, qj, cj, fj⟩ := HH.out.look HZ.out HS.out hj2d
                have HC := Lib.hid (HH.out.at_ HZ.out HS.out xa xj)
                cases hlv : (ltOf cf) xa xj with
                | true =>
                  have hcv : decide (cf xa xj < 0) = true := hlv
                  have hcv' : cf xa xj < 0 := of_decide_eq_true hlv
                  have HV2 : Hid (scanDown (fun x => (ltOf cf) dk[a]! x) dk i2 jp = scanDown (fun x => (ltOf cf) dk[a]! x) dk i2 j) := Lib.hid (by rw [← HV.out, scanDown_go _ _ _ _ hle2 (by omega) (by rw [← HXA.out, ← HXJ.out, hlv]), hjp]; rfl)
                  have HJP : Hid (jp + 1 = j2) := Lib.hid hjp.symm
                  have hjp1 : i2 ≤ jp + 1 := by omega
                  have hjp2 : jp ≤ j := by omega
                  generalize cf xa xj = cv at *
                  clear hlv HV HXA HXJ hjp
                  go_wp2_with fail
                  go_quiet_grown ((go_at_call 75; exact Calls.grown_of (HC.out _ _)))
                  have HS3 := Lib.hid (HS.out.grown nq osq)
                  generalize grow (wr.drewN nq) osq = W3 at *
                  clear HC HS qa ca fa qj cj fj
                  go_wp2
                  go_roundw
                  case rel => exact ⟨jp, by go_num, hjp1, hjp2, HS3, HV2⟩
                  case measure => have := HJP.out; (simp [intOf] <;> omega)
                | false =>
                  have hcv : decide (cf xa xj < 0) = false := hlv
                  have HJ2 : Hid (j2 = scanDown (fun x => (ltOf cf) dk[a]! x) dk i2 j) := Lib.hid (by rw [← HV.out, scanDown_end _ _ _ _ (.inr (by rw [← HXA.out, ← HXJ.out, hlv]))])
                  have hlt2 : i2 < j2 := scans_lt _ a i j dk (by omega) HI2.out HJ2.out hle2
                  have hlt2z : ¬ (j2 : Int) < (i2 : Int) := by omega
                  have HO2 : Hid (partEqLoop (ltOf cf) a (i2 + 1) jp (swp dk i2 j2) = partEqLoop (ltOf cf) a (a + 1) bp d1) := Lib.hid (by rw [← HO.out, partEq_go _ _ _ _ _ HI2.out HJ2.out (by omega), show j2 - 1 = jp by omega])
                  have HJP : Hid (jp + 1 = j2) := Lib.hid hjp.symm
                  have hjp1 : i2 + 1 ≤ jp + 1 := by omega
                  have hjp2 : jp ≤ bp := by omega
                  have hi2d : i2 < d0.size := by omega
                  have hi2i : (i2 : Int) < (n : Int) := by omega
                  generalize cf xa xj = cv at *
                  clear hlv HV HXA HXJ hjp HO HI2 HJ2
                  go_wp2_with fail
                  go_quiet_grown ((go_at_call 75; exact Calls.grown_of (HC.out _ _)))
                  have HS3 := Lib.hid (HS.out.grown nq osq)
                  generalize grow (wr.drewN nq) osq = W3 at *
                  clear HC HS qa ca fa qj cj fj
                  obtain ⟨y1, HY1, p1, b1, g1⟩ := HH.out.look HZ.out HS3.out hi2d
                  obtain ⟨y2, HY2, p2, b2, g2⟩ := HH.out.look HZ.out HS3.out hj2d
                  have HSW : Hid (SW encW w0 blk 0 (swp dk i2 j2) ((W3.setCell ⟨blk, i2, none⟩ (.string y2.val)).setCell ⟨blk, j2, none⟩ (.string y1.val)).drew) := Lib.hid (HH.out.swap2 HZ.out HS3.out hi2d hj2d HY1.out HY2.out 1)
                  have HZ3 : Hid ((swp dk i2 j2).size = d0.size) := Lib.hid (by rw [swp_sz]; exact HZ.out)
                  generalize swp dk i2 j2 = ds at *
                  clear HZ HY1 HY2 HS3
                  go_wp2_with fail
                  go_region
                  generalize ((W3.setCell ⟨blk, i2, none⟩ (.string y2.val)).setCell ⟨blk, j2, none⟩ (.string y1.val)).drew = W4 at *
                  clear p1 p2 b1 b2 g1 g2
                  go_wp2
                  go_roundw
                  case rel => exact ⟨i2 + 1, jp, ds, by go_num, by go_num, by omega, hjp1, hjp2, HZ3, HSW, HO2⟩
                  case measure => have := HJP.out; (simp [intOf] <;> omega)
              · have hle2z : ¬ (i2 : Int) ≤ (j2 : Int) := by omega
                have hgt : (j2 : Int) < (i2 : Int) := by omega
                have HJ2 : Hid (j2 = scanDown (fun x => (ltOf cf) dk[a]! x) dk i2 j) := Lib.hid (by rw [← HV.out, scanDown_end _ _ _ _ (.inl hle2)])
                have hRR : R = (i2, dk) := by rw [hR.out, ← HO.out, partEq_break _ _ _ _ _ HI2.out HJ2.out (by omega)]
                clear HV HO HI2 HJ2 hR
                subst hRR
                go_wp2_with fail
                go_quiet (fail)
                have HS3 := Lib.hid (HS.out.drewN nq)
                generalize wr.drewN nq = W3 at *
                clear HS
                go_wp2
                exact bodyPost_ret (v := .int .i64 i2) (by simp [results, Tryz.results128, go_sem]) rfl ⟨rfl, Lib.hid ⟨HS3.out, HZ.out⟩⟩
        · have hlez : ¬ (i2 : Int) ≤ (j : Int) := by omega
          have hgt : (j : Int) < (i2 : Int) := by omega
          have HI2 : Hid (i2 = scanUp (fun x => !(ltOf cf) dk[a]! x) dk j i) := Lib.hid (by rw [← HU.out, scanUp_end _ _ _ _ (.inl hle)])
          have HJ2 : Hid (j = scanDown (fun x => (ltOf cf) dk[a]! x) dk i2 j) := Lib.hid (by rw [scanDown_end _ _ _ _ (.inl hle)])
          have hRR : R = (i2, dk) := by rw [hR.out, ← HO.out, partEq_break _ _ _ _ _ HI2.out HJ2.out (by omega)]
          clear HU HO HI2 HJ2 hR
          subst hRR
          go_wp2_with fail
          go_quiet (fail)
          have HS3 := Lib.hid (HS.out.drewN nq)
          generalize wr.drewN nq = W3 at *
          clear HS
          go_wp2
          refine wp_loop_rounds 1 ?_
          simp only [rounds_succ]
          go_wp2_with fail
          go_quiet (fail)
          have HS4 := Lib.hid (HS3.out.drewN nq)
          generalize W3.drewN nq = W4 at *
          clear HS3
          go_wp2
          exact bodyPost_ret (v := .int .i64 i2) (by simp [results, Tryz.results128, go_sem]) rfl ⟨rfl, Lib.hid ⟨HS4.out, HZ.out⟩⟩
end Go.Proofs.YtdjieapobodakaaGreatDoor.Led
end

section
namespace Go.Proofs.YtdjieapobodakaaGreatDoor.Led
open Go Go.RowKit Go.Maps Go.WideMaps Go.Shelf Go.Lib Go.Sort
set_option maxRecDepth 100000

variable {G : ByteArray → Prop} [Inhabited (W64 G)]

section
variable (lt : (W64 G) → (W64 G) → Bool)
theorem part_break (a i j : Nat) (dk : Array (W64 G)) {i2 j2 : Nat} (hi2 : i2 = scanUp (fun x => lt x dk[a]!) dk j i) (hj2 : j2 = scanDown (fun x => !lt x dk[a]!) dk i2 j) (h : j2 < i2) : partLoop lt a i j dk = (j2, dk) := by
  subst hi2; subst hj2
  rw [partLoop_eq, if_pos h]
theorem part_go (a i j : Nat) (dk : Array (W64 G)) {i2 j2 : Nat} (hi2 : i2 = scanUp (fun x => lt x dk[a]!) dk j i) (hj2 : j2 = scanDown (fun x => !lt x dk[a]!) dk i2 j) (h : ¬ i2 > j2) : partLoop lt a i j dk = partLoop lt a (i2 + 1) (j2 - 1) (swp dk i2 j2) := by
  subst hi2; subst hj2
  rw [partLoop_eq, if_neg h]
theorem part_first_break (a b pv : Nat) (d : Array (W64 G)) (i j : Nat) (hi : i = scanUp (fun x => lt x (swp d a pv)[a]!) (swp d a pv) (b - 1) (a + 1)) (hj : j = scanDown (fun x => !lt x (swp d a pv)[a]!) (swp d a pv) i (b - 1)) (h : j < i) : Sort.partition lt d a b pv = (j, true, swp (swp d a pv) j a) := by
  subst hi; subst hj
  unfold Sort.partition
  dsimp only
  rw [if_pos h]
theorem part_first_go (a b pv : Nat) (d : Array (W64 G)) (i j : Nat) (hi : i = scanUp (fun x => lt x (swp d a pv)[a]!) (swp d a pv) (b - 1) (a + 1)) (hj : j = scanDown (fun x => !lt x (swp d a pv)[a]!) (swp d a pv) i (b - 1)) (h : ¬ j < i) : Sort.partition lt d a b pv = ((partLoop lt a (i + 1) (j - 1) (swp (swp d a pv) i j)).1, false, swp (partLoop lt a (i + 1) (j - 1) (swp (swp d a pv) i j)).2 (partLoop lt a (i + 1) (j - 1) (swp (swp d a pv) i j)).1 a) := by
  subst hi; subst hj
  unfold Sort.partition
  dsimp only
  rw [if_neg h]
theorem scans_lt2 (a i j : Nat) (dk : Array (W64 G)) (h0 : 0 < i) {i2 j2 : Nat} (hi2 : i2 = scanUp (fun x => lt x dk[a]!) dk j i) (hj2 : j2 = scanDown (fun x => !lt x dk[a]!) dk i2 j) (h : i2 ≤ j2) : i2 < j2 := by
  obtain ⟨u1, _, _, u4⟩ := scanUp_spec (fun x => lt x dk[a]!) dk j _ i rfl
  obtain ⟨v1, _, _, v4⟩ := scanDown_spec (fun x => !lt x dk[a]!) dk i2 j
  rw [← hi2] at u1 u4
  rw [← hj2] at v1 v4
  rcases Nat.lt_or_ge i2 j2 with h' | h'
  · exact h'
  · have e : j2 = i2 := by omega
    have f1 := u4 (by omega)
    have f2 := v4 h (by omega)
    rw [e] at f2
    simp only [f1] at f2
    cases f2
end

set_option maxHeartbeats 12800000 in
set_option maxRecDepth 100000 in
theorem part_any {cf : (W64 G) → (W64 G) → Int} {l blk cap : Nat} {d0 : Array (W64 G)} {w0 : World} (H : Srt cf l blk cap d0 w0) {d : Array (W64 G)} {w : World} (hs : d.size = d0.size) (S : SW encW w0 blk 0 d w) {a b pv n : Nat} (hn : n = d0.size) (hap : a ≤ pv) (hpb : pv < b) (hb : b ≤ n) :
    Calls Tryz.prog 129 #[.slice (some ⟨blk, 0, none⟩) n cap, .int .i64 a, .int .i64 b, .int .i64 pv, .func (.func 75) #[.pointer (some ⟨l, 0, none⟩)] #[]] w fun e w' => e = .returned (.tuple #[.int .i64 (Sort.partition (ltOf cf) d a b pv).1, .bool (Sort.partition (ltOf cf) d a b pv).2.1]) ∧ Hid (SW encW w0 blk 0 (Sort.partition (ltOf cf) d a b pv).2.2 w' ∧ (Sort.partition (ltOf cf) d a b pv).2.2.size = d0.size) := by
  have HS := Lib.hid S
  have HZ := Lib.hid hs
  have hbig := H.big
  have hcap := H.cap
  have HN := Lib.hid hn
  have HH := Lib.hid H
  have hn1 : n < 1000000 := by omega
  have hnc : n ≤ cap := by omega
  obtain ⟨bp, hbp⟩ : ∃ x, b - 1 = x := ⟨b - 1, rfl⟩
  have hbpz : (b : Int) - 1 = (bp : Int) := by omega
  have hbpn : bp < n := by omega
  have hai : (a : Int) < (n : Int) := by omega
  have hpi : (pv : Int) < (n : Int) := by omega
  have had : a < d0.size := by omega
  have hpd : pv < d0.size := by omega
  have HRB := Lib.hid (part_first_break (ltOf cf) a b pv d)
  have HRG := Lib.hid (part_first_go (ltOf cf) a b pv d)
  rw [hbp] at HRB HRG
  generalize Sort.partition (ltOf cf) d a b pv = R at *
  have hpn : pv < n := by omega
  have habp : a ≤ bp := by omega
  obtain ⟨y1, HY1, p1, b1, g1⟩ := H.look hs S had
  obtain ⟨y2, HY2, p2, b2, g2⟩ := H.look hs S hpd
  have HSW : Hid (SW encW w0 blk 0 (swp d a pv) ((w.setCell ⟨blk, a, none⟩ (.string y2.val)).setCell ⟨blk, pv, none⟩ (.string y1.val)).drew) := Lib.hid (H.swap2 hs S had hpd HY1.out HY2.out 1)
  have HE12 : Hid (a = pv → y2 = y1) := Lib.hid (by rintro rfl; rw [HY1.out, HY2.out])
  have HZ1 : Hid ((swp d a pv).size = d0.size) := Lib.hid (by rw [swp_sz]; exact hs)
  generalize swp d a pv = d1 at *
  clear S hs hn hbig hcap H HS HZ HY1 HY2 p1 p2 hbp
  have mixed := mixed_prog
  go_enter Tryz.func129, Tryz.ntmps129
  go_wp2_with fail
  go_cut [0] (fun s0 wx => s0 = .slice (some ⟨blk, 0, none⟩) n cap ∧ Hid (SW encW w0 blk 0 d1 wx))
  case first =>
    by_cases hapv : a = pv
    · obtain rfl := HE12.out hapv
      subst hapv
      clear HE12
      go_region
      go_wp2_with fail
      go_meet
      case rel => exact ⟨rfl, HSW⟩
    · have hlt : a < pv := by omega
      go_region
      go_wp2_with fail
      go_meet
      case rel => exact ⟨rfl, HSW⟩
  case rest =>
    obtain ⟨rfl, HS⟩ := hcut
    have HZ := HZ1
    clear HSW HE12 b1 b2 g1 g2 HZ1 hpi hpn
    go_wp2
    go_loopw [12] (fun vi wr => ∃ (i2 : Nat), vi = .int .i64 i2 ∧ a + 1 ≤ i2 ∧ i2 ≤ bp + 1 ∧ Hid (SW encW w0 blk 0 d1 wr) ∧ Hid (scanUp (fun x => (ltOf cf) x d1[a]!) d1 bp i2 = scanUp (fun x => (ltOf cf) x d1[a]!) d1 bp (a + 1))) (fun vi _ => bp + 1 - (intOf vi).toNat)
    case atStart => exact ⟨a + 1, by go_num, Nat.le_refl _, by omega, HS, Lib.hid rfl⟩
    case round =>
      clear HS
      obtain ⟨i2, rfl, hi2, hij2, HS, HU⟩ := hrel
      by_cases hle : i2 ≤ bp
      · have hlez : (i2 : Int) ≤ (bp : Int) := by omega
        have hi2i : (i2 : Int) < (n : Int) := by omega
        have hi2d : i2 < d0.size := by have := HN.out; omega
        obtain ⟨xi, HXI, qi, ci, fi⟩ := HH.out.look HZ.out HS.out hi2d
        obtain ⟨xa, HXA, qa, ca, fa⟩ := HH.out.look HZ.out HS.out had
        have HC := Lib.hid (HH.out.at_ HZ.out HS.out xi xa)
        cases hlv : (ltOf cf) xi xa with
        | true =>
          have hcv : decide (cf xi xa < 0) = true := hlv
          have hcv' : cf xi xa < 0 := of_decide_eq_true hlv
          have HU2 : Hid (scanUp (fun x => (ltOf cf) x d1[a]!) d1 bp (i2 + 1) = scanUp (fun x => (ltOf cf) x d1[a]!) d1 bp (a + 1)) := Lib.hid (by rw [← HU.out, scanUp_go _ _ _ _ hle (by rw [← HXA.out, ← HXI.out, hlv])])
          generalize cf xi xa = cv at *
          clear hlv HU HXA HXI
          go_wp2_with fail
          go_quiet_grown ((go_at_call 75; exact Calls.grown_of (HC.out _ _)))
          have HS3 := Lib.hid (HS.out.grown nq osq)
          generalize grow (wr.drewN nq) osq = W3 at *
          clear HC HS qa ca fa qi ci fi
          go_wp2
          go_roundw
          case rel => exact ⟨i2 + 1, by go_num, by omega, by omega, HS3, HU2⟩
          case measure => (simp [intOf] <;> omega)
        | false =>
          have hcv : decide (cf xi xa < 0) = false := hlv
          have HI2 : Hid (i2 = scanUp (fun x => (ltOf cf) x d1[a]!) d1 bp (a + 1)) := Lib.hid (by rw [← HU.out, scanUp_end _ _ _ _ (.inr (by rw [← HXA.out, ← HXI.out, hlv]))])
          generalize cf xi xa = cv at *
          clear hlv HU HXA HXI
          go_wp2_with fail
          go_quiet_grown ((go_at_call 75; exact Calls.grown_of (HC.out _ _)))
          have HS3 := Lib.hid (HS.out.grown nq osq)
          generalize grow (wr.drewN nq) osq = W3 at *
          clear HC HS qa ca fa qi ci fi hcv
          go_wp2
          go_loopw [13] (fun vj wr => ∃ (j2 : Nat), vj = .int .i64 j2 ∧ i2 ≤ j2 + 1 ∧ j2 ≤ bp ∧ Hid (SW encW w0 blk 0 d1 wr) ∧ Hid (scanDown (fun x => !(ltOf cf) x d1[a]!) d1 i2 j2 = scanDown (fun x => !(ltOf cf) x d1[a]!) d1 i2 bp)) (fun vj _ => (intOf vj).toNat)
          case atStart => exact ⟨bp, rfl, hij2, Nat.le_refl _, HS3, Lib.hid rfl⟩
          case round =>
            clear HS3
            obtain ⟨j2, rfl, hij3, hj2, HS, HV⟩ := hrel
            by_cases hle2 : i2 ≤ j2
            · have hle2z : (i2 : Int) ≤ (j2 : Int) := by omega
              have hj2i : (j2 : Int) < (n : Int) := by omega
              have hj2d : j2 < d0.size := by have := HN.out; omega
              obtain ⟨jp, hjp⟩ : ∃ x, j2 = x + 1 := ⟨j2 - 1, by omega⟩
              have hjpz : (j2 : Int) - 1 = (jp : Int) := by omega
              obtain ⟨xj, HXJ, qj, cj, fj⟩ := HH.out.look HZ.out HS.out hj2d
              obtain ⟨xa, HXA, qa, ca, fa⟩ := HH.out.look HZ.out HS.out had
              have HC := Lib.hid (HH.out.at_ HZ.out HS.out xj xa)
              cases hlv : (ltOf cf) xj xa with
              | false =>
                have hcv : decide (cf xj xa < 0) = false := hlv
                have HV2 : Hid (scanDown (fun x => !(ltOf cf) x d1[a]!) d1 i2 jp = scanDown (fun x => !(ltOf cf) x d1[a]!) d1 i2 bp) := Lib.hid (by rw [← HV.out, scanDown_go _ _ _ _ hle2 (by omega) (by rw [← HXA.out, ← HXJ.out, hlv]; rfl), hjp]; rfl)
                have HJP : Hid (jp + 1 = j2) := Lib.hid hjp.symm
                have hjp1 : i2 ≤ jp + 1 := by omega
                have hjp2 : jp ≤ bp := by omega
                generalize cf xj xa = cv at *
                clear hlv HV HXA HXJ hjp
                go_wp2_with fail
                go_quiet_grown ((go_at_call 75; exact Calls.grown_of (HC.out _ _)))
                have HS3 := Lib.hid (HS.out.grown nq osq)
                generalize grow (wr.drewN nq) osq = W3 at *
                clear HC HS qa ca fa qj cj fj
                go_wp2
                go_roundw
                case rel => exact ⟨jp, by go_num, hjp1, hjp2, HS3, HV2⟩
                case measure => have := HJP.out; (simp [intOf] <;> omega)
              | true =>
                have hcv : decide (cf xj xa < 0) = true := hlv
                have hcv' : cf xj xa < 0 := of_decide_eq_true hlv
                have HJ2 : Hid (j2 = scanDown (fun x => !(ltOf cf) x d1[a]!) d1 i2 bp) := Lib.hid (by rw [← HV.out, scanDown_end _ _ _ _ (.inr (by rw [← HXA.out, ← HXJ.out, hlv]; rfl))])
                have hlt2 : i2 < j2 := scans_lt2 _ a (a + 1) bp d1 (by omega) HI2.out HJ2.out hle2
                have hlt2z : ¬ (j2 : Int) < (i2 : Int) := by omega
                have hdz : decide (j2 < i2) = false := by simp; omega
                have HJP : Hid (jp + 1 = j2) := Lib.hid hjp.symm
                have hjp1 : i2 + 1 ≤ jp + 1 := by omega
                have hjp2 : jp ≤ bp := by omega
                have hi2d : i2 < d0.size := by have := HN.out; omega
                have hi2i : (i2 : Int) < (n : Int) := by omega
                generalize cf xj xa = cv at *
                clear hlv HV HXA HXJ hjp
                go_wp2_with fail
                go_quiet_grown ((go_at_call 75; exact Calls.grown_of (HC.out _ _)))
                have HS3 := Lib.hid (HS.out.grown nq osq)
                generalize grow (wr.drewN nq) osq = W3 at *
                clear HC HS qa ca fa qj cj fj hcv hcv'
                obtain ⟨y1, HY1, p1, b1, g1⟩ := HH.out.look HZ.out HS3.out hi2d
                obtain ⟨y2, HY2, p2, b2, g2⟩ := HH.out.look HZ.out HS3.out hj2d
                have HSW : Hid (SW encW w0 blk 0 (swp d1 i2 j2) ((W3.setCell ⟨blk, i2, none⟩ (.string y2.val)).setCell ⟨blk, j2, none⟩ (.string y1.val)).drew) := Lib.hid (HH.out.swap2 HZ.out HS3.out hi2d hj2d HY1.out HY2.out 1)
                have HZ3 : Hid ((swp d1 i2 j2).size = d0.size) := Lib.hid (by rw [swp_sz]; exact HZ.out)
                clear HY1 HY2 HS3
                have hRR := HRG.out i2 j2 HI2.out HJ2.out (by omega)
                rw [show j2 - 1 = jp by have := HJP.out; omega] at hRR
                obtain ⟨r, hr⟩ : ∃ r, partLoop (ltOf cf) a (i2 + 1) jp (swp d1 i2 j2) = r := ⟨_, rfl⟩
                rw [hr] at hRR
                have HR : Hid (R = (r.1, false, swp r.2 r.1 a)) := Lib.hid hRR
                have HO2 := Lib.hid hr
                generalize swp d1 i2 j2 = ds at *
                clear HRB HRG HI2 HJ2 HZ hRR hr
                go_wp2_with fail
                go_region
                generalize ((W3.setCell ⟨blk, i2, none⟩ (.string y2.val)).setCell ⟨blk, j2, none⟩ (.string y1.val)).drew = W4 at *
                clear p1 p2 b1 b2 g1 g2 hi2i hj2i hlez hle2z hlt2z
                go_wp2
                go_loopw [12, 13] (fun vi vj wr => ∃ (i j : Nat) (dk : Array (W64 G)), vi = .int .i64 i ∧ vj = .int .i64 j ∧ a < i ∧ i ≤ j + 1 ∧ j ≤ bp ∧ Hid (dk.size = d0.size) ∧ Hid (SW encW w0 blk 0 dk wr) ∧ Hid (partLoop (ltOf cf) a i j dk = r)) (fun vi vj _ => (intOf vj).toNat + 1 - (intOf vi).toNat)
                case atStart => exact ⟨i2 + 1, jp, ds, by go_num, by go_num, by omega, hjp1, hjp2, HZ3, HSW, HO2⟩
                case round =>
                  clear HSW HZ3 HO2 hjp1 hjp2 HJP hjpz hlt2 hle2 hle hi2d hj2d hij3 hj2 hi2 hij2
                  obtain ⟨i, j, dk, rfl, rfl, hai2, hij, hjb, HZ, HS, HO⟩ := hrel
                  go_wp2
                  go_loopw [12] (fun vi wr => ∃ (i2 : Nat), vi = .int .i64 i2 ∧ i ≤ i2 ∧ i2 ≤ j + 1 ∧ Hid (SW encW w0 blk 0 dk wr) ∧ Hid (scanUp (fun x => (ltOf cf) x dk[a]!) dk j i2 = scanUp (fun x => (ltOf cf) x dk[a]!) dk j (i))) (fun vi _ => j + 1 - (intOf vi).toNat)
                  case atStart => exact ⟨i, by go_num, Nat.le_refl _, by omega, HS, Lib.hid rfl⟩
                  case round =>
                    clear HS
                    obtain ⟨i2, rfl, hi2, hij2, HS, HU⟩ := hrel
                    by_cases hle : i2 ≤ j
                    · have hlez : (i2 : Int) ≤ (j : Int) := by omega
                      have hi2i : (i2 : Int) < (n : Int) := by omega
                      have hi2d : i2 < d0.size := by have := HN.out; omega
                      obtain ⟨xi, HXI, qi, ci, fi⟩ := HH.out.look HZ.out HS.out hi2d
                      obtain ⟨xa, HXA, qa, ca, fa⟩ := HH.out.look HZ.out HS.out had
                      have HC := Lib.hid (HH.out.at_ HZ.out HS.out xi xa)
                      cases hlv : (ltOf cf) xi xa with
                      | true =>
                        have hcv : decide (cf xi xa < 0) = true := hlv
                        have hcv' : cf xi xa < 0 := of_decide_eq_true hlv
                        have HU2 : Hid (scanUp (fun x => (ltOf cf) x dk[a]!) dk j (i2 + 1) = scanUp (fun x => (ltOf cf) x dk[a]!) dk j (i)) := Lib.hid (by rw [← HU.out, scanUp_go _ _ _ _ hle (by rw [← HXA.out, ← HXI.out, hlv])])
                        generalize cf xi xa = cv at *
                        clear hlv HU HXA HXI
                        go_wp2_with fail
                        go_quiet_grown ((go_at_call 75; exact Calls.grown_of (HC.out _ _)))
                        have HS3 := Lib.hid (HS.out.grown nq osq)
                        generalize grow (wr.drewN nq) osq = W3 at *
                        clear HC HS qa ca fa qi ci fi
                        go_wp2
                        go_roundw
                        case rel => exact ⟨i2 + 1, by go_num, by omega, by omega, HS3, HU2⟩
                        case measure => (simp [intOf] <;> omega)
                      | false =>
                        have hcv : decide (cf xi xa < 0) = false := hlv
                        have HI2 : Hid (i2 = scanUp (fun x => (ltOf cf) x dk[a]!) dk j (i)) := Lib.hid (by rw [← HU.out, scanUp_end _ _ _ _ (.inr (by rw [← HXA.out, ← HXI.out, hlv]))])
                        generalize cf xi xa = cv at *
                        clear hlv HU HXA HXI
                        go_wp2_with fail
                        go_quiet_grown ((go_at_call 75; exact Calls.grown_of (HC.out _ _)))
                        have HS3 := Lib.hid (HS.out.grown nq osq)
                        generalize grow (wr.drewN nq) osq = W3 at *
                        clear HC HS qa ca fa qi ci fi hcv
                        go_wp2
                        go_loopw [13] (fun vj wr => ∃ (j2 : Nat), vj = .int .i64 j2 ∧ i2 ≤ j2 + 1 ∧ j2 ≤ j ∧ Hid (SW encW w0 blk 0 dk wr) ∧ Hid (scanDown (fun x => !(ltOf cf) x dk[a]!) dk i2 j2 = scanDown (fun x => !(ltOf cf) x dk[a]!) dk i2 j)) (fun vj _ => (intOf vj).toNat)
                        case atStart => exact ⟨j, rfl, hij2, Nat.le_refl _, HS3, Lib.hid rfl⟩
                        case round =>
                          clear HS3
                          obtain ⟨j2, rfl, hij3, hj2, HS, HV⟩ := hrel
                          by_cases hle2 : i2 ≤ j2
                          · have hle2z : (i2 : Int) ≤ (j2 : Int) := by omega
                            have hj2i : (j2 : Int) < (n : Int) := by omega
                            have hj2d : j2 < d0.size := by have := HN.out; omega
                            obtain ⟨jp, hjp⟩ : ∃ x, j2 = x + 1 := ⟨j2 - 1, by omega⟩
                            have hjpz : (j2 : Int) - 1 = (jp : Int) := by omega
                            obtain ⟨xj, HXJ, qj, cj, fj⟩ := HH.out.look HZ.out HS.out hj2d
                            obtain ⟨xa, HXA, qa, ca, fa⟩ := HH.out.look HZ.out HS.out had
                            have HC := Lib.hid (HH.out.at_ HZ.out HS.out xj xa)
                            cases hlv : (ltOf cf) xj xa with
                            | false =>
                              have hcv : decide (cf xj xa < 0) = false := hlv
                              have HV2 : Hid (scanDown (fun x => !(ltOf cf) x dk[a]!) dk i2 jp = scanDown (fun x => !(ltOf cf) x dk[a]!) dk i2 j) := Lib.hid (by rw [← HV.out, scanDown_go _ _ _ _ hle2 (by omega) (by rw [← HXA.out, ← HXJ.out, hlv]; rfl), hjp]; rfl)
                              have HJP : Hid (jp + 1 = j2) := Lib.hid hjp.symm
                              have hjp1 : i2 ≤ jp + 1 := by omega
                              have hjp2 : jp ≤ j := by omega
                              generalize cf xj xa = cv at *
                              clear hlv HV HXA HXJ hjp
                              go_wp2_with fail
                              go_quiet_grown ((go_at_call 75; exact Calls.grown_of (HC.out _ _)))
                              have HS3 := Lib.hid (HS.out.grown nq osq)
                              generalize grow (wr.drewN nq) osq = W3 at *
                              clear HC HS qa ca fa qj cj fj
                              go_wp2
                              go_roundw
                              case rel => exact ⟨jp, by go_num, hjp1, hjp2, HS3, HV2⟩
                              case measure => have := HJP.out; (simp [intOf] <;> omega)
                            | true =>
                              have hcv : decide (cf xj xa < 0) = true := hlv
                              have hcv' : cf xj xa < 0 := of_decide_eq_true hlv
                              have HJ2 : Hid (j2 = scanDown (fun x => !(ltOf cf) x dk[a]!) dk i2 j) := Lib.hid (by rw [← HV.out, scanDown_end _ _ _ _ (.inr (by rw [← HXA.out, ← HXJ.out, hlv]; rfl))])
                              have hlt2 : i2 < j2 := scans_lt2 _ a (i) j dk (by omega) HI2.out HJ2.out hle2
                              have hlt2z : ¬ (j2 : Int) < (i2 : Int) := by omega
                              have hdz : decide (j2 < i2) = false := by simp; omega
                              have HJP : Hid (jp + 1 = j2) := Lib.hid hjp.symm
                              have hjp1 : i2 + 1 ≤ jp + 1 := by omega
                              have hjp2 : jp ≤ bp := by omega
                              have hi2d : i2 < d0.size := by have := HN.out; omega
                              have hi2i : (i2 : Int) < (n : Int) := by omega
                              generalize cf xj xa = cv at *
                              clear hlv HV HXA HXJ hjp
                              go_wp2_with fail
                              go_quiet_grown ((go_at_call 75; exact Calls.grown_of (HC.out _ _)))
                              have HS3 := Lib.hid (HS.out.grown nq osq)
                              generalize grow (wr.drewN nq) osq = W3 at *
                              clear HC HS qa ca fa qj cj fj hcv hcv'
                              obtain ⟨y1, HY1, p1, b1, g1⟩ := HH.out.look HZ.out HS3.out hi2d
                              obtain ⟨y2, HY2, p2, b2, g2⟩ := HH.out.look HZ.out HS3.out hj2d
                              have HSW : Hid (SW encW w0 blk 0 (swp dk i2 j2) ((W3.setCell ⟨blk, i2, none⟩ (.string y2.val)).setCell ⟨blk, j2, none⟩ (.string y1.val)).drew) := Lib.hid (HH.out.swap2 HZ.out HS3.out hi2d hj2d HY1.out HY2.out 1)
                              have HZ3 : Hid ((swp dk i2 j2).size = d0.size) := Lib.hid (by rw [swp_sz]; exact HZ.out)
                              clear HY1 HY2 HS3
                              have HO2 : Hid (partLoop (ltOf cf) a (i2 + 1) jp (swp dk i2 j2) = r) := Lib.hid (by rw [← HO.out, part_go _ _ _ _ _ HI2.out HJ2.out (by omega), show j2 - 1 = jp by have := HJP.out; omega])
                              generalize swp dk i2 j2 = ds at *
                              clear HO HI2 HJ2 HZ
                              go_wp2_with fail
                              go_region
                              generalize ((W3.setCell ⟨blk, i2, none⟩ (.string y2.val)).setCell ⟨blk, j2, none⟩ (.string y1.val)).drew = W4 at *
                              clear p1 p2 b1 b2 g1 g2
                              go_wp2
                              go_roundw
                              case rel => exact ⟨i2 + 1, jp, ds, by go_num, by go_num, by omega, hjp1, hjp2, HZ3, HSW, HO2⟩
                              case measure => have := HJP.out; (simp [intOf] <;> omega)
                          · have hle2z : ¬ (i2 : Int) ≤ (j2 : Int) := by omega
                            have hgt : (j2 : Int) < (i2 : Int) := by omega
                            have HJ2 : Hid (j2 = scanDown (fun x => !(ltOf cf) x dk[a]!) dk i2 j) := Lib.hid (by rw [← HV.out, scanDown_end _ _ _ _ (.inl hle2)])
                            have hRR : R = (j2, false, swp dk j2 a) := by rw [HR.out, ← HO.out, part_break _ _ _ _ _ HI2.out HJ2.out (by omega)]
                            clear HV HI2 HJ2 HR HO
                            subst hRR
                            go_wp2_with fail
                            go_quiet (fail)
                            have HS3 := Lib.hid (HS.out.drewN nq)
                            generalize wr.drewN nq = W3 at *
                            clear HS
                            obtain ⟨z1, HZ1', s1, t1, v1⟩ := HH.out.look HZ.out HS3.out (show j2 < d0.size by have := HN.out; omega)
                            obtain ⟨z2, HZ2', s2, t2, v2⟩ := HH.out.look HZ.out HS3.out had
                            have HSW : Hid (SW encW w0 blk 0 (swp dk j2 a) ((W3.setCell ⟨blk, j2, none⟩ (.string z2.val)).setCell ⟨blk, a, none⟩ (.string z1.val)).drew) := Lib.hid (HH.out.swap2 HZ.out HS3.out (show j2 < d0.size by have := HN.out; omega) had HZ1'.out HZ2'.out 1)
                            have HE12 : Hid (j2 = a → z2 = z1) := Lib.hid (by intro e; rw [HZ1'.out, HZ2'.out, e])
                            have HZ3 : Hid ((swp dk j2 a).size = d0.size) := Lib.hid (by rw [swp_sz]; exact HZ.out)
                            have hjai : (j2 : Int) < (n : Int) := by omega
                            have haj : a ≤ j2 := by omega
                            clear HS3 HZ1' HZ2' s1 s2
                            by_cases hja : j2 = a
                            · have hz := HE12.out hja
                              subst hz
                              clear HE12
                              subst hja
                              go_wp2_with fail
                              go_region
                              go_wp2
                              exact bodyPost_ret (v := .tuple #[.int .i64 j2, .bool false]) (by simp [results, Tryz.results129, go_sem]) rfl ⟨rfl, Lib.hid ⟨HSW.out, HZ3.out⟩⟩
                            · have hlta : a < j2 := by omega
                              clear HE12
                              go_wp2_with fail
                              go_region
                              go_wp2
                              exact bodyPost_ret (v := .tuple #[.int .i64 j2, .bool false]) (by simp [results, Tryz.results129, go_sem]) rfl ⟨rfl, Lib.hid ⟨HSW.out, HZ3.out⟩⟩
                    · have hlez : ¬ (i2 : Int) ≤ (j : Int) := by omega
                      have hgt : (j : Int) < (i2 : Int) := by omega
                      have HI2 : Hid (i2 = scanUp (fun x => (ltOf cf) x dk[a]!) dk j (i)) := Lib.hid (by rw [← HU.out, scanUp_end _ _ _ _ (.inl hle)])
                      have HJ2 : Hid (j = scanDown (fun x => !(ltOf cf) x dk[a]!) dk i2 j) := Lib.hid (by rw [scanDown_end _ _ _ _ (.inl hle)])
                      have hRR : R = (j, false, swp dk j a) := by rw [HR.out, ← HO.out, part_break _ _ _ _ _ HI2.out HJ2.out (by omega)]
                      clear HU HI2 HJ2 HR HO
                      subst hRR
                      go_wp2_with fail
                      go_quiet (fail)
                      have HS3 := Lib.hid (HS.out.drewN nq)
                      generalize wr.drewN nq = W3 at *
                      clear HS
                      go_wp2
                      refine wp_loop_rounds 1 ?_
                      simp only [rounds_succ]
                      go_wp2_with fail
                      go_quiet (fail)
                      have HS4 := Lib.hid (HS3.out.drewN nq)
                      generalize W3.drewN nq = W4 at *
                      clear HS3
                      obtain ⟨z1, HZ1', s1, t1, v1⟩ := HH.out.look HZ.out HS4.out (show j < d0.size by have := HN.out; omega)
                      obtain ⟨z2, HZ2', s2, t2, v2⟩ := HH.out.look HZ.out HS4.out had
                      have HSW : Hid (SW encW w0 blk 0 (swp dk j a) ((W4.setCell ⟨blk, j, none⟩ (.string z2.val)).setCell ⟨blk, a, none⟩ (.string z1.val)).drew) := Lib.hid (HH.out.swap2 HZ.out HS4.out (show j < d0.size by have := HN.out; omega) had HZ1'.out HZ2'.out 1)
                      have HE12 : Hid (j = a → z2 = z1) := Lib.hid (by intro e; rw [HZ1'.out, HZ2'.out, e])
                      have HZ3 : Hid ((swp dk j a).size = d0.size) := Lib.hid (by rw [swp_sz]; exact HZ.out)
                      have hjai : (j : Int) < (n : Int) := by omega
                      have haj : a ≤ j := by omega
                      clear HS4 HZ1' HZ2' s1 s2
                      by_cases hja : j = a
                      · have hz := HE12.out hja
                        subst hz
                        clear HE12
                        subst hja
                        go_wp2_with fail
                        go_region
                        go_wp2
                        exact bodyPost_ret (v := .tuple #[.int .i64 j, .bool false]) (by simp [results, Tryz.results129, go_sem]) rfl ⟨rfl, Lib.hid ⟨HSW.out, HZ3.out⟩⟩
                      · have hlta : a < j := by omega
                        clear HE12
                        go_wp2_with fail
                        go_region
                        go_wp2
                        exact bodyPost_ret (v := .tuple #[.int .i64 j, .bool false]) (by simp [results, Tryz.results129, go_sem]) rfl ⟨rfl, Lib.hid ⟨HSW.out, HZ3.out⟩⟩
            · have hle2z : ¬ (i2 : Int) ≤ (j2 : Int) := by omega
              have hgt : (j2 : Int) < (i2 : Int) := by omega
              have HJ2 : Hid (j2 = scanDown (fun x => !(ltOf cf) x d1[a]!) d1 i2 bp) := Lib.hid (by rw [← HV.out, scanDown_end _ _ _ _ (.inl hle2)])
              have hRR : R = (j2, true, swp d1 j2 a) := HRB.out i2 j2 HI2.out HJ2.out (by omega)
              clear HV HI2 HJ2 HRB HRG
              subst hRR
              go_wp2_with fail
              go_quiet (fail)
              have HS3 := Lib.hid (HS.out.drewN nq)
              generalize wr.drewN nq = W3 at *
              clear HS
              obtain ⟨z1, HZ1', s1, t1, v1⟩ := HH.out.look HZ.out HS3.out (show j2 < d0.size by have := HN.out; omega)
              obtain ⟨z2, HZ2', s2, t2, v2⟩ := HH.out.look HZ.out HS3.out had
              have HSW : Hid (SW encW w0 blk 0 (swp d1 j2 a) ((W3.setCell ⟨blk, j2, none⟩ (.string z2.val)).setCell ⟨blk, a, none⟩ (.string z1.val)).drew) := Lib.hid (HH.out.swap2 HZ.out HS3.out (show j2 < d0.size by have := HN.out; omega) had HZ1'.out HZ2'.out 1)
              have HE12 : Hid (j2 = a → z2 = z1) := Lib.hid (by intro e; rw [HZ1'.out, HZ2'.out, e])
              have HZ3 : Hid ((swp d1 j2 a).size = d0.size) := Lib.hid (by rw [swp_sz]; exact HZ.out)
              have hjai : (j2 : Int) < (n : Int) := by omega
              have haj : a ≤ j2 := by omega
              clear HS3 HZ1' HZ2' s1 s2
              by_cases hja : j2 = a
              · have hz := HE12.out hja
                subst hz
                clear HE12
                subst hja
                go_wp2_with fail
                go_region
                go_wp2
                exact bodyPost_ret (v := .tuple #[.int .i64 j2, .bool true]) (by simp [results, Tryz.results129, go_sem]) rfl ⟨rfl, Lib.hid ⟨HSW.out, HZ3.out⟩⟩
              · have hlta : a < j2 := by omega
                clear HE12
                go_wp2_with fail
                go_region
                go_wp2
                exact bodyPost_ret (v := .tuple #[.int .i64 j2, .bool true]) (by simp [results, Tryz.results129, go_sem]) rfl ⟨rfl, Lib.hid ⟨HSW.out, HZ3.out⟩⟩
      · have hlez : ¬ (i2 : Int) ≤ (bp : Int) := by omega
        have hgt : (bp : Int) < (i2 : Int) := by omega
        have HI2 : Hid (i2 = scanUp (fun x => (ltOf cf) x d1[a]!) d1 bp (a + 1)) := Lib.hid (by rw [← HU.out, scanUp_end _ _ _ _ (.inl hle)])
        have HJ2 : Hid (bp = scanDown (fun x => !(ltOf cf) x d1[a]!) d1 i2 bp) := Lib.hid (by rw [scanDown_end _ _ _ _ (.inl hle)])
        have hRR : R = (bp, true, swp d1 bp a) := HRB.out i2 bp HI2.out HJ2.out (by omega)
        clear HU HI2 HJ2 HRB HRG
        subst hRR
        go_wp2_with fail
        go_quiet (fail)
        have HS3 := Lib.hid (HS.out.drewN nq)
        generalize wr.drewN nq = W3 at *
        clear HS
        go_wp2
        refine wp_loop_rounds 1 ?_
        simp only [rounds_succ]
        go_wp2_with fail
        go_quiet (fail)
        have HS4 := Lib.hid (HS3.out.drewN nq)
        generalize W3.drewN nq = W4 at *
        clear HS3
        obtain ⟨z1, HZ1', s1, t1, v1⟩ := HH.out.look HZ.out HS4.out (show bp < d0.size by have := HN.out; omega)
        obtain ⟨z2, HZ2', s2, t2, v2⟩ := HH.out.look HZ.out HS4.out had
        have HSW : Hid (SW encW w0 blk 0 (swp d1 bp a) ((W4.setCell ⟨blk, bp, none⟩ (.string z2.val)).setCell ⟨blk, a, none⟩ (.string z1.val)).drew) := Lib.hid (HH.out.swap2 HZ.out HS4.out (show bp < d0.size by have := HN.out; omega) had HZ1'.out HZ2'.out 1)
        have HE12 : Hid (bp = a → z2 = z1) := Lib.hid (by intro e; rw [HZ1'.out, HZ2'.out, e])
        have HZ3 : Hid ((swp d1 bp a).size = d0.size) := Lib.hid (by rw [swp_sz]; exact HZ.out)
        have hjai : (bp : Int) < (n : Int) := by omega
        have haj : a ≤ bp := by omega
        clear HS4 HZ1' HZ2' s1 s2
        by_cases hja : bp = a
        · have hz := HE12.out hja
          subst hz
          clear HE12
          subst hja
          go_wp2_with fail
          go_region
          go_wp2
          exact bodyPost_ret (v := .tuple #[.int .i64 bp, .bool true]) (by simp [results, Tryz.results129, go_sem]) rfl ⟨rfl, Lib.hid ⟨HSW.out, HZ3.out⟩⟩
        · have hlta : a < bp := by omega
          clear HE12
          go_wp2_with fail
          go_region
          go_wp2
          exact bodyPost_ret (v := .tuple #[.int .i64 bp, .bool true]) (by simp [results, Tryz.results129, go_sem]) rfl ⟨rfl, Lib.hid ⟨HSW.out, HZ3.out⟩⟩
end Go.Proofs.YtdjieapobodakaaGreatDoor.Led
end

section
namespace Go.Proofs.YtdjieapobodakaaGreatDoor.Led
open Go Go.RowKit Go.Maps Go.WideMaps Go.Shelf Go.Lib Go.Sort
set_option maxRecDepth 100000

variable {G : ByteArray → Prop} [Inhabited (W64 G)]

section
variable (lt : (W64 G) → (W64 G) → Bool)
theorem scanS_go (d : Array (W64 G)) (b i : Nat) (h : i < b) (hl : lt d[i]! d[i - 1]! = false) : scanSorted lt d b i = scanSorted lt d b (i + 1) := by
  rw [scanSorted, if_pos (by simp [h, hl])]
theorem scanS_stop (d : Array (W64 G)) (b i : Nat) (h : ¬ i < b ∨ lt d[i]! d[i - 1]! = true) : scanSorted lt d b i = i := by
  rw [scanSorted, if_neg (by rcases h with h | h <;> simp [h])]
theorem shiftUp_go (b j : Nat) (d : Array (W64 G)) (h : j < b) (hl : lt d[j]! d[j - 1]! = true) : shiftUp lt b j d = shiftUp lt b (j + 1) (swp d j (j - 1)) := by
  rw [shiftUp, if_pos h, hl]; rfl
theorem shiftUp_stop (b j : Nat) (d : Array (W64 G)) (h : ¬ j < b ∨ lt d[j]! d[j - 1]! = false) : shiftUp lt b j d = d := by
  rw [shiftUp]
  rcases h with h | h
  · rw [if_neg h]
  · rw [h]; simp
theorem shiftDown_go (j : Nat) (d : Array (W64 G)) (hl : lt d[j + 1]! d[j]! = true) : shiftDown lt (j + 1) d = shiftDown lt j (swp d (j + 1) j) := by
  rw [shiftDown, hl]; rfl
theorem shiftDown_stop (j : Nat) (d : Array (W64 G)) (hl : lt d[j + 1]! d[j]! = false) : shiftDown lt (j + 1) d = d := by
  rw [shiftDown, hl]; rfl
theorem pins_done (a b s i i2 : Nat) (d : Array (W64 G)) (h : i2 = scanSorted lt d b i) (hb : i2 = b) : partialIns lt a b (s + 1) i d = (d, true) := by
  subst h
  rw [partialIns]
  simp only []
  rw [if_pos hb]
theorem pins_short (a b s i i2 : Nat) (d : Array (W64 G)) (h : i2 = scanSorted lt d b i) (hb : ¬ i2 = b) (h50 : b - a < 50) : partialIns lt a b (s + 1) i d = (d, false) := by
  subst h
  rw [partialIns]
  simp only []
  rw [if_neg hb, if_pos h50]
theorem pins_more (a b s i i2 : Nat) (d : Array (W64 G)) (h : i2 = scanSorted lt d b i) (hb : ¬ i2 = b) (h50 : ¬ b - a < 50) : partialIns lt a b (s + 1) i d = partialIns lt a b s i2 (if b - i2 ≥ 2 then shiftUp lt b (i2 + 1) (if i2 - a ≥ 2 then shiftDown lt (i2 - 1) (swp d i2 (i2 - 1)) else swp d i2 (i2 - 1)) else (if i2 - a ≥ 2 then shiftDown lt (i2 - 1) (swp d i2 (i2 - 1)) else swp d i2 (i2 - 1))) := by
  subst h
  rw [partialIns]
  simp only []
  rw [if_neg hb, if_neg h50]
end

set_option maxHeartbeats 25600000 in
set_option maxRecDepth 100000 in
theorem pins_any {cf : (W64 G) → (W64 G) → Int} {l blk cap : Nat} {d0 : Array (W64 G)} {w0 : World} (H : Srt cf l blk cap d0 w0) {d : Array (W64 G)} {w : World} (hs : d.size = d0.size) (S : SW encW w0 blk 0 d w) {a b n : Nat} (hn : n = d0.size) (hab : a < b) (hb : b ≤ n) :
    Calls Tryz.prog 127 #[.slice (some ⟨blk, 0, none⟩) n cap, .int .i64 a, .int .i64 b, .func (.func 75) #[.pointer (some ⟨l, 0, none⟩)] #[]] w fun e w' => e = .returned (.bool (partialInsertionSort (ltOf cf) d a b).2) ∧ Hid (SW encW w0 blk 0 (partialInsertionSort (ltOf cf) d a b).1 w' ∧ (partialInsertionSort (ltOf cf) d a b).1.size = d0.size) := by
  have HS := Lib.hid S
  have HZ := Lib.hid hs
  have hbig := H.big
  have hcap := H.cap
  have HN := Lib.hid hn
  have HH := Lib.hid H
  have hn1 : n < 1000000 := by omega
  have hnc : n ≤ cap := by omega
  obtain ⟨R, hR⟩ : ∃ R, partialInsertionSort (ltOf cf) d a b = R := ⟨_, rfl⟩
  rw [hR]
  have HR : Hid (partialIns (ltOf cf) a b (5 - 0) (a + 1) d = R) := Lib.hid hR
  clear S hs hn hbig hcap H hR
  have mixed := mixed_prog
  go_enter Tryz.func127, Tryz.ntmps127
  go_wp2
  go_loopw [9, 10] (fun vi vk wr => ∃ (i k : Nat) (dk : Array (W64 G)), vi = .int .i64 i ∧ vk = .int .i64 k ∧ a < i ∧ i ≤ b ∧ k ≤ 5 ∧ Hid (dk.size = d0.size) ∧ Hid (SW encW w0 blk 0 dk wr) ∧ Hid (partialIns (ltOf cf) a b (5 - k) i dk = R)) (fun _ vk _ => 5 - (intOf vk).toNat)
  case atStart => exact ⟨a + 1, 0, d, by go_num, rfl, by omega, by omega, by omega, HZ, HS, HR⟩
  case round =>
    clear HS HZ HR
    obtain ⟨i, k, dk, rfl, rfl, hai, hib, hk5, HZ, HS, HO⟩ := hrel
    by_cases hk : k < 5
    · have hkz : (k : Int) < 5 := by omega
      obtain ⟨s, hs⟩ : ∃ s, 5 - k = s + 1 := ⟨4 - k, by omega⟩
      rw [hs] at HO
      have HKS : Hid (5 - k = s + 1) := Lib.hid hs
      clear hs
      go_wp2
      go_loopw [9] (fun vi wr => ∃ (i2 : Nat), vi = .int .i64 i2 ∧ i ≤ i2 ∧ i2 ≤ b ∧ Hid (SW encW w0 blk 0 dk wr) ∧ Hid (scanSorted (ltOf cf) dk b i2 = scanSorted (ltOf cf) dk b i)) (fun vi _ => b - (intOf vi).toNat)
      case atStart => exact ⟨i, rfl, Nat.le_refl _, hib, HS, Lib.hid rfl⟩
      case round =>
        clear HS
        obtain ⟨i2, rfl, hi2, hi2b, HS, HU⟩ := hrel
        by_cases hlt : i2 < b
        · have hltz : (i2 : Int) < (b : Int) := by omega
          obtain ⟨ip, hip⟩ : ∃ x, i2 = x + 1 := ⟨i2 - 1, by omega⟩
          have hipz : (i2 : Int) - 1 = (ip : Int) := by omega
          have hw_ip : IntKind.i64.wrap (ip : Int) = (ip : Int) := by rw [IntKind.wrap_i64]; omega
          have hi2i : (i2 : Int) < (n : Int) := by omega
          have hipi : (ip : Int) < (n : Int) := by omega
          have hi2d : i2 < d0.size := by have := HN.out; omega
          have hipd : ip < d0.size := by have := HN.out; omega
          have hipi2 : ip < i2 := by omega
          obtain ⟨x1, HX1, q1, c1, f1⟩ := HH.out.look HZ.out HS.out hi2d
          obtain ⟨x0, HX0, q0, c0, f0⟩ := HH.out.look HZ.out HS.out hipd
          have HC := Lib.hid (HH.out.at_ HZ.out HS.out x1 x0)
          cases hlv : (ltOf cf) x1 x0 with
          | false =>
            have hcv : decide (cf x1 x0 < 0) = false := hlv
            have HU2 : Hid (scanSorted (ltOf cf) dk b (i2 + 1) = scanSorted (ltOf cf) dk b i) := Lib.hid (by rw [← HU.out, scanS_go _ _ _ _ hlt (by rw [show i2 - 1 = ip by omega, ← HX1.out, ← HX0.out, hlv])])
            generalize cf x1 x0 = cv at *
            clear hlv HU HX1 HX0 hip
            go_wp2_with fail
            go_quiet_grown ((go_at_call 75; exact Calls.grown_of (HC.out _ _)))
            have HS3 := Lib.hid (HS.out.grown nq osq)
            generalize grow (wr.drewN nq) osq = W3 at *
            clear HC HS q1 c1 f1 q0 c0 f0
            go_wp2
            go_roundw
            case rel => exact ⟨i2 + 1, by go_num, by omega, by omega, HS3, HU2⟩
            case measure => (simp [intOf] <;> omega)
          | true =>
            have hcv : decide (cf x1 x0 < 0) = true := hlv
            have hcv' : cf x1 x0 < 0 := of_decide_eq_true hlv
            have HI2 : Hid (i2 = scanSorted (ltOf cf) dk b i) := Lib.hid (by rw [← HU.out, scanS_stop _ _ _ _ (.inr (by rw [show i2 - 1 = ip by omega, ← HX1.out, ← HX0.out, hlv]))])
            have hneb : ¬ (i2 : Int) = (b : Int) := by omega
            have hneb2 : ((i2 : Int) == (b : Int)) = false := beq_eq_false_iff_ne.2 (by omega)
            have HIP : Hid (i2 - 1 = ip) := Lib.hid (by omega)
            generalize cf x1 x0 = cv at *
            clear hlv HU HX1 HX0 hip
            by_cases h50 : b - a < 50
            · have h50z : (b : Int) - (a : Int) < 50 := by omega
              have hRR : R = (dk, false) := by rw [← HO.out, pins_short _ _ _ _ _ _ _ HI2.out (by omega) h50]
              clear HO HI2
              subst hRR
              go_wp2_with fail
              go_quiet_grown ((go_at_call 75; exact Calls.grown_of (HC.out _ _)))
              have HS3 := Lib.hid (HS.out.grown nq osq)
              generalize grow (wr.drewN nq) osq = W3 at *
              clear HC HS q1 c1 f1 q0 c0 f0
              go_wp2
              exact bodyPost_ret (v := .bool false) (by simp [results, Tryz.results127, go_sem]) rfl ⟨rfl, Lib.hid ⟨HS3.out, HZ.out⟩⟩
            · have h50z : ¬ (b : Int) - (a : Int) < 50 := by omega
              have HO2 := Lib.hid (HO.out.symm.trans (pins_more _ _ _ _ _ _ _ HI2.out (by omega) h50)).symm
              rw [HIP.out] at HO2
              clear HO HI2 h50
              go_wp2_with fail
              go_quiet_grown ((go_at_call 75; exact Calls.grown_of (HC.out _ _)))
              have HS3 := Lib.hid (HS.out.grown nq osq)
              generalize grow (wr.drewN nq) osq = W3 at *
              clear HC HS q1 c1 f1 q0 c0 f0
              obtain ⟨y1, HY1, p1, b1, g1⟩ := HH.out.look HZ.out HS3.out hi2d
              obtain ⟨y2, HY2, p2, b2, g2⟩ := HH.out.look HZ.out HS3.out hipd
              have HSW : Hid (SW encW w0 blk 0 (swp dk i2 ip) ((W3.setCell ⟨blk, i2, none⟩ (.string y2.val)).setCell ⟨blk, ip, none⟩ (.string y1.val)).drew) := Lib.hid (HH.out.swap2 HZ.out HS3.out hi2d hipd HY1.out HY2.out 1)
              have HZ3 : Hid ((swp dk i2 ip).size = d0.size) := Lib.hid (by rw [swp_sz]; exact HZ.out)
              generalize swp dk i2 ip = ds at *
              clear HZ HY1 HY2 HS3
              go_wp2_with fail
              go_region
              generalize ((W3.setCell ⟨blk, i2, none⟩ (.string y2.val)).setCell ⟨blk, ip, none⟩ (.string y1.val)).drew = W4 at *
              clear p1 p2 b1 b2 g1 g2
              by_cases hbd : i2 - a ≥ 2
              · have hbdz : (2 : Int) ≤ (i2 : Int) - (a : Int) := by omega
                rw [if_pos hbd] at HO2
                go_wp2
                go_loopw [11] (fun vj wr => ∃ (j : Nat) (dk : Array (W64 G)), vj = .int .i64 j ∧ j ≤ ip ∧ Hid (dk.size = d0.size) ∧ Hid (SW encW w0 blk 0 dk wr) ∧ Hid (shiftDown (ltOf cf) j dk = shiftDown (ltOf cf) ip ds)) (fun vj _ => (intOf vj).toNat)
                case atStart => exact ⟨ip, ds, rfl, Nat.le_refl _, HZ3, HSW, Lib.hid rfl⟩
                case round =>
                  clear HSW HZ3
                  obtain ⟨j, dk, rfl, hjip, HZ, HS, HV⟩ := hrel
                  by_cases hj0 : 0 < j
                  · have hj0z : (1 : Int) ≤ (j : Int) := by omega
                    obtain ⟨jp, hjp⟩ : ∃ x, j = x + 1 := ⟨j - 1, by omega⟩
                    have hjpz : (j : Int) - 1 = (jp : Int) := by omega
                    have hw_jp : IntKind.i64.wrap (jp : Int) = (jp : Int) := by rw [IntKind.wrap_i64]; omega
                    have hji : (j : Int) < (n : Int) := by omega
                    have hjpi : (jp : Int) < (n : Int) := by omega
                    have hjd : j < d0.size := by have := HN.out; omega
                    have hjpd : jp < d0.size := by have := HN.out; omega
                    have hjj : jp < j := by omega
                    obtain ⟨x1, HX1, q1, c1, f1⟩ := HH.out.look HZ.out HS.out hjd
                    obtain ⟨x0, HX0, q0, c0, f0⟩ := HH.out.look HZ.out HS.out hjpd
                    have HC := Lib.hid (HH.out.at_ HZ.out HS.out x1 x0)
                    cases hlw : (ltOf cf) x1 x0 with
                    | true =>
                      have hcw : decide (cf x1 x0 < 0) = true := hlw
                      have hcw' : cf x1 x0 < 0 := of_decide_eq_true hlw
                      have HV2 : Hid (shiftDown (ltOf cf) jp (swp dk j jp) = shiftDown (ltOf cf) ip ds) := Lib.hid (by rw [← HV.out, hjp, shiftDown_go _ _ _ (by rw [← hjp, ← HX1.out, ← HX0.out, hlw])])
                      have hjip2 : jp ≤ ip := by omega
                      have HJP : Hid (j = jp + 1) := Lib.hid hjp
                      generalize cf x1 x0 = cw at *
                      generalize hdi : shiftDown (ltOf cf) ip ds = dI at *
                      clear hlw HX1 HX0 HV hjp hdi
                      go_wp2_with fail
                      go_quiet_grown ((go_at_call 75; exact Calls.grown_of (HC.out _ _)))
                      have HS3 := Lib.hid (HS.out.grown nq osq)
                      generalize grow (wr.drewN nq) osq = W3 at *
                      clear HC HS q1 c1 f1 q0 c0 f0
                      obtain ⟨y1, HY1, p1, b1, g1⟩ := HH.out.look HZ.out HS3.out hjd
                      obtain ⟨y2, HY2, p2, b2, g2⟩ := HH.out.look HZ.out HS3.out hjpd
                      have HSW : Hid (SW encW w0 blk 0 (swp dk j jp) ((W3.setCell ⟨blk, j, none⟩ (.string y2.val)).setCell ⟨blk, jp, none⟩ (.string y1.val)).drew) := Lib.hid (HH.out.swap2 HZ.out HS3.out hjd hjpd HY1.out HY2.out 1)
                      have HZ3 : Hid ((swp dk j jp).size = d0.size) := Lib.hid (by rw [swp_sz]; exact HZ.out)
                      generalize swp dk j jp = dt at *
                      clear HZ HY1 HY2 HS3
                      go_wp2_with fail
                      go_region
                      generalize ((W3.setCell ⟨blk, j, none⟩ (.string y2.val)).setCell ⟨blk, jp, none⟩ (.string y1.val)).drew = W4 at *
                      clear p1 p2 b1 b2 g1 g2
                      go_wp2
                      go_roundw
                      case rel => exact ⟨jp, dt, by go_num, hjip2, HZ3, HSW, HV2⟩
                      case measure => (simp [intOf] <;> omega)
                    | false =>
                      have hcw : decide (cf x1 x0 < 0) = false := hlw
                      have HO3 : Hid (partialIns (ltOf cf) a b s i2 (if b - i2 ≥ 2 then shiftUp (ltOf cf) b (i2 + 1) dk else dk) = R) := Lib.hid (by rw [← HO2.out, ← HV.out, hjp, shiftDown_stop _ _ _ (by rw [← hjp, ← HX1.out, ← HX0.out, hlw])])
                      generalize cf x1 x0 = cw at *
                      clear hlw HX1 HX0 HV hjp HO2
                      go_wp2_with fail
                      go_quiet_grown ((go_at_call 75; exact Calls.grown_of (HC.out _ _)))
                      have HS3 := Lib.hid (HS.out.grown nq osq)
                      generalize grow (wr.drewN nq) osq = W3 at *
                      clear HC HS q1 c1 f1 q0 c0 f0
                      by_cases hbu : b - i2 ≥ 2
                      · have hbuz : (2 : Int) ≤ (b : Int) - (i2 : Int) := by omega
                        rw [if_pos hbu] at HO3
                        go_wp2
                        go_loopw [12] (fun vj wr => ∃ (j : Nat) (du : Array (W64 G)), vj = .int .i64 j ∧ i2 < j ∧ j ≤ b ∧ Hid (du.size = d0.size) ∧ Hid (SW encW w0 blk 0 du wr) ∧ Hid (shiftUp (ltOf cf) b j du = shiftUp (ltOf cf) b (i2 + 1) dk)) (fun vj _ => b - (intOf vj).toNat)
                        case atStart => exact ⟨i2 + 1, dk, by go_num, by omega, by omega, HZ, HS3, Lib.hid rfl⟩
                        case round =>
                          clear HS3 HZ
                          obtain ⟨j, du, rfl, hij, hjb, HZ, HS, HV⟩ := hrel
                          by_cases hjlt : j < b
                          · have hjlz : (j : Int) < (b : Int) := by omega
                            obtain ⟨jp, hjp⟩ : ∃ x, j = x + 1 := ⟨j - 1, by omega⟩
                            have hjpz : (j : Int) - 1 = (jp : Int) := by omega
                            have hw_jp : IntKind.i64.wrap (jp : Int) = (jp : Int) := by rw [IntKind.wrap_i64]; omega
                            have hji : (j : Int) < (n : Int) := by omega
                            have hjpi : (jp : Int) < (n : Int) := by omega
                            have hjd : j < d0.size := by have := HN.out; omega
                            have hjpd : jp < d0.size := by have := HN.out; omega
                            have hjj : jp < j := by omega
                            obtain ⟨x1, HX1, q1, c1, f1⟩ := HH.out.look HZ.out HS.out hjd
                            obtain ⟨x0, HX0, q0, c0, f0⟩ := HH.out.look HZ.out HS.out hjpd
                            have HC := Lib.hid (HH.out.at_ HZ.out HS.out x1 x0)
                            cases hlw : (ltOf cf) x1 x0 with
                            | true =>
                              have hcw : decide (cf x1 x0 < 0) = true := hlw
                              have hcw' : cf x1 x0 < 0 := of_decide_eq_true hlw
                              have HV2 : Hid (shiftUp (ltOf cf) b (j + 1) (swp du j jp) = shiftUp (ltOf cf) b (i2 + 1) dk) := Lib.hid (by rw [← HV.out, shiftUp_go _ _ _ _ hjlt (by rw [show j - 1 = jp by omega, ← HX1.out, ← HX0.out, hlw]), show j - 1 = jp by omega])
                              generalize cf x1 x0 = cw at *
                              clear hlw HX1 HX0 HV hjp
                              go_wp2_with fail
                              go_quiet_grown ((go_at_call 75; exact Calls.grown_of (HC.out _ _)))
                              have HS3 := Lib.hid (HS.out.grown nq osq)
                              generalize grow (wr.drewN nq) osq = W3 at *
                              clear HC HS q1 c1 f1 q0 c0 f0
                              obtain ⟨y1, HY1, p1, b1, g1⟩ := HH.out.look HZ.out HS3.out hjd
                              obtain ⟨y2, HY2, p2, b2, g2⟩ := HH.out.look HZ.out HS3.out hjpd
                              have HSW : Hid (SW encW w0 blk 0 (swp du j jp) ((W3.setCell ⟨blk, j, none⟩ (.string y2.val)).setCell ⟨blk, jp, none⟩ (.string y1.val)).drew) := Lib.hid (HH.out.swap2 HZ.out HS3.out hjd hjpd HY1.out HY2.out 1)
                              have HZ3 : Hid ((swp du j jp).size = d0.size) := Lib.hid (by rw [swp_sz]; exact HZ.out)
                              generalize swp du j jp = dv at *
                              clear HZ HY1 HY2 HS3
                              go_wp2_with fail
                              go_region
                              generalize ((W3.setCell ⟨blk, j, none⟩ (.string y2.val)).setCell ⟨blk, jp, none⟩ (.string y1.val)).drew = W4 at *
                              clear p1 p2 b1 b2 g1 g2
                              go_wp2
                              go_roundw
                              case rel => exact ⟨j + 1, dv, by go_num, by omega, by omega, HZ3, HSW, HV2⟩
                              case measure => (simp [intOf] <;> omega)
                            | false =>
                              have hcw : decide (cf x1 x0 < 0) = false := hlw
                              have HO4 : Hid (partialIns (ltOf cf) a b s i2 du = R) := Lib.hid (by rw [← HO3.out, ← HV.out, shiftUp_stop _ _ _ _ (.inr (by rw [show j - 1 = jp by omega, ← HX1.out, ← HX0.out, hlw]))])
                              generalize cf x1 x0 = cw at *
                              clear hlw HX1 HX0 HV hjp HO3
                              have HO5 : Hid (partialIns (ltOf cf) a b (5 - (k + 1)) i2 du = R) := Lib.hid (by rw [← HO4.out, show 5 - (k + 1) = s by have := HKS.out; omega])
                              go_wp2_with fail
                              go_quiet_grown ((go_at_call 75; exact Calls.grown_of (HC.out _ _)))
                              have HS3 := Lib.hid (HS.out.grown nq osq)
                              generalize grow (wr.drewN nq) osq = W3 at *
                              clear HC HS q1 c1 f1 q0 c0 f0
                              go_wp2
                              go_roundw
                              case rel => exact ⟨i2, k + 1, du, by go_num, by go_num, by omega, by omega, by omega, HZ, HS3, HO5⟩
                              case measure => (simp [intOf] <;> omega)
                          · have hjlz : ¬ (j : Int) < (b : Int) := by omega
                            have HO5 : Hid (partialIns (ltOf cf) a b (5 - (k + 1)) i2 du = R) := Lib.hid (by rw [show 5 - (k + 1) = s by have := HKS.out; omega, ← HO3.out, ← HV.out, shiftUp_stop _ _ _ _ (.inl hjlt)])
                            clear HV HO3
                            go_wp2
                            go_roundw
                            case rel => exact ⟨i2, k + 1, du, by go_num, by go_num, by omega, by omega, by omega, HZ, HS, HO5⟩
                            case measure => (simp [intOf] <;> omega)
                      · have hbuz : ¬ (2 : Int) ≤ (b : Int) - (i2 : Int) := by omega
                        rw [if_neg hbu] at HO3
                        have HO5 : Hid (partialIns (ltOf cf) a b (5 - (k + 1)) i2 dk = R) := Lib.hid (by rw [← HO3.out, show 5 - (k + 1) = s by have := HKS.out; omega])
                        clear HO3
                        go_wp2
                        go_roundw
                        case rel => exact ⟨i2, k + 1, dk, by go_num, by go_num, by omega, by omega, by omega, HZ, HS3, HO5⟩
                        case measure => (simp [intOf] <;> omega)
                  · have hj0z : ¬ (1 : Int) ≤ (j : Int) := by omega
                    have HO3 : Hid (partialIns (ltOf cf) a b s i2 (if b - i2 ≥ 2 then shiftUp (ltOf cf) b (i2 + 1) dk else dk) = R) := Lib.hid (by rw [← HO2.out, ← HV.out, show j = 0 by omega]; rfl)
                    clear HV HO2
                    by_cases hbu : b - i2 ≥ 2
                    · have hbuz : (2 : Int) ≤ (b : Int) - (i2 : Int) := by omega
                      rw [if_pos hbu] at HO3
                      go_wp2
                      go_loopw [12] (fun vj wr => ∃ (j : Nat) (du : Array (W64 G)), vj = .int .i64 j ∧ i2 < j ∧ j ≤ b ∧ Hid (du.size = d0.size) ∧ Hid (SW encW w0 blk 0 du wr) ∧ Hid (shiftUp (ltOf cf) b j du = shiftUp (ltOf cf) b (i2 + 1) dk)) (fun vj _ => b - (intOf vj).toNat)
                      case atStart => exact ⟨i2 + 1, dk, by go_num, by omega, by omega, HZ, HS, Lib.hid rfl⟩
                      case round =>
                        clear HS HZ
                        obtain ⟨j, du, rfl, hij, hjb, HZ, HS, HV⟩ := hrel
                        by_cases hjlt : j < b
                        · have hjlz : (j : Int) < (b : Int) := by omega
                          obtain ⟨jp, hjp⟩ : ∃ x, j = x + 1 := ⟨j - 1, by omega⟩
                          have hjpz : (j : Int) - 1 = (jp : Int) := by omega
                          have hw_jp : IntKind.i64.wrap (jp : Int) = (jp : Int) := by rw [IntKind.wrap_i64]; omega
                          have hji : (j : Int) < (n : Int) := by omega
                          have hjpi : (jp : Int) < (n : Int) := by omega
                          have hjd : j < d0.size := by have := HN.out; omega
                          have hjpd : jp < d0.size := by have := HN.out; omega
                          have hjj : jp < j := by omega
                          obtain ⟨x1, HX1, q1, c1, f1⟩ := HH.out.look HZ.out HS.out hjd
                          obtain ⟨x0, HX0, q0, c0, f0⟩ := HH.out.look HZ.out HS.out hjpd
                          have HC := Lib.hid (HH.out.at_ HZ.out HS.out x1 x0)
                          cases hlw : (ltOf cf) x1 x0 with
                          | true =>
                            have hcw : decide (cf x1 x0 < 0) = true := hlw
                            have hcw' : cf x1 x0 < 0 := of_decide_eq_true hlw
                            have HV2 : Hid (shiftUp (ltOf cf) b (j + 1) (swp du j jp) = shiftUp (ltOf cf) b (i2 + 1) dk) := Lib.hid (by rw [← HV.out, shiftUp_go _ _ _ _ hjlt (by rw [show j - 1 = jp by omega, ← HX1.out, ← HX0.out, hlw]), show j - 1 = jp by omega])
                            generalize cf x1 x0 = cw at *
                            clear hlw HX1 HX0 HV hjp
                            go_wp2_with fail
                            go_quiet_grown ((go_at_call 75; exact Calls.grown_of (HC.out _ _)))
                            have HS3 := Lib.hid (HS.out.grown nq osq)
                            generalize grow (wr.drewN nq) osq = W3 at *
                            clear HC HS q1 c1 f1 q0 c0 f0
                            obtain ⟨y1, HY1, p1, b1, g1⟩ := HH.out.look HZ.out HS3.out hjd
                            obtain ⟨y2, HY2, p2, b2, g2⟩ := HH.out.look HZ.out HS3.out hjpd
                            have HSW : Hid (SW encW w0 blk 0 (swp du j jp) ((W3.setCell ⟨blk, j, none⟩ (.string y2.val)).setCell ⟨blk, jp, none⟩ (.string y1.val)).drew) := Lib.hid (HH.out.swap2 HZ.out HS3.out hjd hjpd HY1.out HY2.out 1)
                            have HZ3 : Hid ((swp du j jp).size = d0.size) := Lib.hid (by rw [swp_sz]; exact HZ.out)
                            generalize swp du j jp = dv at *
                            clear HZ HY1 HY2 HS3
                            go_wp2_with fail
                            go_region
                            generalize ((W3.setCell ⟨blk, j, none⟩ (.string y2.val)).setCell ⟨blk, jp, none⟩ (.string y1.val)).drew = W4 at *
                            clear p1 p2 b1 b2 g1 g2
                            go_wp2
                            go_roundw
                            case rel => exact ⟨j + 1, dv, by go_num, by omega, by omega, HZ3, HSW, HV2⟩
                            case measure => (simp [intOf] <;> omega)
                          | false =>
                            have hcw : decide (cf x1 x0 < 0) = false := hlw
                            have HO4 : Hid (partialIns (ltOf cf) a b s i2 du = R) := Lib.hid (by rw [← HO3.out, ← HV.out, shiftUp_stop _ _ _ _ (.inr (by rw [show j - 1 = jp by omega, ← HX1.out, ← HX0.out, hlw]))])
                            generalize cf x1 x0 = cw at *
                            clear hlw HX1 HX0 HV hjp HO3
                            have HO5 : Hid (partialIns (ltOf cf) a b (5 - (k + 1)) i2 du = R) := Lib.hid (by rw [← HO4.out, show 5 - (k + 1) = s by have := HKS.out; omega])
                            go_wp2_with fail
                            go_quiet_grown ((go_at_call 75; exact Calls.grown_of (HC.out _ _)))
                            have HS3 := Lib.hid (HS.out.grown nq osq)
                            generalize grow (wr.drewN nq) osq = W3 at *
                            clear HC HS q1 c1 f1 q0 c0 f0
                            go_wp2
                            go_roundw
                            case rel => exact ⟨i2, k + 1, du, by go_num, by go_num, by omega, by omega, by omega, HZ, HS3, HO5⟩
                            case measure => (simp [intOf] <;> omega)
                        · have hjlz : ¬ (j : Int) < (b : Int) := by omega
                          have HO5 : Hid (partialIns (ltOf cf) a b (5 - (k + 1)) i2 du = R) := Lib.hid (by rw [show 5 - (k + 1) = s by have := HKS.out; omega, ← HO3.out, ← HV.out, shiftUp_stop _ _ _ _ (.inl hjlt)])
                          clear HV HO3
                          go_wp2
                          go_roundw
                          case rel => exact ⟨i2, k + 1, du, by go_num, by go_num, by omega, by omega, by omega, HZ, HS, HO5⟩
                          case measure => (simp [intOf] <;> omega)
                    · have hbuz : ¬ (2 : Int) ≤ (b : Int) - (i2 : Int) := by omega
                      rw [if_neg hbu] at HO3
                      have HO5 : Hid (partialIns (ltOf cf) a b (5 - (k + 1)) i2 dk = R) := Lib.hid (by rw [← HO3.out, show 5 - (k + 1) = s by have := HKS.out; omega])
                      clear HO3
                      go_wp2
                      go_roundw
                      case rel => exact ⟨i2, k + 1, dk, by go_num, by go_num, by omega, by omega, by omega, HZ, HS, HO5⟩
                      case measure => (simp [intOf] <;> omega)
              · have hbdz : ¬ (2 : Int) ≤ (i2 : Int) - (a : Int) := by omega
                rw [if_neg hbd] at HO2
                have HO3 := HO2
                clear HO2
                by_cases hbu : b - i2 ≥ 2
                · have hbuz : (2 : Int) ≤ (b : Int) - (i2 : Int) := by omega
                  rw [if_pos hbu] at HO3
                  go_wp2
                  go_loopw [12] (fun vj wr => ∃ (j : Nat) (du : Array (W64 G)), vj = .int .i64 j ∧ i2 < j ∧ j ≤ b ∧ Hid (du.size = d0.size) ∧ Hid (SW encW w0 blk 0 du wr) ∧ Hid (shiftUp (ltOf cf) b j du = shiftUp (ltOf cf) b (i2 + 1) ds)) (fun vj _ => b - (intOf vj).toNat)
                  case atStart => exact ⟨i2 + 1, ds, by go_num, by omega, by omega, HZ3, HSW, Lib.hid rfl⟩
                  case round =>
                    clear HSW HZ3
                    obtain ⟨j, du, rfl, hij, hjb, HZ, HS, HV⟩ := hrel
                    by_cases hjlt : j < b
                    · have hjlz : (j : Int) < (b : Int) := by omega
                      obtain ⟨jp, hjp⟩ : ∃ x, j = x + 1 := ⟨j - 1, by omega⟩
                      have hjpz : (j : Int) - 1 = (jp : Int) := by omega
                      have hw_jp : IntKind.i64.wrap (jp : Int) = (jp : Int) := by rw [IntKind.wrap_i64]; omega
                      have hji : (j : Int) < (n : Int) := by omega
                      have hjpi : (jp : Int) < (n : Int) := by omega
                      have hjd : j < d0.size := by have := HN.out; omega
                      have hjpd : jp < d0.size := by have := HN.out; omega
                      have hjj : jp < j := by omega
                      obtain ⟨x1, HX1, q1, c1, f1⟩ := HH.out.look HZ.out HS.out hjd
                      obtain ⟨x0, HX0, q0, c0, f0⟩ := HH.out.look HZ.out HS.out hjpd
                      have HC := Lib.hid (HH.out.at_ HZ.out HS.out x1 x0)
                      cases hlw : (ltOf cf) x1 x0 with
                      | true =>
                        have hcw : decide (cf x1 x0 < 0) = true := hlw
                        have hcw' : cf x1 x0 < 0 := of_decide_eq_true hlw
                        have HV2 : Hid (shiftUp (ltOf cf) b (j + 1) (swp du j jp) = shiftUp (ltOf cf) b (i2 + 1) ds) := Lib.hid (by rw [← HV.out, shiftUp_go _ _ _ _ hjlt (by rw [show j - 1 = jp by omega, ← HX1.out, ← HX0.out, hlw]), show j - 1 = jp by omega])
                        generalize cf x1 x0 = cw at *
                        clear hlw HX1 HX0 HV hjp
                        go_wp2_with fail
                        go_quiet_grown ((go_at_call 75; exact Calls.grown_of (HC.out _ _)))
                        have HS3 := Lib.hid (HS.out.grown nq osq)
                        generalize grow (wr.drewN nq) osq = W3 at *
                        clear HC HS q1 c1 f1 q0 c0 f0
                        obtain ⟨y1, HY1, p1, b1, g1⟩ := HH.out.look HZ.out HS3.out hjd
                        obtain ⟨y2, HY2, p2, b2, g2⟩ := HH.out.look HZ.out HS3.out hjpd
                        have HSW : Hid (SW encW w0 blk 0 (swp du j jp) ((W3.setCell ⟨blk, j, none⟩ (.string y2.val)).setCell ⟨blk, jp, none⟩ (.string y1.val)).drew) := Lib.hid (HH.out.swap2 HZ.out HS3.out hjd hjpd HY1.out HY2.out 1)
                        have HZ3 : Hid ((swp du j jp).size = d0.size) := Lib.hid (by rw [swp_sz]; exact HZ.out)
                        generalize swp du j jp = dv at *
                        clear HZ HY1 HY2 HS3
                        go_wp2_with fail
                        go_region
                        generalize ((W3.setCell ⟨blk, j, none⟩ (.string y2.val)).setCell ⟨blk, jp, none⟩ (.string y1.val)).drew = W4 at *
                        clear p1 p2 b1 b2 g1 g2
                        go_wp2
                        go_roundw
                        case rel => exact ⟨j + 1, dv, by go_num, by omega, by omega, HZ3, HSW, HV2⟩
                        case measure => (simp [intOf] <;> omega)
                      | false =>
                        have hcw : decide (cf x1 x0 < 0) = false := hlw
                        have HO4 : Hid (partialIns (ltOf cf) a b s i2 du = R) := Lib.hid (by rw [← HO3.out, ← HV.out, shiftUp_stop _ _ _ _ (.inr (by rw [show j - 1 = jp by omega, ← HX1.out, ← HX0.out, hlw]))])
                        generalize cf x1 x0 = cw at *
                        clear hlw HX1 HX0 HV hjp HO3
                        have HO5 : Hid (partialIns (ltOf cf) a b (5 - (k + 1)) i2 du = R) := Lib.hid (by rw [← HO4.out, show 5 - (k + 1) = s by have := HKS.out; omega])
                        go_wp2_with fail
                        go_quiet_grown ((go_at_call 75; exact Calls.grown_of (HC.out _ _)))
                        have HS3 := Lib.hid (HS.out.grown nq osq)
                        generalize grow (wr.drewN nq) osq = W3 at *
                        clear HC HS q1 c1 f1 q0 c0 f0
                        go_wp2
                        go_roundw
                        case rel => exact ⟨i2, k + 1, du, by go_num, by go_num, by omega, by omega, by omega, HZ, HS3, HO5⟩
                        case measure => (simp [intOf] <;> omega)
                    · have hjlz : ¬ (j : Int) < (b : Int) := by omega
                      have HO5 : Hid (partialIns (ltOf cf) a b (5 - (k + 1)) i2 du = R) := Lib.hid (by rw [show 5 - (k + 1) = s by have := HKS.out; omega, ← HO3.out, ← HV.out, shiftUp_stop _ _ _ _ (.inl hjlt)])
                      clear HV HO3
                      go_wp2
                      go_roundw
                      case rel => exact ⟨i2, k + 1, du, by go_num, by go_num, by omega, by omega, by omega, HZ, HS, HO5⟩
                      case measure => (simp [intOf] <;> omega)
                · have hbuz : ¬ (2 : Int) ≤ (b : Int) - (i2 : Int) := by omega
                  rw [if_neg hbu] at HO3
                  have HO5 : Hid (partialIns (ltOf cf) a b (5 - (k + 1)) i2 ds = R) := Lib.hid (by rw [← HO3.out, show 5 - (k + 1) = s by have := HKS.out; omega])
                  clear HO3
                  go_wp2
                  go_roundw
                  case rel => exact ⟨i2, k + 1, ds, by go_num, by go_num, by omega, by omega, by omega, HZ3, HSW, HO5⟩
                  case measure => (simp [intOf] <;> omega)
        · have hltz : ¬ (i2 : Int) < (b : Int) := by omega
          have hebz : (i2 : Int) = (b : Int) := by omega
          have HI2 : Hid (i2 = scanSorted (ltOf cf) dk b i) := Lib.hid (by rw [← HU.out, scanS_stop _ _ _ _ (.inl hlt)])
          have hRR : R = (dk, true) := by rw [← HO.out, pins_done _ _ _ _ _ _ _ HI2.out (by omega)]
          have hee : i2 = b := by omega
          clear HU HO HI2 hebz
          subst hRR
          subst hee
          go_wp2_with fail
          go_quiet (fail)
          have HS3 := Lib.hid (HS.out.drewN nq)
          generalize wr.drewN nq = W3 at *
          clear HS
          go_wp2
          exact bodyPost_ret (v := .bool true) (by simp [results, Tryz.results127, go_sem]) rfl ⟨rfl, Lib.hid ⟨HS3.out, HZ.out⟩⟩
    · have hkz : ¬ (k : Int) < 5 := by omega
      have hRR : R = (dk, false) := by rw [← HO.out, show 5 - k = 0 by omega]; rfl
      clear HO
      subst hRR
      go_wp2
      exact bodyPost_ret (v := .bool false) (by simp [results, Tryz.results127, go_sem]) rfl ⟨rfl, Lib.hid ⟨HS.out, HZ.out⟩⟩
end Go.Proofs.YtdjieapobodakaaGreatDoor.Led
end
