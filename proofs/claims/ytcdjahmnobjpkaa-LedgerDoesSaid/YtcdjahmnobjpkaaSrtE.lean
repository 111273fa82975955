/- What is proved here: slices.partitionEqualCmpFunc, with a comparison that is a method of a ledger. Written by mksrte.py. -/
import Derived.Test.YtcdjahmnobjpkaaSrtP
import Derived.Sort.WalkC
import Derived.Deep.DeepCutAuto
namespace Go.Proofs.Ytcdjahmnobjpkaa
open Go Go.RowKit Go.Maps Go.WideMaps Go.Shelf Go.Lib Go.Sort

variable {G : ByteArray → Prop} [Inhabited (W64 G)]

set_option maxHeartbeats 6400000 in
set_option maxRecDepth 100000 in
theorem partEq_any {cf : (W64 G) → (W64 G) → Int} {l blk cap : Nat} {d0 : Array (W64 G)} {w0 : World} (H : Srt cf l blk cap d0 w0) {d : Array (W64 G)} {w : World} (hs : d.size = d0.size) (S : SW encW w0 blk 0 d w) {a b pv n : Nat} (hn : n = d0.size) (hap : a ≤ pv) (hpb : pv < b) (hb : b ≤ n) :
    Calls Try.prog 49 #[.slice (some ⟨blk, 0, none⟩) n cap, .int .i64 a, .int .i64 b, .int .i64 pv, .func (.func 30) #[.pointer (some ⟨l, 0, none⟩)] #[]] w fun e w' => e = .returned (.int .i64 (Sort.partitionEqual (ltOf cf) d a b pv).1) ∧ Hid (SW encW w0 blk 0 (Sort.partitionEqual (ltOf cf) d a b pv).2 w' ∧ (Sort.partitionEqual (ltOf cf) d a b pv).2.size = d0.size) := by
  have HS := Lib.hid S
  have HZ := Lib.hid hs
  have hbig := H.big
  have hcap := H.cap
  have HN := Lib.hid hn
  have HH := Lib.hid H
  have hn1 : n < 1000000 := by omega
  have hnc : n ≤ cap := by omega
  obtain ⟨bp, hbp⟩ : ∃ x, b = x + 1 := ⟨b - 1, by omega⟩
  have hbpz : (b : Int) - 1 = (bp : Int) := by omega
  have hbpn : bp < n := by omega
  have hai : (a : Int) < (n : Int) := by omega
  have hpi : (pv : Int) < (n : Int) := by omega
  have had : a < d0.size := by omega
  have hpd : pv < d0.size := by omega
  have hR : Hid (Sort.partitionEqual (ltOf cf) d a b pv = partEqLoop (ltOf cf) a (a + 1) bp (swp d a pv)) := Lib.hid (by unfold Sort.partitionEqual; rw [hbp]; rfl)
  generalize Sort.partitionEqual (ltOf cf) d a b pv = R at *
  have hpn : pv < n := by omega
  have habp : a ≤ bp := by omega
  obtain ⟨y1, HY1, p1, b1, g1⟩ := H.look hs S had
  obtain ⟨y2, HY2, p2, b2, g2⟩ := H.look hs S hpd
  have HSW : Hid (SW encW w0 blk 0 (swp d a pv) ((w.setCell ⟨blk, a, none⟩ (.string y2.val)).setCell ⟨blk, pv, none⟩ (.string y1.val)).drew) := Lib.hid (H.swap2 hs S had hpd HY1.out HY2.out 1)
  have HE12 : Hid (a = pv → y2 = y1) := Lib.hid (by rintro rfl; rw [HY1.out, HY2.out])
  have HZ1 : Hid ((swp d a pv).size = d0.size) := Lib.hid (by rw [swp_sz]; exact hs)
  generalize swp d a pv = d1 at *
  clear S hs hn hbig hcap H HS HZ HY1 HY2 p1 p2 hbp
  have mixed := mixed_prog
  go_enter Try.func49, Try.ntmps49
  go_wp2_with fail
  go_cut [0] (fun s0 wx => s0 = .slice (some ⟨blk, 0, none⟩) n cap ∧ Hid (SW encW w0 blk 0 d1 wx))
  case first =>
    by_cases hapv : a = pv
    · obtain rfl := HE12.out hapv
      subst hapv
      clear HE12
      go_region
      go_wp2_with fail
      go_meet
      case rel => exact ⟨rfl, HSW⟩
    · have hlt : a < pv := by omega
      go_region
      go_wp2_with fail
      go_meet
      case rel => exact ⟨rfl, HSW⟩
  case rest =>
    obtain ⟨rfl, HS1⟩ := hcut
    clear HSW HE12 b1 b2 g1 g2
    go_wp2
    go_loopw [11, 12] (fun vi vj wr => ∃ (i j : Nat) (dk : Array (W64 G)), vi = .int .i64 i ∧ vj = .int .i64 j ∧ a < i ∧ i ≤ j + 1 ∧ j ≤ bp ∧ Hid (dk.size = d0.size) ∧ Hid (SW encW w0 blk 0 dk wr) ∧ Hid (partEqLoop (ltOf cf) a i j dk = partEqLoop (ltOf cf) a (a + 1) bp d1)) (fun vi vj _ => (intOf vj).toNat + 1 - (intOf vi).toNat)
    case atStart => exact ⟨a + 1, bp, d1, by go_num, rfl, by omega, by omega, Nat.le_refl _, HZ1, HS1, Lib.hid rfl⟩
    case round =>
      clear HS1 HZ1
      obtain ⟨i, j, dk, rfl, rfl, hai2, hij, hjb, HZ, HS, HO⟩ := hrel
      go_wp2
      go_loopw [11] (fun vi wr => ∃ (i2 : Nat), vi = .int .i64 i2 ∧ i ≤ i2 ∧ i2 ≤ j + 1 ∧ Hid (SW encW w0 blk 0 dk wr) ∧ Hid (scanUp (fun x => !(ltOf cf) dk[a]! x) dk j i2 = scanUp (fun x => !(ltOf cf) dk[a]! x) dk j i)) (fun vi _ => j + 1 - (intOf vi).toNat)
      case atStart => exact ⟨i, rfl, Nat.le_refl _, hij, HS, Lib.hid rfl⟩
      case round =>
        clear HS
        obtain ⟨i2, rfl, hi2, hij2, HS, HU⟩ := hrel
        by_cases hle : i2 ≤ j
        · have hlez : (i2 : Int) ≤ (j : Int) := by omega
          have hi2i : (i2 : Int) < (n : Int) := by omega
          have hi2d : i2 < d0.size := by have := HN.out; omega
          obtain ⟨xa, HXA, qa, ca, fa⟩ := HH.out.look HZ.out HS.out had
          obtain ⟨xi, HXI, qi, ci, fi⟩ := HH.out.look HZ.out HS.out hi2d
          have HC := Lib.hid (HH.out.at_ HZ.out HS.out xa xi)
          cases hlv : (ltOf cf) xa xi with
          | false =>
            have hcv : decide (cf xa xi < 0) = false := hlv
            have HU2 : Hid (scanUp (fun x => !(ltOf cf) dk[a]! x) dk j (i2 + 1) = scanUp (fun x => !(ltOf cf) dk[a]! x) dk j i) := Lib.hid (by rw [← HU.out, scanUp_go _ _ _ _ hle (by rw [← HXA.out, ← HXI.out, hlv]; rfl)])
            generalize cf xa xi = cv at *
            clear hlv HU HXA HXI
            go_wp2_with fail
            go_quiet_grown ((go_at_call 30; exact Calls.grown_of (HC.out _ _)))
            have HS3 := Lib.hid (HS.out.grown nq osq)
            generalize grow (wr.drewN nq) osq = W3 at *
            clear HC HS qa ca fa qi ci fi
            go_wp2
            go_roundw
            case rel => exact ⟨i2 + 1, by go_num, by omega, by omega, HS3, HU2⟩
            case measure => (simp [intOf] <;> omega)
          | true =>
            have hcv : decide (cf xa xi < 0) = true := hlv
            have hcv' : cf xa xi < 0 := of_decide_eq_true hlv
            have HI2 : Hid (i2 = scanUp (fun x => !(ltOf cf) dk[a]! x) dk j i) := Lib.hid (by rw [← HU.out, scanUp_end _ _ _ _ (.inr (by rw [← HXA.out, ← HXI.out, hlv]; rfl))])
            generalize cf xa xi = cv at *
            clear hlv HU HXA HXI
            go_wp2_with fail
            go_quiet_grown ((go_at_call 30; exact Calls.grown_of (HC.out _ _)))
            have HS3 := Lib.hid (HS.out.grown nq osq)
            generalize grow (wr.drewN nq) osq = W3 at *
            clear HC HS qa ca fa qi ci fi hcv hcv'
            go_wp2
            go_loopw [12] (fun vj wr => ∃ (j2 : Nat), vj = .int .i64 j2 ∧ i2 ≤ j2 + 1 ∧ j2 ≤ j ∧ Hid (SW encW w0 blk 0 dk wr) ∧ Hid (scanDown (fun x => (ltOf cf) dk[a]! x) dk i2 j2 = scanDown (fun x => (ltOf cf) dk[a]! x) dk i2 j)) (fun vj _ => (intOf vj).toNat)
            case atStart => exact ⟨j, rfl, hij2, Nat.le_refl _, HS3, Lib.hid rfl⟩
            case round =>
              clear HS3
              obtain ⟨j2, rfl, hij3, hj2, HS, HV⟩ := hrel
              by_cases hle2 : i2 ≤ j2
              · have hle2z : (i2 : Int) ≤ (j2 : Int) := by omega
                have hj2i : (j2 : Int) < (n : Int) := by omega
                have hj2d : j2 < d0.size := by have := HN.out; omega
                obtain ⟨jp, hjp⟩ : ∃ x, j2 = x + 1 := ⟨j2 - 1, by omega⟩
                have hjpz : (j2 : Int) - 1 = (jp : Int) := by omega
                obtain ⟨xa, HXA, qa, ca, fa⟩ := HH.out.look HZ.out HS.out had
                obtain ⟨xj, HXJ, qj, cj, fj⟩ := HH.out.look HZ.out HS.out hj2d
                have HC := Lib.hid (HH.out.at_ HZ.out HS.out xa xj)
                cases hlv : (ltOf cf) xa xj with
                | true =>
                  have hcv : decide (cf xa xj < 0) = true := hlv
                  have hcv' : cf xa xj < 0 := of_decide_eq_true hlv
                  have HV2 : Hid (scanDown (fun x => (ltOf cf) dk[a]! x) dk i2 jp = scanDown (fun x => (ltOf cf) dk[a]! x) dk i2 j) := Lib.hid (by rw [← HV.out, scanDown_go _ _ _ _ hle2 (by omega) (by rw [← HXA.out, ← HXJ.out, hlv]), hjp]; rfl)
                  have HJP : Hid (jp + 1 = j2) := Lib.hid hjp.symm
                  have hjp1 : i2 ≤ jp + 1 := by omega
                  have hjp2 : jp ≤ j := by omega
                  generalize cf xa xj = cv at *
                  clear hlv HV HXA HXJ hjp
                  go_wp2_with fail
                  go_quiet_grown ((go_at_call 30; exact Calls.grown_of (HC.out _ _)))
                  have HS3 := Lib.hid (HS.out.grown nq osq)
                  generalize grow (wr.drewN nq) osq = W3 at *
                  clear HC HS qa ca fa qj cj fj
                  go_wp2
                  go_roundw
                  case rel => exact ⟨jp, by go_num, hjp1, hjp2, HS3, HV2⟩
                  case measure => have := HJP.out; (simp [intOf] <;> omega)
                | false =>
                  have hcv : decide (cf xa xj < 0) = false := hlv
                  have HJ2 : Hid (j2 = scanDown (fun x => (ltOf cf) dk[a]! x) dk i2 j) := Lib.hid (by rw [← HV.out, scanDown_end _ _ _ _ (.inr (by rw [← HXA.out, ← HXJ.out, hlv]))])
                  have hlt2 : i2 < j2 := scans_lt _ a i j dk (by omega) HI2.out HJ2.out hle2
                  have hlt2z : ¬ (j2 : Int) < (i2 : Int) := by omega
                  have HO2 : Hid (partEqLoop (ltOf cf) a (i2 + 1) jp (swp dk i2 j2) = partEqLoop (ltOf cf) a (a + 1) bp d1) := Lib.hid (by rw [← HO.out, partEq_go _ _ _ _ _ HI2.out HJ2.out (by omega), show j2 - 1 = jp by omega])
                  have HJP : Hid (jp + 1 = j2) := Lib.hid hjp.symm
                  have hjp1 : i2 + 1 ≤ jp + 1 := by omega
                  have hjp2 : jp ≤ bp := by omega
                  have hi2d : i2 < d0.size := by omega
                  have hi2i : (i2 : Int) < (n : Int) := by omega
                  generalize cf xa xj = cv at *
                  clear hlv HV HXA HXJ hjp HO HI2 HJ2
                  go_wp2_with fail
                  go_quiet_grown ((go_at_call 30; exact Calls.grown_of (HC.out _ _)))
                  have HS3 := Lib.hid (HS.out.grown nq osq)
                  generalize grow (wr.drewN nq) osq = W3 at *
                  clear HC HS qa ca fa qj cj fj
                  obtain ⟨y1, HY1, p1, b1, g1⟩ := HH.out.look HZ.out HS3.out hi2d
                  obtain ⟨y2, HY2, p2, b2, g2⟩ := HH.out.look HZ.out HS3.out hj2d
                  have HSW : Hid (SW encW w0 blk 0 (swp dk i2 j2) ((W3.setCell ⟨blk, i2, none⟩ (.string y2.val)).setCell ⟨blk, j2, none⟩ (.string y1.val)).drew) := Lib.hid (HH.out.swap2 HZ.out HS3.out hi2d hj2d HY1.out HY2.out 1)
                  have HZ3 : Hid ((swp dk i2 j2).size = d0.size) := Lib.hid (by rw [swp_sz]; exact HZ.out)
                  generalize swp dk i2 j2 = ds at *
                  clear HZ HY1 HY2 HS3
                  go_wp2_with fail
                  go_region
                  generalize ((W3.setCell ⟨blk, i2, none⟩ (.string y2.val)).setCell ⟨blk, j2, none⟩ (.string y1.val)).drew = W4 at *
                  clear p1 p2 b1 b2 g1 g2
                  go_wp2
                  go_roundw
                  case rel => exact ⟨i2 + 1, jp, ds, by go_num, by go_num, by omega, hjp1, hjp2, HZ3, HSW, HO2⟩
                  case measure => have := HJP.out; (simp [intOf] <;> omega)
              · have hle2z : ¬ (i2 : Int) ≤ (j2 : Int) := by omega
                have hgt : (j2 : Int) < (i2 : Int) := by omega
                have HJ2 : Hid (j2 = scanDown (fun x => (ltOf cf) dk[a]! x) dk i2 j) := Lib.hid (by rw [← HV.out, scanDown_end _ _ _ _ (.inl hle2)])
                have hRR : R = (i2, dk) := by rw [hR.out, ← HO.out, partEq_break _ _ _ _ _ HI2.out HJ2.out (by omega)]
                clear HV HO HI2 HJ2 hR
                subst hRR
                go_wp2_with fail
                go_quiet (fail)
                have HS3 := Lib.hid (HS.out.drewN nq)
                generalize wr.drewN nq = W3 at *
                clear HS
                go_wp2
                exact bodyPost_ret (v := .int .i64 i2) (by simp [results, Try.results49, go_sem]) rfl ⟨rfl, Lib.hid ⟨HS3.out, HZ.out⟩⟩
        · have hlez : ¬ (i2 : Int) ≤ (j : Int) := by omega
          have hgt : (j : Int) < (i2 : Int) := by omega
          have HI2 : Hid (i2 = scanUp (fun x => !(ltOf cf) dk[a]! x) dk j i) := Lib.hid (by rw [← HU.out, scanUp_end _ _ _ _ (.inl hle)])
          have HJ2 : Hid (j = scanDown (fun x => (ltOf cf) dk[a]! x) dk i2 j) := Lib.hid (by rw [scanDown_end _ _ _ _ (.inl hle)])
          have hRR : R = (i2, dk) := by rw [hR.out, ← HO.out, partEq_break _ _ _ _ _ HI2.out HJ2.out (by omega)]
          clear HU HO HI2 HJ2 hR
          subst hRR
          go_wp2_with fail
          go_quiet (fail)
          have HS3 := Lib.hid (HS.out.drewN nq)
          generalize wr.drewN nq = W3 at *
          clear HS
          go_wp2
          refine wp_loop_rounds 1 ?_
          simp only [rounds_succ]
          go_wp2_with fail
          go_quiet (fail)
          have HS4 := Lib.hid (HS3.out.drewN nq)
          generalize W3.drewN nq = W4 at *
          clear HS3
          go_wp2
          exact bodyPost_ret (v := .int .i64 i2) (by simp [results, Try.results49, go_sem]) rfl ⟨rfl, Lib.hid ⟨HS4.out, HZ.out⟩⟩
end Go.Proofs.Ytcdjahmnobjpkaa
