/- What is proved here: slices.choosePivotCmpFunc, with a comparison that is a method of the lanes'. Written by mksrtp.py. -/
/- What is proved here: slices.partitionEqualCmpFunc, with a comparison that is a method of the lanes'. Written by mksrte.py. -/
/- What is proved here: slices.partitionCmpFunc, with a comparison that is a method of the lanes'. Written by mksrtq.py. -/
import Derived.Test.YtdjieapobodakaaGreatDoorPEx12
import Derived.Sort.LotD4
import Derived.Sort.WalkC
import Derived.Deep.DeepCutAuto
section
namespace Go.Proofs.YtdjieapobodakaaGreatDoor.Lan
open Go Go.RowKit Go.Maps Go.WideMaps Go.Shelf Go.Lib Go.Sort
set_option maxRecDepth 100000

variable {G : Int → Prop} [Inhabited (W64 G)]

set_option maxHeartbeats 3200000 in
set_option maxRecDepth 100000 in
theorem pivot_any {cf : (W64 G) → (W64 G) → Int} {l blk cap : Nat} {d0 : Array (W64 G)} {w0 : World} (H : Srt cf l blk cap d0 w0) {d : Array (W64 G)} {w : World} (hs : d.size = d0.size) (S : SW encW w0 blk 0 d w) {a b n : Nat} (hn : n = d0.size) (hab : a + 12 < b) (hb : b ≤ n) :
    Calls Tryz.prog 173 #[.slice (some ⟨blk, 0, none⟩) n cap, .int .i64 a, .int .i64 b, .func (.func 110) #[.pointer (some ⟨l, 0, none⟩)] #[]] w fun e w' => e = .returned (.tuple #[.int .i64 (Sort.choosePivot (ltOf cf) d a b).1, .int .i64 (hintCode (Sort.choosePivot (ltOf cf) d a b).2)]) ∧ Hid (SW encW w0 blk 0 d w') := by
  have hbig := H.big
  have hn1 : n < 1000000 := by omega
  have MA := Lib.hid (fun (W' : World) (x s : Nat) (C' : Cnt1 encW w0 blk 0 d w.heap.size s W') (h0 : 0 < x) (h1 : x + 1 < n) (h2 : s < 10000) => medAdj_any H hs C' hn h0 h1 h2)
  have MD := Lib.hid (fun (W' : World) (x y z s : Nat) (C' : Cnt1 encW w0 blk 0 d w.heap.size s W') (hx : x < n) (hy : y < n) (hz : z < n) (h2 : s < 10000) => median_any H hs C' hn hx hy hz h2)
  have C0 : Hid (Cnt1 encW w0 blk 0 d w.heap.size 0 (w.alloc (.cells #[.int .i64 0] 3))) := Lib.hid (Cnt1.start S 3)
  rw [choosePivot_eq]
  unfold rawPivot
  rw [if_pos (by omega)]
  obtain ⟨L, hL⟩ : ∃ x, b - a = x := ⟨_, rfl⟩
  obtain ⟨Q, hQ⟩ : ∃ x, L / 4 = x := ⟨_, rfl⟩
  rw [hL, hQ]
  obtain ⟨I, hI⟩ : ∃ x, a + Q * 1 = x := ⟨_, rfl⟩
  obtain ⟨J, hJ⟩ : ∃ x, a + Q * 2 = x := ⟨_, rfl⟩
  obtain ⟨K, hK⟩ : ∃ x, a + Q * 3 = x := ⟨_, rfl⟩
  rw [hI, hJ, hK]
  have hLz : (b : Int) - (a : Int) = (L : Int) := by omega
  have hQz : Int.tdiv (L : Int) 4 = (Q : Int) := by rw [← hQ]; exact (Int.ofNat_tdiv L 4).symm
  have hIz : (a : Int) + (Q : Int) = (I : Int) := by omega
  have hJz : (a : Int) + (Q : Int) * 2 = (J : Int) := by omega
  have hKz : (a : Int) + (Q : Int) * 3 = (K : Int) := by omega
  have hQ3 : 3 ≤ Q := by omega
  have hI0 : 0 < I := by omega
  have hJ0 : 0 < J := by omega
  have hK0 : 0 < K := by omega
  have hI1 : I + 1 < n := by omega
  have hJ1 : J + 1 < n := by omega
  have hK1 : K + 1 < n := by omega
  have hL8 : (8 : Int) ≤ (L : Int) := by omega
  have hQn : Q < n := by omega
  have hLn : L ≤ n := by omega
  clear hL hI hJ hK hbig H S hs hn hab hb hQ
  by_cases h50 : L ≥ 50
  · have h50z : (50 : Int) ≤ (L : Int) := by omega
    rw [if_pos h50]
    have H1 : Hid (_) := Lib.hid (MA.out _ I 0 C0.out hI0 hI1 (by omega))
    have q1 := medianAdjacent_count (ltOf cf) d I 0
    generalize medianAdjacent (ltOf cf) d I 0 = r1 at *
    obtain ⟨r11, r12⟩ := r1
    dsimp only at H1 q1 ⊢
    have H2 := Lib.hid (fun W' C' => MA.out W' J r12 C' hJ0 hJ1 (by omega))
    have q2 := medianAdjacent_count (ltOf cf) d J r12
    generalize medianAdjacent (ltOf cf) d J r12 = r2 at *
    obtain ⟨r21, r22⟩ := r2
    dsimp only at H2 q2 ⊢
    have H3 := Lib.hid (fun W' C' => MA.out W' K r22 C' hK0 hK1 (by omega))
    have q3 := medianAdjacent_count (ltOf cf) d K r22
    generalize medianAdjacent (ltOf cf) d K r22 = r3 at *
    obtain ⟨r31, r32⟩ := r3
    dsimp only at H3 q3 ⊢
    have H4 := Lib.hid (fun W' C' (h1 : r11 < n) (h2 : r21 < n) (h3 : r31 < n) => MD.out W' r11 r21 r31 r32 C' h1 h2 h3 (by omega))
    generalize median (ltOf cf) d r11 r21 r31 r32 = r4 at *
    obtain ⟨p, s⟩ := r4
    dsimp only at H4 ⊢
    clear MA MD q1 q2 q3 C0 h50
    by_cases hs0 : s = 0
    · subst hs0
      go_enter Tryz.func173, Tryz.ntmps173
      go_wp2_with (first
          | (go_at_call 190; go_fit H1.out; rintro e w1 HY; obtain rfl := HY.1; have HZ1 := HY.2; clear HY)
          | (go_at_call 190; go_fit (H2.out _ HZ1.out.1); rintro e w2 HY; obtain rfl := HY.1; have HZ2 := HY.2; clear HY)
          | (go_at_call 190; go_fit (H3.out _ HZ2.out.1); rintro e w3 HY; obtain rfl := HY.1; have HZ3 := HY.2; clear HY)
          | (go_at_call 191; go_fit (H4.out _ HZ3.out.1 HZ1.out.2.1 HZ2.out.2.1 HZ3.out.2.1); rintro e w4 HY; obtain rfl := HY.1; have HZ4 := HY.2; clear HY; have k1 := HZ4.out.1.2.1))
      exact bodyPost_ret (v := .tuple #[.int .i64 p, .int .i64 1]) (by simp [results, Tryz.results173, go_sem]) rfl ⟨rfl, Lib.hid HZ4.out.1.1⟩
    · by_cases hs12 : s = 12
      · subst hs12
        go_enter Tryz.func173, Tryz.ntmps173
        go_wp2_with (first
            | (go_at_call 190; go_fit H1.out; rintro e w1 HY; obtain rfl := HY.1; have HZ1 := HY.2; clear HY)
            | (go_at_call 190; go_fit (H2.out _ HZ1.out.1); rintro e w2 HY; obtain rfl := HY.1; have HZ2 := HY.2; clear HY)
            | (go_at_call 190; go_fit (H3.out _ HZ2.out.1); rintro e w3 HY; obtain rfl := HY.1; have HZ3 := HY.2; clear HY)
            | (go_at_call 191; go_fit (H4.out _ HZ3.out.1 HZ1.out.2.1 HZ2.out.2.1 HZ3.out.2.1); rintro e w4 HY; obtain rfl := HY.1; have HZ4 := HY.2; clear HY; have k1 := HZ4.out.1.2.1))
        exact bodyPost_ret (v := .tuple #[.int .i64 p, .int .i64 2]) (by simp [results, Tryz.results173, go_sem]) rfl ⟨rfl, Lib.hid HZ4.out.1.1⟩
      · have hs0z : ¬ (s : Int) = 0 := by omega
        have hs12z : ¬ (s : Int) = 12 := by omega
        have hh : hintOf s = .unknown := by unfold hintOf; rw [if_neg hs0, if_neg hs12]
        rw [hh]
        clear hs0 hs12 hh
        go_enter Tryz.func173, Tryz.ntmps173
        go_wp2_with (first
            | (go_at_call 190; go_fit H1.out; rintro e w1 HY; obtain rfl := HY.1; have HZ1 := HY.2; clear HY)
            | (go_at_call 190; go_fit (H2.out _ HZ1.out.1); rintro e w2 HY; obtain rfl := HY.1; have HZ2 := HY.2; clear HY)
            | (go_at_call 190; go_fit (H3.out _ HZ2.out.1); rintro e w3 HY; obtain rfl := HY.1; have HZ3 := HY.2; clear HY)
            | (go_at_call 191; go_fit (H4.out _ HZ3.out.1 HZ1.out.2.1 HZ2.out.2.1 HZ3.out.2.1); rintro e w4 HY; obtain rfl := HY.1; have HZ4 := HY.2; clear HY; have k1 := HZ4.out.1.2.1))
        exact bodyPost_ret (v := .tuple #[.int .i64 p, .int .i64 0]) (by simp [results, Tryz.results173, go_sem]) rfl ⟨rfl, Lib.hid HZ4.out.1.1⟩
  · have h50z : ¬ (50 : Int) ≤ (L : Int) := by omega
    rw [if_neg h50]
    have H1 : Hid (_) := Lib.hid (MD.out _ I J K 0 C0.out (by omega) (by omega) (by omega) (by omega))
    generalize median (ltOf cf) d I J K 0 = r4 at *
    obtain ⟨p, s⟩ := r4
    dsimp only at H1 ⊢
    clear MA MD C0 h50
    by_cases hs0 : s = 0
    · subst hs0
      go_enter Tryz.func173, Tryz.ntmps173
      go_wp2_with (first
          | (go_at_call 191; go_fit H1.out; rintro e w4 HY; obtain rfl := HY.1; have HZ4 := HY.2; clear HY; have k1 := HZ4.out.1.2.1)
          | fail)
      exact bodyPost_ret (v := .tuple #[.int .i64 p, .int .i64 1]) (by simp [results, Tryz.results173, go_sem]) rfl ⟨rfl, Lib.hid HZ4.out.1.1⟩
    · by_cases hs12 : s = 12
      · subst hs12
        go_enter Tryz.func173, Tryz.ntmps173
        go_wp2_with (first
            | (go_at_call 191; go_fit H1.out; rintro e w4 HY; obtain rfl := HY.1; have HZ4 := HY.2; clear HY; have k1 := HZ4.out.1.2.1)
            | fail)
        exact bodyPost_ret (v := .tuple #[.int .i64 p, .int .i64 2]) (by simp [results, Tryz.results173, go_sem]) rfl ⟨rfl, Lib.hid HZ4.out.1.1⟩
      · have hs0z : ¬ (s : Int) = 0 := by omega
        have hs12z : ¬ (s : Int) = 12 := by omega
        have hh : hintOf s = .unknown := by unfold hintOf; rw [if_neg hs0, if_neg hs12]
        rw [hh]
        clear hs0 hs12 hh
        go_enter Tryz.func173, Tryz.ntmps173
        go_wp2_with (first
            | (go_at_call 191; go_fit H1.out; rintro e w4 HY; obtain rfl := HY.1; have HZ4 := HY.2; clear HY; have k1 := HZ4.out.1.2.1)
            | fail)
        exact bodyPost_ret (v := .tuple #[.int .i64 p, .int .i64 0]) (by simp [results, Tryz.results173, go_sem]) rfl ⟨rfl, Lib.hid HZ4.out.1.1⟩
end Go.Proofs.YtdjieapobodakaaGreatDoor.Lan
end

section
namespace Go.Proofs.YtdjieapobodakaaGreatDoor.Lan
open Go Go.RowKit Go.Maps Go.WideMaps Go.Shelf Go.Lib Go.Sort
set_option maxRecDepth 100000

variable {G : Int → Prop} [Inhabited (W64 G)]

set_option maxHeartbeats 6400000 in
set_option maxRecDepth 100000 in
theorem partEq_any {cf : (W64 G) → (W64 G) → Int} {l blk cap : Nat} {d0 : Array (W64 G)} {w0 : World} (H : Srt cf l blk cap d0 w0) {d : Array (W64 G)} {w : World} (hs : d.size = d0.size) (S : SW encW w0 blk 0 d w) {a b pv n : Nat} (hn : n = d0.size) (hap : a ≤ pv) (hpb : pv < b) (hb : b ≤ n) :
    Calls Tryz.prog 176 #[.slice (some ⟨blk, 0, none⟩) n cap, .int .i64 a, .int .i64 b, .int .i64 pv, .func (.func 110) #[.pointer (some ⟨l, 0, none⟩)] #[]] w fun e w' => e = .returned (.int .i64 (Sort.partitionEqual (ltOf cf) d a b pv).1) ∧ Hid (SW encW w0 blk 0 (Sort.partitionEqual (ltOf cf) d a b pv).2 w' ∧ (Sort.partitionEqual (ltOf cf) d a b pv).2.size = d0.size) := by
  have HS := Lib.hid S
  have HZ := Lib.hid hs
  have hbig := H.big
  have hcap := H.cap
  have HN := Lib.hid hn
  have HH := Lib.hid H
  have hn1 : n < 1000000 := by omega
  have hnc : n ≤ cap := by omega
  obtain ⟨bp, hbp⟩ : ∃ x, b = x + 1 := ⟨b - 1, by omega⟩
  have hbpz : (b : Int) - 1 = (bp : Int) := by omega
  have hbpn : bp < n := by omega
  have hai : (a : Int) < (n : Int) := by omega
  have hpi : (pv : Int) < (n : Int) := by omega
  have had : a < d0.size := by omega
  have hpd : pv < d0.size := by omega
  have hR : Hid (Sort.partitionEqual (ltOf cf) d a b pv = partEqLoop (ltOf cf) a (a + 1) bp (swp d a pv)) := Lib.hid (by unfold Sort.partitionEqual; rw [hbp]; rfl)
  generalize Sort.partitionEqual (ltOf cf) d a b pv = R at *
  have hpn : pv < n := by omega
  have habp : a ≤ bp := by omega
  obtain ⟨y1, HY1, p1, b1, g1⟩ := H.look hs S had
  obtain ⟨y2, HY2, p2, b2, g2⟩ := H.look hs S hpd
  have HSW : Hid (SW encW w0 blk 0 (swp d a pv) ((w.setCell ⟨blk, a, none⟩ (.int .i64 y2.val)).setCell ⟨blk, pv, none⟩ (.int .i64 y1.val)).drew) := Lib.hid (H.swap2 hs S had hpd HY1.out HY2.out 1)
  have HE12 : Hid (a = pv → y2 = y1) := Lib.hid (by rintro rfl; rw [HY1.out, HY2.out])
  have HZ1 : Hid ((swp d a pv).size = d0.size) := Lib.hid (by rw [swp_sz]; exact hs)
  generalize swp d a pv = d1 at *
  clear S hs hn hbig hcap H HS HZ HY1 HY2 p1 p2 hbp
  go_enter Tryz.func176, Tryz.ntmps176
  go_wp2_with fail
  go_cut [0] (fun s0 wx => s0 = .slice (some ⟨blk, 0, none⟩) n cap ∧ Hid (SW encW w0 blk 0 d1 wx))
  case first =>
    by_cases hapv : a = pv
    · obtain rfl := HE12.out hapv
      subst hapv
      clear HE12
      go_region
      go_wp2_with fail
      go_meet
      case rel => exact ⟨rfl, HSW⟩
    · have hlt : a < pv := by omega
      go_region
      go_wp2_with fail
      go_meet
      case rel => exact ⟨rfl, HSW⟩
  case rest =>
    obtain ⟨rfl, HS1⟩ := hcut
    clear HSW HE12 b1 b2 g1 g2
    go_wp2
    go_loopw [11, 12] (fun vi vj wr => ∃ (i j : Nat) (dk : Array (W64 G)), vi = .int .i64 i ∧ vj = .int .i64 j ∧ a < i ∧ i ≤ j + 1 ∧ j ≤ bp ∧ Hid (dk.size = d0.size) ∧ Hid (SW encW w0 blk 0 dk wr) ∧ Hid (partEqLoop (ltOf cf) a i j dk = partEqLoop (ltOf cf) a (a + 1) bp d1)) (fun vi vj _ => (intOf vj).toNat + 1 - (intOf vi).toNat)
    case atStart => exact ⟨a + 1, bp, d1, by go_num, rfl, by omega, by omega, Nat.le_refl _, HZ1, HS1, Lib.hid rfl⟩
    case round =>
      clear HS1 HZ1
      obtain ⟨i, j, dk, rfl, rfl, hai2, hij, hjb, HZ, HS, HO⟩ := hrel
      go_wp2
      go_loopw [11] (fun vi wr => ∃ (i2 : Nat), vi = .int .i64 i2 ∧ i ≤ i2 ∧ i2 ≤ j + 1 ∧ Hid (SW encW w0 blk 0 dk wr) ∧ Hid (scanUp (fun x => !(ltOf cf) dk[a]! x) dk j i2 = scanUp (fun x => !(ltOf cf) dk[a]! x) dk j i)) (fun vi _ => j + 1 - (intOf vi).toNat)
      case atStart => exact ⟨i, rfl, Nat.le_refl _, hij, HS, Lib.hid rfl⟩
      case round =>
        clear HS
        obtain ⟨i2, rfl, hi2, hij2, HS, HU⟩ := hrel
        by_cases hle : i2 ≤ j
        · have hlez : (i2 : Int) ≤ (j : Int) := by omega
          have hi2i : (i2 : Int) < (n : Int) := by omega
          have hi2d : i2 < d0.size := by have := HN.out; omega
          obtain ⟨xa, HXA, qa, ca, fa⟩ := HH.out.look HZ.out HS.out had
          obtain ⟨xi, HXI, qi, ci, fi⟩ := HH.out.look HZ.out HS.out hi2d
          have HC := Lib.hid (HH.out.at_ HZ.out HS.out xa xi)
          cases hlv : (ltOf cf) xa xi with
          | false =>
            have hcv : decide (cf xa xi < 0) = false := hlv
            have HU2 : Hid (scanUp (fun x => !(ltOf cf) dk[a]! x) dk j (i2 + 1) = scanUp (fun x => !(ltOf cf) dk[a]! x) dk j i) := Lib.hid (by rw [← HU.out, scanUp_go _ _ _ _ hle (by rw [← HXA.out, ← HXI.out, hlv]; rfl)])
            generalize cf xa xi = cv at *
            clear hlv HU HXA HXI
            go_wp2_with fail
            go_quiet ((go_at_call 110; exact Calls.quiet_of (HC.out _)))
            have HS3 := Lib.hid (HS.out.drewN nq)
            generalize wr.drewN nq = W3 at *
            clear HC HS qa ca fa qi ci fi
            go_wp2
            go_roundw
            case rel => exact ⟨i2 + 1, by go_num, by omega, by omega, HS3, HU2⟩
            case measure => (simp [intOf] <;> omega)
          | true =>
            have hcv : decide (cf xa xi < 0) = true := hlv
            have hcv' : cf xa xi < 0 := of_decide_eq_true hlv
            have HI2 : Hid (i2 = scanUp (fun x => !(ltOf cf) dk[a]! x) dk j i) := Lib.hid (by rw [← HU.out, scanUp_end _ _ _ _ (.inr (by rw [← HXA.out, ← HXI.out, hlv]; rfl))])
            generalize cf xa xi = cv at *
            clear hlv HU HXA HXI
            go_wp2_with fail
            go_quiet ((go_at_call 110; exact Calls.quiet_of (HC.out _)))
            have HS3 := Lib.hid (HS.out.drewN nq)
            generalize wr.drewN nq = W3 at *
            clear HC HS qa ca fa qi ci fi hcv hcv'
            go_wp2
            go_loopw [12] (fun vj wr => ∃ (j2 : Nat), vj = .int .i64 j2 ∧ i2 ≤ j2 + 1 ∧ j2 ≤ j ∧ Hid (SW encW w0 blk 0 dk wr) ∧ Hid (scanDown (fun x => (ltOf cf) dk[a]! x) dk i2 j2 = scanDown (fun x => (ltOf cf) dk[a]! x) dk i2 j)) (fun vj _ => (intOf vj).toNat)
            case atStart => exact ⟨j, rfl, hij2, Nat.le_refl _, HS3, Lib.hid rfl⟩
            case round =>
              clear HS3
              obtain ⟨j2, rfl, hij3, hj2, HS, HV⟩ := hrel
              by_cases hle2 : i2 ≤ j2
              · have hle2z : (i2 : Int) ≤ (j2 : Int) := by omega
                have hj2i : (j2 : Int) < (n : Int) := by omega
                have hj2d : j2 < d0.size := by have := HN.out; omega
                obtain ⟨jp, hjp⟩ : ∃ x, j2 = x + 1 := ⟨j2 - 1, by omega⟩
                have hjpz : (j2 : Int) - 1 = (jp : Int) := by omega
                obtain ⟨xa, HXA, qa, ca, fa⟩ := HH.out.look HZ.out HS.out had
                obtain ⟨xj, HXJ, qj, cj, fj⟩ := HH.out.look HZ.out HS.out hj2d
                have HC := Lib.hid (HH.out.at_ HZ.out HS.out xa xj)
                cases hlv : (ltOf cf) xa xj with
                | true =>
                  have hcv : decide (cf xa xj < 0) = true := hlv
                  have hcv' : cf xa xj < 0 := of_decide_eq_true hlv
                  have HV2 : Hid (scanDown (fun x => (ltOf cf) dk[a]! x) dk i2 jp = scanDown (fun x => (ltOf cf) dk[a]! x) dk i2 j) := Lib.hid (by rw [← HV.out, scanDown_go _ _ _ _ hle2 (by omega) (by rw [← HXA.out, ← HXJ.out, hlv]), hjp]; rfl)
                  have HJP : Hid (jp + 1 = j2) := Lib.hid hjp.symm
                  have hjp1 : i2 ≤ jp + 1 := by omega
                  have hjp2 : jp ≤ j := by omega
                  generalize cf xa xj = cv at *
                  clear hlv HV HXA HXJ hjp
                  go_wp2_with fail
                  go_quiet ((go_at_call 110; exact Calls.quiet_of (HC.out _)))
                  have HS3 := Lib.hid (HS.out.drewN nq)
                  generalize wr.drewN nq = W3 at *
                  clear HC HS qa ca fa qj cj fj
                  go_wp2
                  go_roundw
                  case rel => exact ⟨jp, by go_num, hjp1, hjp2, HS3, HV2⟩
                  case measure => have := HJP.out; (simp [intOf] <;> omega)
                | false =>
                  have hcv : decide (cf xa xj < 0) = false := hlv
                  have HJ2 : Hid (j2 = scanDown (fun x => (ltOf cf) dk[a]! x) dk i2 j) := Lib.hid (by rw [← HV.out, scanDown_end _ _ _ _ (.inr (by rw [← HXA.out, ← HXJ.out, hlv]))])
                  have hlt2 : i2 < j2 := scans_lt _ a i j dk (by omega) HI2.out HJ2.out hle2
                  have hlt2z : ¬ (j2 : Int) < (i2 : Int) := by omega
                  have HO2 : Hid (partEqLoop (ltOf cf) a (i2 + 1) jp (swp dk i2 j2) = partEqLoop (ltOf cf) a (a + 1) bp d1) := Lib.hid (by rw [← HO.out, partEq_go _ _ _ _ _ HI2.out HJ2.out (by omega), show j2 - 1 = jp by omega])
                  have HJP : Hid (jp + 1 = j2) := Lib.hid hjp.symm
                  have hjp1 : i2 + 1 ≤ jp + 1 := by omega
                  have hjp2 : jp ≤ bp := by omega
                  have hi2d : i2 < d0.size := by omega
                  have hi2i : (i2 : Int) < (n : Int) := by omega
                  generalize cf xa xj = cv at *
                  clear hlv HV HXA HXJ hjp HO HI2 HJ2
                  go_wp2_with fail
                  go_quiet ((go_at_call 110; exact Calls.quiet_of (HC.out _)))
                  have HS3 := Lib.hid (HS.out.drewN nq)
                  generalize wr.drewN nq = W3 at *
                  clear HC HS qa ca fa qj cj fj
                  obtain ⟨y1, HY1, p1, b1, g1⟩ := HH.out.look HZ.out HS3.out hi2d
                  obtain ⟨y2, HY2, p2, b2, g2⟩ := HH.out.look HZ.out HS3.out hj2d
                  have HSW : Hid (SW encW w0 blk 0 (swp dk i2 j2) ((W3.setCell ⟨blk, i2, none⟩ (.int .i64 y2.val)).setCell ⟨blk, j2, none⟩ (.int .i64 y1.val)).drew) := Lib.hid (HH.out.swap2 HZ.out HS3.out hi2d hj2d HY1.out HY2.out 1)
                  have HZ3 : Hid ((swp dk i2 j2).size = d0.size) := Lib.hid (by rw [swp_sz]; exact HZ.out)
                  generalize swp dk i2 j2 = ds at *
                  clear HZ HY1 HY2 HS3
                  go_wp2_with fail
                  go_region
                  generalize ((W3.setCell ⟨blk, i2, none⟩ (.int .i64 y2.val)).setCell ⟨blk, j2, none⟩ (.int .i64 y1.val)).drew = W4 at *
                  clear p1 p2 b1 b2 g1 g2
                  go_wp2
                  go_roundw
                  case rel => exact ⟨i2 + 1, jp, ds, by go_num, by go_num, by omega, hjp1, hjp2, HZ3, HSW, HO2⟩
                  case measure => have := HJP.out; (simp [intOf] <;> omega)
              · have hle2z : ¬ (i2 : Int) ≤ (j2 : Int) := by omega
                have hgt : (j2 : Int) < (i2 : Int) := by omega
                have HJ2 : Hid (j2 = scanDown (fun x => (ltOf cf) dk[a]! x) dk i2 j) := Lib.hid (by rw [← HV.out, scanDown_end _ _ _ _ (.inl hle2)])
                have hRR : R = (i2, dk) := by rw [hR.out, ← HO.out, partEq_break _ _ _ _ _ HI2.out HJ2.out (by omega)]
                clear HV HO HI2 HJ2 hR
                subst hRR
                go_wp2_with fail
                go_quiet (fail)
                have HS3 := Lib.hid (HS.out.drewN nq)
                generalize wr.drewN nq = W3 at *
                clear HS
                go_wp2
                exact bodyPost_ret (v := .int .i64 i2) (by simp [results, Tryz.results176, go_sem]) rfl ⟨rfl, Lib.hid ⟨HS3.out, HZ.out⟩⟩
        · have hlez : ¬ (i2 : Int) ≤ (j : Int) := by omega
          have hgt : (j : Int) < (i2 : Int) := by omega
          have HI2 : Hid (i2 = scanUp (fun x => !(ltOf cf) dk[a]! x) dk j i) := Lib.hid (by rw [← HU.out, scanUp_end _ _ _ _ (.inl hle)])
          have HJ2 : Hid (j = scanDown (fun x => (ltOf cf) dk[a]! x) dk i2 j) := Lib.hid (by rw [scanDown_end _ _ _ _ (.inl hle)])
          have hRR : R = (i2, dk) := by rw [hR.out, ← HO.out, partEq_break _ _ _ _ _ HI2.out HJ2.out (by omega)]
          clear HU HO HI2 HJ2 hR
          subst hRR
          go_wp2_with fail
          go_quiet (fail)
          have HS3 := Lib.hid (HS.out.drewN nq)
          generalize wr.drewN nq = W3 at *
          clear HS
          go_wp2
          refine wp_loop_rounds 1 ?_
          simp only [rounds_succ]
          go_wp2_with fail
          go_quiet (fail)
          have HS4 := Lib.hid (HS3.out.drewN nq)
          generalize W3.drewN nq = W4 at *
          clear HS3
          go_wp2
          exact bodyPost_ret (v := .int .i64 i2) (by simp [results, Tryz.results176, go_sem]) rfl ⟨rfl, Lib.hid ⟨HS4.out, HZ.out⟩⟩
end Go.Proofs.YtdjieapobodakaaGreatDoor.Lan
end

section
namespace Go.Proofs.YtdjieapobodakaaGreatDoor.Lan
open Go Go.RowKit Go.Maps Go.WideMaps Go.Shelf Go.Lib Go.Sort
set_option maxRecDepth 100000

variable {G : Int → Prop} [Inhabited (W64 G)]

section
variable (lt : (W64 G) → (W64 G) → Bool)
theorem part_break (a i j : Nat) (dk : Array (W64 G)) {i2 j2 : Nat} (hi2 : i2 = scanUp (fun x => lt x dk[a]!) dk j i) (hj2 : j2 = scanDown (fun x => !lt x dk[a]!) dk i2 j) (h : j2 < i2) : partLoop lt a i j dk = (j2, dk) := by
  subst hi2; subst hj2
  rw [partLoop_eq, if_pos h]
theorem part_go (a i j : Nat) (dk : Array (W64 G)) {i2 j2 : Nat} (hi2 : i2 = scanUp (fun x => lt x dk[a]!) dk j i) (hj2 : j2 = scanDown (fun x => !lt x dk[a]!) dk i2 j) (h : ¬ i2 > j2) : partLoop lt a i j dk = partLoop lt a (i2 + 1) (j2 - 1) (swp dk i2 j2) := by
  subst hi2; subst hj2
  rw [partLoop_eq, if_neg h]
theorem part_first_break (a b pv : Nat) (d : Array (W64 G)) (i j : Nat) (hi : i = scanUp (fun x => lt x (swp d a pv)[a]!) (swp d a pv) (b - 1) (a + 1)) (hj : j = scanDown (fun x => !lt x (swp d a pv)[a]!) (swp d a pv) i (b - 1)) (h : j < i) : Sort.partition lt d a b pv = (j, true, swp (swp d a pv) j a) := by
  subst hi; subst hj
  unfold Sort.partition
  dsimp only
  rw [if_pos h]
theorem part_first_go (a b pv : Nat) (d : Array (W64 G)) (i j : Nat) (hi : i = scanUp (fun x => lt x (swp d a pv)[a]!) (swp d a pv) (b - 1) (a + 1)) (hj : j = scanDown (fun x => !lt x (swp d a pv)[a]!) (swp d a pv) i (b - 1)) (h : ¬ j < i) : Sort.partition lt d a b pv = ((partLoop lt a (i + 1) (j - 1) (swp (swp d a pv) i j)).1, false, swp (partLoop lt a (i + 1) (j - 1) (swp (swp d a pv) i j)).2 (partLoop lt a (i + 1) (j - 1) (swp (swp d a pv) i j)).1 a) := by
  subst hi; subst hj
  unfold Sort.partition
  dsimp only
  rw [if_neg h]
theorem scans_lt2 (a i j : Nat) (dk : Array (W64 G)) (h0 : 0 < i) {i2 j2 : Nat} (hi2 : i2 = scanUp (fun x => lt x dk[a]!) dk j i) (hj2 : j2 = scanDown (fun x => !lt x dk[a]!) dk i2 j) (h : i2 ≤ j2) : i2 < j2 := by
  obtain ⟨u1, _, _, u4⟩ := scanUp_spec (fun x => lt x dk[a]!) dk j _ i rfl
  obtain ⟨v1, _, _, v4⟩ := scanDown_spec (fun x => !lt x dk[a]!) dk i2 j
  rw [← hi2] at u1 u4
  rw [← hj2] at v1 v4
  rcases Nat.lt_or_ge i2 j2 with h' | h'
  · exact h'
  · have e : j2 = i2 := by omega
    have f1 := u4 (by omega)
    have f2 := v4 h (by omega)
    rw [e] at f2
    simp only [f1] at f2
    cases f2
end

set_option maxHeartbeats 12800000 in
set_option maxRecDepth 100000 in
theorem part_any {cf : (W64 G) → (W64 G) → Int} {l blk cap : Nat} {d0 : Array (W64 G)} {w0 : World} (H : Srt cf l blk cap d0 w0) {d : Array (W64 G)} {w : World} (hs : d.size = d0.size) (S : SW encW w0 blk 0 d w) {a b pv n : Nat} (hn : n = d0.size) (hap : a ≤ pv) (hpb : pv < b) (hb : b ≤ n) :
    Calls Tryz.prog 177 #[.slice (some ⟨blk, 0, none⟩) n cap, .int .i64 a, .int .i64 b, .int .i64 pv, .func (.func 110) #[.pointer (some ⟨l, 0, none⟩)] #[]] w fun e w' => e = .returned (.tuple #[.int .i64 (Sort.partition (ltOf cf) d a b pv).1, .bool (Sort.partition (ltOf cf) d a b pv).2.1]) ∧ Hid (SW encW w0 blk 0 (Sort.partition (ltOf cf) d a b pv).2.2 w' ∧ (Sort.partition (ltOf cf) d a b pv).2.2.size = d0.size) := by
  have HS := Lib.hid S
  have HZ := Lib.hid hs
  have hbig := H.big
  have hcap := H.cap
  have HN := Lib.hid hn
  have HH := Lib.hid H
  have hn1 : n < 1000000 := by omega
  have hnc : n ≤ cap := by omega
  obtain ⟨bp, hbp⟩ : ∃ x, b - 1 = x := ⟨b - 1, rfl⟩
  have hbpz : (b : Int) - 1 = (bp : Int) := by omega
  have hbpn : bp < n := by omega
  have hai : (a : Int) < (n : Int) := by omega
  have hpi : (pv : Int) < (n : Int) := by omega
  have had : a < d0.size := by omega
  have hpd : pv < d0.size := by omega
  have HRB := Lib.hid (part_first_break (ltOf cf) a b pv d)
  have HRG := Lib.hid (part_first_go (ltOf cf) a b pv d)
  rw [hbp] at HRB HRG
  generalize Sort.partition (ltOf cf) d a b pv = R at *
  have hpn : pv < n := by omega
  have habp : a ≤ bp := by omega
  obtain ⟨y1, HY1, p1, b1, g1⟩ := H.look hs S had
  obtain ⟨y2, HY2, p2, b2, g2⟩ := H.look hs S hpd
  have HSW : Hid (SW encW w0 blk 0 (swp d a pv) ((w.setCell ⟨blk, a, none⟩ (.int .i64 y2.val)).setCell ⟨blk, pv, none⟩ (.int .i64 y1.val)).drew) := Lib.hid (H.swap2 hs S had hpd HY1.out HY2.out 1)
  have HE12 : Hid (a = pv → y2 = y1) := Lib.hid (by rintro rfl; rw [HY1.out, HY2.out])
  have HZ1 : Hid ((swp d a pv).size = d0.size) := Lib.hid (by rw [swp_sz]; exact hs)
  generalize swp d a pv = d1 at *
  clear S hs hn hbig hcap H HS HZ HY1 HY2 p1 p2 hbp
  go_enter Tryz.func177, Tryz.ntmps177
  go_wp2_with fail
  go_cut [0] (fun s0 wx => s0 = .slice (some ⟨blk, 0, none⟩) n cap ∧ Hid (SW encW w0 blk 0 d1 wx))
  case first =>
    by_cases hapv : a = pv
    · obtain rfl := HE12.out hapv
      subst hapv
      clear HE12
      go_region
      go_wp2_with fail
      go_meet
      case rel => exact ⟨rfl, HSW⟩
    · have hlt : a < pv := by omega
      go_region
      go_wp2_with fail
      go_meet
      case rel => exact ⟨rfl, HSW⟩
  case rest =>
    obtain ⟨rfl, HS⟩ := hcut
    have HZ := HZ1
    clear HSW HE12 b1 b2 g1 g2 HZ1 hpi hpn
    go_wp2
    go_loopw [12] (fun vi wr => ∃ (i2 : Nat), vi = .int .i64 i2 ∧ a + 1 ≤ i2 ∧ i2 ≤ bp + 1 ∧ Hid (SW encW w0 blk 0 d1 wr) ∧ Hid (scanUp (fun x => (ltOf cf) x d1[a]!) d1 bp i2 = scanUp (fun x => (ltOf cf) x d1[a]!) d1 bp (a + 1))) (fun vi _ => bp + 1 - (intOf vi).toNat)
    case atStart => exact ⟨a + 1, by go_num, Nat.le_refl _, by omega, HS, Lib.hid rfl⟩
    case round =>
      clear HS
      obtain ⟨i2, rfl, hi2, hij2, HS, HU⟩ := hrel
      by_cases hle : i2 ≤ bp
      · have hlez : (i2 : Int) ≤ (bp : Int) := by omega
        have hi2i : (i2 : Int) < (n : Int) := by omega
        have hi2d : i2 < d0.size := by have := HN.out; omega
        obtain ⟨xi, HXI, qi, ci, fi⟩ := HH.out.look HZ.out HS.out hi2d
        obtain ⟨xa, HXA, qa, ca, fa⟩ := HH.out.look HZ.out HS.out had
        have HC := Lib.hid (HH.out.at_ HZ.out HS.out xi xa)
        cases hlv : (ltOf cf) xi xa with
        | true =>
          have hcv : decide (cf xi xa < 0) = true := hlv
          have hcv' : cf xi xa < 0 := of_decide_eq_true hlv
          have HU2 : Hid (scanUp (fun x => (ltOf cf) x d1[a]!) d1 bp (i2 + 1) = scanUp (fun x => (ltOf cf) x d1[a]!) d1 bp (a + 1)) := Lib.hid (by rw [← HU.out, scanUp_go _ _ _ _ hle (by rw [← HXA.out, ← HXI.out, hlv])])
          generalize cf xi xa = cv at *
          clear hlv HU HXA HXI
          go_wp2_with fail
          go_quiet ((go_at_call 110; exact Calls.quiet_of (HC.out _)))
          have HS3 := Lib.hid (HS.out.drewN nq)
          generalize wr.drewN nq = W3 at *
          clear HC HS qa ca fa qi ci fi
          go_wp2
          go_roundw
          case rel => exact ⟨i2 + 1, by go_num, by omega, by omega, HS3, HU2⟩
          case measure => (simp [intOf] <;> omega)
        | false =>
          have hcv : decide (cf xi xa < 0) = false := hlv
          have HI2 : Hid (i2 = scanUp (fun x => (ltOf cf) x d1[a]!) d1 bp (a + 1)) := Lib.hid (by rw [← HU.out, scanUp_end _ _ _ _ (.inr (by rw [← HXA.out, ← HXI.out, hlv]))])
          generalize cf xi xa = cv at *
          clear hlv HU HXA HXI
          go_wp2_with fail
          go_quiet ((go_at_call 110; exact Calls.quiet_of (HC.out _)))
          have HS3 := Lib.hid (HS.out.drewN nq)
          generalize wr.drewN nq = W3 at *
          clear HC HS qa ca fa qi ci fi hcv
          go_wp2
          go_loopw [13] (fun vj wr => ∃ (j2 : Nat), vj = .int .i64 j2 ∧ i2 ≤ j2 + 1 ∧ j2 ≤ bp ∧ Hid (SW encW w0 blk 0 d1 wr) ∧ Hid (scanDown (fun x => !(ltOf cf) x d1[a]!) d1 i2 j2 = scanDown (fun x => !(ltOf cf) x d1[a]!) d1 i2 bp)) (fun vj _ => (intOf vj).toNat)
          case atStart => exact ⟨bp, rfl, hij2, Nat.le_refl _, HS3, Lib.hid rfl⟩
          case round =>
            clear HS3
            obtain ⟨j2, rfl, hij3, hj2, HS, HV⟩ := hrel
            by_cases hle2 : i2 ≤ j2
            · have hle2z : (i2 : Int) ≤ (j2 : Int) := by omega
              have hj2i : (j2 : Int) < (n : Int) := by omega
              have hj2d : j2 < d0.size := by have := HN.out; omega
              obtain ⟨jp, hjp⟩ : ∃ x, j2 = x + 1 := ⟨j2 - 1, by omega⟩
              have hjpz : (j2 : Int) - 1 = (jp : Int) := by omega
              obtain ⟨xj, HXJ, qj, cj, fj⟩ := HH.out.look HZ.out HS.out hj2d
              obtain ⟨xa, HXA, qa, ca, fa⟩ := HH.out.look HZ.out HS.out had
              have HC := Lib.hid (HH.out.at_ HZ.out HS.out xj xa)
              cases hlv : (ltOf cf) xj xa with
              | false =>
                have hcv : decide (cf xj xa < 0) = false := hlv
                have HV2 : Hid (scanDown (fun x => !(ltOf cf) x d1[a]!) d1 i2 jp = scanDown (fun x => !(ltOf cf) x d1[a]!) d1 i2 bp) := Lib.hid (by rw [← HV.out, scanDown_go _ _ _ _ hle2 (by omega) (by rw [← HXA.out, ← HXJ.out, hlv]; rfl), hjp]; rfl)
                have HJP : Hid (jp + 1 = j2) := Lib.hid hjp.symm
                have hjp1 : i2 ≤ jp + 1 := by omega
                have hjp2 : jp ≤ bp := by omega
                generalize cf xj xa = cv at *
                clear hlv HV HXA HXJ hjp
                go_wp2_with fail
                go_quiet ((go_at_call 110; exact Calls.quiet_of (HC.out _)))
                have HS3 := Lib.hid (HS.out.drewN nq)
                generalize wr.drewN nq = W3 at *
                clear HC HS qa ca fa qj cj fj
                go_wp2
                go_roundw
                case rel => exact ⟨jp, by go_num, hjp1, hjp2, HS3, HV2⟩
                case measure => have := HJP.out; (simp [intOf] <;> omega)
              | true =>
                have hcv : decide (cf xj xa < 0) = true := hlv
                have hcv' : cf xj xa < 0 := of_decide_eq_true hlv
                have HJ2 : Hid (j2 = scanDown (fun x => !(ltOf cf) x d1[a]!) d1 i2 bp) := Lib.hid (by rw [← HV.out, scanDown_end _ _ _ _ (.inr (by rw [← HXA.out, ← HXJ.out, hlv]; rfl))])
                have hlt2 : i2 < j2 := scans_lt2 _ a (a + 1) bp d1 (by omega) HI2.out HJ2.out hle2
                have hlt2z : ¬ (j2 : Int) < (i2 : Int) := by omega
                have hdz : decide (j2 < i2) = false := by simp; omega
                have HJP : Hid (jp + 1 = j2) := Lib.hid hjp.symm
                have hjp1 : i2 + 1 ≤ jp + 1 := by omega
                have hjp2 : jp ≤ bp := by omega
                have hi2d : i2 < d0.size := by have := HN.out; omega
                have hi2i : (i2 : Int) < (n : Int) := by omega
                generalize cf xj xa = cv at *
                clear hlv HV HXA HXJ hjp
                go_wp2_with fail
                go_quiet ((go_at_call 110; exact Calls.quiet_of (HC.out _)))
                have HS3 := Lib.hid (HS.out.drewN nq)
                generalize wr.drewN nq = W3 at *
                clear HC HS qa ca fa qj cj fj hcv hcv'
                obtain ⟨y1, HY1, p1, b1, g1⟩ := HH.out.look HZ.out HS3.out hi2d
                obtain ⟨y2, HY2, p2, b2, g2⟩ := HH.out.look HZ.out HS3.out hj2d
                have HSW : Hid (SW encW w0 blk 0 (swp d1 i2 j2) ((W3.setCell ⟨blk, i2, none⟩ (.int .i64 y2.val)).setCell ⟨blk, j2, none⟩ (.int .i64 y1.val)).drew) := Lib.hid (HH.out.swap2 HZ.out HS3.out hi2d hj2d HY1.out HY2.out 1)
                have HZ3 : Hid ((swp d1 i2 j2).size = d0.size) := Lib.hid (by rw [swp_sz]; exact HZ.out)
                clear HY1 HY2 HS3
                have hRR := HRG.out i2 j2 HI2.out HJ2.out (by omega)
                rw [show j2 - 1 = jp by have := HJP.out; omega] at hRR
                obtain ⟨r, hr⟩ : ∃ r, partLoop (ltOf cf) a (i2 + 1) jp (swp d1 i2 j2) = r := ⟨_, rfl⟩
                rw [hr] at hRR
                have HR : Hid (R = (r.1, false, swp r.2 r.1 a)) := Lib.hid hRR
                have HO2 := Lib.hid hr
                generalize swp d1 i2 j2 = ds at *
                clear HRB HRG HI2 HJ2 HZ hRR hr
                go_wp2_with fail
                go_region
                generalize ((W3.setCell ⟨blk, i2, none⟩ (.int .i64 y2.val)).setCell ⟨blk, j2, none⟩ (.int .i64 y1.val)).drew = W4 at *
                clear p1 p2 b1 b2 g1 g2 hi2i hj2i hlez hle2z hlt2z
                go_wp2
                go_loopw [12, 13] (fun vi vj wr => ∃ (i j : Nat) (dk : Array (W64 G)), vi = .int .i64 i ∧ vj = .int .i64 j ∧ a < i ∧ i ≤ j + 1 ∧ j ≤ bp ∧ Hid (dk.size = d0.size) ∧ Hid (SW encW w0 blk 0 dk wr) ∧ Hid (partLoop (ltOf cf) a i j dk = r)) (fun vi vj _ => (intOf vj).toNat + 1 - (intOf vi).toNat)
                case atStart => exact ⟨i2 + 1, jp, ds, by go_num, by go_num, by omega, hjp1, hjp2, HZ3, HSW, HO2⟩
                case round =>
                  clear HSW HZ3 HO2 hjp1 hjp2 HJP hjpz hlt2 hle2 hle hi2d hj2d hij3 hj2 hi2 hij2
                  obtain ⟨i, j, dk, rfl, rfl, hai2, hij, hjb, HZ, HS, HO⟩ := hrel
                  go_wp2
                  go_loopw [12] (fun vi wr => ∃ (i2 : Nat), vi = .int .i64 i2 ∧ i ≤ i2 ∧ i2 ≤ j + 1 ∧ Hid (SW encW w0 blk 0 dk wr) ∧ Hid (scanUp (fun x => (ltOf cf) x dk[a]!) dk j i2 = scanUp (fun x => (ltOf cf) x dk[a]!) dk j (i))) (fun vi _ => j + 1 - (intOf vi).toNat)
                  case atStart => exact ⟨i, by go_num, Nat.le_refl _, by omega, HS, Lib.hid rfl⟩
                  case round =>
                    clear HS
                    obtain ⟨i2, rfl, hi2, hij2, HS, HU⟩ := hrel
                    by_cases hle : i2 ≤ j
                    · have hlez : (i2 : Int) ≤ (j : Int) := by omega
                      have hi2i : (i2 : Int) < (n : Int) := by omega
                      have hi2d : i2 < d0.size := by have := HN.out; omega
                      obtain ⟨xi, HXI, qi, ci, fi⟩ := HH.out.look HZ.out HS.out hi2d
                      obtain ⟨xa, HXA, qa, ca, fa⟩ := HH.out.look HZ.out HS.out had
                      have HC := Lib.hid (HH.out.at_ HZ.out HS.out xi xa)
                      cases hlv : (ltOf cf) xi xa with
                      | true =>
                        have hcv : decide (cf xi xa < 0) = true := hlv
                        have hcv' : cf xi xa < 0 := of_decide_eq_true hlv
                        have HU2 : Hid (scanUp (fun x => (ltOf cf) x dk[a]!) dk j (i2 + 1) = scanUp (fun x => (ltOf cf) x dk[a]!) dk j (i)) := Lib.hid (by rw [← HU.out, scanUp_go _ _ _ _ hle (by rw [← HXA.out, ← HXI.out, hlv])])
                        generalize cf xi xa = cv at *
                        clear hlv HU HXA HXI
                        go_wp2_with fail
                        go_quiet ((go_at_call 110; exact Calls.quiet_of (HC.out _)))
                        have HS3 := Lib.hid (HS.out.drewN nq)
                        generalize wr.drewN nq = W3 at *
                        clear HC HS qa ca fa qi ci fi
                        go_wp2
                        go_roundw
                        case rel => exact ⟨i2 + 1, by go_num, by omega, by omega, HS3, HU2⟩
                        case measure => (simp [intOf] <;> omega)
                      | false =>
                        have hcv : decide (cf xi xa < 0) = false := hlv
                        have HI2 : Hid (i2 = scanUp (fun x => (ltOf cf) x dk[a]!) dk j (i)) := Lib.hid (by rw [← HU.out, scanUp_end _ _ _ _ (.inr (by rw [← HXA.out, ← HXI.out, hlv]))])
                        generalize cf xi xa = cv at *
                        clear hlv HU HXA HXI
                        go_wp2_with fail
                        go_quiet ((go_at_call 110; exact Calls.quiet_of (HC.out _)))
                        have HS3 := Lib.hid (HS.out.drewN nq)
                        generalize wr.drewN nq = W3 at *
                        clear HC HS qa ca fa qi ci fi hcv
                        go_wp2
                        go_loopw [13] (fun vj wr => ∃ (j2 : Nat), vj = .int .i64 j2 ∧ i2 ≤ j2 + 1 ∧ j2 ≤ j ∧ Hid (SW encW w0 blk 0 dk wr) ∧ Hid (scanDown (fun x => !(ltOf cf) x dk[a]!) dk i2 j2 = scanDown (fun x => !(ltOf cf) x dk[a]!) dk i2 j)) (fun vj _ => (intOf vj).toNat)
                        case atStart => exact ⟨j, rfl, hij2, Nat.le_refl _, HS3, Lib.hid rfl⟩
                        case round =>
                          clear HS3
                          obtain ⟨j2, rfl, hij3, hj2, HS, HV⟩ := hrel
                          by_cases hle2 : i2 ≤ j2
                          · have hle2z : (i2 : Int) ≤ (j2 : Int) := by omega
                            have hj2i : (j2 : Int) < (n : Int) := by omega
                            have hj2d : j2 < d0.size := by have := HN.out; omega
                            obtain ⟨jp, hjp⟩ : ∃ x, j2 = x + 1 := ⟨j2 - 1, by omega⟩
                            have hjpz : (j2 : Int) - 1 = (jp : Int) := by omega
                            obtain ⟨xj, HXJ, qj, cj, fj⟩ := HH.out.look HZ.out HS.out hj2d
                            obtain ⟨xa, HXA, qa, ca, fa⟩ := HH.out.look HZ.out HS.out had
                            have HC := Lib.hid (HH.out.at_ HZ.out HS.out xj xa)
                            cases hlv : (ltOf cf) xj xa with
                            | false =>
                              have hcv : decide (cf xj xa < 0) = false := hlv
                              have HV2 : Hid (scanDown (fun x => !(ltOf cf) x dk[a]!) dk i2 jp = scanDown (fun x => !(ltOf cf) x dk[a]!) dk i2 j) := Lib.hid (by rw [← HV.out, scanDown_go _ _ _ _ hle2 (by omega) (by rw [← HXA.out, ← HXJ.out, hlv]; rfl), hjp]; rfl)
                              have HJP : Hid (jp + 1 = j2) := Lib.hid hjp.symm
                              have hjp1 : i2 ≤ jp + 1 := by omega
                              have hjp2 : jp ≤ j := by omega
                              generalize cf xj xa = cv at *
                              clear hlv HV HXA HXJ hjp
                              go_wp2_with fail
                              go_quiet ((go_at_call 110; exact Calls.quiet_of (HC.out _)))
                              have HS3 := Lib.hid (HS.out.drewN nq)
                              generalize wr.drewN nq = W3 at *
                              clear HC HS qa ca fa qj cj fj
                              go_wp2
                              go_roundw
                              case rel => exact ⟨jp, by go_num, hjp1, hjp2, HS3, HV2⟩
                              case measure => have := HJP.out; (simp [intOf] <;> omega)
                            | true =>
                              have hcv : decide (cf xj xa < 0) = true := hlv
                              have hcv' : cf xj xa < 0 := of_decide_eq_true hlv
                              have HJ2 : Hid (j2 = scanDown (fun x => !(ltOf cf) x dk[a]!) dk i2 j) := Lib.hid (by rw [← HV.out, scanDown_end _ _ _ _ (.inr (by rw [← HXA.out, ← HXJ.out, hlv]; rfl))])
                              have hlt2 : i2 < j2 := scans_lt2 _ a (i) j dk (by omega) HI2.out HJ2.out hle2
                              have hlt2z : ¬ (j2 : Int) < (i2 : Int) := by omega
                              have hdz : decide (j2 < i2) = false := by simp; omega
                              have HJP : Hid (jp + 1 = j2) := Lib.hid hjp.symm
                              have hjp1 : i2 + 1 ≤ jp + 1 := by omega
                              have hjp2 : jp ≤ bp := by omega
                              have hi2d : i2 < d0.size := by have := HN.out; omega
                              have hi2i : (i2 : Int) < (n : Int) := by omega
                              generalize cf xj xa = cv at *
                              clear hlv HV HXA HXJ hjp
                              go_wp2_with fail
                              go_quiet ((go_at_call 110; exact Calls.quiet_of (HC.out _)))
                              have HS3 := Lib.hid (HS.out.drewN nq)
                              generalize wr.drewN nq = W3 at *
                              clear HC HS qa ca fa qj cj fj hcv hcv'
                              obtain ⟨y1, HY1, p1, b1, g1⟩ := HH.out.look HZ.out HS3.out hi2d
                              obtain ⟨y2, HY2, p2, b2, g2⟩ := HH.out.look HZ.out HS3.out hj2d
                              have HSW : Hid (SW encW w0 blk 0 (swp dk i2 j2) ((W3.setCell ⟨blk, i2, none⟩ (.int .i64 y2.val)).setCell ⟨blk, j2, none⟩ (.int .i64 y1.val)).drew) := Lib.hid (HH.out.swap2 HZ.out HS3.out hi2d hj2d HY1.out HY2.out 1)
                              have HZ3 : Hid ((swp dk i2 j2).size = d0.size) := Lib.hid (by rw [swp_sz]; exact HZ.out)
                              clear HY1 HY2 HS3
                              have HO2 : Hid (partLoop (ltOf cf) a (i2 + 1) jp (swp dk i2 j2) = r) := Lib.hid (by rw [← HO.out, part_go _ _ _ _ _ HI2.out HJ2.out (by omega), show j2 - 1 = jp by have := HJP.out; omega])
                              generalize swp dk i2 j2 = ds at *
                              clear HO HI2 HJ2 HZ
                              go_wp2_with fail
                              go_region
                              generalize ((W3.setCell ⟨blk, i2, none⟩ (.int .i64 y2.val)).setCell ⟨blk, j2, none⟩ (.int .i64 y1.val)).drew = W4 at *
                              clear p1 p2 b1 b2 g1 g2
                              go_wp2
                              go_roundw
                              case rel => exact ⟨i2 + 1, jp, ds, by go_num, by go_num, by omega, hjp1, hjp2, HZ3, HSW, HO2⟩
                              case measure => have := HJP.out; (simp [intOf] <;> omega)
                          · have hle2z : ¬ (i2 : Int) ≤ (j2 : Int) := by omega
                            have hgt : (j2 : Int) < (i2 : Int) := by omega
                            have HJ2 : Hid (j2 = scanDown (fun x => !(ltOf cf) x dk[a]!) dk i2 j) := Lib.hid (by rw [← HV.out, scanDown_end _ _ _ _ (.inl hle2)])
                            have hRR : R = (j2, false, swp dk j2 a) := by rw [HR.out, ← HO.out, part_break _ _ _ _ _ HI2.out HJ2.out (by omega)]
                            clear HV HI2 HJ2 HR HO
                            subst hRR
                            go_wp2_with fail
                            go_quiet (fail)
                            have HS3 := Lib.hid (HS.out.drewN nq)
                            generalize wr.drewN nq = W3 at *
                            clear HS
                            obtain ⟨z1, HZ1', s1, t1, v1⟩ := HH.out.look HZ.out HS3.out (show j2 < d0.size by have := HN.out; omega)
                            obtain ⟨z2, HZ2', s2, t2, v2⟩ := HH.out.look HZ.out HS3.out had
                            have HSW : Hid (SW encW w0 blk 0 (swp dk j2 a) ((W3.setCell ⟨blk, j2, none⟩ (.int .i64 z2.val)).setCell ⟨blk, a, none⟩ (.int .i64 z1.val)).drew) := Lib.hid (HH.out.swap2 HZ.out HS3.out (show j2 < d0.size by have := HN.out; omega) had HZ1'.out HZ2'.out 1)
                            have HE12 : Hid (j2 = a → z2 = z1) := Lib.hid (by intro e; rw [HZ1'.out, HZ2'.out, e])
                            have HZ3 : Hid ((swp dk j2 a).size = d0.size) := Lib.hid (by rw [swp_sz]; exact HZ.out)
                            have hjai : (j2 : Int) < (n : Int) := by omega
                            have haj : a ≤ j2 := by omega
                            clear HS3 HZ1' HZ2' s1 s2
                            by_cases hja : j2 = a
                            · have hz := HE12.out hja
                              subst hz
                              clear HE12
                              subst hja
                              go_wp2_with fail
                              go_region
                              go_wp2
                              exact bodyPost_ret (v := .tuple #[.int .i64 j2, .bool false]) (by simp [results, Tryz.results177, go_sem]) rfl ⟨rfl, Lib.hid ⟨HSW.out, HZ3.out⟩⟩
                            · have hlta : a < j2 := by omega
                              clear HE12
                              go_wp2_with fail
                              go_region
                              go_wp2
                              exact bodyPost_ret (v := .tuple #[.int .i64 j2, .bool false]) (by simp [results, Tryz.results177, go_sem]) rfl ⟨rfl, Lib.hid ⟨HSW.out, HZ3.out⟩⟩
                    · have hlez : ¬ (i2 : Int) ≤ (j : Int) := by omega
                      have hgt : (j : Int) < (i2 : Int) := by omega
                      have HI2 : Hid (i2 = scanUp (fun x => (ltOf cf) x dk[a]!) dk j (i)) := Lib.hid (by rw [← HU.out, scanUp_end _ _ _ _ (.inl hle)])
                      have HJ2 : Hid (j = scanDown (fun x => !(ltOf cf) x dk[a]!) dk i2 j) := Lib.hid (by rw [scanDown_end _ _ _ _ (.inl hle)])
                      have hRR : R = (j, false, swp dk j a) := by rw [HR.out, ← HO.out, part_break _ _ _ _ _ HI2.out HJ2.out (by omega)]
                      clear HU HI2 HJ2 HR HO
                      subst hRR
                      go_wp2_with fail
                      go_quiet (fail)
                      have HS3 := Lib.hid (HS.out.drewN nq)
                      generalize wr.drewN nq = W3 at *
                      clear HS
                      go_wp2
                      refine wp_loop_rounds 1 ?_
                      simp only [rounds_succ]
                      go_wp2_with fail
                      go_quiet (fail)
                      have HS4 := Lib.hid (HS3.out.drewN nq)
                      generalize W3.drewN nq = W4 at *
                      clear HS3
                      obtain ⟨z1, HZ1', s1, t1, v1⟩ := HH.out.look HZ.out HS4.out (show j < d0.size by have := HN.out; omega)
                      obtain ⟨z2, HZ2', s2, t2, v2⟩ := HH.out.look HZ.out HS4.out had
                      have HSW : Hid (SW encW w0 blk 0 (swp dk j a) ((W4.setCell ⟨blk, j, none⟩ (.int .i64 z2.val)).setCell ⟨blk, a, none⟩ (.int .i64 z1.val)).drew) := Lib.hid (HH.out.swap2 HZ.out HS4.out (show j < d0.size by have := HN.out; omega) had HZ1'.out HZ2'.out 1)
                      have HE12 : Hid (j = a → z2 = z1) := Lib.hid (by intro e; rw [HZ1'.out, HZ2'.out, e])
                      have HZ3 : Hid ((swp dk j a).size = d0.size) := Lib.hid (by rw [swp_sz]; exact HZ.out)
                      have hjai : (j : Int) < (n : Int) := by omega
                      have haj : a ≤ j := by omega
                      clear HS4 HZ1' HZ2' s1 s2
                      by_cases hja : j = a
                      · have hz := HE12.out hja
                        subst hz
                        clear HE12
                        subst hja
                        go_wp2_with fail
                        go_region
                        go_wp2
                        exact bodyPost_ret (v := .tuple #[.int .i64 j, .bool false]) (by simp [results, Tryz.results177, go_sem]) rfl ⟨rfl, Lib.hid ⟨HSW.out, HZ3.out⟩⟩
                      · have hlta : a < j := by omega
                        clear HE12
                        go_wp2_with fail
                        go_region
                        go_wp2
                        exact bodyPost_ret (v := .tuple #[.int .i64 j, .bool false]) (by simp [results, Tryz.results177, go_sem]) rfl ⟨rfl, Lib.hid ⟨HSW.out, HZ3.out⟩⟩
            · have hle2z : ¬ (i2 : Int) ≤ (j2 : Int) := by omega
              have hgt : (j2 : Int) < (i2 : Int) := by omega
              have HJ2 : Hid (j2 = scanDown (fun x => !(ltOf cf) x d1[a]!) d1 i2 bp) := Lib.hid (by rw [← HV.out, scanDown_end _ _ _ _ (.inl hle2)])
              have hRR : R = (j2, true, swp d1 j2 a) := HRB.out i2 j2 HI2.out HJ2.out (by omega)
              clear HV HI2 HJ2 HRB HRG
              subst hRR
              go_wp2_with fail
              go_quiet (fail)
              have HS3 := Lib.hid (HS.out.drewN nq)
              generalize wr.drewN nq = W3 at *
              clear HS
              obtain ⟨z1, HZ1', s1, t1, v1⟩ := HH.out.look HZ.out HS3.out (show j2 < d0.size by have := HN.out; omega)
              obtain ⟨z2, HZ2', s2, t2, v2⟩ := HH.out.look HZ.out HS3.out had
              have HSW : Hid (SW encW w0 blk 0 (swp d1 j2 a) ((W3.setCell ⟨blk, j2, none⟩ (.int .i64 z2.val)).setCell ⟨blk, a, none⟩ (.int .i64 z1.val)).drew) := Lib.hid (HH.out.swap2 HZ.out HS3.out (show j2 < d0.size by have := HN.out; omega) had HZ1'.out HZ2'.out 1)
              have HE12 : Hid (j2 = a → z2 = z1) := Lib.hid (by intro e; rw [HZ1'.out, HZ2'.out, e])
              have HZ3 : Hid ((swp d1 j2 a).size = d0.size) := Lib.hid (by rw [swp_sz]; exact HZ.out)
              have hjai : (j2 : Int) < (n : Int) := by omega
              have haj : a ≤ j2 := by omega
              clear HS3 HZ1' HZ2' s1 s2
              by_cases hja : j2 = a
              · have hz := HE12.out hja
                subst hz
                clear HE12
                subst hja
                go_wp2_with fail
                go_region
                go_wp2
                exact bodyPost_ret (v := .tuple #[.int .i64 j2, .bool true]) (by simp [results, Tryz.results177, go_sem]) rfl ⟨rfl, Lib.hid ⟨HSW.out, HZ3.out⟩⟩
              · have hlta : a < j2 := by omega
                clear HE12
                go_wp2_with fail
                go_region
                go_wp2
                exact bodyPost_ret (v := .tuple #[.int .i64 j2, .bool true]) (by simp [results, Tryz.results177, go_sem]) rfl ⟨rfl, Lib.hid ⟨HSW.out, HZ3.out⟩⟩
      · have hlez : ¬ (i2 : Int) ≤ (bp : Int) := by omega
        have hgt : (bp : Int) < (i2 : Int) := by omega
        have HI2 : Hid (i2 = scanUp (fun x => (ltOf cf) x d1[a]!) d1 bp (a + 1)) := Lib.hid (by rw [← HU.out, scanUp_end _ _ _ _ (.inl hle)])
        have HJ2 : Hid (bp = scanDown (fun x => !(ltOf cf) x d1[a]!) d1 i2 bp) := Lib.hid (by rw [scanDown_end _ _ _ _ (.inl hle)])
        have hRR : R = (bp, true, swp d1 bp a) := HRB.out i2 bp HI2.out HJ2.out (by omega)
        clear HU HI2 HJ2 HRB HRG
        subst hRR
        go_wp2_with fail
        go_quiet (fail)
        have HS3 := Lib.hid (HS.out.drewN nq)
        generalize wr.drewN nq = W3 at *
        clear HS
        go_wp2
        refine wp_loop_rounds 1 ?_
        simp only [rounds_succ]
        go_wp2_with fail
        go_quiet (fail)
        have HS4 := Lib.hid (HS3.out.drewN nq)
        generalize W3.drewN nq = W4 at *
        clear HS3
        obtain ⟨z1, HZ1', s1, t1, v1⟩ := HH.out.look HZ.out HS4.out (show bp < d0.size by have := HN.out; omega)
        obtain ⟨z2, HZ2', s2, t2, v2⟩ := HH.out.look HZ.out HS4.out had
        have HSW : Hid (SW encW w0 blk 0 (swp d1 bp a) ((W4.setCell ⟨blk, bp, none⟩ (.int .i64 z2.val)).setCell ⟨blk, a, none⟩ (.int .i64 z1.val)).drew) := Lib.hid (HH.out.swap2 HZ.out HS4.out (show bp < d0.size by have := HN.out; omega) had HZ1'.out HZ2'.out 1)
        have HE12 : Hid (bp = a → z2 = z1) := Lib.hid (by intro e; rw [HZ1'.out, HZ2'.out, e])
        have HZ3 : Hid ((swp d1 bp a).size = d0.size) := Lib.hid (by rw [swp_sz]; exact HZ.out)
        have hjai : (bp : Int) < (n : Int) := by omega
        have haj : a ≤ bp := by omega
        clear HS4 HZ1' HZ2' s1 s2
        by_cases hja : bp = a
        · have hz := HE12.out hja
          subst hz
          clear HE12
          subst hja
          go_wp2_with fail
          go_region
          go_wp2
          exact bodyPost_ret (v := .tuple #[.int .i64 bp, .bool true]) (by simp [results, Tryz.results177, go_sem]) rfl ⟨rfl, Lib.hid ⟨HSW.out, HZ3.out⟩⟩
        · have hlta : a < bp := by omega
          clear HE12
          go_wp2_with fail
          go_region
          go_wp2
          exact bodyPost_ret (v := .tuple #[.int .i64 bp, .bool true]) (by simp [results, Tryz.results177, go_sem]) rfl ⟨rfl, Lib.hid ⟨HSW.out, HZ3.out⟩⟩
end Go.Proofs.YtdjieapobodakaaGreatDoor.Lan
end
