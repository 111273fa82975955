/- What is proved here: slices.partialInsertionSortCmpFunc, with a comparison that is a method of the lanes'. Written by mksrtb.py. -/
/- What is proved here: slices.breakPatternsCmpFunc, with a comparison that is a method of the lanes' (it is not called). -/
/- What is proved here: slices.pdqsortCmpFunc, with a comparison that is a method of the lanes'. Written by mksrtd.py. -/
import Derived.Test.YtdjieapobodakaaGreatDoorPEx13
import Derived.Test.YtdjieapobodakaaGreatDoorLib
import Derived.Shelf.SlSortCmp.Xorshift
import Derived.Sort.LotD5
import Derived.Test.YtdjieapobodakaaGreatDoorLibS
import Derived.Sort.Walk13a
import Derived.Sort.AssemblyPlain
import Derived.Deep.LoopGhost
import Derived.Deep.CutRange
section
namespace Go.Proofs.YtdjieapobodakaaGreatDoor.Lan
open Go Go.RowKit Go.Maps Go.WideMaps Go.Shelf Go.Lib Go.Sort
set_option maxRecDepth 100000

variable {G : Int → Prop} [Inhabited (W64 G)]

section
variable (lt : (W64 G) → (W64 G) → Bool)
theorem scanS_go (d : Array (W64 G)) (b i : Nat) (h : i < b) (hl : lt d[i]! d[i - 1]! = false) : scanSorted lt d b i = scanSorted lt d b (i + 1) := by
  rw [scanSorted, if_pos (by simp [h, hl])]
theorem scanS_stop (d : Array (W64 G)) (b i : Nat) (h : ¬ i < b ∨ lt d[i]! d[i - 1]! = true) : scanSorted lt d b i = i := by
  rw [scanSorted, if_neg (by rcases h with h | h <;> simp [h])]
theorem shiftUp_go (b j : Nat) (d : Array (W64 G)) (h : j < b) (hl : lt d[j]! d[j - 1]! = true) : shiftUp lt b j d = shiftUp lt b (j + 1) (swp d j (j - 1)) := by
  rw [shiftUp, if_pos h, hl]; rfl
theorem shiftUp_stop (b j : Nat) (d : Array (W64 G)) (h : ¬ j < b ∨ lt d[j]! d[j - 1]! = false) : shiftUp lt b j d = d := by
  rw [shiftUp]
  rcases h with h | h
  · rw [if_neg h]
  · rw [h]; simp
theorem shiftDown_go (j : Nat) (d : Array (W64 G)) (hl : lt d[j + 1]! d[j]! = true) : shiftDown lt (j + 1) d = shiftDown lt j (swp d (j + 1) j) := by
  rw [shiftDown, hl]; rfl
theorem shiftDown_stop (j : Nat) (d : Array (W64 G)) (hl : lt d[j + 1]! d[j]! = false) : shiftDown lt (j + 1) d = d := by
  rw [shiftDown, hl]; rfl
theorem pins_done (a b s i i2 : Nat) (d : Array (W64 G)) (h : i2 = scanSorted lt d b i) (hb : i2 = b) : partialIns lt a b (s + 1) i d = (d, true) := by
  subst h
  rw [partialIns]
  simp only []
  rw [if_pos hb]
theorem pins_short (a b s i i2 : Nat) (d : Array (W64 G)) (h : i2 = scanSorted lt d b i) (hb : ¬ i2 = b) (h50 : b - a < 50) : partialIns lt a b (s + 1) i d = (d, false) := by
  subst h
  rw [partialIns]
  simp only []
  rw [if_neg hb, if_pos h50]
theorem pins_more (a b s i i2 : Nat) (d : Array (W64 G)) (h : i2 = scanSorted lt d b i) (hb : ¬ i2 = b) (h50 : ¬ b - a < 50) : partialIns lt a b (s + 1) i d = partialIns lt a b s i2 (if b - i2 ≥ 2 then shiftUp lt b (i2 + 1) (if i2 - a ≥ 2 then shiftDown lt (i2 - 1) (swp d i2 (i2 - 1)) else swp d i2 (i2 - 1)) else (if i2 - a ≥ 2 then shiftDown lt (i2 - 1) (swp d i2 (i2 - 1)) else swp d i2 (i2 - 1))) := by
  subst h
  rw [partialIns]
  simp only []
  rw [if_neg hb, if_neg h50]
end

set_option maxHeartbeats 25600000 in
set_option maxRecDepth 100000 in
theorem pins_any {cf : (W64 G) → (W64 G) → Int} {l blk cap : Nat} {d0 : Array (W64 G)} {w0 : World} (H : Srt cf l blk cap d0 w0) {d : Array (W64 G)} {w : World} (hs : d.size = d0.size) (S : SW encW w0 blk 0 d w) {a b n : Nat} (hn : n = d0.size) (hab : a < b) (hb : b ≤ n) :
    Calls Tryz.prog 175 #[.slice (some ⟨blk, 0, none⟩) n cap, .int .i64 a, .int .i64 b, .func (.func 110) #[.pointer (some ⟨l, 0, none⟩)] #[]] w fun e w' => e = .returned (.bool (partialInsertionSort (ltOf cf) d a b).2) ∧ Hid (SW encW w0 blk 0 (partialInsertionSort (ltOf cf) d a b).1 w' ∧ (partialInsertionSort (ltOf cf) d a b).1.size = d0.size) := by
  have HS := Lib.hid S
  have HZ := Lib.hid hs
  have hbig := H.big
  have hcap := H.cap
  have HN := Lib.hid hn
  have HH := Lib.hid H
  have hn1 : n < 1000000 := by omega
  have hnc : n ≤ cap := by omega
  obtain ⟨R, hR⟩ : ∃ R, partialInsertionSort (ltOf cf) d a b = R := ⟨_, rfl⟩
  rw [hR]
  have HR : Hid (partialIns (ltOf cf) a b (5 - 0) (a + 1) d = R) := Lib.hid hR
  clear S hs hn hbig hcap H hR
  go_enter Tryz.func175, Tryz.ntmps175
  go_wp2
  go_loopw [9, 10] (fun vi vk wr => ∃ (i k : Nat) (dk : Array (W64 G)), vi = .int .i64 i ∧ vk = .int .i64 k ∧ a < i ∧ i ≤ b ∧ k ≤ 5 ∧ Hid (dk.size = d0.size) ∧ Hid (SW encW w0 blk 0 dk wr) ∧ Hid (partialIns (ltOf cf) a b (5 - k) i dk = R)) (fun _ vk _ => 5 - (intOf vk).toNat)
  case atStart => exact ⟨a + 1, 0, d, by go_num, rfl, by omega, by omega, by omega, HZ, HS, HR⟩
  case round =>
    clear HS HZ HR
    obtain ⟨i, k, dk, rfl, rfl, hai, hib, hk5, HZ, HS, HO⟩ := hrel
    by_cases hk : k < 5
    · have hkz : (k : Int) < 5 := by omega
      obtain ⟨s, hs⟩ : ∃ s, 5 - k = s + 1 := ⟨4 - k, by omega⟩
      rw [hs] at HO
      have HKS : Hid (5 - k = s + 1) := Lib.hid hs
      clear hs
      go_wp2
      go_loopw [9] (fun vi wr => ∃ (i2 : Nat), vi = .int .i64 i2 ∧ i ≤ i2 ∧ i2 ≤ b ∧ Hid (SW encW w0 blk 0 dk wr) ∧ Hid (scanSorted (ltOf cf) dk b i2 = scanSorted (ltOf cf) dk b i)) (fun vi _ => b - (intOf vi).toNat)
      case atStart => exact ⟨i, rfl, Nat.le_refl _, hib, HS, Lib.hid rfl⟩
      case round =>
        clear HS
        obtain ⟨i2, rfl, hi2, hi2b, HS, HU⟩ := hrel
        by_cases hlt : i2 < b
        · have hltz : (i2 : Int) < (b : Int) := by omega
          obtain ⟨ip, hip⟩ : ∃ x, i2 = x + 1 := ⟨i2 - 1, by omega⟩
          have hipz : (i2 : Int) - 1 = (ip : Int) := by omega
          have hi2i : (i2 : Int) < (n : Int) := by omega
          have hipi : (ip : Int) < (n : Int) := by omega
          have hi2d : i2 < d0.size := by have := HN.out; omega
          have hipd : ip < d0.size := by have := HN.out; omega
          have hipi2 : ip < i2 := by omega
          obtain ⟨x1, HX1, q1, c1, f1⟩ := HH.out.look HZ.out HS.out hi2d
          obtain ⟨x0, HX0, q0, c0, f0⟩ := HH.out.look HZ.out HS.out hipd
          have HC := Lib.hid (HH.out.at_ HZ.out HS.out x1 x0)
          cases hlv : (ltOf cf) x1 x0 with
          | false =>
            have hcv : decide (cf x1 x0 < 0) = false := hlv
            have HU2 : Hid (scanSorted (ltOf cf) dk b (i2 + 1) = scanSorted (ltOf cf) dk b i) := Lib.hid (by rw [← HU.out, scanS_go _ _ _ _ hlt (by rw [show i2 - 1 = ip by omega, ← HX1.out, ← HX0.out, hlv])])
            generalize cf x1 x0 = cv at *
            clear hlv HU HX1 HX0 hip
            go_wp2_with fail
            go_quiet ((go_at_call 110; exact Calls.quiet_of (HC.out _)))
            have HS3 := Lib.hid (HS.out.drewN nq)
            generalize wr.drewN nq = W3 at *
            clear HC HS q1 c1 f1 q0 c0 f0
            go_wp2
            go_roundw
            case rel => exact ⟨i2 + 1, by go_num, by omega, by omega, HS3, HU2⟩
            case measure => (simp [intOf] <;> omega)
          | true =>
            have hcv : decide (cf x1 x0 < 0) = true := hlv
            have hcv' : cf x1 x0 < 0 := of_decide_eq_true hlv
            have HI2 : Hid (i2 = scanSorted (ltOf cf) dk b i) := Lib.hid (by rw [← HU.out, scanS_stop _ _ _ _ (.inr (by rw [show i2 - 1 = ip by omega, ← HX1.out, ← HX0.out, hlv]))])
            have hneb : ¬ (i2 : Int) = (b : Int) := by omega
            have HIP : Hid (i2 - 1 = ip) := Lib.hid (by omega)
            generalize cf x1 x0 = cv at *
            clear hlv HU HX1 HX0 hip
            by_cases h50 : b - a < 50
            · have h50z : (b : Int) - (a : Int) < 50 := by omega
              have hRR : R = (dk, false) := by rw [← HO.out, pins_short _ _ _ _ _ _ _ HI2.out (by omega) h50]
              clear HO HI2
              subst hRR
              go_wp2_with fail
              go_quiet ((go_at_call 110; exact Calls.quiet_of (HC.out _)))
              have HS3 := Lib.hid (HS.out.drewN nq)
              generalize wr.drewN nq = W3 at *
              clear HC HS q1 c1 f1 q0 c0 f0
              go_wp2
              exact bodyPost_ret (v := .bool false) (by simp [results, Tryz.results175, go_sem]) rfl ⟨rfl, Lib.hid ⟨HS3.out, HZ.out⟩⟩
            · have h50z : ¬ (b : Int) - (a : Int) < 50 := by omega
              have HO2 := Lib.hid (HO.out.symm.trans (pins_more _ _ _ _ _ _ _ HI2.out (by omega) h50)).symm
              rw [HIP.out] at HO2
              clear HO HI2 h50
              go_wp2_with fail
              go_quiet ((go_at_call 110; exact Calls.quiet_of (HC.out _)))
              have HS3 := Lib.hid (HS.out.drewN nq)
              generalize wr.drewN nq = W3 at *
              clear HC HS q1 c1 f1 q0 c0 f0
              obtain ⟨y1, HY1, p1, b1, g1⟩ := HH.out.look HZ.out HS3.out hi2d
              obtain ⟨y2, HY2, p2, b2, g2⟩ := HH.out.look HZ.out HS3.out hipd
              have HSW : Hid (SW encW w0 blk 0 (swp dk i2 ip) ((W3.setCell ⟨blk, i2, none⟩ (.int .i64 y2.val)).setCell ⟨blk, ip, none⟩ (.int .i64 y1.val)).drew) := Lib.hid (HH.out.swap2 HZ.out HS3.out hi2d hipd HY1.out HY2.out 1)
              have HZ3 : Hid ((swp dk i2 ip).size = d0.size) := Lib.hid (by rw [swp_sz]; exact HZ.out)
              generalize swp dk i2 ip = ds at *
              clear HZ HY1 HY2 HS3
              go_wp2_with fail
              go_region
              generalize ((W3.setCell ⟨blk, i2, none⟩ (.int .i64 y2.val)).setCell ⟨blk, ip, none⟩ (.int .i64 y1.val)).drew = W4 at *
              clear p1 p2 b1 b2 g1 g2
              by_cases hbd : i2 - a ≥ 2
              · have hbdz : (2 : Int) ≤ (i2 : Int) - (a : Int) := by omega
                rw [if_pos hbd] at HO2
                go_wp2
                go_loopw [11] (fun vj wr => ∃ (j : Nat) (dk : Array (W64 G)), vj = .int .i64 j ∧ j ≤ ip ∧ Hid (dk.size = d0.size) ∧ Hid (SW encW w0 blk 0 dk wr) ∧ Hid (shiftDown (ltOf cf) j dk = shiftDown (ltOf cf) ip ds)) (fun vj _ => (intOf vj).toNat)
                case atStart => exact ⟨ip, ds, rfl, Nat.le_refl _, HZ3, HSW, Lib.hid rfl⟩
                case round =>
                  clear HSW HZ3
                  obtain ⟨j, dk, rfl, hjip, HZ, HS, HV⟩ := hrel
                  by_cases hj0 : 0 < j
                  · have hj0z : (1 : Int) ≤ (j : Int) := by omega
                    obtain ⟨jp, hjp⟩ : ∃ x, j = x + 1 := ⟨j - 1, by omega⟩
                    have hjpz : (j : Int) - 1 = (jp : Int) := by omega
                    have hji : (j : Int) < (n : Int) := by omega
                    have hjpi : (jp : Int) < (n : Int) := by omega
                    have hjd : j < d0.size := by have := HN.out; omega
                    have hjpd : jp < d0.size := by have := HN.out; omega
                    have hjj : jp < j := by omega
                    obtain ⟨x1, HX1, q1, c1, f1⟩ := HH.out.look HZ.out HS.out hjd
                    obtain ⟨x0, HX0, q0, c0, f0⟩ := HH.out.look HZ.out HS.out hjpd
                    have HC := Lib.hid (HH.out.at_ HZ.out HS.out x1 x0)
                    cases hlw : (ltOf cf) x1 x0 with
                    | true =>
                      have hcw : decide (cf x1 x0 < 0) = true := hlw
                      have hcw' : cf x1 x0 < 0 := of_decide_eq_true hlw
                      have HV2 : Hid (shiftDown (ltOf cf) jp (swp dk j jp) = shiftDown (ltOf cf) ip ds) := Lib.hid (by rw [← HV.out, hjp, shiftDown_go _ _ _ (by rw [← hjp, ← HX1.out, ← HX0.out, hlw])])
                      have hjip2 : jp ≤ ip := by omega
                      have HJP : Hid (j = jp + 1) := Lib.hid hjp
                      generalize cf x1 x0 = cw at *
                      generalize hdi : shiftDown (ltOf cf) ip ds = dI at *
                      clear hlw HX1 HX0 HV hjp hdi
                      go_wp2_with fail
                      go_quiet ((go_at_call 110; exact Calls.quiet_of (HC.out _)))
                      have HS3 := Lib.hid (HS.out.drewN nq)
                      generalize wr.drewN nq = W3 at *
                      clear HC HS q1 c1 f1 q0 c0 f0
                      obtain ⟨y1, HY1, p1, b1, g1⟩ := HH.out.look HZ.out HS3.out hjd
                      obtain ⟨y2, HY2, p2, b2, g2⟩ := HH.out.look HZ.out HS3.out hjpd
                      have HSW : Hid (SW encW w0 blk 0 (swp dk j jp) ((W3.setCell ⟨blk, j, none⟩ (.int .i64 y2.val)).setCell ⟨blk, jp, none⟩ (.int .i64 y1.val)).drew) := Lib.hid (HH.out.swap2 HZ.out HS3.out hjd hjpd HY1.out HY2.out 1)
                      have HZ3 : Hid ((swp dk j jp).size = d0.size) := Lib.hid (by rw [swp_sz]; exact HZ.out)
                      generalize swp dk j jp = dt at *
                      clear HZ HY1 HY2 HS3
                      go_wp2_with fail
                      go_region
                      generalize ((W3.setCell ⟨blk, j, none⟩ (.int .i64 y2.val)).setCell ⟨blk, jp, none⟩ (.int .i64 y1.val)).drew = W4 at *
                      clear p1 p2 b1 b2 g1 g2
                      go_wp2
                      go_roundw
                      case rel => exact ⟨jp, dt, by go_num, hjip2, HZ3, HSW, HV2⟩
                      case measure => (simp [intOf] <;> omega)
                    | false =>
                      have hcw : decide (cf x1 x0 < 0) = false := hlw
                      have HO3 : Hid (partialIns (ltOf cf) a b s i2 (if b - i2 ≥ 2 then shiftUp (ltOf cf) b (i2 + 1) dk else dk) = R) := Lib.hid (by rw [← HO2.out, ← HV.out, hjp, shiftDown_stop _ _ _ (by rw [← hjp, ← HX1.out, ← HX0.out, hlw])])
                      generalize cf x1 x0 = cw at *
                      clear hlw HX1 HX0 HV hjp HO2
                      go_wp2_with fail
                      go_quiet ((go_at_call 110; exact Calls.quiet_of (HC.out _)))
                      have HS3 := Lib.hid (HS.out.drewN nq)
                      generalize wr.drewN nq = W3 at *
                      clear HC HS q1 c1 f1 q0 c0 f0
                      by_cases hbu : b - i2 ≥ 2
                      · have hbuz : (2 : Int) ≤ (b : Int) - (i2 : Int) := by omega
                        rw [if_pos hbu] at HO3
                        go_wp2
                        go_loopw [12] (fun vj wr => ∃ (j : Nat) (du : Array (W64 G)), vj = .int .i64 j ∧ i2 < j ∧ j ≤ b ∧ Hid (du.size = d0.size) ∧ Hid (SW encW w0 blk 0 du wr) ∧ Hid (shiftUp (ltOf cf) b j du = shiftUp (ltOf cf) b (i2 + 1) dk)) (fun vj _ => b - (intOf vj).toNat)
                        case atStart => exact ⟨i2 + 1, dk, by go_num, by omega, by omega, HZ, HS3, Lib.hid rfl⟩
                        case round =>
                          clear HS3 HZ
                          obtain ⟨j, du, rfl, hij, hjb, HZ, HS, HV⟩ := hrel
                          by_cases hjlt : j < b
                          · have hjlz : (j : Int) < (b : Int) := by omega
                            obtain ⟨jp, hjp⟩ : ∃ x, j = x + 1 := ⟨j - 1, by omega⟩
                            have hjpz : (j : Int) - 1 = (jp : Int) := by omega
                            have hji : (j : Int) < (n : Int) := by omega
                            have hjpi : (jp : Int) < (n : Int) := by omega
                            have hjd : j < d0.size := by have := HN.out; omega
                            have hjpd : jp < d0.size := by have := HN.out; omega
                            have hjj : jp < j := by omega
                            obtain ⟨x1, HX1, q1, c1, f1⟩ := HH.out.look HZ.out HS.out hjd
                            obtain ⟨x0, HX0, q0, c0, f0⟩ := HH.out.look HZ.out HS.out hjpd
                            have HC := Lib.hid (HH.out.at_ HZ.out HS.out x1 x0)
                            cases hlw : (ltOf cf) x1 x0 with
                            | true =>
                              have hcw : decide (cf x1 x0 < 0) = true := hlw
                              have hcw' : cf x1 x0 < 0 := of_decide_eq_true hlw
                              have HV2 : Hid (shiftUp (ltOf cf) b (j + 1) (swp du j jp) = shiftUp (ltOf cf) b (i2 + 1) dk) := Lib.hid (by rw [← HV.out, shiftUp_go _ _ _ _ hjlt (by rw [show j - 1 = jp by omega, ← HX1.out, ← HX0.out, hlw]), show j - 1 = jp by omega])
                              generalize cf x1 x0 = cw at *
                              clear hlw HX1 HX0 HV hjp
                              go_wp2_with fail
                              go_quiet ((go_at_call 110; exact Calls.quiet_of (HC.out _)))
                              have HS3 := Lib.hid (HS.out.drewN nq)
                              generalize wr.drewN nq = W3 at *
                              clear HC HS q1 c1 f1 q0 c0 f0
                              obtain ⟨y1, HY1, p1, b1, g1⟩ := HH.out.look HZ.out HS3.out hjd
                              obtain ⟨y2, HY2, p2, b2, g2⟩ := HH.out.look HZ.out HS3.out hjpd
                              have HSW : Hid (SW encW w0 blk 0 (swp du j jp) ((W3.setCell ⟨blk, j, none⟩ (.int .i64 y2.val)).setCell ⟨blk, jp, none⟩ (.int .i64 y1.val)).drew) := Lib.hid (HH.out.swap2 HZ.out HS3.out hjd hjpd HY1.out HY2.out 1)
                              have HZ3 : Hid ((swp du j jp).size = d0.size) := Lib.hid (by rw [swp_sz]; exact HZ.out)
                              generalize swp du j jp = dv at *
                              clear HZ HY1 HY2 HS3
                              go_wp2_with fail
                              go_region
                              generalize ((W3.setCell ⟨blk, j, none⟩ (.int .i64 y2.val)).setCell ⟨blk, jp, none⟩ (.int .i64 y1.val)).drew = W4 at *
                              clear p1 p2 b1 b2 g1 g2
                              go_wp2
                              go_roundw
                              case rel => exact ⟨j + 1, dv, by go_num, by omega, by omega, HZ3, HSW, HV2⟩
                              case measure => (simp [intOf] <;> omega)
                            | false =>
                              have hcw : decide (cf x1 x0 < 0) = false := hlw
                              have HO4 : Hid (partialIns (ltOf cf) a b s i2 du = R) := Lib.hid (by rw [← HO3.out, ← HV.out, shiftUp_stop _ _ _ _ (.inr (by rw [show j - 1 = jp by omega, ← HX1.out, ← HX0.out, hlw]))])
                              generalize cf x1 x0 = cw at *
                              clear hlw HX1 HX0 HV hjp HO3
                              have HO5 : Hid (partialIns (ltOf cf) a b (5 - (k + 1)) i2 du = R) := Lib.hid (by rw [← HO4.out, show 5 - (k + 1) = s by have := HKS.out; omega])
                              go_wp2_with fail
                              go_quiet ((go_at_call 110; exact Calls.quiet_of (HC.out _)))
                              have HS3 := Lib.hid (HS.out.drewN nq)
                              generalize wr.drewN nq = W3 at *
                              clear HC HS q1 c1 f1 q0 c0 f0
                              go_wp2
                              go_roundw
                              case rel => exact ⟨i2, k + 1, du, by go_num, by go_num, by omega, by omega, by omega, HZ, HS3, HO5⟩
                              case measure => (simp [intOf] <;> omega)
                          · have hjlz : ¬ (j : Int) < (b : Int) := by omega
                            have HO5 : Hid (partialIns (ltOf cf) a b (5 - (k + 1)) i2 du = R) := Lib.hid (by rw [show 5 - (k + 1) = s by have := HKS.out; omega, ← HO3.out, ← HV.out, shiftUp_stop _ _ _ _ (.inl hjlt)])
                            clear HV HO3
                            go_wp2
                            go_roundw
                            case rel => exact ⟨i2, k + 1, du, by go_num, by go_num, by omega, by omega, by omega, HZ, HS, HO5⟩
                            case measure => (simp [intOf] <;> omega)
                      · have hbuz : ¬ (2 : Int) ≤ (b : Int) - (i2 : Int) := by omega
                        rw [if_neg hbu] at HO3
                        have HO5 : Hid (partialIns (ltOf cf) a b (5 - (k + 1)) i2 dk = R) := Lib.hid (by rw [← HO3.out, show 5 - (k + 1) = s by have := HKS.out; omega])
                        clear HO3
                        go_wp2
                        go_roundw
                        case rel => exact ⟨i2, k + 1, dk, by go_num, by go_num, by omega, by omega, by omega, HZ, HS3, HO5⟩
                        case measure => (simp [intOf] <;> omega)
                  · have hj0z : ¬ (1 : Int) ≤ (j : Int) := by omega
                    have HO3 : Hid (partialIns (ltOf cf) a b s i2 (if b - i2 ≥ 2 then shiftUp (ltOf cf) b (i2 + 1) dk else dk) = R) := Lib.hid (by rw [← HO2.out, ← HV.out, show j = 0 by omega]; rfl)
                    clear HV HO2
                    by_cases hbu : b - i2 ≥ 2
                    · have hbuz : (2 : Int) ≤ (b : Int) - (i2 : Int) := by omega
                      rw [if_pos hbu] at HO3
                      go_wp2
                      go_loopw [12] (fun vj wr => ∃ (j : Nat) (du : Array (W64 G)), vj = .int .i64 j ∧ i2 < j ∧ j ≤ b ∧ Hid (du.size = d0.size) ∧ Hid (SW encW w0 blk 0 du wr) ∧ Hid (shiftUp (ltOf cf) b j du = shiftUp (ltOf cf) b (i2 + 1) dk)) (fun vj _ => b - (intOf vj).toNat)
                      case atStart => exact ⟨i2 + 1, dk, by go_num, by omega, by omega, HZ, HS, Lib.hid rfl⟩
                      case round =>
                        clear HS HZ
                        obtain ⟨j, du, rfl, hij, hjb, HZ, HS, HV⟩ := hrel
                        by_cases hjlt : j < b
                        · have hjlz : (j : Int) < (b : Int) := by omega
                          obtain ⟨jp, hjp⟩ : ∃ x, j = x + 1 := ⟨j - 1, by omega⟩
                          have hjpz : (j : Int) - 1 = (jp : Int) := by omega
                          have hji : (j : Int) < (n : Int) := by omega
                          have hjpi : (jp : Int) < (n : Int) := by omega
                          have hjd : j < d0.size := by have := HN.out; omega
                          have hjpd : jp < d0.size := by have := HN.out; omega
                          have hjj : jp < j := by omega
                          obtain ⟨x1, HX1, q1, c1, f1⟩ := HH.out.look HZ.out HS.out hjd
                          obtain ⟨x0, HX0, q0, c0, f0⟩ := HH.out.look HZ.out HS.out hjpd
                          have HC := Lib.hid (HH.out.at_ HZ.out HS.out x1 x0)
                          cases hlw : (ltOf cf) x1 x0 with
                          | true =>
                            have hcw : decide (cf x1 x0 < 0) = true := hlw
                            have hcw' : cf x1 x0 < 0 := of_decide_eq_true hlw
                            have HV2 : Hid (shiftUp (ltOf cf) b (j + 1) (swp du j jp) = shiftUp (ltOf cf) b (i2 + 1) dk) := Lib.hid (by rw [← HV.out, shiftUp_go _ _ _ _ hjlt (by rw [show j - 1 = jp by omega, ← HX1.out, ← HX0.out, hlw]), show j - 1 = jp by omega])
                            generalize cf x1 x0 = cw at *
                            clear hlw HX1 HX0 HV hjp
                            go_wp2_with fail
                            go_quiet ((go_at_call 110; exact Calls.quiet_of (HC.out _)))
                            have HS3 := Lib.hid (HS.out.drewN nq)
                            generalize wr.drewN nq = W3 at *
                            clear HC HS q1 c1 f1 q0 c0 f0
                            obtain ⟨y1, HY1, p1, b1, g1⟩ := HH.out.look HZ.out HS3.out hjd
                            obtain ⟨y2, HY2, p2, b2, g2⟩ := HH.out.look HZ.out HS3.out hjpd
                            have HSW : Hid (SW encW w0 blk 0 (swp du j jp) ((W3.setCell ⟨blk, j, none⟩ (.int .i64 y2.val)).setCell ⟨blk, jp, none⟩ (.int .i64 y1.val)).drew) := Lib.hid (HH.out.swap2 HZ.out HS3.out hjd hjpd HY1.out HY2.out 1)
                            have HZ3 : Hid ((swp du j jp).size = d0.size) := Lib.hid (by rw [swp_sz]; exact HZ.out)
                            generalize swp du j jp = dv at *
                            clear HZ HY1 HY2 HS3
                            go_wp2_with fail
                            go_region
                            generalize ((W3.setCell ⟨blk, j, none⟩ (.int .i64 y2.val)).setCell ⟨blk, jp, none⟩ (.int .i64 y1.val)).drew = W4 at *
                            clear p1 p2 b1 b2 g1 g2
                            go_wp2
                            go_roundw
                            case rel => exact ⟨j + 1, dv, by go_num, by omega, by omega, HZ3, HSW, HV2⟩
                            case measure => (simp [intOf] <;> omega)
                          | false =>
                            have hcw : decide (cf x1 x0 < 0) = false := hlw
                            have HO4 : Hid (partialIns (ltOf cf) a b s i2 du = R) := Lib.hid (by rw [← HO3.out, ← HV.out, shiftUp_stop _ _ _ _ (.inr (by rw [show j - 1 = jp by omega, ← HX1.out, ← HX0.out, hlw]))])
                            generalize cf x1 x0 = cw at *
                            clear hlw HX1 HX0 HV hjp HO3
                            have HO5 : Hid (partialIns (ltOf cf) a b (5 - (k + 1)) i2 du = R) := Lib.hid (by rw [← HO4.out, show 5 - (k + 1) = s by have := HKS.out; omega])
                            go_wp2_with fail
                            go_quiet ((go_at_call 110; exact Calls.quiet_of (HC.out _)))
                            have HS3 := Lib.hid (HS.out.drewN nq)
                            generalize wr.drewN nq = W3 at *
                            clear HC HS q1 c1 f1 q0 c0 f0
                            go_wp2
                            go_roundw
                            case rel => exact ⟨i2, k + 1, du, by go_num, by go_num, by omega, by omega, by omega, HZ, HS3, HO5⟩
                            case measure => (simp [intOf] <;> omega)
                        · have hjlz : ¬ (j : Int) < (b : Int) := by omega
                          have HO5 : Hid (partialIns (ltOf cf) a b (5 - (k + 1)) i2 du = R) := Lib.hid (by rw [show 5 - (k + 1) = s by have := HKS.out; omega, ← HO3.out, ← HV.out, shiftUp_stop _ _ _ _ (.inl hjlt)])
                          clear HV HO3
                          go_wp2
                          go_roundw
                          case rel => exact ⟨i2, k + 1, du, by go_num, by go_num, by omega, by omega, by omega, HZ, HS, HO5⟩
                          case measure => (simp [intOf] <;> omega)
                    · have hbuz : ¬ (2 : Int) ≤ (b : Int) - (i2 : Int) := by omega
                      rw [if_neg hbu] at HO3
                      have HO5 : Hid (partialIns (ltOf cf) a b (5 - (k + 1)) i2 dk = R) := Lib.hid (by rw [← HO3.out, show 5 - (k + 1) = s by have := HKS.out; omega])
                      clear HO3
                      go_wp2
                      go_roundw
                      case rel => exact ⟨i2, k + 1, dk, by go_num, by go_num, by omega, by omega, by omega, HZ, HS, HO5⟩
                      case measure => (simp [intOf] <;> omega)
              · have hbdz : ¬ (2 : Int) ≤ (i2 : Int) - (a : Int) := by omega
                rw [if_neg hbd] at HO2
                have HO3 := HO2
                clear HO2
                by_cases hbu : b - i2 ≥ 2
                · have hbuz : (2 : Int) ≤ (b : Int) - (i2 : Int) := by omega
                  rw [if_pos hbu] at HO3
                  go_wp2
                  go_loopw [12] (fun vj wr => ∃ (j : Nat) (du : Array (W64 G)), vj = .int .i64 j ∧ i2 < j ∧ j ≤ b ∧ Hid (du.size = d0.size) ∧ Hid (SW encW w0 blk 0 du wr) ∧ Hid (shiftUp (ltOf cf) b j du = shiftUp (ltOf cf) b (i2 + 1) ds)) (fun vj _ => b - (intOf vj).toNat)
                  case atStart => exact ⟨i2 + 1, ds, by go_num, by omega, by omega, HZ3, HSW, Lib.hid rfl⟩
                  case round =>
                    clear HSW HZ3
                    obtain ⟨j, du, rfl, hij, hjb, HZ, HS, HV⟩ := hrel
                    by_cases hjlt : j < b
                    · have hjlz : (j : Int) < (b : Int) := by omega
                      obtain ⟨jp, hjp⟩ : ∃ x, j = x + 1 := ⟨j - 1, by omega⟩
                      have hjpz : (j : Int) - 1 = (jp : Int) := by omega
                      have hji : (j : Int) < (n : Int) := by omega
                      have hjpi : (jp : Int) < (n : Int) := by omega
                      have hjd : j < d0.size := by have := HN.out; omega
                      have hjpd : jp < d0.size := by have := HN.out; omega
                      have hjj : jp < j := by omega
                      obtain ⟨x1, HX1, q1, c1, f1⟩ := HH.out.look HZ.out HS.out hjd
                      obtain ⟨x0, HX0, q0, c0, f0⟩ := HH.out.look HZ.out HS.out hjpd
                      have HC := Lib.hid (HH.out.at_ HZ.out HS.out x1 x0)
                      cases hlw : (ltOf cf) x1 x0 with
                      | true =>
                        have hcw : decide (cf x1 x0 < 0) = true := hlw
                        have hcw' : cf x1 x0 < 0 := of_decide_eq_true hlw
                        have HV2 : Hid (shiftUp (ltOf cf) b (j + 1) (swp du j jp) = shiftUp (ltOf cf) b (i2 + 1) ds) := Lib.hid (by rw [← HV.out, shiftUp_go _ _ _ _ hjlt (by rw [show j - 1 = jp by omega, ← HX1.out, ← HX0.out, hlw]), show j - 1 = jp by omega])
                        generalize cf x1 x0 = cw at *
                        clear hlw HX1 HX0 HV hjp
                        go_wp2_with fail
                        go_quiet ((go_at_call 110; exact Calls.quiet_of (HC.out _)))
                        have HS3 := Lib.hid (HS.out.drewN nq)
                        generalize wr.drewN nq = W3 at *
                        clear HC HS q1 c1 f1 q0 c0 f0
                        obtain ⟨y1, HY1, p1, b1, g1⟩ := HH.out.look HZ.out HS3.out hjd
                        obtain ⟨y2, HY2, p2, b2, g2⟩ := HH.out.look HZ.out HS3.out hjpd
                        have HSW : Hid (SW encW w0 blk 0 (swp du j jp) ((W3.setCell ⟨blk, j, none⟩ (.int .i64 y2.val)).setCell ⟨blk, jp, none⟩ (.int .i64 y1.val)).drew) := Lib.hid (HH.out.swap2 HZ.out HS3.out hjd hjpd HY1.out HY2.out 1)
                        have HZ3 : Hid ((swp du j jp).size = d0.size) := Lib.hid (by rw [swp_sz]; exact HZ.out)
                        generalize swp du j jp = dv at *
                        clear HZ HY1 HY2 HS3
                        go_wp2_with fail
                        go_region
                        generalize ((W3.setCell ⟨blk, j, none⟩ (.int .i64 y2.val)).setCell ⟨blk, jp, none⟩ (.int .i64 y1.val)).drew = W4 at *
                        clear p1 p2 b1 b2 g1 g2
                        go_wp2
                        go_roundw
                        case rel => exact ⟨j + 1, dv, by go_num, by omega, by omega, HZ3, HSW, HV2⟩
                        case measure => (simp [intOf] <;> omega)
                      | false =>
                        have hcw : decide (cf x1 x0 < 0) = false := hlw
                        have HO4 : Hid (partialIns (ltOf cf) a b s i2 du = R) := Lib.hid (by rw [← HO3.out, ← HV.out, shiftUp_stop _ _ _ _ (.inr (by rw [show j - 1 = jp by omega, ← HX1.out, ← HX0.out, hlw]))])
                        generalize cf x1 x0 = cw at *
                        clear hlw HX1 HX0 HV hjp HO3
                        have HO5 : Hid (partialIns (ltOf cf) a b (5 - (k + 1)) i2 du = R) := Lib.hid (by rw [← HO4.out, show 5 - (k + 1) = s by have := HKS.out; omega])
                        go_wp2_with fail
                        go_quiet ((go_at_call 110; exact Calls.quiet_of (HC.out _)))
                        have HS3 := Lib.hid (HS.out.drewN nq)
                        generalize wr.drewN nq = W3 at *
                        clear HC HS q1 c1 f1 q0 c0 f0
                        go_wp2
                        go_roundw
                        case rel => exact ⟨i2, k + 1, du, by go_num, by go_num, by omega, by omega, by omega, HZ, HS3, HO5⟩
                        case measure => (simp [intOf] <;> omega)
                    · have hjlz : ¬ (j : Int) < (b : Int) := by omega
                      have HO5 : Hid (partialIns (ltOf cf) a b (5 - (k + 1)) i2 du = R) := Lib.hid (by rw [show 5 - (k + 1) = s by have := HKS.out; omega, ← HO3.out, ← HV.out, shiftUp_stop _ _ _ _ (.inl hjlt)])
                      clear HV HO3
                      go_wp2
                      go_roundw
                      case rel => exact ⟨i2, k + 1, du, by go_num, by go_num, by omega, by omega, by omega, HZ, HS, HO5⟩
                      case measure => (simp [intOf] <;> omega)
                · have hbuz : ¬ (2 : Int) ≤ (b : Int) - (i2 : Int) := by omega
                  rw [if_neg hbu] at HO3
                  have HO5 : Hid (partialIns (ltOf cf) a b (5 - (k + 1)) i2 ds = R) := Lib.hid (by rw [← HO3.out, show 5 - (k + 1) = s by have := HKS.out; omega])
                  clear HO3
                  go_wp2
                  go_roundw
                  case rel => exact ⟨i2, k + 1, ds, by go_num, by go_num, by omega, by omega, by omega, HZ3, HSW, HO5⟩
                  case measure => (simp [intOf] <;> omega)
        · have hltz : ¬ (i2 : Int) < (b : Int) := by omega
          have hebz : (i2 : Int) = (b : Int) := by omega
          have HI2 : Hid (i2 = scanSorted (ltOf cf) dk b i) := Lib.hid (by rw [← HU.out, scanS_stop _ _ _ _ (.inl hlt)])
          have hRR : R = (dk, true) := by rw [← HO.out, pins_done _ _ _ _ _ _ _ HI2.out (by omega)]
          have hee : i2 = b := by omega
          clear HU HO HI2 hebz
          subst hRR
          subst hee
          go_wp2_with fail
          go_quiet (fail)
          have HS3 := Lib.hid (HS.out.drewN nq)
          generalize wr.drewN nq = W3 at *
          clear HS
          go_wp2
          exact bodyPost_ret (v := .bool true) (by simp [results, Tryz.results175, go_sem]) rfl ⟨rfl, Lib.hid ⟨HS3.out, HZ.out⟩⟩
    · have hkz : ¬ (k : Int) < 5 := by omega
      have hRR : R = (dk, false) := by rw [← HO.out, show 5 - k = 0 by omega]; rfl
      clear HO
      subst hRR
      go_wp2
      exact bodyPost_ret (v := .bool false) (by simp [results, Tryz.results175, go_sem]) rfl ⟨rfl, Lib.hid ⟨HS.out, HZ.out⟩⟩
end Go.Proofs.YtdjieapobodakaaGreatDoor.Lan
end

section
namespace Go.Proofs.YtdjieapobodakaaGreatDoor.Lan
open Go Go.RowKit Go.Maps Go.WideMaps Go.Shelf Go.Lib Go.Sort
set_option maxRecDepth 100000

variable {G : Int → Prop} [Inhabited (W64 G)]

/-- The state behind k rounds. -/
def bst (a L M idx : Nat) (d : Array (W64 G)) : Nat → UInt64 × Array (W64 G)
  | 0 => (UInt64.ofNat L, d)
  | k + 1 => breakStep a L M (bst a L M idx d k) (idx + k)
theorem break_eq (d : Array (W64 G)) (a b : Nat) (h : 8 ≤ b - a) : breakPatterns d a b = (bst a (b - a) (1 <<< bitsLen (b - a)) (a + (b - a) / 4 * 2 - 1) d 3).2 := by
  unfold breakPatterns
  dsimp only
  rw [if_pos h]
  rfl
/-- Where the exchange goes. -/
def othN (L M X : Nat) : Nat := if X &&& (M - 1) ≥ L then (X &&& (M - 1)) - L else X &&& (M - 1)
theorem bst_step (a L M idx : Nat) (d : Array (W64 G)) (k : Nat) : (bst a L M idx d (k + 1)).1.toNat = xorNextN (bst a L M idx d k).1.toNat ∧ (bst a L M idx d (k + 1)).2 = swp (bst a L M idx d k).2 (idx + k) (a + othN L M (xorNextN (bst a L M idx d k).1.toNat)) := by
  rw [bst]
  unfold breakStep othN
  dsimp only
  rw [xorNext_toNat]
  exact ⟨rfl, rfl⟩

set_option maxHeartbeats 3200000 in
set_option maxRecDepth 100000 in
theorem brk_any {cf : (W64 G) → (W64 G) → Int} {l blk cap : Nat} {d0 : Array (W64 G)} {w0 : World} (H : Srt cf l blk cap d0 w0) {d : Array (W64 G)} {w : World} (hs : d.size = d0.size) (S : SW encW w0 blk 0 d w) {a b n : Nat} (hn : n = d0.size) (hab : a + 12 < b) (hb : b ≤ n) (f : Value) :
    Calls Tryz.prog 172 #[.slice (some ⟨blk, 0, none⟩) n cap, .int .i64 a, .int .i64 b, f] w fun e w' => e = .returned (.tuple #[]) ∧ Hid (SW encW w0 blk 0 (breakPatterns d a b) w' ∧ (breakPatterns d a b).size = d0.size) := by
  have HS := Lib.hid S
  have HZ := Lib.hid hs
  have hbig := H.big
  have hcap := H.cap
  have HN := Lib.hid hn
  have HH := Lib.hid H
  have hn1 : n < 1000000 := by omega
  have hnc : n ≤ cap := by omega
  have HB := Lib.hid (break_eq d a b (by omega))
  generalize breakPatterns d a b = R at *
  obtain ⟨L, hL⟩ : ∃ x, b - a = x := ⟨_, rfl⟩
  rw [hL] at HB
  obtain ⟨Q, hQ⟩ : ∃ x, L / 4 = x := ⟨_, rfl⟩
  rw [hQ] at HB
  have HP := Lib.hid (fun w => AnyF.nextPowerOfTwo (P := Tryz.prog) { Tryz.sortInts with } L (by omega) w)
  have hM1 : 1 <<< bitsLen L ≤ 2 * L := by rw [Nat.one_shiftLeft]; exact two_pow_bitsLen_le (by omega)
  have hM0 : 0 < 1 <<< bitsLen L := by rw [Nat.one_shiftLeft]; exact Nat.pow_pos (by omega)
  generalize 1 <<< bitsLen L = M at *
  obtain ⟨I, hI⟩ : ∃ x, a + Q * 2 - 1 = x := ⟨_, rfl⟩
  rw [hI] at HB
  have hLz : (b : Int) - (a : Int) = (L : Int) := by omega
  have hQz : Int.tdiv (L : Int) 4 = (Q : Int) := by rw [← hQ]; exact (Int.ofNat_tdiv L 4).symm
  obtain ⟨J0, hJ0⟩ : ∃ x, x = I + 1 := ⟨_, rfl⟩
  obtain ⟨E, hE⟩ : ∃ x, x = I + 2 := ⟨_, rfl⟩
  obtain ⟨Mm, hMm⟩ : ∃ x, M = x + 1 := ⟨M - 1, by omega⟩
  have hJ0z : (a : Int) + (Q : Int) * 2 = (J0 : Int) := by omega
  have hIz : (J0 : Int) - 1 = (I : Int) := by omega
  have hEz : (J0 : Int) + 1 = (E : Int) := by omega
  have hMmz : (M : Int) - 1 = (Mm : Int) := by omega
  have HMM : Hid (M - 1 = Mm) := Lib.hid (by omega)
  have hL8 : (8 : Int) ≤ (L : Int) := by omega
  have hQn : Q < n := by omega
  have hLn : L ≤ n := by omega
  have hEn : E < n := by omega
  have hMn : Mm < 2 * n := by omega
  have HML : Hid (Mm < 2 * L) := Lib.hid (by omega)
  have HLB : Hid (a + L ≤ n) := Lib.hid (by omega)
  have HLE : Hid (w0.heap.size ≤ w.heap.size) := Lib.hid S.le
  have HNE : Hid (w.heap.size ≠ blk) := Lib.hid (by have := S.le; have := H.row.hblk; omega)
  have HE : Hid (E = I + 2) := Lib.hid hE
  have HX0 : Hid (L = (bst a L M I d 0).1.toNat) := Lib.hid (by show L = (UInt64.ofNat L).toNat; rw [UInt64.toNat_ofNat']; omega)
  have HSA : Hid (SW encW w0 blk 0 (bst a L M I d 0).2 (w.alloc (.cells #[.int .u64 (L : Nat)] 214))) := Lib.hid (S.alloc _)
  have HZA : Hid ((bst a L M I d 0).2.size = d0.size) := HZ
  clear S hs hn hbig hcap H hL hQ hI hab hb hJ0 hE hMm HS HZ
  go_enter Tryz.func172, Tryz.ntmps172
  go_wp2_with (go_at_call 152; go_fit (HP.out _); rintro e w1 ⟨rfl, rfl⟩)
  go_loopw [11] (fun vi wr => ∃ (k J X : Nat), vi = .int .i64 J ∧ k ≤ 3 ∧ Hid (J = I + k) ∧ Hid (X = (bst a L M I d k).1.toNat) ∧ Hid ((bst a L M I d k).2.size = d0.size) ∧ Hid (SW encW w0 blk 0 (bst a L M I d k).2 wr) ∧ Hid (wr.cell? ⟨w.heap.size, 0, none⟩ = some (.int .u64 X)) ∧ Hid (wr.frozen? ⟨w.heap.size, 0, none⟩ = false)) (fun vi _ => n - (intOf vi).toNat)
  case atStart => exact ⟨0, I, L, rfl, by omega, Lib.hid rfl, HX0, HZA, HSA, Lib.hid (by simp), Lib.hid (by simp)⟩
  case round =>
    clear HZA HSA HX0
    obtain ⟨k, J, X, rfl, hk3, HJ, HX, HZ, HS, HC1, HC2⟩ := hrel
    by_cases hk : k < 3
    · have hJE : (J : Int) ≤ (E : Int) := by have := HE.out; have := HJ.out; omega
      have hJn : J < n := by omega
      have hJi : (J : Int) < (n : Int) := by omega
      have hJd : J < d0.size := by have := HN.out; omega
      have hXl : X < 18446744073709551616 := by rw [HX.out]; exact UInt64.toNat_lt _
      have HCN := Lib.hid (AnyF.xorshift_Next (P := Tryz.prog) { Tryz.sortInts with } w.heap.size 0 X hXl wr HC1.out HC2.out)
      have hXN := xorNextN_lt X hXl
      obtain ⟨XN, hXX⟩ : ∃ x, x = xorNextN X := ⟨_, rfl⟩
      rw [← hXX] at HCN hXN
      have HXX := Lib.hid hXX
      obtain ⟨O, hO⟩ : ∃ x, x = XN &&& Mm := ⟨_, rfl⟩
      have hOb : bits .and .u64 (XN : Int) (Mm : Int) = (O : Int) := by rw [hO]; exact bits_and_u64_nat _ _ hXN (by omega)
      have hOm : O ≤ Mm := by rw [hO]; exact Nat.and_le_right
      have hOn : O < 2 * n := by omega
      have HO0 : Hid (othN L M (xorNextN X) = if O ≥ L then O - L else O) := Lib.hid (by unfold othN; rw [HMM.out, ← hXX, ← hO])
      clear hO hXX hXl
      by_cases hOL : L ≤ O
      · have hOLz : (L : Int) ≤ (O : Int) := by omega
        obtain ⟨T, hT⟩ : ∃ x, x = O - L := ⟨_, rfl⟩
        have hTz : (O : Int) - (L : Int) = (T : Int) := by omega
        have hTL : T < L := by have := HML.out; omega
        have HO : Hid (othN L M (xorNextN X) = T) := Lib.hid (by rw [HO0.out, if_pos hOL, hT])
        clear hT HO0
        obtain ⟨fp, hfp⟩ : ∃ x, x = a + T := ⟨_, rfl⟩
        have hfpz : (a : Int) + (T : Int) = (fp : Int) := by omega
        have hfpn : fp < n := by have := HLB.out; omega
        have hfpi : (fp : Int) < (n : Int) := by omega
        have hfpd : fp < d0.size := by have := HN.out; omega
        have HST : Hid ((bst a L M I d (k + 1)).2 = swp (bst a L M I d k).2 J fp) := Lib.hid (by rw [(bst_step a L M I d k).2, ← HX.out, HO.out, ← hfp, HJ.out])
        clear hfp
        go_wp2_with (go_at_call 153; go_fit HCN.out; rintro e w2 ⟨rfl, rfl⟩)
        have HS3 : Hid (SW encW w0 blk 0 (bst a L M I d k).2 ((wr.setCell ⟨w.heap.size, 0, none⟩ (.int .u64 (XN : Nat))).drewN 3)) := Lib.hid ((HS.out.setCell_new _ _ _ HLE.out).drewN 3)
        have HK1 : Hid (((wr.setCell ⟨w.heap.size, 0, none⟩ (.int .u64 (XN : Nat))).drewN 3).cell? ⟨w.heap.size, 0, none⟩ = some (.int .u64 (XN : Nat))) := Lib.hid (World.cell?_setCell_same' _ _ _ (by rw [HC1.out]; rfl))
        have HK2 : Hid (((wr.setCell ⟨w.heap.size, 0, none⟩ (.int .u64 (XN : Nat))).drewN 3).frozen? ⟨w.heap.size, 0, none⟩ = false) := Lib.hid ((World.frozen?_setCell _ _ _ _).trans HC2.out)
        generalize (wr.setCell ⟨w.heap.size, 0, none⟩ (.int .u64 (XN : Nat))).drewN 3 = W3 at *
        clear HCN HS HC1 HC2
        obtain ⟨y1, HY1, p1, b1, g1⟩ := HH.out.look HZ.out HS3.out hJd
        obtain ⟨y2, HY2, p2, b2, g2⟩ := HH.out.look HZ.out HS3.out hfpd
        have HSW : Hid (SW encW w0 blk 0 (bst a L M I d (k + 1)).2 ((W3.setCell ⟨blk, J, none⟩ (.int .i64 y2.val)).setCell ⟨blk, fp, none⟩ (.int .i64 y1.val)).drew) := Lib.hid (by rw [HST.out]; exact HH.out.swap2 HZ.out HS3.out hJd hfpd HY1.out HY2.out 1)
        have HBX := Lib.hid (box_kept_swap1 (blk := blk) HNE.out HK1.out HK2.out J fp (.int .i64 y2.val) (.int .i64 y1.val))
        have HE12 : Hid (J = fp → y2 = y1) := Lib.hid (by intro e; rw [HY1.out, HY2.out, e])
        have HZ3 : Hid ((bst a L M I d (k + 1)).2.size = d0.size) := Lib.hid (by rw [HST.out, swp_sz]; exact HZ.out)
        have HXN : Hid (XN = (bst a L M I d (k + 1)).1.toNat) := Lib.hid (by rw [(bst_step a L M I d k).1, ← HX.out]; exact HXX.out)
        have HJ3 : Hid (J + 1 = I + (k + 1)) := Lib.hid (by have := HJ.out; omega)
        clear HS3 HY1 HY2 HST HZ HX HO HXX HK1 HK2
        by_cases hjf : J = fp
        · have hy := HE12.out hjf
          subst hy
          clear HE12
          subst hjf
          go_wp2_with fail
          go_region
          generalize ((W3.setCell ⟨blk, J, none⟩ (.int .i64 y2.val)).setCell ⟨blk, J, none⟩ (.int .i64 y2.val)).drew = W4 at *
          clear p1 p2 b1 b2 g1 g2
          go_wp2
          go_roundw
          case rel => exact ⟨k + 1, J + 1, XN, by go_num, by omega, HJ3, HXN, HZ3, HSW, Lib.hid HBX.out.1, Lib.hid HBX.out.2⟩
          case measure => (simp [intOf] <;> omega)
        · clear HE12
          have hjf2 : J < fp ∨ fp < J := by omega
          go_wp2_with fail
          go_region
          generalize ((W3.setCell ⟨blk, J, none⟩ (.int .i64 y2.val)).setCell ⟨blk, fp, none⟩ (.int .i64 y1.val)).drew = W4 at *
          clear p1 p2 b1 b2 g1 g2
          go_wp2
          go_roundw
          case rel => exact ⟨k + 1, J + 1, XN, by go_num, by omega, HJ3, HXN, HZ3, HSW, Lib.hid HBX.out.1, Lib.hid HBX.out.2⟩
          case measure => (simp [intOf] <;> omega)
      · have hOLz : ¬ (L : Int) ≤ (O : Int) := by omega
        have HO : Hid (othN L M (xorNextN X) = O) := Lib.hid (by rw [HO0.out, if_neg hOL])
        clear HO0
        obtain ⟨fp, hfp⟩ : ∃ x, x = a + O := ⟨_, rfl⟩
        have hfpz : (a : Int) + (O : Int) = (fp : Int) := by omega
        have hfpn : fp < n := by have := HLB.out; omega
        have hfpi : (fp : Int) < (n : Int) := by omega
        have hfpd : fp < d0.size := by have := HN.out; omega
        have HST : Hid ((bst a L M I d (k + 1)).2 = swp (bst a L M I d k).2 J fp) := Lib.hid (by rw [(bst_step a L M I d k).2, ← HX.out, HO.out, ← hfp, HJ.out])
        clear hfp
        go_wp2_with (go_at_call 153; go_fit HCN.out; rintro e w2 ⟨rfl, rfl⟩)
        have HS3 : Hid (SW encW w0 blk 0 (bst a L M I d k).2 ((wr.setCell ⟨w.heap.size, 0, none⟩ (.int .u64 (XN : Nat))).drewN 3)) := Lib.hid ((HS.out.setCell_new _ _ _ HLE.out).drewN 3)
        have HK1 : Hid (((wr.setCell ⟨w.heap.size, 0, none⟩ (.int .u64 (XN : Nat))).drewN 3).cell? ⟨w.heap.size, 0, none⟩ = some (.int .u64 (XN : Nat))) := Lib.hid (World.cell?_setCell_same' _ _ _ (by rw [HC1.out]; rfl))
        have HK2 : Hid (((wr.setCell ⟨w.heap.size, 0, none⟩ (.int .u64 (XN : Nat))).drewN 3).frozen? ⟨w.heap.size, 0, none⟩ = false) := Lib.hid ((World.frozen?_setCell _ _ _ _).trans HC2.out)
        generalize (wr.setCell ⟨w.heap.size, 0, none⟩ (.int .u64 (XN : Nat))).drewN 3 = W3 at *
        clear HCN HS HC1 HC2
        obtain ⟨y1, HY1, p1, b1, g1⟩ := HH.out.look HZ.out HS3.out hJd
        obtain ⟨y2, HY2, p2, b2, g2⟩ := HH.out.look HZ.out HS3.out hfpd
        have HSW : Hid (SW encW w0 blk 0 (bst a L M I d (k + 1)).2 ((W3.setCell ⟨blk, J, none⟩ (.int .i64 y2.val)).setCell ⟨blk, fp, none⟩ (.int .i64 y1.val)).drew) := Lib.hid (by rw [HST.out]; exact HH.out.swap2 HZ.out HS3.out hJd hfpd HY1.out HY2.out 1)
        have HBX := Lib.hid (box_kept_swap1 (blk := blk) HNE.out HK1.out HK2.out J fp (.int .i64 y2.val) (.int .i64 y1.val))
        have HE12 : Hid (J = fp → y2 = y1) := Lib.hid (by intro e; rw [HY1.out, HY2.out, e])
        have HZ3 : Hid ((bst a L M I d (k + 1)).2.size = d0.size) := Lib.hid (by rw [HST.out, swp_sz]; exact HZ.out)
        have HXN : Hid (XN = (bst a L M I d (k + 1)).1.toNat) := Lib.hid (by rw [(bst_step a L M I d k).1, ← HX.out]; exact HXX.out)
        have HJ3 : Hid (J + 1 = I + (k + 1)) := Lib.hid (by have := HJ.out; omega)
        clear HS3 HY1 HY2 HST HZ HX HO HXX HK1 HK2
        by_cases hjf : J = fp
        · have hy := HE12.out hjf
          subst hy
          clear HE12
          subst hjf
          go_wp2_with fail
          go_region
          generalize ((W3.setCell ⟨blk, J, none⟩ (.int .i64 y2.val)).setCell ⟨blk, J, none⟩ (.int .i64 y2.val)).drew = W4 at *
          clear p1 p2 b1 b2 g1 g2
          go_wp2
          go_roundw
          case rel => exact ⟨k + 1, J + 1, XN, by go_num, by omega, HJ3, HXN, HZ3, HSW, Lib.hid HBX.out.1, Lib.hid HBX.out.2⟩
          case measure => (simp [intOf] <;> omega)
        · clear HE12
          have hjf2 : J < fp ∨ fp < J := by omega
          go_wp2_with fail
          go_region
          generalize ((W3.setCell ⟨blk, J, none⟩ (.int .i64 y2.val)).setCell ⟨blk, fp, none⟩ (.int .i64 y1.val)).drew = W4 at *
          clear p1 p2 b1 b2 g1 g2
          go_wp2
          go_roundw
          case rel => exact ⟨k + 1, J + 1, XN, by go_num, by omega, HJ3, HXN, HZ3, HSW, Lib.hid HBX.out.1, Lib.hid HBX.out.2⟩
          case measure => (simp [intOf] <;> omega)
    · have hJE : ¬ (J : Int) ≤ (E : Int) := by have := HE.out; have := HJ.out; omega
      go_wp2
      (first | go_end0 | refine bodyPost_ret (results_none rfl _ _ _) rfl ?_)
      refine ⟨rfl, Lib.hid ?_⟩
      have hk33 : k = 3 := by omega
      rw [hk33] at HS HZ
      rw [HB.out]
      exact ⟨HS.out, HZ.out⟩
end Go.Proofs.YtdjieapobodakaaGreatDoor.Lan
end

section
namespace Go.Proofs.YtdjieapobodakaaGreatDoor.Lan
open Go Go.RowKit Go.Maps Go.WideMaps Go.Shelf Go.Lib Go.Sort
set_option maxRecDepth 100000

variable {G : Int → Prop} [Inhabited (W64 G)]

/-- What a round of pdq reckons with, and what comes of it. -/
structure RdF (lt : (W64 G) → (W64 G) → Bool) (d : Array (W64 G)) (a b lim : Nat) (wb wp : Bool) (r : Sort.Rd (W64 G)) : Prop where
  s1 : r.d1.size = d.size
  c1 : a ≤ r.c.1
  c2 : r.c.1 < b
  s2 : r.d2.size = d.size
  p1 : a ≤ r.pivot
  p2 : r.pivot < b
  s3 : r.pi.1.size = d.size
  le : r.lim ≤ lim
  brk : wb = false → r.d1 = breakPatterns d a b ∧ r.lim = lim - 1
  tru : wb = true → r.d1 = d ∧ r.lim = lim
  piv : r.c = choosePivot lt r.d1 a b
  dec : r.c.2 = .decreasing → r.d2 = reverseRange r.d1 a b ∧ r.pivot = (b - 1) - (r.c.1 - a) ∧ r.hint = .increasing
  non : r.c.2 ≠ .decreasing → r.d2 = r.d1 ∧ r.pivot = r.c.1 ∧ r.hint = r.c.2
  yes : (wb && wp && decide (r.hint = .increasing)) = true → r.pi = partialInsertionSort lt r.d2 a b
  no : (wb && wp && decide (r.hint = .increasing)) = false → r.pi = (r.d2, false)
  fin : r.pi.2 = true → pdq lt d a b lim wb wp = r.pi.1
  eq : r.pi.2 = false → (decide (a > 0) && !lt r.pi.1[a - 1]! r.pi.1[r.pivot]!) = true → ∃ mid d4, partitionEqual lt r.pi.1 a b r.pivot = (mid, d4) ∧ a < mid ∧ mid ≤ b ∧ d4.size = d.size ∧ Sort.Below lt mid b d4 ∧ pdq lt d a b lim wb wp = pdq lt d4 mid b r.lim wb wp
  part : r.pi.2 = false → (decide (a > 0) && !lt r.pi.1[a - 1]! r.pi.1[r.pivot]!) = false → ∃ mid ap d4, partition lt r.pi.1 a b r.pivot = (mid, ap, d4) ∧ a ≤ mid ∧ mid < b ∧ d4.size = d.size ∧ Sort.Below lt a mid d4 ∧ Sort.Below lt (mid + 1) b d4 ∧
    (mid - a < b - mid → (pdq lt d4 a mid r.lim true true).size = d.size ∧ Sort.Below lt (mid + 1) b (pdq lt d4 a mid r.lim true true) ∧ pdq lt d a b lim wb wp = pdq lt (pdq lt d4 a mid r.lim true true) (mid + 1) b r.lim (decide (mid - a ≥ (b - a) / 8)) ap) ∧
    (¬ mid - a < b - mid → (pdq lt d4 (mid + 1) b r.lim true true).size = d.size ∧ Sort.Below lt a mid (pdq lt d4 (mid + 1) b r.lim true true) ∧ pdq lt d a b lim wb wp = pdq lt (pdq lt d4 (mid + 1) b r.lim true true) a mid r.lim (decide (b - mid ≥ (b - a) / 8)) ap)
theorem rdF_of {lt : (W64 G) → (W64 G) → Bool} (hO : SWO lt) {d : Array (W64 G)} {a b lim : Nat} {wb wp : Bool} (h12 : ¬ b - a ≤ 12) (hl : ¬ lim = 0) (hb : b ≤ d.size) (hB : Sort.Below lt a b d) : RdF lt d a b lim wb wp (rd lt d a b lim wb wp) := by
  obtain ⟨s1, _, ⟨c1, c2⟩, s2, _, ⟨p1, p2⟩, s3, B3⟩ := rd_facts (limit := lim) (wb := wb) (wp := wp) hO partialInsertionSort_holds reverseRange_holds (show a < b by omega) hb hB
  refine ⟨s1, c1, c2, s2, p1, p2, s3, rd_lim_le, ?_, ?_, rd_c, rd_dec, rd_not, rd_pi_yes, rd_pi_no, pdq_done h12 hl, ?_, ?_⟩
  · rintro rfl; exact rd_false
  · rintro rfl; exact rd_true
  · intro h1 h2
    have h2' := h2
    simp only [Bool.and_eq_true, decide_eq_true_eq, Bool.not_eq_true'] at h2'
    obtain ⟨mid, d4, hx⟩ : ∃ mid d4, partitionEqual lt (rd lt d a b lim wb wp).pi.1 a b (rd lt d a b lim wb wp).pivot = (mid, d4) := ⟨(partitionEqual lt (rd lt d a b lim wb wp).pi.1 a b (rd lt d a b lim wb wp).pivot).1, (partitionEqual lt (rd lt d a b lim wb wp).pi.1 a b (rd lt d a b lim wb wp).pivot).2, rfl⟩
    obtain ⟨r1, r2, r3, r4, _⟩ := round_eq hO (partitionEqual_holds lt) h2'.1 p1 p2 (by rw [s3]; exact hb) B3 h2'.2 hx
    refine ⟨mid, d4, hx, r1, r2, r3.trans s3, r4, ?_⟩
    rw [pdq_eq h12 hl h1 h2 (by rw [hx]; exact ⟨r1, r2⟩), hx]
  · intro h1 h2
    obtain ⟨mid, ap, d4, hx⟩ : ∃ mid ap d4, partition lt (rd lt d a b lim wb wp).pi.1 a b (rd lt d a b lim wb wp).pivot = (mid, ap, d4) := ⟨(partition lt (rd lt d a b lim wb wp).pi.1 a b (rd lt d a b lim wb wp).pivot).1, (partition lt (rd lt d a b lim wb wp).pi.1 a b (rd lt d a b lim wb wp).pivot).2.1, (partition lt (rd lt d a b lim wb wp).pi.1 a b (rd lt d a b lim wb wp).pivot).2.2, rfl⟩
    obtain ⟨r1, r2, r3, r4, r5, r6, r7⟩ := round_part hO (partition_holds lt) p1 p2 (by rw [s3]; exact hb) B3 hx
    refine ⟨mid, ap, d4, hx, r1, r2, r3.trans s3, r4, r5, fun h4 => ?_, fun h4 => ?_⟩
    · obtain ⟨pL, sL⟩ := pdq_sorts lt hO d4 a mid (rd lt d a b lim wb wp).lim true true (by omega) (by omega) r4
      refine ⟨pL.1.trans (r3.trans s3), (r6 _ pL sL).1, ?_⟩
      rw [pdq_left h12 hl h1 h2 (by rw [hx]; exact ⟨r1, r2⟩) (by rw [hx]; exact h4), hx]
    · obtain ⟨pL, sL⟩ := pdq_sorts lt hO d4 (mid + 1) b (rd lt d a b lim wb wp).lim true true (by omega) (by omega) r5
      refine ⟨pL.1.trans (r3.trans s3), (r7 _ pL sL).1, ?_⟩
      rw [pdq_right h12 hl h1 h2 (by rw [hx]; exact ⟨r1, r2⟩) (by rw [hx]; exact h4), hx]
theorem hint_two {h : Hint} (e : hintCode h = 2) : h = .decreasing := by cases h <;> simp [hintCode] at e ⊢

set_option maxHeartbeats 25600000 in
set_option maxRecDepth 100000 in
theorem pdq_any {cf : (W64 G) → (W64 G) → Int} {l blk cap n : Nat} {d0 : Array (W64 G)} {w0 : World} (H : Srt cf l blk cap d0 w0) (hO : SWO (ltOf cf)) (hn : n = d0.size) : ∀ (N a b lim : Nat) (d : Array (W64 G)) (w : World), b - a < N → d.size = d0.size → SW encW w0 blk 0 d w → a ≤ b → b ≤ n → lim < 1000 → Sort.Below (ltOf cf) a b d →
    Calls Tryz.prog 149 #[.slice (some ⟨blk, 0, none⟩) n cap, .int .i64 a, .int .i64 b, .int .i64 lim, .func (.func 110) #[.pointer (some ⟨l, 0, none⟩)] #[]] w fun e w' => e = .returned (.tuple #[]) ∧ Hid (SW encW w0 blk 0 (pdq (ltOf cf) d a b lim true true) w') := by
  have hbig := H.big
  have hcap := H.cap
  have HN := Lib.hid hn
  have HH := Lib.hid H
  have hn1 : n < 1000000 := by omega
  have hnc : n ≤ cap := by omega
  have HO := Lib.hid hO
  clear hbig hcap H hn hO
  intro N
  induction N with
  | zero => intro _ _ _ _ _ h; exact absurd h (Nat.not_lt_zero _)
  | succ N ih =>
    intro a0 b0 lim0 d w hN hs S hab0 hb0 hlim0 hB0
    have IH := Lib.hid ih
    have HS := Lib.hid S
    have HZ := Lib.hid hs
    have HB := Lib.hid hB0
    obtain ⟨R, hR⟩ : ∃ R, pdq (ltOf cf) d a0 b0 lim0 true true = R := ⟨_, rfl⟩
    rw [hR]
    have HR0 := Lib.hid hR
    clear ih S hs hB0 hR
    go_enter Tryz.func149, Tryz.ntmps149
    go_wp2
    go_loopg [1, 2, 3, 10, 11] (b0 - a0) (fun g s1 s2 s3 s10 s11 wr => ∃ (a b lim : Nat) (wb wp : Bool) (dk : Array (W64 G)), s1 = .int .i64 a ∧ s2 = .int .i64 b ∧ s3 = .int .i64 lim ∧ s10 = .bool wb ∧ s11 = .bool wp ∧ a ≤ b ∧ b ≤ n ∧ b - a ≤ g ∧ g ≤ b0 - a0 ∧ lim ≤ lim0 ∧ Hid (dk.size = d0.size) ∧ Hid (Sort.Below (ltOf cf) a b dk) ∧ Hid (SW encW w0 blk 0 dk wr) ∧ Hid (pdq (ltOf cf) dk a b lim wb wp = R))
    case atStart => exact ⟨a0, b0, lim0, true, true, d, rfl, rfl, rfl, rfl, rfl, hab0, hb0, Nat.le_refl _, Nat.le_refl _, Nat.le_refl _, HZ, HB, HS, HR0⟩
    case round =>
      clear HZ HB HS HR0
      obtain ⟨a, b, lim, wb, wp, dk, rfl, rfl, rfl, rfl, rfl, hab, hbn, hbg, hgN, hlim, HZ, HB, HS, HE⟩ := hrel
      obtain ⟨L, hL⟩ : ∃ x, b - a = x := ⟨_, rfl⟩
      have HL := Lib.hid hL
      have hLz : (b : Int) - (a : Int) = (L : Int) := by omega
      have hLn : L ≤ n := by omega
      by_cases h12 : b - a ≤ 12
      · have h12z : (L : Int) ≤ 12 := by omega
        have HC := Lib.hid (ins_any HH.out HZ.out HS.out HN.out hab hbn)
        clear hL
        go_wp2_with (go_at_call 170; go_fit HC.out; rintro e w2 HY; obtain rfl := HY.1; have HZ1 := HY.2; clear HY)
        (first | go_end0 | refine bodyPost_ret (results_none rfl _ _ _) rfl ?_)
        refine ⟨rfl, Lib.hid ?_⟩
        rw [← HE.out, pdq_small h12]
        exact HZ1.out.1
      · have h12z : ¬ (L : Int) ≤ 12 := by omega
        by_cases hl0 : lim = 0
        · subst hl0
          have HC := Lib.hid (heap_any HH.out HZ.out HS.out HN.out (show a < b by omega) hbn)
          clear hL
          go_wp2_with (go_at_call 171; go_fit HC.out; rintro e w2 HY; obtain rfl := HY.1; have HZ1 := HY.2; clear HY)
          (first | go_end0 | refine bodyPost_ret (results_none rfl _ _ _) rfl ?_)
          refine ⟨rfl, Lib.hid ?_⟩
          rw [← HE.out, pdq_heap h12 rfl]
          exact HZ1.out.1
        · have hl0z : ¬ (lim : Int) = 0 := by omega
          obtain ⟨r, F⟩ : ∃ r, RdF (ltOf cf) dk a b lim wb wp r := ⟨_, rdF_of HO.out h12 hl0 (by rw [HZ.out, ← HN.out]; exact hbn) HB.out⟩
          have HF := Lib.hid F
          clear F hL
          go_upto_if 39 with fail
          go_cut [3] from 21 to 147 (fun s3 wx => s3 = .int .i64 r.lim ∧ Hid (SW encW w0 blk 0 r.d1 wx))
          case first =>
            cases wb
            · have HC := Lib.hid (brk_any HH.out HZ.out HS.out HN.out (show a + 12 < b by omega) hbn (.func (.func 110) #[.pointer (some ⟨l, 0, none⟩)] #[]))
              have hlz : (lim : Int) - 1 = (r.lim : Int) := by have := (HF.out.brk rfl).2; omega
              go_wp2_with (go_at_call 172; go_fit HC.out; rintro e w2 HY; obtain rfl := HY.1; have HZ1 := HY.2; clear HY)
              go_meet
              case rel => exact ⟨rfl, Lib.hid (by rw [(HF.out.brk rfl).1]; exact HZ1.out.1)⟩
            · have hlz : r.lim = lim := (HF.out.tru rfl).2
              go_wp2_with fail
              go_meet
              case rel => exact ⟨by rw [hlz], Lib.hid (by rw [(HF.out.tru rfl).1]; exact HS.out)⟩
          case rest =>
            obtain ⟨rfl, HS1⟩ := hcut
            have hrl := HF.out.le
            have HZ1 : Hid (r.d1.size = d0.size) := Lib.hid (HF.out.s1.trans HZ.out)
            have HC := Lib.hid (pivot_any HH.out HZ1.out HS1.out HN.out (show a + 12 < b by omega) hbn)
            rw [← HF.out.piv] at HC
            go_upto_if 56 with (go_at_call 173; go_fit HC.out; rintro e w2 HY; obtain rfl := HY.1; have HS2 := HY.2; clear HY)
            clear HS1 HC
            have hc1 := HF.out.c1
            have hc2 := HF.out.c2
            go_cut [13, 14] from 21 to 147 (fun s13 s14 wx => s13 = .int .i64 r.pivot ∧ s14 = .int .i64 (hintCode r.hint) ∧ Hid (SW encW w0 blk 0 r.d2 wx))
            case first =>
              by_cases hh : r.c.2 = .decreasing
              · have hcode : hintCode r.c.2 = 2 := by rw [hh]; rfl
                obtain ⟨e2, epv, eht⟩ := HF.out.dec hh
                have HD := Lib.hid e2
                have HPV : Hid (Value.int .i64 ((b : Int) - 1 - ((r.c.1 : Int) - (a : Int))) = Value.int .i64 (r.pivot : Int)) := Lib.hid (by congr 1; omega)
                have HHT := Lib.hid eht
                have HR := Lib.hid (rev_any HH.out HZ1.out HS2.out HN.out (show a < b by omega) hbn (.func (.func 110) #[.pointer (some ⟨l, 0, none⟩)] #[]))
                clear e2 epv eht hh
                go_wp2_with (go_at_call 174; go_fit HR.out; rintro e w3 HY; obtain rfl := HY.1; have HZ3 := HY.2; clear HY)
                go_meet
                case rel => exact ⟨HPV.out, by rw [HHT.out]; rfl, Lib.hid (by rw [HD.out]; exact HZ3.out.1)⟩
              · have hcode : ¬ (hintCode r.c.2 = 2) := fun e => hh (hint_two e)
                obtain ⟨e2, epv, eht⟩ := HF.out.non hh
                have HD := Lib.hid e2
                have HPV := Lib.hid epv
                have HHT := Lib.hid eht
                clear e2 epv eht hh
                go_wp2_with fail
                go_meet
                case rel => exact ⟨by rw [HPV.out], by rw [HHT.out], Lib.hid (by rw [HD.out]; exact HS2.out)⟩
            case rest =>
              obtain ⟨rfl, rfl, HS3⟩ := hcut
              have hp1 := HF.out.p1
              have hp2 := HF.out.p2
              clear HS2 hc1 hc2
              have HZ2 : Hid (r.d2.size = d0.size) := Lib.hid (HF.out.s2.trans HZ.out)
              go_upto_region 15 with fail
              go_cut [14, 75] from 21 to 147 (fun s14 s75 wx => s14 = .int .i64 (hintCode r.hint) ∧ s75 = .bool (wb && wp && decide (r.hint = .increasing)) ∧ wx = wc)
              case first =>
                cases wb <;> cases wp <;> cases hh3 : r.hint <;>
                  (have hcode3 := congrArg hintCode hh3
                   simp only [hintCode] at hcode3
                   go_wp2_with fail
                   go_meet
                   case rel => exact ⟨by first | (simp [hh3]; done) | (simp [hh3, hintCode]; done) | (simp [hintCode]; done), by first | (simp [hh3]; done) | (simp [hh3, hintCode]; done) | (simp [hintCode]; done), rfl⟩)
              case rest =>
                obtain ⟨rfl, rfl, rfl⟩ := hcut
                go_upto_if 75 with fail
                go_cut [0] from 21 to 147 (fun s0 wx => s0 = .slice (some ⟨blk, 0, none⟩) n cap ∧ Hid (r.pi.2 = false) ∧ Hid (SW encW w0 blk 0 r.pi.1 wx))
                case first =>
                  cases h75 : (wb && wp && decide (r.hint = .increasing)) with
                  | false =>
                    have HE2 := Lib.hid (HF.out.no h75)
                    clear h75
                    go_wp2_with fail
                    go_meet
                    case rel => exact ⟨rfl, Lib.hid (by rw [HE2.out]), Lib.hid (by rw [HE2.out]; exact HS3.out)⟩
                  | true =>
                    have HC := Lib.hid (pins_any HH.out HZ2.out HS3.out HN.out (show a < b by omega) hbn)
                    rw [← HF.out.yes h75] at HC
                    clear h75
                    cases hp : r.pi.2 with
                    | false =>
                      rw [hp] at HC
                      have HPP := Lib.hid hp
                      clear hp
                      go_wp2_with (go_at_call 175; go_fit HC.out; rintro e w3 HY; obtain rfl := HY.1; have HZ3 := HY.2; clear HY)
                      go_meet
                      case rel => exact ⟨rfl, HPP, Lib.hid HZ3.out.1⟩
                    | true =>
                      rw [hp] at HC
                      have HFN := Lib.hid (HF.out.fin hp)
                      clear hp
                      go_wp2_with (go_at_call 175; go_fit HC.out; rintro e w3 HY; obtain rfl := HY.1; have HZ3 := HY.2; clear HY)
                      (first | go_end0 | refine bodyPost_ret (results_none rfl _ _ _) rfl ?_)
                      refine ⟨rfl, Lib.hid ?_⟩
                      rw [← HE.out, HFN.out]
                      exact HZ3.out.1
                case rest =>
                  obtain ⟨rfl, HPF, HS5⟩ := hcut
                  have HZ5 : Hid (r.pi.1.size = d0.size) := Lib.hid (HF.out.s3.trans HZ.out)
                  have hpn : (r.pivot : Int) < (n : Int) := by omega
                  go_upto_region 17 with fail
                  go_cut [97] from 21 to 147 (fun s97 wx => s97 = .bool (decide (a > 0) && !(ltOf cf) r.pi.1[a - 1]! r.pi.1[r.pivot]!) ∧ Hid (SW encW w0 blk 0 r.pi.1 wx))
                  case first =>
                    by_cases ha : 0 < a
                    · have haz : (0 : Int) < (a : Int) := by omega
                      obtain ⟨aq, haq⟩ : ∃ x, a - 1 = x := ⟨_, rfl⟩
                      have haqz : (a : Int) - 1 = (aq : Int) := by omega
                      have haqn : (aq : Int) < (n : Int) := by omega
                      obtain ⟨x1, HX1, q1, c1, f1⟩ := HH.out.look HZ5.out HS5.out (show aq < d0.size by have := HN.out; omega)
                      obtain ⟨x2, HX2, q2, c2, f2⟩ := HH.out.look HZ5.out HS5.out (show r.pivot < d0.size by have := HN.out; omega)
                      have HC := Lib.hid (HH.out.at_ HZ5.out HS5.out x1 x2)
                      have HG : Hid ((decide (a > 0) && !(ltOf cf) r.pi.1[a - 1]! r.pi.1[r.pivot]!) = !(ltOf cf) x1 x2) := Lib.hid (by rw [haq, ← HX1.out, ← HX2.out]; simp [ha])
                      clear haq HX1 HX2
                      cases hlv : (ltOf cf) x1 x2 with
                      | true =>
                        have HLV := Lib.hid hlv
                        have hcv : decide (cf x1 x2 < 0) = true := hlv
                        have hcv' : cf x1 x2 < 0 := of_decide_eq_true hlv
                        clear hlv
                        generalize cf x1 x2 = cv at *
                        go_quiet ((go_at_call 110; exact Calls.quiet_of (HC.out _)))
                        go_wp2_with fail
                        go_meet
                        case rel => exact ⟨by rw [HG.out, HLV.out]; first | rfl | simp, Lib.hid (HS5.out.drewN _)⟩
                      | false =>
                        have HLV := Lib.hid hlv
                        have hcv : decide (cf x1 x2 < 0) = false := hlv
                        clear hlv
                        generalize cf x1 x2 = cv at *
                        go_quiet ((go_at_call 110; exact Calls.quiet_of (HC.out _)))
                        go_wp2_with fail
                        go_meet
                        case rel => exact ⟨by rw [HG.out, HLV.out]; first | rfl | simp, Lib.hid (HS5.out.drewN _)⟩
                    · have haz : ¬ (0 : Int) < (a : Int) := by omega
                      have HG : Hid ((decide (a > 0) && !(ltOf cf) r.pi.1[a - 1]! r.pi.1[r.pivot]!) = false) := Lib.hid (by simp [ha])
                      go_quiet (fail)
                      go_wp2_with fail
                      go_meet
                      case rel => exact ⟨by rw [HG.out], Lib.hid (HS5.out.drewN _)⟩
                  case rest =>
                    obtain ⟨rfl, HS6⟩ := hcut
                    clear HS5 HS3 HZ2 HZ1 HS
                    obtain ⟨th, hth⟩ : ∃ x, L / 8 = x := ⟨_, rfl⟩
                    have hthz : Int.tdiv (L : Int) 8 = (th : Int) := by rw [← hth]; exact (Int.ofNat_tdiv L 8).symm
                    have HTH : Hid ((b - a) / 8 = th) := Lib.hid (by rw [HL.out]; exact hth)
                    have hthn : th ≤ n := by omega
                    clear hth
                    have hrl3 : r.lim < 1000 := by omega
                    cases h97 : (decide (a > 0) && !(ltOf cf) r.pi.1[a - 1]! r.pi.1[r.pivot]!) with
                    | true =>
                      obtain ⟨mid, d4, hx, r1, r2, r3, r4, hq⟩ := HF.out.eq HPF.out h97
                      have HC := Lib.hid (partEq_any HH.out HZ5.out HS6.out HN.out hp1 hp2 hbn)
                      rw [hx] at HC
                      have HQ := Lib.hid (hq.symm.trans HE.out)
                      have HZ4 : Hid (d4.size = d0.size) := Lib.hid (r3.trans HZ.out)
                      have HB4 := Lib.hid r4
                      clear hx hq r3 r4 h97 HE HF
                      go_wp2_with (go_at_call 176; go_fit HC.out; rintro e w3 HY; obtain rfl := HY.1; have HZ3 := HY.2; clear HY)
                      go_roundg (b - mid)
                      case measure => omega
                      case rel => exact ⟨mid, b, r.lim, wb, wp, d4, rfl, rfl, rfl, rfl, rfl, r2, hbn, Nat.le_refl _, by omega, by omega, HZ4, HB4, Lib.hid HZ3.out.1, HQ⟩
                    | false =>
                      obtain ⟨mid, ap, d4, hx, r1, r2, r3, r4, r5, hlft, hrgt⟩ := HF.out.part HPF.out h97
                      have HC := Lib.hid (part_any HH.out HZ5.out HS6.out HN.out hp1 hp2 hbn)
                      rw [hx] at HC
                      have HZ4 : Hid (d4.size = d0.size) := Lib.hid (r3.trans HZ.out)
                      have HLF := Lib.hid hlft
                      have HRG := Lib.hid hrgt
                      have HB4 := Lib.hid r4
                      have HB5 := Lib.hid r5
                      obtain ⟨lf, hlf⟩ : ∃ x, mid - a = x := ⟨_, rfl⟩
                      obtain ⟨rt, hrt⟩ : ∃ x, b - mid = x := ⟨_, rfl⟩
                      have hlfz : (mid : Int) - (a : Int) = (lf : Int) := by omega
                      have hrtz : (b : Int) - (mid : Int) = (rt : Int) := by omega
                      have hlfn : lf ≤ n := by omega
                      have hrtn : rt ≤ n := by omega
                      have HLL := Lib.hid hlf
                      have HRR := Lib.hid hrt
                      have hmn : mid < n := by omega
                      obtain ⟨m1, hm1⟩ : ∃ x, mid + 1 = x := ⟨_, rfl⟩
                      have hm1z : (mid : Int) + 1 = (m1 : Int) := by omega
                      have hm1b : m1 ≤ b := by omega
                      rw [hm1] at HLF HRG HB5
                      have HM1 := Lib.hid hm1
                      have hNb : Hid (b - a < N + 1) := Lib.hid (by omega)
                      clear hx hlft hrgt r3 r4 r5 h97 HF hlf hrt hm1
                      by_cases h4 : lf < rt
                      · have h4z : (lf : Int) < (rt : Int) := by omega
                        have HP := HLF.out (by rw [HLL.out, HRR.out]; exact h4)
                        rw [HLL.out, HTH.out] at HP
                        have HIC := Lib.hid (fun w' hw => IH.out a mid r.lim d4 w' (by have := hNb.out; omega) HZ4.out hw r1 (by omega) hrl3 HB4.out)
                        have HQ := Lib.hid (HP.2.2.symm.trans HE.out)
                        have HZ7 : Hid _ := Lib.hid (HP.1.trans HZ.out)
                        have HB7 := Lib.hid HP.2.1
                        clear HP HE HLF HRG
                        go_wp2_with (first
                          | (go_at_call 177; go_fit HC.out; rintro e w3 HY; obtain rfl := HY.1; have HZ3 := HY.2; clear HY)
                          | (go_at_call 149; go_fit (HIC.out _ HZ3.out.1); rintro e w4 HY; obtain rfl := HY.1; have HZ8 := HY.2; clear HY))
                        go_roundg (b - m1)
                        case measure => have := HM1.out; omega
                        case rel => exact ⟨m1, b, r.lim, decide (lf ≥ th), ap, _, rfl, rfl, rfl, by simp, rfl, hm1b, hbn, Nat.le_refl _, by have := HM1.out; omega, by omega, HZ7, HB7, Lib.hid HZ8.out, HQ⟩
                      · have h4z : ¬ (lf : Int) < (rt : Int) := by omega
                        have HP := HRG.out (by rw [HLL.out, HRR.out]; exact h4)
                        rw [HRR.out, HTH.out] at HP
                        have HIC := Lib.hid (fun w' hw => IH.out m1 b r.lim d4 w' (by have := hNb.out; have := HM1.out; omega) HZ4.out hw hm1b hbn hrl3 HB5.out)
                        have HQ := Lib.hid (HP.2.2.symm.trans HE.out)
                        have HZ7 : Hid _ := Lib.hid (HP.1.trans HZ.out)
                        have HB7 := Lib.hid HP.2.1
                        clear HP HE HLF HRG
                        go_wp2_with (first
                          | (go_at_call 177; go_fit HC.out; rintro e w3 HY; obtain rfl := HY.1; have HZ3 := HY.2; clear HY)
                          | (go_at_call 149; go_fit (HIC.out _ HZ3.out.1); rintro e w4 HY; obtain rfl := HY.1; have HZ8 := HY.2; clear HY))
                        go_roundg (mid - a)
                        case measure => omega
                        case rel => exact ⟨a, mid, r.lim, decide (rt ≥ th), ap, _, rfl, rfl, rfl, by simp, rfl, r1, by omega, Nat.le_refl _, by omega, by omega, HZ7, HB7, Lib.hid HZ8.out, HQ⟩
end Go.Proofs.YtdjieapobodakaaGreatDoor.Lan
end
