/- What is proved here: slices.partialInsertionSortCmpFunc, with a comparison that is a method of a ledger. Written by mksrtb.py. -/
import Derived.Test.YtcdjahmnobjpkaaSrtQ
namespace Go.Proofs.Ytcdjahmnobjpkaa
open Go Go.RowKit Go.Maps Go.WideMaps Go.Shelf Go.Lib Go.Sort

variable {G : ByteArray → Prop} [Inhabited (W64 G)]

section
variable (lt : (W64 G) → (W64 G) → Bool)
theorem scanS_go (d : Array (W64 G)) (b i : Nat) (h : i < b) (hl : lt d[i]! d[i - 1]! = false) : scanSorted lt d b i = scanSorted lt d b (i + 1) := by
  rw [scanSorted, if_pos (by simp [h, hl])]
theorem scanS_stop (d : Array (W64 G)) (b i : Nat) (h : ¬ i < b ∨ lt d[i]! d[i - 1]! = true) : scanSorted lt d b i = i := by
  rw [scanSorted, if_neg (by rcases h with h | h <;> simp [h])]
theorem shiftUp_go (b j : Nat) (d : Array (W64 G)) (h : j < b) (hl : lt d[j]! d[j - 1]! = true) : shiftUp lt b j d = shiftUp lt b (j + 1) (swp d j (j - 1)) := by
  rw [shiftUp, if_pos h, hl]; rfl
theorem shiftUp_stop (b j : Nat) (d : Array (W64 G)) (h : ¬ j < b ∨ lt d[j]! d[j - 1]! = false) : shiftUp lt b j d = d := by
  rw [shiftUp]
  rcases h with h | h
  · rw [if_neg h]
  · rw [h]; simp
theorem shiftDown_go (j : Nat) (d : Array (W64 G)) (hl : lt d[j + 1]! d[j]! = true) : shiftDown lt (j + 1) d = shiftDown lt j (swp d (j + 1) j) := by
  rw [shiftDown, hl]; rfl
theorem shiftDown_stop (j : Nat) (d : Array (W64 G)) (hl : lt d[j + 1]! d[j]! = false) : shiftDown lt (j + 1) d = d := by
  rw [shiftDown, hl]; rfl
theorem pins_done (a b s i i2 : Nat) (d : Array (W64 G)) (h : i2 = scanSorted lt d b i) (hb : i2 = b) : partialIns lt a b (s + 1) i d = (d, true) := by
  subst h
  rw [partialIns]
  simp only []
  rw [if_pos hb]
theorem pins_short (a b s i i2 : Nat) (d : Array (W64 G)) (h : i2 = scanSorted lt d b i) (hb : ¬ i2 = b) (h50 : b - a < 50) : partialIns lt a b (s + 1) i d = (d, false) := by
  subst h
  rw [partialIns]
  simp only []
  rw [if_neg hb, if_pos h50]
theorem pins_more (a b s i i2 : Nat) (d : Array (W64 G)) (h : i2 = scanSorted lt d b i) (hb : ¬ i2 = b) (h50 : ¬ b - a < 50) : partialIns lt a b (s + 1) i d = partialIns lt a b s i2 (if b - i2 ≥ 2 then shiftUp lt b (i2 + 1) (if i2 - a ≥ 2 then shiftDown lt (i2 - 1) (swp d i2 (i2 - 1)) else swp d i2 (i2 - 1)) else (if i2 - a ≥ 2 then shiftDown lt (i2 - 1) (swp d i2 (i2 - 1)) else swp d i2 (i2 - 1))) := by
  subst h
  rw [partialIns]
  simp only []
  rw [if_neg hb, if_neg h50]
end

set_option maxHeartbeats 25600000 in
set_option maxRecDepth 100000 in
theorem pins_any {cf : (W64 G) → (W64 G) → Int} {l blk cap : Nat} {d0 : Array (W64 G)} {w0 : World} (H : Srt cf l blk cap d0 w0) {d : Array (W64 G)} {w : World} (hs : d.size = d0.size) (S : SW encW w0 blk 0 d w) {a b n : Nat} (hn : n = d0.size) (hab : a < b) (hb : b ≤ n) :
    Calls Try.prog 48 #[.slice (some ⟨blk, 0, none⟩) n cap, .int .i64 a, .int .i64 b, .func (.func 30) #[.pointer (some ⟨l, 0, none⟩)] #[]] w fun e w' => e = .returned (.bool (partialInsertionSort (ltOf cf) d a b).2) ∧ Hid (SW encW w0 blk 0 (partialInsertionSort (ltOf cf) d a b).1 w' ∧ (partialInsertionSort (ltOf cf) d a b).1.size = d0.size) := by
  have HS := Lib.hid S
  have HZ := Lib.hid hs
  have hbig := H.big
  have hcap := H.cap
  have HN := Lib.hid hn
  have HH := Lib.hid H
  have hn1 : n < 1000000 := by omega
  have hnc : n ≤ cap := by omega
  obtain ⟨R, hR⟩ : ∃ R, partialInsertionSort (ltOf cf) d a b = R := ⟨_, rfl⟩
  rw [hR]
  have HR : Hid (partialIns (ltOf cf) a b (5 - 0) (a + 1) d = R) := Lib.hid hR
  clear S hs hn hbig hcap H hR
  have mixed := mixed_prog
  go_enter Try.func48, Try.ntmps48
  go_wp2
  go_loopw [9, 10] (fun vi vk wr => ∃ (i k : Nat) (dk : Array (W64 G)), vi = .int .i64 i ∧ vk = .int .i64 k ∧ a < i ∧ i ≤ b ∧ k ≤ 5 ∧ Hid (dk.size = d0.size) ∧ Hid (SW encW w0 blk 0 dk wr) ∧ Hid (partialIns (ltOf cf) a b (5 - k) i dk = R)) (fun _ vk _ => 5 - (intOf vk).toNat)
  case atStart => exact ⟨a + 1, 0, d, by go_num, rfl, by omega, by omega, by omega, HZ, HS, HR⟩
  case round =>
    clear HS HZ HR
    obtain ⟨i, k, dk, rfl, rfl, hai, hib, hk5, HZ, HS, HO⟩ := hrel
    by_cases hk : k < 5
    · have hkz : (k : Int) < 5 := by omega
      obtain ⟨s, hs⟩ : ∃ s, 5 - k = s + 1 := ⟨4 - k, by omega⟩
      rw [hs] at HO
      have HKS : Hid (5 - k = s + 1) := Lib.hid hs
      clear hs
      go_wp2
      go_loopw [9] (fun vi wr => ∃ (i2 : Nat), vi = .int .i64 i2 ∧ i ≤ i2 ∧ i2 ≤ b ∧ Hid (SW encW w0 blk 0 dk wr) ∧ Hid (scanSorted (ltOf cf) dk b i2 = scanSorted (ltOf cf) dk b i)) (fun vi _ => b - (intOf vi).toNat)
      case atStart => exact ⟨i, rfl, Nat.le_refl _, hib, HS, Lib.hid rfl⟩
      case round =>
        clear HS
        obtain ⟨i2, rfl, hi2, hi2b, HS, HU⟩ := hrel
        by_cases hlt : i2 < b
        · have hltz : (i2 : Int) < (b : Int) := by omega
          obtain ⟨ip, hip⟩ : ∃ x, i2 = x + 1 := ⟨i2 - 1, by omega⟩
          have hipz : (i2 : Int) - 1 = (ip : Int) := by omega
          have hw_ip : IntKind.i64.wrap (ip : Int) = (ip : Int) := by rw [IntKind.wrap_i64]; omega
          have hi2i : (i2 : Int) < (n : Int) := by omega
          have hipi : (ip : Int) < (n : Int) := by omega
          have hi2d : i2 < d0.size := by have := HN.out; omega
          have hipd : ip < d0.size := by have := HN.out; omega
          have hipi2 : ip < i2 := by omega
          obtain ⟨x1, HX1, q1, c1, f1⟩ := HH.out.look HZ.out HS.out hi2d
          obtain ⟨x0, HX0, q0, c0, f0⟩ := HH.out.look HZ.out HS.out hipd
          have HC := Lib.hid (HH.out.at_ HZ.out HS.out x1 x0)
          cases hlv : (ltOf cf) x1 x0 with
          | false =>
            have hcv : decide (cf x1 x0 < 0) = false := hlv
            have HU2 : Hid (scanSorted (ltOf cf) dk b (i2 + 1) = scanSorted (ltOf cf) dk b i) := Lib.hid (by rw [← HU.out, scanS_go _ _ _ _ hlt (by rw [show i2 - 1 = ip by omega, ← HX1.out, ← HX0.out, hlv])])
            generalize cf x1 x0 = cv at *
            clear hlv HU HX1 HX0 hip
            go_wp2_with fail
            go_quiet_grown ((go_at_call 30; exact Calls.grown_of (HC.out _ _)))
            have HS3 := Lib.hid (HS.out.grown nq osq)
            generalize grow (wr.drewN nq) osq = W3 at *
            clear HC HS q1 c1 f1 q0 c0 f0
            go_wp2
            go_roundw
            case rel => exact ⟨i2 + 1, by go_num, by omega, by omega, HS3, HU2⟩
            case measure => (simp [intOf] <;> omega)
          | true =>
            have hcv : decide (cf x1 x0 < 0) = true := hlv
            have hcv' : cf x1 x0 < 0 := of_decide_eq_true hlv
            have HI2 : Hid (i2 = scanSorted (ltOf cf) dk b i) := Lib.hid (by rw [← HU.out, scanS_stop _ _ _ _ (.inr (by rw [show i2 - 1 = ip by omega, ← HX1.out, ← HX0.out, hlv]))])
            have hneb : ¬ (i2 : Int) = (b : Int) := by omega
            have hneb2 : ((i2 : Int) == (b : Int)) = false := beq_eq_false_iff_ne.2 (by omega)
            have HIP : Hid (i2 - 1 = ip) := Lib.hid (by omega)
            generalize cf x1 x0 = cv at *
            clear hlv HU HX1 HX0 hip
            by_cases h50 : b - a < 50
            · have h50z : (b : Int) - (a : Int) < 50 := by omega
              have hRR : R = (dk, false) := by rw [← HO.out, pins_short _ _ _ _ _ _ _ HI2.out (by omega) h50]
              clear HO HI2
              subst hRR
              go_wp2_with fail
              go_quiet_grown ((go_at_call 30; exact Calls.grown_of (HC.out _ _)))
              have HS3 := Lib.hid (HS.out.grown nq osq)
              generalize grow (wr.drewN nq) osq = W3 at *
              clear HC HS q1 c1 f1 q0 c0 f0
              go_wp2
              exact bodyPost_ret (v := .bool false) (by simp [results, Try.results48, go_sem]) rfl ⟨rfl, Lib.hid ⟨HS3.out, HZ.out⟩⟩
            · have h50z : ¬ (b : Int) - (a : Int) < 50 := by omega
              have HO2 := Lib.hid (HO.out.symm.trans (pins_more _ _ _ _ _ _ _ HI2.out (by omega) h50)).symm
              rw [HIP.out] at HO2
              clear HO HI2 h50
              go_wp2_with fail
              go_quiet_grown ((go_at_call 30; exact Calls.grown_of (HC.out _ _)))
              have HS3 := Lib.hid (HS.out.grown nq osq)
              generalize grow (wr.drewN nq) osq = W3 at *
              clear HC HS q1 c1 f1 q0 c0 f0
              obtain ⟨y1, HY1, p1, b1, g1⟩ := HH.out.look HZ.out HS3.out hi2d
              obtain ⟨y2, HY2, p2, b2, g2⟩ := HH.out.look HZ.out HS3.out hipd
              have HSW : Hid (SW encW w0 blk 0 (swp dk i2 ip) ((W3.setCell ⟨blk, i2, none⟩ (.string y2.val)).setCell ⟨blk, ip, none⟩ (.string y1.val)).drew) := Lib.hid (HH.out.swap2 HZ.out HS3.out hi2d hipd HY1.out HY2.out 1)
              have HZ3 : Hid ((swp dk i2 ip).size = d0.size) := Lib.hid (by rw [swp_sz]; exact HZ.out)
              generalize swp dk i2 ip = ds at *
              clear HZ HY1 HY2 HS3
              go_wp2_with fail
              go_region
              generalize ((W3.setCell ⟨blk, i2, none⟩ (.string y2.val)).setCell ⟨blk, ip, none⟩ (.string y1.val)).drew = W4 at *
              clear p1 p2 b1 b2 g1 g2
              by_cases hbd : i2 - a ≥ 2
              · have hbdz : (2 : Int) ≤ (i2 : Int) - (a : Int) := by omega
                rw [if_pos hbd] at HO2
                go_wp2
                go_loopw [11] (fun vj wr => ∃ (j : Nat) (dk : Array (W64 G)), vj = .int .i64 j ∧ j ≤ ip ∧ Hid (dk.size = d0.size) ∧ Hid (SW encW w0 blk 0 dk wr) ∧ Hid (shiftDown (ltOf cf) j dk = shiftDown (ltOf cf) ip ds)) (fun vj _ => (intOf vj).toNat)
                case atStart => exact ⟨ip, ds, rfl, Nat.le_refl _, HZ3, HSW, Lib.hid rfl⟩
                case round =>
                  clear HSW HZ3
                  obtain ⟨j, dk, rfl, hjip, HZ, HS, HV⟩ := hrel
                  by_cases hj0 : 0 < j
                  · have hj0z : (1 : Int) ≤ (j : Int) := by omega
                    obtain ⟨jp, hjp⟩ : ∃ x, j = x + 1 := ⟨j - 1, by omega⟩
                    have hjpz : (j : Int) - 1 = (jp : Int) := by omega
                    have hw_jp : IntKind.i64.wrap (jp : Int) = (jp : Int) := by rw [IntKind.wrap_i64]; omega
                    have hji : (j : Int) < (n : Int) := by omega
                    have hjpi : (jp : Int) < (n : Int) := by omega
                    have hjd : j < d0.size := by have := HN.out; omega
                    have hjpd : jp < d0.size := by have := HN.out; omega
                    have hjj : jp < j := by omega
                    obtain ⟨x1, HX1, q1, c1, f1⟩ := HH.out.look HZ.out HS.out hjd
                    obtain ⟨x0, HX0, q0, c0, f0⟩ := HH.out.look HZ.out HS.out hjpd
                    have HC := Lib.hid (HH.out.at_ HZ.out HS.out x1 x0)
                    cases hlw : (ltOf cf) x1 x0 with
                    | true =>
                      have hcw : decide (cf x1 x0 < 0) = true := hlw
                      have hcw' : cf x1 x0 < 0 := of_decide_eq_true hlw
                      have HV2 : Hid (shiftDown (ltOf cf) jp (swp dk j jp) = shiftDown (ltOf cf) ip ds) := Lib.hid (by rw [← HV.out, hjp, shiftDown_go _ _ _ (by rw [← hjp, ← HX1.out, ← HX0.out, hlw])])
                      have hjip2 : jp ≤ ip := by omega
                      have HJP : Hid (j = jp + 1) := Lib.hid hjp
                      generalize cf x1 x0 = cw at *
                      generalize hdi : shiftDown (ltOf cf) ip ds = dI at *
                      clear hlw HX1 HX0 HV hjp hdi
                      go_wp2_with fail
                      go_quiet_grown ((go_at_call 30; exact Calls.grown_of (HC.out _ _)))
                      have HS3 := Lib.hid (HS.out.grown nq osq)
                      generalize grow (wr.drewN nq) osq = W3 at *
                      clear HC HS q1 c1 f1 q0 c0 f0
                      obtain ⟨y1, HY1, p1, b1, g1⟩ := HH.out.look HZ.out HS3.out hjd
                      obtain ⟨y2, HY2, p2, b2, g2⟩ := HH.out.look HZ.out HS3.out hjpd
                      have HSW : Hid (SW encW w0 blk 0 (swp dk j jp) ((W3.setCell ⟨blk, j, none⟩ (.string y2.val)).setCell ⟨blk, jp, none⟩ (.string y1.val)).drew) := Lib.hid (HH.out.swap2 HZ.out HS3.out hjd hjpd HY1.out HY2.out 1)
                      have HZ3 : Hid ((swp dk j jp).size = d0.size) := Lib.hid (by rw [swp_sz]; exact HZ.out)
                      generalize swp dk j jp = dt at *
                      clear HZ HY1 HY2 HS3
                      go_wp2_with fail
                      go_region
                      generalize ((W3.setCell ⟨blk, j, none⟩ (.string y2.val)).setCell ⟨blk, jp, none⟩ (.string y1.val)).drew = W4 at *
                      clear p1 p2 b1 b2 g1 g2
                      go_wp2
                      go_roundw
                      case rel => exact ⟨jp, dt, by go_num, hjip2, HZ3, HSW, HV2⟩
                      case measure => (simp [intOf] <;> omega)
                    | false =>
                      have hcw : decide (cf x1 x0 < 0) = false := hlw
                      have HO3 : Hid (partialIns (ltOf cf) a b s i2 (if b - i2 ≥ 2 then shiftUp (ltOf cf) b (i2 + 1) dk else dk) = R) := Lib.hid (by rw [← HO2.out, ← HV.out, hjp, shiftDown_stop _ _ _ (by rw [← hjp, ← HX1.out, ← HX0.out, hlw])])
                      generalize cf x1 x0 = cw at *
                      clear hlw HX1 HX0 HV hjp HO2
                      go_wp2_with fail
                      go_quiet_grown ((go_at_call 30; exact Calls.grown_of (HC.out _ _)))
                      have HS3 := Lib.hid (HS.out.grown nq osq)
                      generalize grow (wr.drewN nq) osq = W3 at *
                      clear HC HS q1 c1 f1 q0 c0 f0
                      by_cases hbu : b - i2 ≥ 2
                      · have hbuz : (2 : Int) ≤ (b : Int) - (i2 : Int) := by omega
                        rw [if_pos hbu] at HO3
                        go_wp2
                        go_loopw [12] (fun vj wr => ∃ (j : Nat) (du : Array (W64 G)), vj = .int .i64 j ∧ i2 < j ∧ j ≤ b ∧ Hid (du.size = d0.size) ∧ Hid (SW encW w0 blk 0 du wr) ∧ Hid (shiftUp (ltOf cf) b j du = shiftUp (ltOf cf) b (i2 + 1) dk)) (fun vj _ => b - (intOf vj).toNat)
                        case atStart => exact ⟨i2 + 1, dk, by go_num, by omega, by omega, HZ, HS3, Lib.hid rfl⟩
                        case round =>
                          clear HS3 HZ
                          obtain ⟨j, du, rfl, hij, hjb, HZ, HS, HV⟩ := hrel
                          by_cases hjlt : j < b
                          · have hjlz : (j : Int) < (b : Int) := by omega
                            obtain ⟨jp, hjp⟩ : ∃ x, j = x + 1 := ⟨j - 1, by omega⟩
                            have hjpz : (j : Int) - 1 = (jp : Int) := by omega
                            have hw_jp : IntKind.i64.wrap (jp : Int) = (jp : Int) := by rw [IntKind.wrap_i64]; omega
                            have hji : (j : Int) < (n : Int) := by omega
                            have hjpi : (jp : Int) < (n : Int) := by omega
                            have hjd : j < d0.size := by have := HN.out; omega
                            have hjpd : jp < d0.size := by have := HN.out; omega
                            have hjj : jp < j := by omega
                            obtain ⟨x1, HX1, q1, c1, f1⟩ := HH.out.look HZ.out HS.out hjd
                            obtain ⟨x0, HX0, q0, c0, f0⟩ := HH.out.look HZ.out HS.out hjpd
                            have HC := Lib.hid (HH.out.at_ HZ.out HS.out x1 x0)
                            cases hlw : (ltOf cf) x1 x0 with
                            | true =>
                              have hcw : decide (cf x1 x0 < 0) = true := hlw
                              have hcw' : cf x1 x0 < 0 := of_decide_eq_true hlw
                              have HV2 : Hid (shiftUp (ltOf cf) b (j + 1) (swp du j jp) = shiftUp (ltOf cf) b (i2 + 1) dk) := Lib.hid (by rw [← HV.out, shiftUp_go _ _ _ _ hjlt (by rw [show j - 1 = jp by omega, ← HX1.out, ← HX0.out, hlw]), show j - 1 = jp by omega])
                              generalize cf x1 x0 = cw at *
                              clear hlw HX1 HX0 HV hjp
                              go_wp2_with fail
                              go_quiet_grown ((go_at_call 30; exact Calls.grown_of (HC.out _ _)))
                              have HS3 := Lib.hid (HS.out.grown nq osq)
                              generalize grow (wr.drewN nq) osq = W3 at *
                              clear HC HS q1 c1 f1 q0 c0 f0
                              obtain ⟨y1, HY1, p1, b1, g1⟩ := HH.out.look HZ.out HS3.out hjd
                              obtain ⟨y2, HY2, p2, b2, g2⟩ := HH.out.look HZ.out HS3.out hjpd
                              have HSW : Hid (SW encW w0 blk 0 (swp du j jp) ((W3.setCell ⟨blk, j, none⟩ (.string y2.val)).setCell ⟨blk, jp, none⟩ (.string y1.val)).drew) := Lib.hid (HH.out.swap2 HZ.out HS3.out hjd hjpd HY1.out HY2.out 1)
                              have HZ3 : Hid ((swp du j jp).size = d0.size) := Lib.hid (by rw [swp_sz]; exact HZ.out)
                              generalize swp du j jp = dv at *
                              clear HZ HY1 HY2 HS3
                              go_wp2_with fail
                              go_region
                              generalize ((W3.setCell ⟨blk, j, none⟩ (.string y2.val)).setCell ⟨blk, jp, none⟩ (.string y1.val)).drew = W4 at *
                              clear p1 p2 b1 b2 g1 g2
                              go_wp2
                              go_roundw
                              case rel => exact ⟨j + 1, dv, by go_num, by omega, by omega, HZ3, HSW, HV2⟩
                              case measure => (simp [intOf] <;> omega)
                            | false =>
                              have hcw : decide (cf x1 x0 < 0) = false := hlw
                              have HO4 : Hid (partialIns (ltOf cf) a b s i2 du = R) := Lib.hid (by rw [← HO3.out, ← HV.out, shiftUp_stop _ _ _ _ (.inr (by rw [show j - 1 = jp by omega, ← HX1.out, ← HX0.out, hlw]))])
                              generalize cf x1 x0 = cw at *
                              clear hlw HX1 HX0 HV hjp HO3
                              have HO5 : Hid (partialIns (ltOf cf) a b (5 - (k + 1)) i2 du = R) := Lib.hid (by rw [← HO4.out, show 5 - (k + 1) = s by have := HKS.out; omega])
                              go_wp2_with fail
                              go_quiet_grown ((go_at_call 30; exact Calls.grown_of (HC.out _ _)))
                              have HS3 := Lib.hid (HS.out.grown nq osq)
                              generalize grow (wr.drewN nq) osq = W3 at *
                              clear HC HS q1 c1 f1 q0 c0 f0
                              go_wp2
                              go_roundw
                              case rel => exact ⟨i2, k + 1, du, by go_num, by go_num, by omega, by omega, by omega, HZ, HS3, HO5⟩
                              case measure => (simp [intOf] <;> omega)
                          · have hjlz : ¬ (j : Int) < (b : Int) := by omega
                            have HO5 : Hid (partialIns (ltOf cf) a b (5 - (k + 1)) i2 du = R) := Lib.hid (by rw [show 5 - (k + 1) = s by have := HKS.out; omega, ← HO3.out, ← HV.out, shiftUp_stop _ _ _ _ (.inl hjlt)])
                            clear HV HO3
                            go_wp2
                            go_roundw
                            case rel => exact ⟨i2, k + 1, du, by go_num, by go_num, by omega, by omega, by omega, HZ, HS, HO5⟩
                            case measure => (simp [intOf] <;> omega)
                      · have hbuz : ¬ (2 : Int) ≤ (b : Int) - (i2 : Int) := by omega
                        rw [if_neg hbu] at HO3
                        have HO5 : Hid (partialIns (ltOf cf) a b (5 - (k + 1)) i2 dk = R) := Lib.hid (by rw [← HO3.out, show 5 - (k + 1) = s by have := HKS.out; omega])
                        clear HO3
                        go_wp2
                        go_roundw
                        case rel => exact ⟨i2, k + 1, dk, by go_num, by go_num, by omega, by omega, by omega, HZ, HS3, HO5⟩
                        case measure => (simp [intOf] <;> omega)
                  · have hj0z : ¬ (1 : Int) ≤ (j : Int) := by omega
                    have HO3 : Hid (partialIns (ltOf cf) a b s i2 (if b - i2 ≥ 2 then shiftUp (ltOf cf) b (i2 + 1) dk else dk) = R) := Lib.hid (by rw [← HO2.out, ← HV.out, show j = 0 by omega]; rfl)
                    clear HV HO2
                    by_cases hbu : b - i2 ≥ 2
                    · have hbuz : (2 : Int) ≤ (b : Int) - (i2 : Int) := by omega
                      rw [if_pos hbu] at HO3
                      go_wp2
                      go_loopw [12] (fun vj wr => ∃ (j : Nat) (du : Array (W64 G)), vj = .int .i64 j ∧ i2 < j ∧ j ≤ b ∧ Hid (du.size = d0.size) ∧ Hid (SW encW w0 blk 0 du wr) ∧ Hid (shiftUp (ltOf cf) b j du = shiftUp (ltOf cf) b (i2 + 1) dk)) (fun vj _ => b - (intOf vj).toNat)
                      case atStart => exact ⟨i2 + 1, dk, by go_num, by omega, by omega, HZ, HS, Lib.hid rfl⟩
                      case round =>
                        clear HS HZ
                        obtain ⟨j, du, rfl, hij, hjb, HZ, HS, HV⟩ := hrel
                        by_cases hjlt : j < b
                        · have hjlz : (j : Int) < (b : Int) := by omega
                          obtain ⟨jp, hjp⟩ : ∃ x, j = x + 1 := ⟨j - 1, by omega⟩
                          have hjpz : (j : Int) - 1 = (jp : Int) := by omega
                          have hw_jp : IntKind.i64.wrap (jp : Int) = (jp : Int) := by rw [IntKind.wrap_i64]; omega
                          have hji : (j : Int) < (n : Int) := by omega
                          have hjpi : (jp : Int) < (n : Int) := by omega
                          have hjd : j < d0.size := by have := HN.out; omega
                          have hjpd : jp < d0.size := by have := HN.out; omega
                          have hjj : jp < j := by omega
                          obtain ⟨x1, HX1, q1, c1, f1⟩ := HH.out.look HZ.out HS.out hjd
                          obtain ⟨x0, HX0, q0, c0, f0⟩ := HH.out.look HZ.out HS.out hjpd
                          have HC := Lib.hid (HH.out.at_ HZ.out HS.out x1 x0)
                          cases hlw : (ltOf cf) x1 x0 with
                          | true =>
                            have hcw : decide (cf x1 x0 < 0) = true := hlw
                            have hcw' : cf x1 x0 < 0 := of_decide_eq_true hlw
                            have HV2 : Hid (shiftUp (ltOf cf) b (j + 1) (swp du j jp) = shiftUp (ltOf cf) b (i2 + 1) dk) := Lib.hid (by rw [← HV.out, shiftUp_go _ _ _ _ hjlt (by rw [show j - 1 = jp by omega, ← HX1.out, ← HX0.out, hlw]), show j - 1 = jp by omega])
                            generalize cf x1 x0 = cw at *
                            clear hlw HX1 HX0 HV hjp
                            go_wp2_with fail
                            go_quiet_grown ((go_at_call 30; exact Calls.grown_of (HC.out _ _)))
                            have HS3 := Lib.hid (HS.out.grown nq osq)
                            generalize grow (wr.drewN nq) osq = W3 at *
                            clear HC HS q1 c1 f1 q0 c0 f0
                            obtain ⟨y1, HY1, p1, b1, g1⟩ := HH.out.look HZ.out HS3.out hjd
                            obtain ⟨y2, HY2, p2, b2, g2⟩ := HH.out.look HZ.out HS3.out hjpd
                            have HSW : Hid (SW encW w0 blk 0 (swp du j jp) ((W3.setCell ⟨blk, j, none⟩ (.string y2.val)).setCell ⟨blk, jp, none⟩ (.string y1.val)).drew) := Lib.hid (HH.out.swap2 HZ.out HS3.out hjd hjpd HY1.out HY2.out 1)
                            have HZ3 : Hid ((swp du j jp).size = d0.size) := Lib.hid (by rw [swp_sz]; exact HZ.out)
                            generalize swp du j jp = dv at *
                            clear HZ HY1 HY2 HS3
                            go_wp2_with fail
                            go_region
                            generalize ((W3.setCell ⟨blk, j, none⟩ (.string y2.val)).setCell ⟨blk, jp, none⟩ (.string y1.val)).drew = W4 at *
                            clear p1 p2 b1 b2 g1 g2
                            go_wp2
                            go_roundw
                            case rel => exact ⟨j + 1, dv, by go_num, by omega, by omega, HZ3, HSW, HV2⟩
                            case measure => (simp [intOf] <;> omega)
                          | false =>
                            have hcw : decide (cf x1 x0 < 0) = false := hlw
                            have HO4 : Hid (partialIns (ltOf cf) a b s i2 du = R) := Lib.hid (by rw [← HO3.out, ← HV.out, shiftUp_stop _ _ _ _ (.inr (by rw [show j - 1 = jp by omega, ← HX1.out, ← HX0.out, hlw]))])
                            generalize cf x1 x0 = cw at *
                            clear hlw HX1 HX0 HV hjp HO3
                            have HO5 : Hid (partialIns (ltOf cf) a b (5 - (k + 1)) i2 du = R) := Lib.hid (by rw [← HO4.out, show 5 - (k + 1) = s by have := HKS.out; omega])
                            go_wp2_with fail
                            go_quiet_grown ((go_at_call 30; exact Calls.grown_of (HC.out _ _)))
                            have HS3 := Lib.hid (HS.out.grown nq osq)
                            generalize grow (wr.drewN nq) osq = W3 at *
                            clear HC HS q1 c1 f1 q0 c0 f0
                            go_wp2
                            go_roundw
                            case rel => exact ⟨i2, k + 1, du, by go_num, by go_num, by omega, by omega, by omega, HZ, HS3, HO5⟩
                            case measure => (simp [intOf] <;> omega)
                        · have hjlz : ¬ (j : Int) < (b : Int) := by omega
                          have HO5 : Hid (partialIns (ltOf cf) a b (5 - (k + 1)) i2 du = R) := Lib.hid (by rw [show 5 - (k + 1) = s by have := HKS.out; omega, ← HO3.out, ← HV.out, shiftUp_stop _ _ _ _ (.inl hjlt)])
                          clear HV HO3
                          go_wp2
                          go_roundw
                          case rel => exact ⟨i2, k + 1, du, by go_num, by go_num, by omega, by omega, by omega, HZ, HS, HO5⟩
                          case measure => (simp [intOf] <;> omega)
                    · have hbuz : ¬ (2 : Int) ≤ (b : Int) - (i2 : Int) := by omega
                      rw [if_neg hbu] at HO3
                      have HO5 : Hid (partialIns (ltOf cf) a b (5 - (k + 1)) i2 dk = R) := Lib.hid (by rw [← HO3.out, show 5 - (k + 1) = s by have := HKS.out; omega])
                      clear HO3
                      go_wp2
                      go_roundw
                      case rel => exact ⟨i2, k + 1, dk, by go_num, by go_num, by omega, by omega, by omega, HZ, HS, HO5⟩
                      case measure => (simp [intOf] <;> omega)
              · have hbdz : ¬ (2 : Int) ≤ (i2 : Int) - (a : Int) := by omega
                rw [if_neg hbd] at HO2
                have HO3 := HO2
                clear HO2
                by_cases hbu : b - i2 ≥ 2
                · have hbuz : (2 : Int) ≤ (b : Int) - (i2 : Int) := by omega
                  rw [if_pos hbu] at HO3
                  go_wp2
                  go_loopw [12] (fun vj wr => ∃ (j : Nat) (du : Array (W64 G)), vj = .int .i64 j ∧ i2 < j ∧ j ≤ b ∧ Hid (du.size = d0.size) ∧ Hid (SW encW w0 blk 0 du wr) ∧ Hid (shiftUp (ltOf cf) b j du = shiftUp (ltOf cf) b (i2 + 1) ds)) (fun vj _ => b - (intOf vj).toNat)
                  case atStart => exact ⟨i2 + 1, ds, by go_num, by omega, by omega, HZ3, HSW, Lib.hid rfl⟩
                  case round =>
                    clear HSW HZ3
                    obtain ⟨j, du, rfl, hij, hjb, HZ, HS, HV⟩ := hrel
                    by_cases hjlt : j < b
                    · have hjlz : (j : Int) < (b : Int) := by omega
                      obtain ⟨jp, hjp⟩ : ∃ x, j = x + 1 := ⟨j - 1, by omega⟩
                      have hjpz : (j : Int) - 1 = (jp : Int) := by omega
                      have hw_jp : IntKind.i64.wrap (jp : Int) = (jp : Int) := by rw [IntKind.wrap_i64]; omega
                      have hji : (j : Int) < (n : Int) := by omega
                      have hjpi : (jp : Int) < (n : Int) := by omega
                      have hjd : j < d0.size := by have := HN.out; omega
                      have hjpd : jp < d0.size := by have := HN.out; omega
                      have hjj : jp < j := by omega
                      obtain ⟨x1, HX1, q1, c1, f1⟩ := HH.out.look HZ.out HS.out hjd
                      obtain ⟨x0, HX0, q0, c0, f0⟩ := HH.out.look HZ.out HS.out hjpd
                      have HC := Lib.hid (HH.out.at_ HZ.out HS.out x1 x0)
                      cases hlw : (ltOf cf) x1 x0 with
                      | true =>
                        have hcw : decide (cf x1 x0 < 0) = true := hlw
                        have hcw' : cf x1 x0 < 0 := of_decide_eq_true hlw
                        have HV2 : Hid (shiftUp (ltOf cf) b (j + 1) (swp du j jp) = shiftUp (ltOf cf) b (i2 + 1) ds) := Lib.hid (by rw [← HV.out, shiftUp_go _ _ _ _ hjlt (by rw [show j - 1 = jp by omega, ← HX1.out, ← HX0.out, hlw]), show j - 1 = jp by omega])
                        generalize cf x1 x0 = cw at *
                        clear hlw HX1 HX0 HV hjp
                        go_wp2_with fail
                        go_quiet_grown ((go_at_call 30; exact Calls.grown_of (HC.out _ _)))
                        have HS3 := Lib.hid (HS.out.grown nq osq)
                        generalize grow (wr.drewN nq) osq = W3 at *
                        clear HC HS q1 c1 f1 q0 c0 f0
                        obtain ⟨y1, HY1, p1, b1, g1⟩ := HH.out.look HZ.out HS3.out hjd
                        obtain ⟨y2, HY2, p2, b2, g2⟩ := HH.out.look HZ.out HS3.out hjpd
                        have HSW : Hid (SW encW w0 blk 0 (swp du j jp) ((W3.setCell ⟨blk, j, none⟩ (.string y2.val)).setCell ⟨blk, jp, none⟩ (.string y1.val)).drew) := Lib.hid (HH.out.swap2 HZ.out HS3.out hjd hjpd HY1.out HY2.out 1)
                        have HZ3 : Hid ((swp du j jp).size = d0.size) := Lib.hid (by rw [swp_sz]; exact HZ.out)
                        generalize swp du j jp = dv at *
                        clear HZ HY1 HY2 HS3
                        go_wp2_with fail
                        go_region
                        generalize ((W3.setCell ⟨blk, j, none⟩ (.string y2.val)).setCell ⟨blk, jp, none⟩ (.string y1.val)).drew = W4 at *
                        clear p1 p2 b1 b2 g1 g2
                        go_wp2
                        go_roundw
                        case rel => exact ⟨j + 1, dv, by go_num, by omega, by omega, HZ3, HSW, HV2⟩
                        case measure => (simp [intOf] <;> omega)
                      | false =>
                        have hcw : decide (cf x1 x0 < 0) = false := hlw
                        have HO4 : Hid (partialIns (ltOf cf) a b s i2 du = R) := Lib.hid (by rw [← HO3.out, ← HV.out, shiftUp_stop _ _ _ _ (.inr (by rw [show j - 1 = jp by omega, ← HX1.out, ← HX0.out, hlw]))])
                        generalize cf x1 x0 = cw at *
                        clear hlw HX1 HX0 HV hjp HO3
                        have HO5 : Hid (partialIns (ltOf cf) a b (5 - (k + 1)) i2 du = R) := Lib.hid (by rw [← HO4.out, show 5 - (k + 1) = s by have := HKS.out; omega])
                        go_wp2_with fail
                        go_quiet_grown ((go_at_call 30; exact Calls.grown_of (HC.out _ _)))
                        have HS3 := Lib.hid (HS.out.grown nq osq)
                        generalize grow (wr.drewN nq) osq = W3 at *
                        clear HC HS q1 c1 f1 q0 c0 f0
                        go_wp2
                        go_roundw
                        case rel => exact ⟨i2, k + 1, du, by go_num, by go_num, by omega, by omega, by omega, HZ, HS3, HO5⟩
                        case measure => (simp [intOf] <;> omega)
                    · have hjlz : ¬ (j : Int) < (b : Int) := by omega
                      have HO5 : Hid (partialIns (ltOf cf) a b (5 - (k + 1)) i2 du = R) := Lib.hid (by rw [show 5 - (k + 1) = s by have := HKS.out; omega, ← HO3.out, ← HV.out, shiftUp_stop _ _ _ _ (.inl hjlt)])
                      clear HV HO3
                      go_wp2
                      go_roundw
                      case rel => exact ⟨i2, k + 1, du, by go_num, by go_num, by omega, by omega, by omega, HZ, HS, HO5⟩
                      case measure => (simp [intOf] <;> omega)
                · have hbuz : ¬ (2 : Int) ≤ (b : Int) - (i2 : Int) := by omega
                  rw [if_neg hbu] at HO3
                  have HO5 : Hid (partialIns (ltOf cf) a b (5 - (k + 1)) i2 ds = R) := Lib.hid (by rw [← HO3.out, show 5 - (k + 1) = s by have := HKS.out; omega])
                  clear HO3
                  go_wp2
                  go_roundw
                  case rel => exact ⟨i2, k + 1, ds, by go_num, by go_num, by omega, by omega, by omega, HZ3, HSW, HO5⟩
                  case measure => (simp [intOf] <;> omega)
        · have hltz : ¬ (i2 : Int) < (b : Int) := by omega
          have hebz : (i2 : Int) = (b : Int) := by omega
          have HI2 : Hid (i2 = scanSorted (ltOf cf) dk b i) := Lib.hid (by rw [← HU.out, scanS_stop _ _ _ _ (.inl hlt)])
          have hRR : R = (dk, true) := by rw [← HO.out, pins_done _ _ _ _ _ _ _ HI2.out (by omega)]
          have hee : i2 = b := by omega
          clear HU HO HI2 hebz
          subst hRR
          subst hee
          go_wp2_with fail
          go_quiet (fail)
          have HS3 := Lib.hid (HS.out.drewN nq)
          generalize wr.drewN nq = W3 at *
          clear HS
          go_wp2
          exact bodyPost_ret (v := .bool true) (by simp [results, Try.results48, go_sem]) rfl ⟨rfl, Lib.hid ⟨HS3.out, HZ.out⟩⟩
    · have hkz : ¬ (k : Int) < 5 := by omega
      have hRR : R = (dk, false) := by rw [← HO.out, show 5 - k = 0 by omega]; rfl
      clear HO
      subst hRR
      go_wp2
      exact bodyPost_ret (v := .bool false) (by simp [results, Try.results48, go_sem]) rfl ⟨rfl, Lib.hid ⟨HS.out, HZ.out⟩⟩
end Go.Proofs.Ytcdjahmnobjpkaa
