/- What is proved here: slices.siftDownCmpFunc, with a comparison that is a method of a ledger. Written by mksrts.py. -/
import Derived.Test.YtcdjahmnobjpkaaSrt
namespace Go.Proofs.Ytcdjahmnobjpkaa
open Go Go.RowKit Go.Maps Go.WideMaps Go.Shelf Go.Lib Go.Sort

variable {G : ByteArray → Prop} [Inhabited (W64 G)]

section
variable {cf : (W64 G) → (W64 G) → Int} {l blk cap : Nat} {d0 dk : Array (W64 G)} {w0 W : World}
theorem Srt.look (h : Srt cf l blk cap d0 w0) (hs : dk.size = d0.size) (S : SW encW w0 blk 0 dk W) {i : Nat} (hi : i < d0.size) : ∃ x : (W64 G), Hid (x = dk[i]!) ∧ (∀ q os, (grow (W.drewN q) os).cell? ⟨blk, i, none⟩ = some (.string x.val)) ∧ W.cell? ⟨blk, i, none⟩ = some (.string x.val) ∧ W.frozen? ⟨blk, i, none⟩ = false := ⟨_, Lib.hid rfl, fun q os => h.cell hs (S.grown q os) hi, h.cell hs S hi, h.froz hs S hi⟩
theorem Srt.again (h : Srt cf l blk cap d0 w0) (hs : dk.size = d0.size) (S : SW encW w0 blk 0 dk W) {i : Nat} (hi : i < d0.size) {x : W64 G} (hx : x = dk[i]!) : W.cell? ⟨blk, i, none⟩ = some (.string x.val) ∧ W.frozen? ⟨blk, i, none⟩ = false := by
  subst hx
  exact ⟨h.cell hs S hi, h.froz hs S hi⟩
theorem Srt.swap2 (h : Srt cf l blk cap d0 w0) (hs : dk.size = d0.size) (S : SW encW w0 blk 0 dk W) {i j : Nat} (hi : i < d0.size) (hj : j < d0.size) {x y : (W64 G)} (hx : x = dk[i]!) (hy : y = dk[j]!) (q : Nat) :
    SW encW w0 blk 0 (swp dk i j) (((W.setCell ⟨blk, i, none⟩ (.string y.val)).setCell ⟨blk, j, none⟩ (.string x.val)).drewN q) := by
  subst hx hy
  exact h.swap hs S hi hj q
end
/-- Which child siftDown compares. -/
def pickC (lt : (W64 G) → (W64 G) → Bool) (hi f r : Nat) (d : Array (W64 G)) : Nat := if 2 * r + 1 + 1 < hi && lt d[f + (2 * r + 1)]! d[f + (2 * r + 1) + 1]! then 2 * r + 2 else 2 * r + 1
theorem sift_stop (lt : (W64 G) → (W64 G) → Bool) (hi f r : Nat) (d : Array (W64 G)) (h : hi ≤ 2 * r + 1) : siftDown lt hi f r d = d := by
  rw [siftDown, dif_pos h]
theorem sift_go (lt : (W64 G) → (W64 G) → Bool) (hi f r : Nat) (d : Array (W64 G)) (h : 2 * r + 1 < hi) : siftDown lt hi f r d = if lt d[f + r]! d[f + pickC lt hi f r d]! then siftDown lt hi f (pickC lt hi f r d) (swp d (f + r) (f + pickC lt hi f r d)) else d := by
  rw [siftDown, dif_neg (by omega)]
  unfold pickC
  by_cases hc : (2 * r + 1 + 1 < hi && lt d[f + (2 * r + 1)]! d[f + (2 * r + 1) + 1]!) = true
  · rw [if_pos hc, if_pos hc]
    have h2 : 2 * r + 2 < hi := by
      have := (Bool.and_eq_true _ _ ▸ hc).1
      simpa using this
    rw [dif_pos h2]
    cases lt d[f + r]! d[f + (2 * r + 2)]! <;> rfl
  · rw [if_neg hc, if_neg hc]
    cases lt d[f + r]! d[f + (2 * r + 1)]! <;> rfl

set_option maxHeartbeats 6400000 in
set_option maxRecDepth 100000 in
theorem sift_any {cf : (W64 G) → (W64 G) → Int} {l blk cap : Nat} {d0 : Array (W64 G)} {w0 : World} (H : Srt cf l blk cap d0 w0) {d : Array (W64 G)} {w : World} (hs : d.size = d0.size) (S : SW encW w0 blk 0 d w) {lo hi first n : Nat} (hn : n = d0.size) (hlo : lo ≤ n) (hfi : first + hi ≤ n) :
    Calls Try.prog 57 #[.slice (some ⟨blk, 0, none⟩) n cap, .int .i64 lo, .int .i64 hi, .int .i64 first, .func (.func 30) #[.pointer (some ⟨l, 0, none⟩)] #[]] w fun e w' => e = .returned (.tuple #[]) ∧ Hid (SW encW w0 blk 0 (siftDown (ltOf cf) hi first lo d) w' ∧ (siftDown (ltOf cf) hi first lo d).size = d0.size) := by
  have HS := Lib.hid S
  have HZ := Lib.hid hs
  have hbig := H.big
  have hcap := H.cap
  have HN := Lib.hid hn
  have HH := Lib.hid H
  have hn1 : n < 1000000 := by omega
  have hnc : n ≤ cap := by omega
  clear S hs hn hbig hcap H
  have mixed := mixed_prog
  go_enter Try.func57, Try.ntmps57
  go_wp2
  go_loopw [10] (fun vi wr => ∃ (r : Nat) (dk : Array (W64 G)), vi = .int .i64 r ∧ r ≤ n ∧ Hid (dk.size = d0.size) ∧ Hid (SW encW w0 blk 0 dk wr) ∧ Hid (siftDown (ltOf cf) hi first r dk = siftDown (ltOf cf) hi first lo d)) (fun vi _ => n + 1 - (intOf vi).toNat)
  case atStart => exact ⟨lo, d, rfl, hlo, HZ, HS, Lib.hid rfl⟩
  case round =>
    clear HS HZ
    obtain ⟨r, dk, rfl, hrn, HZ, HS, HO⟩ := hrel
    obtain ⟨c, hc⟩ : ∃ c, c = 2 * r + 1 := ⟨_, rfl⟩
    have hcr : 2 * (r : Int) + 1 = (c : Int) := by omega
    have HCE := Lib.hid hc
    clear hc
    have hrr : 2 * (r : Int) < 3000000 := by omega
    by_cases hlt : hi ≤ c
    · have hlz : (hi : Int) ≤ (c : Int) := by omega
      go_wp2
      go_end0
      refine ⟨rfl, Lib.hid ?_⟩
      have hO : dk = siftDown (ltOf cf) hi first lo d := by rw [← HO.out, sift_stop _ _ _ _ _ (by have := HCE.out; omega)]
      rw [← hO]
      exact ⟨HS.out, HZ.out⟩
    · have hlz : ¬ (hi : Int) ≤ (c : Int) := by omega
      have HGO : Hid (siftDown (ltOf cf) hi first lo d = if (ltOf cf) dk[first + r]! dk[first + pickC (ltOf cf) hi first r dk]! then siftDown (ltOf cf) hi first (pickC (ltOf cf) hi first r dk) (swp dk (first + r) (first + pickC (ltOf cf) hi first r dk)) else dk) := Lib.hid (by rw [← HO.out, sift_go _ _ _ _ _ (by have := HCE.out; omega)])
      clear HO
      obtain ⟨fr, hfr⟩ : ∃ x, x = first + r := ⟨_, rfl⟩
      have hfrz : (first : Int) + (r : Int) = (fr : Int) := by omega
      have hrc : r < c := by have := HCE.out; omega
      have hfrn : fr < n := by omega
      have hfrd : fr < d0.size := by have := HN.out; omega
      have hfri : (fr : Int) < (n : Int) := by omega
      have hw_fr : IntKind.i64.wrap (fr : Int) = (fr : Int) := by rw [IntKind.wrap_i64]; omega
      obtain ⟨fc, hfc⟩ : ∃ x, x = first + c := ⟨_, rfl⟩
      have hfcz : (first : Int) + (c : Int) = (fc : Int) := by omega
      have hfcn : fc < n := by omega
      have hfcd : fc < d0.size := by have := HN.out; omega
      have hfci : (fc : Int) < (n : Int) := by omega
      have hw_fc : IntKind.i64.wrap (fc : Int) = (fc : Int) := by rw [IntKind.wrap_i64]; omega
      have hrc' : (r : Int) < (c : Int) := by omega
      have HFR := Lib.hid hfr
      have HFC := Lib.hid hfc
      have HFN : Hid (hi ≤ n) := Lib.hid (by omega)
      clear hfr hfc
      rw [← HFR.out] at HGO
      by_cases hg : c + 1 < hi
      · obtain ⟨c2, hc2⟩ : ∃ x, x = c + 1 := ⟨_, rfl⟩
        obtain ⟨fc2, hfc2⟩ : ∃ x, x = first + c2 := ⟨_, rfl⟩
        have hc2z : (c : Int) + 1 = (c2 : Int) := by omega
        have hfc2z : (fc : Int) + 1 = (fc2 : Int) := by have := HFC.out; omega
        have hfc2y : (first : Int) + (c2 : Int) = (fc2 : Int) := by omega
        have hfc2n : fc2 < n := by have := HFN.out; omega
        have hfc2i : (fc2 : Int) < (n : Int) := by omega
        have hw_fc2 : IntKind.i64.wrap (fc2 : Int) = (fc2 : Int) := by rw [IntKind.wrap_i64]; omega
        have hfc2d : fc2 < d0.size := by have := HN.out; omega
        have hgz : (c2 : Int) < (hi : Int) := by omega
        have hw_c2 : IntKind.i64.wrap (c2 : Int) = (c2 : Int) := by rw [IntKind.wrap_i64]; omega
        have hr2 : r < c2 := by omega
        have HC2 := Lib.hid hc2
        have HFC2 := Lib.hid hfc2
        clear hc2 hfc2
        obtain ⟨x1, HX1, q1, c1, f1⟩ := HH.out.look HZ.out HS.out hfcd
        obtain ⟨x2, HX2, q2, c2c, f2⟩ := HH.out.look HZ.out HS.out hfc2d
        have HC := Lib.hid (HH.out.at_ HZ.out HS.out x1 x2)
        cases hlv : (ltOf cf) x1 x2 with
        | true =>
          have hcv : cf x1 x2 < 0 := of_decide_eq_true hlv
          have HP : Hid (pickC (ltOf cf) hi first r dk = c2) := Lib.hid (by
            have e1 := HCE.out; have e2 := HC2.out; have e3 := HFC.out; have e4 := HFC2.out
            unfold pickC
            rw [show first + (2 * r + 1) = fc by omega, show fc + 1 = fc2 by omega, ← HX1.out, ← HX2.out, hlv, if_pos (by simp; omega)]
            omega)
          generalize cf x1 x2 = cv1 at *
          rw [HP.out, ← HFC2.out] at HGO
          have HPU : Hid (c2 ≤ n) := Lib.hid (by have := HFN.out; omega)
          clear HP HCE HX1 HX2 hlv
          go_wp2_with fail
          go_quiet_grown ((go_at_call 30; exact Calls.grown_of (HC.out _ _)))
          have HS2 := Lib.hid (HS.out.grown nq osq)
          generalize grow (wr.drewN nq) osq = W2 at *
          clear HS HC q1 q2 c1 c2c f1 f2
          go_wp2_with fail
          obtain ⟨y1, HY1, p1, b1, g1⟩ := HH.out.look HZ.out HS2.out hfrd
          obtain ⟨y2, HY2, p2, b2, g2⟩ := HH.out.look HZ.out HS2.out hfc2d
          have HCC := Lib.hid (HH.out.at_ HZ.out HS2.out y1 y2)
          rw [← HY1.out, ← HY2.out] at HGO
          cases hlw : (ltOf cf) y1 y2 with
          | true =>
            have hcw : cf y1 y2 < 0 := of_decide_eq_true hlw
            rw [hlw, if_pos rfl] at HGO
            have HSW : Hid (∀ W', SW encW w0 blk 0 dk W' → SW encW w0 blk 0 (swp dk fr fc2) (((W'.setCell ⟨blk, fr, none⟩ (.string y2.val)).setCell ⟨blk, fc2, none⟩ (.string y1.val)).drewN 1)) := Lib.hid fun W' h => HH.out.swap2 HZ.out h hfrd hfc2d HY1.out HY2.out 1
            have HLK : Hid (∀ W', SW encW w0 blk 0 dk W' → (W'.cell? ⟨blk, fr, none⟩ = some (.string y1.val) ∧ W'.frozen? ⟨blk, fr, none⟩ = false) ∧ (W'.cell? ⟨blk, fc2, none⟩ = some (.string y2.val) ∧ W'.frozen? ⟨blk, fc2, none⟩ = false)) := Lib.hid fun W' h => ⟨HH.out.again HZ.out h hfrd HY1.out, HH.out.again HZ.out h hfc2d HY2.out⟩
            have HZ3 : Hid ((swp dk fr fc2).size = d0.size) := Lib.hid (by rw [swp_sz]; exact HZ.out)
            generalize swp dk fr fc2 = ds at *
            generalize cf y1 y2 = cw at *
            clear hlw HZ HY1 HY2
            go_quiet_grown ((go_at_call 30; exact Calls.grown_of (HCC.out _ _)))
            have HSB := Lib.hid (HS2.out.grown nq osq)
            generalize grow (W2.drewN nq) osq = WB at *
            obtain ⟨⟨b1', g1'⟩, ⟨b2', g2'⟩⟩ := HLK.out WB HSB.out
            have HSC := Lib.hid (HSW.out WB HSB.out)
            clear HSW HLK HS2 HSB p1 p2 b1 b2 g1 g2
            go_wp2_with fail
            go_region
            have HS3 : Hid (SW encW w0 blk 0 ds ((WB.setCell ⟨blk, fr, none⟩ (.string y2.val)).setCell ⟨blk, fc2, none⟩ (.string y1.val)).drew) := Lib.hid HSC.out
            generalize ((WB.setCell ⟨blk, fr, none⟩ (.string y2.val)).setCell ⟨blk, fc2, none⟩ (.string y1.val)).drew = W3 at *
            clear HSC HCC
            go_wp2
            go_roundw
            case rel => exact ⟨c2, ds, by go_num, HPU.out, HZ3, HS3, Lib.hid HGO.out.symm⟩
            case measure => (simp [intOf] <;> omega)
          | false =>
            have hcw : ¬ cf y1 y2 < 0 := of_decide_eq_false hlw
            rw [hlw, if_neg (by decide)] at HGO
            generalize cf y1 y2 = cw at *
            clear hlw
            go_quiet_grown ((go_at_call 30; exact Calls.grown_of (HCC.out _ _)))
            go_wp2
            (first | go_end0 | refine bodyPost_ret (results_none rfl _ _ _) rfl ?_)
            refine ⟨rfl, Lib.hid ?_⟩
            rw [HGO.out]
            exact ⟨HS2.out.grown _ _, HZ.out⟩
        | false =>
          have hcv : decide (cf x1 x2 < 0) = false := hlv
          have HP : Hid (pickC (ltOf cf) hi first r dk = c) := Lib.hid (by
            have e1 := HCE.out; have e2 := HC2.out; have e3 := HFC.out; have e4 := HFC2.out
            unfold pickC
            rw [show first + (2 * r + 1) = fc by omega, show fc + 1 = fc2 by omega, ← HX1.out, ← HX2.out, hlv, if_neg (by simp)]
            omega)
          generalize cf x1 x2 = cv1 at *
          rw [HP.out, ← HFC.out] at HGO
          have HPU : Hid (c ≤ n) := Lib.hid (by have := HFN.out; omega)
          clear HP HCE HX1 HX2 hlv
          go_wp2_with fail
          go_quiet_grown ((go_at_call 30; exact Calls.grown_of (HC.out _ _)))
          have HS2 := Lib.hid (HS.out.grown nq osq)
          generalize grow (wr.drewN nq) osq = W2 at *
          clear HS HC q1 q2 c1 c2c f1 f2 hc2z hfc2z hfc2y hfc2n hfc2i hfc2d hgz hr2 hg HC2 HFC2
          go_wp2_with fail
          obtain ⟨y1, HY1, p1, b1, g1⟩ := HH.out.look HZ.out HS2.out hfrd
          obtain ⟨y2, HY2, p2, b2, g2⟩ := HH.out.look HZ.out HS2.out hfcd
          have HCC := Lib.hid (HH.out.at_ HZ.out HS2.out y1 y2)
          rw [← HY1.out, ← HY2.out] at HGO
          cases hlw : (ltOf cf) y1 y2 with
          | true =>
            have hcw : cf y1 y2 < 0 := of_decide_eq_true hlw
            rw [hlw, if_pos rfl] at HGO
            have HSW : Hid (∀ W', SW encW w0 blk 0 dk W' → SW encW w0 blk 0 (swp dk fr fc) (((W'.setCell ⟨blk, fr, none⟩ (.string y2.val)).setCell ⟨blk, fc, none⟩ (.string y1.val)).drewN 1)) := Lib.hid fun W' h => HH.out.swap2 HZ.out h hfrd hfcd HY1.out HY2.out 1
            have HLK : Hid (∀ W', SW encW w0 blk 0 dk W' → (W'.cell? ⟨blk, fr, none⟩ = some (.string y1.val) ∧ W'.frozen? ⟨blk, fr, none⟩ = false) ∧ (W'.cell? ⟨blk, fc, none⟩ = some (.string y2.val) ∧ W'.frozen? ⟨blk, fc, none⟩ = false)) := Lib.hid fun W' h => ⟨HH.out.again HZ.out h hfrd HY1.out, HH.out.again HZ.out h hfcd HY2.out⟩
            have HZ3 : Hid ((swp dk fr fc).size = d0.size) := Lib.hid (by rw [swp_sz]; exact HZ.out)
            generalize swp dk fr fc = ds at *
            generalize cf y1 y2 = cw at *
            clear hlw HZ HY1 HY2
            go_quiet_grown ((go_at_call 30; exact Calls.grown_of (HCC.out _ _)))
            have HSB := Lib.hid (HS2.out.grown nq osq)
            generalize grow (W2.drewN nq) osq = WB at *
            obtain ⟨⟨b1', g1'⟩, ⟨b2', g2'⟩⟩ := HLK.out WB HSB.out
            have HSC := Lib.hid (HSW.out WB HSB.out)
            clear HSW HLK HS2 HSB p1 p2 b1 b2 g1 g2
            go_wp2_with fail
            go_region
            have HS3 : Hid (SW encW w0 blk 0 ds ((WB.setCell ⟨blk, fr, none⟩ (.string y2.val)).setCell ⟨blk, fc, none⟩ (.string y1.val)).drew) := Lib.hid HSC.out
            generalize ((WB.setCell ⟨blk, fr, none⟩ (.string y2.val)).setCell ⟨blk, fc, none⟩ (.string y1.val)).drew = W3 at *
            clear HSC HCC
            go_wp2
            go_roundw
            case rel => exact ⟨c, ds, by go_num, HPU.out, HZ3, HS3, Lib.hid HGO.out.symm⟩
            case measure => (simp [intOf] <;> omega)
          | false =>
            have hcw : ¬ cf y1 y2 < 0 := of_decide_eq_false hlw
            rw [hlw, if_neg (by decide)] at HGO
            generalize cf y1 y2 = cw at *
            clear hlw
            go_quiet_grown ((go_at_call 30; exact Calls.grown_of (HCC.out _ _)))
            go_wp2
            (first | go_end0 | refine bodyPost_ret (results_none rfl _ _ _) rfl ?_)
            refine ⟨rfl, Lib.hid ?_⟩
            rw [HGO.out]
            exact ⟨HS2.out.grown _ _, HZ.out⟩
      · have hgz : decide ((c : Int) + 1 < (hi : Int)) = false := by simp; omega
        have HP : Hid (pickC (ltOf cf) hi first r dk = c) := Lib.hid (by
          have e1 := HCE.out
          unfold pickC
          rw [if_neg (by simp; omega)]
          omega)
        rw [HP.out, ← HFC.out] at HGO
        have HPU : Hid (c ≤ n) := Lib.hid (by have := HFN.out; omega)
        clear HP HCE
        go_wp2_with fail
        go_quiet (fail)
        have HS2 := Lib.hid (HS.out.drewN nq)
        generalize wr.drewN nq = W2 at *
        clear HS
        go_wp2_with fail
        obtain ⟨y1, HY1, p1, b1, g1⟩ := HH.out.look HZ.out HS2.out hfrd
        obtain ⟨y2, HY2, p2, b2, g2⟩ := HH.out.look HZ.out HS2.out hfcd
        have HCC := Lib.hid (HH.out.at_ HZ.out HS2.out y1 y2)
        rw [← HY1.out, ← HY2.out] at HGO
        cases hlw : (ltOf cf) y1 y2 with
        | true =>
          have hcw : cf y1 y2 < 0 := of_decide_eq_true hlw
          rw [hlw, if_pos rfl] at HGO
          have HSW : Hid (∀ W', SW encW w0 blk 0 dk W' → SW encW w0 blk 0 (swp dk fr fc) (((W'.setCell ⟨blk, fr, none⟩ (.string y2.val)).setCell ⟨blk, fc, none⟩ (.string y1.val)).drewN 1)) := Lib.hid fun W' h => HH.out.swap2 HZ.out h hfrd hfcd HY1.out HY2.out 1
          have HLK : Hid (∀ W', SW encW w0 blk 0 dk W' → (W'.cell? ⟨blk, fr, none⟩ = some (.string y1.val) ∧ W'.frozen? ⟨blk, fr, none⟩ = false) ∧ (W'.cell? ⟨blk, fc, none⟩ = some (.string y2.val) ∧ W'.frozen? ⟨blk, fc, none⟩ = false)) := Lib.hid fun W' h => ⟨HH.out.again HZ.out h hfrd HY1.out, HH.out.again HZ.out h hfcd HY2.out⟩
          have HZ3 : Hid ((swp dk fr fc).size = d0.size) := Lib.hid (by rw [swp_sz]; exact HZ.out)
          generalize swp dk fr fc = ds at *
          generalize cf y1 y2 = cw at *
          clear hlw HZ HY1 HY2
          go_quiet_grown ((go_at_call 30; exact Calls.grown_of (HCC.out _ _)))
          have HSB := Lib.hid (HS2.out.grown nq osq)
          generalize grow (W2.drewN nq) osq = WB at *
          obtain ⟨⟨b1', g1'⟩, ⟨b2', g2'⟩⟩ := HLK.out WB HSB.out
          have HSC := Lib.hid (HSW.out WB HSB.out)
          clear HSW HLK HS2 HSB p1 p2 b1 b2 g1 g2
          go_wp2_with fail
          go_region
          have HS3 : Hid (SW encW w0 blk 0 ds ((WB.setCell ⟨blk, fr, none⟩ (.string y2.val)).setCell ⟨blk, fc, none⟩ (.string y1.val)).drew) := Lib.hid HSC.out
          generalize ((WB.setCell ⟨blk, fr, none⟩ (.string y2.val)).setCell ⟨blk, fc, none⟩ (.string y1.val)).drew = W3 at *
          clear HSC HCC
          go_wp2
          go_roundw
          case rel => exact ⟨c, ds, by go_num, HPU.out, HZ3, HS3, Lib.hid HGO.out.symm⟩
          case measure => (simp [intOf] <;> omega)
        | false =>
          have hcw : ¬ cf y1 y2 < 0 := of_decide_eq_false hlw
          rw [hlw, if_neg (by decide)] at HGO
          generalize cf y1 y2 = cw at *
          clear hlw
          go_quiet_grown ((go_at_call 30; exact Calls.grown_of (HCC.out _ _)))
          go_wp2
          (first | go_end0 | refine bodyPost_ret (results_none rfl _ _ _) rfl ?_)
          refine ⟨rfl, Lib.hid ?_⟩
          rw [HGO.out]
          exact ⟨HS2.out.grown _ _, HZ.out⟩
end Go.Proofs.Ytcdjahmnobjpkaa
