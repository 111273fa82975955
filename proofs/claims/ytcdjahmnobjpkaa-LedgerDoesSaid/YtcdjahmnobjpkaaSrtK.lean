/- What is proved here: slices.breakPatternsCmpFunc, with a comparison that is a method of a ledger (it is not called). -/
import Derived.Test.YtcdjahmnobjpkaaSrtB
import Derived.Test.YtcdjahmnobjpkaaLib
import Derived.Shelf.SlSortCmp.Xorshift
import Derived.Sort.LotD5
namespace Go.Proofs.Ytcdjahmnobjpkaa
open Go Go.RowKit Go.Maps Go.WideMaps Go.Shelf Go.Lib Go.Sort

variable {G : ByteArray → Prop} [Inhabited (W64 G)]

/-- The state behind k rounds. -/
def bst (a L M idx : Nat) (d : Array (W64 G)) : Nat → UInt64 × Array (W64 G)
  | 0 => (UInt64.ofNat L, d)
  | k + 1 => breakStep a L M (bst a L M idx d k) (idx + k)
theorem break_eq (d : Array (W64 G)) (a b : Nat) (h : 8 ≤ b - a) : breakPatterns d a b = (bst a (b - a) (1 <<< bitsLen (b - a)) (a + (b - a) / 4 * 2 - 1) d 3).2 := by
  unfold breakPatterns
  dsimp only
  rw [if_pos h]
  rfl
/-- Where the exchange goes. -/
def othN (L M X : Nat) : Nat := if X &&& (M - 1) ≥ L then (X &&& (M - 1)) - L else X &&& (M - 1)
theorem bst_step (a L M idx : Nat) (d : Array (W64 G)) (k : Nat) : (bst a L M idx d (k + 1)).1.toNat = xorNextN (bst a L M idx d k).1.toNat ∧ (bst a L M idx d (k + 1)).2 = swp (bst a L M idx d k).2 (idx + k) (a + othN L M (xorNextN (bst a L M idx d k).1.toNat)) := by
  rw [bst]
  unfold breakStep othN
  dsimp only
  rw [xorNext_toNat]
  exact ⟨rfl, rfl⟩

set_option maxHeartbeats 3200000 in
set_option maxRecDepth 100000 in
theorem brk_any {cf : (W64 G) → (W64 G) → Int} {l blk cap : Nat} {d0 : Array (W64 G)} {w0 : World} (H : Srt cf l blk cap d0 w0) {d : Array (W64 G)} {w : World} (hs : d.size = d0.size) (S : SW encW w0 blk 0 d w) {a b n : Nat} (hn : n = d0.size) (hab : a + 12 < b) (hb : b ≤ n) (f : Value) :
    Calls Try.prog 45 #[.slice (some ⟨blk, 0, none⟩) n cap, .int .i64 a, .int .i64 b, f] w fun e w' => e = .returned (.tuple #[]) ∧ Hid (SW encW w0 blk 0 (breakPatterns d a b) w' ∧ (breakPatterns d a b).size = d0.size) := by
  have HS := Lib.hid S
  have HZ := Lib.hid hs
  have hbig := H.big
  have hcap := H.cap
  have HN := Lib.hid hn
  have HH := Lib.hid H
  have hn1 : n < 1000000 := by omega
  have hnc : n ≤ cap := by omega
  have HB := Lib.hid (break_eq d a b (by omega))
  generalize breakPatterns d a b = R at *
  obtain ⟨L, hL⟩ : ∃ x, b - a = x := ⟨_, rfl⟩
  rw [hL] at HB
  obtain ⟨Q, hQ⟩ : ∃ x, L / 4 = x := ⟨_, rfl⟩
  rw [hQ] at HB
  have HP := Lib.hid (fun w => AnyF.nextPowerOfTwo (P := Try.prog) { Try.sortFunc with } L (by omega) w)
  have hM1 : 1 <<< bitsLen L ≤ 2 * L := by rw [Nat.one_shiftLeft]; exact two_pow_bitsLen_le (by omega)
  have hM0 : 0 < 1 <<< bitsLen L := by rw [Nat.one_shiftLeft]; exact Nat.pow_pos (by omega)
  generalize 1 <<< bitsLen L = M at *
  obtain ⟨I, hI⟩ : ∃ x, a + Q * 2 - 1 = x := ⟨_, rfl⟩
  rw [hI] at HB
  have hLz : (b : Int) - (a : Int) = (L : Int) := by omega
  have hQz : Int.tdiv (L : Int) 4 = (Q : Int) := by rw [← hQ]; exact (Int.ofNat_tdiv L 4).symm
  obtain ⟨J0, hJ0⟩ : ∃ x, x = I + 1 := ⟨_, rfl⟩
  obtain ⟨E, hE⟩ : ∃ x, x = I + 2 := ⟨_, rfl⟩
  obtain ⟨Mm, hMm⟩ : ∃ x, M = x + 1 := ⟨M - 1, by omega⟩
  have hJ0z : (a : Int) + (Q : Int) * 2 = (J0 : Int) := by omega
  have hIz : (J0 : Int) - 1 = (I : Int) := by omega
  have hEz : (J0 : Int) + 1 = (E : Int) := by omega
  have hMmz : (M : Int) - 1 = (Mm : Int) := by omega
  have HMM : Hid (M - 1 = Mm) := Lib.hid (by omega)
  have hL8 : (8 : Int) ≤ (L : Int) := by omega
  have hQn : Q < n := by omega
  have hLn : L ≤ n := by omega
  have hEn : E < n := by omega
  have hMn : Mm < 2 * n := by omega
  have HML : Hid (Mm < 2 * L) := Lib.hid (by omega)
  have HLB : Hid (a + L ≤ n) := Lib.hid (by omega)
  have HLE : Hid (w0.heap.size ≤ w.heap.size) := Lib.hid S.le
  have HNE : Hid (w.heap.size ≠ blk) := Lib.hid (by have := S.le; have := H.row.hblk; omega)
  have HE : Hid (E = I + 2) := Lib.hid hE
  have HX0 : Hid (L = (bst a L M I d 0).1.toNat) := Lib.hid (by show L = (UInt64.ofNat L).toNat; rw [UInt64.toNat_ofNat']; omega)
  have HSA : Hid (SW encW w0 blk 0 (bst a L M I d 0).2 (w.alloc (.cells #[.int .u64 (L : Nat)] 99))) := Lib.hid (S.alloc _)
  have HZA : Hid ((bst a L M I d 0).2.size = d0.size) := HZ
  clear S hs hn hbig hcap H hL hQ hI hab hb hJ0 hE hMm HS HZ
  go_enter Try.func45, Try.ntmps45
  go_wp2_with (go_at_call 58; go_fit (HP.out _); rintro e w1 ⟨rfl, rfl⟩)
  go_loopw [11] (fun vi wr => ∃ (k J X : Nat), vi = .int .i64 J ∧ k ≤ 3 ∧ Hid (J = I + k) ∧ Hid (X = (bst a L M I d k).1.toNat) ∧ Hid ((bst a L M I d k).2.size = d0.size) ∧ Hid (SW encW w0 blk 0 (bst a L M I d k).2 wr) ∧ Hid (wr.cell? ⟨w.heap.size, 0, none⟩ = some (.int .u64 X)) ∧ Hid (wr.frozen? ⟨w.heap.size, 0, none⟩ = false)) (fun vi _ => n - (intOf vi).toNat)
  case atStart => exact ⟨0, I, L, rfl, by omega, Lib.hid rfl, HX0, HZA, HSA, Lib.hid (by simp), Lib.hid (by simp)⟩
  case round =>
    clear HZA HSA HX0
    obtain ⟨k, J, X, rfl, hk3, HJ, HX, HZ, HS, HC1, HC2⟩ := hrel
    by_cases hk : k < 3
    · have hJE : (J : Int) ≤ (E : Int) := by have := HE.out; have := HJ.out; omega
      have hJn : J < n := by omega
      have hJi : (J : Int) < (n : Int) := by omega
      have hJd : J < d0.size := by have := HN.out; omega
      have hXl : X < 18446744073709551616 := by rw [HX.out]; exact UInt64.toNat_lt _
      have HCN := Lib.hid (AnyF.xorshift_Next (P := Try.prog) { Try.sortFunc with } w.heap.size 0 X hXl wr HC1.out HC2.out)
      have hXN := xorNextN_lt X hXl
      obtain ⟨XN, hXX⟩ : ∃ x, x = xorNextN X := ⟨_, rfl⟩
      rw [← hXX] at HCN hXN
      have HXX := Lib.hid hXX
      obtain ⟨O, hO⟩ : ∃ x, x = XN &&& Mm := ⟨_, rfl⟩
      have hOb : bits .and .u64 (XN : Int) (Mm : Int) = (O : Int) := by rw [hO]; exact bits_and_u64_nat _ _ hXN (by omega)
      have hOm : O ≤ Mm := by rw [hO]; exact Nat.and_le_right
      have hOn : O < 2 * n := by omega
      have HO0 : Hid (othN L M (xorNextN X) = if O ≥ L then O - L else O) := Lib.hid (by unfold othN; rw [HMM.out, ← hXX, ← hO])
      clear hO hXX hXl
      by_cases hOL : L ≤ O
      · have hOLz : (L : Int) ≤ (O : Int) := by omega
        obtain ⟨T, hT⟩ : ∃ x, x = O - L := ⟨_, rfl⟩
        have hTz : (O : Int) - (L : Int) = (T : Int) := by omega
        have hTL : T < L := by have := HML.out; omega
        have HO : Hid (othN L M (xorNextN X) = T) := Lib.hid (by rw [HO0.out, if_pos hOL, hT])
        clear hT HO0
        obtain ⟨fp, hfp⟩ : ∃ x, x = a + T := ⟨_, rfl⟩
        have hfpz : (a : Int) + (T : Int) = (fp : Int) := by omega
        have hfpn : fp < n := by have := HLB.out; omega
        have hfpi : (fp : Int) < (n : Int) := by omega
        have hfpd : fp < d0.size := by have := HN.out; omega
        have HST : Hid ((bst a L M I d (k + 1)).2 = swp (bst a L M I d k).2 J fp) := Lib.hid (by rw [(bst_step a L M I d k).2, ← HX.out, HO.out, ← hfp, HJ.out])
        clear hfp
        go_wp2_with (go_at_call 59; go_fit HCN.out; rintro e w2 ⟨rfl, rfl⟩)
        have HS3 : Hid (SW encW w0 blk 0 (bst a L M I d k).2 ((wr.setCell ⟨w.heap.size, 0, none⟩ (.int .u64 (XN : Nat))).drewN 3)) := Lib.hid ((HS.out.setCell_new _ _ _ HLE.out).drewN 3)
        have HK1 : Hid (((wr.setCell ⟨w.heap.size, 0, none⟩ (.int .u64 (XN : Nat))).drewN 3).cell? ⟨w.heap.size, 0, none⟩ = some (.int .u64 (XN : Nat))) := Lib.hid (World.cell?_setCell_same' _ _ _ (by rw [HC1.out]; rfl))
        have HK2 : Hid (((wr.setCell ⟨w.heap.size, 0, none⟩ (.int .u64 (XN : Nat))).drewN 3).frozen? ⟨w.heap.size, 0, none⟩ = false) := Lib.hid ((World.frozen?_setCell _ _ _ _).trans HC2.out)
        generalize (wr.setCell ⟨w.heap.size, 0, none⟩ (.int .u64 (XN : Nat))).drewN 3 = W3 at *
        clear HCN HS HC1 HC2
        obtain ⟨y1, HY1, p1, b1, g1⟩ := HH.out.look HZ.out HS3.out hJd
        obtain ⟨y2, HY2, p2, b2, g2⟩ := HH.out.look HZ.out HS3.out hfpd
        have HSW : Hid (SW encW w0 blk 0 (bst a L M I d (k + 1)).2 ((W3.setCell ⟨blk, J, none⟩ (.string y2.val)).setCell ⟨blk, fp, none⟩ (.string y1.val)).drew) := Lib.hid (by rw [HST.out]; exact HH.out.swap2 HZ.out HS3.out hJd hfpd HY1.out HY2.out 1)
        have HBX := Lib.hid (box_kept_swap1 (blk := blk) HNE.out HK1.out HK2.out J fp (.string y2.val) (.string y1.val))
        have HE12 : Hid (J = fp → y2 = y1) := Lib.hid (by intro e; rw [HY1.out, HY2.out, e])
        have HZ3 : Hid ((bst a L M I d (k + 1)).2.size = d0.size) := Lib.hid (by rw [HST.out, swp_sz]; exact HZ.out)
        have HXN : Hid (XN = (bst a L M I d (k + 1)).1.toNat) := Lib.hid (by rw [(bst_step a L M I d k).1, ← HX.out]; exact HXX.out)
        have HJ3 : Hid (J + 1 = I + (k + 1)) := Lib.hid (by have := HJ.out; omega)
        clear HS3 HY1 HY2 HST HZ HX HO HXX HK1 HK2
        by_cases hjf : J = fp
        · have hy := HE12.out hjf
          subst hy
          clear HE12
          subst hjf
          go_wp2_with fail
          go_region
          generalize ((W3.setCell ⟨blk, J, none⟩ (.string y2.val)).setCell ⟨blk, J, none⟩ (.string y2.val)).drew = W4 at *
          clear p1 p2 b1 b2 g1 g2
          go_wp2
          go_roundw
          case rel => exact ⟨k + 1, J + 1, XN, by go_num, by omega, HJ3, HXN, HZ3, HSW, Lib.hid HBX.out.1, Lib.hid HBX.out.2⟩
          case measure => (simp [intOf] <;> omega)
        · clear HE12
          have hjf2 : J < fp ∨ fp < J := by omega
          go_wp2_with fail
          go_region
          generalize ((W3.setCell ⟨blk, J, none⟩ (.string y2.val)).setCell ⟨blk, fp, none⟩ (.string y1.val)).drew = W4 at *
          clear p1 p2 b1 b2 g1 g2
          go_wp2
          go_roundw
          case rel => exact ⟨k + 1, J + 1, XN, by go_num, by omega, HJ3, HXN, HZ3, HSW, Lib.hid HBX.out.1, Lib.hid HBX.out.2⟩
          case measure => (simp [intOf] <;> omega)
      · have hOLz : ¬ (L : Int) ≤ (O : Int) := by omega
        have HO : Hid (othN L M (xorNextN X) = O) := Lib.hid (by rw [HO0.out, if_neg hOL])
        clear HO0
        obtain ⟨fp, hfp⟩ : ∃ x, x = a + O := ⟨_, rfl⟩
        have hfpz : (a : Int) + (O : Int) = (fp : Int) := by omega
        have hfpn : fp < n := by have := HLB.out; omega
        have hfpi : (fp : Int) < (n : Int) := by omega
        have hfpd : fp < d0.size := by have := HN.out; omega
        have HST : Hid ((bst a L M I d (k + 1)).2 = swp (bst a L M I d k).2 J fp) := Lib.hid (by rw [(bst_step a L M I d k).2, ← HX.out, HO.out, ← hfp, HJ.out])
        clear hfp
        go_wp2_with (go_at_call 59; go_fit HCN.out; rintro e w2 ⟨rfl, rfl⟩)
        have HS3 : Hid (SW encW w0 blk 0 (bst a L M I d k).2 ((wr.setCell ⟨w.heap.size, 0, none⟩ (.int .u64 (XN : Nat))).drewN 3)) := Lib.hid ((HS.out.setCell_new _ _ _ HLE.out).drewN 3)
        have HK1 : Hid (((wr.setCell ⟨w.heap.size, 0, none⟩ (.int .u64 (XN : Nat))).drewN 3).cell? ⟨w.heap.size, 0, none⟩ = some (.int .u64 (XN : Nat))) := Lib.hid (World.cell?_setCell_same' _ _ _ (by rw [HC1.out]; rfl))
        have HK2 : Hid (((wr.setCell ⟨w.heap.size, 0, none⟩ (.int .u64 (XN : Nat))).drewN 3).frozen? ⟨w.heap.size, 0, none⟩ = false) := Lib.hid ((World.frozen?_setCell _ _ _ _).trans HC2.out)
        generalize (wr.setCell ⟨w.heap.size, 0, none⟩ (.int .u64 (XN : Nat))).drewN 3 = W3 at *
        clear HCN HS HC1 HC2
        obtain ⟨y1, HY1, p1, b1, g1⟩ := HH.out.look HZ.out HS3.out hJd
        obtain ⟨y2, HY2, p2, b2, g2⟩ := HH.out.look HZ.out HS3.out hfpd
        have HSW : Hid (SW encW w0 blk 0 (bst a L M I d (k + 1)).2 ((W3.setCell ⟨blk, J, none⟩ (.string y2.val)).setCell ⟨blk, fp, none⟩ (.string y1.val)).drew) := Lib.hid (by rw [HST.out]; exact HH.out.swap2 HZ.out HS3.out hJd hfpd HY1.out HY2.out 1)
        have HBX := Lib.hid (box_kept_swap1 (blk := blk) HNE.out HK1.out HK2.out J fp (.string y2.val) (.string y1.val))
        have HE12 : Hid (J = fp → y2 = y1) := Lib.hid (by intro e; rw [HY1.out, HY2.out, e])
        have HZ3 : Hid ((bst a L M I d (k + 1)).2.size = d0.size) := Lib.hid (by rw [HST.out, swp_sz]; exact HZ.out)
        have HXN : Hid (XN = (bst a L M I d (k + 1)).1.toNat) := Lib.hid (by rw [(bst_step a L M I d k).1, ← HX.out]; exact HXX.out)
        have HJ3 : Hid (J + 1 = I + (k + 1)) := Lib.hid (by have := HJ.out; omega)
        clear HS3 HY1 HY2 HST HZ HX HO HXX HK1 HK2
        by_cases hjf : J = fp
        · have hy := HE12.out hjf
          subst hy
          clear HE12
          subst hjf
          go_wp2_with fail
          go_region
          generalize ((W3.setCell ⟨blk, J, none⟩ (.string y2.val)).setCell ⟨blk, J, none⟩ (.string y2.val)).drew = W4 at *
          clear p1 p2 b1 b2 g1 g2
          go_wp2
          go_roundw
          case rel => exact ⟨k + 1, J + 1, XN, by go_num, by omega, HJ3, HXN, HZ3, HSW, Lib.hid HBX.out.1, Lib.hid HBX.out.2⟩
          case measure => (simp [intOf] <;> omega)
        · clear HE12
          have hjf2 : J < fp ∨ fp < J := by omega
          go_wp2_with fail
          go_region
          generalize ((W3.setCell ⟨blk, J, none⟩ (.string y2.val)).setCell ⟨blk, fp, none⟩ (.string y1.val)).drew = W4 at *
          clear p1 p2 b1 b2 g1 g2
          go_wp2
          go_roundw
          case rel => exact ⟨k + 1, J + 1, XN, by go_num, by omega, HJ3, HXN, HZ3, HSW, Lib.hid HBX.out.1, Lib.hid HBX.out.2⟩
          case measure => (simp [intOf] <;> omega)
    · have hJE : ¬ (J : Int) ≤ (E : Int) := by have := HE.out; have := HJ.out; omega
      go_wp2
      (first | go_end0 | refine bodyPost_ret (results_none rfl _ _ _) rfl ?_)
      refine ⟨rfl, Lib.hid ?_⟩
      have hk33 : k = 3 := by omega
      rw [hk33] at HS HZ
      rw [HB.out]
      exact ⟨HS.out, HZ.out⟩
end Go.Proofs.Ytcdjahmnobjpkaa
