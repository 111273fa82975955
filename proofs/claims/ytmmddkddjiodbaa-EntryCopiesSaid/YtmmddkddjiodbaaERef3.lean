/- What is proved here: the document's own log: From and Newer. -/
import Derived.Test.YtmmddkddjiodbaaERef2
namespace Go.Proofs.Ytmmddkddjiodbaa
open Go Go.RowKit Go.Maps Go.WideMaps

section
variable {w : World} {B T : Int} {A : Option Addr} {n c : Nat} {L : List En} {Ψ : Nat → Prop}
set_option maxHeartbeats 1600000 in
set_option maxRecDepth 100000 in
theorem RNewer_any (h : SRd enC w Ψ A n c L) (h0 : 0 ≤ B) (h1 : B ≤ 4611686018427387904) (hn : n < 1000000) (last term : Int) :
    Calls Try.prog 23 #[rlV B T A n c, .int .i64 last, .int .i64 term] w fun e w' => e = .returned (.bool (newerF B T L last term)) ∧ Below w.heap.size w w' := by
  obtain ⟨W, hW, hbW, hWs, hres⟩ := rbox w B T A n c
  have hln := h.len
  have HBX : Hid (∀ V, Below W.heap.size W V → V.cell? ⟨w.heap.size, 0, none⟩ = some (.int .i64 B) ∧ V.cell? ⟨w.heap.size, 1, none⟩ = some (.int .i64 T) ∧ V.cell? ⟨w.heap.size, 2, none⟩ = some (.slice A n c) ∧ Below W.heap.size W V) := Lib.hid fun V hb => by
    have x1 := three_cells (hres V hb)
    exact ⟨x1.1, x1.2.1, x1.2.2.1, hb⟩
  have HL : Hid (∀ V, Below W.heap.size W V → Calls Try.prog 30 #[.agg #[.int .i64 B, .int .i64 T, .slice A n c]] V fun e w' => e = .returned (.int .i64 (B + n)) ∧ w'.cell? ⟨w.heap.size, 0, none⟩ = some (.int .i64 B) ∧ w'.cell? ⟨w.heap.size, 1, none⟩ = some (.int .i64 T) ∧ w'.cell? ⟨w.heap.size, 2, none⟩ = some (.slice A n c) ∧ Below W.heap.size W w') := Lib.hid fun V hb => (RLast_below (B := B) (T := T) (A := A) (n := n) (c := c) h0 h1 hn V).mono (by
    rintro e w' ⟨rfl, hb2⟩
    exact ⟨rfl, HBX.out w' (hb.trans (hb2.mono hb.size))⟩)
  have HT : Hid (∀ V, Below W.heap.size W V → Calls Try.prog 33 #[.agg #[.int .i64 B, .int .i64 T, .slice A n c], .int .i64 (B + n)] V fun e w' => e = .returned (.tuple #[.int .i64 (termAt B T L (B + n)), .bool (hasAt B L (B + n))]) ∧ w'.cell? ⟨w.heap.size, 0, none⟩ = some (.int .i64 B) ∧ w'.cell? ⟨w.heap.size, 1, none⟩ = some (.int .i64 T) ∧ w'.cell? ⟨w.heap.size, 2, none⟩ = some (.slice A n c) ∧ Below W.heap.size W w') := Lib.hid fun V hb => (RTerm_any ((h.below hbW).below hb) h0 h1 hn (k := B + n) (by unfold I64; omega)).mono (by
    rintro e w' ⟨rfl, hb2⟩
    exact ⟨rfl, HBX.out w' (hb.trans (hb2.mono hb.size))⟩)
  have hc := newer_cases B T L last term
  rw [hln] at hc
  obtain ⟨b0, b1, b2, _⟩ := HBX.out W (Below.refl _ _)
  have HB0 : Hid (Below W.heap.size W W.drew) := Lib.hid (Below.refl _ _).drew
  have HBF : Hid (∀ V, Below W.heap.size W V → Below w.heap.size w V) := Lib.hid fun V hb => hbW.trans (hb.mono hbW.size)
  have HW := Lib.hid hW
  clear h h0 h1 hbW hW hWs hres hln
  unfold rlV
  generalize newerF B T L last term = q at *
  generalize termAt B T L (B + n) = tl at *
  generalize hasAt B L (B + n) = ha at *
  generalize B + (n : Int) = la at *
  rcases hc with ⟨d1, rfl⟩ | ⟨d1, d2, rfl⟩ | ⟨rfl, rfl⟩
  · have e1 : decide (tl < term) = true := decide_eq_true d1
    go_enter Try.func23, Try.ntmps23
    go_upto_region 1 with fail
    rw [← HW.out]
    go_region_held3 (fun w' => w'.cell? ⟨w.heap.size, 0, none⟩ = some (.int .i64 B) ∧ w'.cell? ⟨w.heap.size, 1, none⟩ = some (.int .i64 T) ∧ w'.cell? ⟨w.heap.size, 2, none⟩ = some (.slice A n c) ∧ Below W.heap.size W w')
      (first | exact ⟨by assumption, by assumption, by assumption, by assumption⟩ | exact ⟨b0, b1, b2, HB0.out⟩)
      (first
        | (go_at_call 30; refine (HL.out _ (by first | assumption | exact HB0.out)).mono ?_; rintro e w1 ⟨rfl, p0, p1, p2, hb1⟩)
        | (go_at_call 33; refine (HT.out _ (by first | assumption | exact HB0.out)).mono ?_; rintro e w2 ⟨rfl, q0, q1, q2, hb2⟩))
    go_wp2_with fail
    go_ret
    exact ⟨rfl, HBF.out _ hb2⟩
  · have e1 : decide (tl < term) = false := decide_eq_false d1
    have e2 : (term == tl) = false := beq_eq_false_iff_ne.2 d2
    go_enter Try.func23, Try.ntmps23
    go_upto_region 1 with fail
    rw [← HW.out]
    go_region_held3 (fun w' => w'.cell? ⟨w.heap.size, 0, none⟩ = some (.int .i64 B) ∧ w'.cell? ⟨w.heap.size, 1, none⟩ = some (.int .i64 T) ∧ w'.cell? ⟨w.heap.size, 2, none⟩ = some (.slice A n c) ∧ Below W.heap.size W w')
      (first | exact ⟨by assumption, by assumption, by assumption, by assumption⟩ | exact ⟨b0, b1, b2, HB0.out⟩)
      (first
        | (go_at_call 30; refine (HL.out _ (by first | assumption | exact HB0.out)).mono ?_; rintro e w1 ⟨rfl, p0, p1, p2, hb1⟩)
        | (go_at_call 33; refine (HT.out _ (by first | assumption | exact HB0.out)).mono ?_; rintro e w2 ⟨rfl, q0, q1, q2, hb2⟩))
    go_wp2_with fail
    go_ret
    exact ⟨rfl, HBF.out _ hb2⟩
  · have e1 : decide (term < term) = false := decide_eq_false (by omega)
    go_enter Try.func23, Try.ntmps23
    go_upto_region 1 with fail
    rw [← HW.out]
    go_region_held3 (fun w' => w'.cell? ⟨w.heap.size, 0, none⟩ = some (.int .i64 B) ∧ w'.cell? ⟨w.heap.size, 1, none⟩ = some (.int .i64 T) ∧ w'.cell? ⟨w.heap.size, 2, none⟩ = some (.slice A n c) ∧ Below W.heap.size W w')
      (first | exact ⟨by assumption, by assumption, by assumption, by assumption⟩ | exact ⟨b0, b1, b2, HB0.out⟩)
      (first
        | (go_at_call 30; refine (HL.out _ (by first | assumption | exact HB0.out)).mono ?_; rintro e w1 ⟨rfl, p0, p1, p2, hb1⟩)
        | (go_at_call 33; refine (HT.out _ (by first | assumption | exact HB0.out)).mono ?_; rintro e w2 ⟨rfl, q0, q1, q2, hb2⟩))
    go_wp2_with (go_at_call 30; refine (HL.out _ hb2).mono ?_; rintro e w3 ⟨rfl, s0, s1, s2, hb3⟩)
    go_ret
    exact ⟨rfl, HBF.out _ hb3⟩
/-- What the document's From returns. -/
def RRowSaid (F : List En) (w : World) (e : Ending) (w' : World) : Prop :=
  ∃ A c, e = .returned (.slice A F.length c) ∧ SRd enC w' (fun k => w.heap.size ≤ k) A F.length c F ∧ Below w.heap.size w w'
theorem from_end {B k most : Int} {n i : Nat} (hi : i ≤ n) (hf : firstN B n k ≤ n) (h1 : i - firstN B n k = 0 ∨ ((i - firstN B n k : Nat) : Int) ≤ most) (h2 : i = n ∨ most ≤ ((i - firstN B n k : Nat) : Int)) : manyN (n - firstN B n k) most = i - firstN B n k := by
  have := many_is (n - firstN B n k) most
  omega
theorem from_more {L : List En} {f i : Nat} {x : En} (hx : L[i]? = some x) : (L.take (i + 1)).drop f = if f ≤ i then (L.take i).drop f ++ [x] else (L.take i).drop f := by
  have hl := (List.getElem?_eq_some_iff.1 hx).1
  rw [take_more hx]
  by_cases h : f ≤ i
  · rw [if_pos h, List.drop_append_of_le_length (by rw [List.length_take]; omega)]
  · rw [if_neg h]
    rw [List.drop_eq_nil_of_le (by rw [List.length_append, List.length_take]; simp; omega), List.drop_eq_nil_of_le (by rw [List.length_take]; omega)]
set_option maxHeartbeats 3200000 in
set_option maxRecDepth 100000 in
theorem RFrom_any (h : SRd enC w Ψ A n c L) (h0 : 0 ≤ B) (h1 : B ≤ 4611686018427387904) (hn : n < 1000000) {k most : Int} :
    Calls Try.prog 20 #[rlV B T A n c, .int .i64 k, .int .i64 most] w (RRowSaid (fromF B L k most) w) := by
  obtain ⟨W, hW, hbW, hWs, hres⟩ := rbox w B T A n c
  obtain ⟨i0, hi0, hz0, hz1, hz2⟩ := info_partsR info_ren
  have hln := h.len
  have hcaps := h.caps
  have hfl : fromF B L k most = (L.drop (firstN B n k)).take (manyN (n - firstN B n k) most) := by unfold fromF; rw [hln]
  have hfn := first_le B n k
  have hfi := first_is B n k
  have HEND : Hid (∀ i, i ≤ n → (i - firstN B n k = 0 ∨ ((i - firstN B n k : Nat) : Int) ≤ most) → (i = n ∨ most ≤ ((i - firstN B n k : Nat) : Int)) → ∀ wr Ar cr, Mk enC 2 47 W ((L.take i).drop (firstN B n k)) Ar (i - firstN B n k) cr wr → RRowSaid (fromF B L k most) w (.returned (.slice Ar (i - firstN B n k) cr)) wr) := Lib.hid fun i hi g1 g2 wr Ar cr hm => by
    have hmn := from_end hi hfn g1 g2
    have e1 : fromF B L k most = (L.take i).drop (firstN B n k) := by
      rw [hfl, hmn, List.take_drop]
      by_cases hfi : firstN B n k ≤ i
      · rw [show firstN B n k + (i - firstN B n k) = i by omega]
      · rw [List.drop_eq_nil_of_le (by rw [List.length_take]; omega), List.drop_eq_nil_of_le (by rw [List.length_take]; omega)]
    rw [e1]
    have hl := hm.len
    refine ⟨Ar, cr, by rw [hl], ?_, hbW.trans (hm.bel.mono hbW.size)⟩
    rw [hl]
    exact hm.rd fun j hj => Nat.le_trans hbW.size hj
  have HBX : Hid (∀ V, Below W.heap.size W V → V.cell? ⟨w.heap.size, 0, none⟩ = some (.int .i64 B) ∧ V.cell? ⟨w.heap.size, 2, none⟩ = some (.slice A n c)) := Lib.hid fun V hb => by
    have x1 := three_cells (hres V hb)
    exact ⟨x1.1, x1.2.2.1⟩
  have HSR : Hid (∀ V, Below W.heap.size W V → SRd enC V Ψ A n c L) := Lib.hid fun V hb => (h.below hbW).below hb
  have HM0 : Hid (Mk enC 2 47 W [] none 0 0 W) := Lib.hid (Mk.start _ _ _ (Below.refl _ _))
  have HLN := Lib.hid hln
  have HW := Lib.hid hW
  unfold rlV
  clear h hbW hW hres hln hfl
  generalize fromF B L k most = F at *
  generalize firstN B n k = f at *
  go_enter Try.func20, Try.ntmps20
  go_upto_region 1 with fail
  rw [← HW.out]
  go_wp2_with fail
  go_loopw [7, 8] (fun v i wr => ∃ (j : Nat) (Ar : Option Addr) (cr : Nat), i = .int .i64 j ∧ j ≤ n ∧ v = .slice Ar (j - f) cr ∧ Hid (j - f = 0 ∨ ((j - f : Nat) : Int) ≤ most) ∧ Hid (Mk enC 2 47 W ((L.take j).drop f) Ar (j - f) cr wr)) (fun _ i _ => n - (intOf i).toNat)
  case atStart => exact ⟨0, none, 0, rfl, Nat.zero_le _, by rw [Nat.zero_sub], Lib.hid (.inl (Nat.zero_sub _)), by rw [List.take_zero, List.drop_nil, Nat.zero_sub]; exact HM0⟩
  case round =>
    clear HM0
    obtain ⟨j, Ar, cr, rfl, hjn, rfl, HJ, HM⟩ := hrel
    obtain ⟨b0, b2⟩ := HBX.out wr HM.out.bel
    by_cases hlt : j < n
    · have hlt' : (j : Int) < n := by omega
      obtain ⟨x, hx⟩ : ∃ x, L[j]? = some x := ⟨_, List.getElem?_eq_getElem (by rw [HLN.out]; exact hlt)⟩
      by_cases hm : ((j - f : Nat) : Int) < most
      · have HMO := Lib.hid (from_more (f := f) hx)
        by_cases hjf : f ≤ j
        · have d1 : decide (k ≤ B + 1 + (j : Int)) = true := decide_eq_true (by omega)
          obtain ⟨g, o, rfl, hg, _, q0, q1⟩ := (HSR.out wr HM.out.bel).en hx
          obtain ⟨V, hV⟩ : ∃ V, V = wr.alloc (.cells #[.int .i64 x.t, .string x.d] 47) := ⟨_, rfl⟩
          have hbV : Below wr.heap.size wr V := by rw [hV]; exact (Below.refl _ _).alloc (Nat.le_refl _) _
          have HMV := Lib.hid (HM.out.later hbV)
          have hnw : ∀ j u, (enC x)[j]? = some u → V.cell? ((⟨wr.heap.size, 0, none⟩ : Addr).add j) = some u := by rw [hV]; exact news_two wr x _
          have HNW := Lib.hid hnw
          have H1 := Lib.hid (one_en x)
          have HL2 : Hid ((enC x).length = 1 * 2) := Lib.hid rfl
          have HAP : Hid (∀ v2 w2, w2.ownsRow W.heap.size 47 2 v2 (j - f + 1) (((L.take j).drop f).flatMap enC ++ enC x) → V.grownBy w2 (Value.slice Ar (j - f) cr).ownBlock → ∃ A2 c2, v2 = .slice A2 (j + 1 - f) c2 ∧ Hid (Mk enC 2 47 W ((L.take (j + 1)).drop f) A2 (j + 1 - f) c2 w2)) := Lib.hid fun v2 w2 ho hg => by
            rw [HMO.out, if_pos hjf]
            exact HMV.out.appsTo (M := [x]) (m := 1) (by omega) rfl rfl (by rw [List.flatMap_singleton]; exact ho) hg
          have hsz := HM.out.bel.size
          have HJ2 : Hid (j + 1 - f = 0 ∨ ((j + 1 - f : Nat) : Int) ≤ most) := Lib.hid (by omega)
          have HV := Lib.hid hV
          clear hV hx hnw hbV HSR HBX HEND
          obtain ⟨xt, xd⟩ := x
          dsimp only at *
          have hnf : j - f < 1000000 := by omega
          have HS2 : Hid (W.heap.size ≤ V.heap.size) := Lib.hid HMV.out.bel.size
          generalize hN : j - f = N at *
          have HN := Lib.hid hN
          clear hN
          generalize enC ⟨xt, xd⟩ = xc at *
          go_wp2_with (rw [← HV.out]; at_builtin; refine wpList_append_src (o := ⟨some 36, _, _, _, _, _⟩) rfl (.tmp 29) (.tmp 35) 27 rfl W.heap.size 47 i0 _ 2 24 Try.underlying27 hi0 hz0 hz1 hz2 rfl (by omega) _ N _ rfl HMV.out.row (some ⟨wr.heap.size, 0, none⟩) 1 1 xc rfl HL2.out (fun e => by cases e) (fun ad had => by cases had; exact HNW.out) H1.out (by unfold maxLen; omega) (by omega) HS2.out ?_; intro v2 w2 ho2 hg2; obtain ⟨A2, c2, rfl, HM2⟩ := HAP.out v2 w2 ho2 hg2; clear ho2 hg2)
          go_roundw
          case rel => exact ⟨j + 1, A2, c2, by go_num, by omega, rfl, HJ2, HM2⟩
          case measure => simp [intOf]; omega
        · have d1 : decide (k ≤ B + 1 + (j : Int)) = false := decide_eq_false (by omega)
          have HM2 : Hid (Mk enC 2 47 W ((L.take (j + 1)).drop f) Ar (j + 1 - f) cr wr) := Lib.hid (by
            rw [HMO.out, if_neg hjf, show j + 1 - f = j - f by omega]
            exact HM.out)
          have HJ2 : Hid (j + 1 - f = 0 ∨ ((j + 1 - f : Nat) : Int) ≤ most) := Lib.hid (.inl (by omega))
          have HEQ : Hid (j - f = j + 1 - f) := Lib.hid (by omega)
          clear hx HSR HBX HEND
          generalize hN : j - f = N at *
          have HN := Lib.hid hN
          clear hN
          go_wp2_with fail
          go_roundw
          case rel => exact ⟨j + 1, Ar, cr, by go_num, by omega, by rw [HEQ.out], HJ2, HM2⟩
          case measure => simp [intOf]; omega
      · have HE := Lib.hid (HEND.out j hjn HJ.out (.inr (by omega)) wr Ar cr HM.out)
        clear hx HSR HBX HEND
        generalize j - f = N at *
        go_wp2_with fail
        go_ret
        exact HE.out
    · obtain rfl : j = n := by omega
      have hd0 : decide ((j : Int) < (j : Int)) = false := decide_eq_false (by omega)
      have HE := Lib.hid (HEND.out j hjn HJ.out (.inl rfl) wr Ar cr HM.out)
      clear HSR HBX HEND
      generalize j - f = N at *
      go_wp2_with fail
      go_ret
      exact HE.out
end
end Go.Proofs.Ytmmddkddjiodbaa
