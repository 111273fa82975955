/- What is proved here: the document's own log: Merge, where something comes. -/
import Derived.Test.YtmmddkddjiodbaaERef4
namespace Go.Proofs.Ytmmddkddjiodbaa
open Go Go.RowKit Go.Maps Go.WideMaps

section
variable {w : World} {B T : Int} {A : Option Addr} {n c : Nat} {L : List En} {Ψ : Nat → Prop}
set_option maxHeartbeats 12800000 in
set_option maxRecDepth 100000 in
/-- .. behind an entry that is there. -/
theorem RMerge_at (h : SRd enC w Ψ A n c L) (h0 : 0 ≤ B) (h1 : B ≤ 4611686018427387904) (hn : n < 800000) {A2 : Option Addr} {m d : Nat} {M : List En} {Ψ2 : Nat → Prop} (hM : WRd enC w Ψ2 A2 m d M) (hm : m < 100000) {p : Nat} (hp : p ≤ n) :
    Calls Try.prog 31 #[rlV B T A n c, .int .i64 (B + p), .int .i64 (termAt B T L (B + p)), .slice A2 m d] w (RLeft3 w Ψ B T (mergeL L p M) (B + p + m) true) := by
  obtain ⟨W, hW, hbW, hWs, hres⟩ := rbox2 w B T A n c
  obtain ⟨i0, hi0, hz0, hz1, hz2⟩ := info_partsR info_ren
  have hln := h.len
  have HBX : Hid (∀ V, Below W.heap.size W V → RBox w V B T A n c) := Lib.hid fun V hb => by
    obtain ⟨a1, a2⟩ := hres V hb
    have x1 := three_cells a1
    have x2 := three_cells a2
    exact ⟨x1.1, x1.2.1, x1.2.2.1, x1.2.2.2.2.2, x2.1, x2.2.1, x2.2.2.1, x2.2.2.2.1, x2.2.2.2.2.1, x2.2.2.2.2.2⟩
  have HSM : Hid (∀ V, Below W.heap.size W V → WRd enC V Ψ2 A2 m d M) := Lib.hid fun V hb => (hM.below hbW).below hb
  have HMN := Lib.hid hM.len
  have HML : Hid (∀ k, k ≤ m → p + k ≤ (mergeL L p (M.take k)).length ∧ (mergeL L p (M.take k)).length < 1000000) := Lib.hid fun k hk => by
    have := mergeL_len (M.take k) L p (by omega)
    rw [List.length_take, hM.len, Nat.min_eq_left hk] at this
    omega
  have HT : Hid (Calls Try.prog 33 #[.agg #[.int .i64 B, .int .i64 T, .slice A n c], .int .i64 (B + p)] W fun e w' => e = .returned (.tuple #[.int .i64 (termAt B T L (B + p)), .bool true]) ∧ Below W.heap.size W w') := Lib.hid (by
    have e1 : hasAt B L (B + p) = true := by unfold hasAt; rw [decide_eq_true_eq]; omega
    have := RTerm_any (T := T) (h.below hbW) h0 h1 (by omega) (k := B + p) (by unfold I64; omega)
    rw [e1] at this
    exact this)
  have HAP : Hid (∀ w2, Below W.heap.size W w2 → ∀ V0, V0 = w2.alloc (.cells #[] 47) → V0.ownsRow W.heap.size 47 2 (.slice (some ⟨w2.heap.size, 0, none⟩) 0 0) 0 [] ∧ Hid (W.heap.size ≤ V0.heap.size) ∧ Hid (∀ ad, A = some ad → ∀ j u, (L.flatMap enC)[j]? = some u → V0.cell? (ad.add j) = some u) ∧
      ∀ v2 w3, w3.ownsRow W.heap.size 47 2 v2 (0 + n) ([] ++ L.flatMap enC) → V0.grownBy w3 (Value.slice (some ⟨w2.heap.size, 0, none⟩) 0 0).ownBlock → ∃ A3 c3, v2 = .slice A3 n c3 ∧ Hid (Mk enC 2 47 W (mergeL L p (M.take 0)) A3 n c3 w3)) := Lib.hid fun w2 hb V0 hV0 => by
    have hm0 : Mk enC 2 47 W [] (some ⟨w2.heap.size, 0, none⟩) 0 0 V0 := by rw [hV0]; exact Mk.empty enC 2 _ hb
    refine ⟨hm0.row, Lib.hid hm0.bel.size, Lib.hid ((h.below hbW).below hm0.bel).news, fun v2 w3 ho hg => ?_⟩
    rw [List.take_zero, mergeL]
    exact hm0.appsTo (by omega) (List.nil_append _) hln ho hg
  have HLF : Hid ((L.flatMap enC).length = n * 2) := Lib.hid (by rw [fm_len en_len, hln])
  have H1L : Hid (∀ u ∈ L.flatMap enC, u.oneCell' = true) := Lib.hid (ones one_en L)
  have hnil := h.nil
  have hcaps := h.caps
  have hcaps2 := hM.caps
  have HFIN : Hid (∀ V Ar nr cr, Mk enC 2 47 W (mergeL L p (M.take m)) Ar nr cr V → RBox w V B T A n c ∧ RBox w (V.setCell ⟨w.heap.size, 2, none⟩ (.slice Ar nr cr)) B T Ar nr cr ∧ RFin w (fin3 w (V.setCell ⟨w.heap.size, 2, none⟩ (.slice Ar nr cr)) B T Ar nr cr) Ψ B T Ar nr cr (mergeL L p M) (B + p + m) true) := Lib.hid fun V Ar nr cr hm => by
    rw [List.take_of_length_le (by rw [hM.len]; exact Nat.le_refl _)] at hm
    exact rmerge_end hWs hbW hm (hres V hm.bel).1 (hres V hm.bel).2 _ _
  have d1 : ¬ (B + (p : Int) < B) := by omega
  have hs1 : B + (p : Int) + m ≤ 4611686018427387904 + 1000000 := by omega
  have hs2 : 0 ≤ B + (p : Int) + m := by omega
  have hpl : B + (p : Int) - B = p := by omega
  obtain ⟨b0, b1, b2, f2, r0, r1, r2, g0, g1, g2⟩ := HBX.out W (Below.refl _ _)
  have HW := Lib.hid hW
  have HWS0 := Lib.hid hWs
  clear h hM hW hbW hres hln hWs f2 r0 r1 r2 g0 g1 g2
  unfold rlV
  generalize termAt B T L (B + p) = tm at *
  have e1 : (tm == tm) = true := beq_self_eq_true _
  generalize hLF : L.flatMap enC = LF at *
  clear hLF
  go_enter Try.func31, Try.ntmps31
  go_upto_region 1 with fail
  rw [← HW.out]
  go_wp2_with (first
    | (go_at_call 33; refine HT.out.mono ?_; rintro e w2 ⟨rfl, hb⟩; obtain ⟨b0, b1, b2, f2, r0, r1, r2, g0, g1, g2⟩ := HBX.out w2 hb; have hz9 : w.heap.size < w2.heap.size := (by have := hb.size; have := HWS0.out; omega); obtain ⟨ow0, hs0, hn0, hr0⟩ := HAP.out w2 hb _ rfl; have HOW0 := Lib.hid ow0; have HR0 := Lib.hid hr0; clear hb f2 r0 r1 r2 g0 g1 g2 ow0 hr0)
    | (at_builtin; refine wpList_append_src (o := ⟨some 60, _, _, _, _, _⟩) rfl (.tmp 57) (.tmp 59) 27 rfl W.heap.size 47 i0 _ 2 24 Try.underlying27 hi0 hz0 hz1 hz2 rfl (by omega) _ 0 [] rfl HOW0.out A n c LF rfl HLF.out hnil hn0.out H1L.out (by unfold maxLen; omega) (by omega) hs0.out ?_; intro v2 w3 ho2 hg2; obtain ⟨A3, c3, rfl, HM0⟩ := HR0.out v2 w3 ho2 hg2; clear ho2 hg2))
  clear HOW0 HR0 hs0 hn0 b0 b1 b2 hz9
  go_loopw [15, 16, 17] (fun v i _ wr => ∃ (k : Nat) (Ar : Option Addr) (nr cr : Nat), i = .int .i64 k ∧ k ≤ m ∧ v = .slice Ar nr cr ∧ Hid (Mk enC 2 47 W (mergeL L p (M.take k)) Ar nr cr wr)) (fun _ i _ _ => m - (intOf i).toNat)
  case atStart => exact ⟨0, _, _, _, rfl, Nat.zero_le _, rfl, HM0⟩
  case round =>
    clear HM0
    obtain ⟨k, Ar, nr, cr, rfl, hkn, rfl, HM⟩ := hrel
    obtain ⟨b0, b1, b2, f2, r0, r1, r2, g0, g1, g2⟩ := HBX.out wr HM.out.bel
    have hml := HML.out k hkn
    rw [HM.out.len] at hml
    by_cases hlt : k < m
    · have hlt' : (k : Int) < m := by omega
      obtain ⟨x, hx⟩ : ∃ x, M[k]? = some x := ⟨_, List.getElem?_eq_getElem (by rw [HMN.out]; exact hlt)⟩
      obtain ⟨g, o, hA, hg, _, q0, q1⟩ := (HSM.out wr HM.out.bel).en hx
      cases hA
      have HTK := Lib.hid (mergeL_more (L := L) (p := p) hx)
      have H1 := Lib.hid (one_en x)
      have HL2 : Hid ((enC x).length = 1 * 2) := Lib.hid rfl
      have HQ : Hid (∀ V, Below W.heap.size W V → V.cell? ⟨g, o + k * 2, none⟩ = some (.int .i64 x.t) ∧ V.cell? ⟨g, o + k * 2 + 1, none⟩ = some (.string x.d)) := Lib.hid fun V hb => by
        obtain ⟨g', o', e', _, _, z0, z1⟩ := (HSM.out V hb).en hx
        cases e'
        exact ⟨z0, z1⟩
      have HNX : Hid (∀ V : World, ∀ (j : Nat) (u : Value), (enC x)[j]? = some u → (V.alloc (.cells #[.int .i64 x.t, .string x.d] 47)).cell? ((⟨V.heap.size, 0, none⟩ : Addr).add j) = some u) := Lib.hid fun V => news_two V x _
      rcases Nat.lt_or_ge (p + k) nr with hpn | hpn
      · obtain ⟨y, hyx⟩ : ∃ y, (mergeL L p (M.take k))[(p + k)]? = some y := ⟨_, List.getElem?_eq_getElem (by rw [HM.out.len]; exact hpn)⟩
        have d1 : decide (((p : Int) + (k : Int)) < (nr : Int)) = true := decide_eq_true (by omega)
        have d1' : ((p : Int) + (k : Int)) < (nr : Int) := by omega
        obtain ⟨g3, o3, rfl, hg3, _, u0, u1⟩ := (HM.out.rd (Ψ := fun _ => True) fun _ _ => trivial).en hyx
        have HDW : Hid (∀ q, Below wr.heap.size wr (wr.drewN q)) := Lib.hid fun q => (Chg.drewN (Φ := fun _ => False) wr q).below (Nat.le_refl _) fun _ h => h.elim
        by_cases ht : y.t = x.t
        · have e1 : (y.t == x.t) = true := by rw [ht]; exact beq_self_eq_true _
          have HM2 : Hid (∀ q, Mk enC 2 47 W (mergeL L p (M.take (k + 1))) (some ⟨g3, o3, none⟩) nr cr (wr.drewN q)) := Lib.hid fun q => by
            have e2 : takeF (mergeL L p (M.take k)) (p + k) x = mergeL L p (M.take k) := by unfold takeF; rw [hyx]; dsimp only; rw [if_pos ht]
            rw [HTK.out, show p + k = p + k from rfl, e2]
            exact HM.out.later (HDW.out q)
          clear ht hx hyx hg hg3 u1 q1 HNX HQ HTK hml r0 r1 r2 g0 g1 g2 f2
          generalize y.t = yt at *
          generalize x.t = xt at *
          go_upto_region 17 with fail
          go_quiet (fail)
          have HM3 := Lib.hid (HM2.out nq)
          clear b0 b1 b2 u0 q0 HM2
          generalize wr.drewN nq = V at *
          go_wp2_with fail
          go_roundw
          case rel => exact ⟨k + 1, _, _, _, by go_num, by omega, rfl, HM3⟩
          case measure => simp [intOf]; omega
        · have e1 : (y.t == x.t) = false := beq_eq_false_iff_ne.2 ht
          have hTF : takeF (mergeL L p (M.take k)) (p + k) x = (mergeL L p (M.take k)).take (p + k) ++ [x] := by unfold takeF; rw [hyx]; dsimp only; rw [if_neg ht]
          have HTF := Lib.hid hTF
          have HR3 : Hid (∀ q, (∀ V0, V0 = (wr.drewN q).alloc (.cells #[] 47) → V0.ownsRow W.heap.size 47 2 (.slice (some ⟨wr.heap.size, 0, none⟩) 0 0) 0 [] ∧ Hid (W.heap.size ≤ V0.heap.size) ∧ (∀ ad, some (⟨g3, o3, none⟩ : Addr) = some ad → ∀ j u, (((mergeL L p (M.take k)).take (p + k)).flatMap enC)[j]? = some u → V0.cell? (ad.add j) = some u) ∧
              ∀ v2 w2, w2.ownsRow W.heap.size 47 2 v2 (0 + (p + k)) ([] ++ ((mergeL L p (M.take k)).take (p + k)).flatMap enC) → V0.grownBy w2 (Value.slice (some ⟨wr.heap.size, 0, none⟩) 0 0).ownBlock → ∃ A2 c2, v2 = .slice A2 (p + k) c2 ∧ w2.cell? ⟨g, o + k * 2, none⟩ = some (.int .i64 x.t) ∧ w2.cell? ⟨g, o + k * 2 + 1, none⟩ = some (.string x.d) ∧ Hid (Mk enC 2 47 W ((mergeL L p (M.take k)).take (p + k)) A2 (p + k) c2 w2))) := Lib.hid fun q V0 hV0 => by
            have hbq := HDW.out q
            have hm0 : Mk enC 2 47 W [] (some ⟨wr.heap.size, 0, none⟩) 0 0 V0 := by rw [hV0]; exact Mk.empty enC 2 _ (HM.out.bel.trans (hbq.mono HM.out.bel.size))
            have hb0 : Below wr.heap.size wr V0 := by rw [hV0]; exact hbq.alloc hbq.size _
            have hrd := ((HM.out.rd (Ψ := fun _ => True) fun _ _ => trivial).below hb0).take en_len (m := (p + k)) (by omega)
            refine ⟨hm0.row, Lib.hid hm0.bel.size, hrd.news, fun v2 w2 ho hg => ?_⟩
            obtain ⟨A2, c2, e2, hm2⟩ := hm0.appsTo (k := (p + k)) (by omega) (List.nil_append _) (by rw [List.length_take, HM.out.len]; omega) ho hg
            obtain ⟨z0, z1⟩ := HQ.out w2 hm2.out.bel
            exact ⟨A2, c2, e2, z0, z1, hm2⟩
          have HR4 : Hid (∀ w2 A2 c2, Mk enC 2 47 W ((mergeL L p (M.take k)).take (p + k)) A2 (p + k) c2 w2 → ∀ V1, V1 = w2.alloc (.cells #[.int .i64 x.t, .string x.d] 47) → V1.ownsRow W.heap.size 47 2 (.slice A2 (p + k) c2) (p + k) (((mergeL L p (M.take k)).take (p + k)).flatMap enC) ∧ Hid (W.heap.size ≤ V1.heap.size) ∧ Hid (∀ j u, (enC x)[j]? = some u → V1.cell? ((⟨w2.heap.size, 0, none⟩ : Addr).add j) = some u) ∧
              ∀ v3 w3, w3.ownsRow W.heap.size 47 2 v3 ((p + k) + 1) (((mergeL L p (M.take k)).take (p + k)).flatMap enC ++ enC x) → V1.grownBy w3 (Value.slice A2 (p + k) c2).ownBlock → ∃ A3 c3, v3 = .slice A3 ((p + k) + 1) c3 ∧ Hid (Mk enC 2 47 W (mergeL L p (M.take (k + 1))) A3 ((p + k) + 1) c3 w3)) := Lib.hid fun w2 A2 c2 hm V1 hV1 => by
            have hbV : Below w2.heap.size w2 V1 := by rw [hV1]; exact (Below.refl _ _).alloc (Nat.le_refl _) _
            have hm1 := hm.later hbV
            refine ⟨hm1.row, Lib.hid hm1.bel.size, Lib.hid (by rw [hV1]; exact HNX.out w2), fun v3 w3 ho hg => ?_⟩
            rw [HTK.out, show p + k = p + k from rfl, HTF.out]
            exact hm1.appsTo (M := [x]) (m := 1) rfl rfl rfl (by rw [List.flatMap_singleton]; exact ho) hg
          have HPF : Hid ((((mergeL L p (M.take k)).take (p + k)).flatMap enC).length = (p + k) * 2) := Lib.hid (by rw [fm_len en_len, List.length_take, HM.out.len, Nat.min_eq_left (by omega)])
          have H1P : Hid (∀ u ∈ ((mergeL L p (M.take k)).take (p + k)).flatMap enC, u.oneCell' = true) := Lib.hid (ones one_en _)
          have hpz : (p + k) < 1000000 := by omega
          have hcr : nr ≤ cr ∧ cr ≤ 9223372036854775807 := (HM.out.rd (Ψ := fun _ => True) fun _ _ => trivial).caps
          clear ht hx hyx hg hg3 u1 q1 HNX HQ HTK HTF hTF hml r0 r1 r2 g0 g1 g2 f2 HM
          generalize hpf : ((mergeL L p (M.take k)).take (p + k)).flatMap enC = PF at *
          clear hpf
          generalize (mergeL L p (M.take k)).take (p + k) = PL at *
          generalize enC x = xc at *
          generalize y.t = yt at *
          obtain ⟨xt, xd⟩ := x
          dsimp only at *
          go_upto_region 17 with fail
          go_quiet (fail)
          have HR3' := Lib.hid (HR3.out nq)
          have HWS : Hid ((wr.drewN nq).heap.size = wr.heap.size) := Lib.hid rfl
          clear b0 b1 b2 u0 q0 HR3 HDW
          generalize wr.drewN nq = V at *
          obtain ⟨V0, hV0⟩ : ∃ V0, V0 = V.alloc (.cells #[] 47) := ⟨_, rfl⟩
          obtain ⟨ow0, hs0, hn0, hr0⟩ := HR3'.out V0 hV0
          have HOW0 := Lib.hid ow0
          have Hm := Lib.hid hn0
          have HR0 := Lib.hid hr0
          have HV0 := Lib.hid hV0
          clear ow0 hn0 hr0 hV0 HR3'
          go_wp2_with (first
            | (rw [← HV0.out, HWS.out]; at_builtin; refine wpList_append_src (o := ⟨some 98, _, _, _, _, _⟩) rfl (.tmp 94) (.tmp 97) 27 rfl W.heap.size 47 i0 _ 2 24 Try.underlying27 hi0 hz0 hz1 hz2 rfl (by omega) _ 0 [] rfl HOW0.out (some ⟨g3, o3, none⟩) (p + k) cr PF rfl HPF.out (fun e => by cases e) Hm.out H1P.out (by unfold maxLen; omega) (by omega) hs0.out ?_; intro v2 w2 ho2 hg2; obtain ⟨A2, c2, rfl, q0, q1, HM2⟩ := HR0.out v2 w2 ho2 hg2; obtain ⟨ow1, hs1, hn1, hr1⟩ := HR4.out w2 A2 c2 HM2.out _ rfl; have HOW1 := Lib.hid ow1; have HR1 := Lib.hid hr1; clear ho2 hg2 ow1 hr1 HR4)
            | (at_builtin; refine wpList_append_src (o := ⟨some 105, _, _, _, _, _⟩) rfl (.tmp 99) (.tmp 104) 27 rfl W.heap.size 47 i0 _ 2 24 Try.underlying27 hi0 hz0 hz1 hz2 rfl (by omega) _ (p + k) PF rfl HOW1.out (some ⟨w2.heap.size, 0, none⟩) 1 1 xc rfl HL2.out (fun e => by cases e) (fun ad had => by cases had; exact hn1.out) H1.out (by unfold maxLen; omega) (by omega) hs1.out ?_; intro v3 w3 ho3 hg3; obtain ⟨A3, c3, rfl, HM3⟩ := HR1.out v3 w3 ho3 hg3; clear ho3 hg3))
          go_roundw
          case rel => exact ⟨k + 1, _, _, _, by go_num, by omega, rfl, HM3⟩
          case measure => simp [intOf]; omega
      · obtain hpe : (p + k) = nr := by omega
        subst hpe
        have d1 : decide (((p : Int) + (k : Int)) < ((p + k : Nat) : Int)) = false := decide_eq_false (by omega)
        have d1' : ¬ ((p : Int) + (k : Int)) < ((p + k : Nat) : Int) := by omega
        have hTF : takeF (mergeL L p (M.take k)) (p + k) x = mergeL L p (M.take k) ++ [x] := by
          unfold takeF
          rw [List.getElem?_eq_none (by rw [HM.out.len]; exact Nat.le_refl _)]
          dsimp only
          rw [List.take_of_length_le (by rw [HM.out.len]; exact Nat.le_refl _)]
        have HTF := Lib.hid hTF
        have HR4 : Hid (∀ q, (wr.drewN q).cell? ⟨g, o + k * 2, none⟩ = some (.int .i64 x.t) ∧ (wr.drewN q).cell? ⟨g, o + k * 2 + 1, none⟩ = some (.string x.d) ∧ ∀ V1, V1 = (wr.drewN q).alloc (.cells #[.int .i64 x.t, .string x.d] 47) → V1.ownsRow W.heap.size 47 2 (.slice Ar (p + k) cr) (p + k) ((mergeL L p (M.take k)).flatMap enC) ∧ Hid (W.heap.size ≤ V1.heap.size) ∧ Hid (∀ j u, (enC x)[j]? = some u → V1.cell? ((⟨wr.heap.size, 0, none⟩ : Addr).add j) = some u) ∧
            ∀ v3 w3, w3.ownsRow W.heap.size 47 2 v3 ((p + k) + 1) ((mergeL L p (M.take k)).flatMap enC ++ enC x) → V1.grownBy w3 (Value.slice Ar (p + k) cr).ownBlock → ∃ A3 c3, v3 = .slice A3 ((p + k) + 1) c3 ∧ Hid (Mk enC 2 47 W (mergeL L p (M.take (k + 1))) A3 ((p + k) + 1) c3 w3)) := Lib.hid fun q => by
          have hbq : Below wr.heap.size wr (wr.drewN q) := (Chg.drewN (Φ := fun _ => False) wr q).below (Nat.le_refl _) fun _ h => h.elim
          obtain ⟨z0, z1⟩ := HQ.out (wr.drewN q) (HM.out.bel.trans (hbq.mono HM.out.bel.size))
          refine ⟨z0, z1, fun V1 hV1 => ?_⟩
          have hbV : Below wr.heap.size wr V1 := by rw [hV1]; exact hbq.alloc hbq.size _
          have hm1 := HM.out.later hbV
          refine ⟨hm1.row, Lib.hid hm1.bel.size, Lib.hid (by rw [hV1]; exact HNX.out (wr.drewN q)), fun v3 w3 ho hg => ?_⟩
          rw [HTK.out, show p + k = p + k from rfl, HTF.out]
          exact hm1.appsTo (M := [x]) (m := 1) rfl rfl rfl (by rw [List.flatMap_singleton]; exact ho) hg
        have hpz : (p + k) < 1000000 := by omega
        clear hx hg q0 q1 HNX HQ HTK HTF hTF hml r0 r1 r2 g0 g1 g2 f2 HM hpn
        generalize hpf : (mergeL L p (M.take k)).flatMap enC = PF at *
        clear hpf
        generalize enC x = xc at *
        obtain ⟨xt, xd⟩ := x
        dsimp only at *
        go_upto_region 17 with fail
        go_quiet (fail)
        obtain ⟨q0, q1, hr4⟩ := HR4.out nq
        have HWS : Hid ((wr.drewN nq).heap.size = wr.heap.size) := Lib.hid rfl
        clear b0 b1 b2 HR4
        generalize wr.drewN nq = V at *
        obtain ⟨ow1, hs1, hn1, hr1⟩ := hr4 _ rfl
        have HOW1 := Lib.hid ow1
        have HR1 := Lib.hid hr1
        clear ow1 hr1 hr4
        go_wp2_with (rw [HWS.out]; at_builtin; refine wpList_append_src (o := ⟨some 105, _, _, _, _, _⟩) rfl (.tmp 99) (.tmp 104) 27 rfl W.heap.size 47 i0 _ 2 24 Try.underlying27 hi0 hz0 hz1 hz2 rfl (by omega) _ (p + k) PF rfl HOW1.out (some ⟨wr.heap.size, 0, none⟩) 1 1 xc rfl HL2.out (fun e => by cases e) (fun ad had => by cases had; exact hn1.out) H1.out (by unfold maxLen; omega) (by omega) hs1.out ?_; intro v3 w3 ho3 hg3; obtain ⟨A3, c3, rfl, HM3⟩ := HR1.out v3 w3 ho3 hg3; clear ho3 hg3)
        go_roundw
        case rel => exact ⟨k + 1, _, _, _, by go_num, by omega, rfl, HM3⟩
        case measure => simp [intOf]; omega
    · obtain rfl : k = m := by omega
      have hd0 : decide ((k : Int) < (k : Int)) = false := decide_eq_false (by omega)
      obtain ⟨_, v1, hfin⟩ := HFIN.out wr Ar nr cr HM.out
      obtain ⟨k0, k1, k2, HX⟩ := hfin
      obtain ⟨vb0, vb1, vb2, vf2, vr0, vr1, vr2, vg0, vg1, vg2⟩ := v1
      unfold fin3 at k0 k1 k2 HX
      have HX2 := Lib.hid HX
      clear HX HSM hml
      go_wp2_with fail
      exact bodyPost_ret (v := .tuple #[.agg #[.int .i64 B, .int .i64 T, .slice Ar nr cr], .int .i64 (B + p + k), .bool true]) (by simp [results, Try.results31, go_sem, k0, k1, k2]) rfl HX2.out
end
end Go.Proofs.Ytmmddkddjiodbaa
