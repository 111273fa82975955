/- What is proved here: EntryDoes. -/
import Derived.Test.YtmmddkddjiodbaaEPair
namespace Go.Proofs.Ytmmddkddjiodbaa
open Go Go.RowKit Go.Maps Go.WideMaps

/-- A call that comes in, laid in a block of the law's own. -/
def opBox (w : World) (p : OpM) : World := w.alloc (.cells #[.int .i64 p.kind, .int .i64 p.at_, .int .i64 p.term, .slice p.A p.n p.c] 32)
theorem op_box (w : World) (p : OpM) {V : World} (hV : V = w.alloc (.cells #[.int .i64 p.kind, .int .i64 p.at_, .int .i64 p.term, .slice p.A p.n p.c] 32)) : Below w.heap.size w V ∧ V.cell? ⟨w.heap.size, 0, none⟩ = some (.int .i64 p.kind) ∧ V.cell? ⟨w.heap.size, 1, none⟩ = some (.int .i64 p.at_) ∧ V.cell? ⟨w.heap.size, 2, none⟩ = some (.int .i64 p.term) ∧ V.cell? ⟨w.heap.size, 3, none⟩ = some (.slice p.A p.n p.c) := by
  subst hV
  exact ⟨(Below.refl _ _).alloc (Nat.le_refl _) _, four_cells (heap_alloc_new _ _)⟩
theorem few_ops {w : World} {A : Option Addr} {n c : Nat} {l : List OpM} (h : OpsRd w A n c l) (hf : FewOk l) {wr : World} (hb : Below w.heap.size w wr) {k : Nat} (hk : k < n) :
    ∃ p g o, l[k]? = some p ∧ OpOk w w.heap.size p ∧ p.n ≤ 400 ∧ sumN (l.take k) ≤ 400 ∧ sumN (l.take (k + 1)) = sumN (l.take k) + p.n ∧ A = some ⟨g, o, none⟩ ∧ wr.cell? ⟨g, o + k * 4, none⟩ = some (.int .i64 p.kind) ∧ wr.cell? ⟨g, o + k * 4 + 1, none⟩ = some (.int .i64 p.at_) ∧ wr.cell? ⟨g, o + k * 4 + 2, none⟩ = some (.int .i64 p.term) ∧ wr.cell? ⟨g, o + k * 4 + 3, none⟩ = some (.slice p.A p.n p.c) := by
  obtain ⟨p, hp⟩ : ∃ p, l[k]? = some p := ⟨_, List.getElem?_eq_getElem (by rw [h.rd.len]; exact hk)⟩
  obtain ⟨g, o, e, _, _, q0, q1, q2, q3⟩ := (h.rd.below' hb).op hp
  have h1 := sumN_more hp
  have h2 := sumN_le l (k + 1)
  have h3 := hf.s400
  exact ⟨p, g, o, hp, h.ok p (List.mem_of_getElem? hp), by omega, by omega, h1, e, q0, q1, q2, q3⟩
section
variable {w V : World} {b rb s : Nat} {Φ : Nat → Prop} {B T : Int} {L : List En} {A : Option Addr} {n c : Nat}
def st3 (V : World) (rb : Nat) (B T : Int) (A : Option Addr) (n c : Nat) : World := ((V.setCell ⟨rb, 0, none⟩ (.int .i64 B)).setCell ⟨rb, 1, none⟩ (.int .i64 T)).setCell ⟨rb, 2, none⟩ (.slice A n c)
/-- A round: does, Same, and the document's new log laid over the old one. -/
theorem pair_round (h : PairV w V b rb s Φ B T L A n c) (hs : s ≤ 400) {p : OpM} (hok : OpOk w w.heap.size p) (hm : p.n ≤ 400) :
    Calls Try.prog 17 #[.pointer (some ⟨b, 0, none⟩), .agg #[.int .i64 B, .int .i64 T, .slice A n c], .agg #[.int .i64 p.kind, .int .i64 p.at_, .int .i64 p.term, .slice p.A p.n p.c]] V fun e w2 => ∃ (B2 T2 : Int) (A2 : Option Addr) (n2 c2 : Nat), e = .returned (.tuple #[.agg #[.int .i64 B2, .int .i64 T2, .slice A2 n2 c2], .bool true]) ∧
      Hid (∀ V3, V3 = w2.alloc (.cells #[.int .i64 B2, .int .i64 T2, .slice A2 n2 c2] 29) → V3.cell? ⟨w2.heap.size, 0, none⟩ = some (.int .i64 B2) ∧ V3.cell? ⟨w2.heap.size, 1, none⟩ = some (.int .i64 T2) ∧ V3.cell? ⟨w2.heap.size, 2, none⟩ = some (.slice A2 n2 c2) ∧
        Hid (Calls Try.prog 18 #[.pointer (some ⟨b, 0, none⟩), .agg #[.int .i64 B2, .int .i64 T2, .slice A2 n2 c2]] V3 fun e w6 => e = .returned (.bool true) ∧ w6.cell? ⟨w2.heap.size, 0, none⟩ = some (.int .i64 B2) ∧ w6.cell? ⟨w2.heap.size, 1, none⟩ = some (.int .i64 T2) ∧ w6.cell? ⟨w2.heap.size, 2, none⟩ = some (.slice A2 n2 c2) ∧
          w6.cell? ⟨rb, 0, none⟩ = some (.int .i64 B) ∧ w6.cell? ⟨rb, 1, none⟩ = some (.int .i64 T) ∧ w6.cell? ⟨rb, 2, none⟩ = some (.slice A n c) ∧ w6.frozen? ⟨rb, 0, none⟩ = false ∧ w6.frozen? ⟨rb, 1, none⟩ = false ∧ w6.frozen? ⟨rb, 2, none⟩ = false ∧
          Hid (∃ Φ2 L2, PairV w (st3 w6 rb B2 T2 A2 n2 c2) b rb (s + p.n) Φ2 B2 T2 L2 A2 n2 c2))) := by
  refine (pair_does h (Below.refl _ _) (by omega) hok hm).mono ?_
  rintro e w2 ⟨A2, n2, c2, rfl, _, _, _, _, _, _, HD⟩
  refine ⟨_, _, A2, n2, c2, rfl, Lib.hid fun V3 hV3 => ?_⟩
  have hb3 : Below w2.heap.size w2 V3 := by rw [hV3]; exact (Below.refl _ _).alloc (Nat.le_refl _) _
  have hk3 : V3.heap[w2.heap.size]? = some (.cells #[.int .i64 (doesF B T L p).1, .int .i64 (doesF B T L p).2.1, .slice A2 n2 c2] 29 (0, 0)) := by rw [hV3]; exact heap_alloc_new _ _
  have x3 := three_cells hk3
  refine ⟨x3.1, x3.2.1, x3.2.2.1, Lib.hid ?_⟩
  obtain ⟨⟨Φ2, g1, g2, g3, g4, g5, g6, g7⟩, hold⟩ := HD.out
  have g70 := g7.b0
  have g71 := g7.last
  have g72 := g7.len
  have gl := g6.len
  refine (Same_any (g1.later hb3) (g6.below hb3) g70 (by omega) (by omega)).mono ?_
  rintro e w6 ⟨rfl, hb6⟩
  have hb26 : Below w2.heap.size w2 w6 := hb3.trans (hb6.mono hb3.size)
  have x6 := three_cells ((hb6.block _ (Array.getElem?_eq_some_iff.1 hk3).1).trans hk3)
  have o6 := three_cells ((hb26.block _ (Array.getElem?_eq_some_iff.1 hold).1).trans hold)
  obtain ⟨Φ3, hp3⟩ := HD.out.store hb26
  exact ⟨rfl, x6.1, x6.2.1, x6.2.2.1, o6.1, o6.2.1, o6.2.2.1, o6.2.2.2.1, o6.2.2.2.2.1, o6.2.2.2.2.2, Lib.hid ⟨Φ3, _, hp3⟩⟩
abbrev e99 : En := ⟨99, ⟨#[]⟩⟩
theorem last_has (B : Int) (L : List En) : hasAt B L (B + L.length) = true := by unfold hasAt; rw [decide_eq_true_eq]; omega
/-- A copy goes on; the elder one has one more, and all of it is past. -/
theorem pair_copy (h : PairV w V b rb s Φ B T L A n c) (hs : s ≤ 400) {ob : Nat} {cs : Array Value} {t : TypeId} (hob : V.heap[ob]? = some (.cells cs t (0, 0))) (hno : ¬ Φ ob) :
    Calls Try.prog 13 #[.pointer (some ⟨b, 0, none⟩)] V fun e w2 => ∃ (b' : Nat) (la : Int), e = .returned (.pointer (some ⟨b', 0, none⟩)) ∧
      Hid (Calls Try.prog 14 #[.pointer (some ⟨b, 0, none⟩), .agg #[.int .i64 99, .string ⟨#[]⟩]] w2 fun e w3 => e = .returned (.int .i64 la) ∧
        Hid (Calls Try.prog 16 #[.pointer (some ⟨b, 0, none⟩)] w3 fun e w4 => e = .returned (.int .i64 la) ∧
          Hid (Calls Try.prog 15 #[.pointer (some ⟨b, 0, none⟩), .int .i64 la] w4 fun e w5 => e = .returned (.int .i64 0) ∧ w5.heap[ob]? = some (.cells cs t (0, 0)) ∧ Hid (∃ Φ', PairV w w5 b' rb s Φ' B T L A n c)))) := by
  have hb0 := h.bnd.b0
  have hb1 := h.bnd.last
  have hb2 := h.bnd.len
  refine (Copy_any h.log (by omega)).mono ?_
  rintro e w2 ⟨b', rfl, hl', hbC⟩
  refine ⟨b', B + (L ++ [e99]).length, rfl, Lib.hid ?_⟩
  have hlen : (L ++ [e99]).length = L.length + 1 := by simp
  refine (Add_any (h.log.later hbC) hb0 (by omega) (by omega) e99).mono ?_
  rintro e w3 ⟨rfl, Φ3, a1, a2⟩
  refine ⟨rfl, Lib.hid ?_⟩
  refine (Last_any a1 hb0 (by omega) (by omega)).mono ?_
  rintro e w4 ⟨rfl, q, rfl⟩
  refine ⟨rfl, Lib.hid ?_⟩
  have hb4 : Below w3.heap.size w3 (w3.drewN q) := (Chg.drewN (Φ := fun _ => False) w3 q).below (Nat.le_refl _) fun _ h => h.elim
  refine (Pass_ok (a1.later hb4) hb0 (by omega) (by omega) (last_has B _)).mono ?_
  rintro e w5 ⟨rfl, Φ5, c1, c2⟩
  have hx : Nxt w2 w5 Φ Φ5 := (a2.trans (Nxt.of_below hb4)).trans c2
  have hcV : Chg Φ V w5 := (Chg.of_below hbC).trans hx.chg fun k _ hk => hk
  have hsz := hbC.size
  refine ⟨rfl, hcV.heap hob hno, Lib.hid ⟨fun k => V.heap.size ≤ k ∧ k < w2.heap.size, ?_, fun k hk => Nat.le_trans h.bel.size hk.1, h.bel.trans (hcV.below h.bel.size h.new), hcV.heap h.blk h.nrb, fun hk => ?_, h.wrb, ?_, h.bnd⟩⟩
  · exact hl'.keep hx.chg fun k hk e => by have := h.log.bnd k e; omega
  · have := (Array.getElem?_eq_some_iff.1 h.blk).1
    omega
  · exact h.row.keep hcV (fun k hk => hk) fun k hk _ e => by omega
end
set_option maxHeartbeats 6400000 in
set_option maxRecDepth 100000 in
theorem entryDoes_any {w : World} {A : Option Addr} {n c : Nat} {ops : List OpM} (hops : OpsRd w A n c ops) {x y : Int} (hx : I64 x) :
    Calls Try.prog 3 #[.int .i64 x, .int .i64 y, .slice A n c] w fun e w' => e = .returned (.bool true) ∧ Below w.heap.size w w' := by
  have HAW := Lib.hid fun W => awake_any W
  have HFE := Lib.hid (few_any hops)
  have HN := Lib.hid (pair_new (Below.refl w.heap.size w) x y)
  have HRN := Lib.hid fun W => RNew_any x y W
  have HOPS := Lib.hid hops
  have hcaps := hops.rd.caps
  clear hops
  unfold I64 at hx
  unfold rlV at HRN
  by_cases hxg : 1099511627776 < x
  · have hxd : decide (1099511627776 < x) = true := decide_eq_true hxg
    clear HN HRN
    go_enter Try.func3, Try.ntmps3
    go_wp2_with (first
      | (go_at_call 9; refine HFE.out.mono ?_; intro e w1 hh; obtain ⟨q, rfl, hq, rfl⟩ := hh; clear hq; cases q)
      | (go_at_call 10; refine (HAW.out _).mono ?_; rintro e w1 ⟨rfl, hb⟩; have HB := Lib.hid hb; clear hb))
    all_goals
      go_ret
      exact ⟨rfl, HB.out⟩
  · have hxd : decide (1099511627776 < x) = false := decide_eq_false hxg
    have hxg2 : x ≤ 1099511627776 := by omega
    go_enter Try.func3, Try.ntmps3
    go_upto_region 3 with (first
      | (go_at_call 9; refine HFE.out.mono ?_; intro e w1 hh; obtain ⟨q, rfl, hq, rfl⟩ := hh; have HQ := Lib.hid hq; clear hq; cases q)
      | (go_at_call 10; refine (HAW.out _).mono ?_; rintro e w1 ⟨rfl, hb⟩; have HB := Lib.hid hb; clear hb))
    · go_ret
      exact ⟨rfl, HB.out⟩
    · clear HAW
      have HAW := Lib.hid fun W => awake_any W
      have hf := HQ.out (by first | trivial | rfl)
      have HF := Lib.hid hf
      have hn60 : n ≤ 60 := by have := hf.n60; have := HOPS.out.rd.len; omega
      clear hf HQ
      go_wp2_with (first
        | (go_at_call 11; refine HN.out.mono ?_; rintro e w2 ⟨rfl, HL⟩)
        | (go_at_call 12; refine (HRN.out _).mono ?_; rintro e w3 ⟨rfl, hb3⟩; have HP0 := Lib.hid (pair_begin (w := w) (Nat.le_refl _) HL.out.1 HL.out.2.1 hb3 hxg2); clear hb3))
      generalize hrb : w3.heap.size = rb at *
      clear hrb
      clear HN HRN
      go_loopw [7, 32] (fun v i wr => ∃ (k b : Nat), i = .int .i64 k ∧ k ≤ n ∧ v = .pointer (some ⟨b, 0, none⟩) ∧ Hid (∃ Φ B T L A nr cr, PairV w wr b rb (sumN (ops.take k)) Φ B T L A nr cr)) (fun _ i _ => n - (intOf i).toNat)
      case atStart => exact ⟨0, w.heap.size, rfl, Nat.zero_le _, rfl, Lib.hid ⟨_, _, _, _, _, _, _, HP0.out⟩⟩
      case round =>
        clear HP0
        obtain ⟨k, b, rfl, hkn, rfl, HP⟩ := hrel
        obtain ⟨Φ, B, T, L, Ar, nr, cr, hp⟩ := HP.out
        have hs60 : sumN (ops.take k) ≤ 400 := Nat.le_trans (sumN_le ops k) HF.out.s400
        by_cases hlt : k < n
        · have hlt' : (k : Int) < n := by omega
          obtain ⟨p, g, o, hpk, hok, hpm, hs4, hsm, rfl, q0, q1, q2, q3⟩ := few_ops HOPS.out HF.out hp.bel hlt
          obtain ⟨V, hV⟩ : ∃ V, V = wr.alloc (.cells #[.int .i64 p.kind, .int .i64 p.at_, .int .i64 p.term, .slice p.A p.n p.c] 32) := ⟨_, rfl⟩
          have hbV : Below wr.heap.size wr V := by rw [hV]; exact (Below.refl _ _).alloc (Nat.le_refl _) _
          have hob : V.heap[wr.heap.size]? = some (.cells #[.int .i64 p.kind, .int .i64 p.at_, .int .i64 p.term, .slice p.A p.n p.c] 32 (0, 0)) := by rw [hV]; exact heap_alloc_new _ _
          have hpV := hp.later hbV
          have hno : ¬ Φ wr.heap.size := fun e => by have := hp.log.bnd _ e; omega
          have HRD : Hid (∀ V2 b2 Φ2, PairV w V2 b2 rb (sumN (ops.take k)) Φ2 B T L Ar nr cr → _) := Lib.hid fun V2 b2 Φ2 hh => pair_round hh hs60 hok hpm
          have HCP := Lib.hid (pair_copy hpV hs60 hob hno)
          have HPV := Lib.hid hpV
          have HOB := Lib.hid hob
          have HSM := Lib.hid hsm
          obtain ⟨v0, v1, v2, v3⟩ := four_cells hob
          have y0 := three_cells hpV.blk
          obtain ⟨z0, z1, z2, _⟩ := y0
          have HV := Lib.hid hV
          clear HP hp hpk hok hpm hs4 hsm hV hbV hob hpV hno hs60
          obtain ⟨kd, y', tm, Ap, np, cp, M⟩ := p
          dsimp only at *
          by_cases hk3 : kd = 3
          · have d3 : (kd == 3) = true := by rw [hk3]; rfl
            clear hk3 HPV HOB
            go_upto_region 9 with fail
            rw [← HV.out]
            clear q0 q1 q2 q3
            go_wp2_with (first
              | (go_at_call 13; refine HCP.out.mono ?_; intro e w7 hh; obtain ⟨b', la, rfl, HAD⟩ := hh; clear HCP)
              | (go_at_call 14; refine HAD.out.mono ?_; rintro e w8 ⟨rfl, HLS⟩)
              | (go_at_call 16; refine HLS.out.mono ?_; rintro e w9 ⟨rfl, HPS⟩)
              | (go_at_call 15; refine HPS.out.mono ?_; rintro e wx ⟨rfl, hox, HPX⟩; obtain ⟨Φ9, hp9⟩ := HPX.out; have HD := Lib.hid (HRD.out wx b' Φ9 hp9); obtain ⟨v0, v1, v2, v3⟩ := four_cells hox; obtain ⟨z0, z1, z2, _⟩ := three_cells hp9.blk; clear hox hp9 HRD)
              | (go_at_call 17; refine HD.out.mono ?_; intro e w4 hh; obtain ⟨B2, T2, A2, n2, c2, rfl, HSA⟩ := hh; obtain ⟨t0, t1, t2, HSC⟩ := HSA.out _ rfl)
              | (go_at_call 18; refine HSC.out.mono ?_; rintro e w6 ⟨rfl, t3, t4, t5, t6, t7, t8, t9, ta, tb, HPN⟩))
            go_roundw
            case rel => exact ⟨k + 1, b', by go_num, by omega, rfl, Lib.hid (by rw [HSM.out]; obtain ⟨Φ2, L2, hp2⟩ := HPN.out; exact ⟨Φ2, B2, T2, L2, A2, n2, c2, hp2⟩)⟩
            case measure => simp [intOf]; omega
          · have d3 : (kd == 3) = false := beq_eq_false_iff_ne.2 hk3
            have HD := Lib.hid (HRD.out V b Φ HPV.out)
            clear hk3 HRD HCP HPV HOB
            go_upto_region 9 with fail
            rw [← HV.out]
            clear q0 q1 q2 q3
            go_wp2_with (first
              | (go_at_call 17; refine HD.out.mono ?_; intro e w4 hh; obtain ⟨B2, T2, A2, n2, c2, rfl, HSA⟩ := hh; obtain ⟨t0, t1, t2, HSC⟩ := HSA.out _ rfl)
              | (go_at_call 18; refine HSC.out.mono ?_; rintro e w6 ⟨rfl, t3, t4, t5, t6, t7, t8, t9, ta, tb, HPN⟩))
            go_roundw
            case rel => exact ⟨k + 1, b, by go_num, by omega, rfl, Lib.hid (by rw [HSM.out]; obtain ⟨Φ2, L2, hp2⟩ := HPN.out; exact ⟨Φ2, B2, T2, L2, A2, n2, c2, hp2⟩)⟩
            case measure => simp [intOf]; omega
        · obtain rfl : k = n := by omega
          have hd0 : decide ((k : Int) < (k : Int)) = false := decide_eq_false (by omega)
          have HBE := Lib.hid hp.bel
          clear HP hp hs60
          go_wp2_with (go_at_call 10; refine (HAW.out _).mono ?_; rintro e w5 ⟨rfl, hb⟩; have HB := Lib.hid (HBE.out.trans (hb.mono HBE.out.size)); clear hb)
          go_ret
          exact ⟨rfl, HB.out⟩
end Go.Proofs.Ytmmddkddjiodbaa
