/- What is proved here: EntryNewer. -/
import Derived.Test.YtmmddkddjiodbaaEFromL
namespace Go.Proofs.Ytmmddkddjiodbaa
open Go Go.RowKit Go.Maps Go.WideMaps

/-- What lies in a log's block, the program's or the document's. -/
def LogLike (w : World) (k : Nat) : Prop := ∃ (x y : Int) (v : Value) (t : TypeId), w.heap[k]? = some (.cells #[.int .i64 x, .int .i64 y, v] t (0, 0)) ∧ ∀ s, v ≠ .string s
section
variable {w w1 wr V : World} {b rb b2 rb2 s : Nat} {Φ : Nat → Prop} {B T : Int} {L : List En} {A : Option Addr} {n c : Nat}
theorem PairV.like (h : PairV w V b rb s Φ B T L A n c) : LogLike V b ∧ LogLike V rb := by
  obtain ⟨Al, nl, cl, hl⟩ := h.log
  exact ⟨⟨_, _, _, _, hl.blk, fun s e => by cases e⟩, ⟨_, _, _, _, h.blk, fun s e => by cases e⟩⟩
/-- Two logs stay while two others change. -/
theorem PairV.stay (h : PairV w V b rb s Φ B T L A n c) (h1 : LogLike V b2) (h2 : LogLike V rb2) (hc : Chg (fun k => k = b2 ∨ k = rb2) V wr) (hΦ : ∀ k, Φ k → k ≠ b2 ∧ k ≠ rb2) (n1 : rb ≠ b2) (n2 : rb ≠ rb2) (g1 : w.heap.size ≤ b2) (g2 : w.heap.size ≤ rb2) : PairV w wr b rb s Φ B T L A n c := by
  refine ⟨h.log.keep hc fun k hk e => ?_, h.new, h.bel.trans (hc.below h.bel.size fun k hk => by rcases hk with rfl | rfl; exact g1; exact g2), hc.heap h.blk fun e => ?_, h.nrb, h.wrb, h.row.past hc (fun h0 ad had e => ?_) fun _ _ hk => hk, h.bnd⟩
  · rcases e with e | e
    · exact (hΦ k hk).1 e
    · exact (hΦ k hk).2 e
  · rcases e with e | e
    · exact n1 e
    · exact n2 e
  · obtain ⟨x, y, v, t, q1, q2⟩ := h1
    obtain ⟨x', y', v', t', q3, q4⟩ := h2
    rcases e with e | e
    · exact row_not_log h.row q1 q2 h0 ad had e
    · exact row_not_log h.row q3 q4 h0 ad had e
/-- .. so that they begin anew from there. -/
theorem PairV.two (h : PairV w wr b rb s Φ B T L A n c) (hΦ : ∀ k, k < wr.heap.size → Φ k → k = b) : Two w wr wr b rb s B T L A n c := ⟨Φ, h, Chg.refl _ _, hΦ⟩
theorem newer_total (B T : Int) (L : List En) (B2 T2 : Int) (L2 : List En) : newerF B T L (B2 + L2.length) (termAt B2 T2 L2 (B2 + L2.length)) = true ∨ newerF B2 T2 L2 (B + L.length) (termAt B T L (B + L.length)) = true := by
  unfold newerF
  rw [decide_eq_true_eq, decide_eq_true_eq]
  omega
theorem newer_self (B T : Int) (L : List En) : newerF B T L (B + L.length) (termAt B T L (B + L.length)) = true := by
  unfold newerF
  rw [decide_eq_true_eq]
  omega
/-- What stands in the document's two blocks. -/
structure TwoBlk (rb rb2 : Nat) (B T : Int) (A : Option Addr) (n c : Nat) (B2 T2 : Int) (A2 : Option Addr) (n2 c2 : Nat) (V : World) : Prop where
  b0 : V.cell? ⟨rb, 0, none⟩ = some (.int .i64 B)
  b1 : V.cell? ⟨rb, 1, none⟩ = some (.int .i64 T)
  b2 : V.cell? ⟨rb, 2, none⟩ = some (.slice A n c)
  c0 : V.cell? ⟨rb2, 0, none⟩ = some (.int .i64 B2)
  c1 : V.cell? ⟨rb2, 1, none⟩ = some (.int .i64 T2)
  c2 : V.cell? ⟨rb2, 2, none⟩ = some (.slice A2 n2 c2)
/-- What the last two lines need of each of the two. -/
structure NewC (we : World) (S : World → Prop) (b : Nat) (la ta : Int) (f : Int → Int → Bool) (rv : Value) : Prop where
  last : ∀ V, S V → Below we.heap.size we V → Calls Try.prog 16 #[.pointer (some ⟨b, 0, none⟩)] V fun e w' => e = .returned (.int .i64 la) ∧ S w' ∧ Below we.heap.size we w'
  term : ∀ V, S V → Below we.heap.size we V → Calls Try.prog 21 #[.pointer (some ⟨b, 0, none⟩), .int .i64 la] V fun e w' => ∃ q, e = .returned (.tuple #[.int .i64 ta, .bool q]) ∧ S w' ∧ Below we.heap.size we w'
  newer : ∀ V x y, S V → Below we.heap.size we V → Calls Try.prog 22 #[.pointer (some ⟨b, 0, none⟩), .int .i64 x, .int .i64 y] V fun e w' => e = .returned (.bool (f x y)) ∧ S w' ∧ Below we.heap.size we w'
  rnewer : ∀ V x y, S V → Below we.heap.size we V → Calls Try.prog 23 #[rv, .int .i64 x, .int .i64 y] V fun e w' => e = .returned (.bool (f x y)) ∧ S w' ∧ Below we.heap.size we w'
theorem PairV.newc {we : World} (h : PairV w we b rb s Φ B T L A n c) (hs : s ≤ 1000) {S : World → Prop} (hS : ∀ V, Below we.heap.size we V → S V) :
    NewC we S b (B + L.length) (termAt B T L (B + L.length)) (newerF B T L) (.agg #[.int .i64 B, .int .i64 T, .slice A n c]) := by
  have g0 := h.bnd.b0
  have g1 := h.bnd.last
  have g2 := h.bnd.len
  have gl := h.row.len
  refine ⟨fun V _ hb => ?_, fun V _ hb => ?_, fun V x y _ hb => ?_, fun V x y _ hb => ?_⟩
  · refine (Last_any (h.later hb).log g0 (by omega) (by omega)).mono ?_
    rintro e w' ⟨rfl, q, rfl⟩
    have hb2 := hb.trans ((Chg.drewN (Φ := fun _ => False) V q).below hb.size fun _ h => h.elim)
    exact ⟨rfl, hS _ hb2, hb2⟩
  · refine (Term_any (h.later hb).log g0 (by omega) (by omega) (k := B + L.length) (by unfold I64; omega)).mono ?_
    rintro e w' ⟨rfl, hb2⟩
    have hb3 := hb.trans (hb2.mono hb.size)
    exact ⟨_, rfl, hS _ hb3, hb3⟩
  · refine (Newer_any (h.later hb).log g0 (by omega) (by omega) x y).mono ?_
    rintro e w' ⟨rfl, hb2⟩
    have hb3 := hb.trans (hb2.mono hb.size)
    exact ⟨rfl, hS _ hb3, hb3⟩
  · refine (RNewer_any (T := T) (h.later hb).row g0 (by omega) (by omega) x y).mono ?_
    rintro e w' ⟨rfl, hb2⟩
    have hb3 := hb.trans (hb2.mono hb.size)
    exact ⟨rfl, hS _ hb3, hb3⟩
end
set_option maxHeartbeats 12800000 in
set_option maxRecDepth 100000 in
theorem entryNewer_any {w : World} {A A' : Option Addr} {n c m d : Nat} {ops ops2 : List OpM} (hops : OpsRd w A n c ops) (hops2 : OpsRd w A' m d ops2) (last term : Int) :
    Calls Try.prog 5 #[.slice A n c, .slice A' m d, .int .i64 last, .int .i64 term] w fun e w' => e = .returned (.bool true) ∧ Below w.heap.size w w' := by
  have HAW := Lib.hid fun W => awake_any W
  have HFE1 := Lib.hid (few_any hops)
  have HFE2 := Lib.hid (few_any hops2)
  have HN : Hid (∀ V, Below w.heap.size w V → Calls Try.prog 11 #[.int .i64 0, .int .i64 0] V fun e w2 => e = .returned (.pointer (some ⟨V.heap.size, 0, none⟩)) ∧ Hid (LogAt w2 V.heap.size 0 0 [] (fun k => k = V.heap.size) ∧ Below V.heap.size V w2)) := Lib.hid fun V hb => (New_any V 0 0).mono (by
    rintro e w' ⟨rfl, h1, h2⟩
    exact ⟨rfl, Lib.hid ⟨h1, h2⟩⟩)
  have HRN : Hid (∀ V, Calls Try.prog 12 #[.int .i64 0, .int .i64 0] V fun e w2 => e = .returned (.agg #[.int .i64 0, .int .i64 0, .slice none 0 0]) ∧ Below V.heap.size V w2) := Lib.hid fun V => RNew_any 0 0 V
  have HOPS1 := Lib.hid hops
  have HOPS2 := Lib.hid hops2
  have hcaps := hops.rd.caps
  have hcaps2 := hops2.rd.caps
  clear hops hops2
  go_enter Try.func5, Try.ntmps5
  go_upto_region 3 with (first
      | (go_at_call 9; (with_reducible refine HFE1.out.mono ?_); intro e w1 hh; obtain ⟨q, rfl, hq, rfl⟩ := hh; have HQ1 := Lib.hid hq; clear hq HFE1; cases q)
      | (go_at_call 9; (with_reducible refine HFE2.out.mono ?_); intro e w1 hh; obtain ⟨q, rfl, hq, rfl⟩ := hh; have HQ2 := Lib.hid hq; clear hq HFE2; cases q)
      | (go_at_call 10; refine (HAW.out _).mono ?_; rintro e w1 ⟨rfl, hb⟩; have HB := Lib.hid hb; clear hb))
  · go_ret
    exact ⟨rfl, HB.out⟩
  · go_ret
    exact ⟨rfl, HB.out⟩
  · have hf1 := HQ1.out (by first | trivial | rfl)
    have hf2 := HQ2.out (by first | trivial | rfl)
    have HF1 := Lib.hid hf1
    have HF2 := Lib.hid hf2
    have hn60 : n ≤ 60 := by have := hf1.n60; have := HOPS1.out.rd.len; omega
    have hm60 : m ≤ 60 := by have := hf2.n60; have := HOPS2.out.rd.len; omega
    have HB0 := Lib.hid (Below.refl w.heap.size w)
    clear hf1 hf2 HQ1 HQ2
    go_upto_region 4 with (first
      | (go_at_call 11; refine (HN.out _ HB0.out).mono ?_; rintro e w2 ⟨rfl, HL1⟩)
      | (go_at_call 12; refine (HRN.out _).mono ?_; rintro e w3 ⟨rfl, hb3⟩; have HB3 := Lib.hid hb3; clear hb3))
    obtain ⟨V1, hV1⟩ : ∃ V1, V1 = w3.alloc (.cells #[.int .i64 0, .int .i64 0, .slice none 0 0] 29) := ⟨_, rfl⟩
    have HX1 : Hid (PairV w V1 w.heap.size w3.heap.size 0 (fun k => k = w.heap.size) 0 0 [] none 0 0) := Lib.hid (by rw [hV1]; exact pair_begin (w := w) (x := 0) (y := 0) (Nat.le_refl _) HL1.out.1 (HL1.out.2) HB3.out (by omega))
    have HB1 : Hid (Below w.heap.size w V1) := Lib.hid HX1.out.bel
    rw [← hV1]
    clear hV1
    go_upto_region 5 with (first
      | (go_at_call 11; refine (HN.out _ HB1.out).mono ?_; rintro e w4 ⟨rfl, HL2⟩)
      | (go_at_call 12; refine (HRN.out _).mono ?_; rintro e w5 ⟨rfl, hb5⟩; have HB5 := Lib.hid hb5; clear hb5))
    obtain ⟨V2, hV2⟩ : ∃ V2, V2 = w5.alloc (.cells #[.int .i64 0, .int .i64 0, .slice none 0 0] 29) := ⟨_, rfl⟩
    have HY1 : Hid (PairV w V2 V1.heap.size w5.heap.size 0 (fun k => k = V1.heap.size) 0 0 [] none 0 0) := Lib.hid (by rw [hV2]; exact pair_begin (w := w) (x := 0) (y := 0) HB1.out.size HL2.out.1 (HB1.out.trans (HL2.out.2.mono HB1.out.size)) HB5.out (by omega))
    have HX0 : Hid (Two w V2 V2 w.heap.size w3.heap.size 0 0 0 [] none 0 0) := Lib.hid ((HX1.out.later (HL2.out.2.trans ((HB5.out.mono HL2.out.2.size).trans (by rw [hV2]; exact (Below.refl _ _).alloc (by have := HB5.out.size; have := HL2.out.2.size; omega) _)))).two fun k _ hk => hk)
    have HLK : Hid (LogLike V2 w.heap.size ∧ LogLike V2 w3.heap.size) := Lib.hid (by obtain ⟨Φ0, hp0, _⟩ := HX0.out; exact hp0.like)
    have HNE : Hid (w.heap.size < w3.heap.size ∧ w3.heap.size < V1.heap.size ∧ V1.heap.size < w5.heap.size ∧ w5.heap.size < V2.heap.size) := Lib.hid ⟨Nat.lt_of_lt_of_le (HL1.out.1.bnd _ rfl) HB3.out.size, (Array.getElem?_eq_some_iff.1 HX1.out.blk).1, Nat.lt_of_lt_of_le (HL2.out.1.bnd _ rfl) HB5.out.size, (Array.getElem?_eq_some_iff.1 HY1.out.blk).1⟩
    rw [← hV2]
    clear hV2 HX1 HL1 HL2 HB3 HB5 HN HRN HB1
    generalize hb0 : w.heap.size = b at *
    have HBB := Lib.hid hb0
    clear hb0
    generalize w3.heap.size = rb at *
    generalize V1.heap.size = b2 at *
    generalize w5.heap.size = rb2 at *
    go_wp2_with fail
    go_loopw [42] (fun i wr => ∃ k : Nat, i = .int .i64 k ∧ k ≤ n ∧ Hid (∃ B T L Ar nr cr, Two w V2 wr b rb (sumN (ops.take k)) B T L Ar nr cr)) (fun i _ => n - (intOf i).toNat)
    case atStart => exact ⟨0, rfl, Nat.zero_le _, Lib.hid ⟨_, _, _, _, _, _, HX0.out⟩⟩
    case round =>
      clear HX0
      obtain ⟨k, rfl, hkn, HP⟩ := hrel
      obtain ⟨B, T, L, Ar, nr, cr, htw⟩ := HP.out
      by_cases hlt : k < n
      · have hlt' : (k : Int) < n := by omega
        obtain ⟨p, g, o, hpk, hok, hpm, hs4, hsm, rfl, q0, q1, q2, q3⟩ := few_ops HOPS1.out HF1.out htw.bel hlt
        obtain ⟨V, hV⟩ : ∃ V, V = wr.alloc (.cells #[.int .i64 p.kind, .int .i64 p.at_, .int .i64 p.term, .slice p.A p.n p.c] 32) := ⟨_, rfl⟩
        have hbV : Below wr.heap.size wr V := by rw [hV]; exact (Below.refl _ _).alloc (Nat.le_refl _) _
        have hob : V.heap[wr.heap.size]? = some (.cells #[.int .i64 p.kind, .int .i64 p.at_, .int .i64 p.term, .slice p.A p.n p.c] 32 (0, 0)) := by rw [hV]; exact heap_alloc_new _ _
        have HD := Lib.hid (pair_step htw hbV hs4 hok hpm)
        have HSM := Lib.hid hsm
        obtain ⟨v0, v1, v2, v3⟩ := four_cells hob
        obtain ⟨z0, z1, z2, _⟩ := three_cells (htw.later hbV).blk
        have HV := Lib.hid hV
        clear HP htw hpk hok hpm hs4 hsm hV hbV hob
        obtain ⟨kd, y', tm, Ap, np, cp, M⟩ := p
        dsimp only at *
        go_upto_region 10 with fail
        rw [← HV.out]
        clear q0 q1 q2 q3
        go_wp2_with (go_at_call 17; refine HD.out.mono ?_; intro e w4 hh; obtain ⟨B2, T2, A2, n2, c2, rfl, s0, s1, s2, f0, f1, f2, HPN⟩ := hh)
        go_roundw
        case rel => exact ⟨k + 1, by go_num, by omega, Lib.hid (by rw [HSM.out]; obtain ⟨L2, ht2⟩ := HPN.out; exact ⟨B2, T2, L2, A2, n2, c2, ht2⟩)⟩
        case measure => simp [intOf]; omega
      · obtain rfl : k = n := by omega
        have hd0 : decide ((k : Int) < (k : Int)) = false := decide_eq_false (by omega)
        obtain ⟨Φx, hpx, hxx⟩ := htw
        have hne := HNE.out
        have hwb := hpx.wrb
        have hy : PairV w wr b2 rb2 0 (fun k => k = b2) 0 0 [] none 0 0 := HY1.out.stay HLK.out.1 HLK.out.2 hxx.chg (fun k hk => by subst hk; exact ⟨by omega, by omega⟩) (by omega) (by omega) (by rw [HBB.out]; exact Nat.le_refl _) hwb
        have HY0 : Hid (Two w wr wr b2 rb2 0 0 0 [] none 0 0) := Lib.hid (hy.two fun k _ hk => hk)
        have HX2 : Hid (PairV w wr b rb (sumN (ops.take k)) Φx B T L Ar nr cr ∧ ∀ q, Φx q → q ≠ b2 ∧ q ≠ rb2) := Lib.hid ⟨hpx, fun q hq => ⟨fun e => by subst e; have := hxx.old q (by omega) hq; omega, fun e => by subst e; have := hxx.old q (by omega) hq; omega⟩⟩
        have HLK2 := Lib.hid hy.like
        have HS1 : Hid (sumN (ops.take k) ≤ 1000) := Lib.hid (Nat.le_trans (Nat.le_trans (sumN_le ops k) HF1.out.s400) (by omega))
        have HB2 : Hid (w.heap.size ≤ b2 ∧ w.heap.size ≤ rb2) := Lib.hid ⟨hy.new _ rfl, hy.wrb⟩
        clear hpx hxx hy HP hne hwb HLK HY1
        generalize sumN (ops.take k) = s1 at *
        generalize wr = w9 at *
        go_wp2_with fail
        go_loopw [56] (fun i wr => ∃ k2 : Nat, i = .int .i64 k2 ∧ k2 ≤ m ∧ Hid (∃ B T L Ar nr cr, Two w w9 wr b2 rb2 (sumN (ops2.take k2)) B T L Ar nr cr)) (fun i _ => m - (intOf i).toNat)
        case atStart => exact ⟨0, rfl, Nat.zero_le _, Lib.hid ⟨_, _, _, _, _, _, HY0.out⟩⟩
        case round =>
          clear HY0
          obtain ⟨k2, rfl, hkn2, HP⟩ := hrel
          obtain ⟨B2', T2', L2', A2', n2', c2', htw⟩ := HP.out
          by_cases hlt : k2 < m
          · have hlt' : (k2 : Int) < m := by omega
            obtain ⟨p, g, o, hpk, hok, hpm, hs4, hsm, rfl, q0, q1, q2, q3⟩ := few_ops HOPS2.out HF2.out htw.bel hlt
            obtain ⟨V, hV⟩ : ∃ V, V = wr.alloc (.cells #[.int .i64 p.kind, .int .i64 p.at_, .int .i64 p.term, .slice p.A p.n p.c] 32) := ⟨_, rfl⟩
            have hbV : Below wr.heap.size wr V := by rw [hV]; exact (Below.refl _ _).alloc (Nat.le_refl _) _
            have hob : V.heap[wr.heap.size]? = some (.cells #[.int .i64 p.kind, .int .i64 p.at_, .int .i64 p.term, .slice p.A p.n p.c] 32 (0, 0)) := by rw [hV]; exact heap_alloc_new _ _
            have HD := Lib.hid (pair_step htw hbV hs4 hok hpm)
            have HSM := Lib.hid hsm
            obtain ⟨v0, v1, v2, v3⟩ := four_cells hob
            obtain ⟨z0, z1, z2, _⟩ := three_cells (htw.later hbV).blk
            have HV := Lib.hid hV
            clear HP htw hpk hok hpm hs4 hsm hV hbV hob
            obtain ⟨kd, y', tm, Ap, np, cp, M⟩ := p
            dsimp only at *
            go_upto_region 15 with fail
            rw [← HV.out]
            clear q0 q1 q2 q3
            go_wp2_with (go_at_call 17; refine HD.out.mono ?_; intro e w4 hh; obtain ⟨B2, T2, A2, n2, c2, rfl, s0, s1, s2, f0, f1, f2, HPN⟩ := hh)
            go_roundw
            case rel => exact ⟨k2 + 1, by go_num, by omega, Lib.hid (by rw [HSM.out]; obtain ⟨L2, ht2⟩ := HPN.out; exact ⟨B2, T2, L2, A2, n2, c2, ht2⟩)⟩
            case measure => simp [intOf]; omega
          · obtain rfl : k2 = m := by omega
            have hd9 : decide ((k2 : Int) < (k2 : Int)) = false := decide_eq_false (by omega)
            obtain ⟨Φy, hpy, hxy⟩ := htw
            have hne := HNE.out
            have hxe := HX2.out.1.stay HLK2.out.1 HLK2.out.2 hxy.chg HX2.out.2 (by omega) (by omega) HB2.out.1 HB2.out.2
            have hs2 : sumN (ops2.take k2) ≤ 1000 := Nat.le_trans (Nat.le_trans (sumN_le ops2 k2) HF2.out.s400) (by omega)
            have hS : ∀ V, Below wr.heap.size wr V → TwoBlk rb rb2 B T Ar nr cr B2' T2' A2' n2' c2' V := fun V hb => by
              have x1 := three_cells (hxe.later hb).blk
              have x2 := three_cells (hpy.later hb).blk
              exact ⟨x1.1, x1.2.1, x1.2.2.1, x2.1, x2.2.1, x2.2.2.1⟩
            have NX := Lib.hid (hxe.newc HS1.out hS)
            have NY := Lib.hid (hpy.newc hs2 hS)
            have HFIN : Hid (∀ V, Below wr.heap.size wr V → Below w.heap.size w V) := Lib.hid fun V hb => hxe.bel.trans (hb.mono hxe.bel.size)
            have HSW : Hid (∀ V, Below wr.heap.size wr V → V.cell? ⟨rb, 0, none⟩ = some (.int .i64 B) ∧ V.cell? ⟨rb, 1, none⟩ = some (.int .i64 T) ∧ V.cell? ⟨rb, 2, none⟩ = some (.slice Ar nr cr) ∧ V.cell? ⟨rb2, 0, none⟩ = some (.int .i64 B2') ∧ V.cell? ⟨rb2, 1, none⟩ = some (.int .i64 T2') ∧ V.cell? ⟨rb2, 2, none⟩ = some (.slice A2' n2' c2')) := Lib.hid fun V hb => ⟨(hS V hb).b0, (hS V hb).b1, (hS V hb).b2, (hS V hb).c0, (hS V hb).c1, (hS V hb).c2⟩
            have htot := newer_total B T L B2' T2' L2'
            have hsl := newer_self B T L
            have hsb := hS wr (Below.refl _ _)
            have hbb := Below.refl wr.heap.size wr
            clear hxe hpy hxy HX2 HLK2 HP HNE HB2 hne hs2 hS HS1
            generalize newerF B T L = fx at *
            generalize newerF B2' T2' L2' = fy at *
            generalize termAt B T L (B + L.length) = tx at *
            generalize termAt B2' T2' L2' (B2' + L2'.length) = ty at *
            generalize B + (L.length : Int) = lx at *
            generalize B2' + (L2'.length : Int) = ly at *
            generalize wr = we at *
            have d9 : fx ly ty = true ∨ (fx ly ty = false ∧ fy lx tx = true) := by
              cases hq : fx ly ty with
              | true => exact .inl rfl
              | false =>
                rw [hq] at htot
                exact .inr ⟨rfl, htot.resolve_left (by simp)⟩
            clear htot
            rcases d9 with d9 | ⟨d9, d8⟩
            all_goals
              go_upto_region 21 with (first
                | (go_at_call 16; (with_reducible refine (NX.out.last _ (by assumption) (by assumption)).mono ?_); rintro e wq ⟨rfl, hsq, hbq⟩)
                | (go_at_call 16; (with_reducible refine (NY.out.last _ (by assumption) (by assumption)).mono ?_); rintro e wq ⟨rfl, hsq, hbq⟩)
                | (go_at_call 21; (with_reducible refine (NX.out.term _ (by assumption) (by assumption)).mono ?_); intro e wq hh; obtain ⟨qx, rfl, hsq, hbq⟩ := hh)
                | (go_at_call 21; (with_reducible refine (NY.out.term _ (by assumption) (by assumption)).mono ?_); intro e wq hh; obtain ⟨qy, rfl, hsq, hbq⟩ := hh)
                | (go_at_call 22; (with_reducible refine (NX.out.newer _ _ _ (by assumption) (by assumption)).mono ?_); rintro e wq ⟨rfl, hsq, hbq⟩)
                | (go_at_call 22; (with_reducible refine (NY.out.newer _ _ _ (by assumption) (by assumption)).mono ?_); rintro e wq ⟨rfl, hsq, hbq⟩))
              obtain ⟨m0, m1, m2, m3, m4, m5⟩ := hsq
              have HSB : Hid (TwoBlk rb rb2 B T Ar nr cr B2' T2' A2' n2' c2' wq.drew) := Lib.hid ⟨m0, m1, m2, m3, m4, m5⟩
              have HBD : Hid (Below we.heap.size we wq.drew) := Lib.hid hbq.drew
              have e5 : (fx last term == fx last term) = true := beq_self_eq_true _
              have e6 : (fy last term == fy last term) = true := beq_self_eq_true _
              clear hsb hbb hbq
              go_region_held3 (fun w' => w'.cell? ⟨rb, 0, none⟩ = some (.int .i64 B) ∧ w'.cell? ⟨rb, 1, none⟩ = some (.int .i64 T) ∧ w'.cell? ⟨rb, 2, none⟩ = some (.slice Ar nr cr) ∧ w'.cell? ⟨rb2, 0, none⟩ = some (.int .i64 B2') ∧ w'.cell? ⟨rb2, 1, none⟩ = some (.int .i64 T2') ∧ w'.cell? ⟨rb2, 2, none⟩ = some (.slice A2' n2' c2'))
                (first | exact ⟨by assumption, by assumption, by assumption, by assumption, by assumption, by assumption⟩ | exact ⟨m0, m1, m2, m3, m4, m5⟩ | exact HSZ.out)
                (first
                  | (go_at_call 22; (with_reducible refine (NX.out.newer _ _ _ (by first | assumption | exact HSB.out) (by first | assumption | exact HBD.out)).mono ?_); rintro e wv ⟨rfl, hsv, hbv⟩; obtain ⟨a0, a1, a2, a3, a4, a5⟩ := id hsv)
                  | (go_at_call 22; (with_reducible refine (NY.out.newer _ _ _ (by first | assumption | exact HSB.out) (by first | assumption | exact HBD.out)).mono ?_); rintro e wv ⟨rfl, hsv, hbv⟩; obtain ⟨a0, a1, a2, a3, a4, a5⟩ := id hsv)
                  | (go_at_call 23; (with_reducible refine (NX.out.rnewer _ _ _ (by first | assumption | exact HSB.out) (by first | assumption | exact HBD.out)).mono ?_); rintro e wv ⟨rfl, hsv, hbv⟩; obtain ⟨a0, a1, a2, a3, a4, a5⟩ := id hsv)
                  | (go_at_call 23; (with_reducible refine (NY.out.rnewer _ _ _ (by first | assumption | exact HSB.out) (by first | assumption | exact HBD.out)).mono ?_); rintro e wv ⟨rfl, hsv, hbv⟩; obtain ⟨a0, a1, a2, a3, a4, a5⟩ := id hsv)
                  | (go_at_call 10; refine (HAW.out _).mono ?_; rintro e wu ⟨rfl, hb⟩; have hbu := hbv.trans (hb.mono hbv.size); have HSZ := Lib.hid (HSW.out wu hbu); have HBZ := Lib.hid hbu; clear hb))
              all_goals
                go_wp2_with fail
                go_ret
                exact ⟨rfl, HFIN.out _ HBZ.out⟩
end Go.Proofs.Ytmmddkddjiodbaa
