/- What is proved here: what a log's Append does where a segment begins behind a full one. -/
/- What is proved here: what a log's Append does that fails. -/
/- What is proved here: what Append and Sync do to a log that keeps the invariant, in general. -/
/- What is proved here: what a log's Snap does where there is no room. -/
import Derived.Test.YtnomicnmpllajaaGreatDoorPFu17
import Derived.Test.YtnomicnmpllajaaGreatDoorPFu12
import Derived.Outline
import Derived.Test.YtnomicnmpllajaaGreatDoorPFu13
section
namespace Go.Proofs.YtnomicnmpllajaaGreatDoor
open Go Go.RowKit

section
variable {w0 w wr w' : World} {Kp Kp' : Nat → Prop} {lb d : Nat} {R : Int} {S S' : List RF} {M : LogM} {V : LogV}

set_option maxHeartbeats 3200000 in
set_option maxRecDepth 100000 in
theorem Append_next (h : WPair w0 Kp lb d R S M V w) (hKp : ∀ k, Kp k → k < w.heap.size) (ht : Tab w0) (hk : LogOk M) {A : Option Addr} {n c : Nat} {xs : List Int} (hr : Rd w w.heap.size .u8 A n c xs) (hx : ∀ x ∈ xs, 0 ≤ x ∧ x < 256) (hA : ∀ a, A = some a → 0 < n → Kp a.block)
    (hn : n ≤ 4096) (hnum : M.last + 1 < 100000000) (hS : S.length ≤ 1000000) {k0 : Nat} {s : Nat × Nat} (hl : M.segs.length = k0 + 1) (hs : M.segs[k0]? = some s) (hb0 : 0 < s.2) (hfull : M.size < s.2 + (n + 6)) {f : RF} (hf : findN S' (segName s.1) = some f) (hrm : appendF R S (segName (M.last + 1)) (sealF xs) = (S', 0)) (hrn : M.recs.length < 1000000) (hsn : M.segs.length < 1000000) :
    Calls Tryz.prog 24 #[.pointer (some ⟨lb, 0, none⟩), .slice A n c] w fun e w' => e = .returned (.int .i64 0) ∧ ∃ V', WPair w0 Kp lb d R (syncF S' (segName s.1)).1 { M with synced := M.last, segs := M.segs ++ [(M.last + 1, n + 6)], recs := M.recs ++ [xs] } V' w' ∧ Kept Kp w w' := by
  obtain ⟨g0, hg0⟩ := h.row hs
  have hs2 := (hk.segs s (List.mem_of_getElem? hs)).2
  have hMs := hk.size
  have hk2 : LogOk { M with synced := M.last, segs := M.segs ++ [(M.last + 1, 0)] } := ⟨hk.size, by simp; omega, hk.recn, hk.base, fun q hq => by
    rcases List.mem_append.1 hq with hq | hq
    · exact hk.segs q hq
    · simp at hq
      subst hq
      exact ⟨hnum, Nat.zero_le _⟩, by show M.last ≤ _; omega⟩
  have HSE : Hid (Calls Tryz.prog 31 #[.slice A n c] w fun e w1 => ∃ vA vC, e = .returned (.tuple #[.slice vA (n + 6) vC, .int .i64 0]) ∧ n + 6 ≤ vC ∧ vC ≤ 9223372036854775807 ∧ Hid (Rd w1 w1.heap.size .u8 vA (n + 6) vC (sealF xs)) ∧ Hid (WPair w0 Kp lb d R S M V w1) ∧ Hid (Below w.heap.size w w1)) := Lib.hid (by
    refine (Seal_any A n c xs w hr hx hn).mono ?_
    rintro e w1 ⟨v, rfl, ho, hb⟩
    obtain ⟨vA, vC, rfl, hrd⟩ := Rd.of_own ho
    have hm := hrd.max
    unfold maxLen at hm
    exact ⟨vA, vC, rfl, hrd.cap, hm, Lib.hid hrd, Lib.hid (h.later hb), Lib.hid hb⟩)
  have HLA := Lib.hid fun W (hW : WPair w0 Kp lb d R S M V W) => hW.Last_ hk
  have HLL := Lib.hid fun W (hW : WPair w0 Kp lb d R S M V W) => hW.last_ hk hl hg0
  have HC := Lib.hid fun W M V S Kp (hW : WPair w0 Kp lb d R S M V W) => hW.cells
  have HSG0 := Lib.hid fun W (hW : WPair w0 Kp lb d R S M V W) => hW.seg hs hg0
  -- from the box of the new segment on
  have HNM : Hid (∀ w1 W tb vA vC, Rd w1 w1.heap.size .u8 vA (n + 6) vC (sealF xs) → Below w.heap.size w w1 → tb = W.heap.size → WPair w0 Kp lb d R S M V W → Below w1.heap.size w1 W → ∀ W2, W2 = (W.alloc (.cells #[.int .i64 ((M.last : Int) + 1), .int .i64 0] 99)).drew →
      W2.cell? ⟨lb, 0, none⟩ = some (.pointer (some ⟨d, 0, none⟩)) ∧ W2.cell? ⟨tb, 0, none⟩ = some (.int .i64 ((M.last : Int) + 1)) ∧ W2.cell? ⟨tb, 1, none⟩ = some (.int .i64 0) ∧ Calls Tryz.prog 54 #[.agg #[.int .i64 ((M.last : Int) + 1), .int .i64 0]] W2 fun e w5 => e = .returned (.string (nameS (M.last + 1))) ∧ w5.cell? ⟨lb, 0, none⟩ = some (.pointer (some ⟨d, 0, none⟩)) ∧ w5.cell? ⟨tb, 0, none⟩ = some (.int .i64 ((M.last : Int) + 1)) ∧ w5.cell? ⟨tb, 1, none⟩ = some (.int .i64 0) ∧
        Hid (Calls Tryz.prog 33 #[.pointer (some ⟨d, 0, none⟩), .string (nameS (M.last + 1)), .slice vA (n + 6) vC] w5 fun e w6 => e = .returned (.int .i64 0) ∧ w6.cell? ⟨lb, 0, none⟩ = some (.pointer (some ⟨d, 0, none⟩)) ∧ w6.cell? ⟨tb, 0, none⟩ = some (.int .i64 ((M.last : Int) + 1)) ∧ w6.cell? ⟨tb, 1, none⟩ = some (.int .i64 0) ∧
          Hid (Calls Tryz.prog 25 #[.pointer (some ⟨lb, 0, none⟩)] w6 fun e w7 => e = .returned (.int .i64 0) ∧ w7.cell? ⟨lb, 0, none⟩ = some (.pointer (some ⟨d, 0, none⟩)) ∧ w7.cell? ⟨tb, 0, none⟩ = some (.int .i64 ((M.last : Int) + 1)) ∧ w7.cell? ⟨tb, 1, none⟩ = some (.int .i64 0) ∧ w7.cell? ⟨lb, 2, none⟩ = some (.slice V.sA M.segs.length V.sC) ∧ Hid (WPair w0 (fun i => Kp i ∨ i = tb) lb d R (syncF S' (segName s.1)).1 { M with synced := M.last } V w7 ∧ Kept Kp w w7 ∧ w7.heap[tb]? = some (.cells #[.int .i64 ((M.last : Int) + 1), .int .i64 0] 99 (0, 0)) ∧ ∀ i, (Kp i ∨ i = tb) → i < w7.heap.size))) ) := Lib.hid fun w1 W tb vA vC hrd hb1 htb hW hb1W W2 hW2 => by
    have hbW2 : Below W.heap.size W W2 := by rw [hW2]; exact ((Below.refl _ _).alloc (Nat.le_refl _) _).drew
    have hbox : W2.heap[tb]? = some (.cells #[.int .i64 ((M.last : Int) + 1), .int .i64 0] 99 (0, 0)) := by rw [hW2, htb]; exact heap_alloc_new W _
    have hsz2 : tb < W2.heap.size := lt_of_block hbox
    have hKW : ∀ k, Kp k → k < W.heap.size := fun i hi => Nat.lt_of_lt_of_le (hKp i hi) (Nat.le_trans hb1.size hb1W.size)
    have hP2 : WPair w0 (fun i => Kp i ∨ i = tb) lb d R S M V W2 := (hW.keepK fun i h1 h2 => by rcases h2 with h2 | h2; exact h2; omega).later hbW2
    have hKp2 : ∀ i, (Kp i ∨ i = tb) → i < W2.heap.size := fun i hi => by
      rcases hi with hi | hi
      · have := hKW i hi; have := hbW2.size; omega
      · omega
    have hwW2 : Kept Kp w W2 := Kept.of_below (hb1.trans ((hb1W.mono hb1.size).trans (hbW2.mono (Nat.le_trans hb1.size hb1W.size)))) hKp
    have hcells : ∀ w', Kept (fun i => Kp i ∨ i = tb) W2 w' → w'.cell? ⟨tb, 0, none⟩ = some (.int .i64 ((M.last : Int) + 1)) ∧ w'.cell? ⟨tb, 1, none⟩ = some (.int .i64 0) := fun w' hK => by
      have h1 : w'.heap[tb]? = _ := (hK.1 tb (.inr rfl)).trans hbox
      obtain ⟨c0, c1, _⟩ := two_cells h1
      exact ⟨c0, c1⟩
    obtain ⟨t0, t1⟩ := hcells W2 ⟨fun _ _ => rfl, Nat.le_refl _⟩
    refine ⟨hP2.cells.2.1, t0, t1, ?_⟩
    have hname := hP2.name_ ht (M.last + 1) 0 hnum
    rw [show ((M.last + 1 : Nat) : Int) = (M.last : Int) + 1 by omega, show ((0 : Nat) : Int) = 0 from rfl] at hname
    refine hname.mono ?_
    rintro e w5 ⟨rfl, h5, hb5⟩
    have hK5 := Kept.of_below hb5 hKp2
    obtain ⟨x0, x1⟩ := hcells w5 hK5
    refine ⟨rfl, h5.cells.2.1, x0, x1, Lib.hid ?_⟩
    have hb15 : Below w1.heap.size w1 w5 := (hb1W.trans (hbW2.mono hb1W.size)).trans (hb5.mono (Nat.le_trans hb1W.size hbW2.size))
    refine (h5.dapp (fun i hi => Nat.lt_of_lt_of_le (hKp2 i hi) hK5.2) (nameS (M.last + 1)) (by rw [nameS_size]; unfold maxLen; omega) vA (n + 6) vC (sealF xs) ((hrd.below hb15).more hb15.size) (sealF_bytes hx) hS).mono ?_
    rintro e w6 ⟨rfl, h6, hk6⟩
    rw [nameS_list, hrm] at h6 ⊢
    have hK6 := hK5.trans hk6
    obtain ⟨y0, y1⟩ := hcells w6 hK6
    refine ⟨rfl, h6.cells.2.1, y0, y1, Lib.hid ?_⟩
    have hKp6 : ∀ i, (Kp i ∨ i = tb) → i < w6.heap.size := fun i hi => Nat.lt_of_lt_of_le (hKp2 i hi) hK6.2
    refine (Sync_some h6 hKp6 ht hk hl hs hf).mono ?_
    rintro e w7 ⟨rfl, h7, hk7⟩
    have hK7 := hK6.trans hk7
    obtain ⟨z0, z1⟩ := hcells w7 hK7
    exact ⟨rfl, h7.cells.2.1, z0, z1, h7.cells.2.2.2.1, Lib.hid ⟨h7, hwW2.trans ⟨fun i hi => hK7.1 i (.inl hi), hK7.2⟩, (hK7.1 tb (.inr rfl)).trans hbox, fun i hi => Nat.lt_of_lt_of_le (hKp2 i hi) hK7.2⟩⟩
  have hsl : (M.segs ++ [(M.last + 1, 0)])[M.segs.length]? = some (M.last + 1, 0) := by simp
  obtain ⟨i0, hi, hz0, hz1, hz2⟩ := info_parts info_row
  obtain ⟨j0, hj, jz0, jz1, jz2⟩ := info_parts info_seg
  have HXN := Lib.hid hr.len
  have HXB := Lib.hid hx
  have HKB : Hid (∀ W, Kept Kp w W → ∀ k, Kp k → k < W.heap.size) := Lib.hid fun W hK i hi => Nat.lt_of_lt_of_le (hKp i hi) hK.2
  have HRK : Hid (∀ W, Kept Kp w W → Rd W W.heap.size .u8 A n c xs) := Lib.hid fun W hK => hr.kept hK hA
  have HOWN := Lib.hid fun w8 tb (h8 : WPair w0 (fun i => Kp i ∨ i = tb) lb d R (syncF S' (segName s.1)).1 { M with synced := M.last } V w8) => h8.ex.elim fun _ h8 => h8.elim fun _ h8 => h8.1.segs
  have HADS : Hid (∀ w8 tb, WPair w0 (fun i => Kp i ∨ i = tb) lb d R (syncF S' (segName s.1)).1 { M with synced := M.last } V w8 → Kept Kp w w8 → w8.heap[tb]? = some (.cells #[.int .i64 ((M.last : Int) + 1), .int .i64 0] 99 (0, 0)) → (∀ i, (Kp i ∨ i = tb) → i < w8.heap.size) → ∀ v99 w99 o, w99.ownsRow 0 99 2 v99 (M.segs.length + 1) (segC M.segs ++ [.int .i64 ((M.last : Int) + 1), .int .i64 0]) → (w8.alloc o).grownBy w99 (Value.slice V.sA M.segs.length V.sC).ownBlock → (v99.ownBlock = (Value.slice V.sA M.segs.length V.sC).ownBlock ∨ v99.ownBlock = some (w8.alloc o).heap.size) →
      ∃ A' c', v99 = .slice A' (M.segs.length + 1) c' ∧ lb < w99.heap.size ∧ w99.cell? ⟨lb, 2, none⟩ = some (.slice V.sA M.segs.length V.sC) ∧ w99.cell? ⟨tb, 0, none⟩ = some (.int .i64 ((M.last : Int) + 1)) ∧ w99.cell? ⟨tb, 1, none⟩ = some (.int .i64 0) ∧ w99.frozen? ⟨lb, 2, none⟩ = false ∧ Hid (∃ V2 g, A' = some ⟨g, 0, none⟩ ∧ V2.sA = some ⟨g, 0, none⟩ ∧ WPair w0 Kp lb d R (syncF S' (segName s.1)).1 { M with synced := M.last, segs := M.segs ++ [(M.last + 1, 0)] } V2 (w99.setCell ⟨lb, 2, none⟩ (.slice A' (M.segs.length + 1) c')) ∧ Kept Kp w (w99.setCell ⟨lb, 2, none⟩ (.slice A' (M.segs.length + 1) c')))) := Lib.hid fun w8 tb h8 hk8 ht8 hlt v99 w99 o h1 h2 h3 => by
    obtain ⟨A', c', rfl, m1, m2, m3, m4, ⟨hp, hk9⟩⟩ := h8.addSeg hlt (Below.refl _ _) (M.last + 1, 0) (v99 := v99) (w99 := w99) (o := o) h1 h2 h3
    obtain ⟨c0, c1, _⟩ := two_cells ((m4 tb (.inr rfl)).trans ht8)
    have hp' := hp.keepK (Kp' := Kp) fun i _ hi => .inl hi
    obtain ⟨g, hg⟩ := hp'.row hsl
    exact ⟨A', c', rfl, m1, m2, c0, c1, m3, Lib.hid ⟨_, g, hg, hg, hp', hk8.trans ⟨fun i hi => hk9.1 i (.inl hi), hk9.2⟩⟩⟩
  have HLL2 := Lib.hid fun W V2 g (hW : WPair w0 Kp lb d R (syncF S' (segName s.1)).1 { M with synced := M.last, segs := M.segs ++ [(M.last + 1, 0)] } V2 W) (hg : V2.sA = some ⟨g, 0, none⟩) => hW.last_ hk2 (k := M.segs.length) (by simp) hg
  have HSG2 := Lib.hid fun W V2 g (hW : WPair w0 Kp lb d R (syncF S' (segName s.1)).1 { M with synced := M.last, segs := M.segs ++ [(M.last + 1, 0)] } V2 W) (hg : V2.sA = some ⟨g, 0, none⟩) => hW.seg hsl hg
  have HSB : Hid (∀ W V2 g, WPair w0 Kp lb d R (syncF S' (segName s.1)).1 { M with synced := M.last, segs := M.segs ++ [(M.last + 1, 0)] } V2 W → V2.sA = some ⟨g, 0, none⟩ → WPair w0 Kp lb d R (syncF S' (segName s.1)).1 { M with synced := M.last, segs := M.segs ++ [(M.last + 1, n + 6)] } V2 (W.setCell ⟨g, M.segs.length * 2 + 1, none⟩ (.int .i64 ((n : Int) + 6))) ∧ Kept Kp W (W.setCell ⟨g, M.segs.length * 2 + 1, none⟩ (.int .i64 ((n : Int) + 6)))) := Lib.hid fun W V2 g hW hg => by
    have h1 := hW.setBytes (v := 0 + (n + 6)) hsl hg
    have e : (M.segs ++ [(M.last + 1, 0)]).set M.segs.length (M.last + 1, 0 + (n + 6)) = M.segs ++ [(M.last + 1, n + 6)] := by simp
    rw [show ((0 + (n + 6) : Nat) : Int) = (n : Int) + 6 by omega] at h1
    simp only [e] at h1
    exact h1
  have HROW := Lib.hid fun W V2 (hW : WPair w0 Kp lb d R (syncF S' (segName s.1)).1 { M with synced := M.last, segs := M.segs ++ [(M.last + 1, 0)] } V2 W) => hW.row hsl
  have hnd : decide ((100000000 : Int) ≤ (M.last : Int) + 1) = false := decide_eq_false (by omega)
  have hlast0 : (M.last : Int) + 1 < 100000000 := by omega
  clear h hr hKp ht hk hrm hsl hk2 hx hl hs hf hg0
  obtain ⟨sf, sb⟩ := s
  simp only at *
  have hw1 : IntKind.i64.wrap ((sb : Int) + ((n : Int) + 6)) = (sb : Int) + ((n : Int) + 6) := IntWalk.i64_in _ (by omega)
  have e1 : 0 < sb := by omega
  have e2 : decide (0 < sb) = true := decide_eq_true e1
  have e3 : decide (M.size < sb + (n + 6)) = true := decide_eq_true (by omega)
  have e4 : decide ((M.size : Int) < (sb : Int) + ((n : Int) + 6)) = true := decide_eq_true (by omega)
  clear hfull
  go_enter Tryz.func24, Tryz.ntmps24
  go_wp2_with (first
    | (go_at_call 31; refine HSE.out.mono ?_; rintro e w1 ⟨vA, vC, rfl, hvc, hvm, HSV, HP1, HB1⟩)
    | (go_at_call 21; refine (HLA.out _ HP1.out).mono ?_; rintro e w2 ⟨rfl, h2, hb2⟩; have HP2 := Lib.hid h2; have HB2 := Lib.hid hb2; clear h2 hb2)
    | (go_at_call 53; refine (HLL.out _ HP2.out).mono ?_; rintro e w3 ⟨rfl, h3, hb3⟩; have HP3 := Lib.hid h3; have HBS := Lib.hid (HB2.out.trans (hb3.mono HB2.out.size)); obtain ⟨l8, l0, l1, _, _, _, _, _, _⟩ := HC.out _ _ _ _ _ h3; obtain ⟨l9, s0, s1, _⟩ := HSG0.out _ h3; clear h3 hb3))
  go_quiet (fail)
  have HP4 : Hid (WPair w0 Kp lb d R S M V (w3.drewN nq)) := Lib.hid (HP3.out.drewN nq)
  have HB14 : Hid (Below w1.heap.size w1 (w3.drewN nq)) := Lib.hid (HBS.out.trans ((drewn_below w3 nq).mono HBS.out.size))
  generalize w3.drewN nq = w4 at *
  clear l8 l0 l1 l9 s0 s1 hw1 e1 e2 e3 e4
  go_upto_region 11 with fail
  obtain ⟨l0, t0, t1, hnm⟩ := HNM.out w1 w4 w4.heap.size vA vC HSV.out HB1.out rfl HP4.out HB14.out _ rfl
  have HNM4 := Lib.hid hnm
  clear hnm
  go_region_held3 (fun w' => w'.cell? ⟨lb, 0, none⟩ = some (.pointer (some ⟨d, 0, none⟩)) ∧ w'.cell? ⟨w4.heap.size, 0, none⟩ = some (.int .i64 ((M.last : Int) + 1)) ∧ w'.cell? ⟨w4.heap.size, 1, none⟩ = some (.int .i64 0))
    (first | exact ⟨by assumption, by assumption, by assumption⟩ | exact ⟨l0, t0, t1⟩)
    (first
      | (go_at_call 54; refine (HNM4.out).mono ?_; rintro e w5 ⟨rfl, x0, x1, x2, HAP⟩)
      | (go_at_call 33; refine (HAP.out).mono ?_; rintro e w6 ⟨rfl, y0, y1, y2, HSYN⟩))
  all_goals
    clear l0 t0 t1 x0 x1 x2 y0 y1 y2
    go_wp2_with (go_at_call 25; refine (HSYN.out).mono ?_; rintro e wa ⟨rfl, z0, z1, z2, z3, HPA⟩)
    refine wp_region_G (fun w' => w'.cell? ⟨lb, 2, none⟩ = some (.slice V.sA M.segs.length V.sC) ∧ w'.cell? ⟨w4.heap.size, 0, none⟩ = some (.int .i64 ((M.last : Int) + 1)) ∧ w'.cell? ⟨w4.heap.size, 1, none⟩ = some (.int .i64 0)) 10 (by kernel_rfl) ?_
    have HPD := Lib.hid (HPA.out.1.later (Below.refl _ _).drew)
    have HKD : Hid (Kept Kp w wa.drew) := Lib.hid ⟨fun i hi => HPA.out.2.1.1 i hi, HPA.out.2.1.2⟩
    have HBX : Hid (wa.drew.heap[w4.heap.size]? = _) := Lib.hid HPA.out.2.2.1
    have HLT : Hid (∀ i, (Kp i ∨ i = w4.heap.size) → i < wa.drew.heap.size) := Lib.hid HPA.out.2.2.2
    have hS0 : wa.drew.cell? ⟨lb, 2, none⟩ = some (.slice V.sA M.segs.length V.sC) ∧ wa.drew.cell? ⟨w4.heap.size, 0, none⟩ = some (.int .i64 ((M.last : Int) + 1)) ∧ wa.drew.cell? ⟨w4.heap.size, 1, none⟩ = some (.int .i64 0) := ⟨z3, z1, z2⟩
    clear z0 z1 z2 z3 HPA HSYN HAP HNM4
    generalize wa.drew = wd at *
    refine wpAnyG_take (i := 0) (oi := _) (v := ?_) rfl (by kernel_rfl) (by kernel_rfl) (by kernel_rfl) (by kernel_rfl) (fun _ _ _ h => h) (Or.inl ⟨by rfl, ?_⟩) hS0 ?_
    rotate_left
    · (intro wS hSw; obtain ⟨y1, y2, y3⟩ := hSw; go_simp; try with_reducible rfl)
    try simp only [Act.put]
    refine wpAnyG_take (i := 1) (oi := _) (v := ?_) rfl (by kernel_rfl) (by kernel_rfl) (by kernel_rfl) (by kernel_rfl) (fun _ _ _ h => h) (Or.inl ⟨by rfl, ?_⟩) hS0 ?_
    rotate_left
    · (intro wS hSw; obtain ⟨y1, y2, y3⟩ := hSw; go_simp; try with_reducible rfl)
    try simp only [Act.put]
    refine wpAnyG_take (i := 2) (oi := _) (v := ?_) rfl (by kernel_rfl) (by kernel_rfl) (by kernel_rfl) (by kernel_rfl) (fun _ _ _ h => h) (Or.inl ⟨by rfl, ?_⟩) hS0 ?_
    rotate_left
    · (intro wS hSw; obtain ⟨y1, y2, y3⟩ := hSw; go_simp; try with_reducible rfl)
    try simp only [Act.put]
    refine wpAnyG_take (i := 3) (oi := _) (v := ?_) rfl (by kernel_rfl) (by kernel_rfl) (by kernel_rfl) (by kernel_rfl) (fun _ _ _ h => h) (Or.inl ⟨by rfl, ?_⟩) hS0 ?_
    rotate_left
    · (intro wS hSw; obtain ⟨y1, y2, y3⟩ := hSw; go_simp; try with_reducible rfl)
    try simp only [Act.put]
    refine wpAnyG_take (i := 4) (oi := _) (v := ?_) rfl (by kernel_rfl) (by kernel_rfl) (by kernel_rfl) (by kernel_rfl) (fun _ _ _ h => h) (Or.inl ⟨by rfl, ?_⟩) hS0 ?_
    rotate_left
    · (intro wS hSw; obtain ⟨y1, y2, y3⟩ := hSw; go_simp; try with_reducible rfl)
    try simp only [Act.put]
    refine wpAnyG_take (i := 5) (oi := _) (v := ?_) rfl (by kernel_rfl) (by kernel_rfl) (by kernel_rfl) (by kernel_rfl) (fun _ _ _ h => h) (Or.inl ⟨by rfl, ?_⟩) hS0 ?_
    rotate_left
    · (intro wS hSw; obtain ⟨y1, y2, y3⟩ := hSw; go_simp; try with_reducible rfl)
    try simp only [Act.put]
    refine wpAnyG_take (i := 6) (oi := _) (v := ?_) rfl (by kernel_rfl) (by kernel_rfl) (by kernel_rfl) (by kernel_rfl) (fun _ _ _ h => h) (Or.inl ⟨by rfl, ?_⟩) hS0 ?_
    rotate_left
    · (intro wS hSw; obtain ⟨y1, y2, y3⟩ := hSw; go_simp; try with_reducible rfl)
    try simp only [Act.put]
    refine wpAnyG_take (i := 7) (oi := _) (v := ?_) rfl (by kernel_rfl) (by kernel_rfl) (by kernel_rfl) (by kernel_rfl) (fun _ _ _ h => h) (Or.inl ⟨by rfl, ?_⟩) hS0 ?_
    rotate_left
    · (intro wS hSw; obtain ⟨y1, y2, y3⟩ := hSw; go_simp; try with_reducible rfl)
    try simp only [Act.put]
    obtain ⟨y1, y2, y3⟩ := hS0
    refine wpAnyG_one (i := 8) (o := ⟨some 77, _, _, _, _, _⟩) (by kernel_rfl) rfl (fun K hK => ?_)
    go_simp
    refine hK.out _ _ (fun _ => ⟨by go_keep, by go_keep, by go_keep⟩) ?_
    clear hK K
    try simp only [Act.put]
    refine wpAnyG_one (i := 9) (o := ⟨some 78, _, _, _, _, _⟩) (by kernel_rfl) rfl (fun K hK => ?_)
    refine step_append_where (o := ⟨some 78, _, _, _, _, _⟩) rfl (.tmp 73) (.tmp 77) 80 rfl 0 99 j0 _ 2 16 Tryz.underlying80 hj jz0 jz1 jz2 rfl (by omega) _ M.segs.length _ rfl ((HOWN.out _ _ HPD.out).alloc _) (some ⟨wd.heap.size, 0, none⟩) 1 1 [.int .i64 ((M.last : Int) + 1), .int .i64 0] rfl rfl (fun e => by cases e) (news2 wd _ _ _) (by simp [Value.oneCell']) (by unfold maxLen; omega) (by omega) (Nat.zero_le _) ?_
    intro v99 w99 ho99 hg99 hw99
    obtain ⟨A', c', rfl, l99, m5, m6, m7, mf, HFN⟩ := HADS.out wd _ HPD.out HKD.out HBX.out HLT.out v99 w99 _ ho99 hg99 hw99
    clear ho99 hg99 hw99
    refine hK.out _ _ (fun _ => ⟨m5, m6, m7⟩) ?_
    clear hK K
    try simp only [Act.put]
    refine wpAnyG_one (i := 10) (o := ⟨some 79, _, _, _, _, _⟩) (by kernel_rfl) rfl (fun K hK => ?_)
    go_simp
    refine hK.out _ _ (fun h => absurd h (by decide)) ?_
    clear hK K
    try simp only [Act.put]
    refine wpAnyG_one (i := 11) (o := ⟨some 80, _, _, _, _, _⟩) (by kernel_rfl) rfl (fun K hK => ?_)
    go_simp
    refine hK.out _ _ (fun h => absurd h (by decide)) ?_
    clear hK K
    try simp only [Act.put]
    refine wpAnyG_one (i := 12) (o := ⟨none, _, _, _, _, _⟩) (by kernel_rfl) rfl (fun K hK => ?_)
    go_simp
    refine hK.out _ _ (fun h => absurd h (by decide)) ?_
    clear hK K
    try simp only [Act.put]
    refine wpAnyG_done (by kernel_rfl) ?_ _
    obtain ⟨V2, g, rfl, hg2, HP, HK⟩ := HFN.out
    have HP6 := Lib.hid HP
    have HK6 := Lib.hid HK
    clear HP HK HFN y1 y2 y3 m5 m6 m7 mf l99 HPD HKD HBX HLT HADS HOWN
    generalize w99.setCell ⟨lb, 2, none⟩ (.slice (some ⟨g, 0, none⟩) (M.segs.length + 1) c') = w6 at *
    go_wp2_with (go_at_call 53; refine (HLL2.out _ _ _ HP6.out hg2).mono ?_; rintro e w7 ⟨rfl, h7, hb7⟩; have HP7 := Lib.hid h7; have HB7 := Lib.hid hb7; obtain ⟨l9, _, s1, sf1⟩ := HSG2.out _ _ _ h7 hg2; clear h7 hb7)
    obtain ⟨hp8, hk8⟩ := HSB.out w7 _ _ HP7.out hg2
    have HP8 := Lib.hid hp8
    have HK8 : Hid (Kept Kp w (w7.setCell ⟨g, M.segs.length * 2 + 1, none⟩ (.int .i64 ((n : Int) + 6)))) := Lib.hid ((HK6.out.trans (Kept.of_below HB7.out (HKB.out w6 HK6.out))).trans hk8)
    clear hp8 hk8 l9 s1 sf1
    generalize w7.setCell ⟨g, M.segs.length * 2 + 1, none⟩ (.int .i64 ((n : Int) + 6)) = w8 at *
    obtain ⟨l8, _, _, _, _, _, l5, _, lf⟩ := HP8.out.cells
    have l5' : w8.cell? ⟨lb, 5, none⟩ = some (.slice V2.rA M.recs.length V2.rC) := l5
    clear l5
    have HCL8 : Hid (Calls Tryz.prog 55 #[.slice A n c] w8.drew fun e w9 => ∃ cA cC, e = .returned (.slice cA n cC) ∧ w9.cell? ⟨lb, 5, none⟩ = some (.slice V2.rA M.recs.length V2.rC) ∧ Hid (w9.ownsRow w8.heap.size 5 1 (.slice cA n cC) n (xs.map (Value.int .u8))) ∧ Hid (w9.ownsRow 0 33 1 (.slice V2.rA M.recs.length V2.rC) M.recs.length (recC V2.rv M.recs)) ∧
        Hid (∀ v99 w99 o, w99.ownsRow 0 33 1 v99 (M.recs.length + 1) (recC V2.rv M.recs ++ [.slice cA n cC]) → (w9.alloc o).grownBy w99 (Value.slice V2.rA M.recs.length V2.rC).ownBlock → (v99.ownBlock = (Value.slice V2.rA M.recs.length V2.rC).ownBlock ∨ v99.ownBlock = some (w9.alloc o).heap.size) →
          ∃ A' c', v99 = .slice A' (M.recs.length + 1) c' ∧ lb < w99.heap.size ∧ w99.cell? ⟨lb, 5, none⟩ = some (.slice V2.rA M.recs.length V2.rC) ∧ w99.frozen? ⟨lb, 5, none⟩ = false ∧
            Hid (∃ V', WPair w0 Kp lb d R (syncF S' (segName sf)).1 { M with synced := M.last, segs := M.segs ++ [(M.last + 1, n + 6)], recs := M.recs ++ [xs] } V' (w99.setCell ⟨lb, 5, none⟩ (.slice A' (M.recs.length + 1) c')) ∧ Kept Kp w8 (w99.setCell ⟨lb, 5, none⟩ (.slice A' (M.recs.length + 1) c'))))) := Lib.hid (by
      have hb8 : Below w8.heap.size w8 w8.drew := (Below.refl _ _).drew
      refine (Clone_any A n c xs w8.drew ((HRK.out w8 HK8.out).below hb8) (by omega)).mono ?_
      rintro e w9 ⟨v, rfl, ho9, hb9⟩
      obtain ⟨cA, cC, rfl⟩ := own_shape ho9
      have hb9' : Below w8.heap.size w8 w9 := hb8.trans hb9
      obtain ⟨Φ, Λ, hlog, _⟩ := HP8.out.ex
      have hl9 := hlog.later hb9'
      exact ⟨cA, cC, rfl, hl9.cells.2.2.2.2.2.1, Lib.hid ho9, Lib.hid hl9.recs, Lib.hid fun v99 w99 o h1 h2 h3 => HP8.out.addRec (HKB.out w8 HK8.out) hb9' ho9 HXN.out HXB.out (by omega) h1 h2 h3⟩)
    refine wp_region_G (fun w' => w'.cell? ⟨lb, 5, none⟩ = some (.slice V2.rA M.recs.length V2.rC)) 9 (by kernel_rfl) ?_
    have hS0 : w8.drew.cell? ⟨lb, 5, none⟩ = some (.slice V2.rA M.recs.length V2.rC) := l5'
    refine wpAnyG_take (i := 0) (oi := _) (v := ?_) rfl (by kernel_rfl) (by kernel_rfl) (by kernel_rfl) (by kernel_rfl) (fun _ _ _ h => h) (Or.inl ⟨by rfl, ?_⟩) hS0 ?_
    rotate_left
    · (intro wS hSw; go_simp; try with_reducible rfl)
    try simp only [Act.put]
    refine wpAnyG_take (i := 1) (oi := _) (v := ?_) rfl (by kernel_rfl) (by kernel_rfl) (by kernel_rfl) (by kernel_rfl) (fun _ _ _ h => h) (Or.inl ⟨by rfl, ?_⟩) hS0 ?_
    rotate_left
    · (intro wS hSw; go_simp; try with_reducible rfl)
    try simp only [Act.put]
    refine wpAnyG_take (i := 2) (oi := _) (v := ?_) rfl (by kernel_rfl) (by kernel_rfl) (by kernel_rfl) (by kernel_rfl) (fun _ _ _ h => h) (Or.inl ⟨by rfl, ?_⟩) hS0 ?_
    rotate_left
    · (intro wS hSw; go_simp; try with_reducible rfl)
    try simp only [Act.put]
    refine wpAnyG_take (i := 3) (oi := _) (v := ?_) rfl (by kernel_rfl) (by kernel_rfl) (by kernel_rfl) (by kernel_rfl) (fun _ _ _ h => h) (Or.inl ⟨by rfl, ?_⟩) hS0 ?_
    rotate_left
    · (intro wS hSw; go_simp; try with_reducible rfl)
    try simp only [Act.put]
    refine wpAnyG_take (i := 4) (oi := _) (v := ?_) rfl (by kernel_rfl) (by kernel_rfl) (by kernel_rfl) (by kernel_rfl) (fun _ _ _ h => h) (Or.inl ⟨by rfl, ?_⟩) hS0 ?_
    rotate_left
    · (intro wS hSw; go_simp; try with_reducible rfl)
    try simp only [Act.put]
    refine wpAnyG_take (i := 5) (oi := _) (v := ?_) rfl (by kernel_rfl) (by kernel_rfl) (by kernel_rfl) (by kernel_rfl) (fun _ _ _ h => h) (Or.inl ⟨by rfl, ?_⟩) hS0 ?_
    rotate_left
    · (intro wS hSw; go_simp; try with_reducible rfl)
    try simp only [Act.put]
    refine wpAnyG_one (i := 6) (o := ⟨some 97, _, _, _, _, _⟩) (by kernel_rfl) rfl (fun K hK => ?_)
    go_simp
    refine (HCL8.out).mono ?_
    rintro e w9 ⟨cA, cC, rfl, l59, HO9, HR9, HADD⟩
    refine hK.out _ _ (fun _ => l59) ?_
    clear hK K
    try simp only [Act.put]
    refine wpAnyG_one (i := 7) (o := ⟨some 98, _, _, _, _, _⟩) (by kernel_rfl) rfl (fun K hK => ?_)
    go_simp
    refine hK.out _ _ (fun _ => by go_keep) ?_
    clear hK K
    try simp only [Act.put]
    refine wpAnyG_one (i := 8) (o := ⟨some 99, _, _, _, _, _⟩) (by kernel_rfl) rfl (fun K hK => ?_)
    refine step_append_where (o := ⟨some 99, _, _, _, _, _⟩) rfl (.tmp 95) (.tmp 98) 34 rfl 0 33 i0 _ 1 24 Tryz.underlying34 hi hz0 hz1 hz2 rfl (by omega) _ M.recs.length _ rfl (HR9.out.alloc _) (some ⟨w9.heap.size, 0, none⟩) 1 1 [.slice cA n cC] rfl rfl (fun e => by cases e) (news1 w9 _ _) (by simp [Value.oneCell']) (by unfold maxLen; omega) (by omega) (Nat.zero_le _) ?_
    intro v99 w99 ho99 hg99 hw99
    obtain ⟨A', c', rfl, l99, m5, mf, HFIN⟩ := HADD.out v99 w99 _ ho99 hg99 hw99
    clear ho99 hg99 hw99
    refine hK.out _ _ (fun _ => m5) ?_
    clear hK K
    try simp only [Act.put]
    refine wpAnyG_one (i := 9) (o := ⟨some 100, _, _, _, _, _⟩) (by kernel_rfl) rfl (fun K hK => ?_)
    go_simp
    refine hK.out _ _ (fun h => absurd h (by decide)) ?_
    clear hK K
    try simp only [Act.put]
    refine wpAnyG_one (i := 10) (o := ⟨some 101, _, _, _, _, _⟩) (by kernel_rfl) rfl (fun K hK => ?_)
    go_simp
    refine hK.out _ _ (fun h => absurd h (by decide)) ?_
    clear hK K
    try simp only [Act.put]
    refine wpAnyG_one (i := 11) (o := ⟨none, _, _, _, _, _⟩) (by kernel_rfl) rfl (fun K hK => ?_)
    go_simp
    refine hK.out _ _ (fun h => absurd h (by decide)) ?_
    clear hK K
    try simp only [Act.put]
    refine wpAnyG_done (by kernel_rfl) ?_ _
    go_wp2_with fail
    go_ret
    obtain ⟨V', hp, hk9⟩ := HFIN.out
    first | exact ⟨rfl, ⟨V', hp⟩, HK8.out.trans hk9⟩ | exact ⟨rfl, V', hp, HK8.out.trans hk9⟩
end
end Go.Proofs.YtnomicnmpllajaaGreatDoor
end

section
namespace Go.Proofs.YtnomicnmpllajaaGreatDoor
open Go Go.RowKit

section
variable {w0 w wr w' : World} {Kp Kp' : Nat → Prop} {lb d : Nat} {R : Int} {S S' : List RF} {M : LogM} {V : LogV}

set_option maxHeartbeats 1600000 in
set_option maxRecDepth 100000 in
theorem Append_long (h : WPair w0 Kp lb d R S M V w) {A : Option Addr} {n c : Nat} {xs : List Int} (hr : Rd w w.heap.size .u8 A n c xs) (hn : 4096 < n) :
    Calls Tryz.prog 24 #[.pointer (some ⟨lb, 0, none⟩), .slice A n c] w fun e w' => e = .returned (.int .i64 5) ∧ WPair w0 Kp lb d R S M V w' ∧ Kept Kp w w' := by
  have HSE := Lib.hid (Seal_no A n c xs w.heap.size w hr hn)
  have HH := Lib.hid h
  clear h hr
  go_enter Tryz.func24, Tryz.ntmps24
  go_wp2_with (go_at_call 31; refine HSE.out.mono ?_; rintro e w1 ⟨rfl, rfl⟩)
  go_ret
  exact ⟨rfl, HH.out, fun _ _ => rfl, Nat.le_refl _⟩

set_option maxHeartbeats 1600000 in
set_option maxRecDepth 100000 in
theorem Append_many (h : WPair w0 Kp lb d R S M V w) (hKp : ∀ k, Kp k → k < w.heap.size) (hk : LogOk M) {A : Option Addr} {n c : Nat} {xs : List Int} (hr : Rd w w.heap.size .u8 A n c xs) (hx : ∀ x ∈ xs, 0 ≤ x ∧ x < 256) (hn : n ≤ 4096) (hnum : 100000000 ≤ M.last + 1) (hm : M.last < 1000000000) :
    Calls Tryz.prog 24 #[.pointer (some ⟨lb, 0, none⟩), .slice A n c] w fun e w' => e = .returned (.int .i64 5) ∧ WPair w0 Kp lb d R S M V w' ∧ Kept Kp w w' := by
  have HSE : Hid (Calls Tryz.prog 31 #[.slice A n c] w fun e w1 => ∃ vA vC, e = .returned (.tuple #[.slice vA (n + 6) vC, .int .i64 0]) ∧ Hid (WPair w0 Kp lb d R S M V w1) ∧ Hid (Below w.heap.size w w1)) := Lib.hid (by
    refine (Seal_any A n c xs w hr hx hn).mono ?_
    rintro e w1 ⟨v, rfl, ho, hb⟩
    obtain ⟨vA, vC, rfl, hrd⟩ := Rd.of_own ho
    exact ⟨vA, vC, rfl, Lib.hid (h.later hb), Lib.hid hb⟩)
  have HLA := Lib.hid fun W (hW : WPair w0 Kp lb d R S M V W) => hW.Last_ hk
  have HKP := Lib.hid hKp
  have hnd : decide ((100000000 : Int) ≤ (M.last : Int) + 1) = true := decide_eq_true (by omega)
  have hw1 : IntKind.i64.wrap ((M.last : Int) + 1) = (M.last : Int) + 1 := IntWalk.i64_in _ (by omega)
  clear h hr hx hKp hk
  go_enter Tryz.func24, Tryz.ntmps24
  go_wp2_with (first
    | (go_at_call 31; refine HSE.out.mono ?_; rintro e w1 ⟨vA, vC, rfl, HP1, HB1⟩)
    | (go_at_call 21; refine (HLA.out _ HP1.out).mono ?_; rintro e w2 ⟨rfl, h2, hb2⟩; have HP2 := Lib.hid h2; have HB2 := Lib.hid (HB1.out.trans (hb2.mono HB1.out.size)); clear h2 hb2))
  go_ret
  exact ⟨rfl, HP2.out, Kept.of_below HB2.out HKP.out⟩

set_option maxHeartbeats 3200000 in
set_option maxRecDepth 100000 in
theorem Append_on_full (h : WPair w0 Kp lb d R S M V w) (hKp : ∀ k, Kp k → k < w.heap.size) (ht : Tab w0) (hk : LogOk M) {A : Option Addr} {n c : Nat} {xs : List Int} (hr : Rd w w.heap.size .u8 A n c xs) (hx : ∀ x ∈ xs, 0 ≤ x ∧ x < 256) (hA : ∀ a, A = some a → 0 < n → Kp a.block)
    (hn : n ≤ 4096) (hnum : M.last + 1 < 100000000) (hS : S.length ≤ 1000000) {k : Nat} {s : Nat × Nat} (hl : M.segs.length = k + 1) (hs : M.segs[k]? = some s) (hfit : s.2 = 0 ∨ s.2 + (n + 6) ≤ M.size) (hrm : appendF R S (segName s.1) (sealF xs) = (S, 5)) (hsb : s.2 + (n + 6) ≤ 1048576) :
    Calls Tryz.prog 24 #[.pointer (some ⟨lb, 0, none⟩), .slice A n c] w fun e w' => e = .returned (.int .i64 5) ∧ WPair w0 Kp lb d R S M V w' ∧ Kept Kp w w' := by
  obtain ⟨g, hg⟩ := h.row hs
  have hs1 := (hk.segs s (List.mem_of_getElem? hs)).1
  have hs2 := (hk.segs s (List.mem_of_getElem? hs)).2
  have hMs := hk.size
  have HSE : Hid (Calls Tryz.prog 31 #[.slice A n c] w fun e w1 => ∃ vA vC, e = .returned (.tuple #[.slice vA (n + 6) vC, .int .i64 0]) ∧ n + 6 ≤ vC ∧ vC ≤ 9223372036854775807 ∧ Hid (Rd w1 w1.heap.size .u8 vA (n + 6) vC (sealF xs)) ∧ Hid (WPair w0 Kp lb d R S M V w1) ∧ Hid (Below w.heap.size w w1)) := Lib.hid (by
    refine (Seal_any A n c xs w hr hx hn).mono ?_
    rintro e w1 ⟨v, rfl, ho, hb⟩
    obtain ⟨vA, vC, rfl, hrd⟩ := Rd.of_own ho
    have hm := hrd.max
    unfold maxLen at hm
    exact ⟨vA, vC, rfl, hrd.cap, hm, Lib.hid hrd, Lib.hid (h.later hb), Lib.hid hb⟩)
  have HLA := Lib.hid fun W (hW : WPair w0 Kp lb d R S M V W) => hW.Last_ hk
  have HLL := Lib.hid fun W S (hW : WPair w0 Kp lb d R S M V W) => hW.last_ hk hl hg
  have HC := Lib.hid fun W S (hW : WPair w0 Kp lb d R S M V W) => hW.cells
  have HSG := Lib.hid fun W S (hW : WPair w0 Kp lb d R S M V W) => hW.seg hs hg
  have HNM : Hid (∀ w1 W vA vC, Rd w1 w1.heap.size .u8 vA (n + 6) vC (sealF xs) → Below w.heap.size w w1 → WPair w0 Kp lb d R S M V W → Below w1.heap.size w1 W →
      Calls Tryz.prog 54 #[.agg #[.int .i64 s.1, .int .i64 s.2]] W fun e w5 => e = .returned (.string (nameS s.1)) ∧ w5.cell? ⟨lb, 0, none⟩ = some (.pointer (some ⟨d, 0, none⟩)) ∧ w5.cell? ⟨g, k * 2, none⟩ = some (.int .i64 s.1) ∧ w5.cell? ⟨g, k * 2 + 1, none⟩ = some (.int .i64 s.2) ∧
        Hid (Calls Tryz.prog 33 #[.pointer (some ⟨d, 0, none⟩), .string (nameS s.1), .slice vA (n + 6) vC] w5 fun e w6 => e = .returned (.int .i64 5) ∧ w6.cell? ⟨lb, 0, none⟩ = some (.pointer (some ⟨d, 0, none⟩)) ∧ w6.cell? ⟨g, k * 2, none⟩ = some (.int .i64 s.1) ∧ w6.cell? ⟨g, k * 2 + 1, none⟩ = some (.int .i64 s.2) ∧ Hid (WPair w0 Kp lb d R S M V w6 ∧ Kept Kp w w6))) := Lib.hid fun w1 W vA vC hrd hb1 hW hb1W => by
    refine (hW.name_ ht s.1 s.2 hs1).mono ?_
    rintro e w5 ⟨rfl, h5, hb5⟩
    obtain ⟨_, x0, x1, _⟩ := h5.seg hs hg
    refine ⟨rfl, h5.cells.2.1, x0, x1, Lib.hid ?_⟩
    have hb15 : Below w1.heap.size w1 w5 := hb1W.trans (hb5.mono hb1W.size)
    have hK5 : Kept Kp w w5 := Kept.of_below (hb1.trans (hb15.mono hb1.size)) hKp
    refine (h5.dapp (fun i hi => Nat.lt_of_lt_of_le (hKp i hi) hK5.2) (nameS s.1) (by rw [nameS_size]; unfold maxLen; omega) vA (n + 6) vC (sealF xs) ((hrd.below hb15).more hb15.size) (sealF_bytes hx) hS).mono ?_
    rintro e w6 ⟨rfl, h6, hk6⟩
    rw [nameS_list, hrm] at h6 ⊢
    obtain ⟨_, y0, y1, _⟩ := h6.seg hs hg
    exact ⟨rfl, h6.cells.2.1, y0, y1, Lib.hid ⟨h6, hK5.trans hk6⟩⟩
  obtain ⟨i0, hi, hz0, hz1, hz2⟩ := info_parts info_row
  have HXN := Lib.hid hr.len
  have HXB := Lib.hid hx
  have HKB : Hid (∀ W, Kept Kp w W → ∀ k, Kp k → k < W.heap.size) := Lib.hid fun W hK i hi => Nat.lt_of_lt_of_le (hKp i hi) hK.2
  have HRK : Hid (∀ W, Kept Kp w W → Rd W W.heap.size .u8 A n c xs) := Lib.hid fun W hK => hr.kept hK hA
  have hlast0 : (M.last : Int) + 1 < 100000000 := by omega
  have hnd : decide ((100000000 : Int) ≤ (M.last : Int) + 1) = false := decide_eq_false (by omega)
  generalize hlst : M.last = lst at *
  have HLST := Lib.hid hlst
  have HR := Lib.hid hr
  clear h hr hlst hKp ht hk hrm
  obtain ⟨sf, sb⟩ := s
  simp only at *
  go_enter Tryz.func24, Tryz.ntmps24
  go_wp2_with (first
    | (go_at_call 31; refine HSE.out.mono ?_; rintro e w1 ⟨vA, vC, rfl, hvc, hvm, HSV, HP1, HB1⟩)
    | (go_at_call 21; refine (HLA.out _ HP1.out).mono ?_; rintro e w2 ⟨rfl, h2, hb2⟩; have HP2 := Lib.hid h2; have HB2 := Lib.hid hb2; clear h2 hb2)
    | (go_at_call 53; refine (HLL.out _ _ HP2.out).mono ?_; rintro e w3 ⟨rfl, h3, hb3⟩; have HP3 := Lib.hid h3; have HB3 := Lib.hid (HB1.out.trans ((HB2.out.trans (hb3.mono HB2.out.size)).mono HB1.out.size)); have HBS := Lib.hid (HB2.out.trans (hb3.mono HB2.out.size)); obtain ⟨l8, l0, l1, _, _, _, _, _, _⟩ := HC.out _ _ h3; obtain ⟨l9, s0, s1, _⟩ := HSG.out _ _ h3; clear h3 hb3))
  have hw1 : IntKind.i64.wrap ((sb : Int) + ((n : Int) + 6)) = (sb : Int) + ((n : Int) + 6) := IntWalk.i64_in _ (by omega)
  have hcase : (sb = 0) ∨ ((0 : Int) < sb ∧ (sb : Int) + ((n : Int) + 6) ≤ M.size) := by omega
  rcases hcase with hc0 | ⟨hc0, hc1⟩
  · have e1 : decide (0 < sb) = false := decide_eq_false (by omega)
    have e2 : decide ((0 : Int) < (sb : Int)) = false := decide_eq_false (by omega)
    clear hc0 hfit
    go_quiet (fail)
    have HP4 : Hid (WPair w0 Kp lb d R S M V (w3.drewN nq)) := Lib.hid (HP3.out.drewN nq)
    have HB4 : Hid (Below w.heap.size w (w3.drewN nq)) := Lib.hid (HB3.out.trans ((drewn_below w3 nq).mono HB3.out.size))
    have HB14 : Hid (Below w1.heap.size w1 (w3.drewN nq)) := Lib.hid (HBS.out.trans ((drewn_below w3 nq).mono HBS.out.size))
    generalize w3.drewN nq = w4 at *
    clear l8 l9 l0 l1 s0 s1 hw1
    obtain ⟨l8, l0, _, _, _, _, _, _, _⟩ := HC.out _ _ HP4.out
    obtain ⟨l9, s0, s1, _⟩ := HSG.out _ _ HP4.out
    go_upto_region 11 with fail
    have HNM4 := Lib.hid (HNM.out w1 w4.drew vA vC HSV.out HB1.out (HP4.out.later (Below.refl _ _).drew) HB14.out.drew)
    go_region_held3 (fun w' => w'.cell? ⟨lb, 0, none⟩ = some (.pointer (some ⟨d, 0, none⟩)) ∧ w'.cell? ⟨g, k * 2, none⟩ = some (.int .i64 sf) ∧ w'.cell? ⟨g, k * 2 + 1, none⟩ = some (.int .i64 sb))
      (first | exact ⟨by assumption, by assumption, by assumption⟩ | exact ⟨l0, s0, s1⟩)
      (first
        | (go_at_call 54; refine (HNM4.out).mono ?_; rintro e w5 ⟨rfl, x0, x1, x2, HAP⟩)
        | (go_at_call 33; refine (HAP.out).mono ?_; rintro e w6 ⟨rfl, y0, y1, y2, HP6⟩))
    all_goals
      clear l8 l9 l0 s0 s1 x0 x1 x2 y0 y1 y2
      go_wp2_with fail
      go_ret
      exact ⟨rfl, HP6.out.1, HP6.out.2⟩
  · have e1 : 0 < sb := by omega
    have e2 : decide (0 < sb) = true := decide_eq_true e1
    have e3 : decide (M.size < sb + (n + 6)) = false := decide_eq_false (by omega)
    have e4 : decide ((M.size : Int) < (sb : Int) + ((n : Int) + 6)) = false := decide_eq_false (by omega)
    clear hc1 hfit
    go_quiet (fail)
    have HP4 : Hid (WPair w0 Kp lb d R S M V (w3.drewN nq)) := Lib.hid (HP3.out.drewN nq)
    have HB4 : Hid (Below w.heap.size w (w3.drewN nq)) := Lib.hid (HB3.out.trans ((drewn_below w3 nq).mono HB3.out.size))
    have HB14 : Hid (Below w1.heap.size w1 (w3.drewN nq)) := Lib.hid (HBS.out.trans ((drewn_below w3 nq).mono HBS.out.size))
    generalize w3.drewN nq = w4 at *
    clear l8 l9 l0 l1 s0 s1 hw1
    obtain ⟨l8, l0, _, _, _, _, _, _, _⟩ := HC.out _ _ HP4.out
    obtain ⟨l9, s0, s1, _⟩ := HSG.out _ _ HP4.out
    go_upto_region 11 with fail
    have HNM4 := Lib.hid (HNM.out w1 w4.drew vA vC HSV.out HB1.out (HP4.out.later (Below.refl _ _).drew) HB14.out.drew)
    go_region_held3 (fun w' => w'.cell? ⟨lb, 0, none⟩ = some (.pointer (some ⟨d, 0, none⟩)) ∧ w'.cell? ⟨g, k * 2, none⟩ = some (.int .i64 sf) ∧ w'.cell? ⟨g, k * 2 + 1, none⟩ = some (.int .i64 sb))
      (first | exact ⟨by assumption, by assumption, by assumption⟩ | exact ⟨l0, s0, s1⟩)
      (first
        | (go_at_call 54; refine (HNM4.out).mono ?_; rintro e w5 ⟨rfl, x0, x1, x2, HAP⟩)
        | (go_at_call 33; refine (HAP.out).mono ?_; rintro e w6 ⟨rfl, y0, y1, y2, HP6⟩))
    all_goals
      clear l8 l9 l0 s0 s1 x0 x1 x2 y0 y1 y2
      go_wp2_with fail
      go_ret
      exact ⟨rfl, HP6.out.1, HP6.out.2⟩

set_option maxHeartbeats 3200000 in
set_option maxRecDepth 100000 in
theorem Append_first_full (h : WPair w0 Kp lb d R S M V w) (hKp : ∀ k, Kp k → k < w.heap.size) (ht : Tab w0) (hk : LogOk M) {A : Option Addr} {n c : Nat} {xs : List Int} (hr : Rd w w.heap.size .u8 A n c xs) (hx : ∀ x ∈ xs, 0 ≤ x ∧ x < 256) (hA : ∀ a, A = some a → 0 < n → Kp a.block)
    (hn : n ≤ 4096) (hnum : M.last + 1 < 100000000) (hS : S.length ≤ 1000000) (hl : M.segs = []) (hrm : appendF R S (segName (M.last + 1)) (sealF xs) = (S, 5)) :
    Calls Tryz.prog 24 #[.pointer (some ⟨lb, 0, none⟩), .slice A n c] w fun e w' => e = .returned (.int .i64 5) ∧ WPair w0 Kp lb d R S M V w' ∧ Kept Kp w w' := by
  have hMs := hk.size
  have HSE : Hid (Calls Tryz.prog 31 #[.slice A n c] w fun e w1 => ∃ vA vC, e = .returned (.tuple #[.slice vA (n + 6) vC, .int .i64 0]) ∧ n + 6 ≤ vC ∧ vC ≤ 9223372036854775807 ∧ Hid (Rd w1 w1.heap.size .u8 vA (n + 6) vC (sealF xs)) ∧ Hid (WPair w0 Kp lb d R S M V w1) ∧ Hid (Below w.heap.size w w1)) := Lib.hid (by
    refine (Seal_any A n c xs w hr hx hn).mono ?_
    rintro e w1 ⟨v, rfl, ho, hb⟩
    obtain ⟨vA, vC, rfl, hrd⟩ := Rd.of_own ho
    have hm := hrd.max
    unfold maxLen at hm
    exact ⟨vA, vC, rfl, hrd.cap, hm, Lib.hid hrd, Lib.hid (h.later hb), Lib.hid hb⟩)
  have HLA := Lib.hid fun W (hW : WPair w0 Kp lb d R S M V W) => hW.Last_ hk
  have HLL := Lib.hid fun W (hW : WPair w0 Kp lb d R S M V W) => hW.last0_ hl
  have HC := Lib.hid fun W M V S Kp (hW : WPair w0 Kp lb d R S M V W) => hW.cells
  -- from the box of the new segment on
  have HNM : Hid (∀ w1 W tb vA vC, Rd w1 w1.heap.size .u8 vA (n + 6) vC (sealF xs) → Below w.heap.size w w1 → tb = W.heap.size → WPair w0 Kp lb d R S M V W → Below w1.heap.size w1 W → ∀ W2, W2 = (W.alloc (.cells #[.int .i64 ((M.last : Int) + 1), .int .i64 0] 99)).drew →
      W2.cell? ⟨lb, 0, none⟩ = some (.pointer (some ⟨d, 0, none⟩)) ∧ W2.cell? ⟨tb, 0, none⟩ = some (.int .i64 ((M.last : Int) + 1)) ∧ W2.cell? ⟨tb, 1, none⟩ = some (.int .i64 0) ∧ Calls Tryz.prog 54 #[.agg #[.int .i64 ((M.last : Int) + 1), .int .i64 0]] W2 fun e w5 => e = .returned (.string (nameS (M.last + 1))) ∧ w5.cell? ⟨lb, 0, none⟩ = some (.pointer (some ⟨d, 0, none⟩)) ∧ w5.cell? ⟨tb, 0, none⟩ = some (.int .i64 ((M.last : Int) + 1)) ∧ w5.cell? ⟨tb, 1, none⟩ = some (.int .i64 0) ∧
        Hid (Calls Tryz.prog 33 #[.pointer (some ⟨d, 0, none⟩), .string (nameS (M.last + 1)), .slice vA (n + 6) vC] w5 fun e w6 => e = .returned (.int .i64 5) ∧ w6.cell? ⟨lb, 0, none⟩ = some (.pointer (some ⟨d, 0, none⟩)) ∧ w6.cell? ⟨tb, 0, none⟩ = some (.int .i64 ((M.last : Int) + 1)) ∧ w6.cell? ⟨tb, 1, none⟩ = some (.int .i64 0) ∧ Hid (WPair w0 Kp lb d R S M V w6 ∧ Kept Kp w w6))) := Lib.hid fun w1 W tb vA vC hrd hb1 htb hW hb1W W2 hW2 => by
    have hbW2 : Below W.heap.size W W2 := by rw [hW2]; exact ((Below.refl _ _).alloc (Nat.le_refl _) _).drew
    have hbox : W2.heap[tb]? = some (.cells #[.int .i64 ((M.last : Int) + 1), .int .i64 0] 99 (0, 0)) := by rw [hW2, htb]; exact heap_alloc_new W _
    have hsz2 : tb < W2.heap.size := lt_of_block hbox
    have hKW : ∀ k, Kp k → k < W.heap.size := fun i hi => Nat.lt_of_lt_of_le (hKp i hi) (Nat.le_trans hb1.size hb1W.size)
    have hP2 : WPair w0 (fun i => Kp i ∨ i = tb) lb d R S M V W2 := (hW.keepK fun i h1 h2 => by rcases h2 with h2 | h2; exact h2; omega).later hbW2
    have hKp2 : ∀ i, (Kp i ∨ i = tb) → i < W2.heap.size := fun i hi => by
      rcases hi with hi | hi
      · have := hKW i hi; have := hbW2.size; omega
      · omega
    have hwW2 : Kept Kp w W2 := Kept.of_below (hb1.trans ((hb1W.mono hb1.size).trans (hbW2.mono (Nat.le_trans hb1.size hb1W.size)))) hKp
    have hcells : ∀ w', Kept (fun i => Kp i ∨ i = tb) W2 w' → w'.cell? ⟨tb, 0, none⟩ = some (.int .i64 ((M.last : Int) + 1)) ∧ w'.cell? ⟨tb, 1, none⟩ = some (.int .i64 0) := fun w' hK => by
      have h1 : w'.heap[tb]? = _ := (hK.1 tb (.inr rfl)).trans hbox
      obtain ⟨c0, c1, _⟩ := two_cells h1
      exact ⟨c0, c1⟩
    obtain ⟨t0, t1⟩ := hcells W2 ⟨fun _ _ => rfl, Nat.le_refl _⟩
    refine ⟨hP2.cells.2.1, t0, t1, ?_⟩
    have hname := hP2.name_ ht (M.last + 1) 0 hnum
    rw [show ((M.last + 1 : Nat) : Int) = (M.last : Int) + 1 by omega, show ((0 : Nat) : Int) = 0 from rfl] at hname
    refine hname.mono ?_
    rintro e w5 ⟨rfl, h5, hb5⟩
    have hK5 := Kept.of_below hb5 hKp2
    obtain ⟨x0, x1⟩ := hcells w5 hK5
    refine ⟨rfl, h5.cells.2.1, x0, x1, Lib.hid ?_⟩
    have hb15 : Below w1.heap.size w1 w5 := (hb1W.trans (hbW2.mono hb1W.size)).trans (hb5.mono (Nat.le_trans hb1W.size hbW2.size))
    refine (h5.dapp (fun i hi => Nat.lt_of_lt_of_le (hKp2 i hi) hK5.2) (nameS (M.last + 1)) (by rw [nameS_size]; unfold maxLen; omega) vA (n + 6) vC (sealF xs) ((hrd.below hb15).more hb15.size) (sealF_bytes hx) hS).mono ?_
    rintro e w6 ⟨rfl, h6, hk6⟩
    rw [nameS_list, hrm] at h6 ⊢
    have hK6 := hK5.trans hk6
    obtain ⟨y0, y1⟩ := hcells w6 hK6
    exact ⟨rfl, h6.cells.2.1, y0, y1, Lib.hid ⟨h6.keepK fun i _ hi => .inl hi, hwW2.trans ⟨fun i hi => hK6.1 i (.inl hi), hK6.2⟩⟩⟩
  obtain ⟨i0, hi, hz0, hz1, hz2⟩ := info_parts info_row
  have HXN := Lib.hid hr.len
  have HXB := Lib.hid hx
  have HKB : Hid (∀ W, Kept Kp w W → ∀ k, Kp k → k < W.heap.size) := Lib.hid fun W hK i hi => Nat.lt_of_lt_of_le (hKp i hi) hK.2
  have HRK : Hid (∀ W, Kept Kp w W → Rd W W.heap.size .u8 A n c xs) := Lib.hid fun W hK => hr.kept hK hA
  have hnd : decide ((100000000 : Int) ≤ (M.last : Int) + 1) = false := decide_eq_false (by omega)
  have hlast0 : (M.last : Int) + 1 < 100000000 := by omega
  clear h hr hKp ht hk hrm hx hl
  go_enter Tryz.func24, Tryz.ntmps24
  go_wp2_with (first
    | (go_at_call 31; refine HSE.out.mono ?_; rintro e w1 ⟨vA, vC, rfl, hvc, hvm, HSV, HP1, HB1⟩)
    | (go_at_call 21; refine (HLA.out _ HP1.out).mono ?_; rintro e w2 ⟨rfl, h2, hb2⟩; have HP2 := Lib.hid h2; have HB2 := Lib.hid hb2; clear h2 hb2)
    | (go_at_call 53; refine (HLL.out _ HP2.out).mono ?_; rintro e w3 ⟨rfl, h3, hb3⟩; have HP3 := Lib.hid h3; have HBS := Lib.hid (HB2.out.trans (hb3.mono HB2.out.size)); obtain ⟨l8, l0, l1, _, _, _, _, _, _⟩ := HC.out _ _ _ _ _ h3; clear h3 hb3))
  go_quiet (fail)
  have HP4 : Hid (WPair w0 Kp lb d R S M V (w3.drewN nq)) := Lib.hid (HP3.out.drewN nq)
  have HB14 : Hid (Below w1.heap.size w1 (w3.drewN nq)) := Lib.hid (HBS.out.trans ((drewn_below w3 nq).mono HBS.out.size))
  generalize w3.drewN nq = w4 at *
  clear l8 l0 l1
  go_upto_region 11 with fail
  obtain ⟨l0, t0, t1, hnm⟩ := HNM.out w1 w4 w4.heap.size vA vC HSV.out HB1.out rfl HP4.out HB14.out _ rfl
  have HNM4 := Lib.hid hnm
  clear hnm
  go_region_held3 (fun w' => w'.cell? ⟨lb, 0, none⟩ = some (.pointer (some ⟨d, 0, none⟩)) ∧ w'.cell? ⟨w4.heap.size, 0, none⟩ = some (.int .i64 ((M.last : Int) + 1)) ∧ w'.cell? ⟨w4.heap.size, 1, none⟩ = some (.int .i64 0))
    (first | exact ⟨by assumption, by assumption, by assumption⟩ | exact ⟨l0, t0, t1⟩)
    (first
      | (go_at_call 54; refine (HNM4.out).mono ?_; rintro e w5 ⟨rfl, x0, x1, x2, HAP⟩)
      | (go_at_call 33; refine (HAP.out).mono ?_; rintro e w6 ⟨rfl, y0, y1, y2, HP6⟩))
  all_goals
    clear l0 t0 t1 x0 x1 x2 y0 y1 y2
    go_wp2_with fail
    go_ret
    exact ⟨rfl, HP6.out.1, HP6.out.2⟩

set_option maxHeartbeats 3200000 in
set_option maxRecDepth 100000 in
theorem Append_next_full (h : WPair w0 Kp lb d R S M V w) (hKp : ∀ k, Kp k → k < w.heap.size) (ht : Tab w0) (hk : LogOk M) {A : Option Addr} {n c : Nat} {xs : List Int} (hr : Rd w w.heap.size .u8 A n c xs) (hx : ∀ x ∈ xs, 0 ≤ x ∧ x < 256) (hA : ∀ a, A = some a → 0 < n → Kp a.block)
    (hn : n ≤ 4096) (hnum : M.last + 1 < 100000000) (hS : S.length ≤ 1000000) {k0 : Nat} {s : Nat × Nat} (hl : M.segs.length = k0 + 1) (hs : M.segs[k0]? = some s) (hb0 : 0 < s.2) (hfull : M.size < s.2 + (n + 6)) (hrm : appendF R S (segName (M.last + 1)) (sealF xs) = (S, 5)) :
    Calls Tryz.prog 24 #[.pointer (some ⟨lb, 0, none⟩), .slice A n c] w fun e w' => e = .returned (.int .i64 5) ∧ WPair w0 Kp lb d R S M V w' ∧ Kept Kp w w' := by
  obtain ⟨g0, hg0⟩ := h.row hs
  have hs2 := (hk.segs s (List.mem_of_getElem? hs)).2
  have hMs := hk.size
  have HSE : Hid (Calls Tryz.prog 31 #[.slice A n c] w fun e w1 => ∃ vA vC, e = .returned (.tuple #[.slice vA (n + 6) vC, .int .i64 0]) ∧ n + 6 ≤ vC ∧ vC ≤ 9223372036854775807 ∧ Hid (Rd w1 w1.heap.size .u8 vA (n + 6) vC (sealF xs)) ∧ Hid (WPair w0 Kp lb d R S M V w1) ∧ Hid (Below w.heap.size w w1)) := Lib.hid (by
    refine (Seal_any A n c xs w hr hx hn).mono ?_
    rintro e w1 ⟨v, rfl, ho, hb⟩
    obtain ⟨vA, vC, rfl, hrd⟩ := Rd.of_own ho
    have hm := hrd.max
    unfold maxLen at hm
    exact ⟨vA, vC, rfl, hrd.cap, hm, Lib.hid hrd, Lib.hid (h.later hb), Lib.hid hb⟩)
  have HLA := Lib.hid fun W (hW : WPair w0 Kp lb d R S M V W) => hW.Last_ hk
  have HLL := Lib.hid fun W (hW : WPair w0 Kp lb d R S M V W) => hW.last_ hk hl hg0
  have HC := Lib.hid fun W M V S Kp (hW : WPair w0 Kp lb d R S M V W) => hW.cells
  have HSG0 := Lib.hid fun W (hW : WPair w0 Kp lb d R S M V W) => hW.seg hs hg0
  -- from the box of the new segment on
  have HNM : Hid (∀ w1 W tb vA vC, Rd w1 w1.heap.size .u8 vA (n + 6) vC (sealF xs) → Below w.heap.size w w1 → tb = W.heap.size → WPair w0 Kp lb d R S M V W → Below w1.heap.size w1 W → ∀ W2, W2 = (W.alloc (.cells #[.int .i64 ((M.last : Int) + 1), .int .i64 0] 99)).drew →
      W2.cell? ⟨lb, 0, none⟩ = some (.pointer (some ⟨d, 0, none⟩)) ∧ W2.cell? ⟨tb, 0, none⟩ = some (.int .i64 ((M.last : Int) + 1)) ∧ W2.cell? ⟨tb, 1, none⟩ = some (.int .i64 0) ∧ Calls Tryz.prog 54 #[.agg #[.int .i64 ((M.last : Int) + 1), .int .i64 0]] W2 fun e w5 => e = .returned (.string (nameS (M.last + 1))) ∧ w5.cell? ⟨lb, 0, none⟩ = some (.pointer (some ⟨d, 0, none⟩)) ∧ w5.cell? ⟨tb, 0, none⟩ = some (.int .i64 ((M.last : Int) + 1)) ∧ w5.cell? ⟨tb, 1, none⟩ = some (.int .i64 0) ∧
        Hid (Calls Tryz.prog 33 #[.pointer (some ⟨d, 0, none⟩), .string (nameS (M.last + 1)), .slice vA (n + 6) vC] w5 fun e w6 => e = .returned (.int .i64 5) ∧ w6.cell? ⟨lb, 0, none⟩ = some (.pointer (some ⟨d, 0, none⟩)) ∧ w6.cell? ⟨tb, 0, none⟩ = some (.int .i64 ((M.last : Int) + 1)) ∧ w6.cell? ⟨tb, 1, none⟩ = some (.int .i64 0) ∧ Hid (WPair w0 Kp lb d R S M V w6 ∧ Kept Kp w w6))) := Lib.hid fun w1 W tb vA vC hrd hb1 htb hW hb1W W2 hW2 => by
    have hbW2 : Below W.heap.size W W2 := by rw [hW2]; exact ((Below.refl _ _).alloc (Nat.le_refl _) _).drew
    have hbox : W2.heap[tb]? = some (.cells #[.int .i64 ((M.last : Int) + 1), .int .i64 0] 99 (0, 0)) := by rw [hW2, htb]; exact heap_alloc_new W _
    have hsz2 : tb < W2.heap.size := lt_of_block hbox
    have hKW : ∀ k, Kp k → k < W.heap.size := fun i hi => Nat.lt_of_lt_of_le (hKp i hi) (Nat.le_trans hb1.size hb1W.size)
    have hP2 : WPair w0 (fun i => Kp i ∨ i = tb) lb d R S M V W2 := (hW.keepK fun i h1 h2 => by rcases h2 with h2 | h2; exact h2; omega).later hbW2
    have hKp2 : ∀ i, (Kp i ∨ i = tb) → i < W2.heap.size := fun i hi => by
      rcases hi with hi | hi
      · have := hKW i hi; have := hbW2.size; omega
      · omega
    have hwW2 : Kept Kp w W2 := Kept.of_below (hb1.trans ((hb1W.mono hb1.size).trans (hbW2.mono (Nat.le_trans hb1.size hb1W.size)))) hKp
    have hcells : ∀ w', Kept (fun i => Kp i ∨ i = tb) W2 w' → w'.cell? ⟨tb, 0, none⟩ = some (.int .i64 ((M.last : Int) + 1)) ∧ w'.cell? ⟨tb, 1, none⟩ = some (.int .i64 0) := fun w' hK => by
      have h1 : w'.heap[tb]? = _ := (hK.1 tb (.inr rfl)).trans hbox
      obtain ⟨c0, c1, _⟩ := two_cells h1
      exact ⟨c0, c1⟩
    obtain ⟨t0, t1⟩ := hcells W2 ⟨fun _ _ => rfl, Nat.le_refl _⟩
    refine ⟨hP2.cells.2.1, t0, t1, ?_⟩
    have hname := hP2.name_ ht (M.last + 1) 0 hnum
    rw [show ((M.last + 1 : Nat) : Int) = (M.last : Int) + 1 by omega, show ((0 : Nat) : Int) = 0 from rfl] at hname
    refine hname.mono ?_
    rintro e w5 ⟨rfl, h5, hb5⟩
    have hK5 := Kept.of_below hb5 hKp2
    obtain ⟨x0, x1⟩ := hcells w5 hK5
    refine ⟨rfl, h5.cells.2.1, x0, x1, Lib.hid ?_⟩
    have hb15 : Below w1.heap.size w1 w5 := (hb1W.trans (hbW2.mono hb1W.size)).trans (hb5.mono (Nat.le_trans hb1W.size hbW2.size))
    refine (h5.dapp (fun i hi => Nat.lt_of_lt_of_le (hKp2 i hi) hK5.2) (nameS (M.last + 1)) (by rw [nameS_size]; unfold maxLen; omega) vA (n + 6) vC (sealF xs) ((hrd.below hb15).more hb15.size) (sealF_bytes hx) hS).mono ?_
    rintro e w6 ⟨rfl, h6, hk6⟩
    rw [nameS_list, hrm] at h6 ⊢
    have hK6 := hK5.trans hk6
    obtain ⟨y0, y1⟩ := hcells w6 hK6
    exact ⟨rfl, h6.cells.2.1, y0, y1, Lib.hid ⟨h6.keepK fun i _ hi => .inl hi, hwW2.trans ⟨fun i hi => hK6.1 i (.inl hi), hK6.2⟩⟩⟩
  obtain ⟨i0, hi, hz0, hz1, hz2⟩ := info_parts info_row
  have HXN := Lib.hid hr.len
  have HXB := Lib.hid hx
  have HKB : Hid (∀ W, Kept Kp w W → ∀ k, Kp k → k < W.heap.size) := Lib.hid fun W hK i hi => Nat.lt_of_lt_of_le (hKp i hi) hK.2
  have HRK : Hid (∀ W, Kept Kp w W → Rd W W.heap.size .u8 A n c xs) := Lib.hid fun W hK => hr.kept hK hA
  have hnd : decide ((100000000 : Int) ≤ (M.last : Int) + 1) = false := decide_eq_false (by omega)
  have hlast0 : (M.last : Int) + 1 < 100000000 := by omega
  clear h hr hKp ht hk hrm hx hl hs hg0
  obtain ⟨sf, sb⟩ := s
  simp only at *
  have hw1 : IntKind.i64.wrap ((sb : Int) + ((n : Int) + 6)) = (sb : Int) + ((n : Int) + 6) := IntWalk.i64_in _ (by omega)
  have e1 : 0 < sb := by omega
  have e2 : decide (0 < sb) = true := decide_eq_true e1
  have e3 : decide (M.size < sb + (n + 6)) = true := decide_eq_true (by omega)
  have e4 : decide ((M.size : Int) < (sb : Int) + ((n : Int) + 6)) = true := decide_eq_true (by omega)
  clear hfull
  go_enter Tryz.func24, Tryz.ntmps24
  go_wp2_with (first
    | (go_at_call 31; refine HSE.out.mono ?_; rintro e w1 ⟨vA, vC, rfl, hvc, hvm, HSV, HP1, HB1⟩)
    | (go_at_call 21; refine (HLA.out _ HP1.out).mono ?_; rintro e w2 ⟨rfl, h2, hb2⟩; have HP2 := Lib.hid h2; have HB2 := Lib.hid hb2; clear h2 hb2)
    | (go_at_call 53; refine (HLL.out _ HP2.out).mono ?_; rintro e w3 ⟨rfl, h3, hb3⟩; have HP3 := Lib.hid h3; have HBS := Lib.hid (HB2.out.trans (hb3.mono HB2.out.size)); obtain ⟨l8, l0, l1, _, _, _, _, _, _⟩ := HC.out _ _ _ _ _ h3; obtain ⟨l9, s0, s1, _⟩ := HSG0.out _ h3; clear h3 hb3))
  go_quiet (fail)
  have HP4 : Hid (WPair w0 Kp lb d R S M V (w3.drewN nq)) := Lib.hid (HP3.out.drewN nq)
  have HB14 : Hid (Below w1.heap.size w1 (w3.drewN nq)) := Lib.hid (HBS.out.trans ((drewn_below w3 nq).mono HBS.out.size))
  generalize w3.drewN nq = w4 at *
  clear l8 l0 l1 l9 s0 s1 hw1 e1 e2 e3 e4
  go_upto_region 11 with fail
  obtain ⟨l0, t0, t1, hnm⟩ := HNM.out w1 w4 w4.heap.size vA vC HSV.out HB1.out rfl HP4.out HB14.out _ rfl
  have HNM4 := Lib.hid hnm
  clear hnm
  go_region_held3 (fun w' => w'.cell? ⟨lb, 0, none⟩ = some (.pointer (some ⟨d, 0, none⟩)) ∧ w'.cell? ⟨w4.heap.size, 0, none⟩ = some (.int .i64 ((M.last : Int) + 1)) ∧ w'.cell? ⟨w4.heap.size, 1, none⟩ = some (.int .i64 0))
    (first | exact ⟨by assumption, by assumption, by assumption⟩ | exact ⟨l0, t0, t1⟩)
    (first
      | (go_at_call 54; refine (HNM4.out).mono ?_; rintro e w5 ⟨rfl, x0, x1, x2, HAP⟩)
      | (go_at_call 33; refine (HAP.out).mono ?_; rintro e w6 ⟨rfl, y0, y1, y2, HP6⟩))
  all_goals
    clear l0 t0 t1 x0 x1 x2 y0 y1 y2
    go_wp2_with fail
    go_ret
    exact ⟨rfl, HP6.out.1, HP6.out.2⟩
end
end Go.Proofs.YtnomicnmpllajaaGreatDoor
end

section
namespace Go.Proofs.YtnomicnmpllajaaGreatDoor
open Go Go.RowKit

section
variable {S : List RF} {M : LogM} {G G0 : List SegR} {st : Nat} {g : SegR}
theorem Rising.same_le : ∀ {l : List (List UInt8)}, Rising id l → ∀ {a : List UInt8}, (∀ x ∈ l, x = a) → l.length ≤ 1
  | [], _, _, _ => Nat.zero_le _
  | [_], _, _, _ => Nat.le_refl _
  | x :: y :: r, h, a, hl => by
    exfalso
    have h1 := List.rel_of_pairwise_cons h (List.mem_cons_self .. : y ∈ y :: r)
    have e1 := hl x (List.mem_cons_self ..)
    have e2 := hl y (List.mem_cons_of_mem _ (List.mem_cons_self ..))
    have h2 : Rising id [x, y] := List.Pairwise.cons (fun z hz => by rw [List.mem_singleton.1 hz]; exact h1) (List.pairwise_singleton _ _)
    have := Rising.irrefl h2 (i := 0) (j := 1) rfl rfl (e1.trans e2.symm)
    cases this
theorem LI.fewer (h : LI S M G st) : S.length ≤ 999999 := by
  have h1 := h.segCount
  have h2 := h.many
  have h3 : (S.map RF.nm).length = S.length := List.length_map ..
  rw [← h3, List.length_eq_countP_add_countP isLog, List.countP_eq_length_filter, List.countP_eq_length_filter]
  have h4 : ((S.map RF.nm).filter isLog).length = G.length := by
    have : (S.map RF.nm).filter isLog = G.map fun g => segName g.k := h.names
    rw [this, List.length_map]
  have h5 : ((S.map RF.nm).filter fun a => decide ¬ isLog a = true).length ≤ 1 := by
    refine Rising.same_le (a := snapN) ((h.rise.map (g := RF.nm) (nm' := id) fun _ => rfl).filter _) fun x hx => ?_
    obtain ⟨h6, h7⟩ := List.mem_filter.1 hx
    obtain ⟨f, hf, rfl⟩ := List.mem_map.1 h6
    rcases h.other f hf with h8 | h8
    · simp [h8] at h7
    · exact h8
  omega

theorem LI.few (h : LI S M G st) : S.length ≤ 1000000 := Nat.le_trans h.fewer (by decide)
/-- Behind an Append that is done. -/
def stepA (S : List RF) (M : LogM) (xs : List Int) : List RF × LogM :=
  match M.segs.getLast? with
  | none => (putN RF.nm ⟨segName (M.last + 1), sealF xs, 0⟩ S, { M with synced := M.last, segs := M.segs ++ [(M.last + 1, xs.length + 6)], recs := M.recs ++ [xs] })
  | some s => if s.2 = 0 ∨ s.2 + (xs.length + 6) ≤ M.size then
      (putN RF.nm ⟨segName s.1, (oldRF S (segName s.1)).b ++ sealF xs, (oldRF S (segName s.1)).s⟩ S, { M with segs := M.segs.set (M.segs.length - 1) (s.1, s.2 + (xs.length + 6)), recs := M.recs ++ [xs] })
    else (putN RF.nm ⟨segName (M.last + 1), sealF xs, 0⟩ (syncF S (segName s.1)).1, { M with synced := M.last, segs := M.segs ++ [(M.last + 1, xs.length + 6)], recs := M.recs ++ [xs] })
theorem segsR_last : (segsR (G0 ++ [g])).getLast? = some (g.k, (bytesR g.rs).length) := by simp [segsR]
theorem segsR_len : (segsR G).length = G.length := by simp [segsR]
theorem stepA_recs (S : List RF) (M : LogM) (xs : List Int) : (stepA S M xs).2.recs = M.recs ++ [xs] ∧ (stepA S M xs).2.base = M.base ∧ (stepA S M xs).2.shot = M.shot ∧ (stepA S M xs).2.size = M.size := by
  unfold stepA
  split
  · exact ⟨rfl, rfl, rfl, rfl⟩
  · split <;> exact ⟨rfl, rfl, rfl, rfl⟩
theorem LI.stepA (h : LI S M G st) {xs : List Int} (hx : ∀ x ∈ xs, 0 ≤ x ∧ x < 256) (hn : xs.length ≤ 4096) (hm : M.last + 1 < 900000) : ∃ G' st', LI (stepA S M xs).1 (stepA S M xs).2 G' st' := by
  unfold Proofs.YtnomicnmpllajaaGreatDoor.stepA
  rcases List.eq_nil_or_concat G with rfl | ⟨G0, g, rfl⟩
  · have e : M.segs.getLast? = none := by rw [h.segs]; rfl
    rw [e]
    exact ⟨_, _, h.sync0.begun rfl (fun g hg => by cases hg) hx hn hm⟩
  · rw [List.concat_eq_append] at h
    have e : M.segs.getLast? = some (g.k, (bytesR g.rs).length) := by rw [h.segs, segsR_last]
    have el : M.segs.length - 1 = G0.length := by rw [h.segs, segsR_len]; simp
    rw [e]
    simp only
    obtain ⟨h1, h2, h3⟩ := h.ahead
    have hg : g ∈ G0 ++ [g] := List.mem_append.2 (.inr (List.mem_singleton.2 rfl))
    obtain ⟨f, hf, hb, hs⟩ := h.file g hg
    by_cases c : (bytesR g.rs).length = 0 ∨ (bytesR g.rs).length + (xs.length + 6) ≤ M.size
    · rw [if_pos c, el]
      have hrm : appendF ((usedN S + (sealF xs).length : Nat) : Int) S (segName g.k) (sealF xs) = (putN RF.nm ⟨segName g.k, (oldRF S (segName g.k)).b ++ sealF xs, (oldRF S (segName g.k)).s⟩ S, 0) := by
        unfold appendF
        rw [if_neg (by rw [nameOk_seg]; simp), if_neg (Int.lt_irrefl _)]
      exact ⟨_, _, h.on hx hn c hm hrm⟩
    · rw [if_neg c]
      have hfull : ∀ x ∈ G0 ++ [g], x.rs ≠ [] := fun x hx' => by
        rcases List.mem_append.1 hx' with hx' | hx'
        · exact (h1 x hx').2.1
        · rw [List.mem_singleton.1 hx']
          exact bytesR_pos (by omega)
      exact ⟨_, _, h.syncd.begun rfl hfull hx hn hm⟩
end

section
variable {w0 w w' : World} {Kp : Nat → Prop} {lb d : Nat} {R : Int} {S : List RF} {M : LogM} {V : LogV} {G : List SegR} {st : Nat}
/-- What a call leaves. -/
def LSaid (w0 : World) (Kp : Nat → Prop) (lb d : Nat) (R : Int) (S' : List RF) (M' : LogM) (r : Int) (w : World) (e : Ending) (w' : World) : Prop :=
  e = .returned (.int .i64 r) ∧ Hid (∃ V', WPair w0 Kp lb d R S' M' V' w' ∧ Kept Kp w w')
def fitsA (R : Int) (S : List RF) (xs : List Int) : Prop := xs.length ≤ 4096 ∧ ((usedN S + (xs.length + 6) : Nat) : Int) ≤ R
theorem append_fits {k : Nat} {xs : List Int} (h : ((usedN S + (xs.length + 6) : Nat) : Int) ≤ R) : appendF R S (segName k) (sealF xs) = (putN RF.nm ⟨segName k, (oldRF S (segName k)).b ++ sealF xs, (oldRF S (segName k)).s⟩ S, 0) := by
  unfold appendF
  rw [if_neg (by rw [nameOk_seg]; simp), if_neg (by rw [sealF_length]; omega)]
theorem append_not {k : Nat} {xs : List Int} (h : ¬ ((usedN S + (xs.length + 6) : Nat) : Int) ≤ R) : appendF R S (segName k) (sealF xs) = (S, 5) := by
  unfold appendF
  rw [if_neg (by rw [nameOk_seg]; simp), if_pos (by rw [sealF_length]; omega)]
theorem Append_li (h : WPair w0 Kp lb d R S M V w) (hL : LI S M G st) (hKp : ∀ k, Kp k → k < w.heap.size) (ht : Tab w0) {A : Option Addr} {n c : Nat} {xs : List Int} (hr : Rd w w.heap.size .u8 A n c xs) (hx : ∀ x ∈ xs, 0 ≤ x ∧ x < 256) (hA : ∀ a, A = some a → 0 < n → Kp a.block) (hm : M.last + 1 < 900000) (hf : fitsA R S xs) :
    Calls Tryz.prog 24 #[.pointer (some ⟨lb, 0, none⟩), .slice A n c] w (LSaid w0 Kp lb d R (stepA S M xs).1 (stepA S M xs).2 0 w) := by
  have hlen : xs.length = n := hr.len
  obtain ⟨hn, hfit⟩ := hf
  have hn' : n ≤ 4096 := by omega
  have hok := hL.ok
  unfold stepA
  rcases List.eq_nil_or_concat G with rfl | ⟨G0, g, rfl⟩
  · have e : M.segs = [] := hL.segs
    have hno := hL.find_none (k := M.last + 1) (by omega) (fun g hg => by cases hg)
    have h1 := Append_first h hKp ht hok hr hx hA hn' (by omega) hL.few e (append_fits hfit) (by unfold LogM.last at hm; omega) (by rw [e]; simp)
    rw [oldRF_none hno] at h1
    refine h1.mono fun e' w' ⟨h2, V', h3, h4⟩ => ⟨h2, Lib.hid ⟨V', ?_, h4⟩⟩
    have e2 : M.segs.getLast? = none := by rw [e]; rfl
    rw [e2]
    subst hlen
    exact h3
  · rw [List.concat_eq_append] at hL
    have e : M.segs.getLast? = some (g.k, (bytesR g.rs).length) := by rw [hL.segs, segsR_last]
    have el : M.segs.length - 1 = G0.length := by rw [hL.segs, segsR_len]; simp
    have el2 : M.segs.length = G0.length + 1 := by rw [hL.segs, segsR_len]; simp
    have es : M.segs[G0.length]? = some (g.k, (bytesR g.rs).length) := by
      rw [List.getLast?_eq_getElem?, el] at e
      exact e
    rw [e]
    simp only
    obtain ⟨h1, h2, h3⟩ := hL.ahead
    have hg : g ∈ G0 ++ [g] := List.mem_append.2 (.inr (List.mem_singleton.2 rfl))
    obtain ⟨f, hf, hb, hs⟩ := hL.file g hg
    have hsz := hL.size
    have hby := hL.bytes g hg
    subst hlen
    by_cases c : (bytesR g.rs).length = 0 ∨ (bytesR g.rs).length + (xs.length + 6) ≤ M.size
    · rw [if_pos c, el]
      refine (Append_on h hKp ht hok hr hx hA hn' (by omega) hL.few el2 es c (append_fits hfit) (by unfold LogM.last at hm; omega) (by show (bytesR g.rs).length + _ ≤ _; omega)).mono fun e' w' ⟨h4, V', h5, h6⟩ => ⟨h4, Lib.hid ⟨V', h5, h6⟩⟩
    · rw [if_neg c]
      have hno : findN S (segName (M.last + 1)) = none := hL.find_none (by omega) fun x hx' => by
        rcases List.mem_append.1 hx' with hx' | hx'
        · have h8 := (h1 x hx').1
          have h9 := List.length_pos_iff.2 (h1 x hx').2.1
          omega
        · rw [List.mem_singleton.1 hx']
          have := List.length_pos_iff.2 (bytesR_pos (rs := g.rs) (by omega))
          omega
      have hne : segName (M.last + 1) ≠ segName g.k := fun e => by
        rw [e, hf] at hno
        cases hno
      have hf2 : findN (putN RF.nm ⟨segName (M.last + 1), sealF xs, 0⟩ S) (segName g.k) = some f := by
        rw [findN_put hL.rise, if_neg fun e => hne e.symm]
        exact hf
      have hap := append_fits (k := M.last + 1) hfit
      rw [oldRF_none hno] at hap
      have h7 := Append_next h hKp ht hok hr hx hA hn' (by omega) hL.few el2 es (by show 0 < (bytesR g.rs).length; omega) (by show M.size < (bytesR g.rs).length + _; omega) hf2 hap (by unfold LogM.last at hm; omega) (by have := hL.segCount; rw [el2]; simp at this; omega)
      refine h7.mono fun e' w' ⟨h4, V', h5, h6⟩ => ⟨h4, Lib.hid ⟨V', ?_, h6⟩⟩
      have hcomm : (syncF (putN RF.nm ⟨segName (M.last + 1), sealF xs, 0⟩ S) (segName g.k)).1 = putN RF.nm ⟨segName (M.last + 1), sealF xs, 0⟩ (syncF S (segName g.k)).1 := by
        rw [syncF_put hf2, syncF_put hf]
        exact putN_comm hL.rise fun e => hne e.symm
      rw [← hcomm]
      exact h5
theorem Append_li_no (h : WPair w0 Kp lb d R S M V w) (hL : LI S M G st) (hKp : ∀ k, Kp k → k < w.heap.size) (ht : Tab w0) {A : Option Addr} {n c : Nat} {xs : List Int} (hr : Rd w w.heap.size .u8 A n c xs) (hx : ∀ x ∈ xs, 0 ≤ x ∧ x < 256) (hA : ∀ a, A = some a → 0 < n → Kp a.block) (hm : M.last + 1 < 900000) (hf : ¬ fitsA R S xs) :
    Calls Tryz.prog 24 #[.pointer (some ⟨lb, 0, none⟩), .slice A n c] w (LSaid w0 Kp lb d R S M 5 w) := by
  have hlen : xs.length = n := hr.len
  by_cases hn : 4096 < n
  · exact (Append_long h hr hn).mono fun e' w' ⟨h4, h5, h6⟩ => ⟨h4, Lib.hid ⟨V, h5, h6⟩⟩
  have hn' : n ≤ 4096 := by omega
  have hfit : ¬ ((usedN S + (xs.length + 6) : Nat) : Int) ≤ R := fun h2 => hf ⟨by omega, h2⟩
  have hok := hL.ok
  rcases List.eq_nil_or_concat G with rfl | ⟨G0, g, rfl⟩
  · have e : M.segs = [] := hL.segs
    exact (Append_first_full h hKp ht hok hr hx hA hn' (by omega) hL.few e (append_not hfit)).mono fun e' w' ⟨h4, h5, h6⟩ => ⟨h4, Lib.hid ⟨V, h5, h6⟩⟩
  · rw [List.concat_eq_append] at hL
    have e : M.segs.getLast? = some (g.k, (bytesR g.rs).length) := by rw [hL.segs, segsR_last]
    have el : M.segs.length - 1 = G0.length := by rw [hL.segs, segsR_len]; simp
    have el2 : M.segs.length = G0.length + 1 := by rw [hL.segs, segsR_len]; simp
    have es : M.segs[G0.length]? = some (g.k, (bytesR g.rs).length) := by
      rw [List.getLast?_eq_getElem?, el] at e
      exact e
    have hg : g ∈ G0 ++ [g] := List.mem_append.2 (.inr (List.mem_singleton.2 rfl))
    have hsz := hL.size
    have hby := hL.bytes g hg
    subst hlen
    by_cases c : (bytesR g.rs).length = 0 ∨ (bytesR g.rs).length + (xs.length + 6) ≤ M.size
    · exact (Append_on_full h hKp ht hok hr hx hA hn' (by omega) hL.few el2 es c (append_not hfit) (by show (bytesR g.rs).length + _ ≤ _; omega)).mono fun e' w' ⟨h4, h5, h6⟩ => ⟨h4, Lib.hid ⟨V, h5, h6⟩⟩
    · exact (Append_next_full h hKp ht hok hr hx hA hn' (by omega) hL.few el2 es (by show 0 < (bytesR g.rs).length; omega) (by show M.size < (bytesR g.rs).length + _; omega) (append_not hfit)).mono fun e' w' ⟨h4, h5, h6⟩ => ⟨h4, Lib.hid ⟨V, h5, h6⟩⟩

/-- Behind a Sync. -/
def stepS (S : List RF) (M : LogM) : List RF × LogM :=
  match M.segs.getLast? with
  | none => (S, { M with synced := M.last })
  | some s => ((syncF S (segName s.1)).1, { M with synced := M.last })
theorem LI.stepS (hL : LI S M G st) : LI (stepS S M).1 (stepS S M).2 G st := by
  unfold Proofs.YtnomicnmpllajaaGreatDoor.stepS
  rcases List.eq_nil_or_concat G with rfl | ⟨G0, g, rfl⟩
  · have e : M.segs.getLast? = none := by rw [hL.segs]; rfl
    rw [e]
    exact hL.sync0
  · rw [List.concat_eq_append] at hL ⊢
    have e : M.segs.getLast? = some (g.k, (bytesR g.rs).length) := by rw [hL.segs, segsR_last]
    rw [e]
    exact hL.syncd
theorem Sync_li (h : WPair w0 Kp lb d R S M V w) (hL : LI S M G st) (hKp : ∀ k, Kp k → k < w.heap.size) (ht : Tab w0) :
    Calls Tryz.prog 25 #[.pointer (some ⟨lb, 0, none⟩)] w (LSaid w0 Kp lb d R (stepS S M).1 (stepS S M).2 0 w) := by
  have hok := hL.ok
  unfold stepS
  rcases List.eq_nil_or_concat G with rfl | ⟨G0, g, rfl⟩
  · have e : M.segs = [] := hL.segs
    have h1 := Sync_none h hKp hok e
    have e2 : M.segs.getLast? = none := by rw [e]; rfl
    rw [e2]
    exact h1.mono fun e' w' ⟨h4, h5, h6⟩ => ⟨h4, Lib.hid ⟨V, h5, h6⟩⟩
  · rw [List.concat_eq_append] at hL
    have e : M.segs.getLast? = some (g.k, (bytesR g.rs).length) := by rw [hL.segs, segsR_last]
    have el : M.segs.length - 1 = G0.length := by rw [hL.segs, segsR_len]; simp
    have el2 : M.segs.length = G0.length + 1 := by rw [hL.segs, segsR_len]; simp
    have es : M.segs[G0.length]? = some (g.k, (bytesR g.rs).length) := by
      rw [List.getLast?_eq_getElem?, el] at e
      exact e
    have hg : g ∈ G0 ++ [g] := List.mem_append.2 (.inr (List.mem_singleton.2 rfl))
    obtain ⟨f, hf, hb, hs⟩ := hL.file g hg
    rw [e]
    exact (Sync_some h hKp ht hok el2 es hf).mono fun e' w' ⟨h4, h5, h6⟩ => ⟨h4, Lib.hid ⟨V, h5, h6⟩⟩
end
end Go.Proofs.YtnomicnmpllajaaGreatDoor
end

section
namespace Go.Proofs.YtnomicnmpllajaaGreatDoor
open Go Go.RowKit

section
variable {w0 w wr w' : World} {Kp Kp' : Nat → Prop} {lb d : Nat} {R : Int} {S S' : List RF} {M : LogM} {V : LogV}
set_option maxHeartbeats 3200000 in
set_option maxRecDepth 100000 in
theorem Snap_room (h : WPair w0 Kp lb d R S M V w) (hKp : ∀ k, Kp k → k < w.heap.size) {A : Option Addr} {n c : Nat} {xs : List Int} (hr : Rd w w.heap.size .u8 A n c xs) (hx : ∀ x ∈ xs, 0 ≤ x ∧ x < 256)
    (hn : n ≤ 4000) {k : Nat} (hk1 : M.base ≤ k) (hk2 : k ≤ M.synced) (hk4 : k < 100000000) (hS : S.length ≤ 1000000) {er : Int} (hrm : appendF R S newN (sealF (enc k ++ xs)) = (S, er)) (her : er ≠ 0) :
    Calls Tryz.prog 29 #[.pointer (some ⟨lb, 0, none⟩), .int .i64 k, .slice A n c] w fun e w' => e = .returned (.int .i64 er) ∧ WPair w0 Kp lb d R S M V w' ∧ Kept Kp w w' := by
  obtain ⟨l8, l0, _, _, l3, _, l5, l6, lf⟩ := h.cells
  have hel : (enc k).length ≤ 9 := enc_len9 (by omega)
  have hep := enc_pos k
  obtain ⟨m, hm⟩ : ∃ m, m = (enc k).length := ⟨_, rfl⟩
  rw [← hm] at hel hep
  have HNUM : Hid (Calls Tryz.prog 32 #[.slice none 0 0, .int .i64 k] w fun e w1 => ∃ nA nC, e = .returned (.slice nA m nC) ∧ Hid (w1.ownsRow w.heap.size 5 1 (.slice nA m nC) m ((enc k).map (Value.int .u8))) ∧ Hid (Below w.heap.size w w1 ∧ Rd w1 w1.heap.size .u8 A n c xs) ∧ w.heap.size ≤ w1.heap.size) := Lib.hid (by
    refine (Num_any none 0 0 [] k w (Rd.none_ _ _ _) (by omega) (by omega) (by omega)).mono ?_
    rintro e w1 ⟨v, rfl, ho, hb⟩
    simp only [List.nil_append, Int.toNat_natCast] at ho
    rw [← hm] at ho
    obtain ⟨nA, nC, rfl⟩ := own_shape ho
    exact ⟨nA, nC, rfl, Lib.hid ho, Lib.hid ⟨hb, (hr.below hb).more hb.size⟩, hb.size⟩)
  have HAP : Hid (∀ w1 nA nC v4 w4, w1.ownsRow w.heap.size 5 1 (.slice nA m nC) m ((enc k).map (Value.int .u8)) → Below w.heap.size w w1 → w4.ownsRow w.heap.size 5 1 v4 (m + n) ((enc k).map (Value.int .u8) ++ xs.map (Value.int .u8)) → w1.grownBy w4 (Value.slice nA m nC).ownBlock →
      ∃ A4 c4, v4 = .slice A4 (m + n) c4 ∧ Hid (Calls Tryz.prog 31 #[.slice A4 (m + n) c4] w4 fun e w5 => ∃ vA vC, e = .returned (.tuple #[.slice vA (m + n + 6) vC, .int .i64 0]) ∧ Hid (Rd w5 w5.heap.size .u8 vA (m + n + 6) vC (sealF (enc k ++ xs))) ∧ Hid (Below w.heap.size w w5))) := Lib.hid fun w1 nA nC v4 w4 ho1 hb1 ho4 hg4 => by
    have hb4 := hb1.grown hg4 hb1.size fun i hi => (ho1.lt i hi).1
    rw [← List.map_append] at ho4
    obtain ⟨A4, c4, rfl, hr4⟩ := Rd.of_own ho4
    refine ⟨A4, c4, rfl, Lib.hid ?_⟩
    refine (Seal_any A4 (m + n) c4 (enc k ++ xs) w4 hr4 (fun x h => (List.mem_append.1 h).elim (enc_bytes k x) (hx x)) (by omega)).mono ?_
    rintro e w5 ⟨v, rfl, ho, hb⟩
    obtain ⟨vA, vC, rfl, hrd⟩ := Rd.of_own ho
    exact ⟨vA, vC, rfl, Lib.hid hrd, Lib.hid (hb4.trans (hb.mono hb4.size))⟩
  have HDK : Hid (∀ w5 vA vC, Rd w5 w5.heap.size .u8 vA (m + n + 6) vC (sealF (enc k ++ xs)) → Below w.heap.size w w5 → Calls Tryz.prog 33 #[.pointer (some ⟨d, 0, none⟩), .string ⟨#[115, 110, 97, 112, 46, 110, 101, 119]⟩, .slice vA (m + n + 6) vC] w5 fun e w6 => e = .returned (.int .i64 er) ∧ Hid (WPair w0 Kp lb d R S M V w6 ∧ Kept Kp w w6)) := Lib.hid fun w5 vA vC hrd hb5 => by
    have h5 := h.later hb5
    have hk5 : Kept Kp w w5 := Kept.of_below hb5 hKp
    have hmax : (8 : Nat) ≤ maxLen := by unfold maxLen; omega
    refine (h5.dapp (fun i hi => Nat.lt_of_lt_of_le (hKp i hi) hk5.2) ⟨#[115, 110, 97, 112, 46, 110, 101, 119]⟩ hmax vA (m + n + 6) vC _ hrd (sealF_bytes fun x h => (List.mem_append.1 h).elim (enc_bytes k x) (hx x)) hS).mono ?_
    rintro e w6 ⟨rfl, h6, hk6⟩
    have e1 : appendF R S (ByteArray.mk #[115, 110, 97, 112, 46, 110, 101, 119]).data.toList (sealF (enc k ++ xs)) = (S, er) := hrm
    rw [e1] at h6 ⊢
    exact ⟨rfl, Lib.hid ⟨h6, hk5.trans hk6⟩⟩
  obtain ⟨u0, ui, uz0, uz1, uz2⟩ := info_parts info_u8
  have HXL := Lib.hid hr.len
  have d1 : decide ((k : Int) < M.base) = false := decide_eq_false (by omega)
  have d2 : decide ((M.synced : Int) < k) = false := decide_eq_false (by omega)
  have d1' : decide (k < M.base) = false := decide_eq_false (by omega)
  have d2' : decide (M.synced < k) = false := decide_eq_false (by omega)
  have d3 : decide ((4000 : Int) < n) = false := decide_eq_false (by omega)
  have d4 : decide ((100000000 : Int) ≤ k) = false := decide_eq_false (by omega)
  go_enter Tryz.func29, Tryz.ntmps29
  go_upto_region 5 with fail
  clear hm
  go_upto_region 8 with (first
    | (go_at_call 32; refine HNUM.out.mono ?_; rintro e w1 ⟨nA, nC, rfl, HN1, HB1, hw1⟩)
    | (at_builtin; refine wpList_append_src (o := ⟨some 35, _, _, _, _, _⟩) rfl (.tmp 33) (.tmp 34) 33 rfl w.heap.size 5 u0 _ 1 1 Tryz.underlying33 ui uz0 uz1 uz2 rfl (by omega) _ m _ rfl HN1.out A n c (xs.map (Value.int .u8)) rfl (by rw [List.length_map, HXL.out, Nat.mul_one]) HB1.out.2.nil HB1.out.2.news (ints_oneCell _ _) (by unfold maxLen; omega) (by omega) hw1 ?_; intro v4 w4 ho4 hg4; obtain ⟨A4, c4, rfl, HSL⟩ := HAP.out w1 nA nC v4 w4 HN1.out HB1.out.1 ho4 hg4; clear ho4 hg4)
    | (go_at_call 31; refine HSL.out.mono ?_; rintro e w5 ⟨vA, vC, rfl, HR5, HB5⟩))
  have h5 := h.later HB5.out
  obtain ⟨m8, m0, _, _, m3, _, m5, m6, mf⟩ := h5.cells
  have HD5 := Lib.hid (HDK.out w5 vA vC HR5.out HB5.out)
  clear h5 l8 l0 l3 l5 l6 lf HNUM HAP HDK HSL HR5
  have her' : (er == 0) = false := beq_eq_false_iff_ne.2 her
  go_wp2_with (go_at_call 33; refine HD5.out.mono ?_; rintro e w6 ⟨rfl, HP6⟩)
  go_ret
  exact ⟨rfl, HP6.out⟩
end
end Go.Proofs.YtnomicnmpllajaaGreatDoor
end
