/- What is proved here: a log's Merge in all its ways; a log's Pass. -/
import Derived.Test.YtmmddkddjiodbaaEMerge
import Derived.Test.YtmmddkddjiodbaaEG
import Derived.Lib.SliceRun
namespace Go.Proofs.Ytmmddkddjiodbaa
open Go Go.RowKit Go.Maps Go.WideMaps

section
variable {w : World} {b : Nat} {B T : Int} {L : List En} {Φ : Nat → Prop}
set_option maxHeartbeats 1600000 in
set_option maxRecDepth 100000 in
theorem Merge_neg (h : LogAt w b B T L Φ) {A : Option Addr} {n c : Nat} {y : Int} (hy : y < 0) (term : Int) :
    Calls Try.prog 24 #[.pointer (some ⟨b, 0, none⟩), .int .i64 y, .int .i64 term, .slice A n c] w (MergeSaid w b B T L Φ 0 false) := by
  have HE : Hid (Left w b B T L Φ w) := Lib.hid (Left.same h (Below.refl _ _))
  clear h
  go_enter Try.func24, Try.ntmps24
  go_wp2
  go_ret2
  exact ⟨rfl, HE.out⟩
set_option maxHeartbeats 1600000 in
set_option maxRecDepth 100000 in
theorem Merge_old (h : LogAt w b B T L Φ) (h1 : B ≤ 4611686018427387904) {A : Option Addr} {n c : Nat} (hn : n < 100000) {y : Int} (hy0 : 0 ≤ y) (hyB : y < B) (hyn : n ≤ B - y) (term : Int) :
    Calls Try.prog 24 #[.pointer (some ⟨b, 0, none⟩), .int .i64 y, .int .i64 term, .slice A n c] w (MergeSaid w b B T L Φ (y + n) true) := by
  have HE : Hid (Left w b B T L Φ w) := Lib.hid (Left.same h (Below.refl _ _))
  obtain ⟨c0, c1⟩ := Left.cells HE.out
  have d1 : ¬ y < 0 := by omega
  clear h
  go_enter Try.func24, Try.ntmps24
  go_wp2
  go_ret2
  exact ⟨rfl, HE.out⟩
set_option maxHeartbeats 1600000 in
set_option maxRecDepth 100000 in
theorem Merge_bad (h : LogAt w b B T L Φ) (h0 : 0 ≤ B) (h1 : B ≤ 4611686018427387904) (hL : L.length < 800000) {A : Option Addr} {n c : Nat} {y : Int} (hy : I64 y) (hyB : B ≤ y) {term : Int} (hb : ¬ (hasAt B L y = true ∧ termAt B T L y = term)) :
    Calls Try.prog 24 #[.pointer (some ⟨b, 0, none⟩), .int .i64 y, .int .i64 term, .slice A n c] w (MergeSaid w b B T L Φ 0 false) := by
  have HE : Hid (Left w b B T L Φ w) := Lib.hid (Left.same h (Below.refl _ _))
  obtain ⟨c0, c1⟩ := Left.cells HE.out
  have d1 : ¬ y < 0 := by omega
  have d2 : ¬ y < B := by omega
  have HT : Hid (Calls Try.prog 21 #[.pointer (some ⟨b, 0, none⟩), .int .i64 y] w fun e w' => e = .returned (.tuple #[.int .i64 (termAt B T L y), .bool (hasAt B L y)]) ∧ Hid (Left w b B T L Φ w')) := Lib.hid ((Term_any h h0 h1 (by omega) hy).mono (by
    rintro e w' ⟨rfl, hb⟩
    exact ⟨rfl, Lib.hid (Left.same h hb)⟩))
  unfold I64 at hy
  clear h HE
  generalize termAt B T L y = tm at *
  cases hq : hasAt B L y with
  | false =>
    rw [hq] at HT
    clear hq hb
    go_enter Try.func24, Try.ntmps24
    go_wp2_with (go_at_call 21; refine HT.out.mono ?_; rintro e w1 ⟨rfl, HL0⟩)
    go_ret2
    exact ⟨rfl, HL0.out⟩
  | true =>
    rw [hq] at HT
    have hne : ¬ tm = term := fun e => hb ⟨hq, e⟩
    have e1 : (tm == term) = false := beq_eq_false_iff_ne.2 hne
    have e2 : (tm != term) = true := by simpa using hne
    clear hq hb hne
    go_enter Try.func24, Try.ntmps24
    go_wp2_with (go_at_call 21; refine HT.out.mono ?_; rintro e w1 ⟨rfl, HL0⟩)
    go_ret2
    exact ⟨rfl, HL0.out⟩
theorem Merge_any (h : LogAt w b B T L Φ) (h0 : 0 ≤ B) (h1 : B ≤ 4611686018427387904) (hL : L.length < 800000) {A : Option Addr} {n c : Nat} {M : List En} (hM : SRd enC w (fun k => ¬ Φ k) A n c M) (hn : n < 100000) {y : Int} (hy : I64 y) (term : Int) :
    Calls Try.prog 24 #[.pointer (some ⟨b, 0, none⟩), .int .i64 y, .int .i64 term, .slice A n c] w (MergeSaid w b B T (mergeF B T L y term M).1 Φ (mergeF B T L y term M).2.1 (mergeF B T L y term M).2.2) := by
  obtain rfl := hM.len
  unfold mergeF
  by_cases c1 : y < 0
  · rw [if_pos c1]
    exact Merge_neg h c1 term
  · rw [if_neg c1]
    by_cases c2 : y < B
    · rw [if_pos c2]
      by_cases c3 : (M.length : Int) ≤ B - y
      · rw [if_pos c3]
        exact Merge_old h h1 hn (by omega) c2 c3 term
      · rw [if_neg c3]
        exact Merge_past h h1 hL hM hn (by omega) c2 (by omega) term
    · rw [if_neg c2]
      by_cases c3 : hasAt B L y = true ∧ termAt B T L y = term
      · rw [if_pos c3]
        have hh := c3.1
        unfold hasAt at hh
        rw [decide_eq_true_eq] at hh
        obtain ⟨p, hp⟩ : ∃ p : Nat, y = B + p := ⟨(y - B).toNat, by omega⟩
        subst hp
        have := Merge_at h h0 h1 hL hM hn (p := p) (by omega)
        rw [c3.2] at this
        rw [show (B + (p : Int) - B).toNat = p by omega]
        exact this
      · rw [if_neg c3]
        exact Merge_bad h h0 h1 hL hy (by omega) c3

/-! ### Pass -/
theorem run_clear_en (w : World) (ty : TypeId) (b o n c : Nat)
    (hc : ∀ j, j < n * 2 → (w.cell? ⟨b, o + j, none⟩).isSome = true) (hf : ∀ j, j < n * 2 → w.frozen? ⟨b, o + j, none⟩ = false) :
    (Builtin.clear_ #[44] ty #[.slice (some ⟨b, o, none⟩) n c]).run Try.prog w = .ok (.tuple #[]) (w.setCells b o ((List.replicate n zeroE).flatMap enC)) := by
  have hz : (zeroValue 36).run Try.prog w = .ok (.agg #[.int .i64 0, .string ⟨#[]⟩]) w := by kernel_rfl
  have hzc : (Builtin.zeroCells (Value.cells (.agg #[.int .i64 0, .string ⟨#[]⟩])) n).toList = (List.replicate n zeroE).flatMap enC := by
    have e : Value.cells (.agg #[.int .i64 0, .string ⟨#[]⟩]) = #[.int .i64 0, .string ⟨#[]⟩] := by kernel_rfl
    rw [e]
    simp only [Builtin.zeroCells]
    apply List.ext_getElem
    · simp [fm_len en_len]
    · intro i h1 h2
      have h3 : i % 2 = 0 ∨ i % 2 = 1 := by omega
      rw [fm_len en_len, List.length_replicate] at h2
      have hx : (List.replicate n zeroE)[i / 2]? = some zeroE := by rw [List.getElem?_replicate, if_pos (by omega)]
      rcases h3 with h3 | h3
      · have := fm_at en_len hx 0 (.int .i64 0) rfl
        rw [show i / 2 * 2 + 0 = i by omega] at this
        rw [(List.getElem?_eq_some_iff.1 this).2]
        simp [h3]
      · have := fm_at en_len hx 1 (.string ⟨#[]⟩) rfl
        rw [show i / 2 * 2 + 1 = i by omega] at this
        rw [(List.getElem?_eq_some_iff.1 this).2]
        simp [h3]
  have hl : ((List.replicate n zeroE).flatMap enC).length = n * 2 := by rw [fm_len en_len, List.length_replicate]
  have hst := run_storeCells_cells (P := Try.prog) b o ((List.replicate n zeroE).flatMap enC) 0 w (by simpa [hl] using hc) (by simpa [hl] using hf) (ones one_en _)
  simp only [Nat.add_zero] at hst
  by_cases h0 : n = 0
  · subst h0
    simp at hst ⊢
    simp [Builtin.clear_, run_underlying Try.underlying44, World.setCells]
  · obtain ⟨m, rfl⟩ : ∃ m, n = m + 1 := ⟨n - 1, by omega⟩
    simp [Builtin.clear_, run_underlying Try.underlying44, hz, hzc, hst]
theorem OffRow.cleared {e size n c : Nat} {xs : List Value} {g o : Nat} (h : OffRow w e size (some ⟨g, o, none⟩) n c xs) {m : Nat} (hm : m ≤ n) {vs : List Value} (hv : vs.length = m * size) :
    OffRow (w.setCells g o vs) e size (if c = m then some ⟨g, o, none⟩ else some ⟨g, o + m * size, none⟩) (n - m) (c - m) (xs.drop (m * size)) := by
  have he : (if c = m then (some ⟨g, o, none⟩ : Option Addr) else some ⟨g, o + m * size, none⟩) = some (if c = m then ⟨g, o, none⟩ else ⟨g, o + m * size, none⟩) := by split <;> rfl
  rw [he]
  have h1 := h.cap
  have h2 := h.max
  obtain ⟨g', o', cur, e1, hg, hs, hx⟩ := h.blk _ rfl
  obtain ⟨rfl, rfl⟩ : g = g' ∧ o = o' := by simpa using e1
  have hmul : m * size + (c - m) * size = c * size := by rw [← Nat.add_mul]; congr 1; omega
  obtain ⟨cur', e2, s2, f2⟩ := heap_setCells vs o w cur hg (by omega)
  refine ⟨by rw [List.length_drop, h.len, Nat.sub_mul], by omega, by omega, (fun e => by cases e), fun ad had => ?_⟩
  obtain rfl := Option.some.inj had
  by_cases hcm : c = m
  · rw [if_pos hcm]
    refine ⟨g, o, cur', rfl, e2, by rw [hcm, Nat.sub_self]; omega, fun j u hu => ?_⟩
    have : xs.drop (m * size) = [] := List.drop_eq_nil_of_le (by rw [h.len]; exact Nat.mul_le_mul_right _ (by omega))
    rw [this] at hu
    simp at hu
  · rw [if_neg hcm]
    refine ⟨g, o + m * size, cur', rfl, e2, by omega, fun j u hu => ?_⟩
    rw [List.getElem?_drop] at hu
    have h3 := hx _ u hu
    have hlt := (List.getElem?_eq_some_iff.1 hu).1
    rw [h.len] at hlt
    have hnc : n * size ≤ c * size := Nat.mul_le_mul_right _ h1
    rw [f2 _ (by omega), if_neg (by omega), show o + m * size + j = o + (m * size + j) by omega]
    exact h3
theorem three_sets {V : World} {R : Nat} {x y z : Value} {t : TypeId} (h : V.heap[R]? = some (.cells #[x, y, z] t (0, 0))) (a b c : Value) : (((V.setCell ⟨R, 0, none⟩ a).setCell ⟨R, 1, none⟩ b).setCell ⟨R, 2, none⟩ c).heap[R]? = some (.cells #[a, b, c] t (0, 0)) := by
  have h1 : (V.setCell ⟨R, 0, none⟩ a).heap[R]? = some (.cells #[a, y, z] t (0, 0)) := heap_setCell_same h 0 a
  exact three_set2 (three_set1 h1 b) c
theorem pass_end {W : World} {A : Option Addr} {n c : Nat} (h : LogV W b B T A n c L Φ) {p : Nat} (B' T' : Int) {V : World} {A2 : Option Addr}
    (hrow : OffRow V 36 2 A2 (n - p) (c - p) ((L.drop p).flatMap enC)) (hc : Chg (fun k => ∃ ad, A = some ad ∧ k = ad.block) W V) (hA : ∀ ad, A2 = some ad → ∃ ad0, A = some ad0 ∧ ad.block = ad0.block) :
    V.cell? ⟨b, 0, none⟩ = some (.int .i64 B) ∧ V.cell? ⟨b, 1, none⟩ = some (.int .i64 T) ∧ V.cell? ⟨b, 2, none⟩ = some (.slice A n c) ∧ V.frozen? ⟨b, 0, none⟩ = false ∧ V.frozen? ⟨b, 1, none⟩ = false ∧ V.frozen? ⟨b, 2, none⟩ = false ∧
      (V.setCell ⟨b, 0, none⟩ (.int .i64 B')).cell? ⟨b, 2, none⟩ = some (.slice A n c) ∧ ((V.setCell ⟨b, 0, none⟩ (.int .i64 B')).setCell ⟨b, 1, none⟩ (.int .i64 T')).cell? ⟨b, 2, none⟩ = some (.slice A n c) ∧ Left W b B' T' (L.drop p) Φ (((V.setCell ⟨b, 0, none⟩ (.int .i64 B')).setCell ⟨b, 1, none⟩ (.int .i64 T')).setCell ⟨b, 2, none⟩ (.slice A2 (n - p) (c - p))) := by
  have hnb : ¬ ∃ ad, A = some ad ∧ b = ad.block := fun ⟨ad, had, e⟩ => (h.apart ad had).1 e.symm
  have hblk := hc.heap h.blk hnb
  obtain ⟨k0, k1, k2, f0, f1, f2⟩ := three_cells hblk
  have hb1 : (V.setCell ⟨b, 0, none⟩ (.int .i64 B')).heap[b]? = some (.cells #[.int .i64 B', .int .i64 T, .slice A n c] 62 (0, 0)) := heap_setCell_same hblk 0 _
  refine ⟨k0, k1, k2, f0, f1, f2, (three_cells hb1).2.2.1, (three_cells (three_set1 hb1 (.int .i64 T'))).2.2.1, Φ, ⟨A2, n - p, c - p, three_sets hblk _ _ _, ?_, by rw [List.length_drop, h.len], fun ad had => ?_, h.own, fun k hk => by simp; exact Nat.lt_of_lt_of_le (h.bnd k hk) hc.size⟩, ?_, fun k _ hk => hk⟩
  · have hs : ∀ (V : World) (i : Nat) (u : Value), OffRow V 36 2 A2 (n - p) (c - p) ((L.drop p).flatMap enC) → OffRow (V.setCell ⟨b, i, none⟩ u) 36 2 A2 (n - p) (c - p) ((L.drop p).flatMap enC) := fun V i u hr => hr.keep (Chg.set V b i u) fun ad had => by
      obtain ⟨ad0, h0, e⟩ := hA ad had
      rw [e]
      exact (h.apart _ h0).1
    exact hs _ _ _ (hs _ _ _ (hs _ _ _ hrow))
  · obtain ⟨ad0, h0, e⟩ := hA ad had
    rw [e]
    exact h.apart _ h0
  · have hs : ∀ (V : World) (i : Nat) (u : Value), Chg Φ W V → Chg Φ W (V.setCell ⟨b, i, none⟩ u) := fun V i u hV => hV.trans (Chg.set V b i u) fun k _ hk => by rw [hk]; exact h.own
    exact hs _ _ _ (hs _ _ _ (hs _ _ _ (hc.mono fun k _ ⟨ad, had, e⟩ => by rw [e]; exact (h.apart ad had).2)))
def PassSaid (w : World) (b : Nat) (B T : Int) (L : List En) (Φ : Nat → Prop) (q : Int) (e : Ending) (w' : World) : Prop := e = .returned (.int .i64 q) ∧ Left w b B T L Φ w'
set_option maxHeartbeats 1600000 in
set_option maxRecDepth 100000 in
theorem Pass_bad (h : LogAt w b B T L Φ) (h0 : 0 ≤ B) (h1 : B ≤ 4611686018427387904) (hL : L.length < 1000000) {k : Int} (hk : I64 k) (hq : hasAt B L k = false) :
    Calls Try.prog 15 #[.pointer (some ⟨b, 0, none⟩), .int .i64 k] w (PassSaid w b B T L Φ 1) := by
  have HT : Hid (Calls Try.prog 21 #[.pointer (some ⟨b, 0, none⟩), .int .i64 k] w fun e w' => e = .returned (.tuple #[.int .i64 (termAt B T L k), .bool false]) ∧ Hid (Left w b B T L Φ w')) := Lib.hid ((Term_any h h0 h1 hL hk).mono (by
    rintro e w' ⟨rfl, hb⟩
    rw [hq]
    exact ⟨rfl, Lib.hid (Left.same h hb)⟩))
  clear h hq
  generalize termAt B T L k = tm at *
  go_enter Try.func15, Try.ntmps15
  go_wp2_with (go_at_call 21; refine HT.out.mono ?_; rintro e w1 ⟨rfl, HL0⟩)
  go_ret
  exact ⟨rfl, HL0.out⟩
set_option maxHeartbeats 1600000 in
set_option maxRecDepth 100000 in
theorem Pass_ok (h : LogAt w b B T L Φ) (h0 : 0 ≤ B) (h1 : B ≤ 4611686018427387904) (hL : L.length < 1000000) {k : Int} (hq : hasAt B L k = true) :
    Calls Try.prog 15 #[.pointer (some ⟨b, 0, none⟩), .int .i64 k] w (PassSaid w b k (termAt B T L k) (L.drop (k - B).toNat) Φ 0) := by
  have hkr : B ≤ k ∧ k ≤ B + L.length := by
    unfold hasAt at hq
    exact of_decide_eq_true hq
  obtain ⟨A, n, c, hv⟩ := h
  have hn := hv.len
  have HT : Hid (Calls Try.prog 21 #[.pointer (some ⟨b, 0, none⟩), .int .i64 k] w fun e w' => e = .returned (.tuple #[.int .i64 (termAt B T L k), .bool true]) ∧ w'.cell? ⟨b, 0, none⟩ = some (.int .i64 B) ∧ w'.cell? ⟨b, 2, none⟩ = some (.slice A n c) ∧ Hid (LogV w' b B T A n c L Φ ∧ Below w.heap.size w w')) := Lib.hid ((Term_any ⟨A, n, c, hv⟩ h0 h1 hL (by unfold I64; omega)).mono (by
    rintro e w' ⟨rfl, hb⟩
    rw [hq]
    have := hv.keep (Ψ := fun _ => False) (Chg.of_below hb) fun _ _ => id
    exact ⟨rfl, this.cells.1, this.cells.2.2, Lib.hid ⟨this, hb⟩⟩))
  have hcaps := hv.row.caps
  have hpn : (k - B).toNat ≤ n := by omega
  have hnil := hv.row.nil
  have hplace := hv.srd.place
  have hkB : 0 ≤ k - B ∧ k - B ≤ n := by omega
  clear hv hq hn
  generalize termAt B T L k = tm at *
  cases hA : A with
  | none =>
    subst hA
    obtain ⟨rfl, rfl⟩ := hnil rfl
    obtain rfl : B = k := by omega
    clear hcaps hpn hnil hplace hkB
    have HCL : Hid (∀ w1, LogV w1 b B T none 0 0 L Φ ∧ Below w.heap.size w w1 → (∀ ty, (Builtin.clear_ #[44] ty #[.slice none 0 0]).run Try.prog w1 = .ok (.tuple #[]) w1) ∧
        ∀ V, V = w1.drew → V.cell? ⟨b, 0, none⟩ = some (.int .i64 B) ∧ V.cell? ⟨b, 1, none⟩ = some (.int .i64 T) ∧ V.cell? ⟨b, 2, none⟩ = some (.slice none 0 0) ∧ V.frozen? ⟨b, 0, none⟩ = false ∧ V.frozen? ⟨b, 1, none⟩ = false ∧ V.frozen? ⟨b, 2, none⟩ = false ∧ (V.setCell ⟨b, 0, none⟩ (.int .i64 B)).cell? ⟨b, 2, none⟩ = some (.slice none 0 0) ∧ ((V.setCell ⟨b, 0, none⟩ (.int .i64 B)).setCell ⟨b, 1, none⟩ (.int .i64 tm)).cell? ⟨b, 2, none⟩ = some (.slice none 0 0) ∧
          Hid (Left w b B tm (L.drop (B - B).toNat) Φ (((V.setCell ⟨b, 0, none⟩ (.int .i64 B)).setCell ⟨b, 1, none⟩ (.int .i64 tm)).setCell ⟨b, 2, none⟩ (.slice none 0 0)))) := Lib.hid fun w1 ⟨hv1, hb1⟩ => by
      refine ⟨fun ty => by simp [Builtin.clear_, run_underlying Try.underlying44], fun V hV => ?_⟩
      have hz : L = [] := List.eq_nil_of_length_eq_zero hv1.len
      have hrow2 : OffRow V 36 2 none (0 - 0) (0 - 0) ((L.drop 0).flatMap enC) := by rw [hz]; exact OffRow.none_ _ _ _
      have hc2 : Chg (fun k => ∃ ad, (none : Option Addr) = some ad ∧ k = ad.block) w1 V := by rw [hV]; exact Chg.drew _
      obtain ⟨q0, q1, q2, q3, q4, q5, t2, t3, q6⟩ := pass_end hv1 B tm hrow2 hc2 (fun ad had => by cases had)
      obtain ⟨Φ2, l1, l2⟩ := q6
      rw [show (B - B).toNat = 0 by omega]
      exact ⟨q0, q1, q2, q3, q4, q5, t2, t3, Lib.hid ⟨Φ2, l1, (Nxt.of_below hb1).trans l2⟩⟩
    go_enter Try.func15, Try.ntmps15
    go_upto_region 6 with (go_at_call 21; refine HT.out.mono ?_; rintro e w1 ⟨rfl, k0, k2, HX⟩; obtain ⟨hcl, hen⟩ := HCL.out w1 HX.out; have HEN := Lib.hid hen; clear hen)
    obtain ⟨q0, q1, q2, q3, q4, q5, t2, t3, HLE⟩ := HEN.out _ rfl
    clear hcl k0 k2 HEN
    refine wp_region_G (fun w' => w'.cell? ⟨b, 2, none⟩ = some (.slice none 0 0)) 19 (by kernel_rfl) ?_
    generalize w1.drew = V2 at *
    refine wpAnyG_take (i := 0) (oi := _) (v := ?_) rfl (by kernel_rfl) (by kernel_rfl) (by kernel_rfl) (by kernel_rfl) (fun _ _ _ h => h) (Or.inl ⟨by rfl, ?_⟩) q2 ?_
    rotate_left
    · (intro wS hSw; obtain y1 := hSw; go_simp; try with_reducible rfl)
    try simp only [Act.put]
    refine wpAnyG_take (i := 1) (oi := _) (v := ?_) rfl (by kernel_rfl) (by kernel_rfl) (by kernel_rfl) (by kernel_rfl) (fun _ _ _ h => h) (Or.inl ⟨by rfl, ?_⟩) q2 ?_
    rotate_left
    · (intro wS hSw; obtain y1 := hSw; go_simp; try with_reducible rfl)
    try simp only [Act.put]
    refine wpAnyG_take (i := 2) (oi := _) (v := ?_) rfl (by kernel_rfl) (by kernel_rfl) (by kernel_rfl) (by kernel_rfl) (fun _ _ _ h => h) (Or.inl ⟨by rfl, ?_⟩) q2 ?_
    rotate_left
    · (intro wS hSw; obtain y1 := hSw; go_simp; try with_reducible rfl)
    try simp only [Act.put]
    refine wpAnyG_take (i := 3) (oi := _) (v := ?_) rfl (by kernel_rfl) (by kernel_rfl) (by kernel_rfl) (by kernel_rfl) (fun _ _ _ h => h) (Or.inl ⟨by rfl, ?_⟩) q2 ?_
    rotate_left
    · (intro wS hSw; obtain y1 := hSw; go_simp; try with_reducible rfl)
    try simp only [Act.put]
    refine wpAnyG_take (i := 4) (oi := _) (v := ?_) rfl (by kernel_rfl) (by kernel_rfl) (by kernel_rfl) (by kernel_rfl) (fun _ _ _ h => h) (Or.inl ⟨by rfl, ?_⟩) q2 ?_
    rotate_left
    · (intro wS hSw; obtain y1 := hSw; go_simp; try with_reducible rfl)
    try simp only [Act.put]
    refine wpAnyG_take (i := 5) (oi := _) (v := ?_) rfl (by kernel_rfl) (by kernel_rfl) (by kernel_rfl) (by kernel_rfl) (fun _ _ _ h => h) (Or.inl ⟨by rfl, ?_⟩) q2 ?_
    rotate_left
    · (intro wS hSw; obtain y1 := hSw; go_simp; try with_reducible rfl)
    try simp only [Act.put]
    refine wpAnyG_take (i := 6) (oi := _) (v := ?_) rfl (by kernel_rfl) (by kernel_rfl) (by kernel_rfl) (by kernel_rfl) (fun _ _ _ h => h) (Or.inl ⟨by rfl, ?_⟩) q2 ?_
    rotate_left
    · (intro wS hSw; obtain y1 := hSw; go_simp; try with_reducible rfl)
    try simp only [Act.put]
    refine wpAnyG_take (i := 7) (oi := _) (v := ?_) rfl (by kernel_rfl) (by kernel_rfl) (by kernel_rfl) (by kernel_rfl) (fun _ _ _ h => h) (Or.inl ⟨by rfl, ?_⟩) q2 ?_
    rotate_left
    · (intro wS hSw; obtain y1 := hSw; go_simp; try with_reducible rfl)
    try simp only [Act.put]
    refine wpAnyG_take (i := 8) (oi := _) (v := ?_) rfl (by kernel_rfl) (by kernel_rfl) (by kernel_rfl) (by kernel_rfl) (fun _ _ _ h => h) (Or.inl ⟨by rfl, ?_⟩) q2 ?_
    rotate_left
    · (intro wS hSw; obtain y1 := hSw; go_simp; try with_reducible rfl)
    try simp only [Act.put]
    refine wpAnyG_take (i := 9) (oi := _) (v := ?_) rfl (by kernel_rfl) (by kernel_rfl) (by kernel_rfl) (by kernel_rfl) (fun _ _ _ h => h) (Or.inl ⟨by rfl, ?_⟩) q2 ?_
    rotate_left
    · (intro wS hSw; obtain y1 := hSw; go_simp; try with_reducible rfl)
    try simp only [Act.put]
    refine wpAnyG_take (i := 10) (oi := _) (v := ?_) rfl (by kernel_rfl) (by kernel_rfl) (by kernel_rfl) (by kernel_rfl) (fun _ _ _ h => h) (Or.inl ⟨by rfl, ?_⟩) q2 ?_
    rotate_left
    · (intro wS hSw; obtain y1 := hSw; go_simp; try with_reducible rfl)
    try simp only [Act.put]
    refine wpAnyG_take (i := 11) (oi := _) (v := ?_) rfl (by kernel_rfl) (by kernel_rfl) (by kernel_rfl) (by kernel_rfl) (fun _ _ _ h => h) (Or.inl ⟨by rfl, ?_⟩) q2 ?_
    rotate_left
    · (intro wS hSw; obtain y1 := hSw; go_simp; try with_reducible rfl)
    try simp only [Act.put]
    refine wpAnyG_take (i := 12) (oi := _) (v := ?_) rfl (by kernel_rfl) (by kernel_rfl) (by kernel_rfl) (by kernel_rfl) (fun _ _ _ h => h) (Or.inl ⟨by rfl, ?_⟩) q2 ?_
    rotate_left
    · (intro wS hSw; obtain y1 := hSw; go_simp; try with_reducible rfl)
    try simp only [Act.put]
    refine wpAnyG_one (i := 13) (by kernel_rfl) rfl (fun K hK => ?_)
    rw [if_pos (by rfl)]
    go_simp
    refine hK.out _ _ ?_ ?_
    · exact fun _ => t2
    try simp only [Act.put]
    refine wpAnyG_take (i := 14) (oi := _) (v := ?_) rfl (by kernel_rfl) (by kernel_rfl) (by kernel_rfl) (by kernel_rfl) (fun _ _ _ h => h) (Or.inl ⟨by rfl, ?_⟩) t2 ?_
    rotate_left
    · (intro wS hSw; obtain y1 := hSw; go_simp; try with_reducible rfl)
    try simp only [Act.put]
    refine wpAnyG_take (i := 15) (oi := _) (v := ?_) rfl (by kernel_rfl) (by kernel_rfl) (by kernel_rfl) (by kernel_rfl) (fun _ _ _ h => h) (Or.inl ⟨by rfl, ?_⟩) t2 ?_
    rotate_left
    · (intro wS hSw; obtain y1 := hSw; go_simp; try with_reducible rfl)
    try simp only [Act.put]
    refine wpAnyG_one (i := 16) (by kernel_rfl) rfl (fun K hK => ?_)
    rw [if_pos (by rfl)]
    go_simp
    refine hK.out _ _ ?_ ?_
    · exact fun _ => t3
    try simp only [Act.put]
    refine wpAnyG_one (i := 17) (by kernel_rfl) rfl (fun K hK => ?_)
    rw [if_pos (by rfl)]
    go_simp
    refine hK.out _ _ ?_ ?_
    · exact fun _ => t3
    try simp only [Act.put]
    refine wpAnyG_take (i := 18) (oi := _) (v := ?_) rfl (by kernel_rfl) (by kernel_rfl) (by kernel_rfl) (by kernel_rfl) (fun _ _ _ h => h) (Or.inl ⟨by rfl, ?_⟩) t3 ?_
    rotate_left
    · (intro wS hSw; obtain y1 := hSw; go_simp; try with_reducible rfl)
    try simp only [Act.put]
    refine wpAnyG_one (i := 19) (by kernel_rfl) rfl (fun K hK => ?_)
    rw [if_pos (by rfl)]
    go_simp
    refine hK.out _ _ ?_ ?_
    · exact fun h => absurd h (by omega)
    try simp only [Act.put]
    refine wpAnyG_done (by kernel_rfl) ?_ _
    go_wp2_with fail
    go_ret
    exact ⟨rfl, HLE.out⟩
  | some ad =>
    obtain ⟨g, o, rfl, hg, _⟩ := hplace ad hA
    subst hA
    have HCL : Hid (∀ w1, LogV w1 b B T (some ⟨g, o, none⟩) n c L Φ ∧ Below w.heap.size w w1 → (∀ ty, (Builtin.clear_ #[44] ty #[.slice (some ⟨g, o, none⟩) (k - B).toNat c]).run Try.prog w1 = .ok (.tuple #[]) (w1.setCells g o ((List.replicate (k - B).toNat zeroE).flatMap enC))) ∧
        ∀ A2, A2 = (if c = (k - B).toNat then some ⟨g, o, none⟩ else some ⟨g, o + (k - B).toNat * 2, none⟩) → ∀ V, V = (w1.setCells g o ((List.replicate (k - B).toNat zeroE).flatMap enC)).drew → V.cell? ⟨b, 0, none⟩ = some (.int .i64 B) ∧ V.cell? ⟨b, 1, none⟩ = some (.int .i64 T) ∧ V.cell? ⟨b, 2, none⟩ = some (.slice (some ⟨g, o, none⟩) n c) ∧ V.frozen? ⟨b, 0, none⟩ = false ∧ V.frozen? ⟨b, 1, none⟩ = false ∧ V.frozen? ⟨b, 2, none⟩ = false ∧ (V.setCell ⟨b, 0, none⟩ (.int .i64 k)).cell? ⟨b, 2, none⟩ = some (.slice (some ⟨g, o, none⟩) n c) ∧ ((V.setCell ⟨b, 0, none⟩ (.int .i64 k)).setCell ⟨b, 1, none⟩ (.int .i64 tm)).cell? ⟨b, 2, none⟩ = some (.slice (some ⟨g, o, none⟩) n c) ∧
          Hid (Left w b k tm (L.drop (k - B).toNat) Φ (((V.setCell ⟨b, 0, none⟩ (.int .i64 k)).setCell ⟨b, 1, none⟩ (.int .i64 tm)).setCell ⟨b, 2, none⟩ (.slice A2 (n - (k - B).toNat) (c - (k - B).toNat))))) := Lib.hid fun w1 ⟨hv1, hb1⟩ => by
      obtain ⟨g', o', cur, e1, hblk, hsz, _⟩ := hv1.row.blk _ rfl
      obtain ⟨rfl, rfl⟩ : g = g' ∧ o = o' := by simpa using e1
      have hmul : (k - B).toNat * 2 ≤ c * 2 := Nat.mul_le_mul_right _ (by omega)
      refine ⟨fun ty => run_clear_en w1 ty g o _ c (fun j hj => ?_) (fun j hj => by simp [World.frozen?, hblk]), fun A2 hA2 V hV => ?_⟩
      · rw [cell_of_row _ _ _ _ _ _ hblk, Array.getElem?_eq_getElem (by omega)]
        rfl
      · have hl : ((List.replicate (k - B).toNat zeroE).flatMap enC).length = (k - B).toNat * 2 := by rw [fm_len en_len, List.length_replicate]
        have hrow := hv1.row.cleared hpn hl
        rw [← hA2, ← fm_drop en_len] at hrow
        have hc1 : Chg (fun i => i = g) w1 (w1.setCells g o ((List.replicate (k - B).toNat zeroE).flatMap enC)) := chg_setCells _ _ _
        have hc2 : Chg (fun i => i = g) w1 V := by
          rw [hV]
          exact hc1.trans (Chg.drew (Φ := fun _ => False) _) fun _ _ h => h.elim
        have hrow2 : OffRow V 36 2 A2 (n - (k - B).toNat) (c - (k - B).toNat) ((L.drop (k - B).toNat).flatMap enC) := by
          rw [hV]
          exact hrow.keep (Chg.drew (Φ := fun _ => False) _) fun _ _ => id
        obtain ⟨q0, q1, q2, q3, q4, q5, t2, t3, q6⟩ := pass_end hv1 k tm hrow2 (hc2.mono fun i _ hi => ⟨_, rfl, hi⟩) (fun ad had => by
          rw [hA2] at had
          refine ⟨_, rfl, ?_⟩
          split at had <;> (obtain rfl := Option.some.inj had; rfl))
        obtain ⟨Φ2, l1, l2⟩ := q6
        exact ⟨q0, q1, q2, q3, q4, q5, t2, t3, Lib.hid ⟨Φ2, l1, (Nxt.of_below hb1).trans l2⟩⟩
    clear hplace hnil hg
    by_cases hcp : c = (k - B).toNat
    · subst hcp
      go_enter Try.func15, Try.ntmps15
      go_upto_region 6 with (go_at_call 21; refine HT.out.mono ?_; rintro e w1 ⟨rfl, k0, k2, HX⟩; obtain ⟨hcl, hen⟩ := HCL.out w1 HX.out; have HEN := Lib.hid hen; clear hen)
      obtain ⟨q0, q1, q2, q3, q4, q5, t2, t3, HLE⟩ := HEN.out _ (if_pos True.intro |>.symm) _ rfl
      clear hcl k0 k2 HEN
      rw [show n - (k - B).toNat = 0 by omega, Nat.sub_self] at HLE
      generalize w1.setCells g o ((List.replicate (k - B).toNat zeroE).flatMap enC) = V at *
      refine wp_region_G (fun w' => w'.cell? ⟨b, 2, none⟩ = some (.slice (some ⟨g, o, none⟩) n (k - B).toNat)) 19 (by kernel_rfl) ?_
      generalize V.drew = V2 at *
      refine wpAnyG_take (i := 0) (oi := _) (v := ?_) rfl (by kernel_rfl) (by kernel_rfl) (by kernel_rfl) (by kernel_rfl) (fun _ _ _ h => h) (Or.inl ⟨by rfl, ?_⟩) q2 ?_
      rotate_left
      · (intro wS hSw; obtain y1 := hSw; go_simp; try with_reducible rfl)
      try simp only [Act.put]
      refine wpAnyG_take (i := 1) (oi := _) (v := ?_) rfl (by kernel_rfl) (by kernel_rfl) (by kernel_rfl) (by kernel_rfl) (fun _ _ _ h => h) (Or.inl ⟨by rfl, ?_⟩) q2 ?_
      rotate_left
      · (intro wS hSw; obtain y1 := hSw; go_simp; try with_reducible rfl)
      try simp only [Act.put]
      refine wpAnyG_take (i := 2) (oi := _) (v := ?_) rfl (by kernel_rfl) (by kernel_rfl) (by kernel_rfl) (by kernel_rfl) (fun _ _ _ h => h) (Or.inl ⟨by rfl, ?_⟩) q2 ?_
      rotate_left
      · (intro wS hSw; obtain y1 := hSw; go_simp; try with_reducible rfl)
      try simp only [Act.put]
      refine wpAnyG_take (i := 3) (oi := _) (v := ?_) rfl (by kernel_rfl) (by kernel_rfl) (by kernel_rfl) (by kernel_rfl) (fun _ _ _ h => h) (Or.inl ⟨by rfl, ?_⟩) q2 ?_
      rotate_left
      · (intro wS hSw; obtain y1 := hSw; go_simp; try with_reducible rfl)
      try simp only [Act.put]
      refine wpAnyG_take (i := 4) (oi := _) (v := ?_) rfl (by kernel_rfl) (by kernel_rfl) (by kernel_rfl) (by kernel_rfl) (fun _ _ _ h => h) (Or.inl ⟨by rfl, ?_⟩) q2 ?_
      rotate_left
      · (intro wS hSw; obtain y1 := hSw; go_simp; try with_reducible rfl)
      try simp only [Act.put]
      refine wpAnyG_take (i := 5) (oi := _) (v := ?_) rfl (by kernel_rfl) (by kernel_rfl) (by kernel_rfl) (by kernel_rfl) (fun _ _ _ h => h) (Or.inl ⟨by rfl, ?_⟩) q2 ?_
      rotate_left
      · (intro wS hSw; obtain y1 := hSw; go_simp; try with_reducible rfl)
      try simp only [Act.put]
      refine wpAnyG_take (i := 6) (oi := _) (v := ?_) rfl (by kernel_rfl) (by kernel_rfl) (by kernel_rfl) (by kernel_rfl) (fun _ _ _ h => h) (Or.inl ⟨by rfl, ?_⟩) q2 ?_
      rotate_left
      · (intro wS hSw; obtain y1 := hSw; go_simp; try with_reducible rfl)
      try simp only [Act.put]
      refine wpAnyG_take (i := 7) (oi := _) (v := ?_) rfl (by kernel_rfl) (by kernel_rfl) (by kernel_rfl) (by kernel_rfl) (fun _ _ _ h => h) (Or.inl ⟨by rfl, ?_⟩) q2 ?_
      rotate_left
      · (intro wS hSw; obtain y1 := hSw; go_simp; try with_reducible rfl)
      try simp only [Act.put]
      refine wpAnyG_take (i := 8) (oi := _) (v := ?_) rfl (by kernel_rfl) (by kernel_rfl) (by kernel_rfl) (by kernel_rfl) (fun _ _ _ h => h) (Or.inl ⟨by rfl, ?_⟩) q2 ?_
      rotate_left
      · (intro wS hSw; obtain y1 := hSw; go_simp; try with_reducible rfl)
      try simp only [Act.put]
      refine wpAnyG_take (i := 9) (oi := _) (v := ?_) rfl (by kernel_rfl) (by kernel_rfl) (by kernel_rfl) (by kernel_rfl) (fun _ _ _ h => h) (Or.inl ⟨by rfl, ?_⟩) q2 ?_
      rotate_left
      · (intro wS hSw; obtain y1 := hSw; go_simp; try with_reducible rfl)
      try simp only [Act.put]
      refine wpAnyG_take (i := 10) (oi := _) (v := ?_) rfl (by kernel_rfl) (by kernel_rfl) (by kernel_rfl) (by kernel_rfl) (fun _ _ _ h => h) (Or.inl ⟨by rfl, ?_⟩) q2 ?_
      rotate_left
      · (intro wS hSw; obtain y1 := hSw; go_simp; try with_reducible rfl)
      try simp only [Act.put]
      refine wpAnyG_take (i := 11) (oi := _) (v := ?_) rfl (by kernel_rfl) (by kernel_rfl) (by kernel_rfl) (by kernel_rfl) (fun _ _ _ h => h) (Or.inl ⟨by rfl, ?_⟩) q2 ?_
      rotate_left
      · (intro wS hSw; obtain y1 := hSw; go_simp; try with_reducible rfl)
      try simp only [Act.put]
      refine wpAnyG_take (i := 12) (oi := _) (v := ?_) rfl (by kernel_rfl) (by kernel_rfl) (by kernel_rfl) (by kernel_rfl) (fun _ _ _ h => h) (Or.inl ⟨by rfl, ?_⟩) q2 ?_
      rotate_left
      · (intro wS hSw; obtain y1 := hSw; go_simp; try with_reducible rfl)
      try simp only [Act.put]
      refine wpAnyG_one (i := 13) (by kernel_rfl) rfl (fun K hK => ?_)
      rw [if_pos (by rfl)]
      go_simp
      refine hK.out _ _ ?_ ?_
      · exact fun _ => t2
      try simp only [Act.put]
      refine wpAnyG_take (i := 14) (oi := _) (v := ?_) rfl (by kernel_rfl) (by kernel_rfl) (by kernel_rfl) (by kernel_rfl) (fun _ _ _ h => h) (Or.inl ⟨by rfl, ?_⟩) t2 ?_
      rotate_left
      · (intro wS hSw; obtain y1 := hSw; go_simp; try with_reducible rfl)
      try simp only [Act.put]
      refine wpAnyG_take (i := 15) (oi := _) (v := ?_) rfl (by kernel_rfl) (by kernel_rfl) (by kernel_rfl) (by kernel_rfl) (fun _ _ _ h => h) (Or.inl ⟨by rfl, ?_⟩) t2 ?_
      rotate_left
      · (intro wS hSw; obtain y1 := hSw; go_simp; try with_reducible rfl)
      try simp only [Act.put]
      refine wpAnyG_one (i := 16) (by kernel_rfl) rfl (fun K hK => ?_)
      rw [if_pos (by rfl)]
      go_simp
      refine hK.out _ _ ?_ ?_
      · exact fun _ => t3
      try simp only [Act.put]
      refine wpAnyG_one (i := 17) (by kernel_rfl) rfl (fun K hK => ?_)
      rw [if_pos (by rfl)]
      go_simp
      refine hK.out _ _ ?_ ?_
      · exact fun _ => t3
      try simp only [Act.put]
      refine wpAnyG_take (i := 18) (oi := _) (v := ?_) rfl (by kernel_rfl) (by kernel_rfl) (by kernel_rfl) (by kernel_rfl) (fun _ _ _ h => h) (Or.inl ⟨by rfl, ?_⟩) t3 ?_
      rotate_left
      · (intro wS hSw; obtain y1 := hSw; go_simp; try with_reducible rfl)
      try simp only [Act.put]
      refine wpAnyG_one (i := 19) (by kernel_rfl) rfl (fun K hK => ?_)
      rw [if_pos (by rfl)]
      go_simp
      refine hK.out _ _ ?_ ?_
      · exact fun h => absurd h (by omega)
      try simp only [Act.put]
      refine wpAnyG_done (by kernel_rfl) ?_ _
      go_wp2_with fail
      go_ret
      exact ⟨rfl, HLE.out⟩
    · have hcp2 : ¬ (k - B).toNat = c := fun e => hcp e.symm
      go_enter Try.func15, Try.ntmps15
      go_upto_region 6 with (go_at_call 21; refine HT.out.mono ?_; rintro e w1 ⟨rfl, k0, k2, HX⟩; obtain ⟨hcl, hen⟩ := HCL.out w1 HX.out; have HEN := Lib.hid hen; clear hen)
      obtain ⟨q0, q1, q2, q3, q4, q5, t2, t3, HLE⟩ := HEN.out _ (if_neg hcp |>.symm) _ rfl
      clear hcl k0 k2 HEN
      generalize w1.setCells g o ((List.replicate (k - B).toNat zeroE).flatMap enC) = V at *
      refine wp_region_G (fun w' => w'.cell? ⟨b, 2, none⟩ = some (.slice (some ⟨g, o, none⟩) n c)) 19 (by kernel_rfl) ?_
      generalize V.drew = V2 at *
      refine wpAnyG_take (i := 0) (oi := _) (v := ?_) rfl (by kernel_rfl) (by kernel_rfl) (by kernel_rfl) (by kernel_rfl) (fun _ _ _ h => h) (Or.inl ⟨by rfl, ?_⟩) q2 ?_
      rotate_left
      · (intro wS hSw; obtain y1 := hSw; go_simp; try with_reducible rfl)
      try simp only [Act.put]
      refine wpAnyG_take (i := 1) (oi := _) (v := ?_) rfl (by kernel_rfl) (by kernel_rfl) (by kernel_rfl) (by kernel_rfl) (fun _ _ _ h => h) (Or.inl ⟨by rfl, ?_⟩) q2 ?_
      rotate_left
      · (intro wS hSw; obtain y1 := hSw; go_simp; try with_reducible rfl)
      try simp only [Act.put]
      refine wpAnyG_take (i := 2) (oi := _) (v := ?_) rfl (by kernel_rfl) (by kernel_rfl) (by kernel_rfl) (by kernel_rfl) (fun _ _ _ h => h) (Or.inl ⟨by rfl, ?_⟩) q2 ?_
      rotate_left
      · (intro wS hSw; obtain y1 := hSw; go_simp; try with_reducible rfl)
      try simp only [Act.put]
      refine wpAnyG_take (i := 3) (oi := _) (v := ?_) rfl (by kernel_rfl) (by kernel_rfl) (by kernel_rfl) (by kernel_rfl) (fun _ _ _ h => h) (Or.inl ⟨by rfl, ?_⟩) q2 ?_
      rotate_left
      · (intro wS hSw; obtain y1 := hSw; go_simp; try with_reducible rfl)
      try simp only [Act.put]
      refine wpAnyG_take (i := 4) (oi := _) (v := ?_) rfl (by kernel_rfl) (by kernel_rfl) (by kernel_rfl) (by kernel_rfl) (fun _ _ _ h => h) (Or.inl ⟨by rfl, ?_⟩) q2 ?_
      rotate_left
      · (intro wS hSw; obtain y1 := hSw; go_simp; try with_reducible rfl)
      try simp only [Act.put]
      refine wpAnyG_take (i := 5) (oi := _) (v := ?_) rfl (by kernel_rfl) (by kernel_rfl) (by kernel_rfl) (by kernel_rfl) (fun _ _ _ h => h) (Or.inl ⟨by rfl, ?_⟩) q2 ?_
      rotate_left
      · (intro wS hSw; obtain y1 := hSw; go_simp; try with_reducible rfl)
      try simp only [Act.put]
      refine wpAnyG_take (i := 6) (oi := _) (v := ?_) rfl (by kernel_rfl) (by kernel_rfl) (by kernel_rfl) (by kernel_rfl) (fun _ _ _ h => h) (Or.inl ⟨by rfl, ?_⟩) q2 ?_
      rotate_left
      · (intro wS hSw; obtain y1 := hSw; go_simp; try with_reducible rfl)
      try simp only [Act.put]
      refine wpAnyG_take (i := 7) (oi := _) (v := ?_) rfl (by kernel_rfl) (by kernel_rfl) (by kernel_rfl) (by kernel_rfl) (fun _ _ _ h => h) (Or.inl ⟨by rfl, ?_⟩) q2 ?_
      rotate_left
      · (intro wS hSw; obtain y1 := hSw; go_simp; try with_reducible rfl)
      try simp only [Act.put]
      refine wpAnyG_take (i := 8) (oi := _) (v := ?_) rfl (by kernel_rfl) (by kernel_rfl) (by kernel_rfl) (by kernel_rfl) (fun _ _ _ h => h) (Or.inl ⟨by rfl, ?_⟩) q2 ?_
      rotate_left
      · (intro wS hSw; obtain y1 := hSw; go_simp; try with_reducible rfl)
      try simp only [Act.put]
      refine wpAnyG_take (i := 9) (oi := _) (v := ?_) rfl (by kernel_rfl) (by kernel_rfl) (by kernel_rfl) (by kernel_rfl) (fun _ _ _ h => h) (Or.inl ⟨by rfl, ?_⟩) q2 ?_
      rotate_left
      · (intro wS hSw; obtain y1 := hSw; go_simp; try with_reducible rfl)
      try simp only [Act.put]
      refine wpAnyG_take (i := 10) (oi := _) (v := ?_) rfl (by kernel_rfl) (by kernel_rfl) (by kernel_rfl) (by kernel_rfl) (fun _ _ _ h => h) (Or.inl ⟨by rfl, ?_⟩) q2 ?_
      rotate_left
      · (intro wS hSw; obtain y1 := hSw; go_simp; try with_reducible rfl)
      try simp only [Act.put]
      refine wpAnyG_take (i := 11) (oi := _) (v := ?_) rfl (by kernel_rfl) (by kernel_rfl) (by kernel_rfl) (by kernel_rfl) (fun _ _ _ h => h) (Or.inl ⟨by rfl, ?_⟩) q2 ?_
      rotate_left
      · (intro wS hSw; obtain y1 := hSw; go_simp; try with_reducible rfl)
      try simp only [Act.put]
      refine wpAnyG_take (i := 12) (oi := _) (v := ?_) rfl (by kernel_rfl) (by kernel_rfl) (by kernel_rfl) (by kernel_rfl) (fun _ _ _ h => h) (Or.inl ⟨by rfl, ?_⟩) q2 ?_
      rotate_left
      · (intro wS hSw; obtain y1 := hSw; go_simp; try with_reducible rfl)
      try simp only [Act.put]
      refine wpAnyG_one (i := 13) (by kernel_rfl) rfl (fun K hK => ?_)
      rw [if_pos (by rfl)]
      go_simp
      refine hK.out _ _ ?_ ?_
      · exact fun _ => t2
      try simp only [Act.put]
      refine wpAnyG_take (i := 14) (oi := _) (v := ?_) rfl (by kernel_rfl) (by kernel_rfl) (by kernel_rfl) (by kernel_rfl) (fun _ _ _ h => h) (Or.inl ⟨by rfl, ?_⟩) t2 ?_
      rotate_left
      · (intro wS hSw; obtain y1 := hSw; go_simp; try with_reducible rfl)
      try simp only [Act.put]
      refine wpAnyG_take (i := 15) (oi := _) (v := ?_) rfl (by kernel_rfl) (by kernel_rfl) (by kernel_rfl) (by kernel_rfl) (fun _ _ _ h => h) (Or.inl ⟨by rfl, ?_⟩) t2 ?_
      rotate_left
      · (intro wS hSw; obtain y1 := hSw; go_simp; try with_reducible rfl)
      try simp only [Act.put]
      refine wpAnyG_one (i := 16) (by kernel_rfl) rfl (fun K hK => ?_)
      rw [if_pos (by rfl)]
      go_simp
      refine hK.out _ _ ?_ ?_
      · exact fun _ => t3
      try simp only [Act.put]
      refine wpAnyG_one (i := 17) (by kernel_rfl) rfl (fun K hK => ?_)
      rw [if_pos (by rfl)]
      go_simp
      refine hK.out _ _ ?_ ?_
      · exact fun _ => t3
      try simp only [Act.put]
      refine wpAnyG_take (i := 18) (oi := _) (v := ?_) rfl (by kernel_rfl) (by kernel_rfl) (by kernel_rfl) (by kernel_rfl) (fun _ _ _ h => h) (Or.inl ⟨by rfl, ?_⟩) t3 ?_
      rotate_left
      · (intro wS hSw; obtain y1 := hSw; go_simp; try with_reducible rfl)
      try simp only [Act.put]
      refine wpAnyG_one (i := 19) (by kernel_rfl) rfl (fun K hK => ?_)
      rw [if_pos (by rfl)]
      go_simp
      refine hK.out _ _ ?_ ?_
      · exact fun h => absurd h (by omega)
      try simp only [Act.put]
      refine wpAnyG_done (by kernel_rfl) ?_ _
      go_wp2_with fail
      go_ret
      exact ⟨rfl, HLE.out⟩
end
end Go.Proofs.Ytmmddkddjiodbaa
