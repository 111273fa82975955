/- What is proved here: the laws' does in all its ways; that Same says yes of two logs alike. -/
import Derived.Test.YtmmddkddjiodbaaEDoes4
namespace Go.Proofs.Ytmmddkddjiodbaa
open Go Go.RowKit Go.Maps Go.WideMaps

section
variable {w : World} {b : Nat} {B T : Int} {A : Option Addr} {n c : Nat} {L : List En} {Φ : Nat → Prop}
/-- What a call makes of a log. -/
def doesF (B T : Int) (L : List En) (p : OpM) : Int × Int × List En :=
  if p.kind = 0 then (B, T, L ++ p.M) else if p.kind = 1 then (if p.at_ < 0 then (B, T, L) else (B, T, (mergeF B T L p.at_ p.term p.M).1)) else if p.kind = 2 then ((passR B T L p.at_).1, (passR B T L p.at_).2.1, (passR B T L p.at_).2.2.1) else (B, T, L)
/-- Bounds, behind calls of s entries. -/
structure Bnd (B : Int) (L : List En) (s : Nat) : Prop where
  b0 : 0 ≤ B
  last : B + L.length ≤ 2199023255552 + s
  len : L.length ≤ s
theorem doesF_bnd {s : Nat} (h : Bnd B L s) (p : OpM) (hM : p.M.length = p.n) : Bnd (doesF B T L p).1 (doesF B T L p).2.2 (s + p.n) := by
  have h0 := h.b0
  have h1 := h.last
  have h2 := h.len
  unfold doesF
  split
  · refine ⟨h0, ?_, ?_⟩ <;> simp only [List.length_append] <;> omega
  · split
    · split
      · exact ⟨h0, by simp only; omega, by simp only; omega⟩
      · have := mergeF_fst_len (B := B) (T := T) (y := p.at_) (term := p.term) (L := L) (M := p.M)
        exact ⟨h0, by simp only; omega, by simp only; omega⟩
    · split
      · unfold passR
        split
        · rename_i hh
          unfold hasAt at hh
          rw [decide_eq_true_eq] at hh
          refine ⟨by simp only; omega, ?_, ?_⟩ <;> simp only [List.length_drop] <;> omega
        · exact ⟨h0, by simp only; omega, by simp only; omega⟩
      · exact ⟨h0, by simp only; omega, by simp only; omega⟩
theorem does_any (h : LogAt w b B T L Φ) (hr : SRd enC w (fun k => ¬ Φ k) A n c L) {s : Nat} (hb : Bnd B L s) (hs : s ≤ 1000) {p : OpM} (hia : I64 p.at_) (hM : WRd enC w (fun k => ¬ Φ k) p.A p.n p.c p.M) (hm : p.n ≤ 400) :
    Calls Try.prog 17 #[.pointer (some ⟨b, 0, none⟩), rlV B T A n c, .agg #[.int .i64 p.kind, .int .i64 p.at_, .int .i64 p.term, .slice p.A p.n p.c]] w (DoesSaid w b Φ (doesF B T L p).1 (doesF B T L p).2.1 (doesF B T L p).2.2) := by
  have h0 := hb.b0
  have h1 := hb.last
  have h2 := hb.len
  have hn := hr.len
  unfold doesF
  by_cases k0 : p.kind = 0
  · rw [if_pos k0]
    exact does_add h hr h0 (by omega) (by omega) hM (by omega) k0
  · rw [if_neg k0]
    by_cases k1 : p.kind = 1
    · rw [if_pos k1]
      by_cases hy : p.at_ < 0
      · rw [if_pos hy]
        exact does_neg h hr h0 (by omega) (by omega) hM (by omega) k1 hy
      · rw [if_neg hy]
        exact does_merge h hr h0 (by omega) (by omega) hia hM (by omega) k1 (by omega)
    · rw [if_neg k1]
      by_cases k2 : p.kind = 2
      · rw [if_pos k2]
        exact does_pass h hr h0 (by omega) (by omega) hia k2
      · rw [if_neg k2]
        exact does_none h hr k0 k1 k2

/-- The three ways in which a place lies. -/
theorem place_cases (B T : Int) (L : List En) (j : Nat) (hj : j ≤ L.length + 2) :
    ((j = 0 ∨ j = L.length + 2) ∧ termAt B T L (B - 1 + j) = 0 ∧ hasAt B L (B - 1 + j) = false ∧ isAt B L (B - 1 + j) = false ∧ entAt B L (B - 1 + j) = zeroE) ∨
    (j = 1 ∧ termAt B T L (B - 1 + j) = T ∧ hasAt B L (B - 1 + j) = true ∧ isAt B L (B - 1 + j) = false ∧ entAt B L (B - 1 + j) = zeroE) ∨
    ∃ i x, j = i + 2 ∧ i < L.length ∧ L[i]? = some x ∧ termAt B T L (B - 1 + j) = x.t ∧ hasAt B L (B - 1 + j) = true ∧ isAt B L (B - 1 + j) = true ∧ entAt B L (B - 1 + j) = x := by
  by_cases h1 : j = 1
  · have h2 : isAt B L (B - 1 + j) = false := by unfold isAt; rw [decide_eq_false_iff_not]; omega
    refine .inr (.inl ⟨h1, ?_, ?_, h2, (isAt_none h2).2⟩)
    · unfold termAt; rw [if_pos (by omega)]
    · unfold hasAt; rw [decide_eq_true_eq]; omega
  · by_cases h2 : j = 0 ∨ j = L.length + 2
    · have h3 : isAt B L (B - 1 + j) = false := by unfold isAt; rw [decide_eq_false_iff_not]; omega
      refine .inl ⟨h2, ?_, ?_, h3, (isAt_none h3).2⟩
      · unfold termAt
        rw [if_neg (by omega), (isAt_none h3).2]
        rfl
      · unfold hasAt; rw [decide_eq_false_iff_not]; omega
    · obtain ⟨i, hi⟩ : ∃ i, j = i + 2 := ⟨j - 2, by omega⟩
      have hil : i < L.length := by omega
      obtain ⟨x, hx⟩ : ∃ x, L[i]? = some x := ⟨_, List.getElem?_eq_getElem hil⟩
      obtain ⟨q1, q2⟩ := entAt_of (B := B) (L := L) (k := B - 1 + j) (j := i) (by omega) hx
      refine .inr (.inr ⟨i, x, hi, hil, hx, ?_, ?_, q1, q2⟩)
      · unfold termAt
        rw [if_neg (by omega), q2]
      · unfold hasAt; rw [decide_eq_true_eq]; omega
set_option maxHeartbeats 6400000 in
set_option maxRecDepth 100000 in
theorem Same_any (h : LogAt w b B T L Φ) {Ψ : Nat → Prop} (hr : SRd enC w Ψ A n c L) (h0 : 0 ≤ B) (h1 : B ≤ 4398046511104) (hn : n < 500000) :
    Calls Try.prog 18 #[.pointer (some ⟨b, 0, none⟩), rlV B T A n c] w fun e w' => e = .returned (.bool true) ∧ Below w.heap.size w w' := by
  obtain ⟨W, hW, hbW, hWs, hres⟩ := rbox w B T A n c
  have hlen := hr.len
  have hcaps := hr.caps
  have HBX : Hid (∀ V, Below W.heap.size W V → V.cell? ⟨w.heap.size, 0, none⟩ = some (.int .i64 B) ∧ V.cell? ⟨w.heap.size, 1, none⟩ = some (.int .i64 T) ∧ V.cell? ⟨w.heap.size, 2, none⟩ = some (.slice A n c)) := Lib.hid fun V hb => by
    have x1 := three_cells (hres V hb)
    exact ⟨x1.1, x1.2.1, x1.2.2.1⟩
  have HLV : Hid (∀ V, Below W.heap.size W V → LogAt V b B T L Φ ∧ SRd enC V Ψ A n c L) := Lib.hid fun V hb => ⟨(h.later hbW).later (hb), (hr.below hbW).below hb⟩
  have HBA : Hid (∀ V, Below W.heap.size W V → Calls Try.prog 26 #[.pointer (some ⟨b, 0, none⟩)] V fun e w' => e = .returned (.int .i64 B) ∧ V = w') := Lib.hid fun V hb => Base_any (HLV.out V hb).1
  have HLA : Hid (∀ V, Below W.heap.size W V → Calls Try.prog 16 #[.pointer (some ⟨b, 0, none⟩)] V fun e w' => e = .returned (.int .i64 (B + n)) ∧ w'.cell? ⟨w.heap.size, 0, none⟩ = some (.int .i64 B) ∧ w'.cell? ⟨w.heap.size, 1, none⟩ = some (.int .i64 T) ∧ w'.cell? ⟨w.heap.size, 2, none⟩ = some (.slice A n c) ∧ Below W.heap.size W w') := Lib.hid fun V hb => by
    have := Last_any (HLV.out V hb).1 h0 (by omega) (by omega)
    rw [hlen] at this
    refine this.mono ?_
    rintro e w' ⟨rfl, q, rfl⟩
    have hb2 := hb.trans ((Chg.drewN (Φ := fun _ => False) V q).below hb.size fun _ h => h.elim)
    have hx := HBX.out _ hb2
    exact ⟨rfl, hx.1, hx.2.1, hx.2.2, hb2⟩
  have HRL : Hid (∀ V, Below W.heap.size W V → Calls Try.prog 30 #[.agg #[.int .i64 B, .int .i64 T, .slice A n c]] V fun e w' => e = .returned (.int .i64 (B + n)) ∧ w'.cell? ⟨w.heap.size, 0, none⟩ = some (.int .i64 B) ∧ w'.cell? ⟨w.heap.size, 1, none⟩ = some (.int .i64 T) ∧ w'.cell? ⟨w.heap.size, 2, none⟩ = some (.slice A n c) ∧ Below W.heap.size W w') := Lib.hid fun V hb => (RLast_below (B := B) (T := T) (A := A) (n := n) (c := c) h0 (by omega) (by omega) V).mono (by
    rintro e w' ⟨rfl, hb2⟩
    have hb3 := hb.trans (hb2.mono hb.size)
    have hx := HBX.out _ hb3
    exact ⟨rfl, hx.1, hx.2.1, hx.2.2, hb3⟩)
  have HTE : Hid (∀ V k, Below W.heap.size W V → I64 k → Calls Try.prog 21 #[.pointer (some ⟨b, 0, none⟩), .int .i64 k] V fun e w' => e = .returned (.tuple #[.int .i64 (termAt B T L k), .bool (hasAt B L k)]) ∧ w'.cell? ⟨w.heap.size, 0, none⟩ = some (.int .i64 B) ∧ w'.cell? ⟨w.heap.size, 1, none⟩ = some (.int .i64 T) ∧ w'.cell? ⟨w.heap.size, 2, none⟩ = some (.slice A n c) ∧ Below W.heap.size W w') := Lib.hid fun V k hb hk => (Term_any (HLV.out V hb).1 h0 (by omega) (by omega) hk).mono (by
    rintro e w' ⟨rfl, hb2⟩
    have hb3 := hb.trans (hb2.mono hb.size)
    have hx := HBX.out _ hb3
    exact ⟨rfl, hx.1, hx.2.1, hx.2.2, hb3⟩)
  have HRT : Hid (∀ V k, Below W.heap.size W V → I64 k → Calls Try.prog 33 #[.agg #[.int .i64 B, .int .i64 T, .slice A n c], .int .i64 k] V fun e w' => e = .returned (.tuple #[.int .i64 (termAt B T L k), .bool (hasAt B L k)]) ∧ w'.cell? ⟨w.heap.size, 0, none⟩ = some (.int .i64 B) ∧ w'.cell? ⟨w.heap.size, 1, none⟩ = some (.int .i64 T) ∧ w'.cell? ⟨w.heap.size, 2, none⟩ = some (.slice A n c) ∧ Below W.heap.size W w') := Lib.hid fun V k hb hk => (RTerm_any (HLV.out V hb).2 h0 (by omega) (by omega) hk).mono (by
    rintro e w' ⟨rfl, hb2⟩
    have hb3 := hb.trans (hb2.mono hb.size)
    have hx := HBX.out _ hb3
    exact ⟨rfl, hx.1, hx.2.1, hx.2.2, hb3⟩)
  have HGE : Hid (∀ V k, Below W.heap.size W V → I64 k → Calls Try.prog 27 #[.pointer (some ⟨b, 0, none⟩), .int .i64 k] V fun e w' => e = .returned (.tuple #[.agg #[.int .i64 (entAt B L k).t, .string (entAt B L k).d], .bool (isAt B L k)]) ∧ Below W.heap.size W w') := Lib.hid fun V k hb hk => (Get_any (HLV.out V hb).1 h0 (by omega) (by omega) hk).mono (by
    rintro e w' ⟨rfl, hb2⟩
    exact ⟨rfl, hb.trans (hb2.mono hb.size)⟩)
  have HBE : Hid (∀ V, Below W.heap.size W V → Below w.heap.size w V) := Lib.hid fun V hb => hbW.trans (hb.mono hbW.size)
  have HPC := Lib.hid fun j hj => place_cases B T L j hj
  have HSR : Hid (∀ V, Below W.heap.size W V → ∀ i x, L[i]? = some x → ∃ g o, A = some ⟨g, o, none⟩ ∧ V.cell? ⟨g, o + i * 2, none⟩ = some (.int .i64 x.t) ∧ V.cell? ⟨g, o + i * 2 + 1, none⟩ = some (.string x.d)) := Lib.hid fun V hb i x hx => by
    obtain ⟨g, o, e, _, _, q0, q1⟩ := (HLV.out V hb).2.en hx
    exact ⟨g, o, e, q0, q1⟩
  obtain ⟨b0, b1, b2⟩ := HBX.out W (Below.refl _ _)
  have HB0 : Hid (Below W.heap.size W W.drew) := Lib.hid (Below.refl _ _).drew
  have HW := Lib.hid hW
  have HLEN := Lib.hid hlen
  clear h hr hW hbW hWs hres hlen HLV
  unfold rlV
  have e1 : (B == B) = true := beq_self_eq_true _
  have e2 : (B + (n : Int) == B + n) = true := beq_self_eq_true _
  go_enter Try.func18, Try.ntmps18
  go_upto_region 1 with fail
  rw [← HW.out]
  go_region_held3 (fun w' => w'.cell? ⟨w.heap.size, 0, none⟩ = some (.int .i64 B) ∧ w'.cell? ⟨w.heap.size, 1, none⟩ = some (.int .i64 T) ∧ w'.cell? ⟨w.heap.size, 2, none⟩ = some (.slice A n c) ∧ Below W.heap.size W w')
    (first | exact ⟨by assumption, by assumption, by assumption, by assumption⟩ | exact ⟨b0, b1, b2, HB0.out⟩)
    (first
      | (go_at_call 26; refine (HBA.out _ (by first | assumption | exact HB0.out)).mono ?_; rintro e w1 ⟨rfl, rfl⟩)
      | (go_at_call 16; refine (HLA.out _ (by first | assumption | exact HB0.out)).mono ?_; rintro e w2 ⟨rfl, p0, p1, p2, hb2⟩)
      | (go_at_call 30; refine (HRL.out _ (by first | assumption | exact HB0.out)).mono ?_; rintro e w3 ⟨rfl, q0, q1, q2, hb3⟩))
  go_wp2_with fail
  have HW3 := Lib.hid hb3
  clear b0 b1 b2 q0 q1 q2 hb2 hb3 p0 p1 p2
  go_loopw [5] (fun v wr => ∃ j : Nat, v = .int .i64 (B - 1 + j) ∧ j ≤ n + 3 ∧ Hid (Below W.heap.size W wr)) (fun v _ => (B + n + 3 - intOf v).toNat)
  case atStart => exact ⟨0, by rw [show B - 1 + ((0 : Nat) : Int) = B - 1 by omega], by omega, HW3⟩
  case round =>
    clear HW3
    obtain ⟨j, rfl, hj, HWR⟩ := hrel
    obtain ⟨b0, b1, b2⟩ := HBX.out wr HWR.out
    by_cases hjn : j ≤ n + 2
    · have d0 : decide (B - 1 + (j : Int) ≤ B + n + 1) = true := decide_eq_true (by omega)
      have hk0 : -2 ≤ B - 1 + (j : Int) ∧ B - 1 + (j : Int) ≤ 4398047511104 := by omega
      have HI : Hid (I64 (B - 1 + (j : Int))) := Lib.hid (by unfold I64; omega)
      have hpc := HPC.out j (by rw [HLEN.out]; exact hjn)
      rw [HLEN.out] at hpc
      have HNX : Hid (B - 1 + (j : Int) + 1 = B - 1 + ((j + 1 : Nat) : Int)) := Lib.hid (by omega)
      have HJ3 : Hid (j + 1 ≤ n + 3) := Lib.hid (by omega)
      have HMS : Hid ((B + (n : Int) + 3 - (B - 1 + ((j + 1 : Nat) : Int))).toNat < (B + (n : Int) + 3 - (B - 1 + (j : Int))).toNat) := Lib.hid (by omega)
      rcases hpc with ⟨hjj, t1, t2, t3, t4⟩ | ⟨hjj, t1, t2, t3, t4⟩ | ⟨i, x, hji, hil, hx, t1, t2, t3, t4⟩
      · have HT1 := Lib.hid fun V hb => HTE.out V (B - 1 + (j : Int)) hb HI.out
        have HT2 := Lib.hid fun V hb => HRT.out V (B - 1 + (j : Int)) hb HI.out
        have HG1 := Lib.hid fun V hb => HGE.out V (B - 1 + (j : Int)) hb HI.out
        rw [t1, t2] at HT1 HT2
        rw [t3, t4] at HG1
        clear t1 t2 t3 t4 HPC HTE HRT HGE hjn hj
        unfold zeroE at HG1
        dsimp only at HG1
        clear hjj
        generalize hkk : B - 1 + (j : Int) = k at *
        have HKK := Lib.hid hkk
        clear hkk
        go_upto_region 9 with (first
          | (go_at_call 30; refine (HRL.out _ HWR.out).mono ?_; rintro e w4 ⟨rfl, q0, q1, q2, hb4⟩)
          | (go_at_call 21; refine (HT1.out _ hb4).mono ?_; rintro e w5 ⟨rfl, s0, s1, s2, hb5⟩)
          | (go_at_call 33; refine (HT2.out _ hb5).mono ?_; rintro e w6 ⟨rfl, u0, u1, u2, hb6⟩)
          | (go_at_call 27; refine (HG1.out _ hb6).mono ?_; rintro e w7 ⟨rfl, hb7⟩))
        obtain ⟨V9, hV9⟩ : ∃ V9, V9 = w7.alloc (.cells #[.int .i64 0, .string ⟨#[]⟩] 36) := ⟨_, rfl⟩
        have hb9 : Below W.heap.size W V9 := by rw [hV9]; exact hb7.alloc hb7.size _
        have he9 : V9.heap[w7.heap.size]? = some (.cells #[.int .i64 0, .string ⟨#[]⟩] 36 (0, 0)) := by rw [hV9]; exact heap_alloc_new _ _
        obtain ⟨z0, z1, _, _⟩ := two_cells he9
        obtain ⟨y0, y1, y2⟩ := HBX.out V9 hb9
        have HB9 : Hid (∀ q, Below W.heap.size W (V9.drewN q)) := Lib.hid fun q => hb9.trans ((Chg.drewN (Φ := fun _ => False) V9 q).below hb9.size fun _ h => h.elim)
        rw [← hV9]
        clear hV9 he9 b0 b1 b2 q0 q1 q2 s0 s1 s2 u0 u1 u2
        go_quiet (fail)
        have HBQ := Lib.hid (HB9.out nq)
        clear z0 z1 y0 y1 y2
        generalize V9.drewN nq = V at *
        go_wp2_with fail
        go_roundw
        case rel => exact ⟨j + 1, by rw [← HNX.out], HJ3.out, HBQ⟩
        case measure =>
          have := HMS.out
          rw [← HNX.out] at this
          simpa [intOf] using this
      · have HT1 := Lib.hid fun V hb => HTE.out V (B - 1 + (j : Int)) hb HI.out
        have HT2 := Lib.hid fun V hb => HRT.out V (B - 1 + (j : Int)) hb HI.out
        have HG1 := Lib.hid fun V hb => HGE.out V (B - 1 + (j : Int)) hb HI.out
        rw [t1, t2] at HT1 HT2
        rw [t3, t4] at HG1
        clear t1 t2 t3 t4 HPC HTE HRT HGE hjn hj
        unfold zeroE at HG1
        dsimp only at HG1
        have e3 : (T == T) = true := beq_self_eq_true _
        have hkb : decide (B < B - 1 + (j : Int)) = false := decide_eq_false (by omega)
        clear hjj
        generalize hkk : B - 1 + (j : Int) = k at *
        have HKK := Lib.hid hkk
        clear hkk
        go_upto_region 9 with (first
          | (go_at_call 30; refine (HRL.out _ HWR.out).mono ?_; rintro e w4 ⟨rfl, q0, q1, q2, hb4⟩)
          | (go_at_call 21; refine (HT1.out _ hb4).mono ?_; rintro e w5 ⟨rfl, s0, s1, s2, hb5⟩)
          | (go_at_call 33; refine (HT2.out _ hb5).mono ?_; rintro e w6 ⟨rfl, u0, u1, u2, hb6⟩)
          | (go_at_call 27; refine (HG1.out _ hb6).mono ?_; rintro e w7 ⟨rfl, hb7⟩))
        obtain ⟨V9, hV9⟩ : ∃ V9, V9 = w7.alloc (.cells #[.int .i64 0, .string ⟨#[]⟩] 36) := ⟨_, rfl⟩
        have hb9 : Below W.heap.size W V9 := by rw [hV9]; exact hb7.alloc hb7.size _
        have he9 : V9.heap[w7.heap.size]? = some (.cells #[.int .i64 0, .string ⟨#[]⟩] 36 (0, 0)) := by rw [hV9]; exact heap_alloc_new _ _
        obtain ⟨z0, z1, _, _⟩ := two_cells he9
        obtain ⟨y0, y1, y2⟩ := HBX.out V9 hb9
        have HB9 : Hid (∀ q, Below W.heap.size W (V9.drewN q)) := Lib.hid fun q => hb9.trans ((Chg.drewN (Φ := fun _ => False) V9 q).below hb9.size fun _ h => h.elim)
        rw [← hV9]
        clear hV9 he9 b0 b1 b2 q0 q1 q2 s0 s1 s2 u0 u1 u2
        go_quiet (fail)
        have HBQ := Lib.hid (HB9.out nq)
        clear z0 z1 y0 y1 y2
        generalize V9.drewN nq = V at *
        go_wp2_with fail
        go_roundw
        case rel => exact ⟨j + 1, by rw [← HNX.out], HJ3.out, HBQ⟩
        case measure =>
          have := HMS.out
          rw [← HNX.out] at this
          simpa [intOf] using this
      · have hkb : decide (B < B - 1 + (j : Int)) = true := decide_eq_true (by omega)
        have hw1 : IntKind.i64.wrap (B - 1 + (j : Int) - B) = B - 1 + (j : Int) - B := IntWalk.i64_in _ (by omega)
        have hw2 : IntKind.i64.wrap (B - 1 + (j : Int) - B - 1) = i := by rw [show B - 1 + (j : Int) - B - 1 = i by omega]; exact IntWalk.i64_in _ (by omega)
        have hil' : (i : Int) < n := by omega
        have HX := Lib.hid fun V hb => HSR.out V hb i x hx
        clear hx hji
        have HT1 := Lib.hid fun V hb => HTE.out V (B - 1 + (j : Int)) hb HI.out
        have HT2 := Lib.hid fun V hb => HRT.out V (B - 1 + (j : Int)) hb HI.out
        have HG1 := Lib.hid fun V hb => HGE.out V (B - 1 + (j : Int)) hb HI.out
        rw [t1, t2] at HT1 HT2
        rw [t3, t4] at HG1
        clear t1 t2 t3 t4 HPC HTE HRT HGE hjn hj
        obtain ⟨xt, xd⟩ := x
        dsimp only at *
        have e3 : (xt == xt) = true := beq_self_eq_true _
        have e4 : (xd.toList == xd.toList) = true := beq_self_eq_true _
        generalize hkk : B - 1 + (j : Int) = k at *
        have HKK := Lib.hid hkk
        clear hkk
        go_upto_region 9 with (first
          | (go_at_call 30; refine (HRL.out _ HWR.out).mono ?_; rintro e w4 ⟨rfl, q0, q1, q2, hb4⟩)
          | (go_at_call 21; refine (HT1.out _ hb4).mono ?_; rintro e w5 ⟨rfl, s0, s1, s2, hb5⟩)
          | (go_at_call 33; refine (HT2.out _ hb5).mono ?_; rintro e w6 ⟨rfl, u0, u1, u2, hb6⟩)
          | (go_at_call 27; refine (HG1.out _ hb6).mono ?_; rintro e w7 ⟨rfl, hb7⟩))
        obtain ⟨V9, hV9⟩ : ∃ V9, V9 = w7.alloc (.cells #[.int .i64 xt, .string xd] 36) := ⟨_, rfl⟩
        have hb9 : Below W.heap.size W V9 := by rw [hV9]; exact hb7.alloc hb7.size _
        have he9 : V9.heap[w7.heap.size]? = some (.cells #[.int .i64 xt, .string xd] 36 (0, 0)) := by rw [hV9]; exact heap_alloc_new _ _
        obtain ⟨z0, z1, _, _⟩ := two_cells he9
        obtain ⟨y0, y1, y2⟩ := HBX.out V9 hb9
        have HB9 : Hid (∀ q, Below W.heap.size W (V9.drewN q)) := Lib.hid fun q => hb9.trans ((Chg.drewN (Φ := fun _ => False) V9 q).below hb9.size fun _ h => h.elim)
        rw [← hV9]
        clear hV9 he9 b0 b1 b2 q0 q1 q2 s0 s1 s2 u0 u1 u2
        obtain ⟨g, o, hA, v0, v1⟩ := HX.out V9 hb9
        subst hA
        go_quiet (fail)
        have HBQ := Lib.hid (HB9.out nq)
        clear z0 z1 y0 y1 y2
        generalize V9.drewN nq = V at *
        go_wp2_with fail
        go_roundw
        case rel => exact ⟨j + 1, by rw [← HNX.out], HJ3.out, HBQ⟩
        case measure =>
          have := HMS.out
          rw [← HNX.out] at this
          simpa [intOf] using this
    · have d0 : decide (B - 1 + (j : Int) ≤ B + n + 1) = false := decide_eq_false (by omega)
      have hk0 : -2 ≤ B - 1 + (j : Int) ∧ B - 1 + (j : Int) ≤ 4398047511104 := by omega
      clear HPC HTE HRT HGE
      generalize hkk : B - 1 + (j : Int) = k at *
      have HKK := Lib.hid hkk
      clear hkk
      go_wp2_with (go_at_call 30; refine (HRL.out _ HWR.out).mono ?_; rintro e w4 ⟨rfl, q0, q1, q2, hb4⟩)
      go_ret
      exact ⟨rfl, HBE.out _ hb4⟩
end
end Go.Proofs.Ytmmddkddjiodbaa
