/- What is proved here: what the document's own 'with' answers. -/
import Derived.Test.YtpolkhippblcmaaWithout
import Derived.BigQuiet
namespace Go.Proofs.Ytpolkhippblcmaa
open Go Go.RowKit Go.Maps

theorem less_before : ∀ a b : List UInt8, Op.bytesLess a b = bytesBefore a b
  | [], [] => rfl
  | _ :: _, [] => rfl
  | [], _ :: _ => rfl
  | x :: a, y :: b => by simp only [Op.bytesLess, bytesBefore, less_before a b]
theorem Out.drew {W1 wr : World} {bo : Nat} {room : Int} {v : Value} {L : List RV} (h : Out W1 bo room v L wr) : Out W1 bo room v L wr.drew := ⟨h.below.drew, h.out, h.own.drew⟩
theorem Out.drewN {W1 wr : World} {bo : Nat} {room : Int} {v : Value} {L : List RV} (h : Out W1 bo room v L wr) (q : Nat) : Out W1 bo room v L (wr.drewN q) :=
  ⟨⟨h.below.os, h.below.tape, h.below.output, h.below.size, fun i hi => h.below.block i hi⟩, h.out, (Chg.drewN (Φ := fun _ => False) wr q).own h.own fun _ _ => id⟩
/-- One file more, out of new memory. -/
theorem Out.step1 {W1 wr w2 : World} {bo n : Nat} {room : Int} {v v' : Value} {L : List RV} {o : Obj} (h : Out W1 bo room v L wr) (x : RV) (hn : n = L.length + 1) (ho : w2.ownsRow (bo + 1) 48 3 v' n (flat L ++ x.vals)) (hg : (wr.alloc o).grownBy w2 v.ownBlock) :
    (∃ A c, v' = .slice A n c) ∧ w2.cell? ⟨bo, 1, none⟩ = some v ∧ w2.frozen? ⟨bo, 1, none⟩ = false ∧ Out W1 bo room v' (L ++ [x]) (w2.setCell ⟨bo, 1, none⟩ v') := by
  subst hn
  have hs := lt_of_block h.out
  have h1 : w2.heap[bo]? = some (.cells #[.int .i64 room, v] 29 (0, 0)) := by
    rw [hg.block bo (by simp; omega) (fun e => h.row e.symm)]
    rw [Below.heap_alloc _ _ bo (by simpa using hs)]
    exact h.out
  obtain ⟨_, c1, _, f1⟩ := two_cells h1
  obtain ⟨A, c, e, _⟩ := shape3 ho
  refine ⟨⟨A, c, e⟩, c1, f1, ?_, two_set1 h1 _, ?_⟩
  · refine (((h.below).alloc (Nat.le_of_lt hs) o).grown hg (by simp; omega) fun k hk => ?_).setCell (Nat.le_refl _) _
    have := (h.own.lt k hk).1
    omega
  · rw [List.length_append, flat_snoc]
    refine (Chg.set w2 bo 1 v').own ho fun g hg' e2 => ?_
    have := (ho.lt g hg').1
    omega

/-- How far 'with' is: what is out, what is left of the old ones, whether the new one is out. -/
def Gone (x : RV) (K : List RV) (k : Nat) (D : Bool) (O : List RV) : Prop :=
  O.length = k + (if D then 1 else 0) ∧ (if D then O ++ K.drop k = insN RV.nm x K else O ++ insN RV.nm x (K.drop k) = insN RV.nm x K)
section
variable {x y : RV} {K O : List RV} {k : Nat} {D : Bool}
theorem Gone.begin (x : RV) (K : List RV) : Gone x K 0 false [] := ⟨rfl, by simp⟩
theorem drop_at (hy : K[k]? = some y) : K.drop k = y :: K.drop (k + 1) := by
  obtain ⟨h, rfl⟩ := List.getElem?_eq_some_iff.1 hy
  exact List.drop_eq_getElem_cons h
theorem Gone.after (h : Gone x K k true O) (hy : K[k]? = some y) : Gone x K (k + 1) true (O ++ [y]) := by
  obtain ⟨h1, h2⟩ := h
  refine ⟨by simp at h1 ⊢; omega, ?_⟩
  rw [if_pos rfl, drop_at hy] at h2
  rw [if_pos rfl, ← h2]
  simp
theorem Gone.before (h : Gone x K k false O) (hy : K[k]? = some y) (hb : bytesBefore x.nm y.nm = false) : Gone x K (k + 1) false (O ++ [y]) := by
  obtain ⟨h1, h2⟩ := h
  refine ⟨by simp at h1 ⊢; omega, ?_⟩
  rw [if_neg (by simp), drop_at hy] at h2
  rw [if_neg (by simp), ← h2]
  simp only [insN]
  rw [if_neg (by rw [hb]; simp)]
  simp
theorem Gone.here (h : Gone x K k false O) (hy : K[k]? = some y) (hb : bytesBefore x.nm y.nm = true) : Gone x K (k + 1) true (O ++ [x] ++ [y]) := by
  obtain ⟨h1, h2⟩ := h
  refine ⟨by simp at h1 ⊢; omega, ?_⟩
  rw [if_neg (by simp), drop_at hy] at h2
  rw [if_pos rfl, ← h2]
  simp only [insN]
  rw [if_pos hb]
  simp
theorem Gone.end_ (h : Gone x K K.length true O) : O = insN RV.nm x K := by
  obtain ⟨_, h2⟩ := h
  rw [if_pos rfl, List.drop_length] at h2
  simpa using h2
theorem Gone.end_not (h : Gone x K K.length false O) : O ++ [x] = insN RV.nm x K := by
  obtain ⟨_, h2⟩ := h
  rw [if_neg (by simp), List.drop_length] at h2
  simpa [insN] using h2
end
/-- .. and told: the rows lie elsewhere than the place of the answer. -/
theorem Out.done2 {w W1 wr w' : World} {bo rs : Nat} {room : Int} {v : Value} {L : List RV} {Ψ Ψ1 : Nat → Prop} (h : Out W1 bo room v L wr) (hw : Below w.heap.size w wr) (hok : ∀ x ∈ L, RVOk wr Ψ1 x)
    (h1 : ∀ i, bo + 1 ≤ i → Ψ1 i) (h2 : ¬ Ψ1 rs) (h3 : ∀ i, Ψ1 i → Ψ i ∨ w.heap.size ≤ i) (hc : Chg (fun i => i = rs) wr w') (hrs : w.heap.size ≤ rs) : ∃ A c, v = .slice A L.length c ∧ RRd w' (fun i => Ψ i ∨ w.heap.size ≤ i) A L.length c L ∧ Below w.heap.size w w' := by
  obtain ⟨A, c, e, hr⟩ := RRd.of_own (Ψ := Ψ1) h.own h1 hok
  exact ⟨A, c, e, (hr.keep hc fun k hk e2 => h2 (e2 ▸ hk)).mono fun k _ hk => h3 k hk, hw.trans (hc.below hw.size fun i hi => by omega)⟩
theorem keepN_eq (k : List UInt8) (L : List RV) : keepN k L = delN RV.nm k L := rfl

set_option maxHeartbeats 3200000 in
set_option maxRecDepth 100000 in
theorem with_any {w : World} {Ψ : Nat → Prop} {A : Option Addr} {n c : Nat} {L : List RV} {room : Int} (h : RRd w Ψ A n c L) (hn : n ≤ 1000000) (x : RV) (hx : RVOk w Ψ x) :
    Calls Try.prog 26 #[.agg #[.int .i64 room, .slice A n c], .agg #[.string x.sv, .slice x.A x.b.length x.c, .int .i64 x.s]] w (RefSaid room Ψ w fun L' => L' = putN RV.nm x L) := by
  obtain ⟨i0, hi, hz0, hz1, hz2⟩ := info_parts info_file
  -- the boxes, and the place of the answer
  obtain ⟨V, hV⟩ : ∃ V, V = ((w.alloc (.cells #[.int .i64 room, .slice A n c] 29)).alloc (.cells #[.string x.sv, .slice x.A x.b.length x.c, .int .i64 x.s] 48)).alloc (.cells #[.int .i64 0, .slice none 0 0] 29) := ⟨_, rfl⟩
  have hVs : V.heap.size = w.heap.size + 3 := by rw [hV]; simp
  have hbV : Below w.heap.size w V := by rw [hV]; exact (((Below.refl _ _).alloc (Nat.le_refl _) _).alloc (by simp) _).alloc (by simp; omega) _
  have v0 : V.heap[w.heap.size]? = some (.cells #[.int .i64 room, .slice A n c] 29 (0, 0)) := by
    rw [hV, Below.heap_alloc _ _ _ (by simp; omega), Below.heap_alloc _ _ _ (by simp)]
    exact heap_alloc_new w _
  have v1 : V.heap[w.heap.size + 1]? = some (.cells #[.string x.sv, .slice x.A x.b.length x.c, .int .i64 x.s] 48 (0, 0)) := by
    rw [hV, Below.heap_alloc _ _ _ (by simp)]
    have := heap_alloc_new (w.alloc (.cells #[.int .i64 room, .slice A n c] 29)) (.cells #[.string x.sv, .slice x.A x.b.length x.c, .int .i64 x.s] 48)
    simpa using this
  have v2 : V.heap[w.heap.size + 2]? = some (.cells #[.int .i64 0, .slice none 0 0] 29 (0, 0)) := by
    rw [hV]
    have := heap_alloc_new ((w.alloc (.cells #[.int .i64 room, .slice A n c] 29)).alloc (.cells #[.string x.sv, .slice x.A x.b.length x.c, .int .i64 x.s] 48)) (.cells #[.int .i64 0, .slice none 0 0] 29)
    simpa using this
  have hRV : RRd V (fun i => Ψ i ∧ i < w.heap.size) A n c L := (h.mono (Ψ' := fun i => Ψ i ∧ i < w.heap.size) fun i hi hp => ⟨hp, hi⟩).later hbV
  have hXV : RVOk V (fun i => Ψ i ∧ i < w.heap.size) x := (hx.mono (Ψ' := fun i => Ψ i ∧ i < w.heap.size) fun i hi hp => ⟨hp, hi⟩).later hbV
  have HWO := Lib.hid (without_any (room := room) hRV hn x.sv)
  -- behind the call and the store
  have HAFT : Hid (∀ (e : Ending) (w1 : World), RefSaid room (fun i => Ψ i ∧ i < w.heap.size) V (fun L' => L' = keepN x.nm L) e w1 → ∃ A' n' c', e = .returned (.agg #[.int .i64 room, .slice A' n' c']) ∧ n' ≤ n ∧ n' ≤ c' ∧ c' ≤ 9223372036854775807 ∧
      w1.cell? ⟨w.heap.size, 0, none⟩ = some (.int .i64 room) ∧ w1.cell? ⟨w.heap.size, 1, none⟩ = some (.slice A n c) ∧ w1.frozen? ⟨w.heap.size, 0, none⟩ = false ∧ w1.frozen? ⟨w.heap.size, 1, none⟩ = false ∧
      ∃ W, W = (w1.setCell ⟨w.heap.size, 0, none⟩ (.int .i64 room)).setCell ⟨w.heap.size, 1, none⟩ (.slice A' n' c') ∧ Below w.heap.size w W ∧ w.heap.size + 3 ≤ W.heap.size ∧
        W.heap[w.heap.size]? = some (.cells #[.int .i64 room, .slice A' n' c'] 29 (0, 0)) ∧
        W.heap[w.heap.size + 1]? = some (.cells #[.string x.sv, .slice x.A x.b.length x.c, .int .i64 x.s] 48 (0, 0)) ∧
        W.heap[w.heap.size + 2]? = some (.cells #[.int .i64 0, .slice none 0 0] 29 (0, 0)) ∧
        RRd W (fun i => (Ψ i ∧ i < w.heap.size) ∨ w.heap.size + 3 ≤ i) A' n' c' (keepN x.nm L) ∧ RVOk W (fun i => (Ψ i ∧ i < w.heap.size) ∨ w.heap.size + 3 ≤ i) x) := Lib.hid (by
    rintro e w1 ⟨A', c', L', rfl, hr, rfl, hb⟩
    rw [hVs] at hr
    have u0 : w1.heap[w.heap.size]? = _ := (hb.block w.heap.size (by omega)).trans v0
    have u1 : w1.heap[w.heap.size + 1]? = _ := (hb.block (w.heap.size + 1) (by omega)).trans v1
    have u2 : w1.heap[w.heap.size + 2]? = _ := (hb.block (w.heap.size + 2) (by omega)).trans v2
    obtain ⟨c0, c1, f0, f1⟩ := two_cells u0
    have hch : Chg (fun i => i = w.heap.size) w1 ((w1.setCell ⟨w.heap.size, 0, none⟩ (.int .i64 room)).setCell ⟨w.heap.size, 1, none⟩ (.slice A' (keepN x.nm L).length c')) := (Chg.set _ _ _ _).trans (Chg.set _ _ _ _) fun _ _ e => e
    have hm := hr.max
    unfold maxLen at hm
    have hnot : ∀ i, (Ψ i ∧ i < w.heap.size) ∨ w.heap.size + 3 ≤ i → ¬ i = w.heap.size := fun i hi e => by omega
    refine ⟨A', _, c', rfl, ?_, hr.cap, hm, c0, c1, f0, f1, _, rfl, ?_, ?_, two_set1 (two_set0 u0 _) _, ?_, ?_, hr.keep hch hnot, ?_⟩
    · have := keepN_len x.nm L
      rw [h.len] at this
      exact this
    · exact hbV.trans ((hb.mono (by omega)).trans (hch.below (by have := hb.size; omega) fun i hi => by omega))
    · have := hch.size
      have := hb.size
      omega
    · exact hch.heap u1 (by omega)
    · exact hch.heap u2 (by omega)
    · exact ((hXV.later hb).mono (Ψ' := fun i => (Ψ i ∧ i < w.heap.size) ∨ w.heap.size + 3 ≤ i) fun i _ hi => .inl hi).keep hch hnot)
  have HV := Lib.hid hV
  clear h hx hbV v0 v1 v2 hRV hXV hVs hV
  go_enter Try.func26, Try.ntmps26
  go_wp2_with (rw [← HV.out]; go_at_call 27; refine (HWO.out).mono ?_; intro e w1 hh; obtain ⟨A', n', c', rfl, hn', hnc, hcm, c0, c1, f0, f1, W, hW, hbW, hsz, b0, b1, b2, hR, hX⟩ := HAFT.out e w1 hh; clear hh)
  have HX := Lib.hid hX
  have HR := Lib.hid hR
  have HK := Lib.hid hR.len
  have HBW := Lib.hid hbW
  have HBO : Hid (W.heap.size = w1.heap.size) := Lib.hid (by rw [hW]; simp)
  have HSZ : Hid (w.heap.size + 3 ≤ w1.heap.size) := Lib.hid (by rw [← HBO.out]; exact hsz)
  have HB0 := Lib.hid b0
  have HB1 := Lib.hid b1
  have HB2 := Lib.hid b2
  have HO0 : Hid (Out W w1.heap.size room (.slice none 0 0) [] (W.alloc (.cells #[.int .i64 room, .slice none 0 0] 29))) := Lib.hid (by have := Out.begin W room; rwa [HBO.out] at this)
  have HN := Lib.hid hn'
  rw [← hW]
  clear hX hR hbW hsz b0 b1 b2 c0 c1 f0 f1 hW
  generalize hK : keepN x.nm L = K at *
  have HKK := Lib.hid hK
  clear hK
  generalize w1.heap.size = bo at *
  have HF : Hid (∀ v O w3, Out W bo room v O w3 → O.length ≤ n' + 1 → ∃ A3 m3 c3, v = .slice A3 m3 c3 ∧ O.length = m3 ∧ m3 ≤ n' + 1 ∧ m3 ≤ c3 ∧ c3 ≤ 9223372036854775807 ∧ Hid (w3.ownsRow (bo + 1) 48 3 (.slice A3 m3 c3) m3 (flat O)) ∧ bo < w3.heap.size ∧
      w3.cell? ⟨bo, 0, none⟩ = some (.int .i64 room) ∧ w3.cell? ⟨bo, 1, none⟩ = some (.slice A3 m3 c3) ∧ w3.frozen? ⟨bo, 1, none⟩ = false ∧
      w3.cell? ⟨w.heap.size, 0, none⟩ = some (.int .i64 room) ∧ w3.cell? ⟨w.heap.size, 1, none⟩ = some (.slice A' n' c') ∧
      w3.cell? ⟨w.heap.size + 1, 0, none⟩ = some (.string x.sv) ∧ w3.cell? ⟨w.heap.size + 1, 1, none⟩ = some (.slice x.A x.b.length x.c) ∧ w3.cell? ⟨w.heap.size + 1, 2, none⟩ = some (.int .i64 x.s) ∧
      Hid (RRd w3 (fun i => (Ψ i ∧ i < w.heap.size) ∨ w.heap.size + 3 ≤ i) A' n' c' K)) := Lib.hid (by
    intro v O w3 hO hl
    obtain ⟨Av, cv, rfl, hcv, hmv⟩ := shape3 hO.own
    have hbig := HSZ.out
    obtain ⟨o0, o1, _, g1⟩ := two_cells hO.out
    have hb0 : w3.heap[w.heap.size]? = _ := (hO.below.block w.heap.size (by omega)).trans HB0.out
    have hb1 : w3.heap[w.heap.size + 1]? = _ := (hO.below.block (w.heap.size + 1) (by omega)).trans HB1.out
    obtain ⟨p0, p1, _⟩ := two_cells hb0
    obtain ⟨q0, q1, q2, _⟩ := three_cells hb1
    have hR := HR.out.later (by have := hO.below; rwa [← HBO.out] at this)
    exact ⟨Av, _, cv, rfl, rfl, hl, hcv, hmv, Lib.hid hO.own, lt_of_block hO.out, o0, o1, g1, p0, p1, q0, q1, q2, Lib.hid hR⟩)
  have HFIN : Hid (∀ v O w3, Out W bo room v O w3 → O = insN RV.nm x K → ∃ A3 m3 c3, v = .slice A3 m3 c3 ∧ w3.cell? ⟨bo, 0, none⟩ = some (.int .i64 room) ∧ w3.cell? ⟨bo, 1, none⟩ = some (.slice A3 m3 c3) ∧
      w3.cell? ⟨w.heap.size + 1 + 1, 0, none⟩ = some (.int .i64 0) ∧ w3.cell? ⟨w.heap.size + 1 + 1, 1, none⟩ = some (.slice none 0 0) ∧ w3.frozen? ⟨w.heap.size + 1 + 1, 0, none⟩ = false ∧ w3.frozen? ⟨w.heap.size + 1 + 1, 1, none⟩ = false ∧
      ((w3.setCell ⟨w.heap.size + 1 + 1, 0, none⟩ (.int .i64 room)).setCell ⟨w.heap.size + 1 + 1, 1, none⟩ (.slice A3 m3 c3)).cell? ⟨w.heap.size + 1 + 1, 0, none⟩ = some (.int .i64 room) ∧
      ((w3.setCell ⟨w.heap.size + 1 + 1, 0, none⟩ (.int .i64 room)).setCell ⟨w.heap.size + 1 + 1, 1, none⟩ (.slice A3 m3 c3)).cell? ⟨w.heap.size + 1 + 1, 1, none⟩ = some (.slice A3 m3 c3) ∧
      Hid (RefSaid room Ψ w (fun L' => L' = putN RV.nm x L) (.returned (.agg #[.int .i64 room, .slice A3 m3 c3])) ((w3.setCell ⟨w.heap.size + 1 + 1, 0, none⟩ (.int .i64 room)).setCell ⟨w.heap.size + 1 + 1, 1, none⟩ (.slice A3 m3 c3)))) := Lib.hid (by
    intro v O w3 hO hOe
    obtain ⟨Av, cv, rfl, hcv, hmv⟩ := shape3 hO.own
    have hbig := HSZ.out
    obtain ⟨o0, o1, _, g1⟩ := two_cells hO.out
    have hb2 : w3.heap[w.heap.size + 1 + 1]? = _ := (hO.below.block (w.heap.size + 2) (by omega)).trans HB2.out
    obtain ⟨r0, r1, r2, r3⟩ := two_cells hb2
    obtain ⟨f0, f1⟩ := two_set hb2 (.int .i64 room) (.slice Av O.length cv)
    refine ⟨Av, _, cv, rfl, o0, o1, r0, r1, r2, r3, f0, f1, Lib.hid ?_⟩
    have hlat : Below W.heap.size W w3 := by rw [HBO.out]; exact hO.below
    obtain ⟨A', c', e', hr', hb'⟩ := hO.done2 (w := w) (rs := w.heap.size + 2) (Ψ := Ψ) (Ψ1 := fun i => (Ψ i ∧ i < w.heap.size) ∨ w.heap.size + 3 ≤ i) (HBW.out.trans (hO.below.mono (by omega))) (fun z hz => by
        rw [hOe] at hz
        rcases mem_insN.1 hz with rfl | hz
        · exact HX.out.later hlat
        · exact (HR.out.ok z hz).later hlat) (fun i hi => .inr (by omega)) (by omega) (fun i hi => by rcases hi with hi | hi; exact .inl hi.1; exact .inr (by omega))
      ((Chg.set _ _ _ _).trans (Chg.set _ _ _ _) fun _ _ e => e) (by omega)
    cases e'
    exact ⟨Av, cv, _, rfl, hr', by rw [hOe, ← HKK.out]; rfl, hb'⟩)
  have HNE : Hid (∀ (k : Nat) (y : RV), K[k]? = some y → y.nm ≠ x.nm) := Lib.hid (by
    intro k y hy
    have hm := List.mem_of_getElem? hy
    rw [← HKK.out, keepN_eq] at hm
    exact (mem_delN.1 hm).2)
  go_loopw [6, 7] (fun dn i wr => ∃ (k : Nat) (D : Bool) (v : Value) (O : List RV), dn = .bool D ∧ i = .int .i64 k ∧ k ≤ n' ∧ Hid (Out W bo room v O wr ∧ Gone x K k D O)) (fun _ i _ => n' - (intOf i).toNat)
  case atStart => exact ⟨0, false, _, [], rfl, rfl, Nat.zero_le _, Lib.hid ⟨HO0.out, Gone.begin _ _⟩⟩
  case round =>
    obtain ⟨k, D, v, O, rfl, rfl, hk, HOG⟩ := hrel
    have HO := Lib.hid HOG.out.1
    have HG := Lib.hid HOG.out.2
    have HML : Hid (O.length ≤ k + 1) := Lib.hid (by have := HG.out.1; split at this <;> omega)
    obtain ⟨Av, m, cv, rfl, hm, hml, hcv, hmv, HOWN, hbB, o0, o1, g1, p0, p1, q0, q1, q2, HR3⟩ := HF.out _ _ _ HO.out (by have := HML.out; omega)
    have HM := Lib.hid hm
    clear hm
    have hbig := HSZ.out
    by_cases hkn : k < n'
    · obtain ⟨y, b, o, hy, hym, rfl, hbY, hcell, hok⟩ := HR3.out.at hkn
      have e0 : wr.cell? ⟨b, o + k * 3, none⟩ = some (.string y.sv) := hcell 0 _ rfl
      have hkn' : (k : Int) < n' := by omega
      have HYV : Hid (y.vals = [.string y.sv, .slice y.A y.b.length y.c, .int .i64 y.s]) := Lib.hid rfl
      have HXV : Hid (x.vals = [.string x.sv, .slice x.A x.b.length x.c, .int .i64 x.s]) := Lib.hid rfl
      have HY := Lib.hid hy
      have hne : (y.sv.toList == x.sv.toList) = false := by rw [ByteArray.toList_eq, ByteArray.toList_eq]; exact beq_eq_false_iff_ne.2 (HNE.out k y hy)
      have HMS : Hid (m ≤ 1000001) := Lib.hid (by have := HN.out; omega)
      clear hcell hok hy hym
      cases D
      · by_cases hd : Op.bytesLess y.sv.toList x.sv.toList = true
        · have HG3 : Hid (Gone x K (k + 1) false (O ++ [y])) := Lib.hid (HG.out.before HY.out (by
            rw [less_before, ByteArray.toList_eq, ByteArray.toList_eq] at hd
            cases hb : bytesBefore x.nm y.nm
            · rfl
            · have := WideShapes.bytes_trans _ _ _ hb hd
              rw [WideAt.bytes_irrefl] at this
              cases this))
          go_upto_region 7 with fail
          go_quiet (fail)
          clear hd
          go_upto_region 10 with fail
          have HO3 : Hid (Out W bo room (.slice Av m cv) O (wr.drewN nq)) := Lib.hid (HO.out.drewN nq)
          generalize wr.drewN nq = w3 at *
          obtain ⟨O3, hO3⟩ : ∃ O3, O3 = O := ⟨_, rfl⟩
          rw [← hO3] at HO3 HG3
          have HL3 : Hid (O3.length ≤ k + 1) := Lib.hid (by rw [hO3]; exact HML.out)
          clear hO3 HO
          have HML3 : Hid (O3.length ≤ n' + 1) := Lib.hid (by have := HL3.out; omega)
          clear e0 o0 o1 g1 p0 p1 q0 q1 q2 HOWN HR3 hbB hbY hml hcv hmv
          obtain ⟨A3, m3, c3, e3, hm3, hml3, hcv3, hmv3, HOWN3, hbB3, o0, o1, g1, p0, p1, q0, q1, q2, HR3⟩ := HF.out _ _ _ HO3.out HML3.out
          cases e3
          have HM3 := Lib.hid hm3
          clear hm3
          obtain ⟨b', o', e', hbY, _, hcell⟩ := HR3.out.place k y HY.out
          cases e'
          have e0 : w3.cell? ⟨b, o + k * 3, none⟩ = some (.string y.sv) := hcell 0 _ rfl
          have e1 : w3.cell? ⟨b, o + k * 3 + 1, none⟩ = some (.slice y.A y.b.length y.c) := hcell 1 _ rfl
          have e2 : w3.cell? ⟨b, o + k * 3 + 2, none⟩ = some (.int .i64 y.s) := hcell 2 _ rfl
          clear hcell
          have HMS3 : Hid (m ≤ 1000001) := Lib.hid (by have := HN.out; omega)
          go_region_law (refine step_append_src (o := ⟨some 49, _, _, _, _, _⟩) rfl (.tmp 42) (.tmp 48) 27 rfl (bo + 1) 48 i0 _ 3 48 Try.underlying27 hi hz0 hz1 hz2 rfl (by omega) _ m _ rfl ((HOWN3.out.drew).alloc _) (some ⟨w3.heap.size, 0, none⟩) 1 1 y.vals rfl rfl (fun e => by cases e) (news3 w3.drew _ _ _ _) (one_cells y) (by have := HMS3.out; unfold maxLen; omega) (by have := HMS3.out; omega) (by simp; omega) ?_; intro v2 w2 ho2 hg2; obtain ⟨⟨A2, c2, rfl⟩, hc2, hf2, hO2⟩ := HO3.out.drew.step1 y (by rw [HM3.out]) ho2 hg2; have HO2 := Lib.hid hO2; clear ho2 hg2 hO2)
          all_goals
            go_wp2_with fail
            go_roundw
            case rel => exact ⟨k + 1, false, _, _, rfl, by go_num, by omega, Lib.hid ⟨HO2.out, HG3.out⟩⟩
            case measure => simp [intOf]; omega
        · have hd' : Op.bytesLess y.sv.toList x.sv.toList = false := by simpa using hd
          clear hd
          have HB : Hid (bytesBefore x.nm y.nm = true) := Lib.hid (by
            rw [less_before, ByteArray.toList_eq, ByteArray.toList_eq] at hd'
            rcases WideAt.bytes_total x.nm y.nm (fun e => HNE.out k y HY.out e.symm) with h1 | h1
            · exact h1
            · exact absurd h1 (by rw [show bytesBefore y.nm x.nm = false from hd']; simp))
          have HG3 : Hid (Gone x K (k + 1) true (O ++ [x] ++ [y])) := Lib.hid (HG.out.here HY.out HB.out)
          have HL0 : Hid ((O ++ [x]).length ≤ k + 1) := Lib.hid (by have := HG.out.1; simp at this; simp; omega)
          go_upto_region 7 with fail
          go_quiet (fail)
          clear hd' hne
          have HON : Hid (Out W bo room (.slice Av m cv) O (wr.drewN nq)) := Lib.hid (HO.out.drewN nq)
          have HOWNN : Hid ((wr.drewN nq).ownsRow (bo + 1) 48 3 (.slice Av m cv) m (flat O)) := Lib.hid (by have := HON.out.own; rwa [HM.out] at this)
          go_upto_region 10 with (at_builtin
                                  refine wpList_append_src (o := ⟨some 39, _, _, _, _, _⟩) rfl (.tmp 36) (.tmp 38) 27 rfl (bo + 1) 48 i0 _ 3 48 Try.underlying27 hi hz0 hz1 hz2 rfl (by omega) _ m _ rfl (HOWNN.out.alloc _) (some ⟨wr.heap.size, 0, none⟩) 1 1 x.vals rfl rfl (fun e => by cases e) (news3 (wr.drewN nq) _ _ _ _) (one_cells x) (by have := HMS.out; unfold maxLen; omega) (by have := HMS.out; omega) (by simp; omega) ?_
                                  intro v4 w4 ho4 hg4
                                  obtain ⟨⟨A4, c4, rfl⟩, hc4, hf4, hO4⟩ := HON.out.step1 x (by rw [HM.out]) ho4 hg4
                                  have HO4 := Lib.hid hO4
                                  clear ho4 hg4 hO4)
          generalize hw3 : w4.setCell ⟨bo, 1, none⟩ (.slice A4 (m + 1) c4) = w3 at *
          have HO3 := HO4
          obtain ⟨O3, hO3⟩ : ∃ O3, O3 = O ++ [x] := ⟨_, rfl⟩
          rw [← hO3] at HO3 HG3 HL0
          have HL3 := HL0
          clear hO3 HO HO4 hc4 hf4 hw3 HOWNN HON HL0
          have HML3 : Hid (O3.length ≤ n' + 1) := Lib.hid (by have := HL3.out; omega)
          clear e0 o0 o1 g1 p0 p1 q0 q1 q2 HOWN HR3 hbB hbY hml hcv hmv
          obtain ⟨A3, m3, c3, e3, hm3, hml3, hcv3, hmv3, HOWN3, hbB3, o0, o1, g1, p0, p1, q0, q1, q2, HR3⟩ := HF.out _ _ _ HO3.out HML3.out
          cases e3
          have HM3 := Lib.hid hm3
          clear hm3
          obtain ⟨b', o', e', hbY, _, hcell⟩ := HR3.out.place k y HY.out
          cases e'
          have e0 : w3.cell? ⟨b, o + k * 3, none⟩ = some (.string y.sv) := hcell 0 _ rfl
          have e1 : w3.cell? ⟨b, o + k * 3 + 1, none⟩ = some (.slice y.A y.b.length y.c) := hcell 1 _ rfl
          have e2 : w3.cell? ⟨b, o + k * 3 + 2, none⟩ = some (.int .i64 y.s) := hcell 2 _ rfl
          clear hcell
          have HMS3 : Hid (m + 1 ≤ 1000001) := Lib.hid (by have := HN.out; omega)
          go_region_law (refine step_append_src (o := ⟨some 49, _, _, _, _, _⟩) rfl (.tmp 42) (.tmp 48) 27 rfl (bo + 1) 48 i0 _ 3 48 Try.underlying27 hi hz0 hz1 hz2 rfl (by omega) _ (m + 1) _ rfl ((HOWN3.out.drew).alloc _) (some ⟨w3.heap.size, 0, none⟩) 1 1 y.vals rfl rfl (fun e => by cases e) (news3 w3.drew _ _ _ _) (one_cells y) (by have := HMS3.out; unfold maxLen; omega) (by have := HMS3.out; omega) (by simp; omega) ?_; intro v2 w2 ho2 hg2; obtain ⟨⟨A2, c2, rfl⟩, hc2, hf2, hO2⟩ := HO3.out.drew.step1 y (by rw [HM3.out]) ho2 hg2; have HO2 := Lib.hid hO2; clear ho2 hg2 hO2)
          all_goals
            go_wp2_with fail
            go_roundw
            case rel => exact ⟨k + 1, true, _, _, rfl, by go_num, by omega, Lib.hid ⟨HO2.out, HG3.out⟩⟩
            case measure => simp [intOf]; omega
      · have HG3 : Hid (Gone x K (k + 1) true (O ++ [y])) := Lib.hid (HG.out.after HY.out)
        go_upto_region 7 with fail
        go_quiet (fail)
        go_upto_region 10 with fail
        have HO3 : Hid (Out W bo room (.slice Av m cv) O (wr.drewN nq)) := Lib.hid (HO.out.drewN nq)
        generalize wr.drewN nq = w3 at *
        obtain ⟨O3, hO3⟩ : ∃ O3, O3 = O := ⟨_, rfl⟩
        rw [← hO3] at HO3 HG3
        have HL3 : Hid (O3.length ≤ k + 1) := Lib.hid (by rw [hO3]; exact HML.out)
        clear hO3 HO
        have HML3 : Hid (O3.length ≤ n' + 1) := Lib.hid (by have := HL3.out; omega)
        clear e0 o0 o1 g1 p0 p1 q0 q1 q2 HOWN HR3 hbB hbY hml hcv hmv
        obtain ⟨A3, m3, c3, e3, hm3, hml3, hcv3, hmv3, HOWN3, hbB3, o0, o1, g1, p0, p1, q0, q1, q2, HR3⟩ := HF.out _ _ _ HO3.out HML3.out
        cases e3
        have HM3 := Lib.hid hm3
        clear hm3
        obtain ⟨b', o', e', hbY, _, hcell⟩ := HR3.out.place k y HY.out
        cases e'
        have e0 : w3.cell? ⟨b, o + k * 3, none⟩ = some (.string y.sv) := hcell 0 _ rfl
        have e1 : w3.cell? ⟨b, o + k * 3 + 1, none⟩ = some (.slice y.A y.b.length y.c) := hcell 1 _ rfl
        have e2 : w3.cell? ⟨b, o + k * 3 + 2, none⟩ = some (.int .i64 y.s) := hcell 2 _ rfl
        clear hcell
        have HMS3 : Hid (m ≤ 1000001) := Lib.hid (by have := HN.out; omega)
        go_region_law (refine step_append_src (o := ⟨some 49, _, _, _, _, _⟩) rfl (.tmp 42) (.tmp 48) 27 rfl (bo + 1) 48 i0 _ 3 48 Try.underlying27 hi hz0 hz1 hz2 rfl (by omega) _ m _ rfl ((HOWN3.out.drew).alloc _) (some ⟨w3.heap.size, 0, none⟩) 1 1 y.vals rfl rfl (fun e => by cases e) (news3 w3.drew _ _ _ _) (one_cells y) (by have := HMS3.out; unfold maxLen; omega) (by have := HMS3.out; omega) (by simp; omega) ?_; intro v2 w2 ho2 hg2; obtain ⟨⟨A2, c2, rfl⟩, hc2, hf2, hO2⟩ := HO3.out.drew.step1 y (by rw [HM3.out]) ho2 hg2; have HO2 := Lib.hid hO2; clear ho2 hg2 hO2)
        all_goals
          go_wp2_with fail
          go_roundw
          case rel => exact ⟨k + 1, true, _, _, rfl, by go_num, by omega, Lib.hid ⟨HO2.out, HG3.out⟩⟩
          case measure => simp [intOf]; omega
    · obtain rfl : k = n' := by omega
      have HKL := HK.out
      cases D
      · have HON := HO
        have HOWNN : Hid (wr.ownsRow (bo + 1) 48 3 (.slice Av m cv) m (flat O)) := HOWN
        have HXV : Hid (x.vals = [.string x.sv, .slice x.A x.b.length x.c, .int .i64 x.s]) := Lib.hid rfl
        have HE : Hid (O ++ [x] = insN RV.nm x K) := Lib.hid (by have := HG.out; rw [← HKL] at this; exact this.end_not)
        have HMS : Hid (m ≤ 1000001) := Lib.hid (by have := HN.out; omega)
        clear HKL
        go_wp2_with (at_builtin
                     refine wpList_append_src (o := ⟨some 57, _, _, _, _, _⟩) rfl (.tmp 54) (.tmp 56) 27 rfl (bo + 1) 48 i0 _ 3 48 Try.underlying27 hi hz0 hz1 hz2 rfl (by omega) _ m _ rfl (HOWNN.out.alloc _) (some ⟨wr.heap.size, 0, none⟩) 1 1 x.vals rfl rfl (fun e => by cases e) (news3 wr _ _ _ _) (one_cells x) (by have := HMS.out; unfold maxLen; omega) (by have := HMS.out; omega) (by simp; omega) ?_
                     intro v4 w4 ho4 hg4
                     obtain ⟨⟨A4, c4, rfl⟩, hc4, hf4, hO4⟩ := HON.out.step1 x (by rw [HM.out]) ho4 hg4
                     obtain ⟨A3, m3, c3, e3, t0, t1, r0, r1, r2, r3, f0, f1, HFI⟩ := HFIN.out _ _ _ hO4 HE.out
                     cases e3
                     clear ho4 hg4 hO4)
        exact bodyPost_ret (v := .agg #[.int .i64 room, .slice A4 (m + 1) c4]) (by simp [results, Try.results26, go_sem, f0, f1]) rfl HFI.out
      · have HE : Hid (O = insN RV.nm x K) := Lib.hid (by have := HG.out; rw [← HKL] at this; exact this.end_)
        obtain ⟨A3, m3, c3, e3, t0, t1, r0, r1, r2, r3, f0, f1, HFI⟩ := HFIN.out _ _ _ HO.out HE.out
        cases e3
        clear HKL
        go_wp2_with fail
        exact bodyPost_ret (v := .agg #[.int .i64 room, .slice Av m cv]) (by simp [results, Try.results26, go_sem, f0, f1]) rfl HFI.out
end Go.Proofs.Ytpolkhippblcmaa
