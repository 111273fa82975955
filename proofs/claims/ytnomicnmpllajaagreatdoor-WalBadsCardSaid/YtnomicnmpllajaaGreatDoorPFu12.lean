/- What is proved here: a row's beginning is a row; Cut's list of segments without its last one. -/
/- What is proved here: one segment more in a log in memory. -/
/- What is proved here: slices.Delete of a log's segments. -/
/- What is proved here: what a log's removeUpTo does. -/
import Derived.Test.YtnomicnmpllajaaGreatDoorPFu11
import Derived.Deep.RegionLaw
import Derived.Lib.SliceRun
section
namespace Go.Proofs.YtnomicnmpllajaaGreatDoor
open Go Go.RowKit

theorem own_take2 {w : World} {base e size n k : Nat} {A : Option Addr} {c : Nat} {xs : List Value} (h : w.ownsRow base e size (.slice A n c) n xs) (hk : k ≤ n) : w.ownsRow base e size (.slice A k c) k (xs.take (k * size)) := by
  have hm : k * size ≤ n * size := Nat.mul_le_mul_right _ hk
  refine ⟨by rw [List.length_take, h.1]; omega, ?_⟩
  rcases h.2 with ⟨h1, h2⟩ | ⟨g, cap, cur, h1, h2, h3, h4, h5, h6, h7⟩
  · obtain rfl : k = 0 := by omega
    cases h1
    exact .inl ⟨rfl, rfl⟩
  · cases h1
    refine .inr ⟨g, c, cur, rfl, h2, h3, Nat.le_trans hk h4, h5, h6, ?_⟩
    rw [← h7, List.take_take, Nat.min_eq_left hm]
theorem segC_take (l : List (Nat × Nat)) (k : Nat) : segC (l.take k) = (segC l).take (k * 2) := by
  induction l generalizing k with
  | nil => simp [segC]
  | cons s l ih =>
    cases k with
    | zero => simp [segC]
    | succ k =>
      have := ih k
      simp only [segC, List.take_succ_cons, List.flatMap_cons] at this ⊢
      rw [this, show (k + 1) * 2 = k * 2 + 2 by omega]
      simp
section
variable {w0 w : World} {Kp : Nat → Prop} {lb d : Nat} {R : Int} {S : List RF} {M : LogM} {V : LogV}
/-- The segments' list without what is behind the k-th. -/
theorem WPair.takeSegs (h : WPair w0 Kp lb d R S M V w) (hKp : ∀ k, Kp k → k < w.heap.size) {k : Nat} (hk : k ≤ M.segs.length) :
    WPair w0 Kp lb d R S { M with segs := M.segs.take k } V (w.setCell ⟨lb, 2, none⟩ (.slice V.sA k V.sC)) ∧ Kept Kp w (w.setCell ⟨lb, 2, none⟩ (.slice V.sA k V.sC)) := by
  obtain ⟨Φ, Λ, hlog, _⟩ := h.ex
  have hlen : (M.segs.take k).length = k := by rw [List.length_take]; omega
  have ho := own_take2 hlog.segs hk
  rw [← segC_take] at ho
  have := h.putSegs (w99 := w) (Ψ := fun _ => False) (l := M.segs.take k) (A' := V.sA) (c' := V.sC) hKp (by rw [hlen]; exact ho) (Chg.of_below (Below.refl _ _)) (fun _ e => e.elim) fun a e => ⟨a, e, rfl⟩
  rw [hlen] at this
  exact this
end
end Go.Proofs.YtnomicnmpllajaaGreatDoor
end

section
namespace Go.Proofs.YtnomicnmpllajaaGreatDoor
open Go Go.RowKit

theorem info_seg : (Tryz.prog.info? 99).map (fun i => (i.zero, i.size, i.bytes)) = some (some (.agg #[.int .i64 0, .int .i64 0]), 2, 16) := by kernel_rfl
theorem news2 (w : World) (u v : Value) (t : TypeId) : ∀ ad, some (⟨w.heap.size, 0, none⟩ : Addr) = some ad → ∀ j z, [u, v][j]? = some z → (w.alloc (.cells #[u, v] t)).cell? (ad.add j) = some z := by
  intro ad had j z hj
  obtain rfl := Option.some.inj had
  rw [Addr.add_lit, Nat.zero_add, cell_of_row _ _ _ _ _ _ (heap_alloc_new w _)]
  simpa using hj
section
variable {w0 w8 w9 w99 : World} {Kp : Nat → Prop} {lb d : Nat} {R : Int} {S : List RF} {M : LogM} {V : LogV}
theorem WPair.addSeg (h : WPair w0 Kp lb d R S M V w8) (hKp : ∀ k, Kp k → k < w8.heap.size) (hb9 : Below w8.heap.size w8 w9) (s : Nat × Nat)
    {v99 : Value} {o : Obj} (ho : w99.ownsRow 0 99 2 v99 (M.segs.length + 1) (segC M.segs ++ [.int .i64 s.1, .int .i64 s.2])) (hg : (w9.alloc o).grownBy w99 (Value.slice V.sA M.segs.length V.sC).ownBlock) (hw : v99.ownBlock = (Value.slice V.sA M.segs.length V.sC).ownBlock ∨ v99.ownBlock = some (w9.alloc o).heap.size) :
    ∃ A' c', v99 = .slice A' (M.segs.length + 1) c' ∧ lb < w99.heap.size ∧ w99.cell? ⟨lb, 2, none⟩ = some (.slice V.sA M.segs.length V.sC) ∧ w99.frozen? ⟨lb, 2, none⟩ = false ∧ (∀ i, Kp i → w99.heap[i]? = w8.heap[i]?) ∧
      Hid (WPair w0 Kp lb d R S { M with segs := M.segs ++ [s] } { V with sA := A', sC := c' } (w99.setCell ⟨lb, 2, none⟩ (.slice A' (M.segs.length + 1) c')) ∧ Kept Kp w8 (w99.setCell ⟨lb, 2, none⟩ (.slice A' (M.segs.length + 1) c'))) := by
  obtain ⟨A', c', rfl⟩ := own_shape ho
  obtain ⟨Φ, Λ, hlog, hd, ha, hK⟩ := h.ex
  have hlog9 := hlog.later hb9
  obtain ⟨p1, p2, p3, p4⟩ := hlog9.apart
  have hs9 := hb9.size
  have hs99 := hg.size
  have hsa : (w9.alloc o).heap.size = w9.heap.size + 1 := by simp
  have hc : Chg (fun i => ∃ a, V.sA = some a ∧ a.block = i) w9 w99 := (Chg.alloc (Φ := fun i => ∃ a, V.sA = some a ∧ a.block = i) w9 o).trans ((Chg.of_grown hg).mono fun i _ hi => own_block hi) fun _ _ e => e
  have hblk : w99.heap[lb]? = _ := (hc.block lb hlog9.lt fun ⟨a, e, hb⟩ => p1 a e hb).trans hlog9.blk
  have hcell : w99.cell? ⟨lb, 2, none⟩ = some (.slice V.sA M.segs.length V.sC) := by rw [cell_of_row _ _ _ _ _ _ hblk]; rfl
  have hfr : w99.frozen? ⟨lb, 2, none⟩ = false := by simp [World.frozen?, hblk]
  have hrB : ∀ a, V.sA = some a → Λ a.block ∧ a.block < w8.heap.size := fun a e => by
    obtain ⟨cur, h1⟩ := own_typ hlog.segs e
    exact ⟨hlog.inn.2.1 a e, lt_of_block h1⟩
  obtain ⟨Λ', hΛ'⟩ : ∃ Λ' : Nat → Prop, Λ' = fun i => Λ i ∨ (w8.heap.size ≤ i ∧ i < w99.heap.size) := ⟨_, rfl⟩
  have hΛ : ∀ i, i < w9.heap.size → Λ i → Λ' i := fun i _ h1 => by rw [hΛ']; exact .inl h1
  have hA' : ∀ a, A' = some a → Λ' a.block := fun a e => by
    subst e
    obtain ⟨cur, h1⟩ := own_typ ho rfl
    have hlt := lt_of_block h1
    have hob : (Value.slice (some a) (M.segs.length + 1) c').ownBlock = some a.block := rfl
    rw [hob] at hw
    rw [hΛ']
    rcases hw with hw | hw
    · obtain ⟨a2, e2, hb2⟩ := own_block hw.symm
      have := (hrB a2 e2).1
      rw [hb2] at this
      exact .inl this
    · have := Option.some.inj hw
      exact .inr ⟨by omega, hlt⟩
  have hlen : (M.segs ++ [s]).length = M.segs.length + 1 := by simp
  have hoN : w99.ownsRow 0 99 2 (.slice A' (M.segs ++ [s]).length c') (M.segs ++ [s]).length (segC (M.segs ++ [s])) := by
    rw [segC_snoc, hlen]
    exact ho
  have hlogN := hlog9.setSegs (w1 := w99) (l := M.segs ++ [s]) hoN hc hA' hΛ
  rw [hlen] at hlogN
  have hc2 : Chg (fun i => i = lb) w99 (w99.setCell ⟨lb, 2, none⟩ (.slice A' (M.segs.length + 1) c')) := Chg.set _ _ _ _
  have hcs := hc2.size
  have hlbΛ := hlog.inn.1
  have hb0 := h.below.size
  have hkeep : ∀ i, Kp i → w99.heap[i]? = w8.heap[i]? := fun i hi => by
    have hi8 := hKp i hi
    rw [hc.block i (by omega) fun ⟨a, e, hb⟩ => (hK _ (.inr (hrB a e).1)).2.1 (by rw [hb]; exact hi)]
    exact hb9.block i hi8
  refine ⟨A', c', rfl, lt_of_block hblk, hcell, hfr, hkeep, Lib.hid ⟨⟨?_, Φ, Λ', hlogN, ?_, fun i h1 h2 => ?_, fun i hi => ?_⟩, fun i hi => ?_, by omega⟩⟩
  · exact h.below.trans ((hb9.mono hb0).trans ((hc.below (by omega) fun i ⟨a, e, hb⟩ => by rw [← hb]; exact (hK _ (.inr (hrB a e).1)).1).trans (hc2.below (by omega) fun i hi => by rw [hi]; exact (hK _ (.inr hlbΛ)).1)))
  · refine ((hd.later hb9).keep hc fun i h1 ⟨a, e, hb⟩ => ?_).keep hc2 fun i h1 e => ?_
    · rw [← hb] at h1
      exact ha _ h1 (hrB a e).1
    · have e' : i = lb := e
      rw [e'] at h1
      exact ha _ h1 hlbΛ
  · rw [hΛ'] at h2
    rcases h2 with h2 | h2
    · exact ha i h1 h2
    · have := (hK i (.inl h1)).2.2
      omega
  · rcases hi with hi | hi
    · exact ⟨(hK i (.inl hi)).1, (hK i (.inl hi)).2.1, by have := (hK i (.inl hi)).2.2; omega⟩
    · rw [hΛ'] at hi
      rcases hi with hi | hi
      · exact ⟨(hK i (.inr hi)).1, (hK i (.inr hi)).2.1, by have := (hK i (.inr hi)).2.2; omega⟩
      · exact ⟨by omega, fun h9 => by have := hKp i h9; omega, by omega⟩
  · have hi8 := hKp i hi
    rw [Below.heap_setCell _ _ _ _ fun e => (hK _ (.inr hlbΛ)).2.1 (by have e' : i = lb := e; rw [← e']; exact hi)]
    rw [hc.block i (by omega) fun ⟨a, e, hb⟩ => (hK _ (.inr (hrB a e).1)).2.1 (by rw [hb]; exact hi)]
    exact hb9.block i hi8
end
end Go.Proofs.YtnomicnmpllajaaGreatDoor
end

section
namespace Go.Proofs.YtnomicnmpllajaaGreatDoor
open Go Go.RowKit Go.Lib

theorem heap_setCells {b : Nat} {t : TypeId} {fr : Nat × Nat} : ∀ (vs : List Value) (o : Nat) (w : World) (cs : Array Value), w.heap[b]? = some (.cells cs t fr) → o + vs.length ≤ cs.size →
    ∃ cs' : Array Value, (w.setCells b o vs).heap[b]? = some (.cells cs' t fr) ∧ cs'.size = cs.size ∧ ∀ k, k < cs.size → cs'[k]? = if o ≤ k ∧ k < o + vs.length then vs[k - o]? else cs[k]?
  | [], _, _, cs, h, _ => ⟨cs, h, rfl, fun k _ => by rw [if_neg (by simp)]⟩
  | v :: r, o, w, cs, h, hl => by
    simp at hl
    obtain ⟨cs', h1, h2, h3⟩ := heap_setCells r (o + 1) (w.setCell ⟨b, o, none⟩ v) _ (heap_setCell_same h o v) (by rw [Array.size_setIfInBounds]; omega)
    rw [Array.size_setIfInBounds] at h2 h3
    refine ⟨cs', h1, h2, fun k hk => ?_⟩
    rw [h3 k hk]
    by_cases e1 : k = o
    · subst e1
      rw [if_neg (by omega), if_pos (by simp), Array.getElem?_setIfInBounds_self_of_lt hk]
      simp
    · rw [Array.getElem?_setIfInBounds_ne (by omega)]
      by_cases e2 : o + 1 ≤ k ∧ k < o + 1 + r.length
      · rw [if_pos e2, if_pos (by simp; omega), show k - o = (k - (o + 1)) + 1 by omega]
        simp
      · rw [if_neg e2, if_neg (by simp; omega)]
theorem chg_setCells {b : Nat} : ∀ (vs : List Value) (o : Nat) (w : World), Chg (fun i => i = b) w (w.setCells b o vs)
  | [], _, _ => Chg.of_below (Below.refl _ _)
  | _ :: r, o, w => (Chg.set w _ _ _).trans (chg_setCells r (o + 1) _) fun _ _ h => h
theorem segC_drop (l : List (Nat × Nat)) (k : Nat) : segC (l.drop k) = (segC l).drop (k * 2) := by
  induction l generalizing k with
  | nil => simp [segC]
  | cons s l ih =>
    cases k with
    | zero => simp
    | succ k =>
      have := ih k
      simp only [segC, List.drop_succ_cons, List.flatMap_cons] at this ⊢
      rw [this, show (k + 1) * 2 = k * 2 + 2 by omega]
      simp
theorem segC_append (l m : List (Nat × Nat)) : segC (l ++ m) = segC l ++ segC m := by simp [segC]
theorem segC_one (l : List (Nat × Nat)) : ∀ u ∈ segC l, u.oneCell' = true := fun u hu => by
  unfold segC at hu
  obtain ⟨y, _, hy⟩ := List.mem_flatMap.1 hu
  simp at hy
  rcases hy with rfl | rfl <;> rfl
theorem zero_seg (w : World) : (zeroValue 99).run Tryz.prog w = .ok (.agg #[.int .i64 0, .int .i64 0]) w := by kernel_rfl
theorem run_clear_seg (w : World) (ty : TypeId) (b o n c : Nat) (hn : 0 < n)
    (hc : ∀ j, j < n * 2 → (w.cell? ⟨b, o + j, none⟩).isSome = true) (hf : ∀ j, j < n * 2 → w.frozen? ⟨b, o + j, none⟩ = false) :
    (Builtin.clear_ #[80] ty #[.slice (some ⟨b, o, none⟩) n c]).run Tryz.prog w = .ok (.tuple #[]) (w.setCells b o (List.replicate (n * 2) (.int .i64 0))) := by
  have hzc : (Builtin.zeroCells (Value.cells (.agg #[.int .i64 0, .int .i64 0])) n).toList = List.replicate (n * 2) (.int .i64 0) := by
    have e : Value.cells (.agg #[.int .i64 0, .int .i64 0]) = #[.int .i64 0, .int .i64 0] := by kernel_rfl
    rw [e]
    simp only [Builtin.zeroCells]
    apply List.ext_getElem
    · simp
    · intro i h1 h2
      have h3 : i % 2 = 0 ∨ i % 2 = 1 := by omega
      rcases h3 with h3 | h3 <;> simp [h3]
  have hst := run_storeCells_cells (P := Tryz.prog) b o (List.replicate (n * 2) (.int .i64 0)) 0 w (by simpa using hc) (by simpa using hf) (by intro v hv'; rw [List.eq_of_mem_replicate hv']; rfl)
  simp only [Nat.add_zero] at hst
  obtain ⟨m, rfl⟩ : ∃ m, n = m + 1 := ⟨n - 1, by omega⟩
  simp [Builtin.clear_, run_underlying Tryz.underlying80, hzc, hst]

/-- A row without what is between i and j, behind the two writings that Delete does. -/
theorem own_gap {w : World} {g n c i j : Nat} {l : List (Nat × Nat)} (h : w.ownsRow 0 99 2 (.slice (some ⟨g, 0, none⟩) n c) n (segC l)) (hij : i ≤ j) (hj : j ≤ n) :
    ((w.setCells g (i * 2) ((segC l).drop (j * 2))).setCells g ((i + (n - j)) * 2) (List.replicate ((j - i) * 2) (.int .i64 0))).ownsRow 0 99 2 (.slice (some ⟨g, 0, none⟩) (i + (n - j)) c) (i + (n - j)) (segC (l.take i ++ l.drop j)) := by
  obtain ⟨hl, h⟩ := h
  rcases h with ⟨h1, _⟩ | ⟨g', cap, cur, h1, _, h3, h4, h5, h6, h7⟩
  · cases h1
  · cases h1
    have hln : l.length = n := by have := segC_len l; omega
    have hd : ((segC l).drop (j * 2)).length = (n - j) * 2 := by rw [List.length_drop, hl]; omega
    obtain ⟨c1, e1, s1, f1⟩ := heap_setCells ((segC l).drop (j * 2)) (i * 2) w cur h3 (by rw [hd, h6]; omega)
    obtain ⟨c2, e2, s2, f2⟩ := heap_setCells (List.replicate ((j - i) * 2) (.int .i64 0)) ((i + (n - j)) * 2) _ c1 e1 (by rw [List.length_replicate, s1, h6]; omega)
    have hlen : (segC (l.take i ++ l.drop j)).length = (i + (n - j)) * 2 := by rw [segC_len, List.length_append, List.length_take, List.length_drop]; omega
    refine ⟨hlen, .inr ⟨g, c, c2, rfl, Nat.zero_le _, e2, by omega, h5, by rw [s2, s1, h6], ?_⟩⟩
    rw [segC_append, segC_take, segC_drop]
    apply List.ext_getElem?
    intro k
    by_cases hk : k < (i + (n - j)) * 2
    · rw [List.getElem?_take, if_pos hk, Array.getElem?_toList, f2 k (by omega), if_neg (by omega), f1 k (by omega), hd]
      by_cases hki : k < i * 2
      · rw [if_neg (by omega), List.getElem?_append_left (by rw [List.length_take, hl]; omega), List.getElem?_take, if_pos hki, ← h7, List.getElem?_take, if_pos (by omega), Array.getElem?_toList]
      · rw [if_pos (by omega), List.getElem?_append_right (by rw [List.length_take]; omega), List.length_take, hl, Nat.min_eq_left (by omega)]
    · rw [List.getElem?_eq_none (by rw [List.length_take, Array.length_toList]; omega), List.getElem?_eq_none (by rw [List.length_append, List.length_take, hd, hl]; omega)]

set_option maxHeartbeats 3200000 in
set_option maxRecDepth 100000 in
theorem DeleteSegs_any {w : World} {A : Option Addr} {n c j : Nat} {l : List (Nat × Nat)} (h : w.ownsRow 0 99 2 (.slice A n c) n (segC l)) (hj : j ≤ n) :
    Calls Tryz.prog 90 #[.slice A n c, .int .i64 0, .int .i64 j] w fun e w' => e = .returned (.slice A (n - j) c) ∧ Hid (w'.ownsRow 0 99 2 (.slice A (n - j) c) (n - j) (segC (l.drop j)) ∧ Chg (fun i => ∃ a, A = some a ∧ a.block = i) w w') := by
  rcases Nat.eq_zero_or_pos j with rfl | hj0
  · have hh : Hid (w.ownsRow 0 99 2 (.slice A (n - 0) c) (n - 0) (segC (l.drop 0))) := Lib.hid (by simpa using h)
    have hcm : n ≤ c ∧ c ≤ 9223372036854775807 := by
      rcases h.2 with ⟨e, h2⟩ | ⟨g, cap, cur, e, _, _, h4, h5, _⟩
      · have e2 : c = 0 := (Value.slice.inj e).2.2
        omega
      · have e2 : c = cap := (Value.slice.inj e).2.2
        unfold maxLen at h5
        omega
    clear h
    go_enter Tryz.func90, Tryz.ntmps90
    go_wp2_with fail
    go_ret
    exact ⟨rfl, Lib.hid ⟨hh.out, Chg.of_below (Below.refl _ _)⟩⟩
  · have hown := h
    obtain ⟨hl, h⟩ := h
    rcases h with ⟨_, h2⟩ | ⟨g, cap, cur, h1, _, h3, h4, h5, h6, h7⟩
    · omega
    cases h1
    unfold maxLen at h5
    obtain ⟨news, hnews⟩ : ∃ news, news = (segC l).drop (j * 2) := ⟨_, rfl⟩
    have hlen : news.length = (n - j) * 2 := by rw [hnews, List.length_drop, hl]; omega
    have hcell : ∀ (w1 : World) (k : Nat) (u : Value), w1.heap = w.heap → (segC l)[k]? = some u → w1.cell? ⟨g, k, none⟩ = some u := fun w1 k u e hu => by
      have := hown.cells (g := g) rfl k u hu
      rw [Addr.add_lit, Nat.zero_add] at this
      have e2 : w1.cell? ⟨g, k, none⟩ = w.cell? ⟨g, k, none⟩ := by simp [World.cell?, e]
      rw [e2]
      exact this
    obtain ⟨B, hB, hsrc⟩ : ∃ B : Addr, (if c = j then some (⟨g, 0, none⟩ : Addr) else some ⟨g, j * 2, none⟩) = some B ∧ Hid (∀ t u, news[t]? = some u → w.drew.cell? (B.add t) = some u) := by
      by_cases e : c = j
      · refine ⟨⟨g, 0, none⟩, by simp [e], Lib.hid fun t u hu => ?_⟩
        have h0 : news.length = 0 := by rw [hlen]; omega
        rw [List.length_eq_zero_iff.1 h0] at hu
        simp at hu
      · refine ⟨⟨g, j * 2, none⟩, by simp [e], Lib.hid fun t u hu => ?_⟩
        rw [hnews, List.getElem?_drop] at hu
        rw [Addr.add_lit]
        exact hcell _ _ _ rfl hu
    have s1 : Hid (news.length = (n - j) * 2) := Lib.hid hlen
    have s2 : Hid (∀ u ∈ news, u.oneCell' = true) := Lib.hid fun u hu => by
      rw [hnews] at hu
      exact segC_one l u (List.mem_of_mem_drop hu)
    have hfz : ∀ (w1 : World) (k : Nat), w1.heap = w.heap → w1.frozen? ⟨g, k, none⟩ = false := fun w1 k e => by simp [World.frozen?, e, h3]
    have s3 : Hid (∀ t, t < news.length → (w.drew.cell? ⟨g, 0 + 0 * 2 + t, none⟩).isSome = true ∧ w.drew.frozen? ⟨g, 0 + 0 * 2 + t, none⟩ = false) := Lib.hid fun t ht => by
      rw [show 0 + 0 * 2 + t = t by omega]
      refine ⟨?_, hfz _ _ rfl⟩
      rw [hcell w.drew t ((segC l)[t]'(by rw [hl]; omega)) rfl (by simp)]
      rfl
    obtain ⟨W1, hW1⟩ : ∃ W1, W1 = w.drew.setCells g (0 + 0 * 2) news := ⟨_, rfl⟩
    have hW : Hid (W1 = w.drew.setCells g (0 + 0 * 2) news) := Lib.hid hW1
    have hW1s : ∀ k, k < n * 2 → (W1.cell? ⟨g, k, none⟩).isSome = true ∧ W1.frozen? ⟨g, k, none⟩ = false := fun k hk => by
      obtain ⟨c1, e1, e2, e3⟩ := heap_setCells news (0 + 0 * 2) w.drew cur h3 (by rw [hlen, h6]; omega)
      rw [← hW1] at e1
      refine ⟨?_, by simp [World.frozen?, e1]⟩
      rw [cell_of_row _ _ _ _ _ _ e1]
      have : k < c1.size := by rw [e2, h6]; omega
      simp [this]
    have hcl : ∀ ty, (Builtin.clear_ #[80] ty #[.slice (some ⟨g, (n - j) * 2, none⟩) (n - (n - j)) (c - (n - j))]).run Tryz.prog W1 = .ok (.tuple #[]) (W1.setCells g ((n - j) * 2) (List.replicate ((n - (n - j)) * 2) (.int .i64 0))) := fun ty =>
      run_clear_seg W1 ty g _ _ _ (by omega) (fun t ht => (hW1s _ (by omega)).1) (fun t ht => (hW1s _ (by omega)).2)
    have HFIN : Hid ((W1.setCells g ((n - j) * 2) (List.replicate ((n - (n - j)) * 2) (.int .i64 0))).ownsRow 0 99 2 (.slice (some ⟨g, 0, none⟩) (n - j) c) (n - j) (segC (l.drop j)) ∧ Chg (fun i => ∃ a, some (⟨g, 0, none⟩ : Addr) = some a ∧ a.block = i) w (W1.setCells g ((n - j) * 2) (List.replicate ((n - (n - j)) * 2) (.int .i64 0)))) := Lib.hid (by
      have h8 := own_gap (w := w.drew) (i := 0) (j := j) hown (Nat.zero_le _) hj
      rw [hW1, hnews]
      simp only [Nat.zero_add, Nat.sub_zero, Nat.zero_mul, List.take_zero, List.nil_append] at h8 ⊢
      rw [show n - (n - j) = j by omega]
      refine ⟨h8, ?_⟩
      have c1 : Chg (fun i => i = g) w w.drew := Chg.of_below (Below.refl _ _).drew
      have c2 := chg_setCells (b := g) ((segC l).drop (j * 2)) 0 w.drew
      have c3 := chg_setCells (b := g) (List.replicate (j * 2) (.int .i64 0)) ((n - j) * 2) (w.drew.setCells g 0 ((segC l).drop (j * 2)))
      exact ((c1.trans c2 fun _ _ h => h).trans c3 fun _ _ h => h).mono fun i _ hi => ⟨_, rfl, hi.symm⟩)
    obtain ⟨i0, hi, hz0, hz1, hz2⟩ := info_parts info_seg
    have hjc : j ≤ c := by omega
    clear hown hl h3 h6 h7 hnews hlen hcell hfz hW1 hW1s
    go_enter Tryz.func90, Tryz.ntmps90
    go_wp2_with fail
    go_region_law (refine step_append_room rfl (.tmp 22) (.tmp 25) 80 rfl 99 i0 2 Tryz.underlying80 hi hz1 g 0 0 c (by simp [Act.eval, Act.put]) B (n - j) (c - j) news (by simp [Act.eval, Act.put]) s1.out hsrc.out s2.out (by omega) s3.out ?_; rw [← hW.out])
    go_wp2
    go_ret
    first | exact ⟨rfl, HFIN⟩ | exact ⟨by simp, HFIN⟩
end Go.Proofs.YtnomicnmpllajaaGreatDoor
end

section
namespace Go.Proofs.YtnomicnmpllajaaGreatDoor
open Go Go.RowKit

/-- How many segments ahead of the last one have nothing behind a number. -/
def goneN : List (Nat × Nat) → Nat → Nat
  | _ :: s :: r, a => if s.1 ≤ a + 1 then goneN (s :: r) a + 1 else 0
  | _, _ => 0
def removes (S : List RF) (l : List (Nat × Nat)) : List RF := l.foldl (fun S s => (removeF S (segName s.1)).1) S
theorem removes_snoc (S : List RF) (l : List (Nat × Nat)) (s : Nat × Nat) : removes S (l ++ [s]) = (removeF (removes S l) (segName s.1)).1 := by simp [removes]
theorem goneN_eq : ∀ (l : List (Nat × Nat)) (a k : Nat), (∀ j, j < k → ∃ s, l[j + 1]? = some s ∧ s.1 ≤ a + 1) → (∀ s, l[k + 1]? = some s → ¬ s.1 ≤ a + 1) → goneN l a = k
  | [], _, k, h1, _ => by
    cases k with
    | zero => rfl
    | succ k =>
      obtain ⟨s, h, _⟩ := h1 0 (by omega)
      simp at h
  | [x], _, k, h1, _ => by
    cases k with
    | zero => rfl
    | succ k =>
      obtain ⟨s, h, _⟩ := h1 0 (by omega)
      simp at h
  | x :: y :: r, a, k, h1, h2 => by
    cases k with
    | zero =>
      have := h2 y (by simp)
      simp [goneN, this]
    | succ k =>
      obtain ⟨s, h, hs⟩ := h1 0 (by omega)
      simp at h
      subst h
      have ih := goneN_eq (y :: r) a k (fun j hj => by
        obtain ⟨s, h, hs⟩ := h1 (j + 1) (by omega)
        exact ⟨s, by simpa using h, hs⟩) (fun s h => h2 s (by simpa using h))
      simp [goneN, hs, ih]
theorem goneN_le : ∀ (l : List (Nat × Nat)) (a : Nat), goneN l a ≤ l.length
  | [], _ => by simp [goneN]
  | [x], _ => by simp [goneN]
  | x :: y :: r, a => by
    have := goneN_le (y :: r) a
    unfold goneN
    split
    · simp at this ⊢
      omega
    · omega

section
variable {w0 w wr w' : World} {Kp : Nat → Prop} {lb d : Nat} {R : Int} {S : List RF} {M : LogM} {V : LogV}
set_option maxHeartbeats 3200000 in
set_option maxRecDepth 100000 in
theorem removeUpTo_any (h : WPair w0 Kp lb d R S M V w) (hKp : ∀ k, Kp k → k < w.heap.size) (ht : Tab w0) (hk : LogOk M) {a : Nat} (ha : a < 200000000) :
    Calls Tryz.prog 58 #[.pointer (some ⟨lb, 0, none⟩), .int .i64 a] w fun e w' => e = .returned (.tuple #[]) ∧ ∃ V', WPair w0 Kp lb d R (removes S (M.segs.take (goneN M.segs a))) { M with segs := M.segs.drop (goneN M.segs a) } V' w' ∧ Kept Kp w w' := by
  have hcA : Hid (WPair w0 Kp lb d R (removes S (M.segs.take 0)) M V w ∧ Kept Kp w w) := Lib.hid ⟨h, fun _ _ => rfl, Nat.le_refl _⟩
  have HC := Lib.hid fun W M V S Kp (hW : WPair w0 Kp lb d R S M V W) => hW.cells
  have hsn := hk.segn
  have HSG := Lib.hid hk.segs
  clear h
  go_enter Tryz.func58, Tryz.ntmps58
  go_wp2_with fail
  go_loopw [4] (fun i wr => ∃ k : Nat, i = .int .i64 k ∧ k ≤ M.segs.length ∧ Hid (∀ j, j < k → ∃ s, M.segs[j + 1]? = some s ∧ s.1 ≤ a + 1) ∧ Hid (WPair w0 Kp lb d R (removes S (M.segs.take k)) M V wr ∧ Kept Kp w wr)) (fun i _ => M.segs.length - (intOf i).toNat)
  case atStart => exact ⟨0, rfl, Nat.zero_le _, Lib.hid (fun j hj => absurd hj (Nat.not_lt_zero _)), hcA⟩
  case round =>
    clear hcA
    obtain ⟨k, rfl, hkn, HJ, HW⟩ := hrel
    obtain ⟨hlb, c0, _, c2, _, _, _, _, cf⟩ := HC.out _ _ _ _ _ HW.out.1
    have HKP : Hid (∀ W, Kept Kp w W → ∀ i, Kp i → i < W.heap.size) := Lib.hid fun W hW i hi => Nat.lt_of_lt_of_le (hKp i hi) hW.2
    have HDL : Hid ((∀ s, M.segs[k + 1]? = some s → ¬ s.1 ≤ a + 1) → ∀ W, WPair w0 Kp lb d R (removes S (M.segs.take k)) M V W → Kept Kp w W → Calls Tryz.prog 90 #[.slice V.sA M.segs.length V.sC, .int .i64 0, .int .i64 k] W fun e w' => e = .returned (.slice V.sA (M.segs.length - k) V.sC) ∧ w'.cell? ⟨lb, 2, none⟩ = some (.slice V.sA M.segs.length V.sC) ∧ w'.frozen? ⟨lb, 2, none⟩ = false ∧
        Hid (∃ V', WPair w0 Kp lb d R (removes S (M.segs.take (goneN M.segs a))) { M with segs := M.segs.drop (goneN M.segs a) } V' (w'.setCell ⟨lb, 2, none⟩ (.slice V.sA (M.segs.length - k) V.sC)) ∧ Kept Kp w (w'.setCell ⟨lb, 2, none⟩ (.slice V.sA (M.segs.length - k) V.sC)))) := Lib.hid fun hno W hW hKW => by
      have hgn := goneN_eq M.segs a k HJ.out hno
      obtain ⟨Φ, Λ, hlog, hd, hap, hK⟩ := hW.ex
      refine (DeleteSegs_any hlog.segs hkn).mono ?_
      rintro e w' ⟨rfl, hDD⟩
      obtain ⟨ho, hc⟩ := hDD.out
      have hne : ¬ ∃ x, V.sA = some x ∧ x.block = lb := fun ⟨x, e, hb⟩ => hlog.apart.1 x e hb
      have hblk := hc.heap hlog.blk hne
      have hlen : (M.segs.drop k).length = M.segs.length - k := List.length_drop
      have hp := hW.putSegs (w99 := w') (l := M.segs.drop k) (A' := V.sA) (c' := V.sC) (HKP.out W hKW) (by rw [hlen]; exact ho) hc (fun _ hi => hi) (fun x e => ⟨x, e, rfl⟩)
      rw [hlen] at hp
      refine ⟨rfl, ?_, by simp [World.frozen?, hblk], Lib.hid ⟨V, ?_, hKW.trans hp.2⟩⟩
      · rw [cell_of_row _ _ _ _ _ _ hblk]
        rfl
      · rw [hgn]
        exact hp.1
    by_cases hk1 : k + 1 < M.segs.length
    · obtain ⟨s, hs⟩ : ∃ s, M.segs[k + 1]? = some s := ⟨_, List.getElem?_eq_getElem hk1⟩
      obtain ⟨s', hs'⟩ : ∃ s', M.segs[k]? = some s' := ⟨_, List.getElem?_eq_getElem (by omega)⟩
      obtain ⟨g, hg⟩ := HW.out.1.row hs
      rw [hg] at c2
      obtain ⟨_, x0, x1, _⟩ := HW.out.1.seg hs hg
      obtain ⟨_, y0, y1, _⟩ := HW.out.1.seg hs' hg
      have hk1' : (k : Int) + 1 < M.segs.length := by omega
      have hk0' : (k : Int) < M.segs.length := by omega
      by_cases hle : s.1 ≤ a + 1
      · have d1 : decide ((k : Int) + 1 < M.segs.length) = true := decide_eq_true hk1'
        have d2 : decide ((s.1 : Int) ≤ (a : Int) + 1) = true := decide_eq_true (by omega)
        have HJ2 : Hid (∀ j, j < k + 1 → ∃ s, M.segs[j + 1]? = some s ∧ s.1 ≤ a + 1) := Lib.hid fun j hj => by
          by_cases e : j = k
          · subst e
            exact ⟨s, hs, hle⟩
          · exact HJ.out j (by omega)
        have HNM : Hid (Calls Tryz.prog 54 #[.agg #[.int .i64 s'.1, .int .i64 s'.2]] wr.drew fun e w2 => e = .returned (.string (nameS s'.1)) ∧ w2.cell? ⟨lb, 0, none⟩ = some (.pointer (some ⟨d, 0, none⟩)) ∧ w2.cell? ⟨lb, 2, none⟩ = some (.slice (some ⟨g, 0, none⟩) M.segs.length V.sC) ∧ w2.cell? ⟨g, k * 2, none⟩ = some (.int .i64 s'.1) ∧ w2.cell? ⟨g, k * 2 + 1, none⟩ = some (.int .i64 s'.2) ∧
            Hid (Calls Tryz.prog 59 #[.pointer (some ⟨d, 0, none⟩), .string (nameS s'.1)] w2 fun e w3 => ∃ r : Int, e = .returned (.int .i64 r) ∧ w3.cell? ⟨lb, 0, none⟩ = some (.pointer (some ⟨d, 0, none⟩)) ∧ w3.cell? ⟨lb, 2, none⟩ = some (.slice (some ⟨g, 0, none⟩) M.segs.length V.sC) ∧ w3.cell? ⟨g, k * 2, none⟩ = some (.int .i64 s'.1) ∧ w3.cell? ⟨g, k * 2 + 1, none⟩ = some (.int .i64 s'.2) ∧ Hid (WPair w0 Kp lb d R (removes S (M.segs.take (k + 1))) M V w3 ∧ Kept Kp w w3))) := Lib.hid (by
          have hf : ∀ W S', WPair w0 Kp lb d R S' M V W → W.cell? ⟨lb, 0, none⟩ = some (.pointer (some ⟨d, 0, none⟩)) ∧ W.cell? ⟨lb, 2, none⟩ = some (.slice (some ⟨g, 0, none⟩) M.segs.length V.sC) ∧ W.cell? ⟨g, k * 2, none⟩ = some (.int .i64 s'.1) ∧ W.cell? ⟨g, k * 2 + 1, none⟩ = some (.int .i64 s'.2) := fun W S' h => by
            obtain ⟨_, q0, _, q2, _⟩ := h.cells
            obtain ⟨_, q3, q4, _⟩ := h.seg hs' hg
            rw [hg] at q2
            exact ⟨q0, q2, q3, q4⟩
          have h1 := HW.out.1.later (Below.refl wr.heap.size wr).drew
          have hs1 := (hk.segs s' (List.mem_of_getElem? hs')).1
          refine (h1.name_ ht s'.1 s'.2 hs1).mono ?_
          rintro e w2 ⟨rfl, h2, hb2⟩
          obtain ⟨q0, q2, q3, q4⟩ := hf _ _ h2
          have hk2 : Kept Kp w w2 := HW.out.2.trans (Kept.of_below ((Below.refl wr.heap.size wr).drew.trans hb2) (HKP.out wr HW.out.2))
          refine ⟨rfl, q0, q2, q3, q4, Lib.hid ?_⟩
          refine (h2.dremove (HKP.out w2 hk2) (nameS s'.1) (by rw [nameS_size]; unfold maxLen; omega)).mono ?_
          rintro e w3 ⟨rfl, h3, hk3⟩
          obtain ⟨q0, q2, q3, q4⟩ := hf _ _ h3
          refine ⟨_, rfl, q0, q2, q3, q4, Lib.hid ⟨?_, hk2.trans hk3⟩⟩
          have e : M.segs.take (k + 1) = M.segs.take k ++ [s'] := by
            rw [List.take_add_one, hs']
            rfl
          rw [e, removes_snoc]
          rw [nameS_list] at h3
          exact h3)
        go_upto_region 2 with fail
        go_region_held3 (fun w' => w'.cell? ⟨lb, 0, none⟩ = some (.pointer (some ⟨d, 0, none⟩)) ∧ w'.cell? ⟨lb, 2, none⟩ = some (.slice (some ⟨g, 0, none⟩) M.segs.length V.sC) ∧ w'.cell? ⟨g, k * 2, none⟩ = some (.int .i64 s'.1) ∧ w'.cell? ⟨g, k * 2 + 1, none⟩ = some (.int .i64 s'.2))
          (first | exact ⟨by assumption, by assumption, by assumption, by assumption⟩ | exact ⟨c0, c2, y0, y1⟩)
          (first
            | (go_at_call 54; refine (HNM.out).mono ?_; rintro e w2 ⟨rfl, p0, p1, p2, p3, HRM⟩)
            | (go_at_call 59; refine (HRM.out).mono ?_; rintro e w3 ⟨r, rfl, r0, r1, r2, r3, HW3⟩))
        all_goals
          go_wp2_with fail
          go_roundw
          case rel => exact ⟨k + 1, by go_num, by omega, HJ2, HW3⟩
          case measure => simp [intOf]; omega
      · have d1 : decide ((k : Int) + 1 < M.segs.length) = true := decide_eq_true hk1'
        have d2 : decide ((s.1 : Int) ≤ (a : Int) + 1) = false := decide_eq_false (by omega)
        have HD2 := Lib.hid (HDL.out (fun s2 h2 => by rw [hs] at h2; cases h2; exact hle) wr HW.out.1 HW.out.2)
        rw [hg] at HD2
        go_wp2_with (go_at_call 90; refine (HD2.out).mono ?_; rintro e w5 ⟨rfl, z2, zf, HF⟩)
        go_end0
        exact ⟨rfl, HF.out⟩
    · have hk1' : ¬ (k : Int) + 1 < M.segs.length := by omega
      have d1 : decide ((k : Int) + 1 < M.segs.length) = false := decide_eq_false hk1'
      have HD2 := Lib.hid (HDL.out (fun s2 h2 => by have := (List.getElem?_eq_some_iff.1 h2).1; omega) wr HW.out.1 HW.out.2)
      go_wp2_with (go_at_call 90; refine (HD2.out).mono ?_; rintro e w5 ⟨rfl, z2, zf, HF⟩)
      go_end0
      exact ⟨rfl, HF.out⟩
end
end Go.Proofs.YtnomicnmpllajaaGreatDoor
end
