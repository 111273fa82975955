/- What is proved here: what a log's Term and Newer answer; slices.Clone of entries; a log's Copy and From. -/
import Derived.Test.YtmmddkddjiodbaaEGet
namespace Go.Proofs.Ytmmddkddjiodbaa
open Go Go.RowKit Go.Maps Go.WideMaps

theorem info_en : (Try.prog.info? 36).map (fun i => (i.zero, i.size, i.bytes)) = some (some (.agg #[.int .i64 0, .string ⟨#[]⟩]), 2, 24) := by kernel_rfl
theorem info_ren : (Try.prog.info? 47).map (fun i => (i.zero, i.size, i.bytes)) = some (some (.agg #[.int .i64 0, .string ⟨#[]⟩]), 2, 24) := by kernel_rfl
theorem info_partsR {t : TypeId} {v : Value} {s b : Nat} (h : (Try.prog.info? t).map (fun i => (i.zero, i.size, i.bytes)) = some (some v, s, b)) : ∃ i, Try.prog.info? t = some i ∧ i.zero = some v ∧ i.size = s ∧ i.bytes = b := by
  obtain ⟨i, hi, e⟩ := Option.map_eq_some_iff.1 h
  simp only [Prod.mk.injEq] at e
  exact ⟨i, hi, e.1, e.2.1, e.2.2⟩
section
variable {w : World} {b : Nat} {B T : Int} {L : List En} {Φ : Nat → Prop}
theorem term_is (B T : Int) (L : List En) (k : Int) : (k = B ∧ termAt B T L k = T ∧ hasAt B L k = true) ∨ (¬ k = B ∧ termAt B T L k = (entAt B L k).t ∧ hasAt B L k = isAt B L k) := by
  by_cases h : k = B
  · refine .inl ⟨h, by unfold termAt; rw [if_pos h], ?_⟩
    unfold hasAt
    rw [decide_eq_true_eq]
    omega
  · refine .inr ⟨h, by unfold termAt; rw [if_neg h], ?_⟩
    unfold hasAt isAt
    rw [decide_eq_decide]
    omega
set_option maxHeartbeats 1600000 in
set_option maxRecDepth 100000 in
theorem Term_any (h : LogAt w b B T L Φ) (h0 : 0 ≤ B) (h1 : B ≤ 4611686018427387904) (hL : L.length < 1000000) {k : Int} (hk : I64 k) :
    Calls Try.prog 21 #[.pointer (some ⟨b, 0, none⟩), .int .i64 k] w fun e w' => e = .returned (.tuple #[.int .i64 (termAt B T L k), .bool (hasAt B L k)]) ∧ Below w.heap.size w w' := by
  have HG := Lib.hid (Get_any h h0 h1 hL hk)
  obtain ⟨A, n, c, h⟩ := h
  obtain ⟨c0, c1, c2⟩ := h.cells
  clear h
  rcases term_is B T L k with ⟨e1, e2, e3⟩ | ⟨e1, e2, e3⟩
  · rw [e2, e3]
    subst e1
    clear e2 e3
    go_enter Try.func21, Try.ntmps21
    go_wp2
    go_ret2
    exact ⟨rfl, Below.refl _ _⟩
  · rw [e2, e3]
    have d1 : (k == B) = false := beq_eq_false_iff_ne.2 e1
    clear e2 e3
    unfold enV at HG
    generalize isAt B L k = q at *
    generalize entAt B L k = x at *
    obtain ⟨xt, xd⟩ := x
    dsimp only at *
    go_enter Try.func21, Try.ntmps21
    go_wp2_with (go_at_call 27; refine HG.out.mono ?_; rintro e w1 ⟨rfl, hb⟩; have HB := Lib.hid hb; clear hb)
    go_ret2
    exact ⟨rfl, HB.out.alloc HB.out.size _⟩
def newerF (B T : Int) (L : List En) (last term : Int) : Bool := decide (termAt B T L (B + L.length) < term ∨ (term = termAt B T L (B + L.length) ∧ B + L.length ≤ last))
theorem termI {B T : Int} {L : List En} (hT : I64 T) (hL : ∀ x ∈ L, I64 x.t) (k : Int) : I64 (termAt B T L k) := by
  unfold termAt
  split
  · exact hT
  · cases h : isAt B L k with
    | false => rw [(isAt_none h).2]; exact ⟨by decide, by decide⟩
    | true =>
      obtain ⟨j, _, hx, _⟩ := isAt_some h
      exact hL _ (List.mem_of_getElem? hx)
/-- What Clone returns: the same entries, in new memory. -/
def CloneSaid (L : List En) (w : World) (e : Ending) (w' : World) : Prop :=
  ∃ A c, e = .returned (.slice A L.length c) ∧ w'.ownsRow w.heap.size 36 2 (.slice A L.length c) L.length (L.flatMap enC) ∧ Below w.heap.size w w'
set_option maxHeartbeats 800000 in
theorem Clone_any {A : Option Addr} {n c : Nat} {Ψ : Nat → Prop} (h : SRd enC w Ψ A n c L) (hn : n < 1000000) :
    Calls Try.prog 28 #[.slice A n c] w (CloneSaid L w) := by
  obtain rfl := h.len
  cases A with
  | none =>
    obtain ⟨h1, rfl⟩ := h.nil rfl
    obtain rfl : L = [] := List.eq_nil_of_length_eq_zero h1
    have HE : Hid (CloneSaid [] w (.returned (.slice none 0 0)) w) := Lib.hid ⟨none, 0, rfl, World.ownsRow_nil _ _ _ _, Below.refl _ _⟩
    have hq : (binOp .eql 44 (.slice none 0 0) (.slice none 0 0)).run Try.prog w = .ok (.bool true) w := by rw [Lib.run_eql_slice_nil (P := Try.prog) w 44 36 none 0 0 0 0 Try.underlying44]; rfl
    clear h h1
    go_enter Try.func28, Try.ntmps28
    go_wp2
    go_ret
    exact HE.out
  | some a =>
    have HE : Hid ((w.alloc (.cells #[] 36)).ownsRow w.heap.size 36 2 (.slice (some ⟨w.heap.size, 0, none⟩) 0 0) 0 []) := Lib.hid ⟨rfl, .inr ⟨w.heap.size, 0, #[], rfl, Nat.le_refl _, heap_alloc_new w _, Nat.le_refl _, Nat.zero_le _, rfl, rfl⟩⟩
    have HN := Lib.hid (h.below ((Below.refl _ _).alloc (Nat.le_refl _) (.cells #[] 36))).news
    have HF : Hid ((L.flatMap enC).length = L.length * 2) := Lib.hid (fm_len en_len L)
    have H1 : Hid (∀ u ∈ L.flatMap enC, u.oneCell' = true) := Lib.hid (ones one_en L)
    have HX : Hid (∀ v2 w2, w2.ownsRow w.heap.size 36 2 v2 (0 + L.length) ([] ++ L.flatMap enC) → (w.alloc (.cells #[] 36)).grownBy w2 (Value.slice (some ⟨w.heap.size, 0, none⟩) 0 0).ownBlock → CloneSaid L w (.returned v2) w2) := Lib.hid fun v2 w2 ho hg => by
      rw [Nat.zero_add, List.nil_append] at ho
      obtain ⟨A2, c2, rfl⟩ := slice_of ho
      exact ⟨A2, c2, rfl, ho, ((Below.refl w.heap.size w).alloc (Nat.le_refl _) _).grown hg (by simp) (fun k hk => by simp [Value.ownBlock] at hk; omega)⟩
    obtain ⟨i0, hi, hz0, hz1, hz2⟩ := info_partsR info_en
    have hq := Lib.run_eql_slice_nil (P := Try.prog) w 44 36 (some a) L.length c 0 0 Try.underlying44
    have hq2 : (binOp .eql 44 (.slice (some a) L.length c) (.slice none 0 0)).run Try.prog w = .ok (.bool false) w := by rw [hq]; rfl
    clear h hq
    generalize L.flatMap enC = F at *
    generalize hL : L.length = n at *
    have HL := Lib.hid hL
    clear hL
    go_enter Try.func28, Try.ntmps28
    go_wp2_with (at_builtin; refine wpList_append_src (o := ⟨some 7, _, _, _, _, _⟩) rfl (.tmp 5) (.tmp 6) 44 rfl w.heap.size 36 i0 _ 2 24 Try.underlying44 hi hz0 hz1 hz2 rfl (by omega) _ 0 [] rfl HE.out (some a) n c F rfl HF.out (fun e => by cases e) HN.out H1.out (by unfold maxLen; omega) (by omega) (by simp) ?_; intro v2 w2 ho2 hg2; have HR := Lib.hid (HX.out v2 w2 ho2 hg2); clear ho2 hg2)
    go_ret
    exact HR.out
end
end Go.Proofs.Ytmmddkddjiodbaa
