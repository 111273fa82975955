/- What is proved here: what it is that a slice reads as a row of things; what the document's own Drop, Set and Due answer; when the law's 'same' says yes. -/
import Derived.Test.YtednibjemboclaaDue
import Derived.Test.YtednibjemboclaaCopy
namespace Go.Proofs.Ytednibjemboclaa
open Go Go.RowKit Go.Maps

/-- A slice value that reads as a row of things, in a block of which Ψ speaks. -/
structure IRd (w : World) (Ψ : Nat → Prop) (A : Option Addr) (n c : Nat) (L : List It) : Prop where
  len : L.length = n
  cap : n ≤ c
  max : c ≤ maxLen
  nil : A = none → n = 0 ∧ c = 0
  place : ∀ j, j < n → ∃ b o, A = some ⟨b, o, none⟩ ∧ b < w.heap.size ∧ Ψ b ∧ w.cell? ⟨b, o + j * 2, none⟩ = some (.int .i64 (g L j).1) ∧ w.cell? ⟨b, o + j * 2 + 1, none⟩ = some (.int .i64 (g L j).2)
section
variable {w w' : World} {Ψ Ψ' Φ : Nat → Prop} {A : Option Addr} {n c : Nat} {L : List It}
theorem IRd.keep (h : IRd w Ψ A n c L) (hc : Chg Φ w w') (hs : ∀ k, Ψ k → ¬ Φ k) : IRd w' Ψ A n c L :=
  ⟨h.len, h.cap, h.max, h.nil, fun j hj => by
    obtain ⟨b, o, e, hb, hp, h0, h1⟩ := h.place j hj
    exact ⟨b, o, e, Nat.lt_of_lt_of_le hb hc.size, hp, (hc.cell (p := ⟨b, o + j * 2, none⟩) hb (hs b hp)).trans h0, (hc.cell (p := ⟨b, o + j * 2 + 1, none⟩) hb (hs b hp)).trans h1⟩⟩
theorem IRd.mono (h : IRd w Ψ A n c L) (hs : ∀ k, k < w.heap.size → Ψ k → Ψ' k) : IRd w Ψ' A n c L :=
  ⟨h.len, h.cap, h.max, h.nil, fun j hj => by
    obtain ⟨b, o, e, hb, hp, h0, h1⟩ := h.place j hj
    exact ⟨b, o, e, hb, hs b hb hp, h0, h1⟩⟩
theorem IRd.below (h : IRd w Ψ A n c L) (hb : Below w.heap.size w w') : IRd w' Ψ A n c L := h.keep (Φ := fun _ => False) (Chg.of_below hb) fun _ _ => id
theorem IRd.none_ (w : World) (Ψ : Nat → Prop) : IRd w Ψ none 0 0 [] := ⟨rfl, Nat.le_refl _, Nat.zero_le _, fun _ => ⟨rfl, rfl⟩, fun _ hj => absurd hj (Nat.not_lt_zero _)⟩
theorem IRd.of_own {base e : Nat} {v : Value} (h : w.ownsRow base e 2 v n (flat L)) (hΨ : ∀ k, base ≤ k → Ψ k) : ∃ A c, v = .slice A n c ∧ IRd w Ψ A n c L := by
  have hl : L.length = n := by have := h.1; rw [flat_len] at this; omega
  rcases h.2 with ⟨rfl, rfl⟩ | ⟨gb, cap, cur, rfl, hb, hg, hnc, hcm, hcs, htake⟩
  · obtain rfl : L = [] := List.eq_nil_of_length_eq_zero hl
    exact ⟨none, 0, rfl, IRd.none_ _ _⟩
  · refine ⟨_, cap, rfl, hl, hnc, hcm, (fun e => by cases e), fun j hj => ⟨gb, 0, rfl, lt_of_block hg, hΨ gb hb, ?_⟩⟩
    obtain ⟨h1, h2⟩ := flat_at (H := L) (j := j) (by omega)
    rw [Nat.zero_add]
    exact ⟨(h.cellAt (j * 2) (by omega)).trans h1, (h.cellAt (j * 2 + 1) (by omega)).trans h2⟩
theorem IRd.of_slice {base e : Nat} (h : w.ownsRow base e 2 (.slice A n c) n (flat L)) (hΨ : ∀ k, base ≤ k → Ψ k) : IRd w Ψ A n c L := by
  obtain ⟨A', c', e, hr⟩ := IRd.of_own h hΨ
  obtain ⟨rfl, _, rfl⟩ := Value.slice.inj e
  exact hr
end

theorem info_ref : (Try.prog.info? 44).map (fun i => (i.zero, i.size, i.bytes)) = some (some (.agg #[.int .i64 0, .int .i64 0]), 2, 16) := by kernel_rfl
/-- What the document's calls on rows return: a row in new memory. -/
def RowSaid (L : List It) (w : World) (e : Ending) (w' : World) : Prop :=
  ∃ A c, e = .returned (.slice A L.length c) ∧ w'.ownsRow w.heap.size 44 2 (.slice A L.length c) L.length (flat L) ∧ Below w.heap.size w w'
theorem take_g {L : List It} {k : Nat} (h : k < L.length) : L.take (k + 1) = L.take k ++ [g L k] := by
  rw [List.take_succ_eq_append_getElem h, g_get h]
theorem dropR_snoc (L : List It) (x : It) (id : Int) : dropR (L ++ [x]) id = if x.1 = id then dropR L id else dropR L id ++ [x] := by
  unfold dropR
  rw [List.filter_append, List.filter_cons]
  by_cases h : x.1 = id <;> simp [h]
/-- In each round: the row that is being made. -/
def Making (w : World) (k : Nat) (L : List It) (v : Value) (wr : World) : Prop := wr.ownsRow w.heap.size 44 2 v L.length (flat L) ∧ Below w.heap.size w wr ∧ L.length ≤ k
theorem Making.app {w : World} {k : Nat} {L : List It} {v : Value} {wr : World} (h : Making w k L v wr) (x : It) {v2 : Value} {w2 : World}
    (ho : w2.ownsRow w.heap.size 44 2 v2 (L.length + 1) (flat L ++ [.int .i64 x.1, .int .i64 x.2])) (hg : (wr.alloc (.cells #[.int .i64 x.1, .int .i64 x.2] 44)).grownBy w2 v.ownBlock) :
    (∃ A c, v2 = .slice A (L.length + 1) c) ∧ Making w (k + 1) (L ++ [x]) v2 w2 ∧ ∀ p : Addr, p.block < w.heap.size → w2.cell? p = w.cell? p := by
  obtain ⟨A, c, e, _⟩ := own_isSlice ho
  have hb : Below w.heap.size w w2 := (h.2.1.alloc h.2.1.size _).grown hg (by have := h.2.1.size; simp; omega) (fun i hi => (h.1.lt i hi).1)
  refine ⟨⟨A, c, e⟩, ⟨?_, hb, by simp; exact h.2.2⟩, fun p hp => hb.cell hp⟩
  rw [flat_append, flat_one, List.length_append]
  exact ho

set_option maxHeartbeats 1600000 in
set_option maxRecDepth 100000 in
theorem refDrop_any {w : World} {Ψ : Nat → Prop} {A : Option Addr} {n c : Nat} {L : List It} (h : IRd w Ψ A n c L) (hn : n < 900000) (id : Int) :
    Calls Try.prog 13 #[.slice A n c, .int .i64 id] w (RowSaid (dropR L id) w) := by
  have HR := Lib.hid h
  have HL := Lib.hid h.len
  have hcm := h.max
  have hcc := h.cap
  unfold maxLen at hcm
  obtain ⟨i0, hi, hz0, hz1, hz2⟩ := info_parts info_ref
  have HM : Hid (Making w 0 (dropR (L.take 0) id) (.slice none 0 0) w) := Lib.hid ⟨World.ownsRow_nil _ _ _ _, Below.refl _ _, Nat.zero_le _⟩
  clear h
  go_enter Try.func13, Try.ntmps13
  go_wp2
  go_loopw [5, 6] (fun v i wr => ∃ k : Nat, i = .int .i64 k ∧ k ≤ n ∧ Hid (Making w k (dropR (L.take k) id) v wr)) (fun _ i _ => n - (intOf i).toNat)
  case atStart => exact ⟨0, rfl, Nat.zero_le _, HM⟩
  case round =>
    clear HM
    obtain ⟨k, rfl, hk, HM⟩ := hrel
    by_cases hkn : k < n
    · obtain ⟨b, o, hA, hbl, _, r0, r1⟩ := HR.out.place k hkn
      subst hA
      have hbw := HM.out.2.1
      have e0 := (hbw.cell (p := ⟨b, o + k * 2, none⟩) hbl).trans r0
      have e1 := (hbw.cell (p := ⟨b, o + k * 2 + 1, none⟩) hbl).trans r1
      have hkn' : (k : Int) < n := by omega
      obtain ⟨M, hM⟩ : ∃ M, M = dropR (L.take k) id := ⟨_, rfl⟩
      have htk := take_g (L := L) (k := k) (by rw [HL.out]; exact hkn)
      by_cases hid : (g L k).1 = id
      · have hd : ((g L k).1 == id) = true := beq_iff_eq.2 hid
        have HN : Hid (Making w (k + 1) (dropR (L.take (k + 1)) id) _ wr) := Lib.hid (by
          rw [htk, dropR_snoc, if_pos hid]
          exact ⟨HM.out.1, HM.out.2.1, by have := HM.out.2.2; omega⟩)
        clear htk hM r0 r1 hbw hid
        generalize g L k = x at *
        go_wp2
        go_roundw
        case rel => exact ⟨k + 1, by go_num, by omega, HN⟩
        case measure => simp [intOf]; omega
      · have hd : ((g L k).1 == id) = false := beq_eq_false_iff_ne.2 hid
        have HN : Hid (∀ v2 w2, Making w (k + 1) (M ++ [g L k]) v2 w2 → Making w (k + 1) (dropR (L.take (k + 1)) id) v2 w2) := Lib.hid fun v2 w2 hm => by
          rw [htk, dropR_snoc, if_neg hid, ← hM]
          exact hm
        have HM2 : Hid (Making w k M _ wr) := Lib.hid (by rw [hM]; exact HM.out)
        have hml : M.length ≤ k := HM2.out.2.2
        have HSZ := Lib.hid HM2.out.2.1.size
        clear htk hM r0 r1 hbw hid HM
        generalize g L k = x at *
        go_wp2_with (at_builtin; refine wpList_append_src (o := ⟨some 26, _, _, _, _, _⟩) rfl (.tmp 20) (.tmp 25) 26 rfl w.heap.size 44 i0 _ 2 16 Try.underlying26 hi hz0 hz1 hz2 rfl (by omega) _ M.length _ rfl (HM2.out.1.alloc _) (some ⟨wr.heap.size, 0, none⟩) 1 1 [.int .i64 x.1, .int .i64 x.2] rfl rfl (fun e => by cases e) (news_item wr _ _ _) (one_cell2 _ _) (by unfold maxLen; omega) (by omega) (by have := HSZ.out; simp; omega) ?_; intro v2 w2 ho2 hg2; have HQ := Lib.hid (HM2.out.app x ho2 hg2); obtain ⟨A2, c2, rfl⟩ := HQ.out.1; have HQ2 := Lib.hid (HN.out _ _ HQ.out.2.1); clear ho2 hg2)
        go_roundw
        case rel => exact ⟨k + 1, by go_num, by omega, HQ2⟩
        case measure => simp [intOf]; omega
    · obtain rfl : k = n := by omega
      have HX : Hid (∃ A c, _ = Value.slice A (dropR L id).length c ∧ RowSaid (dropR L id) w (.returned (.slice A (dropR L id).length c)) wr) := Lib.hid (by
        have h1 := HM.out
        rw [List.take_of_length_le (by rw [HL.out]; exact Nat.le_refl _)] at h1
        obtain ⟨A2, c2, e, _⟩ := own_isSlice h1.1
        refine ⟨A2, c2, e, A2, c2, rfl, ?_, h1.2.1⟩
        rw [← e]
        exact h1.1)
      obtain ⟨A2, c2, rfl, hx⟩ := HX.out
      have HY := Lib.hid hx
      clear HX hx HM
      go_wp2
      go_ret
      exact HY.out
end Go.Proofs.Ytednibjemboclaa
