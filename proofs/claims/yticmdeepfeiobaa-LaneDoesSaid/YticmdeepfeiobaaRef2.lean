/- What is proved here: what the document's Add, Drop and Of answer. -/
import Derived.Test.YticmdeepfeiobaaRef
namespace Go.Proofs.Yticmdeepfeiobaa
open Go Go.RowKit Go.Maps Go.WideMaps

theorem own_emptyT (w : World) : (w.alloc (.cells #[] 36)).ownsRow w.heap.size 36 2 (.slice (some ⟨w.heap.size, 0, none⟩) 0 0) 0 [] :=
  ⟨rfl, .inr ⟨w.heap.size, 0, #[], rfl, Nat.le_refl _, heap_alloc_new w _, Nat.le_refl _, Nat.zero_le _, rfl, rfl⟩⟩
theorem one_cellT (x : Th) : ∀ u ∈ cellsT x, u.oneCell' = true := by
  intro u hu
  simp [cellsT] at hu
  rcases hu with rfl | rfl <;> rfl
theorem one_cellsT (L : List Th) : ∀ u ∈ flatT L, u.oneCell' = true := fun u hu => by
  obtain ⟨y, _, hy⟩ := List.mem_flatMap.1 hu
  exact one_cellT y u hy
theorem news_thing (w : World) (x : Th) (t : TypeId) : ∀ ad, some (⟨w.heap.size, 0, none⟩ : Addr) = some ad → ∀ j u, (cellsT x)[j]? = some u → (w.alloc (.cells #[.string x.g, .int .i64 x.id] t)).cell? (ad.add j) = some u := by
  intro ad had j u hu
  obtain rfl := Option.some.inj had
  rcases j with _ | _ | j
  · rw [Addr.add_lit, cell_of_row _ _ _ _ _ _ (heap_alloc_new w _)]
    simpa [cellsT] using hu
  · rw [Addr.add_lit, cell_of_row _ _ _ _ _ _ (heap_alloc_new w _)]
    simpa [cellsT] using hu
  · simp [cellsT] at hu
theorem own_slice2 {w : World} {base e size n : Nat} {v : Value} {xs : List Value} (h : w.ownsRow base e size v n xs) : ∃ A c, v = .slice A n c := by
  rcases h.2 with ⟨rfl, h0⟩ | ⟨g, cap, _, rfl, _⟩
  · exact ⟨none, 0, by rw [h0]⟩
  · exact ⟨_, _, rfl⟩
/-- What is returned is a row of things, new or elder. -/
def RowsSaid (o : Option Nat) (b : Bool) (base : Nat) (L : List Th) (w : World) (e : Ending) (w' : World) : Prop :=
  ∃ A n c, e = .returned (.tuple #[.slice A n c, .bool b]) ∧ TRow w' base A n c L ∧ Below w.heap.size w w' ∧ ∀ g, (Value.slice A n c).ownBlock = some g → o = some g ∨ w.heap.size ≤ g

set_option maxHeartbeats 1600000 in
set_option maxRecDepth 100000 in
theorem refAdd_any {w : World} {base n c N : Nat} {A : Option Addr} {L : List Th} (h : TRow w base A n c L) (hb : base ≤ w.heap.size) (hn : n < 900000) (s : ByteArray) (k : Int) :
    Calls Try.prog 10 #[.slice A n c, .string s, .int .i64 k] w (RowsSaid (Value.slice A n c).ownBlock (at_ L k).isNone base (addT L s k N) w) := by
  have HAT := Lib.hid (refAt_any h k)
  obtain ⟨hnc, hcm⟩ := h.caps
  have hl := h.len
  cases hx : at_ L k with
  | some x =>
    have HE : Hid (RowsSaid (Value.slice A n c).ownBlock false base (addT L s k N) w (.returned (.tuple #[.slice A n c, .bool false])) w) := Lib.hid ⟨A, n, c, rfl, by unfold addT; rw [hx]; exact h, Below.refl _ _, fun g hg => .inl hg⟩
    have HA2 : Hid (∀ e, AtSaid L k e → ∃ j : Nat, e = .returned (.int .i64 j)) := Lib.hid fun e he => by
      rcases he with ⟨_, h2⟩ | ⟨j, y, h1, _⟩
      · rw [hx] at h2; cases h2
      · exact ⟨j, h1⟩
    clear h hx hl
    go_enter Try.func10, Try.ntmps10
    go_wp2_with (go_at_call 23; refine HAT.out.mono ?_; rintro e w1 ⟨he, rfl⟩; obtain ⟨j, rfl⟩ := HA2.out e he; clear he)
    go_ret2
    exact HE.out
  | none =>
    have HA2 : Hid (∀ e, AtSaid L k e → e = .returned (.int .i64 (-1))) := Lib.hid fun e he => by
      rcases he with ⟨h1, _⟩ | ⟨j, y, _, _, h2⟩
      · exact h1
      · rw [hx] at h2; cases h2
    have HEM := Lib.hid (own_emptyT w)
    have HX : Hid (∀ v2 w2, w2.ownsRow w.heap.size 36 2 v2 (0 + n) ([] ++ flatT L) → (w.alloc (.cells #[] 36)).grownBy w2 (Value.slice (some ⟨w.heap.size, 0, none⟩) 0 0).ownBlock → w2.ownsRow w.heap.size 36 2 v2 n (flatT L) ∧ Below w.heap.size w w2 ∧ w.heap.size ≤ w2.heap.size) := Lib.hid fun v2 w2 ho hg => by
      rw [Nat.zero_add, List.nil_append] at ho
      have hb2 : Below w.heap.size w w2 := ((Below.refl w.heap.size w).alloc (Nat.le_refl _) _).grown hg (by simp) (fun k hk => by simp [Value.ownBlock] at hk; omega)
      exact ⟨ho, hb2, hb2.size⟩
    have HY : Hid (∀ v2 w2 v3 w3, w2.ownsRow w.heap.size 36 2 v2 n (flatT L) → Below w.heap.size w w2 → w3.ownsRow w.heap.size 36 2 v3 (n + 1) (flatT L ++ cellsT ⟨s, k, N + 1⟩) → (w2.alloc (.cells #[.string s, .int .i64 k] 36)).grownBy w3 v2.ownBlock → ∃ A3 c3, v3 = .slice A3 (n + 1) c3 ∧ RowsSaid (Value.slice A n c).ownBlock true base (addT L s k N) w (.returned (.tuple #[.slice A3 (n + 1) c3, .bool true])) w3) := Lib.hid fun v2 w2 v3 w3 h2 hb2 ho3 hg3 => by
      obtain ⟨A3, c3, rfl⟩ := own_slice2 ho3
      refine ⟨A3, c3, rfl, A3, _, c3, rfl, ?_, (hb2.alloc hb2.size _).grown hg3 (by simp; have := hb2.size; omega) (fun j hj => (h2.lt j hj).1), fun g hg => .inr (ho3.lt g hg).1⟩
      unfold TRow addT
      rw [hx]
      show w3.ownsRow base _ 2 _ _ (flatT (L ++ [⟨s, k, N + 1⟩]))
      rw [flatT_append, flatT_one]
      exact own_base ho3 hb
    have HNW : Hid (∀ V, Below w.heap.size w V → ∀ ad, A = some ad → ∀ j u, (flatT L)[j]? = some u → V.cell? (ad.add j) = some u) := Lib.hid fun V hV ad had j u hu => by
      subst had
      rcases h.2 with ⟨e, h0⟩ | ⟨g, cap, cur, e, _, hg, _⟩
      · cases e
      · cases e
        have hgl := (Array.getElem?_eq_some_iff.1 hg).1
        have := h.cells (g := g) rfl j u hu
        rw [Addr.add_lit] at this ⊢
        rw [hV.cell (p := ⟨g, 0 + j, none⟩) hgl]
        exact this
    have HNIL : Hid (A = none → n = 0 ∧ c = 0) := Lib.hid fun e => by
      subst e
      rcases h.2 with ⟨e, h0⟩ | ⟨g, cap, cur, e, _⟩
      · cases e; exact ⟨h0, rfl⟩
      · cases e
    have HFL : Hid ((flatT L).length = n * 2) := Lib.hid (by rw [flatT_len, hl])
    have H1 := Lib.hid (one_cellsT L)
    have H1T := Lib.hid (one_cellT ⟨s, k, N + 1⟩)
    have HTW := Lib.hid fun (V : World) => news_thing V ⟨s, k, N + 1⟩ 36
    obtain ⟨i0, hi, hz0, hz1, hz2⟩ := info_parts info_thing
    clear h hx hl
    generalize flatT L = F at *
    go_enter Try.func10, Try.ntmps10
    go_wp2_with (first
      | (go_at_call 23; refine HAT.out.mono ?_; rintro e w1 ⟨he, rfl⟩; obtain rfl := HA2.out e he; clear he)
      | (at_builtin; refine wpList_append_src (o := ⟨some 15, _, _, _, _, _⟩) rfl (.tmp 13) (.tmp 14) 26 rfl w.heap.size 36 i0 _ 2 24 Try.underlying26 hi hz0 hz1 hz2 rfl (by omega) _ 0 [] rfl HEM.out A n c F rfl HFL.out HNIL.out (HNW.out _ ((Below.refl _ _).alloc (Nat.le_refl _) _)) H1.out (by unfold maxLen; omega) (by omega) (by simp) ?_; intro v2 w2 ho2 hg2; have HR := Lib.hid (HX.out v2 w2 ho2 hg2); clear ho2 hg2)
      | (at_builtin; refine wpList_append_src (o := ⟨some 20, _, _, _, _, _⟩) rfl (.tmp 15) (.tmp 19) 26 rfl w.heap.size 36 i0 _ 2 24 Try.underlying26 hi hz0 hz1 hz2 rfl (by omega) _ n F rfl (HR.out.1.alloc _) (some ⟨w2.heap.size, 0, none⟩) 1 1 (cellsT ⟨s, k, N + 1⟩) rfl rfl (fun e => by cases e) (HTW.out w2) H1T.out (by unfold maxLen; omega) (by omega) (by have := HR.out.2.2; simp; omega) ?_; intro v3 w3 ho3 hg3; obtain ⟨A3, c3, rfl, hE⟩ := HY.out _ _ _ _ HR.out.1 HR.out.2.1 ho3 hg3; have HE := Lib.hid hE; clear ho3 hg3 hE))
    go_ret2
    exact HE.out

theorem dropT_lt (L : List Th) (k : Int) : (at_ L k).isSome = decide ((dropT L k).length < L.length) := by
  cases hx : at_ L k with
  | none => rw [dropT_none hx]; simp
  | some x =>
    obtain ⟨h1, h2⟩ := at_some hx
    have : (dropT L k).length < L.length := by
      unfold dropT
      rw [List.length_filter_lt_length_iff_exists]
      exact ⟨x, h1, by simpa using h2⟩
    simp [this]
theorem take_more {L : List Th} {j : Nat} {x : Th} (hx : L[j]? = some x) : L.take (j + 1) = L.take j ++ [x] := by
  obtain ⟨h1, h2⟩ := List.getElem?_eq_some_iff.1 hx
  rw [List.take_succ_eq_append_getElem h1, h2]
theorem dropT_more {L : List Th} {j : Nat} {x : Th} {k : Int} (hx : L[j]? = some x) (hk : x.id ≠ k) : dropT (L.take (j + 1)) k = dropT (L.take j) k ++ [x] := by
  rw [take_more hx]
  simp [dropT, hk]
theorem dropT_less {L : List Th} {j : Nat} {x : Th} {k : Int} (hx : L[j]? = some x) (hk : x.id = k) : dropT (L.take (j + 1)) k = dropT (L.take j) k := by
  rw [take_more hx]
  simp [dropT, hk]

/-- A row that is being made. -/
def Making (w0 : World) (m : Nat) (O : List Th) (v : Value) (w : World) : Prop := w.ownsRow w0.heap.size 36 2 v O.length (flatT O) ∧ Below w0.heap.size w0 w ∧ O.length ≤ m
theorem Making.app {w0 w : World} {m : Nat} {O : List Th} {v : Value} (h : Making w0 m O v w) (x : Th) {v2 : Value} {w2 : World} (ho : w2.ownsRow w0.heap.size 36 2 v2 (O.length + 1) (flatT O ++ cellsT x)) (hg : (w.alloc (.cells #[.string x.g, .int .i64 x.id] 36)).grownBy w2 v.ownBlock) :
    ∃ A c, v2 = .slice A (O.length + 1) c ∧ Making w0 (m + 1) (O ++ [x]) v2 w2 := by
  obtain ⟨A, c, rfl⟩ := own_slice2 ho
  refine ⟨A, c, rfl, ?_, (h.2.1.alloc h.2.1.size _).grown hg (by simp; have := h.2.1.size; omega) fun j hj => (h.1.lt j hj).1, by rw [List.length_append]; have := h.2.2; simp; omega⟩
  rw [List.length_append, flatT_append, flatT_one]
  exact ho

set_option maxHeartbeats 1600000 in
set_option maxRecDepth 100000 in
theorem refDrop_any {w : World} {base n c : Nat} {A : Option Addr} {L : List Th} (h : TRow w base A n c L) (hb : base ≤ w.heap.size) (hn : n < 900000) (k : Int) :
    Calls Try.prog 12 #[.slice A n c, .int .i64 k] w (RowsSaid (Value.slice A n c).ownBlock (at_ L k).isSome base (dropT L k) w) := by
  have HR := Lib.hid h
  have HL := Lib.hid h.len
  obtain ⟨hnc, hcm⟩ := h.caps
  have HEND : Hid (∀ wr A2 n2 c2, n2 = (dropT L k).length → Making w n (dropT L k) (.slice A2 n2 c2) wr → RowsSaid (Value.slice A n c).ownBlock (at_ L k).isSome base (dropT L k) w (.returned (.tuple #[.slice A2 n2 c2, .bool (decide (n2 < n))])) wr) := Lib.hid fun wr A2 n2 c2 hn2 hm => by
    subst hn2
    refine ⟨A2, _, c2, ?_, own_base hm.1 hb, hm.2.1, fun g hg => .inr (hm.1.lt g hg).1⟩
    rw [dropT_lt, HL.out]
  obtain ⟨i0, hi, hz0, hz1, hz2⟩ := info_parts info_thing
  have HHB := Lib.hid hb
  clear h hb
  go_enter Try.func12, Try.ntmps12
  go_wp2
  go_loopw [6, 7] (fun v i wr => ∃ (j n2 : Nat) (A2 : Option Addr) (c2 : Nat), i = .int .i64 j ∧ v = .slice A2 n2 c2 ∧ j ≤ n ∧ n2 ≤ j ∧ Hid (n2 = (dropT (L.take j) k).length) ∧ Hid (Making w j (dropT (L.take j) k) (.slice A2 n2 c2) wr)) (fun _ i _ => n - (intOf i).toNat)
  case atStart => exact ⟨0, 0, none, 0, rfl, rfl, Nat.zero_le _, Nat.le_refl _, Lib.hid (by simp [dropT]), Lib.hid (by rw [List.take_zero]; exact ⟨World.ownsRow_nil _ _ _ _, Below.refl _ _, Nat.zero_le _⟩)⟩
  case round =>
    obtain ⟨j, n2, A2, c2, rfl, rfl, hj, hn2j, HN2, HM⟩ := hrel
    by_cases hjn : j < n
    · obtain ⟨x, hx⟩ : ∃ x, L[j]? = some x := ⟨_, List.getElem?_eq_getElem (by rw [HL.out]; exact hjn)⟩
      obtain ⟨b, hA, hbl, r0, r1⟩ := (HR.out.below HM.out.2.1).cell hx
      subst hA
      have hjn' : (j : Int) < n := by omega
      have HX := Lib.hid hx
      by_cases hk : x.id = k
      · have HN3 : Hid (n2 = (dropT (L.take (j + 1)) k).length ∧ ∀ wr', Making w j (dropT (L.take j) k) (.slice A2 n2 c2) wr' → Making w (j + 1) (dropT (L.take (j + 1)) k) (.slice A2 n2 c2) wr') := Lib.hid ⟨by rw [dropT_less hx hk]; exact HN2.out, fun wr' hm => by rw [dropT_less hx hk]; exact ⟨hm.1, hm.2.1, by have := hm.2.2; omega⟩⟩
        have hb1 : (x.id != k) = false := by simpa using hk
        have hb2 : (x.id == k) = true := by simpa using hk
        clear hk hx
        go_wp2
        go_roundw
        case rel => exact ⟨j + 1, n2, A2, c2, by go_num, rfl, by omega, by omega, Lib.hid HN3.out.1, Lib.hid (HN3.out.2 _ HM.out)⟩
        case measure => simp [intOf]; omega
      · have HDM : Hid (dropT (L.take (j + 1)) k = dropT (L.take j) k ++ [x]) := Lib.hid (dropT_more hx hk)
        have hb1 : (x.id != k) = true := by simpa using hk
        have hb2 : (x.id == k) = false := by simpa using hk
        have HTW := Lib.hid fun (V : World) => news_thing V x 36
        have H1T := Lib.hid (one_cellT x)
        have HSZ := Lib.hid HM.out.2.1.size
        have hMO := HM.out
        unfold Making at hMO
        rw [← HN2.out] at hMO
        have HMO := Lib.hid hMO
        have HAP : Hid (∀ v2 w2, w2.ownsRow w.heap.size 36 2 v2 (n2 + 1) (flatT (dropT (L.take j) k) ++ cellsT x) → (wr.alloc (.cells #[.string x.g, .int .i64 x.id] 36)).grownBy w2 (Value.slice A2 n2 c2).ownBlock → ∃ A3 c3, v2 = .slice A3 (n2 + 1) c3 ∧ n2 + 1 = (dropT (L.take (j + 1)) k).length ∧ Making w (j + 1) (dropT (L.take (j + 1)) k) (.slice A3 (n2 + 1) c3) w2) := Lib.hid fun v2 w2 ho hg => by
          have h9 := HM.out.app x (v2 := v2) (w2 := w2) (by rw [← HN2.out]; exact ho) hg
          rw [← HN2.out] at h9
          obtain ⟨A3, c3, rfl, h10⟩ := h9
          rw [HDM.out]
          exact ⟨A3, c3, rfl, by rw [List.length_append, ← HN2.out]; rfl, h10⟩
        clear hk hx hMO
        generalize dropT (L.take j) k = O at *
        go_wp2_with (at_builtin; refine wpList_append_src (o := ⟨some 27, _, _, _, _, _⟩) rfl (.tmp 21) (.tmp 26) 26 rfl w.heap.size 36 i0 _ 2 24 Try.underlying26 hi hz0 hz1 hz2 rfl (by omega) _ n2 (flatT O) rfl (HMO.out.1.alloc _) (some ⟨wr.heap.size, 0, none⟩) 1 1 (cellsT x) rfl rfl (fun e => by cases e) (HTW.out wr) H1T.out (by unfold maxLen; omega) (by omega) (by have := HSZ.out; simp; omega) ?_; intro v2 w2 ho2 hg2; obtain ⟨A3, c3, rfl, hn3, hM3⟩ := HAP.out _ _ ho2 hg2; have HN3 := Lib.hid hn3; have HM3 := Lib.hid hM3; clear ho2 hg2 hn3 hM3)
        go_roundw
        case rel => exact ⟨j + 1, n2 + 1, A3, c3, by go_num, rfl, by omega, by omega, HN3, HM3⟩
        case measure => simp [intOf]; omega
    · obtain rfl : j = n := by omega
      have hE := HEND.out wr A2 n2 c2 (by have := HN2.out; rwa [List.take_of_length_le (by rw [HL.out]; exact Nat.le_refl _)] at this) (by have := HM.out; rwa [List.take_of_length_le (by rw [HL.out]; exact Nat.le_refl _)] at this)
      have HE := Lib.hid hE
      have hd0 : decide ((j : Int) < (j : Int)) = false := decide_eq_false (by omega)
      clear hE
      go_wp2
      go_ret2
      exact HE.out
end Go.Proofs.Yticmdeepfeiobaa
