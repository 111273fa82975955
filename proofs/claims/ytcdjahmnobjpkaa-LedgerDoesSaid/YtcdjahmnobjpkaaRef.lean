/- What is proved here: the document's rows of entries in memory; what its At and Drop answer. -/
import Derived.Test.YtcdjahmnobjpkaaArgs
namespace Go.Proofs.Ytcdjahmnobjpkaa
open Go Go.RowKit Go.Maps Go.WideMaps

def cellsE (x : En) : List Value := [.string x.k, x.v, .int .i64 x.t]
def flatE (L : List En) : List Value := L.flatMap cellsE
theorem flatE_append (H T : List En) : flatE (H ++ T) = flatE H ++ flatE T := by simp [flatE]
theorem flatE_one (x : En) : flatE [x] = cellsE x := by simp [flatE]
theorem flatE_len (H : List En) : (flatE H).length = H.length * 3 := by
  induction H with
  | nil => rfl
  | cons x r ih =>
    show (cellsE x ++ flatE r).length = _
    rw [List.length_append, ih]
    show 3 + r.length * 3 = _
    simp; omega
theorem flatE_at : ∀ {H : List En} {j : Nat} {x : En}, H[j]? = some x → (flatE H)[j * 3]? = some (.string x.k) ∧ (flatE H)[j * 3 + 1]? = some x.v ∧ (flatE H)[j * 3 + 2]? = some (.int .i64 x.t)
  | y :: r, 0, x, h => by
    obtain rfl : y = x := by simpa using h
    exact ⟨rfl, rfl, rfl⟩
  | y :: r, j + 1, x, h => by
    obtain ⟨h1, h2, h3⟩ := flatE_at (H := r) (j := j) (x := x) (by simpa using h)
    have e : flatE (y :: r) = cellsE y ++ flatE r := rfl
    have e2 : (cellsE y).length = 3 := rfl
    rw [e, List.getElem?_append_right (by omega), List.getElem?_append_right (by omega), List.getElem?_append_right (by omega), e2, show (j + 1) * 3 - 3 = j * 3 by omega, show (j + 1) * 3 + 1 - 3 = j * 3 + 1 by omega, show (j + 1) * 3 + 2 - 3 = j * 3 + 2 by omega]
    exact ⟨h1, h2, h3⟩
/-- A row of the document's: a slice that owns entries. -/
def RRow (w : World) (base : Nat) (A : Option Addr) (n c : Nat) (L : List En) : Prop := w.ownsRow base 33 3 (.slice A n c) n (flatE L) ∧ ∀ x ∈ L, IsV x.v
section
variable {w w' : World} {base n c : Nat} {A : Option Addr} {L : List En}
theorem RRow.len (h : RRow w base A n c L) : L.length = n := by
  have := h.1.1
  rw [flatE_len] at this
  omega
theorem RRow.chg {Φ : Nat → Prop} (h : RRow w base A n c L) (hc : Chg Φ w w') (hn : ∀ g, (Value.slice A n c).ownBlock = some g → ¬ Φ g) : RRow w' base A n c L := ⟨hc.own h.1 hn, h.2⟩
theorem RRow.below (h : RRow w base A n c L) (hb : Below w.heap.size w w') : RRow w' base A n c L := h.chg (Chg.of_below (Φ := fun _ => False) hb) fun _ _ => id
theorem RRow.rebase {b2 : Nat} (h : RRow w base A n c L) (hb : b2 ≤ base) : RRow w b2 A n c L := ⟨own_base h.1 hb, h.2⟩
theorem RRow.caps (h : RRow w base A n c L) : n ≤ c ∧ c ≤ 9223372036854775807 := by
  rcases h.1.2 with ⟨e, h0⟩ | ⟨g, cap, cur, e, _, _, h1, h2, _⟩
  · cases e
    exact ⟨by omega, by omega⟩
  · cases e
    unfold maxLen at h2
    exact ⟨h1, by omega⟩
theorem RRow.lt (h : RRow w base A n c L) : ∀ g, (Value.slice A n c).ownBlock = some g → base ≤ g ∧ g < w.heap.size := h.1.lt
theorem RRow.cell (h : RRow w base A n c L) {j : Nat} {x : En} (hx : L[j]? = some x) : ∃ (b : Nat) (v : Int), A = some ⟨b, 0, none⟩ ∧ x.v = .int .i64 v ∧ w.cell? ⟨b, j * 3, none⟩ = some (.string x.k) ∧ w.cell? ⟨b, j * 3 + 1, none⟩ = some (.int .i64 v) ∧ w.cell? ⟨b, j * 3 + 2, none⟩ = some (.int .i64 x.t) := by
  have hj := (List.getElem?_eq_some_iff.1 hx).1
  have hl := h.len
  obtain ⟨b, cap, e, _, hb⟩ := h.1.form (by omega)
  obtain ⟨rfl, rfl⟩ : A = some ⟨b, 0, none⟩ ∧ c = cap := by simpa using e
  obtain ⟨h1, h2, h3⟩ := flatE_at hx
  obtain ⟨v, hv⟩ := h.2 x (List.mem_of_getElem? hx)
  exact ⟨b, v, rfl, hv, (h.1.cellAt (j * 3) (by omega)).trans h1, ((h.1.cellAt (j * 3 + 1) (by omega)).trans h2).trans (by rw [hv]), (h.1.cellAt (j * 3 + 2) (by omega)).trans h3⟩
theorem RRow.nil_ (w : World) (base : Nat) : RRow w base none 0 0 [] := ⟨World.ownsRow_nil _ _ _ _, fun x hx => by cases hx⟩
end
theorem info_entry : (Try.prog.info? 33).map (fun i => (i.zero, i.size, i.bytes)) = some (some (.agg #[.string ⟨#[]⟩, .int .i64 0, .int .i64 0]), 3, 32) := by kernel_rfl
theorem take_more {L : List En} {j : Nat} {x : En} (hx : L[j]? = some x) : L.take (j + 1) = L.take j ++ [x] := by
  obtain ⟨h1, h2⟩ := List.getElem?_eq_some_iff.1 hx
  rw [List.take_succ_eq_append_getElem h1, h2]

/-- What At answers. -/
def AtSaid (L : List En) (s : ByteArray) (e : Ending) : Prop := (e = .returned (.int .i64 (-1)) ∧ findE L s = none) ∨ ∃ (j : Nat) (x : En), e = .returned (.int .i64 j) ∧ j < L.length ∧ findE L s = some x
theorem at_first : ∀ {L : List En} {s : ByteArray} {j : Nat} {x : En}, (∀ i y, i < j → L[i]? = some y → y.k ≠ s) → L[j]? = some x → x.k = s → findE L s = some x
  | y :: r, s, 0, x, _, hx, he => by
    obtain rfl : y = x := by simpa using hx
    unfold findE
    rw [List.find?_cons_of_pos (by simpa using he)]
  | y :: r, s, j + 1, x, hb, hx, he => by
    have hy : y.k ≠ s := hb 0 y (Nat.succ_pos _) rfl
    unfold findE
    rw [List.find?_cons_of_neg (by simpa using hy)]
    exact at_first (L := r) (j := j) (fun i z hi hz => hb (i + 1) z (by omega) (by simpa using hz)) (by simpa using hx) he

set_option maxHeartbeats 800000 in
theorem refAt_any {w : World} {base n c : Nat} {A : Option Addr} {L : List En} (h : RRow w base A n c L) (hn : n < 900000) (s : ByteArray) :
    Calls Try.prog 12 #[.slice A n c, .string s] w fun e w' => AtSaid L s e ∧ w = w' := by
  have HR := Lib.hid h
  have HL := Lib.hid h.len
  obtain ⟨hnc, hcm⟩ := h.caps
  clear h
  go_enter Try.func12, Try.ntmps12
  go_wp2
  go_loop [5] (fun i => ∃ j : Nat, i = .int .i64 j ∧ j ≤ n ∧ Hid (∀ i y, i < j → L[i]? = some y → y.k ≠ s)) (fun i => n - (intOf i).toNat)
  case atStart => exact ⟨0, rfl, Nat.zero_le _, Lib.hid fun j y hj => absurd hj (Nat.not_lt_zero _)⟩
  case round =>
    obtain ⟨j, rfl, hj, HA⟩ := hrel
    by_cases hjn : j < n
    · obtain ⟨x, hx⟩ : ∃ x, L[j]? = some x := ⟨_, List.getElem?_eq_getElem (by rw [HL.out]; exact hjn)⟩
      obtain ⟨b, v, hA, hv, r0, r1, r2⟩ := HR.out.cell hx
      subst hA
      have hjn' : (j : Int) < n := by omega
      by_cases hk : x.k = s
      · have HE : Hid (AtSaid L s (.returned (.int .i64 j))) := Lib.hid (.inr ⟨j, x, rfl, by rw [HL.out]; exact hjn, at_first HA.out hx hk⟩)
        have hb : (x.k.toList == s.toList) = true := by rw [str_eq]; simpa using hk
        clear HA hk hx
        go_wp2
        go_ret
        exact ⟨HE.out, rfl⟩
      · have HA2 : Hid (∀ i y, i < j + 1 → L[i]? = some y → y.k ≠ s) := Lib.hid fun i y hi hy => by
          rcases Nat.lt_or_ge i j with h1 | h1
          · exact HA.out i y h1 hy
          · obtain rfl : i = j := by omega
            rw [hx] at hy
            obtain rfl := Option.some.inj hy
            exact hk
        have hb : (x.k.toList == s.toList) = false := by rw [str_eq]; simpa using hk
        clear HA hk hx
        go_wp2
        go_round
        case rel => exact ⟨j + 1, by go_num, by omega, HA2⟩
        case measure => simp [intOf]; omega
    · obtain rfl : j = n := by omega
      have HE : Hid (AtSaid L s (.returned (.int .i64 (-1)))) := Lib.hid (.inl ⟨rfl, findE_none.2 fun y hy => by
        obtain ⟨i, hi, e⟩ := List.getElem_of_mem hy
        exact HA.out i y (by rw [← HL.out]; exact hi) (by rw [List.getElem?_eq_getElem hi, e])⟩)
      have hd0 : decide ((j : Int) < (j : Int)) = false := decide_eq_false (by omega)
      clear HA
      go_wp2
      go_ret
      exact ⟨HE.out, rfl⟩

/-- A row that is being made. -/
def Making (w0 : World) (O : List En) (A : Option Addr) (n c : Nat) (w : World) : Prop := RRow w w0.heap.size A n c O ∧ Below w0.heap.size w0 w
theorem Making.start (w : World) : Making w [] none 0 0 w := ⟨RRow.nil_ _ _, Below.refl _ _⟩
theorem Making.later {w0 w w' : World} {O : List En} {A : Option Addr} {n c : Nat} (h : Making w0 O A n c w) (hb : Below w.heap.size w w') : Making w0 O A n c w' := ⟨h.1.below hb, h.2.trans (hb.mono h.2.size)⟩
/-- The cells of one that is appended. -/
abbrev newE (x : En) (v : Int) : Obj := .cells #[.string x.k, .int .i64 v, .int .i64 x.t] 33
theorem Making.app {w0 w : World} {O : List En} {A : Option Addr} {n c : Nat} (h : Making w0 O A n c w) {x : En} {v : Int} (hv : x.v = .int .i64 v) {v2 : Value} {w2 : World} (ho : w2.ownsRow w0.heap.size 33 3 v2 (n + 1) (flatE O ++ [.string x.k, .int .i64 v, .int .i64 x.t])) (hg : (w.alloc (newE x v)).grownBy w2 (Value.slice A n c).ownBlock) :
    ∃ A2 c2, v2 = .slice A2 (n + 1) c2 ∧ Hid (Making w0 (O ++ [x]) A2 (n + 1) c2 w2) := by
  obtain ⟨A2, c2, rfl⟩ : ∃ A2 c2, v2 = .slice A2 (n + 1) c2 := by
    rcases ho.2 with ⟨rfl, h0⟩ | ⟨g, cap, _, rfl, _⟩
    · exact ⟨none, 0, by rw [h0]⟩
    · exact ⟨_, _, rfl⟩
  refine ⟨A2, c2, rfl, Lib.hid ⟨⟨?_, fun y hy => ?_⟩, (h.2.alloc h.2.size _).grown hg (by simp; have := h.2.size; omega) fun j hj => (h.1.1.lt j hj).1⟩⟩
  · rw [flatE_append, flatE_one]
    unfold cellsE
    rw [hv]
    exact ho
  · rcases List.mem_append.1 hy with hy | hy
    · exact h.1.2 y hy
    · simp at hy
      subst hy
      exact ⟨v, hv⟩
theorem news_entry (w : World) (x : En) (v : Int) (t : TypeId) : ∀ ad, some (⟨w.heap.size, 0, none⟩ : Addr) = some ad → ∀ j u, ([.string x.k, .int .i64 v, .int .i64 x.t] : List Value)[j]? = some u → (w.alloc (.cells #[.string x.k, .int .i64 v, .int .i64 x.t] t)).cell? (ad.add j) = some u := by
  intro ad had j u hu
  obtain rfl := Option.some.inj had
  rcases j with _ | _ | _ | j
  · rw [Addr.add_lit, cell_of_row _ _ _ _ _ _ (heap_alloc_new w _)]
    simpa using hu
  · rw [Addr.add_lit, cell_of_row _ _ _ _ _ _ (heap_alloc_new w _)]
    simpa using hu
  · rw [Addr.add_lit, cell_of_row _ _ _ _ _ _ (heap_alloc_new w _)]
    simpa using hu
  · simp at hu
theorem one_entry (x : En) (v : Int) : ∀ u ∈ ([.string x.k, .int .i64 v, .int .i64 x.t] : List Value), u.oneCell' = true := by
  intro u hu
  simp at hu
  rcases hu with rfl | rfl | rfl <;> rfl
theorem drop_snoc (l : List En) (x : En) (s : ByteArray) : dropE (l ++ [x]) s = if x.k = s then dropE l s else dropE l s ++ [x] := by
  unfold dropE delN
  rw [List.filter_append]
  by_cases h : x.k = s
  · have : x.nm = s.data.toList := nm_eq.2 h
    rw [if_pos h]
    simp [this]
  · have : x.nm ≠ s.data.toList := fun e => h (nm_eq.1 e)
    rw [if_neg h]
    simp [this]
/-- A new row of entries. -/
def RowE (L : List En) (w : World) (e : Ending) (w' : World) : Prop := ∃ A n c, e = .returned (.slice A n c) ∧ Hid (Making w L A n c w')

set_option maxHeartbeats 1600000 in
set_option maxRecDepth 100000 in
theorem refDrop_any {w : World} {base n c : Nat} {A : Option Addr} {L : List En} (h : RRow w base A n c L) (hn : n < 900000) (s : ByteArray) :
    Calls Try.prog 14 #[.slice A n c, .string s] w (RowE (dropE L s) w) := by
  have HR := Lib.hid h
  have HL := Lib.hid h.len
  obtain ⟨hnc, hcm⟩ := h.caps
  obtain ⟨i0, hi, hz0, hz1, hz2⟩ := info_parts info_entry
  have HALL : Hid (dropE (L.take n) s = dropE L s) := Lib.hid (by rw [List.take_of_length_le (by rw [HL.out]; exact Nat.le_refl _)])
  clear h
  go_enter Try.func14, Try.ntmps14
  go_wp2
  go_loopw [5, 6] (fun v i wr => ∃ (j n2 : Nat) (A2 : Option Addr) (c2 : Nat), i = .int .i64 j ∧ v = .slice A2 n2 c2 ∧ j ≤ n ∧ n2 ≤ j ∧ Hid (Making w (dropE (L.take j) s) A2 n2 c2 wr)) (fun _ i _ => n - (intOf i).toNat)
  case atStart => exact ⟨0, 0, none, 0, rfl, rfl, Nat.zero_le _, Nat.le_refl _, Lib.hid (Making.start w)⟩
  case round =>
    obtain ⟨j, n2, A2, c2, rfl, rfl, hj, hn2j, HM⟩ := hrel
    by_cases hjn : j < n
    · obtain ⟨x, hx⟩ : ∃ x, L[j]? = some x := ⟨_, List.getElem?_eq_getElem (by rw [HL.out]; exact hjn)⟩
      obtain ⟨b, v, hA, hv, r0, r1, r2⟩ := (HR.out.below HM.out.2).cell hx
      subst hA
      have HV := Lib.hid hv
      have hjn' : (j : Int) < n := by omega
      by_cases hk : x.k = s
      · have HD : Hid (dropE (L.take (j + 1)) s = dropE (L.take j) s) := Lib.hid (by rw [take_more hx, drop_snoc, if_pos hk])
        have hb1 : (x.k.toList == s.toList) = true := by rw [str_eq]; simpa using hk
        clear hk hx hv
        go_wp2
        go_roundw
        case rel => exact ⟨j + 1, n2, A2, c2, by go_num, rfl, by omega, by omega, Lib.hid (by rw [HD.out]; exact HM.out)⟩
        case measure => simp [intOf]; omega
      · have HD : Hid (dropE (L.take (j + 1)) s = dropE (L.take j) s ++ [x]) := Lib.hid (by rw [take_more hx, drop_snoc, if_neg hk])
        have hb1 : (x.k.toList == s.toList) = false := by rw [str_eq]; simpa using hk
        clear hk hx hv
        generalize dropE (L.take j) s = O at *
        go_wp2_with (at_builtin; refine wpList_append_src (o := ⟨some 26, _, _, _, _, _⟩) rfl (.tmp 20) (.tmp 25) 26 rfl w.heap.size 33 i0 _ 3 32 Try.underlying26 hi hz0 hz1 hz2 rfl (by omega) _ n2 (flatE O) rfl (HM.out.1.1.alloc _) (some ⟨wr.heap.size, 0, none⟩) 1 1 [.string x.k, .int .i64 v, .int .i64 x.t] rfl rfl (fun e => by cases e) (news_entry wr x v _) (one_entry x v) (by unfold maxLen; omega) (by omega) (by have := HM.out.2.size; simp; omega) ?_; intro v2 w2 ho2 hg2; obtain ⟨A3, c3, rfl, HM3⟩ := HM.out.app HV.out ho2 hg2; clear ho2 hg2)
        go_roundw
        case rel => exact ⟨j + 1, n2 + 1, A3, c3, by go_num, rfl, by omega, by omega, Lib.hid (by rw [HD.out]; exact HM3.out)⟩
        case measure => simp [intOf]; omega
    · obtain rfl : j = n := by omega
      have HE : Hid (RowE (dropE L s) w (.returned (.slice A2 n2 c2)) wr) := Lib.hid ⟨A2, n2, c2, rfl, Lib.hid (by rw [← HALL.out]; exact HM.out)⟩
      have hd0 : decide ((j : Int) < (j : Int)) = false := decide_eq_false (by omega)
      go_wp2
      go_ret
      exact HE.out
end Go.Proofs.Ytcdjahmnobjpkaa
