/- What is proved here: how the document's own disk lies in memory, and what its 'named' answers. -/
import Derived.Test.YtpolkhippblcmaaFew
import Derived.Deep.RegionLaw
namespace Go.Proofs.Ytpolkhippblcmaa
open Go Go.RowKit Go.Maps

/-- A file of the document's own. -/
structure RV where
  sv : ByteArray
  b : List Int
  s : Nat
  A : Option Addr
  c : Nat
def RV.f (x : RV) : RF := ⟨x.sv.data.toList, x.b, x.s⟩
def RV.vals (x : RV) : List Value := [.string x.sv, .slice x.A x.b.length x.c, .int .i64 x.s]
abbrev RV.nm (x : RV) : List UInt8 := x.sv.data.toList
/-- What is asked of its bytes. -/
structure RVOk (w : World) (Ψ : Nat → Prop) (x : RV) : Prop where
  rd : Rd w w.heap.size .u8 x.A x.b.length x.c x.b
  inn : ∀ b o, x.A = some ⟨b, o, none⟩ → 0 < x.b.length → Ψ b
  byt : ∀ y ∈ x.b, 0 ≤ y ∧ y < 256
  len : x.b.length ≤ 1048576
  sn : x.sv.size ≤ 1000000
  syn : x.s ≤ x.b.length
structure RRd (w : World) (Ψ : Nat → Prop) (A : Option Addr) (n c : Nat) (L : List RV) : Prop where
  len : L.length = n
  cap : n ≤ c
  max : c ≤ maxLen
  nil : A = none → n = 0 ∧ c = 0
  place : ∀ j x, L[j]? = some x → ∃ b o, A = some ⟨b, o, none⟩ ∧ b < w.heap.size ∧ Ψ b ∧ ∀ i u, x.vals[i]? = some u → w.cell? ⟨b, o + j * 3 + i, none⟩ = some u
  ok : ∀ x ∈ L, RVOk w Ψ x

section
variable {w w' : World} {Φ Ψ Ψ' : Nat → Prop} {A : Option Addr} {n c : Nat} {L : List RV}
theorem RVOk.keep {x : RV} (h : RVOk w Ψ x) (hc : Chg Φ w w') (hs : ∀ k, Ψ k → ¬ Φ k) : RVOk w' Ψ x :=
  ⟨⟨h.rd.len, h.rd.cap, h.rd.max, h.rd.nil, fun j u hu => by
    obtain ⟨b, o, e, hb, hcell⟩ := h.rd.place j u hu
    have hl : 0 < x.b.length := by
      have := (List.getElem?_eq_some_iff.1 hu).1
      omega
    refine ⟨b, o, e, Nat.lt_of_lt_of_le hb hc.size, ?_⟩
    rw [hc.cell (p := ⟨b, o + j, none⟩) hb (hs b (h.inn b o e hl))]
    exact hcell⟩, h.inn, h.byt, h.len, h.sn, h.syn⟩
theorem RVOk.mono {x : RV} (h : RVOk w Ψ x) (hs : ∀ k, k < w.heap.size → Ψ k → Ψ' k) : RVOk w Ψ' x :=
  ⟨h.rd, fun b o e hl => by
    obtain ⟨b', o', e', hb, _⟩ := h.rd.cell (j := 0) hl
    rw [e] at e'
    cases e'
    exact hs b hb (h.inn b o e hl), h.byt, h.len, h.sn, h.syn⟩
theorem RRd.keep (h : RRd w Ψ A n c L) (hc : Chg Φ w w') (hs : ∀ k, Ψ k → ¬ Φ k) : RRd w' Ψ A n c L :=
  ⟨h.len, h.cap, h.max, h.nil, fun j x hj => by
    obtain ⟨b, o, e, hb, hp, hcell⟩ := h.place j x hj
    exact ⟨b, o, e, Nat.lt_of_lt_of_le hb hc.size, hp, fun i u hu => by rw [hc.cell (p := ⟨b, o + j * 3 + i, none⟩) hb (hs b hp)]; exact hcell i u hu⟩, fun x hx => (h.ok x hx).keep hc hs⟩
theorem RRd.mono (h : RRd w Ψ A n c L) (hs : ∀ k, k < w.heap.size → Ψ k → Ψ' k) : RRd w Ψ' A n c L :=
  ⟨h.len, h.cap, h.max, h.nil, fun j x hj => by
    obtain ⟨b, o, e, hb, hp, hcell⟩ := h.place j x hj
    exact ⟨b, o, e, hb, hs b hb hp, hcell⟩, fun x hx => (h.ok x hx).mono hs⟩
theorem RRd.later (h : RRd w Ψ A n c L) (hb : Below w.heap.size w w') : RRd w' Ψ A n c L := h.keep (Φ := fun _ => False) (Chg.of_below hb) fun _ _ => id
theorem RVOk.later {x : RV} (h : RVOk w Ψ x) (hb : Below w.heap.size w w') : RVOk w' Ψ x := h.keep (Φ := fun _ => False) (Chg.of_below hb) fun _ _ => id
theorem RRd.none_ (w : World) (Ψ : Nat → Prop) : RRd w Ψ none 0 0 [] := ⟨rfl, Nat.le_refl _, Nat.zero_le _, fun _ => ⟨rfl, rfl⟩, fun j x h => by simp at h, fun x h => by cases h⟩
theorem RRd.at (h : RRd w Ψ A n c L) {j : Nat} (hj : j < n) : ∃ x b o, L[j]? = some x ∧ x ∈ L ∧ A = some ⟨b, o, none⟩ ∧ b < w.heap.size ∧ (∀ i u, x.vals[i]? = some u → w.cell? ⟨b, o + j * 3 + i, none⟩ = some u) ∧ RVOk w Ψ x := by
  have hl : j < L.length := by rw [h.len]; exact hj
  obtain ⟨b, o, e, hB, _, hc⟩ := h.place j L[j] (List.getElem?_eq_getElem hl)
  exact ⟨L[j], b, o, List.getElem?_eq_getElem hl, List.getElem_mem hl, e, hB, hc, h.ok _ (List.getElem_mem hl)⟩
end
/-- The cells of files, one behind the other. -/
def flat (L : List RV) : List Value := L.flatMap RV.vals
theorem flat_snoc (L : List RV) (x : RV) : flat (L ++ [x]) = flat L ++ x.vals := by simp [flat]
theorem flat_len (L : List RV) : (flat L).length = L.length * 3 := by
  induction L with
  | nil => rfl
  | cons x r ih =>
    show (x.vals ++ flat r).length = _
    rw [List.length_append, ih]
    show 3 + r.length * 3 = _
    simp; omega
theorem flat_at : ∀ {L : List RV} {j : Nat} {x : RV}, L[j]? = some x → ∀ i u, x.vals[i]? = some u → (flat L)[j * 3 + i]? = some u
  | y :: r, 0, x, hj, i, u, hu => by
    simp at hj
    subst hj
    have hi : i < 3 := (List.getElem?_eq_some_iff.1 hu).1
    show (y.vals ++ flat r)[0 * 3 + i]? = _
    rw [Nat.zero_mul, Nat.zero_add, List.getElem?_append_left hi]
    exact hu
  | y :: r, j + 1, x, hj, i, u, hu => by
    have hj' : r[j]? = some x := by simpa using hj
    have := flat_at hj' i u hu
    show (y.vals ++ flat r)[(j + 1) * 3 + i]? = _
    have h3 : y.vals.length = 3 := rfl
    rw [List.getElem?_append_right (by omega), h3, show (j + 1) * 3 + i - 3 = j * 3 + i by omega]
    exact this
theorem one_cells (x : RV) : ∀ u ∈ x.vals, u.oneCell' = true := by
  intro u hu
  simp [RV.vals] at hu
  rcases hu with rfl | rfl | rfl <;> rfl
/-- A row of the call's own reads as files. -/
theorem RRd.of_own {w : World} {base n : Nat} {v : Value} {L : List RV} {Ψ : Nat → Prop} (h : w.ownsRow base 48 3 v n (flat L)) (hΨ : ∀ k, base ≤ k → Ψ k) (hok : ∀ x ∈ L, RVOk w Ψ x) : ∃ A c, v = .slice A n c ∧ RRd w Ψ A n c L := by
  have hl : L.length = n := by have := h.1; rw [flat_len] at this; omega
  rcases h.2 with ⟨rfl, rfl⟩ | ⟨g, cap, cur, rfl, hb, hg, hnc, hcm, hcs, htake⟩
  · obtain rfl : L = [] := List.eq_nil_of_length_eq_zero hl
    exact ⟨none, 0, rfl, RRd.none_ _ _⟩
  · refine ⟨_, cap, rfl, hl, hnc, hcm, (fun e => by cases e), fun j x hj => ⟨g, 0, rfl, (Array.getElem?_eq_some_iff.1 hg).1, hΨ g hb, fun i u hu => ?_⟩, hok⟩
    have := h.cells (g := g) rfl (j * 3 + i) u (flat_at hj i u hu)
    rw [Addr.add_lit, Nat.zero_add] at this
    rw [Nat.zero_add]
    exact this

set_option maxHeartbeats 800000 in
theorem named_any (s : ByteArray) (w : World) (hs : s.size ≤ maxLen) :
    Calls Try.prog 24 #[.string s] w fun e w' => e = .returned (.bool (nameOk s.data.toList)) ∧ w = w' := by
  unfold maxLen at hs
  go_enter Try.func24, Try.ntmps24
  go_wp2
  go_loop [3] (fun i => ∃ k : Nat, i = .int .i64 k ∧ k ≤ s.size ∧ Hid (∀ x ∈ s.data.toList.take k, x ≠ 10)) (fun i => s.size - (intOf i).toNat)
  case atStart => exact ⟨0, rfl, Nat.zero_le _, Lib.hid fun x hx => by simp at hx⟩
  case round =>
    obtain ⟨k, rfl, hk, HT⟩ := hrel
    by_cases hkn : k < s.size
    · have hkn' : (k : Int) < s.size := by omega
      have hts : s.data.toList.take (k + 1) = s.data.toList.take k ++ [s[k]] := by
        rw [List.take_succ_eq_append_getElem (by simpa using hkn)]
        rfl
      have HTS := Lib.hid hts
      clear hts
      go_wp2
      · have h10 : ((s[k].toNat : Int) == 10) = true := by assumption
        go_ret
        refine ⟨?_, rfl⟩
        have e10 : s[k] = 10 := UInt8.toNat_inj.1 (by have := beq_iff_eq.1 h10; show s[k].toNat = 10; omega)
        have hm : (10 : UInt8) ∈ s.data.toList := List.mem_of_mem_take (i := k + 1) (by rw [HTS.out, e10]; simp)
        have hc : s.data.toList.contains 10 = true := by simpa using hm
        unfold nameOk
        rw [hc, Bool.not_true, Bool.and_false]
        rfl
      · have h10 : ((s[k].toNat : Int) == 10) = false := by assumption
        go_round
        case rel =>
          refine ⟨k + 1, by go_num, by omega, Lib.hid fun x hx => ?_⟩
          rw [HTS.out] at hx
          rcases List.mem_append.1 hx with hx | hx
          · exact HT.out x hx
          · simp at hx
            intro e
            rw [hx] at e
            rw [e] at h10
            exact absurd h10 (by decide)
        case measure => simp [intOf]; omega
    · obtain rfl : k = s.size := by omega
      have hall : s.data.toList.contains 10 = false := by
        have h1 := HT.out
        rw [List.take_of_length_le (by rw [Array.length_toList]; exact Nat.le_refl _)] at h1
        cases hc : s.data.toList.contains 10
        · rfl
        · exact absurd rfl (h1 10 (by simpa using hc))
      have HA := Lib.hid hall
      clear hall
      have hlen : s.data.toList.length = s.size := Array.length_toList
      have HLN := Lib.hid hlen
      clear hlen
      go_wp2
      · have h0 : 0 < s.size := by assumption
        go_ret
        refine ⟨?_, rfl⟩
        unfold nameOk
        rw [HA.out, HLN.out]
        have he : s.data.toList.isEmpty = false := by
          cases hl : s.data.toList with
          | nil => have := HLN.out; rw [hl] at this; simp at this; omega
          | cons a r => rfl
        rw [he]
        show Ending.returned (.bool (decide ((s.size : Int) < 33))) = _
        congr 2
        by_cases h33 : s.size ≤ 32
        · rw [decide_eq_true (by omega), decide_eq_true h33]; rfl
        · rw [decide_eq_false (by omega), decide_eq_false h33]; rfl
      · have h0 : ¬ 0 < s.size := by assumption
        go_ret
        refine ⟨?_, rfl⟩
        unfold nameOk
        have he : s.data.toList = [] := List.eq_nil_of_length_eq_zero (by rw [HLN.out]; omega)
        rw [he]
        rfl
end Go.Proofs.Ytpolkhippblcmaa
