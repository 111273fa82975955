/- What is proved here: plain facts on what a reader reads as an answer, and what cmd.exactly makes of it. -/
import Derived.Test.YtkdncnhjlgidnaaGreatDoorATook
namespace Go.Proofs.YtkdncnhjlgidnaaGreatDoor
open Go Go.RowKit

theorem tkR_ok {xs : List Int} {p why : Nat} (hp : p ≤ xs.length) (hw : Ok3 why) : (tkR xs p why).2.1 ≤ xs.length ∧ Ok3 (tkR xs p why).2.2 := by
  have h1 : (goNum xs p why).2.1 ≤ xs.length ∧ Ok3 (goNum xs p why).2.2 := ⟨goNum_le hp, goNum_ok3 hw⟩
  have h2 : (goNum xs (goNum xs p why).2.1 (goNum xs p why).2.2).2.1 ≤ xs.length ∧ Ok3 (goNum xs (goNum xs p why).2.1 (goNum xs p why).2.2).2.2 := ⟨goNum_le h1.1, goNum_ok3 h1.2⟩
  have h3 := goText_ok3 (most := 256) h2.1 h2.2
  have h4 := goText_ok3 (most := 256) h3.2 h3.1
  have h5 := goText_ok3 (most := 256) h4.2 h4.1
  exact ⟨h5.2, h5.1⟩
/-- So many messages. -/
def rdK (xs : List Int) (p why : Nat) : Nat → List TK × Nat × Nat
  | 0 => ([], p, why)
  | k + 1 => ((rdK xs p why k).1 ++ [(tkR xs (rdK xs p why k).2.1 (rdK xs p why k).2.2).1], (tkR xs (rdK xs p why k).2.1 (rdK xs p why k).2.2).2)
theorem rdK_len (xs : List Int) (p why : Nat) : ∀ k, (rdK xs p why k).1.length = k
  | 0 => rfl
  | k + 1 => by rw [rdK, List.length_append, rdK_len xs p why k]; rfl
theorem rdK_ok {xs : List Int} {p why : Nat} (hp : p ≤ xs.length) (hw : Ok3 why) : ∀ k, (rdK xs p why k).2.1 ≤ xs.length ∧ Ok3 (rdK xs p why k).2.2
  | 0 => ⟨hp, hw⟩
  | k + 1 => by
    have h := rdK_ok hp hw k
    exact tkR_ok h.1 h.2
theorem goNums_ok {xs : List Int} {p why : Nat} {most : Int} (hp : p ≤ xs.length) (hw : Ok3 why) : (goNums xs p why most).2.1 ≤ xs.length ∧ Ok3 (goNums xs p why most).2.2 := by
  unfold goNums
  by_cases h : why = 0
  · rw [if_pos h]
    rcases numsR_is xs p most hp with ⟨bs, us, e, h1, h2⟩ | ⟨us, er, e, he⟩
    · rw [e, if_pos rfl]
      exact ⟨h2, .inl rfl⟩
    · rw [e, if_neg (by show ¬ er = 0; omega)]
      exact ⟨hp, .inr he⟩
  · rw [if_neg h]
    exact ⟨hp, hw⟩
/-- What is read of bytes as an answer. -/
structure ARaw where
  cd : Nat
  ids : List Int
  many : Nat
  tks : List TK
  p : Nat
  why : Nat
def araw (xs : List Int) : ARaw :=
  let c := goNum xs 0 0
  let i := goNums xs c.2.1 c.2.2 10
  let m := goNum xs i.2.1 i.2.2
  let t := rdK xs m.2.1 m.2.2 (min m.1 10)
  ⟨c.1, i.1, m.1, t.1, t.2.1, t.2.2⟩
theorem araw_is {xs I : List Int} {cd p1 y1 p2 y2 mv p3 y3 k : Nat} (h1 : goNum xs 0 0 = (cd, p1, y1)) (h2 : goNums xs p1 y1 10 = (I, p2, y2)) (h3 : goNum xs p2 y2 = (mv, p3, y3)) (hk : k = min mv 10) :
    araw xs = ⟨cd, I, mv, (rdK xs p3 y3 k).1, (rdK xs p3 y3 k).2.1, (rdK xs p3 y3 k).2.2⟩ := by
  unfold araw
  simp only [h1, h2, h3, ← hk]
/-- Why bytes are no answer; 0 if they are one. -/
def whyA (xs : List Int) (p why : Nat) (cd : Int) (I : List Int) (T : List TK) : Nat :=
  if why ≠ 0 then why else if p < xs.length then 2 else if aRight cd I T && decide (aBytes cd I T = xs) then 0 else 2
theorem aBytes_ok (cd : Int) (I : List Int) (T : List TK) : ∀ x ∈ aBytes cd I T, 0 ≤ x ∧ x < 256 := by
  have hT : ∀ s : ByteArray, ∀ x ∈ encT (nums s), 0 ≤ x ∧ x < 256 := fun s x hx => by
    rcases List.mem_append.1 hx with h | h
    · exact enc_bytes _ x h
    · exact nums_bytes s x h
  intro x hx
  unfold aBytes aHead at hx
  rcases List.mem_append.1 hx with hx | hx
  · rcases List.mem_append.1 hx with hx | hx
    · rcases List.mem_append.1 hx with hx | hx
      · exact enc_bytes _ x hx
      · rcases List.mem_append.1 hx with hx | hx
        · exact enc_bytes _ x hx
        · exact encAll_bytes I x hx
    · exact enc_bytes _ x hx
  · obtain ⟨t, _, hx⟩ := List.mem_flatMap.1 hx
    unfold tkB at hx
    rcases List.mem_append.1 hx with hx | hx
    · rcases List.mem_append.1 hx with hx | hx
      · rcases List.mem_append.1 hx with hx | hx
        · rcases List.mem_append.1 hx with hx | hx
          · exact enc_bytes _ x hx
          · exact enc_bytes _ x hx
        · exact hT _ x hx
      · exact hT _ x hx
    · exact hT _ x hx
/-- What exactly answers. -/
theorem aexact_any (A : Option Addr) (n d : Nat) (xs : List Int) (g : Nat) (A2 : Option Addr) (d2 : Nat) (p why : Nat) (I : List Int) (T : List TK) (c : AM) (w : World) (hb : Rd w w.heap.size .u8 A n d xs) (hr : Rdr w g A2 n d2 xs p why) (hn : n ≤ 1000000) (hp : p ≤ n) (hw : Ok3 why) (hI : Rd w w.heap.size .i64 c.iA c.iN c.iC I) (hT : KRd w w.heap.size c.tA c.tN c.tC T) (hbx : ∀ x ∈ xs, 0 ≤ x ∧ x < 256) :
    Calls Tryz.prog 19 #[.slice A n d, .pointer (some ⟨g, 0, none⟩), .agg c.cells, .func (.func 14) #[] #[]] w fun e w' =>
      ∃ (a : AM) (er : Value), e = .returned (.tuple #[.agg a.cells, er]) ∧ Below w.heap.size w w' ∧ ((whyA xs p why c.cd I T ≠ 0 ∧ a = AM.zero ∧ WrapsC w' er (whyA xs p why c.cd I T)) ∨ (whyA xs p why c.cd I T = 0 ∧ a = c ∧ er = .nilIface)) := by
  have hlen := hb.len
  have bad : ∀ {q : Int} {k : Nat}, k ≠ 0 → q = k → ∀ e w', (∃ er, e = Ending.returned (.tuple #[.agg AM.zero.cells, er]) ∧ WrapsC w' er q ∧ Below w.heap.size w w') →
      ∃ (a : AM) (er : Value), e = .returned (.tuple #[.agg a.cells, er]) ∧ Below w.heap.size w w' ∧ ((k ≠ 0 ∧ a = AM.zero ∧ WrapsC w' er k) ∨ (k = 0 ∧ a = c ∧ er = .nilIface)) :=
    fun hk hq e w' ⟨er, he, hwr, hbl⟩ => ⟨AM.zero, er, he, hbl, .inl ⟨hk, rfl, by rw [← hq]; exact hwr⟩⟩
  unfold whyA
  by_cases h0 : why = 0
  · have hno : ¬ (why ≠ 0) := by omega
    simp only [if_neg hno]
    subst h0
    by_cases hpl : p < xs.length
    · simp only [if_pos hpl]
      exact (aexact_more A n d xs g A2 d2 p c w hb hr hn (by omega)).mono (bad (by omega) rfl)
    · simp only [if_neg hpl]
      obtain rfl : p = n := by omega
      by_cases hyes : aRight c.cd I T = true
      · by_cases heq : aBytes c.cd I T = xs
        · rw [hyes, decide_eq_true heq]
          refine (aexact_ok A p d xs g A2 d2 I T c w hb hr hn hI hT hyes hbx heq).mono fun e w' ⟨he, hbl⟩ => ⟨c, .nilIface, he, hbl, .inr ⟨rfl, rfl, rfl⟩⟩
        · rw [hyes, decide_eq_false heq]
          exact (aexact_other A p d xs g A2 d2 I T c w hb hr hn hI hT hyes hbx (aBytes_ok _ _ _) heq).mono (bad (by simp) rfl)
      · have hyes' := Bool.eq_false_iff.2 hyes
        rw [hyes']
        exact (aexact_wrong A p d xs g A2 d2 I T c w hb hr hn hI hT hyes').mono (bad (by simp) rfl)
  · simp only [if_pos h0]
    have hw2 : why = 2 ∨ why = 3 := by rcases hw with h | h | h <;> omega
    exact (aexact_fault A n d xs g A2 d2 p why c w hb hr hn hw2).mono (bad h0 rfl)
end Go.Proofs.YtkdncnhjlgidnaaGreatDoor
