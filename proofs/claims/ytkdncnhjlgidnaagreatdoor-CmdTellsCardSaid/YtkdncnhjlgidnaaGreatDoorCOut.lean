/- What is proved here: what cmd.Read answers: the command whose encoding the bytes are, or no command and an error. -/
import Derived.Test.YtkdncnhjlgidnaaGreatDoorCRead
import Derived.Test.YtkdncnhjlgidnaaGreatDoorCExact2
namespace Go.Proofs.YtkdncnhjlgidnaaGreatDoor
open Go Go.RowKit Go.Maps

/-- The command that was read. -/
def CM.gotR (R : Raw) (bA : Option Addr) (bc : Nat) : CM := CM.of R.ns R.ts ((R.ns.getD 3 0 : Nat) - 1) ((R.ns.getD 10 0 : Nat) == (1 : Int)) bA R.bs.length bc
def gotLR (R : Raw) : List ByteArray := R.bs.map strOfNums
def noCmdR (R : Raw) (xs : List Int) : Nat :=
  if R.why ≠ 0 then R.why else if R.p < xs.length then 2 else if (CM.gotR R none 0).right (gotLR R) && decide ((CM.gotR R none 0).bytes (gotLR R) = xs) then 0 else 2
def CM.got (xs : List Int) (bA : Option Addr) (bc : Nat) : CM := CM.gotR (raw 11 6 xs) bA bc
def gotL (xs : List Int) : List ByteArray := gotLR (raw 11 6 xs)
/-- Why bytes are no command; 0 if they are one. -/
def noCmd (xs : List Int) : Nat := noCmdR (raw 11 6 xs) xs

theorem TRd.of_own {w : World} {base e n c : Nat} {A : Option Addr} {L : List ByteArray} (h : w.ownsRow base e 1 (.slice A n c) n (L.map Value.string)) : TRd w w.heap.size A n c L ∧ ∀ ad, A = some ad → base ≤ ad.block := by
  have hl : L.length = n := by have := h.1; simpa using this
  rcases h.2 with ⟨e1, e2⟩ | ⟨g, cap, cur, e1, hb, hg, hnc, hcm, hcs, htake⟩
  · simp only [Value.slice.injEq] at e1
    obtain ⟨rfl, _, rfl⟩ := e1
    subst e2
    obtain rfl : L = [] := List.eq_nil_of_length_eq_zero hl
    exact ⟨TRd.none_ _ _, fun ad e => by cases e⟩
  · simp only [Value.slice.injEq] at e1
    obtain ⟨rfl, _, rfl⟩ := e1
    refine ⟨⟨hl, hnc, hcm, (fun h => by cases h), fun j u hu => ⟨g, 0, rfl, (Array.getElem?_eq_some_iff.1 hg).1, ?_⟩⟩, fun ad e => by rw [← Option.some.inj e]; exact hb⟩
    have := h.cells (g := g) rfl j (.string u) (by rw [List.getElem?_map, hu]; rfl)
    rw [Addr.add_lit] at this
    exact this
theorem TRd.keepA {w w' : World} {B B' : Nat} {A : Option Addr} {n c : Nat} {L : List ByteArray} (h : TRd w B A n c L) (hB : B ≤ B') (hk : ∀ ad, A = some ad → ad.block < B → w'.heap[ad.block]? = w.heap[ad.block]?) : TRd w' B' A n c L :=
  ⟨h.len, h.cap, h.max, h.nil, fun j u hu => by
    obtain ⟨b, o, e, hb, hc⟩ := h.place j u hu
    have h1 : w'.cell? ⟨b, o + j, none⟩ = w.cell? ⟨b, o + j, none⟩ := World.cell?_of_block (hk ⟨b, o, none⟩ e hb)
    exact ⟨b, o, e, by omega, h1.trans hc⟩⟩
theorem WrapsC.chg {w w' : World} {q : Nat} {cs : Array Value} {er : Value} {n : Int} (h : WrapsC w er n) (hq : w.heap[q]? = some (.cells cs 50 (0, 0))) (hc : Chg (fun k => k = q) w w') : WrapsC w' er n := by
  rcases h with ⟨f, a, h, hf⟩ | ⟨f, s, h, hf⟩
  · refine .inl ⟨f, a, h, hf.chg hc ?_⟩
    rintro rfl
    unfold Blk at hf
    rw [hq] at hf
    simp at hf
  · refine .inr ⟨f, s, h, hf.chg hc ?_⟩
    rintro rfl
    unfold Blk at hf
    rw [hq] at hf
    simp at hf
/-- What Read answers. -/
def ReadPostR (R : Raw) (xs : List Int) (c : CM) (er : Value) (w : World) : Prop :=
  (noCmdR R xs ≠ 0 ∧ c = CM.zero ∧ WrapsC w er (noCmdR R xs)) ∨ (noCmdR R xs = 0 ∧ ∃ bA bc, c = CM.gotR R bA bc ∧ er = .nilIface ∧ TRd w w.heap.size bA R.bs.length bc (gotLR R))
def ReadPost (xs : List Int) (c : CM) (er : Value) (w : World) : Prop := ReadPostR (raw 11 6 xs) xs c er w
theorem encN_bytes : ∀ l : List Nat, ∀ x ∈ encN l, 0 ≤ x ∧ x < 256 := fun l x hx => by
  obtain ⟨v, _, hv⟩ := List.mem_flatMap.1 hx
  exact enc_bytes v x hv
theorem encTs_bytes : ∀ l : List (List Int), (∀ s ∈ l, ∀ x ∈ s, 0 ≤ x ∧ x < 256) → ∀ x ∈ encTs l, 0 ≤ x ∧ x < 256 := fun l h x hx => by
  obtain ⟨v, hv, hx⟩ := List.mem_flatMap.1 hx
  rcases List.mem_append.1 hx with hx | hx
  · exact enc_bytes _ x hx
  · exact h v hv x hx
theorem CM.bytes_ok (c : CM) (L : List ByteArray) : ∀ x ∈ c.bytes L, 0 ≤ x ∧ x < 256 := by
  intro x hx
  unfold CM.bytes encRaw at hx
  rcases List.mem_append.1 hx with hx | hx
  · rcases List.mem_append.1 hx with hx | hx
    · rcases List.mem_append.1 hx with hx | hx
      · exact encN_bytes _ x hx
      · refine encTs_bytes _ (fun s hs => ?_) x hx
        obtain ⟨t, _, rfl⟩ := List.mem_map.1 hs
        exact nums_bytes t
    · exact enc_bytes _ x hx
  · refine encTs_bytes _ (fun s hs => ?_) x hx
    obtain ⟨t, _, rfl⟩ := List.mem_map.1 hs
    exact nums_bytes t
theorem raw_few (K L : Nat) (xs : List Int) : (raw K L xs).bs.length ≤ 10 := by
  show (rdT xs (rawM K L xs).2.1 (rawM K L xs).2.2 (min (rawM K L xs).1 10)).1.length ≤ 10
  rw [rdT_len]
  exact Nat.min_le_right _ _

theorem read_handed (A : Option Addr) (n d : Nat) (xs : List Int) (w : World) (h : Rd w w.heap.size .u8 A n d xs) (hx : ∀ x ∈ xs, 0 ≤ x ∧ x < 256) (hn : n ≤ 1000000) : Handed w A n d xs (ReadPost xs) := by
  have hok := raw_ok 11 6 xs
  have hfew := raw_few 11 6 xs
  unfold Handed ReadPost
  generalize raw 11 6 xs = R at *
  intro W g A2 d2 bA bn bc lo hW hlo hr ho
  have hlen := h.len
  have hb : Rd W W.heap.size .u8 A n d xs := (h.below hW).more hW.size
  obtain ⟨hp, hw⟩ := hok
  have hbn : bn = R.bs.length := by have := ho.1; simp at this; omega
  subst hbn
  obtain ⟨ht, hfar⟩ := TRd.of_own (L := gotLR R) ho
  change Calls _ _ #[.slice A n d, .pointer (some ⟨g, 0, none⟩), .agg (CM.gotR R bA bc).cells, _] W _
  have bad : ∀ {q : Int}, noCmdR R xs ≠ 0 → q = noCmdR R xs → ∀ e w', (∃ er, e = Ending.returned (.tuple #[.agg CM.zero.cells, er]) ∧ WrapsC w' er q ∧ Below W.heap.size W w') →
      ∃ (c : CM) (er : Value), e = .returned (.tuple #[.agg c.cells, er]) ∧ Below W.heap.size W w' ∧ ∀ W', Chg (fun k => k = w.heap.size) w' W' → w'.heap[w.heap.size]? = some (.cells CM.zero.cells 50 (0, 0)) → ReadPostR R xs c er W' :=
    fun hne hq e w' ⟨er, he, hwr, hbl⟩ => ⟨CM.zero, er, he, hbl, fun W' hc hz => .inl ⟨hne, rfl, by rw [hq] at hwr; exact hwr.chg hz hc⟩⟩
  by_cases h0 : R.why = 0
  · by_cases hpl : R.p < xs.length
    · have hno : noCmdR R xs = 2 := by unfold noCmdR; rw [if_neg (by omega), if_pos hpl]
      rw [h0] at hr
      rw [hlen] at hpl
      exact (exact_more A n d xs g A2 d2 _ (CM.gotR R bA bc) W hb hr hn hpl).mono (bad (by omega) (by omega))
    · have hpe : R.p = n := by omega
      rw [h0, hpe] at hr
      by_cases hyes : (CM.gotR R none 0).right (gotLR R) = true
      · by_cases heq : (CM.gotR R none 0).bytes (gotLR R) = xs
        · have hno : noCmdR R xs = 0 := by unfold noCmdR; rw [if_neg (by omega), if_neg hpl, if_pos (by rw [hyes, decide_eq_true heq]; rfl)]
          refine (exact_ok A n d xs g A2 d2 (gotLR R) (CM.gotR R bA bc) W hb hr hn ht hyes hx heq).mono fun e w' ⟨he, hbl⟩ => ⟨CM.gotR R bA bc, .nilIface, he, hbl, fun W' hc _ => .inr ⟨hno, bA, bc, rfl, rfl, ?_⟩⟩
          exact (ht.below hbl).keepA (Nat.le_trans hbl.size hc.size) fun ad e hb2 => hc.block _ (Nat.lt_of_lt_of_le hb2 hbl.size) (by have := hfar ad e; omega)
        · have hno : noCmdR R xs = 2 := by unfold noCmdR; rw [if_neg (by omega), if_neg hpl, if_neg (by rw [decide_eq_false heq]; simp)]
          exact (exact_other A n d xs g A2 d2 (gotLR R) (CM.gotR R bA bc) W hb hr hn ht hyes hx (CM.bytes_ok _ _) heq).mono (bad (by omega) (by omega))
      · have hyes' := Bool.eq_false_iff.2 hyes
        have hno : noCmdR R xs = 2 := by unfold noCmdR; rw [if_neg (by omega), if_neg hpl, if_neg (by rw [hyes']; simp)]
        exact (exact_wrong A n d xs g A2 d2 (gotLR R) (CM.gotR R bA bc) W hb hr hn ht (by show R.bs.length ≤ 1000000; omega) hyes').mono (bad (by omega) (by omega))
  · have hno : noCmdR R xs = R.why := by unfold noCmdR; rw [if_pos h0]
    have hw2 : R.why = 2 ∨ R.why = 3 := by rcases hw with h | h | h <;> omega
    exact (exact_fault A n d xs g A2 d2 _ _ (CM.gotR R bA bc) W hb hr hn hw2).mono (bad (by omega) (by omega))
theorem Read_any (A : Option Addr) (n d : Nat) (xs : List Int) (w : World) (h : Rd w w.heap.size .u8 A n d xs) (hx : ∀ x ∈ xs, 0 ≤ x ∧ x < 256) (hn : n ≤ 1000000) :
    Calls Tryz.prog 13 #[.slice A n d] w fun e w' => ∃ (c : CM) (er : Value), e = .returned (.tuple #[.agg c.cells, er]) ∧ Below w.heap.size w w' ∧ ReadPost xs c er w' :=
  Read_via A n d xs w h hx hn _ (read_handed A n d xs w h hx hn)
end Go.Proofs.YtkdncnhjlgidnaaGreatDoor
