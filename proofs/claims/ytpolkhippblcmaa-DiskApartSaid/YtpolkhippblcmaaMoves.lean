/- What is proved here: 'DiskMoves' returns true at all arguments. -/
import Derived.Test.YtpolkhippblcmaaCuts
namespace Go.Proofs.Ytpolkhippblcmaa
open Go Go.RowKit Go.Maps

def oneK (k : List UInt8) (b : List Int) (s : Nat) : List RF := [⟨k, b, s⟩]
theorem oneK_find (k : List UInt8) (b : List Int) (s : Nat) : findN (oneK k b s) k = some ⟨k, b, s⟩ := by
  unfold findN oneK
  rw [List.find?_cons_of_pos (by simp)]
theorem oneK_find_no {k t : List UInt8} (h : k ≠ t) (b : List Int) (s : Nat) : findN (oneK k b s) t = none := by
  unfold findN oneK
  rw [List.find?_cons_of_neg (by simpa using h)]
  rfl
theorem oneK_used (k : List UInt8) (b : List Int) (s : Nat) : usedN (oneK k b s) = b.length := by simp [usedN, oneK]
theorem oneK_len (k : List UInt8) (b : List Int) (s : Nat) : (oneK k b s).length ≤ 1000000 := Nat.le_of_ble_eq_true rfl
theorem oneK_crash (k : List UInt8) (b : List Int) (s : Nat) : crashF [] (oneK k b s) = oneK k (b.take s) s := rfl
theorem nil_app {k : List UInt8} {xs : List Int} {room : Int} (h0 : nameOk k = true) (h : (xs.length : Int) ≤ room) : appendF room [] k xs = (oneK k xs 0, 0) := by
  unfold appendF
  rw [if_neg (by rw [h0]; decide), if_neg (by simp [usedN]; omega)]
  rfl
theorem nil_app_bad {k : List UInt8} {xs : List Int} {room : Int} (h0 : nameOk k = false) : appendF room [] k xs = ([], 1) := if_pos h0
theorem nil_ren (k t : List UInt8) : renameF [] k t = ([], 6) := rfl
theorem oneK_ren_bad {k t : List UInt8} {b : List Int} {s : Nat} (h : nameOk t = false) : renameF (oneK k b s) k t = (oneK k b s, 1) := by
  unfold renameF
  rw [oneK_find]
  exact if_pos h
theorem oneK_ren_same {k : List UInt8} {b : List Int} {s : Nat} (h : nameOk k = true) : renameF (oneK k b s) k k = (oneK k b s, 0) := by
  unfold renameF
  rw [oneK_find]
  simp only
  rw [if_neg (by rw [h]; decide), if_pos trivial]
theorem oneK_ren {k t : List UInt8} {b : List Int} {s : Nat} (h : nameOk t = true) (hne : k ≠ t) : renameF (oneK k b s) k t = (oneK t b b.length, 0) := by
  unfold renameF
  rw [oneK_find]
  simp only
  rw [if_neg (by rw [h]; decide), if_neg hne]
  have e : delN RF.nm k (oneK k b s) = [] := by
    unfold delN oneK
    rw [List.filter_cons_of_neg (by simp)]
    rfl
  rw [e]
  rfl

section
variable {w wi : World} {d N : Nat} {room : Int} {S : List RF}
/-- A Read, with what else stands. -/
theorem read_hit (h : St w d room S wi) {s : ByteArray} (hs : s.size ≤ maxLen) {f : RF} (hf : findN S s.data.toList = some f) :
    Calls Try.prog 15 #[.pointer (some ⟨d, 0, none⟩), .string s] wi fun e w' => ∃ A c, e = .returned (.tuple #[.slice A f.b.length c, .int .i64 0]) ∧
      w'.ownsRow wi.heap.size 5 1 (.slice A f.b.length c) f.b.length (f.b.map (Value.int .u8)) ∧ St w d room S w' ∧ (DiskAt w' d room S fun k => w.heap.size ≤ k ∧ k < wi.heap.size) ∧ Below wi.heap.size wi w' := by
  refine (read_st h s hs).mono ?_
  rintro e w' ⟨⟨hb, h1⟩, h2⟩
  rw [hf] at h1
  rcases h1 with ⟨h1, _⟩ | ⟨f', A, c, h1, h3, h4⟩
  · cases h1
  · cases h1
    exact ⟨A, c, h3, h4, h2, h.tight.keep (Ψ := fun _ => False) (Chg.of_below hb) fun _ _ => id, hb⟩
theorem read_miss (h : St w d room S wi) {s : ByteArray} (hs : s.size ≤ maxLen) (hf : findN S s.data.toList = none) :
    Calls Try.prog 15 #[.pointer (some ⟨d, 0, none⟩), .string s] wi fun e w' => e = .returned (.tuple #[.slice none 0 0, .int .i64 6]) ∧ St w d room S w' ∧ Below wi.heap.size wi w' := by
  refine (read_st h s hs).mono ?_
  rintro e w' ⟨⟨hb, h1⟩, h2⟩
  rw [hf] at h1
  rcases h1 with ⟨_, h1⟩ | ⟨f', A, c, h1, h3, h4⟩
  · exact ⟨h1, h2, hb⟩
  · cases h1
theorem DiskAt.later {Φ : Nat → Prop} {w' : World} (h : DiskAt wi d room S Φ) (hb : Below wi.heap.size wi w') : DiskAt w' d room S Φ := h.keep (Ψ := fun _ => False) (Chg.of_below hb) fun _ _ => id
theorem names_len {n : Nat} (h : St w d room S wi) (hL : S.length ≤ 1000000) (hn : S.length = n) : Calls Try.prog 14 #[.pointer (some ⟨d, 0, none⟩)] wi fun e w' => (∃ A c, e = .returned (.slice A n c)) ∧ St w d room S w' := by
  subst hn
  refine (names_st h hL).mono ?_
  rintro e w' ⟨⟨A, c, h1, _⟩, h2⟩
  exact ⟨⟨A, c, h1⟩, h2⟩
end




end Go.Proofs.Ytpolkhippblcmaa
