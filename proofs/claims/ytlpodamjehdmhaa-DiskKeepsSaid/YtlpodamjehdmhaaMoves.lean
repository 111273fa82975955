/- What is proved here: 'DiskMoves' returns true at all arguments. -/
import Derived.Test.YtlpodamjehdmhaaCuts
namespace Go.Proofs.Ytlpodamjehdmhaa
open Go Go.RowKit Go.Maps

def oneK (k : List UInt8) (b : List Int) (s : Nat) : List RF := [⟨k, b, s⟩]
theorem oneK_find (k : List UInt8) (b : List Int) (s : Nat) : findN (oneK k b s) k = some ⟨k, b, s⟩ := by
  unfold findN oneK
  rw [List.find?_cons_of_pos (by simp)]
theorem oneK_find_no {k t : List UInt8} (h : k ≠ t) (b : List Int) (s : Nat) : findN (oneK k b s) t = none := by
  unfold findN oneK
  rw [List.find?_cons_of_neg (by simpa using h)]
  rfl
theorem oneK_used (k : List UInt8) (b : List Int) (s : Nat) : usedN (oneK k b s) = b.length := by simp [usedN, oneK]
theorem oneK_len (k : List UInt8) (b : List Int) (s : Nat) : (oneK k b s).length ≤ 1000000 := Nat.le_of_ble_eq_true rfl
theorem oneK_crash (k : List UInt8) (b : List Int) (s : Nat) : crashF [] (oneK k b s) = oneK k (b.take s) s := rfl
theorem nil_app {k : List UInt8} {xs : List Int} {room : Int} (h0 : nameOk k = true) (h : (xs.length : Int) ≤ room) : appendF room [] k xs = (oneK k xs 0, 0) := by
  unfold appendF
  rw [if_neg (by rw [h0]; decide), if_neg (by simp [usedN]; omega)]
  rfl
theorem nil_app_bad {k : List UInt8} {xs : List Int} {room : Int} (h0 : nameOk k = false) : appendF room [] k xs = ([], 1) := if_pos h0
theorem nil_ren (k t : List UInt8) : renameF [] k t = ([], 6) := rfl
theorem oneK_ren_bad {k t : List UInt8} {b : List Int} {s : Nat} (h : nameOk t = false) : renameF (oneK k b s) k t = (oneK k b s, 1) := by
  unfold renameF
  rw [oneK_find]
  exact if_pos h
theorem oneK_ren_same {k : List UInt8} {b : List Int} {s : Nat} (h : nameOk k = true) : renameF (oneK k b s) k k = (oneK k b s, 0) := by
  unfold renameF
  rw [oneK_find]
  simp only
  rw [if_neg (by rw [h]; decide), if_pos trivial]
theorem oneK_ren {k t : List UInt8} {b : List Int} {s : Nat} (h : nameOk t = true) (hne : k ≠ t) : renameF (oneK k b s) k t = (oneK t b b.length, 0) := by
  unfold renameF
  rw [oneK_find]
  simp only
  rw [if_neg (by rw [h]; decide), if_neg hne]
  have e : delN RF.nm k (oneK k b s) = [] := by
    unfold delN oneK
    rw [List.filter_cons_of_neg (by simp)]
    rfl
  rw [e]
  rfl

section
variable {w wi : World} {d N : Nat} {room : Int} {S : List RF}
/-- A Read, with what else stands. -/
theorem read_hit (h : St w d room S wi) {s : ByteArray} (hs : s.size ≤ maxLen) {f : RF} (hf : findN S s.data.toList = some f) :
    Calls Try.prog 20 #[.pointer (some ⟨d, 0, none⟩), .string s] wi fun e w' => ∃ A c, e = .returned (.tuple #[.slice A f.b.length c, .int .i64 0]) ∧
      w'.ownsRow wi.heap.size 5 1 (.slice A f.b.length c) f.b.length (f.b.map (Value.int .u8)) ∧ St w d room S w' ∧ (DiskAt w' d room S fun k => w.heap.size ≤ k ∧ k < wi.heap.size) ∧ Below wi.heap.size wi w' := by
  refine (read_st h s hs).mono ?_
  rintro e w' ⟨⟨hb, h1⟩, h2⟩
  rw [hf] at h1
  rcases h1 with ⟨h1, _⟩ | ⟨f', A, c, h1, h3, h4⟩
  · cases h1
  · cases h1
    exact ⟨A, c, h3, h4, h2, h.tight.keep (Ψ := fun _ => False) (Chg.of_below hb) fun _ _ => id, hb⟩
theorem read_miss (h : St w d room S wi) {s : ByteArray} (hs : s.size ≤ maxLen) (hf : findN S s.data.toList = none) :
    Calls Try.prog 20 #[.pointer (some ⟨d, 0, none⟩), .string s] wi fun e w' => e = .returned (.tuple #[.slice none 0 0, .int .i64 6]) ∧ St w d room S w' ∧ Below wi.heap.size wi w' := by
  refine (read_st h s hs).mono ?_
  rintro e w' ⟨⟨hb, h1⟩, h2⟩
  rw [hf] at h1
  rcases h1 with ⟨_, h1⟩ | ⟨f', A, c, h1, h3, h4⟩
  · exact ⟨h1, h2, hb⟩
  · cases h1
theorem DiskAt.later {Φ : Nat → Prop} {w' : World} (h : DiskAt wi d room S Φ) (hb : Below wi.heap.size wi w') : DiskAt w' d room S Φ := h.keep (Ψ := fun _ => False) (Chg.of_below hb) fun _ _ => id
theorem names_len {n : Nat} (h : St w d room S wi) (hL : S.length ≤ 1000000) (hn : S.length = n) : Calls Try.prog 19 #[.pointer (some ⟨d, 0, none⟩)] wi fun e w' => (∃ A c, e = .returned (.slice A n c)) ∧ St w d room S w' := by
  subst hn
  refine (names_st h hL).mono ?_
  rintro e w' ⟨⟨A, c, h1, _⟩, h2⟩
  exact ⟨⟨A, c, h1⟩, h2⟩
end

set_option maxHeartbeats 1600000 in
set_option maxRecDepth 100000 in
theorem moves_long (a0 a1 : ByteArray) (a2 : Option Addr) (len2 cap2 : Nat) (w : World) (h1 : len2 ≤ 9223372036854775807) (h : 600 < len2) :
    Calls Try.prog 7 #[.string a0, .string a1, .slice a2 len2 cap2] w fun e w' => e = .returned (.bool true) ∧ Below w.heap.size w w' := by
  have HAW := Lib.hid fun W => awake_any W
  have h' : (600 : Int) < len2 := by omega
  go_enter Try.func7, Try.ntmps7
  go_wp2_with (go_at_call 11; refine (HAW.out _).mono ?_; rintro e w1 ⟨rfl, hb⟩)
  go_ret
  exact ⟨rfl, hb⟩

set_option maxHeartbeats 1600000 in
set_option maxRecDepth 100000 in
theorem moves_bad (a0 a1 : ByteArray) (a2 : Option Addr) (len2 cap2 : Nat) (xs : List Int) (w : World) (s0 : a0.size ≤ maxLen) (s1 : a1.size ≤ maxLen) (hx : Rd w w.heap.size .u8 a2 len2 cap2 xs) (bx : ∀ x ∈ xs, 0 ≤ x ∧ x < 256) (h : len2 ≤ 600)
    (hb : nameOk a0.data.toList = false ∨ nameOk a1.data.toList = false) :
    Calls Try.prog 7 #[.string a0, .string a1, .slice a2 len2 cap2] w fun e w' => e = .returned (.bool true) ∧ Below w.heap.size w w' := by
  have HAW := Lib.hid fun W => awake_any W
  have HNEW := Lib.hid (New_st 1000 w)
  rw [show clampR 1000 = 1000 from rfl] at HNEW
  have hl := hx.len
  have h' : (len2 : Int) ≤ 600 := by omega
  by_cases h0 : nameOk a0.data.toList = false
  · have HA := Lib.hid fun wi (h : St w (w.heap.size + 1) 1000 [] wi) => by
      have := append_st h a0 s0 a2 len2 cap2 xs (st_rd h hx) bx (by decide)
      rwa [nil_app_bad h0] at this
    have HR := Lib.hid fun wi (h : St w (w.heap.size + 1) 1000 [] wi) => by
      have := rename_st h a0 a1 s0 s1 (by decide)
      rwa [nil_ren] at this
    clear hx bx hl hb h0 s0 s1
    go_enter Try.func7, Try.ntmps7
    go_wp2_with (first
      | (go_at_call 12; refine HNEW.out.mono ?_; rintro e w1 ⟨rfl, h1, -⟩)
      | (go_at_call 24; (with_reducible refine (HA.out _ h1).mono ?_); rintro e w2 ⟨rfl, h2⟩; clear h1)
      | (go_at_call 25; (with_reducible refine (HR.out _ h2).mono ?_); rintro e w3 ⟨rfl, h3⟩; clear h2)
      | (go_at_call 11; refine (HAW.out _).mono ?_; rintro e w4 ⟨rfl, hb⟩))
    go_ret
    exact ⟨rfl, h3.below.trans (hb.mono h3.below.size)⟩
  · have h1 : nameOk a1.data.toList = false := by
      rcases hb with e | e
      · exact absurd e h0
      · exact e
    have h0' : nameOk a0.data.toList = true := by simpa using h0
    have HA := Lib.hid fun wi (h : St w (w.heap.size + 1) 1000 [] wi) => by
      have := append_st h a0 s0 a2 len2 cap2 xs (st_rd h hx) bx (by decide)
      rwa [nil_app h0' (by omega)] at this
    have HR := Lib.hid fun wi (h : St w (w.heap.size + 1) 1000 (oneK a0.data.toList xs 0) wi) => by
      have := rename_st h a0 a1 s0 s1 (oneK_len _ _ _)
      rwa [oneK_ren_bad h1] at this
    have HU := Lib.hid fun wi (h : St w (w.heap.size + 1) 1000 (oneK a0.data.toList xs 0) wi) => by
      have := Used_any h.disk
      rwa [oneK_used, hl] at this
    clear hx bx hl hb h0 h0' s0 s1 h1
    go_enter Try.func7, Try.ntmps7
    go_wp2_with (first
      | (go_at_call 12; refine HNEW.out.mono ?_; rintro e w1 ⟨rfl, h1, -⟩)
      | (go_at_call 24; (with_reducible refine (HA.out _ h1).mono ?_); rintro e w2 ⟨rfl, h2⟩; clear h1)
      | (go_at_call 25; (with_reducible refine (HR.out _ h2).mono ?_); rintro e w3 ⟨rfl, h3⟩; clear h2)
      | (go_at_call 23; (with_reducible refine (HU.out _ h3).mono ?_); rintro e w6 ⟨rfl, rfl⟩)
      | (go_at_call 11; refine (HAW.out _).mono ?_; rintro e w4 ⟨rfl, hb⟩))
    go_ret
    exact ⟨rfl, h3.below.trans (hb.mono h3.below.size)⟩

set_option maxHeartbeats 1600000 in
set_option maxRecDepth 100000 in
theorem moves_good (a0 a1 : ByteArray) (a2 : Option Addr) (len2 cap2 : Nat) (xs : List Int) (w : World) (s0 : a0.size ≤ maxLen) (s1 : a1.size ≤ maxLen) (hx : Rd w w.heap.size .u8 a2 len2 cap2 xs) (bx : ∀ x ∈ xs, 0 ≤ x ∧ x < 256) (h : len2 ≤ 600)
    (h0 : nameOk a0.data.toList = true) (h1 : nameOk a1.data.toList = true) :
    Calls Try.prog 7 #[.string a0, .string a1, .slice a2 len2 cap2] w fun e w' => e = .returned (.bool true) ∧ Below w.heap.size w w' := by
  have HAW := Lib.hid fun W => awake_any W
  have HNEW := Lib.hid (New_st 1000 w)
  rw [show clampR 1000 = 1000 from rfl] at HNEW
  have hl := hx.len
  have h' : (len2 : Int) ≤ 600 := by omega
  have HA := Lib.hid fun wi (h : St w (w.heap.size + 1) 1000 [] wi) => by
    have := append_st h a0 s0 a2 len2 cap2 xs (st_rd h hx) bx (by decide)
    rwa [nil_app h0 (by omega)] at this
  have HEQ := Lib.hid fun wi S A c (h : St w (w.heap.size + 1) 1000 S wi) {N} (ho : wi.ownsRow N 5 1 (.slice A len2 c) len2 (xs.map (Value.int .u8))) => by
    obtain ⟨A', c', e', hr⟩ := Rd.of_own ho
    cases e'
    have := Equal_any A a2 _ c _ cap2 _ _ _ _ wi hr (st_rd h hx) bx bx
    rwa [decide_eq_true rfl] at this
  by_cases hst : a0 = a1
  · subst hst
    have HR := Lib.hid fun wi (h : St w (w.heap.size + 1) 1000 (oneK a0.data.toList xs 0) wi) => by
      have := rename_st h a0 a0 s0 s0 (oneK_len _ _ _)
      rwa [oneK_ren_same h0] at this
    have HRD := Lib.hid fun wi (h : St w (w.heap.size + 1) 1000 (oneK a0.data.toList xs 0) wi) => by
      have := read_hit h s0 (oneK_find _ _ _)
      rwa [hl] at this
    have HCR := Lib.hid fun N A c wi (h : St w (w.heap.size + 1) 1000 (oneK a0.data.toList xs 0) wi) ht (ho : wi.ownsRow N 5 1 (.slice A len2 c) len2 (xs.map (Value.int .u8))) => by
      have := crash_keep h ht ho (oneK_len _ _ _)
      rwa [oneK_crash, List.take_zero] at this
    have HU := Lib.hid fun wi (h : St w (w.heap.size + 1) 1000 (oneK a0.data.toList [] 0) wi) => by
      have := Used_any h.disk
      rwa [oneK_used] at this
    have HN := Lib.hid fun wi (h : St w (w.heap.size + 1) 1000 (oneK a0.data.toList [] 0) wi) => names_len (n := 1) h (oneK_len _ _ _) rfl
    clear hx bx hl h0 h1 s0 s1
    go_enter Try.func7, Try.ntmps7
    go_wp2_with (first
      | (go_at_call 12; refine HNEW.out.mono ?_; rintro e w1 ⟨rfl, h1, -⟩)
      | (go_at_call 24; (with_reducible refine (HA.out _ h1).mono ?_); rintro e w2 ⟨rfl, h2⟩; clear h1)
      | (go_at_call 25; (with_reducible refine (HR.out _ h2).mono ?_); rintro e w3 ⟨rfl, h3⟩; clear h2)
      | (go_at_call 20; (with_reducible refine (HRD.out _ h3).mono ?_); rintro e w4 ⟨A4, c4, rfl, ho4, h4, ht4, -⟩; clear h3)
      | (go_at_call 20; (with_reducible refine (HRD.out _ h4).mono ?_); rintro e w5 ⟨A5, c5, rfl, -, h5, -, hb5⟩; have ho5 := own_below ho4 hb5; have ht5 := ht4.later hb5; clear h4 ho4 ht4 hb5)
      | (go_at_call 18; (with_reducible refine (HCR.out _ _ _ _ h5 ht5 ho5).mono ?_); rintro e w6 ⟨rfl, h6, ho6⟩; clear h5 ht5 ho5)
      | (go_at_call 21; (with_reducible refine (HEQ.out _ _ _ _ h6 ho6).mono ?_); rintro e w7 ⟨rfl, rfl⟩; clear ho6)
      | (go_at_call 23; (with_reducible refine (HU.out _ h6).mono ?_); rintro e w8 ⟨rfl, rfl⟩)
      | (go_at_call 19; (with_reducible refine (HN.out _ h6).mono ?_); rintro e w9 ⟨⟨A9, c9, rfl⟩, h9⟩)
      | (go_at_call 11; refine (HAW.out _).mono ?_; rintro e w10 ⟨rfl, hb⟩))
    go_ret
    exact ⟨rfl, h9.below.trans (hb.mono h9.below.size)⟩
  · have hne : a0.data.toList ≠ a1.data.toList := fun e => hst (by
      cases a0; cases a1
      simp at e
      simp [e])
    have hst3 : (a0.toList == a1.toList) = false := by rw [ByteArray.toList_eq, ByteArray.toList_eq]; exact beq_eq_false_iff_ne.2 hne
    have HR := Lib.hid fun wi (h : St w (w.heap.size + 1) 1000 (oneK a0.data.toList xs 0) wi) => by
      have := rename_st h a0 a1 s0 s1 (oneK_len _ _ _)
      rwa [oneK_ren h1 hne, hl] at this
    have HRD := Lib.hid fun wi (h : St w (w.heap.size + 1) 1000 (oneK a1.data.toList xs len2) wi) => by
      have := read_hit h s1 (oneK_find _ _ _)
      rwa [hl] at this
    have HRD2 := Lib.hid fun wi (h : St w (w.heap.size + 1) 1000 (oneK a1.data.toList xs len2) wi) => read_miss h s0 (oneK_find_no hne.symm _ _)
    have HCR := Lib.hid fun N A c wi (h : St w (w.heap.size + 1) 1000 (oneK a1.data.toList xs len2) wi) ht (ho : wi.ownsRow N 5 1 (.slice A len2 c) len2 (xs.map (Value.int .u8))) => by
      have := crash_keep h ht ho (oneK_len _ _ _)
      rwa [oneK_crash, List.take_of_length_le (by omega : xs.length ≤ len2)] at this
    have HU := Lib.hid fun wi (h : St w (w.heap.size + 1) 1000 (oneK a1.data.toList xs len2) wi) => by
      have := Used_any h.disk
      rwa [oneK_used, hl] at this
    have HN := Lib.hid fun wi (h : St w (w.heap.size + 1) 1000 (oneK a1.data.toList xs len2) wi) => names_len (n := 1) h (oneK_len _ _ _) rfl
    clear hx bx hl h0 h1 s0 s1 hne hst
    go_enter Try.func7, Try.ntmps7
    go_wp2_with (first
      | (go_at_call 12; refine HNEW.out.mono ?_; rintro e w1 ⟨rfl, h1, -⟩)
      | (go_at_call 24; (with_reducible refine (HA.out _ h1).mono ?_); rintro e w2 ⟨rfl, h2⟩; clear h1)
      | (go_at_call 25; (with_reducible refine (HR.out _ h2).mono ?_); rintro e w3 ⟨rfl, h3⟩; clear h2)
      | (go_at_call 20; (with_reducible refine (HRD.out _ h3).mono ?_); rintro e w4 ⟨A4, c4, rfl, ho4, h4, ht4, -⟩; clear h3)
      | (go_at_call 20; (with_reducible refine (HRD2.out _ h4).mono ?_); rintro e w5 ⟨rfl, h5, hb5⟩; have ho5 := own_below ho4 hb5; have ht5 := ht4.later hb5; clear h4 ho4 ht4 hb5)
      | (go_at_call 18; (with_reducible refine (HCR.out _ _ _ _ h5 ht5 ho5).mono ?_); rintro e w6 ⟨rfl, h6, ho6⟩; clear h5 ht5 ho5)
      | (go_at_call 21; (with_reducible refine (HEQ.out _ _ _ _ h6 ho6).mono ?_); rintro e w7 ⟨rfl, rfl⟩; clear ho6)
      | (go_at_call 23; (with_reducible refine (HU.out _ h6).mono ?_); rintro e w8 ⟨rfl, rfl⟩)
      | (go_at_call 19; (with_reducible refine (HN.out _ h6).mono ?_); rintro e w9 ⟨⟨A9, c9, rfl⟩, h9⟩)
      | (go_at_call 11; refine (HAW.out _).mono ?_; rintro e w10 ⟨rfl, hb⟩))
    go_ret
    exact ⟨rfl, h9.below.trans (hb.mono h9.below.size)⟩

theorem moves_any (a0 a1 : ByteArray) (a2 : Option Addr) (len2 cap2 : Nat) (xs : List Int) (w : World) (s0 : a0.size ≤ maxLen) (s1 : a1.size ≤ maxLen) (hx : Rd w w.heap.size .u8 a2 len2 cap2 xs) (bx : ∀ x ∈ xs, 0 ≤ x ∧ x < 256) :
    Calls Try.prog 7 #[.string a0, .string a1, .slice a2 len2 cap2] w fun e w' => e = .returned (.bool true) ∧ Below w.heap.size w w' := by
  have q0 := hx.cap
  have q1 := hx.max
  unfold maxLen at q1
  by_cases h : 600 < len2
  · exact moves_long a0 a1 a2 len2 cap2 w (by omega) h
  · by_cases hb : nameOk a0.data.toList = false ∨ nameOk a1.data.toList = false
    · exact moves_bad a0 a1 a2 len2 cap2 xs w s0 s1 hx bx (by omega) hb
    · have h0 : ¬ nameOk a0.data.toList = false := fun e => hb (.inl e)
      have h1 : ¬ nameOk a1.data.toList = false := fun e => hb (.inr e)
      exact moves_good a0 a1 a2 len2 cap2 xs w s0 s1 hx bx (by omega) (by simpa using h0) (by simpa using h1)
end Go.Proofs.Ytlpodamjehdmhaa
