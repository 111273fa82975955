/- What is proved here: what the document's own New, Used and At answer. -/
import Derived.Test.YtpolkhippblcmaaRef
namespace Go.Proofs.Ytpolkhippblcmaa
open Go Go.RowKit Go.Maps

set_option maxHeartbeats 400000 in
theorem refNew_any (n : Int) (w : World) :
    Calls Try.prog 9 #[.int .i64 n] w fun e w' => e = .returned (.agg #[.int .i64 (clampR n), .slice none 0 0]) ∧ Below w.heap.size w w' := by
  have hc : n < 0 ∨ (0 ≤ n ∧ 1048576 < n) ∨ (0 ≤ n ∧ n ≤ 1048576) := by omega
  rcases hc with h | ⟨h, h2⟩ | ⟨h, h2⟩
  · have HC : Hid (clampR n = 0) := Lib.hid (by unfold clampR; omega)
    go_enter Try.func9, Try.ntmps9
    go_wp2
    rw [HC.out]
    exact bodyPost_ret (v := .agg #[.int .i64 0, .slice none 0 0]) (by simp [results, Try.results9, go_sem]) rfl ⟨rfl, by first | exact (Below.refl _ _).alloc (Nat.le_refl _) _ | exact (((Below.refl _ _).alloc (Nat.le_refl _) _).setCell (by simp) _).setCell (by simp) _⟩
  · have HC : Hid (clampR n = 1048576) := Lib.hid (by unfold clampR; omega)
    go_enter Try.func9, Try.ntmps9
    go_wp2
    rw [HC.out]
    exact bodyPost_ret (v := .agg #[.int .i64 1048576, .slice none 0 0]) (by simp [results, Try.results9, go_sem]) rfl ⟨rfl, by first | exact (Below.refl _ _).alloc (Nat.le_refl _) _ | exact (((Below.refl _ _).alloc (Nat.le_refl _) _).setCell (by simp) _).setCell (by simp) _⟩
  · have HC : Hid (clampR n = n) := Lib.hid (by unfold clampR; omega)
    go_enter Try.func9, Try.ntmps9
    go_wp2
    rw [HC.out]
    exact bodyPost_ret (v := .agg #[.int .i64 n, .slice none 0 0]) (by simp [results, Try.results9, go_sem]) rfl ⟨rfl, by first | exact (Below.refl _ _).alloc (Nat.le_refl _) _ | exact (((Below.refl _ _).alloc (Nat.le_refl _) _).setCell (by simp) _).setCell (by simp) _⟩

section
variable {w : World} {Ψ : Nat → Prop} {A : Option Addr} {n c : Nat} {L : List RV} {room : Int}
theorem used_snoc (L : List RV) (x : RV) : usedN ((L ++ [x]).map RV.f) = usedN (L.map RV.f) + x.b.length := by
  simp [usedN, RV.f]

set_option maxHeartbeats 800000 in
theorem refUsed_any (h : RRd w Ψ A n c L) (hn : n ≤ 1000000) :
    Calls Try.prog 25 #[.agg #[.int .i64 room, .slice A n c]] w fun e w' => e = .returned (.int .i64 (usedN (L.map RV.f))) ∧ Below w.heap.size w w' := by
  obtain ⟨W, hW⟩ : ∃ W, W = w.alloc (.cells #[.int .i64 room, .slice A n c] 29) := ⟨_, rfl⟩
  have hb : Below w.heap.size w W := by rw [hW]; exact (Below.refl _ _).alloc (Nat.le_refl _) _
  have hr := h.later hb
  have hc := h.cap
  have hm := h.max
  unfold maxLen at hm
  have HR := Lib.hid hr
  have HB := Lib.hid hb
  have HL := Lib.hid h.len
  have q1 : W.cell? ⟨w.heap.size, 1, none⟩ = some (.slice A n c) := by rw [hW]; simp
  have HW := Lib.hid hW
  clear h hr hb hW
  go_enter Try.func25, Try.ntmps25
  go_wp2
  rw [← HW.out]
  go_loop [3, 4] (fun t i => ∃ k U : Nat, i = .int .i64 k ∧ t = .int .i64 U ∧ k ≤ n ∧ U ≤ k * 1048576 ∧ Hid (usedN ((L.take k).map RV.f) = U)) (fun _ i => n - (intOf i).toNat)
  case atStart => exact ⟨0, 0, rfl, rfl, Nat.zero_le _, by omega, Lib.hid rfl⟩
  case round =>
    obtain ⟨k, U, rfl, rfl, hk, hU, HU⟩ := hrel
    by_cases hkn : k < n
    · obtain ⟨x, b, o, hx, _, rfl, hbB, hcell, hok⟩ := HR.out.at hkn
      have e1 : W.cell? ⟨b, o + k * 3 + 1, none⟩ = some (.slice x.A x.b.length x.c) := hcell 1 _ rfl
      have hxl := hok.len
      have HU2 : Hid (usedN ((L.take (k + 1)).map RV.f) = U + x.b.length) := Lib.hid (by
        rw [List.take_add_one, hx]
        show usedN ((L.take k ++ [x]).map RV.f) = _
        rw [used_snoc, HU.out])
      generalize x.b.length = xl at *
      generalize x.A = xA at *
      generalize x.c = xc at *
      have hkn' : (k : Int) < n := by omega
      clear hcell hok hx
      go_wp2
      go_round
      case rel => exact ⟨k + 1, U + xl, by go_num, by go_num, by omega, by omega, HU2⟩
      case measure => simp [intOf]; omega
    · obtain rfl : k = n := by omega
      have HU2 : Hid (usedN (L.map RV.f) = U) := Lib.hid (by
        have := HU.out
        rwa [List.take_of_length_le (by rw [HL.out]; exact Nat.le_refl _)] at this)
      go_wp2
      go_ret
      exact ⟨by rw [HU2.out]; rfl, HB.out⟩

/-- What At answers. -/
def AtSaid (L : List RV) (k : List UInt8) (e : Ending) : Prop :=
  (e = .returned (.int .i64 (-1)) ∧ ∀ x ∈ L, x.nm ≠ k) ∨ ∃ (j : Nat) (x : RV), L[j]? = some x ∧ x.nm = k ∧ e = .returned (.int .i64 j)
set_option maxHeartbeats 800000 in
theorem refAt_any (h : RRd w Ψ A n c L) (s : ByteArray) :
    Calls Try.prog 23 #[.agg #[.int .i64 room, .slice A n c], .string s] w fun e w' => AtSaid L s.data.toList e ∧ Below w.heap.size w w' := by
  obtain ⟨W, hW⟩ : ∃ W, W = w.alloc (.cells #[.int .i64 room, .slice A n c] 29) := ⟨_, rfl⟩
  have hb : Below w.heap.size w W := by rw [hW]; exact (Below.refl _ _).alloc (Nat.le_refl _) _
  have hr := h.later hb
  have hc := h.cap
  have hm := h.max
  unfold maxLen at hm
  have HR := Lib.hid hr
  have HB := Lib.hid hb
  have HL := Lib.hid h.len
  have q1 : W.cell? ⟨w.heap.size, 1, none⟩ = some (.slice A n c) := by rw [hW]; simp
  have HW := Lib.hid hW
  clear h hr hb hW
  go_enter Try.func23, Try.ntmps23
  go_wp2
  rw [← HW.out]
  go_loop [5] (fun i => ∃ k : Nat, i = .int .i64 k ∧ k ≤ n ∧ Hid (∀ x ∈ L.take k, x.nm ≠ s.data.toList)) (fun i => n - (intOf i).toNat)
  case atStart => exact ⟨0, rfl, Nat.zero_le _, Lib.hid fun x hx => by simp at hx⟩
  case round =>
    obtain ⟨k, rfl, hk, HN⟩ := hrel
    by_cases hkn : k < n
    · obtain ⟨x, b, o, hx, _, rfl, hbB, hcell, hok⟩ := HR.out.at hkn
      have e0 : W.cell? ⟨b, o + k * 3, none⟩ = some (.string x.sv) := hcell 0 _ rfl
      have hkn' : (k : Int) < n := by omega
      have HX := Lib.hid hx
      clear hcell hok hx
      by_cases he : x.sv.data.toList = s.data.toList
      · have hd : (x.sv.toList == s.toList) = true := by rw [ByteArray.toList_eq, ByteArray.toList_eq, he]; simp
        have HE := Lib.hid he
        clear he
        go_wp2
        go_ret
        exact ⟨.inr ⟨k, x, HX.out, HE.out, rfl⟩, HB.out⟩
      · have hd : (x.sv.toList == s.toList) = false := by rw [ByteArray.toList_eq, ByteArray.toList_eq]; exact beq_eq_false_iff_ne.2 he
        have HE := Lib.hid he
        clear he
        go_wp2
        go_round
        case rel =>
          refine ⟨k + 1, by go_num, by omega, Lib.hid fun y hy => ?_⟩
          rw [List.take_add_one, HX.out] at hy
          rcases List.mem_append.1 hy with hy | hy
          · exact HN.out y hy
          · simp at hy
            rw [hy]
            exact HE.out
        case measure => simp [intOf]; omega
    · obtain rfl : k = n := by omega
      go_wp2
      go_ret
      refine ⟨.inl ⟨rfl, fun x hx => HN.out x ?_⟩, HB.out⟩
      rwa [List.take_of_length_le (by rw [HL.out]; exact Nat.le_refl _)]
end
end Go.Proofs.Ytpolkhippblcmaa
