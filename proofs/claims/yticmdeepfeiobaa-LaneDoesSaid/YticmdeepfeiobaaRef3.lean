/- What is proved here: what the document's Of answers, and the law's 'same'. -/
import Derived.Test.YticmdeepfeiobaaRef2
namespace Go.Proofs.Yticmdeepfeiobaa
open Go Go.RowKit Go.Maps Go.WideMaps

theorem ofG_more {L : List Th} {j : Nat} {x : Th} {s : ByteArray} (hx : L[j]? = some x) (hk : x.g = s) : ofG (L.take (j + 1)) s = ofG (L.take j) s ++ [x.id] := by
  rw [take_more hx, ← hk, ofG_add_same]
theorem ofG_less {L : List Th} {j : Nat} {x : Th} {s : ByteArray} (hx : L[j]? = some x) (hk : x.g ≠ s) : ofG (L.take (j + 1)) s = ofG (L.take j) s := by
  rw [take_more hx, ofG_add_other _ _ fun e => hk e.symm]
/-- A row of numbers that is being made. -/
def MakingI (w0 : World) (O : List Int) (v : Value) (w : World) : Prop := w.ownsRow w0.heap.size 3 1 v O.length (O.map (Value.int .i64)) ∧ Below w0.heap.size w0 w

set_option maxHeartbeats 1600000 in
set_option maxRecDepth 100000 in
theorem refOf_any {w : World} {base n c : Nat} {A : Option Addr} {L : List Th} (h : TRow w base A n c L) (hn : n < 900000) (s : ByteArray) :
    Calls Try.prog 21 #[.slice A n c, .string s] w (RowSaid (ofG L s) w) := by
  have HR := Lib.hid h
  have HL := Lib.hid h.len
  obtain ⟨hnc, hcm⟩ := h.caps
  obtain ⟨i0, hi, hz0, hz1, hz2⟩ := info_parts info_int
  have HALL : Hid (ofG (L.take n) s = ofG L s) := Lib.hid (by rw [List.take_of_length_le (by rw [HL.out]; exact Nat.le_refl _)])
  clear h
  go_enter Try.func21, Try.ntmps21
  go_wp2
  go_loopw [5, 6] (fun v i wr => ∃ (j n2 : Nat) (A2 : Option Addr) (c2 : Nat), i = .int .i64 j ∧ v = .slice A2 n2 c2 ∧ j ≤ n ∧ n2 ≤ j ∧ Hid (n2 = (ofG (L.take j) s).length) ∧ Hid (MakingI w (ofG (L.take j) s) (.slice A2 n2 c2) wr)) (fun _ i _ => n - (intOf i).toNat)
  case atStart => exact ⟨0, 0, none, 0, rfl, rfl, Nat.zero_le _, Nat.le_refl _, Lib.hid (by simp [ofG]), Lib.hid (by rw [List.take_zero]; exact ⟨World.ownsRow_nil _ _ _ _, Below.refl _ _⟩)⟩
  case round =>
    obtain ⟨j, n2, A2, c2, rfl, rfl, hj, hn2j, HN2, HM⟩ := hrel
    by_cases hjn : j < n
    · obtain ⟨x, hx⟩ : ∃ x, L[j]? = some x := ⟨_, List.getElem?_eq_getElem (by rw [HL.out]; exact hjn)⟩
      obtain ⟨b, hA, hbl, r0, r1⟩ := (HR.out.below HM.out.2).cell hx
      subst hA
      have hjn' : (j : Int) < n := by omega
      by_cases hk : x.g = s
      · have HSZ := Lib.hid HM.out.2.size
        have hMO := HM.out
        unfold MakingI at hMO
        rw [← HN2.out] at hMO
        have HMO := Lib.hid hMO
        have HAP : Hid (∀ v2 w2, w2.ownsRow w.heap.size 3 1 v2 (n2 + 1) ((ofG (L.take j) s).map (Value.int .i64) ++ [.int .i64 x.id]) → (wr.alloc (.cells #[.int .i64 x.id] 3)).grownBy w2 (Value.slice A2 n2 c2).ownBlock → ∃ A3 c3, v2 = .slice A3 (n2 + 1) c3 ∧ n2 + 1 = (ofG (L.take (j + 1)) s).length ∧ MakingI w (ofG (L.take (j + 1)) s) (.slice A3 (n2 + 1) c3) w2) := Lib.hid fun v2 w2 ho hg => by
          obtain ⟨A3, c3, rfl⟩ := own_slice2 ho
          have e9 : n2 + 1 = (ofG (L.take (j + 1)) s).length := by rw [ofG_more hx hk, List.length_append, ← HN2.out]; rfl
          refine ⟨A3, c3, rfl, e9, ?_, (HM.out.2.alloc HM.out.2.size _).grown hg (by simp; have := HM.out.2.size; omega) fun i hi => (HM.out.1.lt i hi).1⟩
          rw [← e9, ofG_more hx hk, List.map_append]
          exact ho
        have hst : (x.g.toList == s.toList) = true := by rw [str_eq]; simpa using hk
        have HXG := Lib.hid hk
        clear hk hx hMO
        generalize ofG (L.take j) s = O at *
        go_wp2_with (at_builtin; refine wpList_append_src (o := ⟨some 27, _, _, _, _, _⟩) rfl (.tmp 20) (.tmp 26) 34 rfl w.heap.size 3 i0 _ 1 8 Try.underlying34 hi hz0 hz1 hz2 rfl (by omega) _ n2 (O.map (Value.int .i64)) rfl (HMO.out.1.alloc _) (some ⟨wr.heap.size, 0, none⟩) 1 1 [.int .i64 x.id] rfl rfl (fun e => by cases e) (news_new wr _ _) (one_cell _ _) (by unfold maxLen; omega) (by omega) (by have := HSZ.out; simp; omega) ?_; intro v2 w2 ho2 hg2; obtain ⟨A3, c3, rfl, hn3, hM3⟩ := HAP.out _ _ ho2 hg2; have HN3 := Lib.hid hn3; have HM3 := Lib.hid hM3; clear ho2 hg2 hn3 hM3)
        go_roundw
        case rel => exact ⟨j + 1, n2 + 1, A3, c3, by go_num, rfl, by omega, by omega, HN3, HM3⟩
        case measure => simp [intOf]; omega
      · have HN3 : Hid (n2 = (ofG (L.take (j + 1)) s).length ∧ ∀ wr', MakingI w (ofG (L.take j) s) (.slice A2 n2 c2) wr' → MakingI w (ofG (L.take (j + 1)) s) (.slice A2 n2 c2) wr') := Lib.hid ⟨by rw [ofG_less hx hk]; exact HN2.out, fun wr' hm => by rw [ofG_less hx hk]; exact hm⟩
        have hst : (x.g.toList == s.toList) = false := by rw [str_eq]; simpa using hk
        clear hk hx
        go_wp2
        go_roundw
        case rel => exact ⟨j + 1, n2, A2, c2, by go_num, rfl, by omega, by omega, Lib.hid HN3.out.1, Lib.hid (HN3.out.2 _ HM.out)⟩
        case measure => simp [intOf]; omega
    · obtain rfl : j = n := by omega
      have HE : Hid (RowSaid (ofG L s) w (.returned (.slice A2 n2 c2)) wr) := Lib.hid (by
        have h1 := HM.out
        have h2 := HN2.out
        rw [HALL.out] at h1 h2
        subst h2
        exact ⟨A2, c2, rfl, h1.1, h1.2⟩)
      have hd0 : decide ((j : Int) < (j : Int)) = false := decide_eq_false (by omega)
      go_wp2
      go_ret
      exact HE.out
end Go.Proofs.Yticmdeepfeiobaa
