/- What is proved here: what the document's own answers for a text and a list return: their bytes, in new memory. -/
import Derived.Test.YtkdncnhjlgidnaaGreatDoorRef
namespace Go.Proofs.YtkdncnhjlgidnaaGreatDoor
open Go Go.RowKit

set_option maxHeartbeats 400000 in
theorem refText_any (s : ByteArray) (w : World) (hs : s.size ≤ 1000000) :
    Calls Tryz.prog 28 #[.string s] w fun e w' =>
      ∃ v, e = .returned v ∧ w'.ownsRow w.heap.size 5 1 v (enc s.size ++ nums s).length ((enc s.size ++ nums s).map (Value.int .u8)) ∧ Below w.heap.size w w' := by
  have h9 : (enc s.size).length ≤ 9 := enc_len9 (by omega)
  obtain ⟨i0, hi, hz0, hz1, hz2⟩ := info_parts info_u8
  go_enter Tryz.func28, Tryz.ntmps28
  go_wp2_with fail
  refine (refNum_any _ _ w (Nat.le_refl _) (by omega) (by omega)).mono ?_
  rintro e w1 ⟨v1, rfl, hown1, hb1⟩
  rw [Int.toNat_natCast] at hown1
  go_wp2_with (at_builtin
               refine Lib.wpList_append_own_string _ rfl _ _ 22 9 rfl w.heap.size 5 i0 Tryz.underlying22 Tryz.underlying9 hi hz0 hz1 hz2 v1 _ _ rfl hown1 s rfl (by unfold maxLen; omega) (by omega) hb1.size ?_
               intro v3 w3 hown3 hg3 _)
  go_ret
  rw [strCells_nums, ← List.map_append] at hown3
  refine ⟨v3, rfl, ?_, hb1.grown hg3 hb1.size (fun k hk => (hown1.lt k hk).1)⟩
  rw [show (enc s.size ++ nums s).length = (enc s.size).length + s.size by rw [List.length_append, nums_length]]
  exact hown3

set_option maxHeartbeats 800000 in
set_option maxRecDepth 100000 in
theorem refNums_any (A : Option Addr) (n c : Nat) (l : List Int) (w : World) (hl : Rd w w.heap.size .i64 A n c l) (hr : ∀ x ∈ l, -9223372036854775808 ≤ x ∧ x ≤ 9223372036854775807) (hn : n ≤ 10000) :
    Calls Tryz.prog 27 #[.slice A n c] w fun e w' =>
      ∃ v, e = .returned v ∧ w'.ownsRow w.heap.size 5 1 v (enc n ++ encAll l).length ((enc n ++ encAll l).map (Value.int .u8)) ∧ Below w.heap.size w w' := by
  have HL := Lib.hid hl.len
  have h9 : (enc n).length ≤ 9 := enc_len9 (by omega)
  obtain ⟨i0, hi, hz0, hz1, hz2⟩ := info_parts info_u8
  have hall : ∀ j, (enc n ++ encAll (l.take j)).length ≤ 1000000 := fun j => by
    have h1 := encAll_len (l.take j) (fun x hx => (hr x (List.mem_of_mem_take hx)).2)
    have h2 := List.length_take_le' j l
    rw [HL.out] at h2
    rw [List.length_append]
    omega
  have HALL := Lib.hid hall
  have HR := Lib.hid hr
  clear hall hr
  go_enter Tryz.func27, Tryz.ntmps27
  go_wp2_with fail
  refine (refNum_any _ _ w (Nat.le_refl _) (by omega) (by omega)).mono ?_
  rintro e w1 ⟨v1, rfl, hown1, hb1⟩
  rw [Int.toNat_natCast] at hown1
  go_wp2_with fail
  go_loopw [3, 4] (fun v3 v4 wr => ∃ (j N : Nat), v4 = .int .i64 j ∧ j ≤ n ∧ Hid (N = (enc n ++ encAll (l.take j)).length) ∧ N ≤ 1000000 ∧ wr.ownsRow w.heap.size 5 1 v3 N ((enc n ++ encAll (l.take j)).map (Value.int .u8)) ∧ Below w.heap.size w wr)
    (fun _ i _ => n - (intOf i).toNat)
  case atStart => exact ⟨0, (enc n).length, rfl, Nat.zero_le _, Lib.hid (by simp [encAll_nil]), by omega, by simpa [encAll_nil] using hown1, hb1⟩
  case round =>
    obtain ⟨j, N, rfl, hj, hN, hN2, hown, hb⟩ := hrel
    clear hown1 hb1
    by_cases hlt : j < n
    · obtain ⟨b, o, rfl, hbl, hcell⟩ := hl.cell hlt
      have hcell' := (hb.cell (p := ⟨b, o + j, none⟩) hbl).trans hcell
      have HS := Lib.hid (take_snoc l j (by rw [HL.out]; exact hlt))
      have hrj := HR.out (l.getD j 0) (by
        rw [List.getD_eq_getElem?_getD, List.getElem?_eq_getElem (by rw [HL.out]; exact hlt)]
        exact List.getElem_mem _)
      have hN3 := HALL.out (j + 1)
      rw [HS.out, encAll_snoc, ← List.append_assoc, List.length_append, ← hN.out] at hN3
      clear hcell
      generalize l.getD j 0 = x at *
      have hep := enc_pos x.toNat
      go_wp2_with fail
      refine (refNum_any _ x wr (Nat.le_refl _) hrj.1 hrj.2).mono ?_
      rintro e w2 ⟨v2, rfl, hown2, hb2⟩
      have hown0 := own_below hown hb2
      obtain ⟨g1, cap1, rfl, hg1, hg2, hcell1⟩ := own_place hown2 hep
      have hz1 := hb.size
      have hz2' := hb2.size
      go_wp2_with (at_builtin
                   refine wpList_append_keep rfl _ _ 22 rfl w.heap.size 5 i0 _ 1 Tryz.underlying22 hi hz0 (by assumption) (by assumption) rfl _ N ((enc n ++ encAll (l.take j)).map (Value.int .u8)) rfl hown0 ⟨g1, 0, none⟩ _ _ ((enc x.toNat).map (Value.int .u8)) rfl (by simp) hcell1 (ints_oneCell _ _) (by unfold maxLen; omega) (by omega) (by omega) ?_
                   intro v3 w3 hown3 hown4 hg3)
      go_roundw
      case rel =>
        refine ⟨j + 1, N + (enc x.toNat).length, by go_num, by omega, Lib.hid ?_, by omega, ?_, (hb.trans (hb2.mono hz1)).grown hg3 (by omega) (fun k hk => (hown0.lt k hk).1)⟩
        · rw [HS.out, encAll_snoc, ← List.append_assoc, List.length_append, ← hN.out]
        · rw [HS.out, encAll_snoc, ← List.append_assoc, List.map_append]
          exact hown3
      case measure => simp [intOf]; omega
    · have hjn : j = n := by omega
      have HT : Hid (l.take j = l) := Lib.hid (List.take_of_length_le (by rw [HL.out]; omega))
      clear hjn
      rw [HT.out] at hown hN
      go_wp2_with fail
      go_ret
      rw [← hN.out]
      exact ⟨_, rfl, hown, hb⟩
end Go.Proofs.YtkdncnhjlgidnaaGreatDoor
