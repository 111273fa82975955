/- What is proved here: 'CoilRows' returns true for any list of numbers, whatever the memory in which it is called, and nothing that was there has changed. -/
import Derived.Test.YtogennogjnleaaaApart
import Derived.OpenShut
namespace Go.Proofs.Ytogennogjnleaaa
open Go Go.RowKit

/-- What came in as a row reads as a list. -/
theorem Rd.of_row {w : World} {k : IntKind} {a : Option Addr} {len cap : Nat} {zs : List Int}
    (h : (a = none ∧ len = 0 ∧ cap = 0 ∧ zs = []) ∨ ∃ x, a = some x ∧ len ≤ cap ∧ cap ≤ maxLen ∧ zs.length = cap ∧ (∀ i, i < zs.length → w.cell? (x.add i) = some (.int k (zs.getD i 0))) ∧ ∀ n ∈ zs, (Lit.int k n).wf = true) :
    Rd w w.heap.size k a len cap (zs.take len) ∧ ∀ n ∈ zs.take len, (Lit.int k n).wf = true := by
  rcases h with ⟨rfl, rfl, rfl, rfl⟩ | ⟨x, rfl, hl, hm, hz, hc, hw⟩
  · exact ⟨Rd.none_ _ _ _, fun n hn => by simp at hn⟩
  · refine ⟨⟨by rw [List.length_take, hz]; omega, hl, hm, (fun h => by cases h), fun j u hu => ?_⟩, fun n hn => hw n (List.mem_of_mem_take hn)⟩
    have hj : j < zs.length := by
      have := (List.getElem?_eq_some_iff.1 hu).1
      rw [List.length_take] at this
      omega
    obtain ⟨b, o, rfl, hcell⟩ := ints_at hc (by omega)
    have h1 := hcell j hj
    refine ⟨b, o, rfl, World.block_lt_of_cell? w _ h1, ?_⟩
    rw [h1]
    rw [List.getElem?_take] at hu
    split at hu
    · rw [List.getD_eq_getElem?_getD, hu]
      rfl
    · cases hu
theorem wf_list {zs : List Int} (h : ∀ n ∈ zs, (Lit.int .i64 n).wf = true) : ∀ x ∈ zs, -9223372036854775808 ≤ x ∧ x ≤ 9223372036854775807 := fun x hx => bounds_i64 (h x hx)
theorem wf_bytes {zs : List Int} (h : ∀ n ∈ zs, (Lit.int .u8 n).wf = true) : ∀ x ∈ zs, 0 ≤ x ∧ x < 256 := fun x hx => by
  have := bounds_u8 (h x hx)
  omega

set_option maxHeartbeats 800000 in
set_option maxRecDepth 100000 in
theorem rows_short (A : Option Addr) (n c : Nat) (l : List Int) (w : World) (hl : Rd w w.heap.size .i64 A n c l) (hr : ∀ x ∈ l, -9223372036854775808 ≤ x ∧ x ≤ 9223372036854775807) (hn : n ≤ 400) :
    Calls Try.prog 6 #[.slice A n c] w fun e w' => e = .returned (.bool true) ∧ Below w.heap.size w w' := by
  have HL := Lib.hid hl.len
  have h9 : (enc n).length ≤ 9 := enc_len9 (by omega)
  have hall : ∀ j, (enc n ++ encAll (l.take j)).length ≤ 1000000 := fun j => by
    have h1 := encAll_len (l.take j) (fun x hx => (hr x (List.mem_of_mem_take hx)).2)
    have h2 := List.length_take_le' j l
    rw [HL.out] at h2
    rw [List.length_append]
    omega
  have HALL := Lib.hid hall
  have HR := Lib.hid hr
  clear hall hr
  go_enter Try.func6, Try.ntmps6
  go_wp2_with fail
  refine (Num_any none 0 0 [] _ w (Rd.none_ _ _ _) (by omega) (by omega) (by omega)).mono ?_
  rintro e w1 ⟨v1, rfl, hown1, hb1⟩
  rw [List.nil_append, Int.toNat_natCast] at hown1
  obtain ⟨A1, n1, c1, rfl, hr1⟩ := Rd.of_own' hown1
  clear hown1
  go_wp2_with fail
  go_loopw [3, 15] (fun v3 v15 wr => ∃ (j : Nat) (Ab : Option Addr) (nb cb : Nat), v15 = .int .i64 j ∧ j ≤ n ∧ v3 = .slice Ab nb cb ∧ Rd wr wr.heap.size .u8 Ab nb cb (enc n ++ encAll (l.take j)) ∧ Below w.heap.size w wr)
    (fun _ i _ => n - (intOf i).toNat)
  case atStart => exact ⟨0, A1, n1, c1, rfl, Nat.zero_le _, rfl, by simpa [encAll_nil] using hr1, hb1⟩
  case round =>
    obtain ⟨j, Ab, nb, cb, rfl, hj, rfl, hrb, hb⟩ := hrel
    clear hr1 hb1
    by_cases hlt : j < n
    · obtain ⟨b, o, rfl, hbl, hcell⟩ := hl.cell hlt
      have hcell' := (hb.cell (p := ⟨b, o + j, none⟩) hbl).trans hcell
      have HS := Lib.hid (take_snoc l j (by rw [HL.out]; exact hlt))
      have hrj := HR.out (l.getD j 0) (by
        rw [List.getD_eq_getElem?_getD, List.getElem?_eq_getElem (by rw [HL.out]; exact hlt)]
        exact List.getElem_mem _)
      have hnb : nb ≤ 1000000 := by rw [← hrb.len]; exact HALL.out j
      clear hcell
      generalize l.getD j 0 = x at *
      go_wp2_with fail
      refine (Num_any Ab nb cb _ x wr hrb hnb hrj.1 hrj.2).mono ?_
      rintro e w2 ⟨v2, rfl, hown2, hb2⟩
      obtain ⟨A2, n2, c2, rfl, hr2⟩ := Rd.of_own' hown2
      clear hown2
      go_wp2_with fail
      go_roundw
      case rel =>
        refine ⟨j + 1, A2, n2, c2, by go_num, by omega, rfl, ?_, hb.trans (hb2.mono hb.size)⟩
        rw [HS.out, encAll_snoc, ← List.append_assoc]
        exact hr2
      case measure => simp [intOf]; omega
    · have hjn : j = n := by omega
      have HT : Hid (l.take j = l) := Lib.hid (List.take_of_length_le (by rw [HL.out]; omega))
      clear hjn
      rw [HT.out] at hrb
      go_wp2_with fail
      refine (Nums_any none 0 0 [] A n c l wr (Rd.none_ _ _ _) ((hl.below hb).more hb.size) (by omega) (by omega) HR.out).mono ?_
      rintro e w3 ⟨v3, rfl, hown3, hb3⟩
      rw [List.nil_append] at hown3
      obtain ⟨A3, n3, c3, rfl, hr3⟩ := Rd.of_own' hown3
      clear hown3
      have H4 := Equal_any A3 Ab n3 c3 nb cb _ _ _ _ w3 hr3 (hrb.below hb3) (app_bytes (enc_bytes _) (encAll_bytes _)) (app_bytes (enc_bytes _) (encAll_bytes _))
      rw [decide_eq_true rfl] at H4
      have HH4 := Lib.hid H4
      clear H4
      go_wp2_with fail
      refine HH4.out.mono ?_
      rintro e w3' ⟨rfl, rfl⟩
      have hb4 := hb.trans (hb3.mono hb.size)
      go_wp2_with fail
      refine (awake_any w3).mono ?_
      rintro e w5 ⟨rfl, hb5⟩
      go_wp2_with fail
      go_ret
      exact ⟨rfl, hb4.trans (hb5.mono hb4.size)⟩

set_option maxHeartbeats 400000 in
theorem rows_any (A : Option Addr) (n c : Nat) (l : List Int) (w : World) (hl : Rd w w.heap.size .i64 A n c l) (hr : ∀ x ∈ l, -9223372036854775808 ≤ x ∧ x ≤ 9223372036854775807) :
    Calls Try.prog 6 #[.slice A n c] w fun e w' => e = .returned (.bool true) ∧ Below w.heap.size w w' := by
  by_cases h1 : n ≤ 400
  · exact rows_short A n c l w hl hr h1
  · have h1' : (400 : Int) < n := by omega
    go_enter Try.func6, Try.ntmps6
    go_wp2_with (go_at_call 7; refine (awake_any w).mono ?_; rintro e w1 ⟨rfl, hb1⟩)
    go_ret
    exact ⟨rfl, hb1⟩
end Go.Proofs.Ytogennogjnleaaa
