/- What is proved here: what frame.sumOf returns: the checksum of its parts, one behind the other; new memory is made, and none that was there is changed. -/
import Derived.Test.YtbdfhlgpbhcjcaaEff
import Derived.Deep.WholeRow
namespace Go.Proofs.Ytbdfhlgpbhcjcaa
open Go Go.RowKit

theorem ret_u32 {a b : Int} (h : a = b) : Ending.returned (.int .u32 a) = .returned (.int .u32 b) := by rw [h]
/-- One byte, as the code takes it in. -/
theorem upd_code (s c : Nat) (hs : s < 4294967296) (hc : c < 256) : ∃ s1 s2 f1 f2 : Nat, s1 < 4294967296 ∧ s2 < 4294967296 ∧ f1 = four (s1 % 16) ∧ f2 = four (s2 % 16) ∧ upd s c < 4294967296 ∧
    bits .xor .u32 (s : Int) (c : Int) = (s1 : Int) ∧ bits .xor .u32 ((s1 : Int) / 16) (f1 : Int) = (s2 : Int) ∧ bits .xor .u32 ((s2 : Int) / 16) (f2 : Int) = ((upd s c : Nat) : Int) := by
  have h1 : s ^^^ c < 2 ^ 32 := Nat.xor_lt_two_pow hs (by omega)
  have h2 := four_lt h1
  have hf : ∀ t : Nat, four (t % 16) < 2 ^ 32 := fun t => four_lt (by omega)
  refine ⟨s ^^^ c, four (s ^^^ c), _, _, h1, h2, rfl, rfl, upd_lt hs hc, u32_xor_nat _ _ hs (by omega), ?_, ?_⟩
  · rw [show ((s ^^^ c : Nat) : Int) / 16 = ((s ^^^ c : Nat) / 16 : Nat) by omega, u32_xor_nat _ _ (by omega) (hf _), ← four_split]
  · unfold upd
    rw [show ((four (s ^^^ c) : Nat) : Int) / 16 = ((four (s ^^^ c) : Nat) / 16 : Nat) by omega, u32_xor_nat _ _ (by omega) (hf _), ← four_split]

/-- A part: where it lies, how many, and its bytes. -/
structure Part where
  adr : Option Addr
  len : Nat
  cap : Nat
  all : List Int
def Part.val (p : Part) : Value := .slice p.adr p.len p.cap
def Part.ok (w : World) (B : Nat) (p : Part) : Prop := Rd w B .u8 p.adr p.len p.cap p.all ∧ ∀ x ∈ p.all, 0 ≤ x ∧ x < 256
/-- The parts' bytes. -/
def bytesOf (l : List Part) : List Int := l.flatMap Part.all
theorem bytesOf_snoc (l : List Part) (p : Part) : bytesOf (l ++ [p]) = bytesOf l ++ p.all := by unfold bytesOf; simp

set_option maxHeartbeats 800000 in
set_option maxRecDepth 100000 in
theorem sumOf_any (b o n c : Nat) (l : List Part) (w : World) (hl : l.length = n) (hc : n ≤ c) (hm : n ≤ 1000) (hcell : ∀ j p, l[j]? = some p → w.cell? ⟨b, o + j, none⟩ = some p.val) (hbw : b < w.heap.size)
    (hok : ∀ p ∈ l, p.ok w w.heap.size ∧ p.len ≤ 1000000) :
    Calls Try.prog 20 #[.slice (some ⟨b, o, none⟩) n c] w fun e w' => e = .returned (.int .u32 (sumL (bytesOf l))) ∧ Below w.heap.size w w' := by
  have HL := Lib.hid hl
  have HC := Lib.hid hcell
  have HK := Lib.hid hok
  clear hl hcell hok
  have hone := tab_one 16
  have hs1 := tab_size 16
  have H1 := Lib.hid hs1
  clear hs1
  go_enter Try.func20, Try.ntmps20
  go_wp2_with fail
  refine (effects_any w).mono ?_
  rintro e w1 ⟨rfl, hb1⟩
  go_wp2_with (refine wpList_store_row (o := ⟨none, .store 50 (.tmp 3) (.tmp 9), _, _, _, _⟩) rfl 50 (.tmp 3) (.tmp 9) rfl w1.heap.size (tab 16) rfl rfl 50 _ (heap_alloc_new _ _) (by rw [H1.out]; exact info_tab) (by rw [H1.out]; rfl) hone ?_; rw [World.setRow_alloc_new])
  have hT : ∀ j, j < 16 → (w1.alloc (.cells (tab 16) 50)).cell? ⟨w1.heap.size, j, none⟩ = some (.int .u32 (four j : Nat)) := fun j hj => by
    rw [World.cell?_alloc_at _ _ _ _ rfl, tab_get _ _ hj, if_pos hj]
  have hb2 : Below w.heap.size w (w1.alloc (.cells (tab 16) 50)) := hb1.alloc hb1.size _
  have HT := Lib.hid hT
  clear hT hone hb1
  generalize (w1.alloc (.cells (tab 16) 50)) = W at *
  generalize w1.heap.size = g at *
  go_loop [4, 12] (fun a i => ∃ k : Nat, k ≤ n ∧ i = .int .i64 k ∧ a = .int .u32 (crc 4294967295 (bytesOf (l.take k)) : Nat)) (fun _ i => n - (intOf i).toNat)
  case atStart => exact ⟨0, Nat.zero_le _, rfl, rfl⟩
  case round =>
    obtain ⟨k, hk, rfl, rfl⟩ := hrel
    by_cases hkn : k < n
    · obtain ⟨p, hp⟩ : ∃ p, l[k]? = some p := ⟨_, List.getElem?_eq_getElem (by rw [HL.out]; exact hkn)⟩
      have hpm := List.mem_of_getElem? hp
      have hpc := HC.out k p hp
      obtain ⟨⟨hrd, hby⟩, hpl⟩ := HK.out p hpm
      have htk : l.take (k + 1) = l.take k ++ [p] := by rw [List.take_add_one, hp]; rfl
      have hs0 : crc 4294967295 (bytesOf (l.take k)) < 2 ^ 32 := crc_lt _ _ (by decide) (fun x hx => by
        unfold bytesOf at hx
        obtain ⟨q, hq, hx⟩ := List.mem_flatMap.1 hx
        exact (HK.out q (List.mem_of_mem_take hq)).1.2 x hx)
      have HTK := Lib.hid (show crc 4294967295 (bytesOf (l.take (k + 1))) = crc (crc 4294967295 (bytesOf (l.take k))) p.all by rw [htk, bytesOf_snoc, crc_append])
      clear htk hp hpm
      generalize crc 4294967295 (bytesOf (l.take k)) = s0 at *
      obtain ⟨Ap, np, cp, xp⟩ := p
      simp only [Part.val] at hpc hrd hby hpl HTK
      have hcellp := (hb2.cell (p := ⟨b, o + k, none⟩) hbw).trans hpc
      have hrd2 := hrd.below hb2
      have HPL := Lib.hid hrd.len
      have HBY := Lib.hid hby
      clear hpc hrd hby
      go_wp2
      go_loop [4, 18] (fun a i => ∃ q : Nat, q ≤ np ∧ i = .int .i64 q ∧ a = .int .u32 (crc s0 (xp.take q) : Nat)) (fun _ i => np - (intOf i).toNat)
      case atStart => exact ⟨0, Nat.zero_le _, rfl, rfl⟩
      case round =>
        obtain ⟨q, hq, rfl, rfl⟩ := hrel
        by_cases hqn : q < np
        · have hs := crc_lt (xp.take q) s0 hs0 (fun x hx => HBY.out x (List.mem_of_mem_take hx))
          have HS := Lib.hid (show crc s0 (xp.take (q + 1)) = upd (crc s0 (xp.take q)) (xp.getD q 0).toNat by rw [take_snoc _ _ (by rw [HPL.out]; exact hqn), crc_snoc])
          obtain ⟨bp, op, rfl, hbl, hcellq⟩ := hrd2.cell hqn
          have hx := HBY.out (xp.getD q 0) (by
            rw [List.getD_eq_getElem?_getD, List.getElem?_eq_getElem (by rw [HPL.out]; exact hqn)]
            exact List.getElem_mem _)
          generalize crc s0 (xp.take q) = s at *
          generalize xp.getD q 0 = x at *
          obtain ⟨x, rfl⟩ : ∃ y : Nat, x = (y : Int) := ⟨x.toNat, by omega⟩
          rw [Int.toNat_natCast] at HS
          obtain ⟨s1, s2, f1, f2, h1, h2, e1, e2, h3, x1, x2, x3⟩ := upd_code s x hs (by omega)
          have ht1 := HT.out (s1 % 16) (by omega)
          have ht2 := HT.out (s2 % 16) (by omega)
          rw [← e1] at ht1
          rw [← e2] at ht2
          clear e1 e2
          generalize upd s x = s3 at *
          go_wp2
          go_round
          case rel => exact ⟨q + 1, by omega, by go_num, by rw [HS.out]⟩
          case measure => simp [intOf]; omega
        · have hqn' : q = np := by omega
          subst hqn'
          have HE := Lib.hid (List.take_of_length_le (l := xp) (i := q) (by rw [HPL.out]; exact Nat.le_refl _))
          rw [HE.out]
          go_wp2
          go_round
          case rel => exact ⟨k + 1, by omega, by go_num, by rw [HTK.out]⟩
          case measure => simp [intOf]; omega
    · have hkn' : k = n := by omega
      subst hkn'
      rw [List.take_of_length_le (by rw [HL.out]; exact Nat.le_refl _)]
      have hs0 : crc 4294967295 (bytesOf l) < 2 ^ 32 := crc_lt _ _ (by decide) (fun x hx => by
        unfold bytesOf at hx
        obtain ⟨q, hq, hx⟩ := List.mem_flatMap.1 hx
        exact (HK.out q hq).1.2 x hx)
      have HX := Lib.hid (show bits .xor .u32 IntKind.u32.max ((crc 4294967295 (bytesOf l) : Nat) : Int) = ((sumL (bytesOf l) : Nat) : Int) from u32_xor_nat 4294967295 _ (by decide) hs0)
      generalize crc 4294967295 (bytesOf l) = s at *
      go_wp2
      go_ret
      exact ⟨ret_u32 HX.out, hb2⟩

set_option maxHeartbeats 400000 in
theorem Sum_any (A : Option Addr) (n c : Nat) (xs : List Int) (w : World) (h : Rd w w.heap.size .u8 A n c xs) (hx : ∀ x ∈ xs, 0 ≤ x ∧ x < 256) (hn : n ≤ 1000000) :
    Calls Try.prog 12 #[.slice A n c] w fun e w' => e = .returned (.int .u32 (sumL xs)) ∧ Below w.heap.size w w' := by
  have hb : Below w.heap.size w (w.alloc (.cells #[.slice A n c] 22)) := (Below.refl _ _).alloc (Nat.le_refl _) _
  have HS := sumOf_any w.heap.size 0 1 1 [⟨A, n, c, xs⟩] (w.alloc (.cells #[.slice A n c] 22)) rfl (by omega) (by omega)
    (fun j p hj => by
      rcases j with _ | j
      · rw [Nat.add_zero, World.cell?_alloc_at _ _ _ _ rfl]
        simp at hj
        subst hj
        rfl
      · simp at hj)
    (by simp) (fun p hp => by
      simp at hp
      subst hp
      exact ⟨⟨(h.below hb).more hb.size, hx⟩, hn⟩)
  rw [show bytesOf [⟨A, n, c, xs⟩] = xs from List.append_nil xs] at HS
  have HS' := Lib.hid HS
  clear HS h
  go_enter Try.func12, Try.ntmps12
  go_wp2_with fail
  refine HS'.out.mono ?_
  rintro e w1 ⟨rfl, hb1⟩
  go_wp2_with fail
  go_ret
  exact ⟨rfl, hb.trans (hb1.mono hb.size)⟩
end Go.Proofs.Ytbdfhlgpbhcjcaa
