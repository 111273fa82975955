/- What is proved here: a log's Merge. -/
import Derived.Test.YtmmddkddjiodbaaETake
namespace Go.Proofs.Ytmmddkddjiodbaa
open Go Go.RowKit Go.Maps Go.WideMaps

section
variable {w : World} {b : Nat} {B T : Int} {L : List En} {Φ : Nat → Prop}
/-- What Merge makes of a log, and answers. -/
def mergeF (B T : Int) (L : List En) (at_ term : Int) (M : List En) : List En × Int × Bool :=
  if at_ < 0 then (L, 0, false)
  else if at_ < B then (if (M.length : Int) ≤ B - at_ then (L, at_ + M.length, true) else (mergeL L 0 (M.drop (B - at_).toNat), at_ + M.length, true))
  else if hasAt B L at_ = true ∧ termAt B T L at_ = term then (mergeL L (at_ - B).toNat M, at_ + M.length, true) else (L, 0, false)
def MergeSaid (w : World) (b : Nat) (B T : Int) (L' : List En) (Φ : Nat → Prop) (n : Int) (q : Bool) (e : Ending) (w' : World) : Prop := e = .returned (.tuple #[.int .i64 n, .bool q]) ∧ Left w b B T L' Φ w'
theorem Left.len {L' : List En} {w' : World} (_ : Left w b B T L' Φ w') : True := trivial
theorem Nxt.left {w' w2 : World} {Φ' : Nat → Prop} {L' : List En} (h : Nxt w w' Φ Φ') (k : Left w' b B T L' Φ' w2) : Left w b B T L' Φ w2 := by
  obtain ⟨Φ2, k1, k2⟩ := k
  exact ⟨Φ2, k1, h.trans k2⟩
theorem Left.below {w' : World} (h : Left w b B T L Φ w') {w2 : World} (hb : Below w'.heap.size w' w2) : Left w b B T L Φ w2 := by
  obtain ⟨Φ2, k1, k2⟩ := h
  exact ⟨Φ2, k1.later hb, k2.trans (Nxt.of_below hb)⟩
theorem Left.cells {w' : World} (h : Left w b B T L Φ w') : w'.cell? ⟨b, 0, none⟩ = some (.int .i64 B) ∧ w'.cell? ⟨b, 1, none⟩ = some (.int .i64 T) := by
  obtain ⟨Φ2, ⟨A, n, c, k⟩, _⟩ := h
  exact ⟨k.cells.1, k.cells.2.1⟩
/-- One round: what was handed in is read, and taken. -/
theorem merge_round {M : List En} {A : Option Addr} {n c : Nat} (hM : SRd enC w (fun k => ¬ Φ k) A n c M) {wr : World} {L' : List En} (h : Left w b B T L' Φ wr) (hL : L'.length < 1000000) {k : Nat} {x : En} (hx : M[k]? = some x) {p : Nat} (hp : p ≤ L'.length) :
    ∃ g o, A = some ⟨g, o, none⟩ ∧ wr.cell? ⟨g, o + k * 2, none⟩ = some (.int .i64 x.t) ∧ wr.cell? ⟨g, o + k * 2 + 1, none⟩ = some (.string x.d) ∧ ∀ W, Below wr.heap.size wr W → W.cell? ⟨b, 0, none⟩ = some (.int .i64 B) ∧
      Hid (Calls Try.prog 34 #[.pointer (some ⟨b, 0, none⟩), .int .i64 p, .agg #[.int .i64 x.t, .string x.d]] W fun e w' => e = .returned (.tuple #[]) ∧ Hid (Left w b B T (takeF L' p x) Φ w')) := by
  obtain ⟨Φ', h1, h2⟩ := h
  obtain ⟨g, o, e, _, _, q0, q1⟩ := (h2.srd hM).en hx
  refine ⟨g, o, e, q0, q1, fun W hW => ⟨(Left.cells (Left.same h1 hW)).1, Lib.hid ?_⟩⟩
  refine (take_any (h1.later hW) hL hp x).mono ?_
  rintro e w' ⟨rfl, Φ2, k1, k2⟩
  exact ⟨rfl, Lib.hid ⟨Φ2, k1, (h2.trans (Nxt.of_below hW)).trans k2⟩⟩
end

section
variable {w : World} {b : Nat} {B T : Int} {L : List En} {Φ : Nat → Prop}
set_option maxHeartbeats 6400000 in
set_option maxRecDepth 100000 in
/-- .. behind an entry that is there. -/
theorem Merge_at (h : LogAt w b B T L Φ) (h0 : 0 ≤ B) (h1 : B ≤ 4611686018427387904) (hL : L.length < 800000) {A : Option Addr} {n c : Nat} {M : List En} (hM : SRd enC w (fun k => ¬ Φ k) A n c M) (hn : n < 100000) {p : Nat} (hp : p ≤ L.length) :
    Calls Try.prog 24 #[.pointer (some ⟨b, 0, none⟩), .int .i64 (B + p), .int .i64 (termAt B T L (B + p)), .slice A n c] w (MergeSaid w b B T (mergeL L p M) Φ (B + p + n) true) := by
  have HT : Hid (Calls Try.prog 21 #[.pointer (some ⟨b, 0, none⟩), .int .i64 (B + p)] w fun e w' => e = .returned (.tuple #[.int .i64 (termAt B T L (B + p)), .bool true]) ∧ Hid (Left w b B T L Φ w')) := Lib.hid ((Term_any h h0 h1 (by omega) (k := B + p) (by unfold I64; omega)).mono (by
    rintro e w' ⟨rfl, hb⟩
    have : hasAt B L (B + p) = true := by unfold hasAt; rw [decide_eq_true_eq]; omega
    rw [this]
    exact ⟨rfl, Lib.hid (Left.same h hb)⟩))
  have HM := Lib.hid hM
  have HMN := Lib.hid hM.len
  have HML : Hid (∀ k, k ≤ n → p + k ≤ (mergeL L p (M.take k)).length ∧ (mergeL L p (M.take k)).length < 1000000) := Lib.hid fun k hk => by
    have := mergeL_len (M.take k) L p hp
    rw [List.length_take, hM.len, Nat.min_eq_left hk] at this
    omega
  have hcaps := hM.caps
  have HEND : Hid (∀ wr, Left w b B T (mergeL L p (M.take n)) Φ wr → Hid (Left w b B T (mergeL L p M) Φ wr)) := Lib.hid fun wr hl => by
    rw [List.take_of_length_le (by rw [hM.len]; exact Nat.le_refl _)] at hl
    exact Lib.hid hl
  have hcell : w.cell? ⟨b, 0, none⟩ = some (.int .i64 B) := (Left.cells (Left.same h (Below.refl _ _))).1
  have d1 : ¬ (B + (p : Int) < B) := by omega
  have d2 : ¬ (B + (p : Int) < 0) := by omega
  have hs1 : B + (p : Int) + n ≤ 4611686018427387904 + 1000000 := by omega
  have hs2 : 0 ≤ B + (p : Int) + n := by omega
  have hw1 : IntKind.i64.wrap (B + (p : Int) - B) = p := by rw [show B + (p : Int) - B = p by omega]; exact IntWalk.i64_in _ (by omega)
  clear h hM hL
  generalize termAt B T L (B + p) = tm at *
  have e1 : (tm == tm) = true := beq_self_eq_true _
  go_enter Try.func24, Try.ntmps24
  go_wp2_with (go_at_call 21; refine HT.out.mono ?_; rintro e w1 ⟨rfl, HL0⟩)
  go_loopw [65] (fun i wr => ∃ k : Nat, i = .int .i64 k ∧ k ≤ n ∧ Hid (Left w b B T (mergeL L p (M.take k)) Φ wr)) (fun i _ => n - (intOf i).toNat)
  case atStart => exact ⟨0, rfl, Nat.zero_le _, HL0⟩
  case round =>
    clear HL0 hcell
    obtain ⟨k, rfl, hkn, HLK⟩ := hrel
    by_cases hlt : k < n
    · obtain ⟨x, hx⟩ : ∃ x, M[k]? = some x := ⟨_, List.getElem?_eq_getElem (by rw [HMN.out]; exact hlt)⟩
      have hml := HML.out k hkn
      obtain ⟨g2, o2, hA, q0, q1, hW⟩ := merge_round HM.out HLK.out (by omega) hx (p := p + k) (by omega)
      subst hA
      have HTK := Lib.hid (mergeL_more (L := L) (p := p) hx)
      obtain ⟨V, hV⟩ : ∃ V, V = wr.alloc (.cells #[.int .i64 x.t, .string x.d] 36) := ⟨_, rfl⟩
      have hbV : Below wr.heap.size wr V := by rw [hV]; exact (Below.refl _ _).alloc (Nat.le_refl _) _
      obtain ⟨b0, HTA⟩ := hW V.drew (hbV.drew)
      have b0' : V.cell? ⟨b, 0, none⟩ = some (.int .i64 B) := b0
      have hres : V.heap[wr.heap.size]? = some (.cells #[.int .i64 x.t, .string x.d] 36 (0, 0)) := by rw [hV]; exact heap_alloc_new _ _
      obtain ⟨r0, r1, _, _⟩ := two_cells hres
      have hlt' : (k : Int) < n := by omega
      have HV := Lib.hid hV
      rw [Int.natCast_add] at HTA
      have hw2 : IntKind.i64.wrap ((p : Int) + (k : Int)) = p + k := IntWalk.i64_in _ (by omega)
      clear hW hx hV hbV hres b0 hml
      generalize takeF (mergeL L p (M.take k)) (p + k) x = L3 at *
      obtain ⟨xt, xd⟩ := x
      dsimp only at *
      go_upto_region 15 with fail
      rw [← HV.out]
      go_still_tail 10, (by kernel_rfl)
      change wpList _ _ _ _ _ V.drew
      clear q0 q1 b0' r0 r1 hw2
      generalize V.drew = V2 at *
      go_wp2_with (go_at_call 34; refine HTA.out.mono ?_; rintro e w3 ⟨rfl, HX⟩)
      go_roundw
      case rel => exact ⟨k + 1, by go_num, by omega, by rw [HTK.out]; exact HX⟩
      case measure => simp [intOf]; omega
    · obtain rfl : k = n := by omega
      have hd0 : decide ((k : Int) < (k : Int)) = false := decide_eq_false (by omega)
      have HLE := HEND.out _ HLK.out
      go_wp2_with fail
      go_ret2
      exact ⟨rfl, HLE.out⟩
set_option maxHeartbeats 6400000 in
set_option maxRecDepth 100000 in
/-- .. of which the first ones are past. -/
theorem Merge_past (h : LogAt w b B T L Φ) (h1 : B ≤ 4611686018427387904) (hL : L.length < 800000) {A : Option Addr} {n c : Nat} {M : List En} (hM : SRd enC w (fun k => ¬ Φ k) A n c M) (hn : n < 100000) {y : Int} (hy0 : 0 ≤ y) (hyB : y < B) (hyn : B - y < n) (term : Int) :
    Calls Try.prog 24 #[.pointer (some ⟨b, 0, none⟩), .int .i64 y, .int .i64 term, .slice A n c] w (MergeSaid w b B T (mergeL L 0 (M.drop (B - y).toNat)) Φ (y + n) true) := by
  have h0 : 0 ≤ B := by omega
  have HT : Hid (∀ q, Calls Try.prog 21 #[.pointer (some ⟨b, 0, none⟩), .int .i64 B] (w.drewN q) fun e w' => e = .returned (.tuple #[.int .i64 T, .bool true]) ∧ Hid (Left w b B T L Φ w')) := Lib.hid fun q => by
    have hbq : Below w.heap.size w (w.drewN q) := (Chg.drewN (Φ := fun _ => False) w q).below (Nat.le_refl _) fun _ h => h.elim
    refine (Term_any (h.later hbq) h0 h1 (by omega) (k := B) (by unfold I64; omega)).mono ?_
    rintro e w' ⟨rfl, hb⟩
    have e1 : hasAt B L B = true := by unfold hasAt; rw [decide_eq_true_eq]; omega
    have e2 : termAt B T L B = T := by unfold termAt; rw [if_pos rfl]
    rw [e1, e2]
    exact ⟨rfl, Lib.hid (Left.same h (hbq.trans (hb.mono hbq.size)))⟩
  have hcaps := hM.caps
  obtain ⟨g, o, rfl⟩ : ∃ g o, A = some ⟨g, o, none⟩ := by
    cases A with
    | none => have := (hM.nil rfl).1; omega
    | some ad => obtain ⟨g, o, rfl, _⟩ := hM.place _ rfl; exact ⟨g, o, rfl⟩
  have hM2 := hM.drop en_len (m := (B - y).toNat) (by omega)
  rw [if_neg (by omega)] at hM2
  have HM := Lib.hid hM2
  have HMN := Lib.hid hM2.len
  have HML : Hid (∀ k, k ≤ n - (B - y).toNat → 0 + k ≤ (mergeL L 0 ((M.drop (B - y).toNat).take k)).length ∧ (mergeL L 0 ((M.drop (B - y).toNat).take k)).length < 1000000) := Lib.hid fun k hk => by
    have := mergeL_len ((M.drop (B - y).toNat).take k) L 0 (Nat.zero_le _)
    rw [List.length_take, hM2.len, Nat.min_eq_left hk] at this
    omega
  have HEND : Hid (∀ wr, Left w b B T (mergeL L 0 ((M.drop (B - y).toNat).take (n - (B - y).toNat))) Φ wr → Hid (Left w b B T (mergeL L 0 (M.drop (B - y).toNat)) Φ wr)) := Lib.hid fun wr hl => by
    rw [List.take_of_length_le (by rw [hM2.len]; exact Nat.le_refl _)] at hl
    exact Lib.hid hl
  obtain ⟨hcell, hcell1⟩ := Left.cells (Left.same h (Below.refl _ _))
  have d1 : ¬ (y < 0) := by omega
  have d2 : ¬ ((n : Int) ≤ B - y) := by omega
  have d3 : ¬ c = (B - y).toNat := by omega
  have d4 : (B - y).toNat ≤ n := by omega
  have e1 : (T == T) = true := beq_self_eq_true _
  clear h hM hM2 hL
  go_enter Try.func24, Try.ntmps24
  go_upto_region 8 with fail
  go_quiet (fail)
  have HT2 := Lib.hid (HT.out nq)
  clear HT hcell hcell1
  generalize w.drewN nq = W at *
  generalize (B - y).toNat = d at *
  clear d3
  go_wp2_with (go_at_call 21; refine HT2.out.mono ?_; rintro e w1 ⟨rfl, HL0⟩)
  have hN9 : n - d ≤ 100000 := by omega
  clear d2 d4 HT2 hcaps
  generalize n - d = N at *
  generalize c - d = C at *
  generalize o + d * 2 = O at *
  generalize M.drop d = M2 at *
  have hw1 : IntKind.i64.wrap 0 = 0 := IntWalk.i64_in _ (by omega)
  go_loopw [65] (fun i wr => ∃ k : Nat, i = .int .i64 k ∧ k ≤ N ∧ Hid (Left w b B T (mergeL L 0 (M2.take k)) Φ wr)) (fun i _ => N - (intOf i).toNat)
  case atStart => exact ⟨0, rfl, Nat.zero_le _, HL0⟩
  case round =>
    clear HL0
    obtain ⟨k, rfl, hkn, HLK⟩ := hrel
    by_cases hlt : k < N
    · obtain ⟨x, hx⟩ : ∃ x, M2[k]? = some x := ⟨_, List.getElem?_eq_getElem (by rw [HMN.out]; exact hlt)⟩
      have hml := HML.out k hkn
      obtain ⟨g2, o2, hA, q0, q1, hW⟩ := merge_round HM.out HLK.out (by omega) hx (p := 0 + k) (by omega)
      cases hA
      have HTK := Lib.hid (mergeL_more (L := L) (p := 0) hx)
      obtain ⟨V, hV⟩ : ∃ V, V = wr.alloc (.cells #[.int .i64 x.t, .string x.d] 36) := ⟨_, rfl⟩
      have hbV : Below wr.heap.size wr V := by rw [hV]; exact (Below.refl _ _).alloc (Nat.le_refl _) _
      obtain ⟨b0, HTA⟩ := hW V.drew (hbV.drew)
      have b0' : V.cell? ⟨b, 0, none⟩ = some (.int .i64 B) := b0
      have hres : V.heap[wr.heap.size]? = some (.cells #[.int .i64 x.t, .string x.d] 36 (0, 0)) := by rw [hV]; exact heap_alloc_new _ _
      obtain ⟨r0, r1, _, _⟩ := two_cells hres
      have hlt' : (k : Int) < N := by omega
      have HV := Lib.hid hV
      rw [Nat.zero_add] at HTA HTK
      have hw2 : IntKind.i64.wrap (k : Int) = k := IntWalk.i64_in _ (by omega)
      clear hW hx hV hbV hres b0 hml
      generalize takeF (mergeL L 0 (M2.take k)) k x = L3 at *
      obtain ⟨xt, xd⟩ := x
      dsimp only at *
      go_upto_region 15 with fail
      rw [← HV.out]
      go_still_tail 10, (by kernel_rfl)
      change wpList _ _ _ _ _ V.drew
      clear q0 q1 b0' r0 r1 hw2
      generalize V.drew = V2 at *
      go_wp2_with (go_at_call 34; refine HTA.out.mono ?_; rintro e w3 ⟨rfl, HX⟩)
      go_roundw
      case rel => exact ⟨k + 1, by go_num, by omega, by rw [HTK.out]; exact HX⟩
      case measure => simp [intOf]; omega
    · obtain rfl : k = N := by omega
      have hd0 : decide ((k : Int) < (k : Int)) = false := decide_eq_false (by omega)
      have HLE := HEND.out _ HLK.out
      go_wp2_with fail
      go_ret2
      exact ⟨rfl, HLE.out⟩

end
end Go.Proofs.Ytmmddkddjiodbaa
