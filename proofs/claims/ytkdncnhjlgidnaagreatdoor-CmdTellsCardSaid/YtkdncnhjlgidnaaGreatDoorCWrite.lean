/- What is proved here: what cmd.Write answers: the bytes of a command, in new memory, or an error. -/
import Derived.Test.YtkdncnhjlgidnaaGreatDoorCRight
import Derived.Test.YtkdncnhjlgidnaaGreatDoorRef2
namespace Go.Proofs.YtkdncnhjlgidnaaGreatDoor
open Go Go.RowKit

/-- A command's eleven numbers, and its bytes. -/
def CM.rns (c : CM) : List Nat := c.shift.ns.map Int.toNat ++ [if c.ff then 1 else 0]
def CM.rts (c : CM) : List (List Int) := c.ts.map nums
def CM.bytes (c : CM) (L : List ByteArray) : List Int := encRaw c.rns c.rts L.length (L.map nums)
theorem encN_len : ∀ l : List Nat, (∀ v ∈ l, v ≤ 9223372036854775807) → (encN l).length ≤ 9 * l.length
  | [], _ => by simp [encN]
  | x :: l, h => by
    have h1 := enc_len9 (h x (List.mem_cons_self ..))
    have h2 := encN_len l fun y hy => h y (List.mem_cons_of_mem _ hy)
    have e : encN (x :: l) = enc x ++ encN l := by simp [encN]
    rw [e, List.length_append, List.length_cons]
    omega
theorem encTs_len : ∀ l : List (List Int), (∀ v ∈ l, v.length ≤ 256) → (encTs l).length ≤ 265 * l.length
  | [], _ => by simp [encTs]
  | x :: l, h => by
    have h0 := h x (List.mem_cons_self ..)
    have h1 := enc_len9 (n := x.length) (by omega)
    have h2 := encTs_len l fun y hy => h y (List.mem_cons_of_mem _ hy)
    have e : encTs (x :: l) = encT x ++ encTs l := by simp [encTs]
    rw [e, List.length_append, List.length_cons, encT, List.length_append]
    omega
theorem fit_le {x : Int} (h : fitB x = true) : 0 ≤ x ∧ x ≤ 4611686018427387904 := by
  unfold fitB at h
  simpa using h
/-- What a command that may be written is like. -/
structure CM.Good (c : CM) (L : List ByteArray) : Prop where
  few : c.bn ≤ 10
  ns : ∀ x ∈ c.shift.ns, 0 ≤ x ∧ x ≤ 4611686018427387904
  ts : ∀ s ∈ c.ts, s.size ≤ 256
  bs : ∀ s ∈ L, s.size ≤ 256
theorem CM.good {c : CM} {L : List ByteArray} (h : c.right L = true) : c.Good L := by
  unfold CM.right at h
  simp only [Bool.and_eq_true, decide_eq_true_eq, List.all_eq_true] at h
  exact ⟨h.1.1.1, fun x hx => fit_le (h.1.1.2 x hx), h.1.2, h.2⟩
theorem CM.Good.rns {c : CM} {L : List ByteArray} (h : c.Good L) : ∀ v ∈ c.rns, v ≤ 4611686018427387904 := fun v hv => by
  unfold CM.rns at hv
  rcases List.mem_append.1 hv with hv | hv
  · obtain ⟨x, hx, rfl⟩ := List.mem_map.1 hv
    have := h.ns x hx
    omega
  · rw [List.mem_singleton.1 hv]; split <;> omega
theorem CM.Good.rts {c : CM} {L : List ByteArray} (h : c.Good L) : ∀ v ∈ c.rts, v.length ≤ 256 := fun v hv => by
  obtain ⟨x, hx, rfl⟩ := List.mem_map.1 hv
  rw [nums_length]; exact h.ts x hx
theorem CM.Good.rbs {c : CM} {L : List ByteArray} (h : c.Good L) : ∀ v ∈ L.map nums, v.length ≤ 256 := fun v hv => by
  obtain ⟨x, hx, rfl⟩ := List.mem_map.1 hv
  rw [nums_length]; exact h.bs x hx
/-- The bytes as far as they are written. -/
def CM.e1 (c : CM) (j : Nat) : List Int := encN ((c.shift.ns.take j).map Int.toNat)
def CM.e2 (c : CM) (j : Nat) : List Int := encN c.rns ++ encTs ((c.ts.take j).map nums)
def CM.e3 (c : CM) (L : List ByteArray) (j : Nat) : List Int := encN c.rns ++ encTs c.rts ++ enc L.length ++ encTs ((L.take j).map nums)
theorem CM.e1_next (c : CM) {j : Nat} (h : j < 10) : c.e1 (j + 1) = c.e1 j ++ enc (c.shift.ns.getD j 0).toNat := by
  have hl : j < c.shift.ns.length := h
  unfold CM.e1
  rw [List.take_succ_eq_append_getElem hl, List.map_append, List.map_singleton, encN_snoc, List.getD_eq_getElem?_getD, List.getElem?_eq_getElem hl, Option.getD_some]
theorem CM.e1_all (c : CM) : c.e1 10 ++ enc (if c.ff then 1 else 0 : Nat) = encN c.rns := by
  unfold CM.e1 CM.rns
  rw [List.take_of_length_le (Nat.le_refl 10), encN_snoc]
theorem CM.e2_next (c : CM) {j : Nat} (h : j < 6) : c.e2 (j + 1) = c.e2 j ++ encT (nums (c.ts.getD j ⟨#[]⟩)) := by
  have hl : j < c.ts.length := h
  unfold CM.e2
  rw [List.take_succ_eq_append_getElem hl, List.map_append, List.map_singleton, encTs_snoc, List.getD_eq_getElem?_getD, List.getElem?_eq_getElem hl, Option.getD_some, List.append_assoc]
theorem CM.e2_zero (c : CM) : c.e2 0 = encN c.rns := by simp [CM.e2, encTs]
theorem CM.e2_all (c : CM) : c.e2 6 = encN c.rns ++ encTs c.rts := by
  unfold CM.e2 CM.rts
  rw [List.take_of_length_le (Nat.le_refl 6)]
theorem CM.e3_zero (c : CM) (L : List ByteArray) : c.e3 L 0 = encN c.rns ++ encTs c.rts ++ enc L.length := by simp [CM.e3, encTs]
theorem CM.e3_next (c : CM) (L : List ByteArray) {j : Nat} (h : j < L.length) : c.e3 L (j + 1) = c.e3 L j ++ encT (nums (L.getD j ⟨#[]⟩)) := by
  unfold CM.e3
  rw [List.take_succ_eq_append_getElem h, List.map_append, List.map_singleton, encTs_snoc, List.getD_eq_getElem?_getD, List.getElem?_eq_getElem h, Option.getD_some, ← List.append_assoc]
theorem CM.e3_all (c : CM) (L : List ByteArray) {j : Nat} (h : j = L.length) : c.e3 L j = c.bytes L := by
  subst h
  unfold CM.e3 CM.bytes encRaw
  rw [List.take_of_length_le (Nat.le_refl _)]
theorem CM.Good.len1 {c : CM} {L : List ByteArray} (h : c.Good L) (j : Nat) : (c.e1 j).length ≤ 90 := by
  unfold CM.e1
  have := encN_len ((c.shift.ns.take j).map Int.toNat) fun v hv => by
    obtain ⟨x, hx, rfl⟩ := List.mem_map.1 hv
    have := h.ns x (List.mem_of_mem_take hx)
    omega
  rw [List.length_map, List.length_take, show c.shift.ns.length = 10 from rfl] at this
  omega
theorem CM.Good.lenN {c : CM} {L : List ByteArray} (h : c.Good L) : (encN c.rns).length ≤ 99 := by
  have := encN_len c.rns fun v hv => by have := h.rns v hv; omega
  rw [show c.rns.length = 11 from rfl] at this
  omega
theorem CM.Good.len2 {c : CM} {L : List ByteArray} (h : c.Good L) (j : Nat) : (c.e2 j).length ≤ 2000 := by
  have h1 := h.lenN
  have := encTs_len ((c.ts.take j).map nums) fun v hv => by
    obtain ⟨x, hx, rfl⟩ := List.mem_map.1 hv
    rw [nums_length]; exact h.ts x (List.mem_of_mem_take hx)
  rw [List.length_map, List.length_take, show c.ts.length = 6 from rfl] at this
  unfold CM.e2
  rw [List.length_append]
  omega
theorem CM.Good.len3 {c : CM} {L : List ByteArray} (h : c.Good L) (hl : L.length ≤ 10) (j : Nat) : (c.e3 L j).length ≤ 6000 := by
  have h1 := h.len2 6
  rw [c.e2_all] at h1
  have h2 := enc_len9 (n := L.length) (by omega)
  have := encTs_len ((L.take j).map nums) fun v hv => by
    obtain ⟨x, hx, rfl⟩ := List.mem_map.1 hv
    rw [nums_length]; exact h.bs x (List.mem_of_mem_take hx)
  rw [List.length_map, List.length_take] at this
  unfold CM.e3
  rw [List.length_append, List.length_append]
  omega
theorem ptr_at {w W : World} {s b : Nat} {t : TypeId} {l : List Nat} (h : Blk w s t ((l.map fun i => Value.pointer (some ⟨b, i, none⟩)).toArray)) (hW : Below w.heap.size w W) {j : Nat} (hj : j < l.length) : W.cell? ⟨s, j, none⟩ = some (.pointer (some ⟨b, l.getD j 0, none⟩)) := by
  rw [(h.below hW h.lt).cell]
  simp [List.getD_eq_getElem?_getD, List.getElem?_eq_getElem hj]
/-- Bytes that lie in a slice. -/
def BRd (w : World) (v : Value) (xs : List Int) : Prop := ∃ A n c, v = .slice A n c ∧ Rd w w.heap.size .u8 A n c xs
theorem BRd.of_own {w : World} {base e n : Nat} {v : Value} {xs : List Int} (h : w.ownsRow base e 1 v n (xs.map (Value.int .u8))) : BRd w v xs := by
  obtain ⟨A, c, e, h⟩ := Rd.of_own h
  exact ⟨A, _, c, e, h⟩

set_option maxHeartbeats 6400000 in
set_option maxRecDepth 100000 in
theorem Write_ok (c : CM) (L : List ByteArray) (w : World) (hL : TRd w w.heap.size c.bA c.bn c.bc L) (hr : c.right L = true) :
    Calls Tryz.prog 12 #[.agg c.cells] w fun e w' => ∃ (A : Option Addr) (n d : Nat), e = .returned (.tuple #[.slice A n d, .nilIface]) ∧ Rd w' w'.heap.size .u8 A n d (c.bytes L) ∧ Below w.heap.size w w' := by
  have hgood := CM.good hr
  have hbn := hgood.few
  have hLn := hL.len
  obtain ⟨cs, hcs⟩ : ∃ cs, cs = c.cells := ⟨_, rfl⟩
  have i1 := c.info
  have hs1 : cs.size = 18 := by rw [hcs]; rfl
  rw [← hcs] at i1
  have I2 := Lib.hid c.shift.info; have O2 := Lib.hid c.shift.ones
  have HSH : Hid (∀ W, Calls Tryz.prog 30 #[.agg cs] W fun e w' => e = .returned (.agg c.shift.cells) ∧ Below W.heap.size W w') := Lib.hid (by rw [hcs]; exact shifted_any c)
  have HRT : Hid (∀ W, Below w.heap.size w W → Calls Tryz.prog 29 #[.agg cs] W fun e w' => e = .returned (.bool true) ∧ Below W.heap.size W w') := Lib.hid (fun W hW => by rw [hcs, ← hr]; exact Right_any c L W ((hL.below hW).more hW.size) (by omega))
  have NA := Lib.hid c.shift.num_at; have TA := Lib.hid c.shift.text_at
  have h15 : c.shift.cells[15]? = some (.slice c.bA c.bn c.bc) := rfl
  have h10 : c.shift.cells[10]? = some (.bool c.ff) := rfl
  obtain ⟨cs', hcs'⟩ : ∃ cs, cs = c.shift.cells := ⟨_, rfl⟩
  have hs2 : cs'.size = 18 := by rw [hcs']; rfl
  rw [← hcs'] at I2 O2 HSH NA TA h15 h10
  rw [← hcs]
  have I1 := Lib.hid i1; have S1 := Lib.hid hs1; have S2 := Lib.hid hs2; have H15 := Lib.hid h15; have H10 := Lib.hid h10
  have HL := Lib.hid hL
  have GD := Lib.hid hgood
  have E1 := Lib.hid c.e1_all
  have hA : c.bn = 0 ∨ ∃ b o, c.bA = some ⟨b, o, none⟩ := by
    rcases Nat.eq_zero_or_pos c.bn with h | h
    · exact .inl h
    · obtain ⟨b, o, e, _⟩ := hL.cell h
      exact .inr ⟨b, o, e⟩
  clear hcs hcs' i1 hs1 hs2 h15 h10 hL hgood hr
  generalize c.bA = bA at *
  generalize c.bc = bc at *
  have HA := Lib.hid hA
  clear hA
  go_enter Tryz.func12, Tryz.ntmps12
  go_upto_region 1 with fail
  have hb1 : Blk (w.alloc (.cells cs 50)) w.heap.size 50 cs := Blk.fresh _ _ _
  have hbel : Below w.heap.size w (w.alloc (.cells cs 50)) := (Below.refl _ _).alloc (Nat.le_refl _) _
  generalize w.alloc (.cells cs 50) = W at *
  have HB1 := Lib.hid hb1; have HBEL := Lib.hid hbel
  clear hb1 hbel
  go_upto_region 4 with (first
    | (refine wpList_load_row (o := ⟨some 11, .load 50 (.tmp 1), _, _, _, _⟩) rfl 50 (.tmp 1) rfl w.heap.size rfl 50 cs (0, 0) _ HB1.out Tryz.underlying50 rfl I1.out ?_)
    | (go_at_call 29; refine (HRT.out W HBEL.out).mono ?_; rintro e w0 ⟨rfl, hb⟩
       have HB0 := Lib.hid (HB1.out.below hb HB1.out.lt); have HBEL0 := Lib.hid (HBEL.out.trans (hb.mono HBEL.out.size))
       clear hb)
    | (refine wpList_load_row (o := ⟨some 17, .load 50 (.tmp 1), _, _, _, _⟩) rfl 50 (.tmp 1) rfl w.heap.size rfl 50 cs (0, 0) _ HB0.out Tryz.underlying50 rfl I1.out ?_)
    | (go_at_call 30; refine (HSH.out w0).mono ?_; rintro e w1 ⟨rfl, hb⟩
       have HB2 := Lib.hid (HB0.out.below hb HB0.out.lt); have HBEL1 := Lib.hid (HBEL0.out.trans (hb.mono HBEL0.out.size))
       clear hb)
    | (refine wpList_store_row (o := ⟨none, .store 50 (.tmp 1) (.tmp 18), _, _, _, _⟩) rfl 50 (.tmp 1) (.tmp 18) rfl w.heap.size cs' rfl rfl 50 cs HB2.out I2.out (by rw [S1.out, S2.out]) O2.out ?_))
  have HB3 := Lib.hid (HB2.out.row (cs' := cs'))
  have HBEL2 := Lib.hid (below_setRow HBEL1.out (Nat.le_refl _) cs')
  clear HB2 HB1 HBEL HBEL1 HB0 HBEL0 HSH HRT I1 I2 O2 S1 S2
  generalize w1.setRow w.heap.size cs' = V at *
  have hlt := HBEL2.out.size
  have hg : w.heap.size < V.heap.size := HB3.out.lt
  go_wp2_with (go_at_call 31; refine (numbers_any w.heap.size V).mono ?_; rintro e w2 ⟨s1, rfl, hs1, hbk1, hbl1⟩; have HK1 := Lib.hid hbk1; have HL1 := Lib.hid hbl1; clear hbk1 hbl1)
  have KN : Hid (∀ W, Below w2.heap.size w2 W → ∀ j, j < 10 → W.cell? ⟨s1, j, none⟩ = some (.pointer (some ⟨w.heap.size, noff.getD j 0, none⟩))) := Lib.hid fun W hW j hj => ptr_at (l := noff) HK1.out hW hj
  clear HK1
  go_loopw [4, 21] (fun v4 v21 wr => ∃ (j : Nat) (A : Option Addr) (k d : Nat), j ≤ 10 ∧ v21 = .int .i64 j ∧ v4 = .slice A k d ∧ Hid (Rd wr wr.heap.size .u8 A k d (c.e1 j)) ∧ Hid (Below w2.heap.size w2 wr)) (fun _ i _ => 10 - (intOf i).toNat)
  case atStart => exact ⟨0, none, 0, 0, by omega, rfl, rfl, Lib.hid (Rd.none_ _ _ _), Lib.hid (Below.refl _ _)⟩
  case round =>
    obtain ⟨j, A, k, d, hj, rfl, rfl, hrd, hbw⟩ := hrel
    by_cases hlt : j < 10
    · have hjz : (j : Int) < 10 := by omega
      have hpt := KN.out wr hbw.out j hlt
      have hnum := ((HB3.out.below (HL1.out.trans (hbw.out.mono HL1.out.size)) HB3.out.lt).cell (noff.getD j 0)).trans (NA.out j hlt)
      have hx := GD.out.ns (c.shift.ns.getD j 0) (by rw [List.getD_eq_getElem?_getD, List.getElem?_eq_getElem (show j < c.shift.ns.length from hlt)]; exact List.getElem_mem _)
      have hk := GD.out.len1 j
      rw [hrd.out.len] at hk
      have HN := Lib.hid (c.e1_next hlt)
      generalize noff.getD j 0 = q at *
      generalize c.shift.ns.getD j 0 = x at *
      go_wp2_with (go_at_call 32; refine (Num_any A k d (c.e1 j) x wr hrd.out (by omega) (by omega) (by omega)).mono ?_; rintro e w4 ⟨v4, rfl, hown, hb4⟩
                   obtain ⟨A4, n4, d4, rfl, hr4⟩ := Rd.of_own' hown
                   have HR4 := Lib.hid hr4; have HB4 := Lib.hid hb4; clear hown hr4 hb4)
      go_roundw
      case rel => exact ⟨j + 1, A4, n4, d4, by omega, by go_num, rfl, by rw [HN.out]; exact HR4, Lib.hid (hbw.out.trans (HB4.out.mono hbw.out.size))⟩
      case measure => simp [intOf]; omega
    · obtain rfl : j = 10 := by omega
      have hfl := ((HB3.out.below (HL1.out.trans (hbw.out.mono HL1.out.size)) HB3.out.lt).cell 10).trans H10.out
      have hk := GD.out.len1 10
      rw [hrd.out.len] at hk
      have EF : Hid ((if c.ff then (1 : Int) else 0).toNat = (if c.ff then 1 else 0)) := Lib.hid (by cases c.ff <;> rfl)
      have hf0 : 0 ≤ (if c.ff then (1 : Int) else 0) ∧ (if c.ff then (1 : Int) else 0) ≤ 1 := by cases c.ff <;> decide
      generalize hff : (if c.ff then (1 : Int) else 0) = ff at *
      have HFF := Lib.hid hff
      clear hff
      go_wp2_with (first
        | (go_at_call 33; refine (flag_any c.ff _).mono ?_; rw [HFF.out]; rintro e w3 ⟨rfl, rfl⟩)
        | (go_at_call 32; refine (Num_any A k d (c.e1 10) ff wr hrd.out (by omega) (by omega) (by omega)).mono ?_; rintro e w4 ⟨v4, rfl, hown, hb4⟩
           rw [EF.out, E1.out] at hown
           obtain ⟨A4, n4, d4, rfl, hr4⟩ := Rd.of_own' hown
           have HR4 := Lib.hid hr4; have HB4 := Lib.hid (hbw.out.trans (hb4.mono hbw.out.size)); clear hown hr4 hb4)
        | (go_at_call 34; refine (texts_any w.heap.size w4).mono ?_; rintro e w5 ⟨s2, rfl, hs2, hbk2, hbl2⟩; have HK2 := Lib.hid hbk2; have HL2 := Lib.hid (HL1.out.trans ((HB4.out.trans (hbl2.mono HB4.out.size)).mono HL1.out.size)); have HR5 := Lib.hid ((HR4.out.below hbl2).more hbl2.size); clear hbk2 hbl2))
      have KT : Hid (∀ W, Below w5.heap.size w5 W → ∀ j, j < 6 → W.cell? ⟨s2, j, none⟩ = some (.pointer (some ⟨w.heap.size, toff.getD j 0, none⟩))) := Lib.hid fun W hW j hj => ptr_at (l := toff) HK2.out hW hj
      clear HK2 hrd hbw KN HL1 HB4 HR4 hfl hk hs1 EF HFF NA
      go_loopw [4, 39] (fun v4 v39 wr => ∃ (j : Nat) (A : Option Addr) (k d : Nat), j ≤ 6 ∧ v39 = .int .i64 j ∧ v4 = .slice A k d ∧ Hid (Rd wr wr.heap.size .u8 A k d (c.e2 j)) ∧ Hid (Below w5.heap.size w5 wr)) (fun _ i _ => 6 - (intOf i).toNat)
      case atStart => exact ⟨0, A4, n4, d4, by omega, rfl, rfl, by rw [c.e2_zero]; exact HR5, Lib.hid (Below.refl _ _)⟩
      case round =>
        obtain ⟨j, A, k, d, hj, rfl, rfl, hrd, hbw⟩ := hrel
        by_cases hlt : j < 6
        · have hjz : (j : Int) < 6 := by omega
          have hpt := KT.out wr hbw.out j hlt
          have htx := ((HB3.out.below (HL2.out.trans (hbw.out.mono HL2.out.size)) HB3.out.lt).cell (toff.getD j 0)).trans (TA.out j hlt)
          have hx := GD.out.ts (c.ts.getD j ⟨#[]⟩) (by rw [List.getD_eq_getElem?_getD, List.getElem?_eq_getElem (show j < c.ts.length from hlt)]; exact List.getElem_mem _)
          have hk := GD.out.len2 j
          rw [hrd.out.len] at hk
          have hn := c.e2_next hlt
          rw [encT, nums_length] at hn
          have HN := Lib.hid hn
          clear hn
          change wr.cell? ⟨w.heap.size, toff.getD j 0, none⟩ = some (.string (c.ts.getD j ⟨#[]⟩)) at htx
          generalize toff.getD j 0 = q at *
          generalize c.ts.getD j ⟨#[]⟩ = x at *
          go_wp2_with (go_at_call 35; refine (Text_any A k d (c.e2 j) x wr hrd.out (by omega) (by omega)).mono ?_; rintro e w4 ⟨v4, rfl, hown, hb4⟩
                       obtain ⟨A4, n4, d4, rfl, hr4⟩ := Rd.of_own' hown
                       have HR4 := Lib.hid hr4; have HB4 := Lib.hid hb4; clear hown hr4 hb4)
          go_roundw
          case rel => exact ⟨j + 1, A4, n4, d4, by omega, by go_num, rfl, by rw [HN.out]; exact HR4, Lib.hid (hbw.out.trans (HB4.out.mono hbw.out.size))⟩
          case measure => simp [intOf]; omega
        · obtain rfl : j = 6 := by omega
          have h15 := ((HB3.out.below (HL2.out.trans (hbw.out.mono HL2.out.size)) HB3.out.lt).cell 15).trans H15.out
          have hk := GD.out.len2 6
          rw [hrd.out.len] at hk
          have HE3 : Hid (c.e2 6 ++ enc c.bn = c.e3 L 0) := Lib.hid (by rw [c.e2_all, c.e3_zero, hLn])
          go_wp2_with (go_at_call 32; refine (Num_any A k d (c.e2 6) c.bn wr hrd.out (by omega) (by omega) (by omega)).mono ?_; rintro e w6 ⟨v6, rfl, hown, hb6⟩
                       rw [Int.toNat_natCast, HE3.out] at hown
                       obtain ⟨A6, n6, d6, rfl, hr6⟩ := Rd.of_own' hown
                       have HR6 := Lib.hid hr6; have HB6 := Lib.hid (HL2.out.trans ((hbw.out.trans (hb6.mono hbw.out.size)).mono HL2.out.size))
                       have h15' := (hb6.cell (p := ⟨w.heap.size, 15, none⟩) (Nat.lt_of_lt_of_le hg (Nat.le_trans HL2.out.size hbw.out.size))).trans h15
                       clear hown hr6 hb6)
          have HLL := Lib.hid (HL.out.below (HBEL2.out.trans (HB6.out.mono (Nat.le_of_lt hg))))
          have HB6W := Lib.hid (HBEL2.out.trans (HB6.out.mono (Nat.le_of_lt hg)))
          clear hrd hbw KT HL2 hk hs2 HE3 TA HB3 HR5 HL HB6
          rcases HA.out with h0 | ⟨b0, o0, rfl⟩
          · have hj0 : (c.bn : Int) = 0 := by omega
            go_loopw [4, 57] (fun v4 v57 wr => ∃ (j : Nat) (A : Option Addr) (k d : Nat), j ≤ c.bn ∧ v57 = .int .i64 j ∧ v4 = .slice A k d ∧ Hid (Rd wr wr.heap.size .u8 A k d (c.e3 L j)) ∧ Hid (Below w6.heap.size w6 wr)) (fun _ i _ => c.bn - (intOf i).toNat)
            case atStart => exact ⟨0, A6, n6, d6, by omega, rfl, rfl, HR6, Lib.hid (Below.refl _ _)⟩
            case round =>
              obtain ⟨j, A, k, d, hj, rfl, rfl, hrd, hbw⟩ := hrel
              have hk := GD.out.len3 (by omega : L.length ≤ 10) j
              rw [hrd.out.len] at hk
              have hjb : j = c.bn := by omega
              have HE : Hid (c.e3 L j = c.bytes L) := Lib.hid (c.e3_all L (by omega))
              have hd0 : decide ((j : Int) < (c.bn : Int)) = false := decide_eq_false (by omega)
              clear hk
              go_wp2_with fail
              go_ret2
              refine ⟨A, k, d, rfl, ?_, HB6W.out.trans (hbw.out.mono HB6W.out.size)⟩
              rw [← HE.out]
              exact hrd.out
          · go_loopw [4, 57] (fun v4 v57 wr => ∃ (j : Nat) (A : Option Addr) (k d : Nat), j ≤ c.bn ∧ v57 = .int .i64 j ∧ v4 = .slice A k d ∧ Hid (Rd wr wr.heap.size .u8 A k d (c.e3 L j)) ∧ Hid (Below w6.heap.size w6 wr)) (fun _ i _ => c.bn - (intOf i).toNat)
            case atStart => exact ⟨0, A6, n6, d6, by omega, rfl, rfl, HR6, Lib.hid (Below.refl _ _)⟩
            case round =>
              obtain ⟨j, A, k, d, hj, rfl, rfl, hrd, hbw⟩ := hrel
              have hk := GD.out.len3 (by omega : L.length ≤ 10) j
              rw [hrd.out.len] at hk
              by_cases hlt : j < c.bn
              · have hjz : (j : Int) < c.bn := by omega
                obtain ⟨b', o', hbA, hbl, htx⟩ := (HLL.out.below (hbw.out.mono HB6W.out.size)).cell hlt
                obtain ⟨rfl, rfl⟩ : b0 = b' ∧ o0 = o' := by simpa using hbA
                clear hbA
                have hx := GD.out.bs (L.getD j ⟨#[]⟩) (by rw [List.getD_eq_getElem?_getD, List.getElem?_eq_getElem (show j < L.length by omega)]; exact List.getElem_mem _)
                have hn := c.e3_next L (show j < L.length by omega)
                rw [encT, nums_length] at hn
                have HN := Lib.hid hn
                clear hn
                generalize L.getD j ⟨#[]⟩ = x at *
                go_wp2_with (go_at_call 35; refine (Text_any A k d (c.e3 L j) x wr hrd.out (by omega) (by omega)).mono ?_; rintro e w4 ⟨v4, rfl, hown, hb4⟩
                             obtain ⟨A4, n4, d4, rfl, hr4⟩ := Rd.of_own' hown
                             have HR4 := Lib.hid hr4; have HB4 := Lib.hid hb4; clear hown hr4 hb4)
                go_roundw
                case rel => exact ⟨j + 1, A4, n4, d4, by omega, by go_num, rfl, by rw [HN.out]; exact HR4, Lib.hid (hbw.out.trans (HB4.out.mono hbw.out.size))⟩
                case measure => simp [intOf]; omega
              · have hjb : j = c.bn := by omega
                have HE : Hid (c.e3 L j = c.bytes L) := Lib.hid (c.e3_all L (by omega))
                have hd0 : decide ((j : Int) < (c.bn : Int)) = false := decide_eq_false (by omega)
                clear hk
                go_wp2_with fail
                go_ret2
                refine ⟨A, k, d, rfl, ?_, HB6W.out.trans (hbw.out.mono HB6W.out.size)⟩
                rw [← HE.out]
                exact hrd.out
end Go.Proofs.YtkdncnhjlgidnaaGreatDoor
