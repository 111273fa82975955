/- What is proved here: whether cmd.Right tells that a command may be written. -/
import Derived.Test.YtkdncnhjlgidnaaGreatDoorCFunc
namespace Go.Proofs.YtkdncnhjlgidnaaGreatDoor
open Go Go.RowKit

/-- A slice that reads as texts. -/
structure TRd (w : World) (B : Nat) (A : Option Addr) (n c : Nat) (L : List ByteArray) : Prop where
  len : L.length = n
  cap : n ≤ c
  max : c ≤ maxLen
  nil : A = none → n = 0 ∧ c = 0
  place : ∀ j s, L[j]? = some s → ∃ b o, A = some ⟨b, o, none⟩ ∧ b < B ∧ w.cell? ⟨b, o + j, none⟩ = some (.string s)
section
variable {w w' : World} {B B' : Nat} {A : Option Addr} {n c : Nat} {L : List ByteArray}
theorem TRd.none_ (w : World) (B : Nat) : TRd w B none 0 0 [] := ⟨rfl, Nat.le_refl _, Nat.zero_le _, fun _ => ⟨rfl, rfl⟩, fun j u h => by simp at h⟩
theorem TRd.keep (h : TRd w B A n c L) (hk : ∀ p : Addr, p.block < B → w'.cell? p = w.cell? p) : TRd w' B A n c L :=
  ⟨h.len, h.cap, h.max, h.nil, fun j u hu => by
    obtain ⟨b, o, e, hb, hc⟩ := h.place j u hu
    exact ⟨b, o, e, hb, (hk ⟨b, o + j, none⟩ hb).trans hc⟩⟩
theorem TRd.more (h : TRd w B A n c L) (hB : B ≤ B') : TRd w B' A n c L :=
  ⟨h.len, h.cap, h.max, h.nil, fun j u hu => by
    obtain ⟨b, o, e, hb, hc⟩ := h.place j u hu
    exact ⟨b, o, e, by omega, hc⟩⟩
theorem TRd.below (h : TRd w B A n c L) (hb : Below B w w') : TRd w' B A n c L := h.keep fun _ hp => hb.cell hp
theorem TRd.cell (h : TRd w B A n c L) {j : Nat} (hj : j < n) : ∃ b o, A = some ⟨b, o, none⟩ ∧ b < B ∧ w.cell? ⟨b, o + j, none⟩ = some (.string (L.getD j ⟨#[]⟩)) := by
  have hl : j < L.length := by rw [h.len]; exact hj
  obtain ⟨b, o, e, hb, hc⟩ := h.place j L[j] (List.getElem?_eq_getElem hl)
  exact ⟨b, o, e, hb, by rw [hc]; simp [List.getD, List.getElem?_eq_getElem hl]⟩
theorem TRd.known (h : TRd w B A n c L) (hB : B ≤ w.heap.size) : Known w A n fun j => .string (L.getD j ⟨#[]⟩) := fun W hW j hj => by
  obtain ⟨b, o, e, hb, hc⟩ := h.cell hj
  exact ⟨b, o, e, (hW.cell (p := ⟨b, o + j, none⟩) (by show b < w.heap.size; omega)).trans hc⟩
end
/-- May it be written? -/
def CM.right (c : CM) (L : List ByteArray) : Bool := decide (c.bn ≤ 10) && c.shift.ns.all fitB && c.ts.all (fun s => decide (s.size ≤ 256)) && L.all (fun s => decide (s.size ≤ 256))
theorem range_all {α : Type} (l : List α) (d : α) (p : α → Bool) (n : Nat) (h : l.length = n) : (List.range n).all (fun j => p (l.getD j d)) = l.all p := by
  subst h
  rw [Bool.eq_iff_iff, List.all_eq_true, List.all_eq_true]
  constructor
  · intro h x hx
    obtain ⟨j, hj, rfl⟩ := List.getElem_of_mem hx
    have := h j (List.mem_range.2 hj)
    rwa [List.getD_eq_getElem?_getD, List.getElem?_eq_getElem hj] at this
  · intro h j hj
    have hj := List.mem_range.1 hj
    rw [List.getD_eq_getElem?_getD, List.getElem?_eq_getElem hj]
    exact h _ (List.getElem_mem hj)
theorem range_any {α : Type} (l : List α) (d : α) (p : α → Bool) (n : Nat) (h : l.length = n) : (List.range n).any (fun j => !(p (l.getD j d))) = !(l.all p) := by
  rw [← range_all l d p n h, List.not_all_eq_any_not]
theorem ptrs_known {w : World} {s b : Nat} {t : TypeId} {l : List Nat} (h : Blk w s t ((l.map fun i => Value.pointer (some ⟨b, i, none⟩)).toArray)) : Known w (some ⟨s, 0, none⟩) l.length fun j => .pointer (some ⟨b, l.getD j 0, none⟩) := fun W hW j hj => by
  refine ⟨s, 0, rfl, ?_⟩
  rw [(h.below hW h.lt).cell, Nat.zero_add]
  simp [List.getD_eq_getElem?_getD, List.getElem?_eq_getElem hj]

set_option maxHeartbeats 3200000 in
set_option maxRecDepth 100000 in
theorem Right_any (c : CM) (L : List ByteArray) (w : World) (hL : TRd w w.heap.size c.bA c.bn c.bc L) (hn : c.bn ≤ 1000000) : Calls Tryz.prog 29 #[.agg c.cells] w fun e w' => e = .returned (.bool (c.right L)) ∧ Below w.heap.size w w' := by
  obtain ⟨cs, hcs⟩ : ∃ cs, cs = c.cells := ⟨_, rfl⟩
  have i1 := c.info
  have hs1 : cs.size = 18 := by rw [hcs]; rfl
  rw [← hcs] at i1
  have I2 := Lib.hid c.shift.info; have O2 := Lib.hid c.shift.ones
  have HSH : Hid (∀ W, Calls Tryz.prog 30 #[.agg cs] W fun e w' => e = .returned (.agg c.shift.cells) ∧ Below W.heap.size W w') := Lib.hid (by rw [hcs]; exact shifted_any c)
  have NA := Lib.hid c.shift.num_at; have TA := Lib.hid c.shift.text_at
  have h15 : c.shift.cells[15]? = some (.slice c.bA c.bn c.bc) := rfl
  obtain ⟨cs', hcs'⟩ : ∃ cs, cs = c.shift.cells := ⟨_, rfl⟩
  have hs2 : cs'.size = 18 := by rw [hcs']; rfl
  rw [← hcs'] at I2 O2 HSH NA TA h15
  rw [← hcs]
  have I1 := Lib.hid i1; have S1 := Lib.hid hs1; have S2 := Lib.hid hs2; have H15 := Lib.hid h15
  have HL := Lib.hid hL
  clear hcs hcs' i1 hs1 hs2 h15 hL
  have HR : Hid (c.right L = (decide (c.bn ≤ 10) && c.shift.ns.all fitB && c.ts.all (fun s => decide (s.size ≤ 256)) && L.all (fun s => decide (s.size ≤ 256)))) := Lib.hid rfl
  go_enter Tryz.func29, Tryz.ntmps29
  go_upto_region 1 with fail
  have hb1 : Blk (w.alloc (.cells cs 50)) w.heap.size 50 cs := Blk.fresh _ _ _
  have hbel : Below w.heap.size w (w.alloc (.cells cs 50)) := (Below.refl _ _).alloc (Nat.le_refl _) _
  generalize w.alloc (.cells cs 50) = W at *
  have HB1 := Lib.hid hb1; have HBEL := Lib.hid hbel
  clear hb1 hbel
  go_upto_region 4 with (first
    | (refine wpList_load_row (o := ⟨some 5, .load 50 (.tmp 1), _, _, _, _⟩) rfl 50 (.tmp 1) rfl w.heap.size rfl 50 cs (0, 0) _ HB1.out Tryz.underlying50 rfl I1.out ?_)
    | (go_at_call 30; refine (HSH.out W).mono ?_; rintro e w1 ⟨rfl, hb⟩
       have HB2 := Lib.hid (HB1.out.below hb HB1.out.lt); have HBEL1 := Lib.hid (HBEL.out.trans (hb.mono HBEL.out.size))
       clear hb)
    | (refine wpList_store_row (o := ⟨none, .store 50 (.tmp 1) (.tmp 6), _, _, _, _⟩) rfl 50 (.tmp 1) (.tmp 6) rfl w.heap.size cs' rfl rfl 50 cs HB2.out I2.out (by rw [S1.out, S2.out]) O2.out ?_))
  have HB3 := Lib.hid (HB2.out.row (cs' := cs'))
  have HBEL2 := Lib.hid (below_setRow HBEL1.out (Nat.le_refl _) cs')
  clear HB2 HB1 HBEL HBEL1
  generalize w1.setRow w.heap.size cs' = V at *
  have hlt := HBEL2.out.size
  have hg : w.heap.size < V.heap.size := HB3.out.lt
  have c15 := (HB3.out.cell 15).trans H15.out
  obtain ⟨q1, hq1⟩ : ∃ q, q = !(c.shift.ns.all fitB) := ⟨_, rfl⟩
  obtain ⟨q2, hq2⟩ : ∃ q, q = !(c.ts.all fun s => decide (s.size ≤ 256)) := ⟨_, rfl⟩
  obtain ⟨q3, hq3⟩ : ∃ q, q = (L.all fun s => decide (s.size ≤ 256)) := ⟨_, rfl⟩
  have HRR : Hid (c.right L = (decide (c.bn ≤ 10) && !q1 && !q2 && q3)) := Lib.hid (by rw [HR.out, hq1, hq2, hq3, Bool.not_not, Bool.not_not])
  have H1 : Hid (∀ W s, Below V.heap.size V W → Blk W s 86 ((noff.map fun i => Value.pointer (some ⟨w.heap.size, i, none⟩)).toArray) → Calls Tryz.prog 57 #[.slice (some ⟨s, 0, none⟩) 10 10, .func (.func 53) #[] #[]] W fun e w' => e = .returned (.bool q1) ∧ Below W.heap.size W w') := Lib.hid (fun W s hW hs => by
    have := ContainsF_pi 53 #[] (by intro args w; kernel_rfl) (some ⟨s, 0, none⟩) 10 10 (fun j => .pointer (some ⟨w.heap.size, noff.getD j 0, none⟩)) (fun j => !(fitB (c.shift.ns.getD j 0))) W (ptrs_known (l := noff) hs) (fun j _ => ⟨_, rfl⟩) (fun W2 j hW2 hj => Right1_any _ _ W2 (by rw [(HB3.out.below (hW.trans (hW2.mono hW.size)) HB3.out.lt).cell]; exact NA.out j hj)) (by omega)
    rw [range_any c.shift.ns 0 fitB 10 rfl, ← hq1] at this
    exact this)
  have H2 : Hid (∀ W s, Below V.heap.size V W → Blk W s 91 ((toff.map fun i => Value.pointer (some ⟨w.heap.size, i, none⟩)).toArray) → Calls Tryz.prog 58 #[.slice (some ⟨s, 0, none⟩) 6 6, .func (.func 55) #[] #[]] W fun e w' => e = .returned (.bool q2) ∧ Below W.heap.size W w') := Lib.hid (fun W s hW hs => by
    have := ContainsF_ps 55 #[] (by intro args w; kernel_rfl) (some ⟨s, 0, none⟩) 6 6 (fun j => .pointer (some ⟨w.heap.size, toff.getD j 0, none⟩)) (fun j => !(decide ((c.ts.getD j ⟨#[]⟩).size ≤ 256))) W (ptrs_known (l := toff) hs) (fun j _ => ⟨_, rfl⟩) (fun W2 j hW2 hj => Right2_any _ _ W2 (by rw [(HB3.out.below (hW.trans (hW2.mono hW.size)) HB3.out.lt).cell]; exact TA.out j hj)) (by omega)
    rw [range_any c.ts ⟨#[]⟩ (fun s => decide (s.size ≤ 256)) 6 rfl, ← hq2] at this
    exact this)
  have H3 : Hid (∀ W, Below V.heap.size V W → Calls Tryz.prog 59 #[.slice c.bA c.bn c.bc, .func (.func 56) #[] #[]] W fun e w' => e = .returned (.bool q3) ∧ Below W.heap.size W w') := Lib.hid (fun W hW => by
    have hLW : TRd W w.heap.size c.bA c.bn c.bc L := HL.out.below (HBEL2.out.trans (hW.mono (Nat.le_of_lt hg)))
    have := All_s 56 (by intro args w; kernel_rfl) c.bA c.bn c.bc (fun j => .string (L.getD j ⟨#[]⟩)) (fun j => decide ((L.getD j ⟨#[]⟩).size ≤ 256)) W (hLW.known (Nat.le_trans hlt hW.size)) (fun j _ => ⟨_, rfl⟩) hn (fun W2 j _ _ => (short_any _ W2).mono fun e w' ⟨he, hw⟩ => ⟨he, hw ▸ Below.refl _ _⟩)
    rw [range_all L ⟨#[]⟩ (fun s => decide (s.size ≤ 256)) c.bn hLW.len, ← hq3] at this
    exact this)
  clear HR hq1 hq2 hq3 HB3 HL NA TA HSH I1 I2 O2 S1 S2 H15
  by_cases hbn : c.bn ≤ 10
  · have HD : Hid (decide (c.bn ≤ 10) = true) := Lib.hid (decide_eq_true hbn)
    cases q1 <;> cases q2 <;> cases q3
    all_goals
      go_wp2_with (first
        | (go_at_call 31; refine (numbers_any w.heap.size _).mono ?_; rintro e w2 ⟨s1, rfl, hs1, hbk1, hbl1⟩; have HK1 := Lib.hid hbk1; have HL1 := Lib.hid hbl1; clear hbk1 hbl1)
        | (go_at_call 57; refine (H1.out _ _ HL1.out HK1.out).mono ?_; rintro e w3 ⟨rfl, hbl2⟩; have HL2 := Lib.hid (HL1.out.trans (hbl2.mono HL1.out.size)); clear hbl2)
        | (go_at_call 34; refine (texts_any w.heap.size _).mono ?_; rintro e w4 ⟨s2, rfl, hs2, hbk2, hbl3⟩; have HK2 := Lib.hid hbk2; have HL3 := Lib.hid (HL2.out.trans (hbl3.mono HL2.out.size)); clear hbk2 hbl3)
        | (go_at_call 58; refine (H2.out _ _ HL3.out HK2.out).mono ?_; rintro e w5 ⟨rfl, hbl4⟩; have HL4 := Lib.hid (HL3.out.trans (hbl4.mono HL3.out.size)); have c15' := (HL4.out.cell (p := ⟨w.heap.size, 15, none⟩) hg).trans c15; clear hbl4)
        | (go_at_call 59; refine (H3.out _ HL4.out).mono ?_; rintro e w6 ⟨rfl, hbl5⟩; have HL5 := Lib.hid (HL4.out.trans (hbl5.mono HL4.out.size)); clear hbl5))
      go_ret
      first
        | exact ⟨by rw [HRR.out, HD.out]; rfl, HBEL2.out.trans (HL5.out.mono hlt)⟩
        | exact ⟨by rw [HRR.out, HD.out]; rfl, HBEL2.out.trans (HL4.out.mono hlt)⟩
        | exact ⟨by rw [HRR.out, HD.out]; rfl, HBEL2.out.trans (HL2.out.mono hlt)⟩
  · have HD : Hid (decide (c.bn ≤ 10) = false) := Lib.hid (decide_eq_false hbn)
    go_wp2
    go_ret
    exact ⟨by rw [HRR.out, HD.out]; rfl, HBEL2.out⟩
end Go.Proofs.YtkdncnhjlgidnaaGreatDoor
