/- What is proved here: the bytes of an answer that may be written, and that of another one there are none. -/
import Derived.Test.YtkdncnhjlgidnaaGreatDoorARight
import Derived.Test.YtkdncnhjlgidnaaGreatDoorCExact
namespace Go.Proofs.YtkdncnhjlgidnaaGreatDoor
open Go Go.RowKit

/-- A message's bytes, and an answer's. -/
def tkB (x : TK) : List Int := enc x.id.toNat ++ enc x.ct.toNat ++ encT (nums x.rc) ++ encT (nums x.bd) ++ encT (nums x.gr)
def aHead (cd : Int) (I : List Int) (n : Nat) : List Int := enc cd.toNat ++ (enc I.length ++ encAll I) ++ enc n
def aBytes (cd : Int) (I : List Int) (T : List TK) : List Int := aHead cd I T.length ++ T.flatMap tkB
structure AGood (cd : Int) (I : List Int) (T : List TK) : Prop where
  few : I.length ≤ 10 ∧ T.length ≤ 10
  code : 0 ≤ cd ∧ cd ≤ 4611686018427387904
  ids : ∀ x ∈ I, 0 ≤ x ∧ x ≤ 4611686018427387904
  tks : ∀ x ∈ T, (0 ≤ x.id ∧ x.id ≤ 4611686018427387904) ∧ (0 ≤ x.ct ∧ x.ct ≤ 4611686018427387904) ∧ x.rc.size ≤ 256 ∧ x.bd.size ≤ 256 ∧ x.gr.size ≤ 256
theorem aGood {cd : Int} {I : List Int} {T : List TK} (h : aRight cd I T = true) : AGood cd I T := by
  unfold aRight at h
  simp only [Bool.and_eq_true, decide_eq_true_eq, List.all_eq_true] at h
  refine ⟨⟨h.1.1.1.1, h.1.1.1.2⟩, fit_le h.1.1.2, fun x hx => fit_le (h.1.2 x hx), fun x hx => ?_⟩
  have := h.2 x hx
  unfold TK.fine at this
  simp only [Bool.and_eq_true, decide_eq_true_eq] at this
  exact ⟨fit_le this.1.1.1.1, fit_le this.1.1.1.2, this.1.1.2, this.1.2, this.2⟩
theorem tkB_len {x : TK} (h : (0 ≤ x.id ∧ x.id ≤ 4611686018427387904) ∧ (0 ≤ x.ct ∧ x.ct ≤ 4611686018427387904) ∧ x.rc.size ≤ 256 ∧ x.bd.size ≤ 256 ∧ x.gr.size ≤ 256) : (tkB x).length ≤ 813 := by
  have h1 := enc_len9 (n := x.id.toNat) (by omega)
  have h2 := enc_len9 (n := x.ct.toNat) (by omega)
  have h3 := enc_len9 (n := x.rc.size) (by omega)
  have h4 := enc_len9 (n := x.bd.size) (by omega)
  have h5 := enc_len9 (n := x.gr.size) (by omega)
  unfold tkB encT
  simp only [List.length_append, nums_length]
  omega
theorem aHead_len {cd : Int} {I : List Int} {T : List TK} (h : AGood cd I T) (n : Nat) (hn : n ≤ 10) : (aHead cd I n).length ≤ 120 := by
  have h1 := enc_len9 (n := cd.toNat) (by have := h.code; omega)
  have h2 := enc_len9 (n := I.length) (by have := h.few; omega)
  have h3 := enc_len9 (n := n) (by omega)
  have h4 := encAll_len I (fun x hx => by have := h.ids x hx; omega)
  have := h.few
  unfold aHead
  simp only [List.length_append]
  omega
theorem aPart_len {cd : Int} {I : List Int} {T : List TK} (h : AGood cd I T) (j : Nat) : (aHead cd I T.length ++ (T.take j).flatMap tkB).length ≤ 9000 := by
  have h1 := aHead_len h T.length h.few.2
  have h2 : ∀ l : List TK, (∀ x ∈ l, x ∈ T) → (l.flatMap tkB).length ≤ l.length * 813 := fun l => by
    induction l with
    | nil => intro _; simp
    | cons x r ih =>
      intro hl
      have h3 := ih fun y hy => hl y (List.mem_cons_of_mem _ hy)
      have h4 := tkB_len (h.tks x (hl x (List.mem_cons_self ..)))
      rw [List.flatMap_cons, List.length_append, List.length_cons]
      omega
  have h3 := h2 (T.take j) fun x hx => List.mem_of_mem_take hx
  rw [List.length_take] at h3
  have := h.few.2
  rw [List.length_append]
  have h4 : min j T.length ≤ 10 := by omega
  have h5 : min j T.length * 813 ≤ 10 * 813 := Nat.mul_le_mul_right _ h4
  omega
theorem aPart_next (cd : Int) (I : List Int) (T : List TK) {j : Nat} (h : j < T.length) : aHead cd I T.length ++ (T.take (j + 1)).flatMap tkB = (aHead cd I T.length ++ (T.take j).flatMap tkB) ++ tkB (T.getD j TK.zero) := by
  rw [List.take_succ_eq_append_getElem h, List.flatMap_append, List.getD_eq_getElem?_getD, List.getElem?_eq_getElem h, Option.getD_some, ← List.append_assoc]
  simp

set_option maxHeartbeats 800000 in
theorem WriteAnswer_no (a : AM) (I : List Int) (T : List TK) (w : World) (hI : Rd w w.heap.size .i64 a.iA a.iN a.iC I) (hT : KRd w w.heap.size a.tA a.tN a.tC T) (hr : aRight a.cd I T = false) :
    Calls Tryz.prog 14 #[.agg a.cells] w fun e w' => ∃ (f : Nat) (s : ByteArray), e = .returned (.tuple #[.slice none 0 0, .iface 79 (.pointer (some ⟨f, 0, none⟩))]) ∧ Blk w' f 81 #[.string s, .int .i64 1] ∧ Below w.heap.size w w' := by
  have HRT : Hid (∀ W, Below w.heap.size w W → Calls Tryz.prog 38 #[.agg a.cells] W fun e w' => e = .returned (.bool false) ∧ Below W.heap.size W w') := Lib.hid fun W hW => by rw [← hr]; exact RightAnswer_any a I T W (hI.later hW) (hT.later hW)
  have HB0 : Hid (Below w.heap.size w (w.alloc (.cells a.cells 27))) := Lib.hid ((Below.refl _ _).alloc (Nat.le_refl _) _)
  unfold AM.cells at *
  clear hI hT hr
  go_enter Tryz.func14, Tryz.ntmps14
  go_wp2_with (go_at_call 38; refine (HRT.out _ HB0.out).mono ?_; rintro e w0 ⟨rfl, hb⟩
               have HBEL0 := Lib.hid (HB0.out.trans (hb.mono HB0.out.size))
               clear hb)
  go_ret2
  exact ⟨_, _, rfl, Blk.fresh _ _ _, HBEL0.out.alloc HBEL0.out.size _⟩

set_option maxHeartbeats 6400000 in
set_option maxRecDepth 100000 in
theorem WriteAnswer_ok (a : AM) (I : List Int) (T : List TK) (w : World) (hI : Rd w w.heap.size .i64 a.iA a.iN a.iC I) (hT : KRd w w.heap.size a.tA a.tN a.tC T) (hr : aRight a.cd I T = true) :
    Calls Tryz.prog 14 #[.agg a.cells] w fun e w' => ∃ (A : Option Addr) (n d : Nat), e = .returned (.tuple #[.slice A n d, .nilIface]) ∧ Rd w' w'.heap.size .u8 A n d (aBytes a.cd I T) ∧ Below w.heap.size w w' := by
  have hg := aGood hr
  have HRT : Hid (∀ W, Below w.heap.size w W → Calls Tryz.prog 38 #[.agg a.cells] W fun e w' => e = .returned (.bool true) ∧ Below W.heap.size W w') := Lib.hid fun W hW => by rw [← hr]; exact RightAnswer_any a I T W (hI.later hW) (hT.later hW)
  have HB0 : Hid (Below w.heap.size w (w.alloc (.cells a.cells 27))) := Lib.hid ((Below.refl _ _).alloc (Nat.le_refl _) _)
  have HK0 : Hid (Blk (w.alloc (.cells a.cells 27)) w.heap.size 27 a.cells) := Lib.hid (Blk.fresh _ _ _)
  have HI := Lib.hid hI; have HT := Lib.hid hT; have GD := Lib.hid hg
  have hil := hI.len; have htl := hT.len
  have HL := Lib.hid (And.intro hil htl)
  unfold AM.cells at *
  clear hI hT hr hg hil htl
  generalize a.cd = cd at *
  generalize a.iA = iA at *
  generalize a.iN = iN at *
  generalize a.iC = iC at *
  generalize a.tA = tA at *
  generalize a.tN = tN at *
  generalize a.tC = tC at *
  have hiN : iN ≤ 10 := by have := GD.out.few; rw [HL.out.1] at this; exact this.1
  have htN : tN ≤ 10 := by have := GD.out.few; rw [HL.out.2] at this; exact this.2
  have hcd := GD.out.code
  have HC1 : Hid (∀ W, Calls Tryz.prog 32 #[.slice none 0 0, .int .i64 cd] W _) := Lib.hid fun W => Num_any none 0 0 [] cd W (Rd.none_ _ _ _) (by omega) (by omega) (by omega)
  go_enter Tryz.func14, Tryz.ntmps14
  go_wp2_with (first
    | (go_at_call 38; refine (HRT.out _ HB0.out).mono ?_; rintro e w0 ⟨rfl, hb⟩
       have HBEL0 := Lib.hid (HB0.out.trans (hb.mono HB0.out.size)); have HK1 := Lib.hid (HK0.out.below hb HK0.out.lt)
       have y0 := HK1.out.cell 0
       simp at y0
       clear hb)
    | (go_at_call 32; with_reducible refine (HC1.out w0).mono ?_; rintro e w1 ⟨v1, rfl, hown, hb⟩
       obtain ⟨A1, n1, d1, rfl, hr1⟩ := Rd.of_own' hown
       have HR1 := Lib.hid hr1; have HBEL1 := Lib.hid (HBEL0.out.trans (hb.mono HBEL0.out.size)); have HK2 := Lib.hid (HK1.out.below hb HK1.out.lt)
       have y1 := HK2.out.cell 1
       simp at y1
       have hn1 : n1 ≤ 9 := by rw [← hr1.len]; simp; exact enc_len9 (by omega)
       have HN2 := Lib.hid (Nums_any A1 n1 d1 _ iA iN iC I w1 hr1 (HI.out.later HBEL1.out) (by omega) (by omega) (fun x hx => by have := GD.out.ids x hx; omega))
       clear hown hr1 hb)
    | (go_at_call 39; refine HN2.out.mono ?_; rintro e w2 ⟨v2, rfl, hown, hb⟩
       obtain ⟨A2, n2, d2, rfl, hr2⟩ := Rd.of_own' hown
       have HBEL2 := Lib.hid (HBEL1.out.trans (hb.mono HBEL1.out.size)); have HK3 := Lib.hid (HK2.out.below hb HK2.out.lt)
       have y2 := HK3.out.cell 2
       simp at y2
       have hn2 : n2 ≤ 120 := by
         have h1 := hr2.len
         have h2 := encAll_len I (fun x hx => by have := GD.out.ids x hx; omega)
         have h3 := enc_len9 (n := cd.toNat) (by omega)
         have h4 := enc_len9 (n := iN) (by omega)
         rw [HL.out.1] at h2
         simp only [List.nil_append, List.length_append] at h1
         omega
       have HN3 := Lib.hid (Num_any A2 n2 d2 _ tN w2 hr2 (by omega) (by omega) (by omega))
       clear hown hr2 hb)
    | (go_at_call 32; with_reducible refine HN3.out.mono ?_; rintro e w3 ⟨v3, rfl, hown, hb⟩
       obtain ⟨A3, n3, d3, rfl, hr3⟩ := Rd.of_own' hown
       have HBEL3 := Lib.hid (HBEL2.out.trans (hb.mono HBEL2.out.size)); have HK4 := Lib.hid (HK3.out.below hb HK3.out.lt)
       have y3 := HK4.out.cell 2
       simp at y3
       have hr3' : Rd w3 w3.heap.size .u8 A3 n3 d3 (aHead cd I T.length ++ (T.take 0).flatMap tkB) := by
         have e : [] ++ enc cd.toNat ++ (enc iN ++ encAll I) ++ enc (Int.toNat tN) = aHead cd I T.length ++ (T.take 0).flatMap tkB := by
           unfold aHead
           rw [HL.out.1, HL.out.2]
           simp
         rw [← e]
         exact hr3
       have HR3 := Lib.hid hr3'
       clear hown hr3 hr3' hb))
  clear y0 y1 y2 y3 hn1 hn2 HRT HB0 HK0 HK1 HK2 HK3 HC1 HN2 HN3 HBEL0 HBEL1 HBEL2
  go_loopw [4, 28] (fun v4 v28 wr => ∃ (j : Nat) (A : Option Addr) (k d : Nat), j ≤ tN ∧ v28 = .int .i64 j ∧ v4 = .slice A k d ∧ Hid (Rd wr wr.heap.size .u8 A k d (aHead cd I T.length ++ (T.take j).flatMap tkB)) ∧ Hid (Below w3.heap.size w3 wr)) (fun _ i _ => tN - (intOf i).toNat)
  case atStart => exact ⟨0, A3, n3, d3, by omega, rfl, rfl, HR3, Lib.hid (Below.refl _ _)⟩
  case round =>
    obtain ⟨j, A, k0, d, hj, rfl, rfl, hrd, hbw⟩ := hrel
    by_cases hlt : j < tN
    · have hjz : (j : Int) < tN := by omega
      have hlen : j < T.length := by rw [HL.out.2]; exact hlt
      obtain ⟨b, o, hbo, _, c0, c1, c2, c3, c4⟩ := (HT.out.below (HBEL3.out.trans (hbw.out.mono HBEL3.out.size))).cell hlt
      have htk := GD.out.tks (T.getD j TK.zero) (by rw [List.getD_eq_getElem?_getD, List.getElem?_eq_getElem hlen]; exact List.getElem_mem _)
      have hpl := aPart_len GD.out j
      have HNX := Lib.hid (aPart_next cd I T hlen)
      have HTK : Hid (tkB (T.getD j TK.zero) = enc (T.getD j TK.zero).id.toNat ++ enc (T.getD j TK.zero).ct.toNat ++ (enc (T.getD j TK.zero).rc.size ++ nums (T.getD j TK.zero).rc) ++ (enc (T.getD j TK.zero).bd.size ++ nums (T.getD j TK.zero).bd) ++ (enc (T.getD j TK.zero).gr.size ++ nums (T.getD j TK.zero).gr)) := Lib.hid (by
        unfold tkB encT
        simp only [nums_length])
      generalize tkB (T.getD j TK.zero) = tx at *
      subst hbo
      generalize (T.getD j TK.zero).id = x0 at *
      generalize (T.getD j TK.zero).ct = x1 at *
      generalize (T.getD j TK.zero).rc = x2 at *
      generalize (T.getD j TK.zero).bd = x3 at *
      generalize (T.getD j TK.zero).gr = x4 at *
      generalize aHead cd I T.length ++ (T.take j).flatMap tkB = ys at *
      have hk0 : k0 ≤ 9000 := by rw [← hrd.out.len]; exact hpl
      clear hpl hlen
      go_upto_region 9 with fail
      have KX0 := Lib.hid (Blk.fresh wr 59 #[.int .i64 x0, .int .i64 x1, .string x2, .string x3, .string x4])
      have HU0 : Hid (Below w3.heap.size w3 (wr.alloc (.cells #[.int .i64 x0, .int .i64 x1, .string x2, .string x3, .string x4] 59))) := Lib.hid (hbw.out.alloc hbw.out.size _)
      have hr0 := hrd.out.later ((Below.refl wr.heap.size wr).alloc (Nat.le_refl _) (.cells #[.int .i64 x0, .int .i64 x1, .string x2, .string x3, .string x4] 59))
      clear hbw hrd
      generalize wr.alloc (.cells #[.int .i64 x0, .int .i64 x1, .string x2, .string x3, .string x4] 59) = u0 at *
      generalize wr.heap.size = gx at *
      have HRL0 := Lib.hid hr0.len
      have HN0 := Lib.hid (Num_any A k0 d ys x0 u0 hr0 (by omega) (by omega) (by omega))
      have z0 := KX0.out.cell 0
      simp at z0
      clear hr0 c0 c1 c2 c3 c4
      go_wp2_with (first
        | (go_at_call 32; with_reducible refine HN0.out.mono ?_; rintro e u1 ⟨v1, rfl, hown, hb⟩
           obtain ⟨A11, k1, d11, rfl, hr⟩ := Rd.of_own' hown
           have HU1 := Lib.hid (HU0.out.trans (hb.mono HU0.out.size)); have KX1 := Lib.hid (KX0.out.below hb KX0.out.lt)
           have z1 := KX1.out.cell 1
           simp at z1
           have hk1 : k1 ≤ k0 + 270 := by
             have h1 := hr.len
             have h2 := enc_len9 (n := x0.toNat) (by omega)
             simp only [List.length_append] at h1
             have h3 := HRL0.out
             omega
           have HRL1 := Lib.hid hr.len; have HR1 := Lib.hid hr
           have HN1 := Lib.hid (Num_any A11 k1 d11 _ x1 u1 hr (by omega) (by omega) (by omega))
           clear hown hr hb)
        | (go_at_call 32; with_reducible refine HN1.out.mono ?_; rintro e u2 ⟨v2, rfl, hown, hb⟩
           obtain ⟨A12, k2, d12, rfl, hr⟩ := Rd.of_own' hown
           have HU2 := Lib.hid (HU1.out.trans (hb.mono HU1.out.size)); have KX2 := Lib.hid (KX1.out.below hb KX1.out.lt)
           have z2 := KX2.out.cell 2
           simp at z2
           have hk2 : k2 ≤ k1 + 270 := by
             have h1 := hr.len
             have h2 := enc_len9 (n := x1.toNat) (by omega)
             simp only [List.length_append] at h1
             have h3 := HRL1.out
             simp only [List.length_append] at h3
             omega
           have HRL2 := Lib.hid hr.len; have HR2 := Lib.hid hr
           have HN2 := Lib.hid (Text_any A12 k2 d12 _ x2 u2 hr (by omega) (by omega))
           clear hown hr hb)
        | (go_at_call 35; with_reducible refine HN2.out.mono ?_; rintro e u3 ⟨v3, rfl, hown, hb⟩
           obtain ⟨A13, k3, d13, rfl, hr⟩ := Rd.of_own' hown
           have HU3 := Lib.hid (HU2.out.trans (hb.mono HU2.out.size)); have KX3 := Lib.hid (KX2.out.below hb KX2.out.lt)
           have z3 := KX3.out.cell 3
           simp at z3
           have hk3 : k3 ≤ k2 + 270 := by
             have h1 := hr.len
             have h2 := enc_len9 (n := x2.size) (by omega)
             simp only [List.length_append, nums_length] at h1
             have h3 := HRL2.out
             simp only [List.length_append] at h3
             omega
           have HRL3 := Lib.hid hr.len; have HR3 := Lib.hid hr
           have HN3 := Lib.hid (Text_any A13 k3 d13 _ x3 u3 hr (by omega) (by omega))
           clear hown hr hb)
        | (go_at_call 35; with_reducible refine HN3.out.mono ?_; rintro e u4 ⟨v4, rfl, hown, hb⟩
           obtain ⟨A14, k4, d14, rfl, hr⟩ := Rd.of_own' hown
           have HU4 := Lib.hid (HU3.out.trans (hb.mono HU3.out.size)); have KX4 := Lib.hid (KX3.out.below hb KX3.out.lt)
           have z4 := KX4.out.cell 4
           simp at z4
           have hk4 : k4 ≤ k3 + 270 := by
             have h1 := hr.len
             have h2 := enc_len9 (n := x3.size) (by omega)
             simp only [List.length_append, nums_length] at h1
             have h3 := HRL3.out
             simp only [List.length_append, nums_length] at h3
             omega
           have HRL4 := Lib.hid hr.len; have HR4 := Lib.hid hr
           have HN4 := Lib.hid (Text_any A14 k4 d14 _ x4 u4 hr (by omega) (by omega))
           clear hown hr hb)
        | (go_at_call 35; with_reducible refine HN4.out.mono ?_; rintro e u5 ⟨v5, rfl, hown, hb⟩
           obtain ⟨A15, k5, d15, rfl, hr⟩ := Rd.of_own' hown
           have HU5 := Lib.hid (HU4.out.trans (hb.mono HU4.out.size)); have KX5 := Lib.hid (KX4.out.below hb KX4.out.lt)
           have z5 := KX5.out.cell 4
           simp at z5
           have hk5 : k5 ≤ k4 + 270 := by
             have h1 := hr.len
             have h2 := enc_len9 (n := x4.size) (by omega)
             simp only [List.length_append, nums_length] at h1
             have h3 := HRL4.out
             simp only [List.length_append, nums_length] at h3
             omega
           have HRL5 := Lib.hid hr.len; have HR5 := Lib.hid hr
           clear hown hr hb))
      go_roundw
      case rel =>
        refine ⟨j + 1, A15, k5, d15, by omega, by go_num, rfl, ?_, HU5⟩
        rw [HNX.out, HTK.out]
        have := HR5
        simp only [List.append_assoc] at this ⊢
        exact this
      case measure => simp [intOf]; omega
    · have hje : j = tN := by omega
      have HE : Hid (Rd wr wr.heap.size .u8 A k0 d (aBytes cd I T)) := Lib.hid (by
        have h := hrd.out
        rw [hje, ← HL.out.2, List.take_length] at h
        exact h)
      have HBQ := Lib.hid (HBEL3.out.trans (hbw.out.mono HBEL3.out.size))
      have hd0 : ¬ (j : Int) < tN := by omega
      clear hrd hbw hje
      go_wp2_with fail
      go_ret2
      exact ⟨_, _, _, rfl, HE.out, HBQ.out⟩
end Go.Proofs.YtkdncnhjlgidnaaGreatDoor
