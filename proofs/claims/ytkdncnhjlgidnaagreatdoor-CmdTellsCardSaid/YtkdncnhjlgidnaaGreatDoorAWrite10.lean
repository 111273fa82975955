/- What is proved here: what the document's own WriteAnswer returns for an answer that may be written: its bytes, in new memory. -/
import Derived.Test.YtkdncnhjlgidnaaGreatDoorAWrite
import Derived.Test.YtkdncnhjlgidnaaGreatDoorARight10
import Derived.Test.YtkdncnhjlgidnaaGreatDoorCRead10
namespace Go.Proofs.YtkdncnhjlgidnaaGreatDoor
open Go Go.RowKit Go.Maps

set_option maxHeartbeats 6400000 in
set_option maxRecDepth 100000 in
theorem WriteAnswer10_any (a : AM) (I : List Int) (T : List TK) (w : World) (hI : Rd w w.heap.size .i64 a.iA a.iN a.iC I) (hT : KRd w w.heap.size a.tA a.tN a.tC T) (hr : aRight a.cd I T = true) :
    Calls Tryz.prog 11 #[.agg a.cells] w fun e w' => ∃ v, e = .returned v ∧ Own10 w' w.heap.size v (aBytes a.cd I T) ∧ Below w.heap.size w w' := by
  have hg := aGood hr
  have hil := hI.len; have htl := hT.len
  have HI := Lib.hid hI; have HT := Lib.hid hT; have GD := Lib.hid hg; have HL := Lib.hid (And.intro hil htl)
  clear hI hT hr hg hil htl
  unfold AM.cells at *
  generalize a.cd = cd at *
  generalize a.iA = iA at *
  generalize a.iN = iN at *
  generalize a.iC = iC at *
  generalize a.tA = tA at *
  generalize a.tN = tN at *
  generalize a.tC = tC at *
  have hiN : iN ≤ 10 := by have := GD.out.few; rw [HL.out.1] at this; exact this.1
  have htN : tN ≤ 10 := by have := GD.out.few; rw [HL.out.2] at this; exact this.2
  have hcd := GD.out.code
  obtain ⟨i0, hi, hz0, hz1, hz2⟩ := info_parts info_u8
  go_enter Tryz.func11, Tryz.ntmps11
  go_upto_region 1 with fail
  have hS0 : Blk (w.alloc (.cells #[.int .i64 cd, .slice iA iN iC, .slice tA tN tC] 34)).drew w.heap.size 34 #[.int .i64 cd, .slice iA iN iC, .slice tA tN tC] := (Blk.fresh _ _ _).drew
  have BW : Hid (Below w.heap.size w (w.alloc (.cells #[.int .i64 cd, .slice iA iN iC, .slice tA tN tC] 34)).drew) := Lib.hid (((Below.refl _ _).alloc (Nat.le_refl _) _).drew)
  generalize hg0 : w.heap.size = g0 at hS0 ⊢
  refine wp_region_G (fun w' => Blk w' g0 34 #[.int .i64 cd, .slice iA iN iC, .slice tA tN tC]) 7 (by kernel_rfl) ?_
  generalize (w.alloc (.cells #[.int .i64 cd, .slice iA iN iC, .slice tA tN tC] 34)).drew = wd at *
  refine wpAnyG_take (i := 0) (oi := ⟨some 6, _, _, _, _, _⟩) (v := .pointer (some ⟨g0, 0, none⟩)) rfl (by kernel_rfl) (by kernel_rfl) (by kernel_rfl) (by kernel_rfl) (fun _ _ _ h => h) (Or.inl ⟨by kernel_rfl, ?_⟩) hS0 ?_
  · intro wS hSw
    clear hSw
    go_simp
    try rfl
  try simp only [Act.put]
  refine wpAnyG_take (i := 1) (oi := ⟨some 7, _, _, _, _, _⟩) (v := .int .i64 cd) rfl (by kernel_rfl) (by kernel_rfl) (by kernel_rfl) (by kernel_rfl) (fun _ _ _ h => h) (Or.inl ⟨by kernel_rfl, ?_⟩) hS0 ?_
  · intro wS hSw
    have y := hSw.cell 0
    simp at y
    clear hSw
    go_simp
    try rfl
  try simp only [Act.put]
  refine wpAnyG_take (i := 3) (oi := ⟨some 9, _, _, _, _, _⟩) (v := .pointer (some ⟨g0, 1, none⟩)) rfl (by kernel_rfl) (by kernel_rfl) (by kernel_rfl) (by kernel_rfl) (fun _ _ _ h => h) (Or.inl ⟨by kernel_rfl, ?_⟩) hS0 ?_
  · intro wS hSw
    clear hSw
    go_simp
    try rfl
  try simp only [Act.put]
  refine wpAnyG_take (i := 4) (oi := ⟨some 10, _, _, _, _, _⟩) (v := .slice iA iN iC) rfl (by kernel_rfl) (by kernel_rfl) (by kernel_rfl) (by kernel_rfl) (fun _ _ _ h => h) (Or.inl ⟨by kernel_rfl, ?_⟩) hS0 ?_
  · intro wS hSw
    have y := hSw.cell 1
    simp at y
    clear hSw
    go_simp
    try rfl
  try simp only [Act.put]
  refine wpAnyG_one (i := 2) (o := ⟨some 8, _, _, _, _, _⟩) (by kernel_rfl) rfl (fun K hK => ?_)
  go_simp
  refine (refNum_any _ cd wd (Nat.le_refl _) (by omega) (by omega)).mono ?_
  rintro e q1 ⟨r1, rfl, hown, hb⟩
  have OB' := Lib.hid (own_base hown BW.out.size)
  have BW' := Lib.hid (BW.out.trans (hb.mono BW.out.size))
  have hS1 := hS0.below hb hS0.lt
  clear hb hown hS0 BW 
  have hS0 := hS1
  have BW := BW'
  have OB := OB'
  clear hS1 BW' OB'
  dsimp only
  refine hK.out _ _ (fun _ => hS0) ?_
  clear hK K
  try simp only [Act.put]
  refine wpAnyG_one (i := 5) (o := ⟨some 11, _, _, _, _, _⟩) (by kernel_rfl) rfl (fun K hK => ?_)
  go_simp
  refine (refNums_any iA iN iC I q1 (HI.out.later BW.out) (fun x hx => by have := GD.out.ids x hx; omega) (by omega)).mono ?_
  rintro e q2 ⟨r2, rfl, hown, hb⟩
  obtain ⟨A2, m2, c2, rfl, hrd⟩ := Rd.of_own' hown
  have OB' := Lib.hid (own_below OB.out hb)
  have RD := Lib.hid hrd
  have hlen := hrd.len
  have HLEN := Lib.hid hlen
  clear hrd hlen
  have BW' := Lib.hid (BW.out.trans (hb.mono BW.out.size))
  have hS1 := hS0.below hb hS0.lt
  clear hb hown hS0 BW OB
  have hS0 := hS1
  have BW := BW'
  have OB := OB'
  clear hS1 BW' OB'
  dsimp only
  refine hK.out _ _ (fun _ => hS0) ?_
  clear hK K
  try simp only [Act.put]
  refine wpAnyG_one (i := 6) (o := ⟨some 12, _, _, _, _, _⟩) (by kernel_rfl) rfl (fun K hK => ?_)
  refine step_append_where rfl (.tmp 8) (.tmp 11) 22 rfl w.heap.size 5 i0 _ 1 1 Tryz.underlying22 hi hz0 hz1 hz2 rfl (by decide) _ _ _ rfl OB.out A2 m2 c2 (((enc iN ++ encAll I)).map (Value.int .u8)) rfl (by rw [List.length_map]; have := HLEN.out; omega) RD.out.nil RD.out.news (ints_oneCell _ _) (by have := HLEN.out; have h1 := enc_len9 (n := cd.toNat) (by omega); have h2 := encAll_len I (fun x hx => by have := GD.out.ids x hx; omega); have h3 := enc_len9 (n := iN) (by omega); rw [HL.out.1] at h2; simp only [List.length_append] at this; unfold maxLen; omega) (by have := HLEN.out; have h1 := enc_len9 (n := cd.toNat) (by omega); have h2 := encAll_len I (fun x hx => by have := GD.out.ids x hx; omega); have h3 := enc_len9 (n := iN) (by omega); rw [HL.out.1] at h2; simp only [List.length_append] at this; omega) (by have := BW.out.size; omega) ?_
  intro r2a q2a hown hg hx
  clear hx
  have hS1 := own_blk OB.out hg hS0 (by decide)
  have BW' := Lib.hid (BW.out.grown hg BW.out.size (fun k hk => (OB.out.lt k hk).1))
  have OB' : Hid (Own10 q2a w.heap.size r2a (enc cd.toNat ++ (enc iN ++ encAll I))) := Lib.hid (own_next (by have h := HLEN.out; rw [h]; exact hown) rfl)
  clear hown hg hS0 BW OB HLEN RD
  have hS0 := hS1
  have BW := BW'
  have OB := OB'
  clear hS1 BW' OB'
  refine hK.out _ _ (fun _ => hS0) ?_
  clear hK K
  try simp only [Act.put]
  refine wpAnyG_one (i := 7) (o := ⟨some 3, _, _, _, _, _⟩) (by kernel_rfl) rfl (fun K hK => ?_)
  go_simp
  refine hK.out _ _ (fun h => absurd h (by decide)) ?_
  clear hK K
  try simp only [Act.put]
  refine wpAnyG_done (by kernel_rfl) ?_ _
  have HS1 := Lib.hid hS0
  clear hS0
  have y2 := HS1.out.cell 2
  simp at y2
  have HN3 := Lib.hid (refNum_any _ tN q2a (Nat.le_refl _) (by omega) (by omega))
  have HHL := Lib.hid (aHead_len GD.out tN htN)
  go_upto_region 3 with (first
    | (go_at_call 26; refine HN3.out.mono ?_; rintro e q3 ⟨r3, rfl, hown, hb⟩
       obtain ⟨A3, m3, c3, rfl, hrd⟩ := Rd.of_own' hown
       have OB3 := Lib.hid (own_below OB.out hb); have BW3 := Lib.hid (BW.out.trans (hb.mono BW.out.size)); have HS3 := Lib.hid (HS1.out.below hb HS1.out.lt)
       have RD3 := Lib.hid hrd; have HLEN3 := Lib.hid hrd.len
       clear hown hb hrd)
    | (at_builtin
       refine wpList_append_src rfl (.tmp 13) (.tmp 17) 22 rfl w.heap.size 5 i0 _ 1 1 Tryz.underlying22 hi hz0 hz1 hz2 rfl (by decide) _ _ _ rfl OB3.out A3 m3 c3 ((enc (Int.toNat tN)).map (Value.int .u8)) rfl (by rw [List.length_map]; have := HLEN3.out; omega) RD3.out.nil RD3.out.news (ints_oneCell _ _) (by have h1 := HLEN3.out; have h2 := HHL.out; unfold aHead at h2; rw [HL.out.1] at h2; simp only [List.length_append, Int.toNat_natCast] at h1 h2 ⊢; unfold maxLen; omega) (by have h1 := HLEN3.out; have h2 := HHL.out; unfold aHead at h2; rw [HL.out.1] at h2; simp only [List.length_append, Int.toNat_natCast] at h1 h2 ⊢; omega) (by have := BW3.out.size; omega) ?_
       intro r4 q4 hown hg
       have HS4 := Lib.hid (own_blk OB3.out hg HS3.out (by decide))
       have BW4 := Lib.hid (BW3.out.grown hg BW3.out.size (fun k hk => (OB3.out.lt k hk).1))
       have OB4 : Hid (Own10 q4 w.heap.size r4 (aHead cd I T.length ++ (T.take 0).flatMap tkB)) := Lib.hid (by
         have h0 : aHead cd I T.length ++ (T.take 0).flatMap tkB = (enc cd.toNat ++ (enc iN ++ encAll I)) ++ enc (Int.toNat tN) := by
           unfold aHead
           rw [HL.out.1, HL.out.2]
           simp
         exact own_next (by have h := HLEN3.out; rw [h]; exact hown) h0)
       clear hown hg))
  clear y2 HN3 HHL OB3 BW3 HS3 HS1 OB BW
  go_wp2_with fail
  go_loopw [3, 4] (fun v3 v4 wr => ∃ (j : Nat), j ≤ tN ∧ v4 = .int .i64 j ∧ Hid (Own10 wr w.heap.size v3 (aHead cd I T.length ++ (T.take j).flatMap tkB)) ∧ Hid (Below w.heap.size w wr) ∧ Hid (Blk wr g0 34 #[.int .i64 cd, .slice iA iN iC, .slice tA tN tC])) (fun _ i _ => tN - (intOf i).toNat)
  case atStart => exact ⟨0, by omega, rfl, OB4, BW4, HS4⟩
  case round =>
    obtain ⟨j, hj, rfl, hown, hbw, hbk⟩ := hrel
    clear OB4 BW4 HS4
    have y2 := hbk.out.cell 2
    simp at y2
    by_cases hlt : j < tN
    · have hjz : (j : Int) < tN := by omega
      have hlen : j < T.length := by rw [HL.out.2]; exact hlt
      obtain ⟨b, o, hbo, _, c0, c1, c2, c3, c4⟩ := (HT.out.below hbw.out).cell hlt
      have htk := GD.out.tks (T.getD j TK.zero) (by rw [List.getD_eq_getElem?_getD, List.getElem?_eq_getElem hlen]; exact List.getElem_mem _)
      have hpl := aPart_len GD.out j
      have HNX := Lib.hid (aPart_next cd I T hlen)
      have HTK : Hid (tkB (T.getD j TK.zero) = enc (T.getD j TK.zero).id.toNat ++ enc (T.getD j TK.zero).ct.toNat ++ (enc (T.getD j TK.zero).rc.size ++ nums (T.getD j TK.zero).rc) ++ (enc (T.getD j TK.zero).bd.size ++ nums (T.getD j TK.zero).bd) ++ (enc (T.getD j TK.zero).gr.size ++ nums (T.getD j TK.zero).gr)) := Lib.hid (by
        unfold tkB encT
        simp only [nums_length])
      generalize tkB (T.getD j TK.zero) = tx at *
      subst hbo
      generalize (T.getD j TK.zero).id = x0 at *
      generalize (T.getD j TK.zero).ct = x1 at *
      generalize (T.getD j TK.zero).rc = x2 at *
      generalize (T.getD j TK.zero).bd = x3 at *
      generalize (T.getD j TK.zero).gr = x4 at *
      generalize aHead cd I T.length ++ (T.take j).flatMap tkB = ys at *
      go_upto_region 7 with fail
      have hS0 : Blk (wr.alloc (.cells #[.int .i64 x0, .int .i64 x1, .string x2, .string x3, .string x4] 68)).drew g0 34 #[.int .i64 cd, .slice iA iN iC, .slice (some ⟨b, o, none⟩) tN tC] ∧ Blk (wr.alloc (.cells #[.int .i64 x0, .int .i64 x1, .string x2, .string x3, .string x4] 68)).drew wr.heap.size 68 #[.int .i64 x0, .int .i64 x1, .string x2, .string x3, .string x4] := ⟨(hbk.out.alloc _).drew, (Blk.fresh _ _ _).drew⟩
      have BW : Hid (Below w.heap.size w (wr.alloc (.cells #[.int .i64 x0, .int .i64 x1, .string x2, .string x3, .string x4] 68)).drew) := Lib.hid ((hbw.out.alloc hbw.out.size _).drew)
      have OB : Hid (Own10 (wr.alloc (.cells #[.int .i64 x0, .int .i64 x1, .string x2, .string x3, .string x4] 68)).drew w.heap.size u3 ys) := Lib.hid (own_below hown.out (((Below.refl _ _).alloc (Nat.le_refl _) _).drew))
      clear hown hbw hbk y2 c0 c1 c2 c3 c4 hlen
      generalize hgx : wr.heap.size = gx at hS0 ⊢
      clear hgx
      refine wp_region_G (fun w' => Blk w' g0 34 #[.int .i64 cd, .slice iA iN iC, .slice (some ⟨b, o, none⟩) tN tC] ∧ Blk w' gx 68 #[.int .i64 x0, .int .i64 x1, .string x2, .string x3, .string x4]) 9 (by kernel_rfl) ?_
      generalize (wr.alloc (.cells #[.int .i64 x0, .int .i64 x1, .string x2, .string x3, .string x4] 68)).drew = wd at *
      refine wpAnyG_take (i := 0) (oi := ⟨some 31, _, _, _, _, _⟩) (v := u3) rfl (by kernel_rfl) (by kernel_rfl) (by kernel_rfl) (by kernel_rfl) (fun _ _ _ h => h) (Or.inl ⟨by kernel_rfl, ?_⟩) hS0 ?_
      · intro wS hSw
        clear hSw
        go_simp
        try rfl
      try simp only [Act.put]
      refine wpAnyG_take (i := 1) (oi := ⟨some 32, _, _, _, _, _⟩) (v := .pointer (some ⟨gx, 0, none⟩)) rfl (by kernel_rfl) (by kernel_rfl) (by kernel_rfl) (by kernel_rfl) (fun _ _ _ h => h) (Or.inl ⟨by kernel_rfl, ?_⟩) hS0 ?_
      · intro wS hSw
        clear hSw
        go_simp
        try rfl
      try simp only [Act.put]
      refine wpAnyG_take (i := 2) (oi := ⟨some 33, _, _, _, _, _⟩) (v := .int .i64 x0) rfl (by kernel_rfl) (by kernel_rfl) (by kernel_rfl) (by kernel_rfl) (fun _ _ _ h => h) (Or.inl ⟨by kernel_rfl, ?_⟩) hS0 ?_
      · intro wS hSw
        have y := hSw.2.cell 0
        simp at y
        clear hSw
        go_simp
        try rfl
      try simp only [Act.put]
      refine wpAnyG_take (i := 5) (oi := ⟨some 36, _, _, _, _, _⟩) (v := .pointer (some ⟨gx, 1, none⟩)) rfl (by kernel_rfl) (by kernel_rfl) (by kernel_rfl) (by kernel_rfl) (fun _ _ _ h => h) (Or.inl ⟨by kernel_rfl, ?_⟩) hS0 ?_
      · intro wS hSw
        clear hSw
        go_simp
        try rfl
      try simp only [Act.put]
      refine wpAnyG_take (i := 6) (oi := ⟨some 37, _, _, _, _, _⟩) (v := .int .i64 x1) rfl (by kernel_rfl) (by kernel_rfl) (by kernel_rfl) (by kernel_rfl) (fun _ _ _ h => h) (Or.inl ⟨by kernel_rfl, ?_⟩) hS0 ?_
      · intro wS hSw
        have y := hSw.2.cell 1
        simp at y
        clear hSw
        go_simp
        try rfl
      try simp only [Act.put]
      refine wpAnyG_one (i := 3) (o := ⟨some 34, _, _, _, _, _⟩) (by kernel_rfl) rfl (fun K hK => ?_)
      go_simp
      refine (refNum_any _ x0 wd (Nat.le_refl _) (by omega) (by omega)).mono ?_
      rintro e q1 ⟨r1, rfl, hown, hb⟩
      obtain ⟨A1, m1, c1, rfl, hrd⟩ := Rd.of_own' hown
      have OB' := Lib.hid (own_below OB.out hb)
      have RD := Lib.hid hrd
      have hlen := hrd.len
      have HLEN := Lib.hid hlen
      clear hrd hlen
      have BW' := Lib.hid (BW.out.trans (hb.mono BW.out.size))
      have hS1 := And.intro (hS0.1.below hb hS0.1.lt) (hS0.2.below hb hS0.2.lt)
      clear hb hown hS0 BW OB
      have hS0 := hS1
      have BW := BW'
      have OB := OB'
      clear hS1 BW' OB'
      dsimp only
      refine hK.out _ _ (fun _ => hS0) ?_
      clear hK K
      try simp only [Act.put]
      refine wpAnyG_one (i := 4) (o := ⟨some 35, _, _, _, _, _⟩) (by kernel_rfl) rfl (fun K hK => ?_)
      refine step_append_where rfl (.tmp 31) (.tmp 34) 22 rfl w.heap.size 5 i0 _ 1 1 Tryz.underlying22 hi hz0 hz1 hz2 rfl (by decide) _ _ _ rfl OB.out A1 m1 c1 ((enc x0.toNat).map (Value.int .u8)) rfl (by rw [List.length_map]; have := HLEN.out; omega) RD.out.nil RD.out.news (ints_oneCell _ _) (by have := HLEN.out; have h1 := enc_len9 (n := x0.toNat) (by omega); unfold maxLen; omega) (by have := HLEN.out; have h1 := enc_len9 (n := x0.toNat) (by omega); omega) (by have := BW.out.size; omega) ?_
      intro r1a q1a hown hg hx
      clear hx
      have hS1 := And.intro (own_blk OB.out hg hS0.1 (by decide)) (own_blk OB.out hg hS0.2 (by decide))
      have BW' := Lib.hid (BW.out.grown hg BW.out.size (fun k hk => (OB.out.lt k hk).1))
      have OB' : Hid (Own10 q1a w.heap.size r1a (ys ++ enc x0.toNat)) := Lib.hid (own_next (by have h := HLEN.out; rw [h]; exact hown) rfl)
      clear hown hg hS0 BW OB HLEN RD
      have hS0 := hS1
      have BW := BW'
      have OB := OB'
      clear hS1 BW' OB'
      refine hK.out _ _ (fun _ => hS0) ?_
      clear hK K
      try simp only [Act.put]
      refine wpAnyG_one (i := 7) (o := ⟨some 38, _, _, _, _, _⟩) (by kernel_rfl) rfl (fun K hK => ?_)
      go_simp
      refine (refNum_any _ x1 q1a (Nat.le_refl _) (by omega) (by omega)).mono ?_
      rintro e q2 ⟨r2, rfl, hown, hb⟩
      obtain ⟨A2, m2, c2, rfl, hrd⟩ := Rd.of_own' hown
      have OB' := Lib.hid (own_below OB.out hb)
      have RD := Lib.hid hrd
      have hlen := hrd.len
      have HLEN := Lib.hid hlen
      clear hrd hlen
      have BW' := Lib.hid (BW.out.trans (hb.mono BW.out.size))
      have hS1 := And.intro (hS0.1.below hb hS0.1.lt) (hS0.2.below hb hS0.2.lt)
      clear hb hown hS0 BW OB
      have hS0 := hS1
      have BW := BW'
      have OB := OB'
      clear hS1 BW' OB'
      dsimp only
      refine hK.out _ _ (fun _ => hS0) ?_
      clear hK K
      try simp only [Act.put]
      refine wpAnyG_one (i := 8) (o := ⟨some 39, _, _, _, _, _⟩) (by kernel_rfl) rfl (fun K hK => ?_)
      refine step_append_where rfl (.tmp 35) (.tmp 38) 22 rfl w.heap.size 5 i0 _ 1 1 Tryz.underlying22 hi hz0 hz1 hz2 rfl (by decide) _ _ _ rfl OB.out A2 m2 c2 ((enc x1.toNat).map (Value.int .u8)) rfl (by rw [List.length_map]; have := HLEN.out; omega) RD.out.nil RD.out.news (ints_oneCell _ _) (by have := HLEN.out; have h1 := enc_len9 (n := x0.toNat) (by omega); have h2 := enc_len9 (n := x1.toNat) (by omega); simp only [List.length_append]; unfold maxLen; omega) (by have := HLEN.out; have h1 := enc_len9 (n := x0.toNat) (by omega); have h2 := enc_len9 (n := x1.toNat) (by omega); simp only [List.length_append]; omega) (by have := BW.out.size; omega) ?_
      intro r2a q2a hown hg hx
      clear hx
      have hS1 := And.intro (own_blk OB.out hg hS0.1 (by decide)) (own_blk OB.out hg hS0.2 (by decide))
      have BW' := Lib.hid (BW.out.grown hg BW.out.size (fun k hk => (OB.out.lt k hk).1))
      have OB' : Hid (Own10 q2a w.heap.size r2a ((ys ++ enc x0.toNat) ++ enc x1.toNat)) := Lib.hid (own_next (by have h := HLEN.out; rw [h]; exact hown) rfl)
      clear hown hg hS0 BW OB HLEN RD
      have hS0 := hS1
      have BW := BW'
      have OB := OB'
      clear hS1 BW' OB'
      refine hK.out _ _ (fun _ => hS0) ?_
      clear hK K
      try simp only [Act.put]
      refine wpAnyG_one (i := 9) (o := ⟨some 3, _, _, _, _, _⟩) (by kernel_rfl) rfl (fun K hK => ?_)
      go_simp
      refine hK.out _ _ (fun h => absurd h (by decide)) ?_
      clear hK K
      try simp only [Act.put]
      refine wpAnyG_done (by kernel_rfl) ?_ _
      generalize hzs : ys ++ enc x0.toNat ++ enc x1.toNat = zs at *
      have hzl : zs.length ≤ 9020 := by
        have h1 := enc_len9 (n := x0.toNat) (by omega)
        have h2 := enc_len9 (n := x1.toNat) (by omega)
        rw [← hzs]
        simp only [List.length_append]
        omega
      have HZS := Lib.hid hzs
      clear hzs hpl
      go_upto_region 8 with fail
      have HS7 := Lib.hid hS0; have OB7 := OB; have BW7 := BW
      clear hS0 OB BW
      have hS0 : Blk q2a.drew g0 34 #[.int .i64 cd, .slice iA iN iC, .slice (some ⟨b, o, none⟩) tN tC] ∧ Blk q2a.drew gx 68 #[.int .i64 x0, .int .i64 x1, .string x2, .string x3, .string x4] := ⟨HS7.out.1.drew, HS7.out.2.drew⟩
      have BW : Hid (Below w.heap.size w q2a.drew) := Lib.hid BW7.out.drew
      have OB : Hid (Own10 q2a.drew w.heap.size r2a zs) := Lib.hid (own_below OB7.out ((Below.refl _ _).drew))
      clear HS7 OB7 BW7
      refine wp_region_G (fun w' => Blk w' g0 34 #[.int .i64 cd, .slice iA iN iC, .slice (some ⟨b, o, none⟩) tN tC] ∧ Blk w' gx 68 #[.int .i64 x0, .int .i64 x1, .string x2, .string x3, .string x4]) 13 (by kernel_rfl) ?_
      generalize q2a.drew = wd2 at *
      refine wpAnyG_take (i := 0) (oi := ⟨some 40, _, _, _, _, _⟩) (v := r2a) rfl (by kernel_rfl) (by kernel_rfl) (by kernel_rfl) (by kernel_rfl) (fun _ _ _ h => h) (Or.inl ⟨by kernel_rfl, ?_⟩) hS0 ?_
      · intro wS hSw
        clear hSw
        go_simp
        try rfl
      try simp only [Act.put]
      refine wpAnyG_take (i := 1) (oi := ⟨some 41, _, _, _, _, _⟩) (v := .pointer (some ⟨gx, 2, none⟩)) rfl (by kernel_rfl) (by kernel_rfl) (by kernel_rfl) (by kernel_rfl) (fun _ _ _ h => h) (Or.inl ⟨by kernel_rfl, ?_⟩) hS0 ?_
      · intro wS hSw
        clear hSw
        go_simp
        try rfl
      try simp only [Act.put]
      refine wpAnyG_take (i := 2) (oi := ⟨some 42, _, _, _, _, _⟩) (v := .string x2) rfl (by kernel_rfl) (by kernel_rfl) (by kernel_rfl) (by kernel_rfl) (fun _ _ _ h => h) (Or.inl ⟨by kernel_rfl, ?_⟩) hS0 ?_
      · intro wS hSw
        have y := hSw.2.cell 2
        simp at y
        clear hSw
        go_simp
        try rfl
      try simp only [Act.put]
      refine wpAnyG_take (i := 5) (oi := ⟨some 45, _, _, _, _, _⟩) (v := .pointer (some ⟨gx, 3, none⟩)) rfl (by kernel_rfl) (by kernel_rfl) (by kernel_rfl) (by kernel_rfl) (fun _ _ _ h => h) (Or.inl ⟨by kernel_rfl, ?_⟩) hS0 ?_
      · intro wS hSw
        clear hSw
        go_simp
        try rfl
      try simp only [Act.put]
      refine wpAnyG_take (i := 6) (oi := ⟨some 46, _, _, _, _, _⟩) (v := .string x3) rfl (by kernel_rfl) (by kernel_rfl) (by kernel_rfl) (by kernel_rfl) (fun _ _ _ h => h) (Or.inl ⟨by kernel_rfl, ?_⟩) hS0 ?_
      · intro wS hSw
        have y := hSw.2.cell 3
        simp at y
        clear hSw
        go_simp
        try rfl
      try simp only [Act.put]
      refine wpAnyG_take (i := 9) (oi := ⟨some 49, _, _, _, _, _⟩) (v := .pointer (some ⟨gx, 4, none⟩)) rfl (by kernel_rfl) (by kernel_rfl) (by kernel_rfl) (by kernel_rfl) (fun _ _ _ h => h) (Or.inl ⟨by kernel_rfl, ?_⟩) hS0 ?_
      · intro wS hSw
        clear hSw
        go_simp
        try rfl
      try simp only [Act.put]
      refine wpAnyG_take (i := 10) (oi := ⟨some 50, _, _, _, _, _⟩) (v := .string x4) rfl (by kernel_rfl) (by kernel_rfl) (by kernel_rfl) (by kernel_rfl) (fun _ _ _ h => h) (Or.inl ⟨by kernel_rfl, ?_⟩) hS0 ?_
      · intro wS hSw
        have y := hSw.2.cell 4
        simp at y
        clear hSw
        go_simp
        try rfl
      try simp only [Act.put]
      refine wpAnyG_one (i := 3) (o := ⟨some 43, _, _, _, _, _⟩) (by kernel_rfl) rfl (fun K hK => ?_)
      go_simp
      refine (refText_any x2 wd2 (by omega)).mono ?_
      rintro e q3 ⟨r3, rfl, hown, hb⟩
      obtain ⟨A3, m3, c3, rfl, hrd⟩ := Rd.of_own' hown
      have OB' := Lib.hid (own_below OB.out hb)
      have RD := Lib.hid hrd
      have hlen := hrd.len
      have HLEN := Lib.hid hlen
      clear hrd hlen
      have BW' := Lib.hid (BW.out.trans (hb.mono BW.out.size))
      have hS1 := And.intro (hS0.1.below hb hS0.1.lt) (hS0.2.below hb hS0.2.lt)
      clear hb hown hS0 BW OB
      have hS0 := hS1
      have BW := BW'
      have OB := OB'
      clear hS1 BW' OB'
      dsimp only
      refine hK.out _ _ (fun _ => hS0) ?_
      clear hK K
      try simp only [Act.put]
      refine wpAnyG_one (i := 4) (o := ⟨some 44, _, _, _, _, _⟩) (by kernel_rfl) rfl (fun K hK => ?_)
      refine step_append_where rfl (.tmp 40) (.tmp 43) 22 rfl w.heap.size 5 i0 _ 1 1 Tryz.underlying22 hi hz0 hz1 hz2 rfl (by decide) _ _ _ rfl OB.out A3 m3 c3 (((enc x2.size ++ nums x2)).map (Value.int .u8)) rfl (by rw [List.length_map]; have := HLEN.out; omega) RD.out.nil RD.out.news (ints_oneCell _ _) (by have := HLEN.out; have h6 := enc_len9 (n := x2.size) (by omega); simp only [List.length_append, nums_length] at this; unfold maxLen; omega) (by have := HLEN.out; have h6 := enc_len9 (n := x2.size) (by omega); simp only [List.length_append, nums_length] at this; omega) (by have := BW.out.size; omega) ?_
      intro r3a q3a hown hg hx
      clear hx
      have hS1 := And.intro (own_blk OB.out hg hS0.1 (by decide)) (own_blk OB.out hg hS0.2 (by decide))
      have BW' := Lib.hid (BW.out.grown hg BW.out.size (fun k hk => (OB.out.lt k hk).1))
      have OB' : Hid (Own10 q3a w.heap.size r3a (zs ++ (enc x2.size ++ nums x2))) := Lib.hid (own_next (by have h := HLEN.out; rw [h]; exact hown) rfl)
      clear hown hg hS0 BW OB HLEN RD
      have hS0 := hS1
      have BW := BW'
      have OB := OB'
      clear hS1 BW' OB'
      refine hK.out _ _ (fun _ => hS0) ?_
      clear hK K
      try simp only [Act.put]
      refine wpAnyG_one (i := 7) (o := ⟨some 47, _, _, _, _, _⟩) (by kernel_rfl) rfl (fun K hK => ?_)
      go_simp
      refine (refText_any x3 q3a (by omega)).mono ?_
      rintro e q4 ⟨r4, rfl, hown, hb⟩
      obtain ⟨A4, m4, c4, rfl, hrd⟩ := Rd.of_own' hown
      have OB' := Lib.hid (own_below OB.out hb)
      have RD := Lib.hid hrd
      have hlen := hrd.len
      have HLEN := Lib.hid hlen
      clear hrd hlen
      have BW' := Lib.hid (BW.out.trans (hb.mono BW.out.size))
      have hS1 := And.intro (hS0.1.below hb hS0.1.lt) (hS0.2.below hb hS0.2.lt)
      clear hb hown hS0 BW OB
      have hS0 := hS1
      have BW := BW'
      have OB := OB'
      clear hS1 BW' OB'
      dsimp only
      refine hK.out _ _ (fun _ => hS0) ?_
      clear hK K
      try simp only [Act.put]
      refine wpAnyG_one (i := 8) (o := ⟨some 48, _, _, _, _, _⟩) (by kernel_rfl) rfl (fun K hK => ?_)
      refine step_append_where rfl (.tmp 44) (.tmp 47) 22 rfl w.heap.size 5 i0 _ 1 1 Tryz.underlying22 hi hz0 hz1 hz2 rfl (by decide) _ _ _ rfl OB.out A4 m4 c4 (((enc x3.size ++ nums x3)).map (Value.int .u8)) rfl (by rw [List.length_map]; have := HLEN.out; omega) RD.out.nil RD.out.news (ints_oneCell _ _) (by have := HLEN.out; have h6 := enc_len9 (n := x2.size) (by omega); have h7 := enc_len9 (n := x3.size) (by omega); simp only [List.length_append, nums_length] at this ⊢; unfold maxLen; omega) (by have := HLEN.out; have h6 := enc_len9 (n := x2.size) (by omega); have h7 := enc_len9 (n := x3.size) (by omega); simp only [List.length_append, nums_length] at this ⊢; omega) (by have := BW.out.size; omega) ?_
      intro r4a q4a hown hg hx
      clear hx
      have hS1 := And.intro (own_blk OB.out hg hS0.1 (by decide)) (own_blk OB.out hg hS0.2 (by decide))
      have BW' := Lib.hid (BW.out.grown hg BW.out.size (fun k hk => (OB.out.lt k hk).1))
      have OB' : Hid (Own10 q4a w.heap.size r4a ((zs ++ (enc x2.size ++ nums x2)) ++ (enc x3.size ++ nums x3))) := Lib.hid (own_next (by have h := HLEN.out; rw [h]; exact hown) rfl)
      clear hown hg hS0 BW OB HLEN RD
      have hS0 := hS1
      have BW := BW'
      have OB := OB'
      clear hS1 BW' OB'
      refine hK.out _ _ (fun _ => hS0) ?_
      clear hK K
      try simp only [Act.put]
      refine wpAnyG_one (i := 11) (o := ⟨some 51, _, _, _, _, _⟩) (by kernel_rfl) rfl (fun K hK => ?_)
      go_simp
      refine (refText_any x4 q4a (by omega)).mono ?_
      rintro e q5 ⟨r5, rfl, hown, hb⟩
      obtain ⟨A5, m5, c5, rfl, hrd⟩ := Rd.of_own' hown
      have OB' := Lib.hid (own_below OB.out hb)
      have RD := Lib.hid hrd
      have hlen := hrd.len
      have HLEN := Lib.hid hlen
      clear hrd hlen
      have BW' := Lib.hid (BW.out.trans (hb.mono BW.out.size))
      have hS1 := And.intro (hS0.1.below hb hS0.1.lt) (hS0.2.below hb hS0.2.lt)
      clear hb hown hS0 BW OB
      have hS0 := hS1
      have BW := BW'
      have OB := OB'
      clear hS1 BW' OB'
      dsimp only
      refine hK.out _ _ (fun _ => hS0) ?_
      clear hK K
      try simp only [Act.put]
      refine wpAnyG_one (i := 12) (o := ⟨some 52, _, _, _, _, _⟩) (by kernel_rfl) rfl (fun K hK => ?_)
      refine step_append_where rfl (.tmp 48) (.tmp 51) 22 rfl w.heap.size 5 i0 _ 1 1 Tryz.underlying22 hi hz0 hz1 hz2 rfl (by decide) _ _ _ rfl OB.out A5 m5 c5 (((enc x4.size ++ nums x4)).map (Value.int .u8)) rfl (by rw [List.length_map]; have := HLEN.out; omega) RD.out.nil RD.out.news (ints_oneCell _ _) (by have := HLEN.out; have h6 := enc_len9 (n := x2.size) (by omega); have h7 := enc_len9 (n := x3.size) (by omega); have h8 := enc_len9 (n := x4.size) (by omega); simp only [List.length_append, nums_length] at this ⊢; unfold maxLen; omega) (by have := HLEN.out; have h6 := enc_len9 (n := x2.size) (by omega); have h7 := enc_len9 (n := x3.size) (by omega); have h8 := enc_len9 (n := x4.size) (by omega); simp only [List.length_append, nums_length] at this ⊢; omega) (by have := BW.out.size; omega) ?_
      intro r5a q5a hown hg hx
      clear hx
      have hS1 := And.intro (own_blk OB.out hg hS0.1 (by decide)) (own_blk OB.out hg hS0.2 (by decide))
      have BW' := Lib.hid (BW.out.grown hg BW.out.size (fun k hk => (OB.out.lt k hk).1))
      have OB' : Hid (Own10 q5a w.heap.size r5a ((zs ++ (enc x2.size ++ nums x2) ++ (enc x3.size ++ nums x3)) ++ (enc x4.size ++ nums x4))) := Lib.hid (own_next (by have h := HLEN.out; rw [h]; exact hown) rfl)
      clear hown hg hS0 BW OB HLEN RD
      have hS0 := hS1
      have BW := BW'
      have OB := OB'
      clear hS1 BW' OB'
      refine hK.out _ _ (fun _ => hS0) ?_
      clear hK K
      try simp only [Act.put]
      refine wpAnyG_one (i := 13) (o := ⟨some 3, _, _, _, _, _⟩) (by kernel_rfl) rfl (fun K hK => ?_)
      go_simp
      refine hK.out _ _ (fun h => absurd h (by decide)) ?_
      clear hK K
      try simp only [Act.put]
      refine wpAnyG_done (by kernel_rfl) ?_ _
      have HSE := Lib.hid hS0.1
      clear hS0
      have w3 : IntKind.i64.wrap ((j : Int) + 1) = j + 1 := IntWalk.i64_in _ (by omega)
      go_wp2_with fail
      go_roundw
      case rel =>
        refine ⟨j + 1, by omega, by go_num, ?_, BW, HSE⟩
        rw [HNX.out, HTK.out]
        have h := OB
        rw [← HZS.out] at h
        simp only [List.append_assoc] at h ⊢
        exact h
      case measure => simp [intOf]; omega
    · have hje : j = tN := by omega
      have HE : Hid (Own10 wr w.heap.size u3 (aBytes cd I T)) := Lib.hid (by
        have h := hown.out
        rw [hje, ← HL.out.2, List.take_length] at h
        exact h)
      have hd0 : ¬ (j : Int) < tN := by omega
      clear hown hje
      go_wp2_with fail
      go_ret
      subst hg0
      exact ⟨_, rfl, HE.out, hbw.out⟩
end Go.Proofs.YtkdncnhjlgidnaaGreatDoor
