/- What is proved here: a log's Newer, put, take and Add. -/
import Derived.Test.YtmmddkddjiodbaaEFrom
namespace Go.Proofs.Ytmmddkddjiodbaa
open Go Go.RowKit Go.Maps Go.WideMaps

section
variable {P : Program} {w : World}
theorem wpList_append_off {ops : Array Oper} {rest : List Oper} {o : Oper} {a : Act} {Q : Exit → Act → World → Prop} (hgd : o.guard = none) (s x : Operand) (t : TypeId)
    (ho : o.op = .call { callee := .builtin .append, args := #[s, x], argTypes := #[t, t] })
    (e : TypeId) (i : TypeInfo) (z : Value) (size bytes : Nat) (ht : P.underlying t = some (.slice e)) (hi : P.info? e = some i) (hz : i.zero = some z)
    (hsize : i.size = size) (hby : i.bytes = bytes) (hzs : z.cells.size = size) (hsz : 0 < size)
    (A : Option Addr) (n c : Nat) (xs : List Value) (hs : a.eval s = .slice A n c) (hrow : OffRow w e size A n c xs)
    (ad : Addr) (m : Nat) (news : List Value) (hx : a.eval x = .slice (some ad) 1 m) (hl : news.length = 1 * size) (hnews : ∀ j u, news[j]? = some u → w.cell? (ad.add j) = some u) (h1 : ∀ u ∈ news, u.oneCell' = true)
    (h63 : n + 1 ≤ maxLen) (hbytes : (n + 1) * bytes ≤ 140737488355328)
    (h : ∀ A' c' w', OffRow w' e size A' (n + 1) c' (xs ++ news) → Chg (fun k => ∃ ad, A = some ad ∧ k = ad.block) w w' → (∃ ad, A' = some ad ∧ ((∃ ad0, A = some ad0 ∧ ad.block = ad0.block) ∨ w.heap.size ≤ ad.block)) → wpList P ops Q rest (a.put o.dst (.slice A' (n + 1) c')) w') :
    wpList P ops Q (o :: rest) a w := by
  refine wpList_plain hgd fun K hK => ?_
  obtain ⟨A', c', w', hr, h2, h3, h4⟩ := run_append_off (P := P) w t o.type e i z size bytes ht hi hz hsize hby hzs hsz A n c xs hrow ad m news hl hnews h1 h63 hbytes
  unfold Oper.wp execOp
  simp only [ho, resolve, invoke, builtin, Sem.run_bind, Sem.run_pure, Result.andThen_ok, List.map_toArray, List.map_cons, List.map_nil, hs, hx, hr]
  exact hK _ _ (h A' c' w' h2 h3 h4)
end
section
variable {w : World} {b : Nat} {B T : Int} {L : List En} {Φ : Nat → Prop}
theorem newer_cases (B T : Int) (L : List En) (last term : Int) :
    (termAt B T L (B + L.length) < term ∧ newerF B T L last term = true) ∨ (¬ termAt B T L (B + L.length) < term ∧ ¬ term = termAt B T L (B + L.length) ∧ newerF B T L last term = false) ∨ (term = termAt B T L (B + L.length) ∧ newerF B T L last term = decide (B + L.length ≤ last)) := by
  unfold newerF
  by_cases h1 : termAt B T L (B + L.length) < term
  · exact .inl ⟨h1, decide_eq_true (.inl h1)⟩
  · by_cases h2 : term = termAt B T L (B + L.length)
    · refine .inr (.inr ⟨h2, ?_⟩)
      rw [decide_eq_decide]
      constructor
      · rintro (h | h)
        · exact absurd h h1
        · exact h.2
      · exact fun h => .inr ⟨h2, h⟩
    · exact .inr (.inl ⟨h1, h2, decide_eq_false (by rintro (h | h); exact h1 h; exact h2 h.1)⟩)
set_option maxHeartbeats 1600000 in
set_option maxRecDepth 100000 in
theorem Newer_any (h : LogAt w b B T L Φ) (h0 : 0 ≤ B) (h1 : B ≤ 4611686018427387904) (hL : L.length < 1000000) (last term : Int) :
    Calls Try.prog 22 #[.pointer (some ⟨b, 0, none⟩), .int .i64 last, .int .i64 term] w fun e w' => e = .returned (.bool (newerF B T L last term)) ∧ Below w.heap.size w w' := by
  have HL : Hid (∀ V, Below w.heap.size w V → Calls Try.prog 16 #[.pointer (some ⟨b, 0, none⟩)] V fun e w' => e = .returned (.int .i64 (B + L.length)) ∧ Hid (Below w.heap.size w w')) := Lib.hid fun V hb => (Last_any (h.later hb) h0 h1 hL).mono (by
    rintro e w' ⟨rfl, q, rfl⟩
    exact ⟨rfl, Lib.hid (hb.trans ((Chg.drewN (Φ := fun _ => False) V q).below hb.size fun _ h => h.elim))⟩)
  have HT : Hid (∀ V, Below w.heap.size w V → Calls Try.prog 21 #[.pointer (some ⟨b, 0, none⟩), .int .i64 (B + L.length)] V fun e w' => e = .returned (.tuple #[.int .i64 (termAt B T L (B + L.length)), .bool (hasAt B L (B + L.length))]) ∧ Hid (Below w.heap.size w w')) := Lib.hid fun V hb => (Term_any (h.later hb) h0 h1 hL (k := B + L.length) (by unfold I64; omega)).mono (by
    rintro e w' ⟨rfl, hb2⟩
    exact ⟨rfl, Lib.hid (hb.trans (hb2.mono hb.size))⟩)
  have HB0 := Lib.hid (Below.refl w.heap.size w)
  have hc := newer_cases B T L last term
  clear h h0 h1
  generalize newerF B T L last term = q at *
  generalize termAt B T L (B + L.length) = tl at *
  generalize hasAt B L (B + L.length) = ha at *
  generalize B + (L.length : Int) = la at *
  rcases hc with ⟨d1, rfl⟩ | ⟨d1, d2, rfl⟩ | ⟨rfl, rfl⟩
  · have e1 : decide (tl < term) = true := decide_eq_true d1
    go_enter Try.func22, Try.ntmps22
    go_wp2_with (first
      | (go_at_call 16; refine (HL.out _ HB0.out).mono ?_; rintro e w1 ⟨rfl, HB1⟩)
      | (go_at_call 21; refine (HT.out _ HB1.out).mono ?_; rintro e w2 ⟨rfl, HB2⟩))
    go_ret
    exact ⟨rfl, HB2.out⟩
  · have e1 : decide (tl < term) = false := decide_eq_false d1
    have e2 : (term == tl) = false := beq_eq_false_iff_ne.2 d2
    go_enter Try.func22, Try.ntmps22
    go_wp2_with (first
      | (go_at_call 16; refine (HL.out _ HB0.out).mono ?_; rintro e w1 ⟨rfl, HB1⟩)
      | (go_at_call 21; refine (HT.out _ HB1.out).mono ?_; rintro e w2 ⟨rfl, HB2⟩))
    go_ret
    exact ⟨rfl, HB2.out⟩
  · have e1 : decide (term < term) = false := decide_eq_false (by omega)
    go_enter Try.func22, Try.ntmps22
    go_wp2_with (first
      | (go_at_call 21; refine (HT.out _ HB1.out).mono ?_; rintro e w2 ⟨rfl, HB2⟩; clear HB1)
      | (go_at_call 16; refine (HL.out _ HB2.out).mono ?_; rintro e w3 ⟨rfl, HB3⟩)
      | (go_at_call 16; refine (HL.out _ HB0.out).mono ?_; rintro e w1 ⟨rfl, HB1⟩))
    go_ret
    exact ⟨rfl, HB3.out⟩

/-- What a call that changes the log leaves. -/
def Left (w : World) (b : Nat) (B T : Int) (L : List En) (Φ : Nat → Prop) (w' : World) : Prop := ∃ Φ', LogAt w' b B T L Φ' ∧ Nxt w w' Φ Φ'
theorem Left.same (h : LogAt w b B T L Φ) {w' : World} (hb : Below w.heap.size w w') : Left w b B T L Φ w' := ⟨Φ, h.later hb, Nxt.of_below hb⟩
theorem three_set2 {V : World} {R : Nat} {x y z : Value} {t : TypeId} (h : V.heap[R]? = some (.cells #[x, y, z] t (0, 0))) (u : Value) : (V.setCell ⟨R, 2, none⟩ u).heap[R]? = some (.cells #[x, y, u] t (0, 0)) := heap_setCell_same h 2 u
theorem LogV.put {A : Option Addr} {n c : Nat} (h : LogV w b B T A n c L Φ) {W W2 : World} (hW : Below w.heap.size w W) {p : Nat} (hp : p ≤ n) {A' : Option Addr} {c' : Nat} {x : En}
    (hrow : OffRow W2 36 2 A' (p + 1) c' ((L.flatMap enC).take (p * 2) ++ enC x)) (hc : Chg (fun k => ∃ ad, A = some ad ∧ k = ad.block) W W2) (hA : ∃ ad, A' = some ad ∧ ((∃ ad0, A = some ad0 ∧ ad.block = ad0.block) ∨ W.heap.size ≤ ad.block)) :
    W2.cell? ⟨b, 2, none⟩ = some (.slice A n c) ∧ W2.frozen? ⟨b, 2, none⟩ = false ∧ Left w b B T (L.take p ++ [x]) Φ (W2.setCell ⟨b, 2, none⟩ (.slice A' (p + 1) c')) := by
  have hcW : Chg Φ w W := Chg.of_below hW
  have hbl := h.bnd b h.own
  have hnb : ¬ ∃ ad, A = some ad ∧ b = ad.block := fun ⟨ad, had, e⟩ => (h.apart ad had).1 e.symm
  have hblk : W2.heap[b]? = some (.cells #[.int .i64 B, .int .i64 T, .slice A n c] 62 (0, 0)) := hc.heap ((hW.block _ hbl).trans h.blk) hnb
  obtain ⟨_, _, k2, _, _, f2⟩ := three_cells hblk
  refine ⟨k2, f2, ?_⟩
  obtain ⟨ad, rfl, had⟩ := hA
  have hsz : (W2.setCell ⟨b, 2, none⟩ (.slice (some ad) (p + 1) c')).heap.size = W2.heap.size := by simp
  have hcs := Chg.set W2 b 2 (.slice (some ad) (p + 1) c')
  have hwsz := hW.size
  have hWsz := hc.size
  have hlt := hrow.lt ad rfl
  refine ⟨fun k => (Φ k ∨ w.heap.size ≤ k) ∧ k < W2.heap.size, ⟨some ad, p + 1, c', three_set2 hblk _, ?_, ?_, ?_, ⟨.inl h.own, by omega⟩, fun k hk => by rw [hsz]; exact hk.2⟩, ?_, fun k hk hk2 => ?_⟩
  · have hne : ad.block ≠ b := by
      rcases had with ⟨ad0, h0, e⟩ | h0
      · rw [e]; exact (h.apart _ h0).1
      · omega
    have := hrow.keep hcs (fun a ha => by cases ha; exact hne)
    rw [List.flatMap_append, fm_take en_len, List.flatMap_singleton]
    exact this
  · rw [List.length_append, List.length_take, h.len]
    simp
    omega
  · intro a ha
    cases ha
    rcases had with ⟨ad0, h0, e⟩ | h0
    · exact ⟨by rw [e]; exact (h.apart _ h0).1, .inl (by rw [e]; exact (h.apart _ h0).2), hlt⟩
    · exact ⟨by omega, .inr (by omega), hlt⟩
  · exact (hcW.trans hc fun k _ ⟨ad, had, e⟩ => by rw [e]; exact (h.apart ad had).2).trans hcs fun k _ hk => by rw [hk]; exact h.own
  · rcases hk2.1 with h1 | h1
    · exact h1
    · omega
/-- What put leaves. -/
def PutSaid (w : World) (b : Nat) (B T : Int) (L : List En) (Φ : Nat → Prop) (e : Ending) (w' : World) : Prop := e = .returned (.tuple #[]) ∧ Left w b B T L Φ w'
theorem news_two (W : World) (x : En) (t : TypeId) : ∀ j u, (enC x)[j]? = some u → (W.alloc (.cells #[.int .i64 x.t, .string x.d] t)).cell? ((⟨W.heap.size, 0, none⟩ : Addr).add j) = some u := by
  intro j u hu
  rw [Addr.add_lit, cell_of_row _ _ _ _ _ _ (heap_alloc_new W _)]
  simpa [enC] using hu
set_option maxHeartbeats 1600000 in
set_option maxRecDepth 100000 in
theorem put_any (h : LogAt w b B T L Φ) (hL : L.length < 1000000) {p : Nat} (hp : p ≤ L.length) (x : En) :
    Calls Try.prog 29 #[.pointer (some ⟨b, 0, none⟩), .int .i64 p, enV x] w (PutSaid w b B T (L.take p ++ [x]) Φ) := by
  obtain ⟨A, n, c, h⟩ := h
  obtain ⟨i0, hi, hz0, hz1, hz2⟩ := info_partsR info_en
  have hn := h.len
  rw [hn] at hp hL
  obtain ⟨W, hW⟩ : ∃ W, W = w.alloc (.cells #[.int .i64 x.t, .string x.d] 36) := ⟨_, rfl⟩
  have hbW : Below w.heap.size w W := by rw [hW]; exact (Below.refl _ _).alloc (Nat.le_refl _) _
  obtain ⟨W2, hW2⟩ : ∃ W2, W2 = W.alloc (.cells #[.int .i64 x.t, .string x.d] 36) := ⟨_, rfl⟩
  have hbW2 : Below w.heap.size w W2 := by rw [hW2]; exact hbW.alloc hbW.size _
  obtain ⟨c0, c1, c2⟩ := (h.keep (Ψ := fun _ => False) (Chg.of_below hbW) fun _ _ => id).cells
  have hrow : OffRow W2 36 2 A n c (L.flatMap enC) := (h.keep (Ψ := fun _ => False) (Chg.of_below hbW2) fun _ _ => id).row
  have hcaps := hrow.caps
  have hres : W.heap[w.heap.size]? = some (.cells #[.int .i64 x.t, .string x.d] 36 (0, 0)) := by rw [hW]; exact heap_alloc_new _ _
  obtain ⟨r0, r1, _, _⟩ := two_cells hres
  have hnw : ∀ j u, (enC x)[j]? = some u → W2.cell? ((⟨W.heap.size, 0, none⟩ : Addr).add j) = some u := by rw [hW2]; exact news_two W x _
  have HNW := Lib.hid hnw
  have HE : Hid (∀ A' c' W3, OffRow W3 36 2 A' (p + 1) c' ((L.flatMap enC).take (p * 2) ++ enC x) → Chg (fun k => ∃ ad, A = some ad ∧ k = ad.block) W2 W3 → (∃ ad, A' = some ad ∧ ((∃ ad0, A = some ad0 ∧ ad.block = ad0.block) ∨ W2.heap.size ≤ ad.block)) → W3.cell? ⟨b, 2, none⟩ = some (.slice A n c) ∧ W3.frozen? ⟨b, 2, none⟩ = false ∧ Hid (Left w b B T (L.take p ++ [x]) Φ (W3.setCell ⟨b, 2, none⟩ (.slice A' (p + 1) c')))) := Lib.hid fun A' c' W3 h1 h2 h3 => by
    obtain ⟨q1, q2, q3⟩ := h.put hbW2 hp h1 h2 h3
    exact ⟨q1, q2, Lib.hid q3⟩
  have HO : Hid (p = n → OffRow W2 36 2 A p c ((L.flatMap enC).take (p * 2))) := Lib.hid fun e => hrow.take hp (by omega) (Nat.le_refl _)
  have HO2 := Lib.hid (hrow.take (m := p) (c' := p) hp (Nat.le_refl _) (by omega))
  have hA0 : A = none → n = 0 ∧ c = 0 := hrow.nil
  have HL2 : Hid ((enC x).length = 1 * 2) := Lib.hid rfl
  have H1 := Lib.hid (one_en x)
  have HW := Lib.hid hW
  have HW2 := Lib.hid hW2
  clear h hbW hbW2 hrow hW hW2 hres hnw hn
  generalize enC x = xc at *
  generalize (L.flatMap enC).take (p * 2) = ps at *
  generalize L.take p ++ [x] = L2 at *
  unfold enV
  rcases Nat.lt_or_ge p n with hpn | hpn
  · have d1 : (p : Int) < n := by omega
    cases hA : A with
    | none => have := hA0 hA; omega
    | some ad =>
      subst hA
      clear HO hA0
      go_enter Try.func29, Try.ntmps29
      go_upto_region 1 with fail
      rw [← HW.out]
      go_wp2_with (rw [← HW2.out]; at_builtin; refine wpList_append_off (o := ⟨some 23, _, _, _, _, _⟩) rfl (.tmp 20) (.tmp 22) 44 rfl 36 i0 _ 2 24 Try.underlying44 hi hz0 hz1 hz2 rfl (by omega) (some ad) p p ps rfl HO2.out ⟨W.heap.size, 0, none⟩ 1 xc rfl HL2.out HNW.out H1.out (by unfold maxLen; omega) (by omega) ?_; intro A' c' W3 h1 h2 h3; obtain ⟨k1, k2, HX⟩ := HE.out A' c' W3 h1 h2 h3; clear h1 h2 h3)
      go_end0
      exact ⟨rfl, HX.out⟩
  · obtain rfl : p = n := by omega
    have d1 : ¬ (p : Int) < p := by omega
    clear HO2
    go_enter Try.func29, Try.ntmps29
    go_upto_region 1 with fail
    rw [← HW.out]
    go_wp2_with (rw [← HW2.out]; at_builtin; refine wpList_append_off (o := ⟨some 23, _, _, _, _, _⟩) rfl (.tmp 20) (.tmp 22) 44 rfl 36 i0 _ 2 24 Try.underlying44 hi hz0 hz1 hz2 rfl (by omega) A p c ps rfl (HO.out rfl) ⟨W.heap.size, 0, none⟩ 1 xc rfl HL2.out HNW.out H1.out (by unfold maxLen; omega) (by omega) ?_; intro A' c' W3 h1 h2 h3; obtain ⟨k1, k2, HX⟩ := HE.out A' c' W3 h1 h2 h3; clear h1 h2 h3)
    go_end0
    exact ⟨rfl, HX.out⟩
end
end Go.Proofs.Ytmmddkddjiodbaa
