/- What is proved here: a ledger beside a row of the document's, and what each call makes of the two. -/
import Derived.Test.YtcdjahmnobjpkaaDoesT
namespace Go.Proofs.Ytcdjahmnobjpkaa
open Go Go.RowKit Go.Maps Go.WideMaps

/-- A ledger, and a row of the document's, both new since w0, and apart. -/
def LR (w0 w : World) (l room : Nat) (L : List En) (A : Option Addr) (n c : Nat) (R : List En) : Prop :=
  ∃ Φ : Nat → Prop, LedAt w l room L Φ ∧ (∀ k, Φ k → w0.heap.size ≤ k ∧ k < w.heap.size) ∧ RRow w w0.heap.size A n c R ∧ (∀ g, (Value.slice A n c).ownBlock = some g → ¬ Φ g) ∧ Below w0.heap.size w0 w
section
variable {w0 w w' V : World} {l room n c : Nat} {A : Option Addr} {L R : List En}
theorem LR.later (h : LR w0 w l room L A n c R) (hb : Below w.heap.size w w') : LR w0 w' l room L A n c R := by
  obtain ⟨Φ, h1, h2, h3, h4, h5⟩ := h
  have hs := hb.size
  exact ⟨Φ, h1.below hb, fun k hk => ⟨(h2 k hk).1, by have := (h2 k hk).2; omega⟩, h3.below hb, h4, h5.trans (hb.mono h5.size)⟩
theorem LR.start (h : LG w0 w l room L) : LR w0 w l room L none 0 0 [] :=
  ⟨fun k => w0.heap.size ≤ k ∧ k < w.heap.size, h.1.mono fun k hk hp => ⟨hp, hk⟩, fun k hk => hk, RRow.nil_ _ _, (fun g hg => by simp [Value.ownBlock] at hg), h.2⟩
theorem LR.row (h : LR w0 w l room L A n c R) : RRow w w0.heap.size A n c R := by
  obtain ⟨Φ, h1, h2, h3, h4, h5⟩ := h
  exact h3
theorem LR.lg (h : LR w0 w l room L A n c R) : LG w0 w l room L := by
  obtain ⟨Φ, h1, h2, h3, h4, h5⟩ := h
  exact ⟨h1.mono fun k _ hk => (h2 k hk).1, h5⟩
theorem LR.low (h : LR w0 w l room L A n c R) : Below w0.heap.size w0 w := h.lg.2
/-- What a call on the ledger leaves, where a box was laid, and the document's row has turned, ahead of it. -/
theorem LR.step {L' R3 : List En} {n3 c3 : Nat} {A3 : Option Addr} {V2 : World} (h : LR w0 w l room L A n c R) (hb : Below w.heap.size w V) (hb2 : Below V.heap.size V V2) (hr : RRow V2 w0.heap.size A3 n3 c3 R3) (ho : ∀ g, (Value.slice A3 n3 c3).ownBlock = some g → (Value.slice A n c).ownBlock = some g ∨ V.heap.size ≤ g) :
    ∃ Φ, LedAt V2 l room L Φ ∧ (∀ k, Φ k → w0.heap.size ≤ k ∧ k < w.heap.size) ∧ ∀ w', LedAt w' l room L' Φ → Chg Φ V2 w' → (∀ p : Addr, w.heap.size ≤ p.block → p.block < V2.heap.size → w'.cell? p = V2.cell? p) ∧ LR w0 w' l room L' A3 n3 c3 R3 := by
  obtain ⟨Φ, h1, h2, h3, h4, h5⟩ := h
  have hs := hb.size
  have hs2 := hb2.size
  have hbb : Below w.heap.size w V2 := hb.trans (hb2.mono hs)
  have hng : ∀ g, (Value.slice A3 n3 c3).ownBlock = some g → ¬ Φ g := fun g hg hp => by
    rcases ho g hg with h9 | h9
    · exact h4 g h9 hp
    · have := (h2 g hp).2; omega
  refine ⟨Φ, h1.below hbb, h2, fun w' ha hc => ⟨fun p hp hp2 => hc.cell hp2 fun e => by have := (h2 _ e).2; omega, ?_⟩⟩
  have hsz := hc.size
  exact ⟨Φ, ha, fun k hk => ⟨(h2 k hk).1, by have := (h2 k hk).2; omega⟩, hr.chg hc hng, hng, (h5.trans (hbb.mono h5.size)).trans (hc.below (by have := h5.size; omega) fun i hi => (h2 i hi).1)⟩

theorem put_does {rm : Int} {p : OpM} (h : LR w0 w l rm.toNat L A n c L) (hV : V = w.alloc (opBox p)) (hn : n < 800000) (hr : -9223372036854775808 ≤ rm ∧ rm ≤ 9223372036854775807) (hs : p.k.size ≤ maxLen) :
    Calls Try.prog 10 #[.slice A n c, .int .i64 rm, .agg #[.string p.k, .int .i64 p.v, .int .i64 p.t]] V fun e w2 => ∃ A3 n3 c3, e = .returned (.tuple #[.slice A3 n3 c3, .int .i64 (putA rm.toNat L p.k)]) ∧ (w2.cell? ⟨w.heap.size, 1, none⟩ = some (.int .i64 p.v) ∧ w2.cell? ⟨w.heap.size, 2, none⟩ = some (.int .i64 p.t) ∧ w2.cell? ⟨w.heap.size, 3, none⟩ = some (.string p.k)) ∧ Hid (n3 = (putR rm.toNat L ⟨p.k, .int .i64 p.v, p.t⟩).length) ∧
      Hid (Calls Try.prog 11 #[.pointer (some ⟨l, 0, none⟩), .string p.k, .int .i64 p.v, .int .i64 p.t] w2 fun e w3 => e = .returned (.int .i64 (putA rm.toNat L p.k)) ∧ Hid (LR w0 w3 l rm.toNat (putR rm.toNat L ⟨p.k, .int .i64 p.v, p.t⟩) A3 n3 c3 (putR rm.toNat L ⟨p.k, .int .i64 p.v, p.t⟩))) := by
  have hb : Below w.heap.size w V := by rw [hV]; exact below_box w p
  obtain ⟨v0, v1, v2, v3⟩ := box_cells w p
  rw [← hV] at v0 v1 v2 v3
  have hbv : w.heap.size < V.heap.size := by rw [hV]; simp
  have hl := h.row.len
  have hok := h.lg.1.ok
  refine (refPut_any (h.row.below hb) (Nat.le_trans h.low.size hb.size) hn hok.srt hr ⟨p.k, .int .i64 p.v, p.t⟩ p.v rfl).mono ?_
  rintro e w2 ⟨A3, n3, c3, rfl, hx⟩
  obtain ⟨hr3, hb2, ho⟩ := hx.out
  obtain ⟨Φ, h1, _, h2⟩ := h.step (L' := putR rm.toNat L ⟨p.k, .int .i64 p.v, p.t⟩) hb hb2 hr3 ho
  refine ⟨A3, n3, c3, rfl, ⟨(hb2.cell (p := ⟨w.heap.size, 1, none⟩) hbv).trans v1, (hb2.cell (p := ⟨w.heap.size, 2, none⟩) hbv).trans v2, (hb2.cell (p := ⟨w.heap.size, 3, none⟩) hbv).trans v3⟩, Lib.hid hr3.len.symm, Lib.hid ?_⟩
  refine (Put_any h1 (by omega) (x := ⟨p.k, .int .i64 p.v, p.t⟩) hs ⟨p.v, rfl⟩).mono ?_
  rintro e w3 ⟨rfl, hy⟩
  exact ⟨rfl, Lib.hid (h2 w3 hy.out.1 hy.out.2).2⟩
theorem drop_does {p : OpM} (h : LR w0 w l room L A n c L) (hV : V = w.alloc (opBox p)) (hn : n < 800000) (hs : p.k.size ≤ maxLen) :
    Calls Try.prog 12 #[.slice A n c, .string p.k] V fun e w2 => (∃ i : Int, e = .returned (.int .i64 i) ∧ decide (0 ≤ i) = (findE L p.k).isSome) ∧ V = w2 ∧
      Hid (Calls Try.prog 13 #[.pointer (some ⟨l, 0, none⟩), .string p.k] V fun e w3 => e = .returned (.bool (findE L p.k).isSome) ∧ w3.cell? ⟨w.heap.size, 3, none⟩ = some (.string p.k) ∧
        Hid (Calls Try.prog 14 #[.slice A n c, .string p.k] w3 fun e w4 => ∃ A3 n3 c3, e = .returned (.slice A3 n3 c3) ∧ Hid (n3 = (dropE L p.k).length ∧ LR w0 w4 l room (dropE L p.k) A3 n3 c3 (dropE L p.k)))) := by
  have hb : Below w.heap.size w V := by rw [hV]; exact below_box w p
  obtain ⟨v0, v1, v2, v3⟩ := box_cells w p
  rw [← hV] at v0 v1 v2 v3
  have hbv : w.heap.size < V.heap.size := by rw [hV]; simp
  refine (refAt_any (h.row.below hb) (by omega) p.k).mono ?_
  rintro e w2 ⟨he, rfl⟩
  refine ⟨?_, rfl, Lib.hid ?_⟩
  · rcases he with ⟨rfl, h1⟩ | ⟨j, x, rfl, _, h1⟩
    · exact ⟨-1, rfl, by rw [h1]; rfl⟩
    · exact ⟨j, rfl, by rw [h1]; simp⟩
  · obtain ⟨Φ, h1, h0, h2⟩ := h.step (L' := dropE L p.k) hb (Below.refl _ _) (h.row.below hb) fun g hg => .inl hg
    refine (Drop_any h1 hs).mono ?_
    rintro e w3 ⟨rfl, hy⟩
    obtain ⟨h3, h4⟩ := h2 w3 hy.out.1 hy.out.2
    refine ⟨rfl, (h3 ⟨w.heap.size, 3, none⟩ (Nat.le_refl _) hbv).trans v3, Lib.hid ?_⟩
    refine (refDrop_any h4.row (by omega) p.k).mono ?_
    rintro e w4 ⟨A3, n3, c3, rfl, hm⟩
    obtain ⟨Ψ, g1, g2, g3, g4, g5⟩ := h4
    have hM := hm.out
    refine ⟨A3, n3, c3, rfl, Lib.hid ⟨hM.1.len.symm, Ψ, g1.below hM.2, fun k hk => ⟨(g2 k hk).1, by have := (g2 k hk).2; have := hM.2.size; omega⟩, hM.1.rebase g5.size, fun g hg hp => ?_, g5.trans (hM.2.mono g5.size)⟩⟩
    have := (hM.1.lt g hg).1
    have := (g2 g hp).2
    omega
theorem sweep_does {p : OpM} (h : LR w0 w l room L A n c L) (hV : V = w.alloc (opBox p)) (hn : n < 800000) :
    Calls Try.prog 15 #[.slice A n c, .int .i64 p.t] V fun e w2 => ∃ A3 n3 c3 A4 q c4, e = .returned (.tuple #[.slice A3 n3 c3, .slice A4 q c4]) ∧ w2.cell? ⟨w.heap.size, 2, none⟩ = some (.int .i64 p.t) ∧ Hid (n3 = (leftE L p.t).length) ∧
      Hid (Calls Try.prog 17 #[.pointer (some ⟨l, 0, none⟩), .int .i64 p.t] w2 fun e w3 => ∃ A5 c5, e = .returned (.slice A5 q c5) ∧
        Hid (Calls Try.prog 16 #[.slice A5 q c5, .slice A4 q c4] w3 fun e w4 => e = .returned (.bool true) ∧ Hid (LR w0 w4 l room (leftE L p.t) A3 n3 c3 (leftE L p.t)))) := by
  have hb : Below w.heap.size w V := by rw [hV]; exact below_box w p
  obtain ⟨v0, v1, v2, v3⟩ := box_cells w p
  rw [← hV] at v0 v1 v2 v3
  have hbv : w.heap.size < V.heap.size := by rw [hV]; simp
  have hl := h.row.len
  have hok := h.lg.1.ok
  refine (refSweep_any (h.row.below hb) (Nat.le_trans h.low.size hb.size) hn hok.srt p.t).mono ?_
  rintro e w2 ⟨A3, n3, c3, A4, q, c4, ys, rfl, hx⟩
  obtain ⟨hr3, hb2, ho, hk0, hp, hso⟩ := hx.out
  have hk : RowK w2 A4 q c4 ys := own_base hk0 (Nat.zero_le _)
  obtain ⟨Φ, h1, h0, h2⟩ := h.step (L' := leftE L p.t) hb hb2 hr3 ho
  have hs2 := hb2.size
  have hs1 := hb.size
  refine ⟨A3, n3, c3, A4, q, c4, rfl, (hb2.cell (p := ⟨w.heap.size, 2, none⟩) hbv).trans v2, Lib.hid hr3.len.symm, Lib.hid ?_⟩
  refine (Sweep_any h1 (by omega) (sort_any _ (by have := past_len L p.t; omega) _ rfl)).mono ?_
  rintro e w3 ⟨A5, c5, zs, rfl, hp5, hs5, ho5, hl5, hc5⟩
  have hzs : zs = ys := sorted_one hok.srt (hp5.trans hp.symm) (fun x hx => (mem_past.1 (hp5.mem_iff.1 hx)).1) hs5 hso
  subst hzs
  have hql := hk.len
  rw [hql] at ho5 ⊢
  refine ⟨A5, c5, rfl, Lib.hid ?_⟩
  obtain ⟨h3, h4⟩ := h2 w3 hl5 hc5
  have hk3 : RowK w3 A4 q c4 zs := hc5.own hk fun g hg hp9 => by
    have := (hk0.lt g hg).1
    have := (h0 g hp9).2
    omega
  refine (texts_true (own_base ho5 (Nat.zero_le _)) hk3).mono ?_
  rintro e w4 ⟨rfl, hb4⟩
  exact ⟨rfl, Lib.hid (h4.later hb4.out)⟩
theorem copy_does {p : OpM} (h : LR w0 w l room L A n c L) (hV : V = w.alloc (opBox p)) (hn : n < 800000) (hs : p.k.size ≤ maxLen) :
    Calls Try.prog 18 #[.pointer (some ⟨l, 0, none⟩)] V fun e w2 => ∃ b : Nat, e = .returned (.pointer (some ⟨b, 0, none⟩)) ∧ (w2.cell? ⟨w.heap.size, 1, none⟩ = some (.int .i64 p.v) ∧ w2.cell? ⟨w.heap.size, 2, none⟩ = some (.int .i64 p.t) ∧ w2.cell? ⟨w.heap.size, 3, none⟩ = some (.string p.k)) ∧
      Hid (∀ vv : Int, Calls Try.prog 11 #[.pointer (some ⟨l, 0, none⟩), .string p.k, .int .i64 vv, .int .i64 p.t] w2 fun e w3 => (∃ q : Int, e = .returned (.int .i64 q)) ∧
        Hid (Calls Try.prog 17 #[.pointer (some ⟨l, 0, none⟩), .int .i64 1099511627776] w3 fun e w4 => (∃ A5 q5 c5, e = .returned (.slice A5 q5 c5)) ∧ Hid (LR w0 w4 b room L A n c L))) := by
  have hb : Below w.heap.size w V := by rw [hV]; exact below_box w p
  obtain ⟨v0, v1, v2, v3⟩ := box_cells w p
  rw [← hV] at v0 v1 v2 v3
  have hbv : w.heap.size < V.heap.size := by rw [hV]; simp
  have hl := h.row.len
  obtain ⟨Φ, h1, h2, h3, h4, h5⟩ := h
  have hs1 := hb.size
  refine (Copy_any (h1.below hb)).mono ?_
  rintro e w2 ⟨b, rfl, hbb, hcp, hb2⟩
  have hs2 := hb2.size
  have hW2 : Below w.heap.size w w2 := hb.trans (hb2.mono hs1)
  have hcp2 : LedAt w2 b room L (fun k => V.heap.size ≤ k ∧ k < w2.heap.size) := hcp.mono fun k hk hp => ⟨hp, hk⟩
  refine ⟨b, rfl, ⟨(hb2.cell (p := ⟨w.heap.size, 1, none⟩) hbv).trans v1, (hb2.cell (p := ⟨w.heap.size, 2, none⟩) hbv).trans v2, (hb2.cell (p := ⟨w.heap.size, 3, none⟩) hbv).trans v3⟩, Lib.hid fun vv => ?_⟩
  refine (Put_any (h1.below hW2) (by omega) (x := ⟨p.k, .int .i64 vv, p.t⟩) hs ⟨vv, rfl⟩).mono ?_
  rintro e w3 ⟨rfl, hy⟩
  obtain ⟨hy1, hy2⟩ := hy.out
  have hs3 := hy2.size
  refine ⟨⟨_, rfl⟩, Lib.hid ?_⟩
  have hle : (putR room L ⟨p.k, .int .i64 vv, p.t⟩).length ≤ L.length + 1 := put_len2 room L h1.ok.srt _
  refine (Sweep_any hy1 (by omega) (sort_any _ (by have := past_len (putR room L ⟨p.k, .int .i64 vv, p.t⟩) 1099511627776; omega) _ rfl)).mono ?_
  rintro e w4 ⟨A5, c5, zs, rfl, _, _, _, _, hc5⟩
  have hs4 := hc5.size
  have hx5 := h5.size
  refine ⟨⟨A5, _, c5, rfl⟩, Lib.hid ⟨fun k => V.heap.size ≤ k ∧ k < w2.heap.size, ?_, fun k hk => ⟨by omega, by omega⟩, ((h3.below hW2).chg hy2 h4).chg hc5 h4, fun g hg hp => ?_, ?_⟩⟩
  · refine (hcp2.keep hy2 fun k hk hp => ?_).keep hc5 fun k hk hp => ?_
    · have := (h2 k hp).2
      omega
    · have := (h2 k hp).2
      omega
  · have := (h3.lt g hg).2
    omega
  · exact ((h5.trans (hW2.mono hx5)).trans (hy2.below (by omega) fun i hi => (h2 i hi).1)).trans (hc5.below (by omega) fun i hi => (h2 i hi).1)
theorem LR.same (h : LR w0 w l room L A n c L) (hn : n < 800000) :
    Calls Try.prog 19 #[.pointer (some ⟨l, 0, none⟩), .slice A n c] w fun e w' => e = .returned (.bool true) ∧ Hid (LR w0 w' l room L A n c L) :=
  (same_true h.lg h.row hn).mono fun _ _ ⟨he, hb⟩ => ⟨he, Lib.hid (h.later hb.out)⟩
end
end Go.Proofs.Ytcdjahmnobjpkaa
