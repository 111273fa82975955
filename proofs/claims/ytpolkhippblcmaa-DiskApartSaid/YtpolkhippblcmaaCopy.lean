/- What is proved here: what the disk's Copy returns. -/
import Derived.Test.YtpolkhippblcmaaAwake
import Derived.Maps.RangeWalk
import Derived.Deep.DeepCutAuto
import Derived.Deep.RegionHeld3
namespace Go.Proofs.Ytpolkhippblcmaa
open Go Go.RowKit Go.Maps

theorem run_makeMap_hint (n : Int) (w : World) : (Instr.makeMap 55 (some (.int .i64 n))).run Try.prog w = .ok (.map (some w.heap.size)) (w.alloc (.map #[] 0)) := by
  simp [Instr.makeMap, run_underlying Try.underlying55, asInt, Result.andThen]
  rfl

theorem dat_atKey' (k : List UInt8) (z : DataW Unit) : ∀ L : List Fil, (datOf L).atKey (.string k) z = match L.find? (fun x => x.nm == k) with | some x => .lit (.int .i64 x.p) | none => z
  | [] => rfl
  | y :: r => by
    have ih := dat_atKey' k z r
    unfold datOf DataW.atKey at ih ⊢
    simp only [List.map_cons, List.find?_cons]
    have e : (entryOf y).1.sameKey (.string k) = (y.nm == k) := rfl
    rw [e]
    cases hy : y.nm == k
    · exact ih
    · rfl
/-- What stands at a key whatever is said of keys that are not there, stands there. -/
theorem dat_there {L : List Fil} {k : List UInt8} {d : DataW Unit} (h : ∀ z, (datOf L).atKey (.string k) z = d) : ∃ x ∈ L, x.nm = k ∧ d = .lit (.int .i64 x.p) := by
  have h1 := h .nil
  have h2 := h (.lit (.bool true))
  rw [dat_atKey'] at h1 h2
  cases e : L.find? (fun x => x.nm == k) with
  | none =>
    rw [e] at h1 h2
    simp only at h1 h2
    rw [← h2] at h1
    cases h1
  | some x =>
    rw [e] at h1
    exact ⟨x, List.mem_of_find?_eq_some e, by simpa using List.find?_some e, h1.symm⟩

/-- The copy, of which some files are still to come. -/
structure Half (w0 : World) (w : World) (d m : Nat) (room : Int) (U : Nat) (L : List Fil) : Prop where
  blk : w.heap[d]? = some (.cells #[.int .i64 room, .int .i64 U, .map (some m)] 57 (0, 0))
  map : DMap w m L
  file : ∀ x ∈ L, FileAt w x
  srt : Rising Fil.nm L
  apart : L.Pairwise Apart
  inn : w0.heap.size ≤ d ∧ w0.heap.size ≤ m ∧ ∀ x ∈ L, w0.heap.size ≤ x.p ∧ ∀ g, x.v.ownBlock = some g → w0.heap.size ≤ g
def leftS (S : List RF) (left : Lit → Bool) : List RF := S.filter fun f => !left (.string f.nm)
theorem leftS_step {S : List RF} (h : Rising RF.nm S) {f : RF} (hf : f ∈ S) (left : Lit → Bool) :
    putN RF.nm f (leftS S left) = leftS S fun z => left z && !z.sameKey (.string f.nm) := by
  refine Rising.ext ((h.filter _).putN f) (h.filter _) fun z => ?_
  rw [mem_putN]
  unfold leftS
  simp only [List.mem_filter]
  have e : (Lit.string z.nm).sameKey (.string f.nm) = (z.nm == f.nm) := rfl
  rw [e]
  constructor
  · rintro (rfl | ⟨⟨h1, h2⟩, h3⟩)
    · exact ⟨hf, by simp⟩
    · exact ⟨h1, by simp at h2 ⊢; simp [h2]⟩
  · rintro ⟨h1, h2⟩
    by_cases hz : z.nm = f.nm
    · exact .inl (h.one h1 hf hz)
    · refine .inr ⟨⟨h1, ?_⟩, hz⟩
      have : (z.nm == f.nm) = false := by simpa using hz
      rw [this] at h2
      simpa using h2
theorem leftS_none (S : List RF) : leftS S (fun _ => true) = [] := by unfold leftS; simp
theorem leftS_all {S : List RF} {left : Lit → Bool} (h : ∀ k, left k = false) : leftS S left = S := by
  unfold leftS
  rw [List.filter_eq_self]
  intro f _
  rw [h]
  rfl
theorem leftS_start (L : List Fil) : leftS (L.map Fil.f) (Maps.has (datOf L)) = [] := by
  unfold leftS
  rw [List.filter_eq_nil_iff]
  intro f hf
  obtain ⟨x, hx, rfl⟩ := List.mem_map.1 hf
  have : Maps.has (datOf L) (.string x.f.nm) = true := by
    rw [dat_has]
    exact List.any_eq_true.2 ⟨x, hx, by simp⟩
  rw [this]
  simp

section
variable {w0 w w' : World} {d m : Nat} {room : Int} {U : Nat} {L : List Fil} {Φ : Nat → Prop}
theorem Half.keep (h : Half w0 w d m room U L) (hc : Chg Φ w w') (hd : ¬ Φ d) (hm : ¬ Φ m) (hx : ∀ x ∈ L, ¬ Φ x.p ∧ ∀ g, x.v.ownBlock = some g → ¬ Φ g) : Half w0 w' d m room U L :=
  ⟨hc.heap h.blk hd, h.map.keep hc hm, fun x hx' => (h.file x hx').keep hc (hx x hx').1 (hx x hx').2, h.srt, h.apart, h.inn⟩
theorem Half.m_d (h : Half w0 w d m room U L) : m ≠ d := fun e => by
  obtain ⟨es, clock, hb, _⟩ := h.map
  rw [e, h.blk] at hb
  cases hb
theorem Half.later (h : Half w0 w d m room U L) (hb : Below w.heap.size w w') : Half w0 w' d m room U L :=
  h.keep (Φ := fun _ => False) (Chg.of_below hb) id id fun _ _ => ⟨id, fun _ _ => id⟩
/-- One file more. -/
theorem Half.put (h : Half w0 w d m room U L) {x : Fil} (hf : FileAt w x) (hn : ∀ y ∈ L, y.nm ≠ x.nm) (ha : ∀ y ∈ L, Apart x y) (hx : w0.heap.size ≤ x.p ∧ ∀ g, x.v.ownBlock = some g → w0.heap.size ≤ g)
    (hc : Chg (fun k => k = m) w w') (hm : DMap w' m (putN Fil.nm x L)) (hmx : x.p ≠ m) (hmv : x.v.ownBlock ≠ some m) : Half w0 w' d m room U (putN Fil.nm x L) := by
  have hdel : delN Fil.nm x.nm L = L := delN_none hn
  have hput : putN Fil.nm x L = insN Fil.nm x L := by unfold putN; rw [hdel]
  have hnm : ∀ y ∈ L, y.p ≠ m ∧ ∀ g, y.v.ownBlock = some g → g ≠ m := fun y hy => by
    obtain ⟨es, clock, hb, _⟩ := h.map
    refine ⟨fun e => ?_, fun g hg e => ?_⟩
    · rw [← e, (h.file y hy).blk] at hb; cases hb
    · obtain ⟨cur, hh⟩ := (h.file y hy).row hg
      rw [e, hb] at hh; cases hh
  refine ⟨hc.heap h.blk h.m_d.symm, hm, fun y hy => ?_, h.srt.putN x, ?_, h.inn.1, h.inn.2.1, fun y hy => ?_⟩
  · rcases mem_putN.1 hy with rfl | ⟨hy', _⟩
    · exact hf.keep hc hmx fun g hg e => hmv (by rw [hg, e])
    · exact (h.file y hy').keep hc (hnm y hy').1 fun g hg => (hnm y hy').2 g hg
  · rw [hput]
    exact ((perm_insN x L).symm.pairwise_iff (fun {_ _} hab => hab.symm)).1 (List.pairwise_cons.2 ⟨ha, h.apart⟩)
  · rcases mem_putN.1 hy with rfl | ⟨hy', _⟩
    · exact hx
    · exact h.inn.2.2 y hy'
end

/-- Where the loop stands: the source is as it was, the map is being gone through, the copy has what came. -/
def CopyRel (w0 : World) (m : Nat) (room : Int) (L : List Fil) (r d2 m2 : Nat) (wr : World) (left : Lit → Bool) (cnt : Nat) : Prop :=
  Below w0.heap.size w0 wr ∧ wr.ranges Try.prog 9 ptrElem m r L.length (datOf L) left cnt ∧ w0.heap.size ≤ r ∧ ∃ L2 : List Fil, L2.map Fil.f = leftS (L.map Fil.f) left ∧ Half w0 wr d2 m2 room (usedN (L.map Fil.f)) L2

def ptrV : Option Nat → Value
  | none => .pointer none
  | some p => .pointer (some ⟨p, 0, none⟩)
theorem ptrV_inv (v : Value) (y : DataW Unit × List MemPlace) (h : ptrElem v = some y) : ∃ c, v = ptrV c := by
  unfold ptrElem at h
  split at h
  · exact ⟨none, rfl⟩
  · rename_i a
    split at h
    · rename_i hc
      obtain ⟨b, o, sp⟩ := a
      simp at hc
      obtain ⟨rfl, rfl⟩ := hc
      exact ⟨some b, rfl⟩
    · cases h
  · cases h
theorem strV_inv (key : Value) (kl : Lit) (h : keyOf Try.prog 9 key = some kl) : ∃ s : ByteArray, key = .string s := by
  obtain ⟨x, rfl, _⟩ := Maps.keyOf_str Try.underlying9 h
  exact ⟨_, rfl⟩

theorem copy_round {w0 wr w1 : World} {d m r d2 m2 cnt cnt1 : Nat} {room : Int} {L : List Fil} {Φ : Nat → Prop} {left : Lit → Bool} (h0 : DiskL w0 d m room L Φ) (hL : L.length ≤ 1000000)
    (hrel : CopyRel w0 m room L r d2 m2 wr left cnt) {s : ByteArray} {c : Option Nat} {kl : Lit} {y : DataW Unit × List MemPlace} (hkey : keyOf Try.prog 9 (.string s) = some kl) (hv : ptrElem (ptrV c) = some y)
    (hat : ∀ z, (datOf L).atKey kl z = y.1) (hrg : w1.ranges Try.prog 9 ptrElem m r L.length (datOf L) (fun z => left z && !z.sameKey kl) cnt1) (hg : wr.grownBy w1 (some r)) (hlk : left kl = true) :
    ∃ p A N cc, ∃ syn : Nat, c = some p ∧ w1.cell? ⟨d2, 2, none⟩ = some (.map (some m2)) ∧ w1.cell? ⟨p, 0, none⟩ = some (.slice A N cc) ∧ w1.cell? ⟨p, 1, none⟩ = some (.int .i64 syn) ∧
      Calls Try.prog 31 #[.slice A N cc] w1.drew fun e w2 => ∃ A' c' w3, e = .returned (.slice A' N c') ∧ w2.cell? ⟨d2, 2, none⟩ = some (.map (some m2)) ∧ w2.cell? ⟨p, 0, none⟩ = some (.slice A N cc) ∧ w2.cell? ⟨p, 1, none⟩ = some (.int .i64 syn) ∧
        (Instr.mapUpdate 55 (.map (some m2)) (.string s) (.pointer (some ⟨w2.heap.size, 0, none⟩))).run Try.prog (w2.alloc (.cells #[.slice A' N c', .int .i64 syn] 69)) = .ok () w3 ∧
        ((w2.alloc (.cells #[.slice A' N c', .int .i64 syn] 69)).cell? ⟨d2, 2, none⟩ = some (.map (some m2)) ∧ (w2.alloc (.cells #[.slice A' N c', .int .i64 syn] 69)).cell? ⟨p, 0, none⟩ = some (.slice A N cc) ∧ (w2.alloc (.cells #[.slice A' N c', .int .i64 syn] 69)).cell? ⟨p, 1, none⟩ = some (.int .i64 syn)) ∧
        (w3.cell? ⟨d2, 2, none⟩ = some (.map (some m2)) ∧ w3.cell? ⟨p, 0, none⟩ = some (.slice A N cc) ∧ w3.cell? ⟨p, 1, none⟩ = some (.int .i64 syn)) ∧
        Hid (CopyRel w0 m room L r d2 m2 w3 (fun z => left z && !z.sameKey kl) cnt1) := by
  obtain ⟨hb, hrg0, hr0, L2, hL2, hH⟩ := hrel
  obtain ⟨x', ek, rfl, hxl⟩ := Maps.keyOf_str Try.underlying9 hkey
  obtain ⟨x, hx, hxn, hy⟩ := dat_there hat
  have hs : s.data.toList = x.nm := by
    have e : s = ⟨x'.toArray⟩ := by simpa [Go.Proofs.encStr] using ek
    rw [e, hxn]
  have hc : c = some x.p := by
    obtain ⟨y1, y2⟩ := y
    cases c with
    | none => simp [ptrV, ptrElem] at hv; rw [← hv.1] at hy; cases hy
    | some q =>
      have := ptrElem_at q
      unfold ptrV at hv
      rw [this] at hv
      simp at hv
      rw [← hv.1] at hy
      simp at hy
      rw [show q = x.p by omega]
  -- blocks
  obtain ⟨_, _, since, seen, c0, _, _, _, _, hri, _⟩ := hrg0
  have hir : ∀ k o, wr.heap[k]? = some o → (∀ a b e, o ≠ .mapIter a b seen e) → k ≠ r := fun k o hk ho e => by
    rw [e, hri] at hk
    exact ho _ _ _ (Option.some.inj hk).symm
  have hcr : Chg (fun k => some r = some k) wr w1 := Chg.of_grown hg
  have hd2r : d2 ≠ r := hir d2 _ hH.blk (by intros; exact fun e => by cases e)
  have hm2r : m2 ≠ r := by
    obtain ⟨es, clock, hbm, _⟩ := hH.map
    exact hir m2 _ hbm (by intros; exact fun e => by cases e)
  have hH1 : Half w0 w1 d2 m2 room (usedN (L.map Fil.f)) L2 := hH.keep hcr (fun e => hd2r (Option.some.inj e).symm) (fun e => hm2r (Option.some.inj e).symm) fun z hz =>
    ⟨fun e => hir z.p _ (hH.file z hz).blk (by intros; exact fun e => by cases e) (Option.some.inj e).symm, fun g hg e => by
      obtain ⟨cur, hh⟩ := (hH.file z hz).row hg
      exact hir g _ hh (by intros; exact fun e => by cases e) (Option.some.inj e).symm⟩
  have hb1 : Below w0.heap.size w0 w1 := hb.grown hg hb.size fun k e => by cases e; exact hr0
  have hf0 := h0.file x hx
  have hf1 : FileAt w1 x := hf0.keep (Φ := fun _ => False) (Chg.of_below hb1) id fun _ _ => id
  obtain ⟨A, cc, hxv, hrd⟩ := hf1.rd
  obtain ⟨a0, a1, _⟩ := two_cells hf1.blk
  rw [hxv] at a0
  obtain ⟨_, _, q2, _⟩ := three_cells hH1.blk
  have hbig : x.f.b.length ≤ 2000000 := by
    have h3 := usedN_mem (List.mem_map_of_mem (f := Fil.f) hx)
    have h4 := h0.used
    have h5 := h0.rm
    omega
  have hpl := lt_of_block hf1.blk
  have hdl := lt_of_block hH1.blk
  refine ⟨x.p, A, x.f.b.length, cc, x.f.s, hc, q2, a0, a1, ?_⟩
  have hrd' : Rd w1.drew w1.drew.heap.size .u8 A x.f.b.length cc x.f.b := hrd.keep fun _ _ => rfl
  refine (Clone_sl A _ cc x.f.b w1.drew hrd' hbig).mono ?_
  rintro e w2 ⟨A', c', rfl, ho2, hb2⟩
  have hb12 : Below w1.heap.size w1 w2 := (Below.refl w1.heap.size w1).drew.trans hb2
  have hH2 := hH1.later hb12
  have hW := hH2.later ((Below.refl _ _).alloc (Nat.le_refl _) (.cells #[.slice A' x.f.b.length c', .int .i64 x.f.s] 69))
  have hlen2 : L2.length ≤ 1000000 := by
    have h1 : (L2.map Fil.f).length ≤ (L.map Fil.f).length := by rw [hL2]; exact List.length_filter_le _ _
    simp at h1
    omega
  have hkey' : keyOf Try.prog 9 (.string s) = some (.string x.nm) := by rw [hkey, hxn]
  obtain ⟨w3, hrun, r1, r2⟩ := World.ownsMap.store hW.map keyed_str Try.underlying55 (by unfold maxLen; omega) hkey' (ptrElem_at w2.heap.size)
  obtain ⟨xc, hxc⟩ : ∃ xc : Fil, xc = ⟨x.f, w2.heap.size, .slice A' x.f.b.length c'⟩ := ⟨_, rfl⟩
  have e1 : xc.nm = x.nm := by rw [hxc]
  have e2 : xc.p = w2.heap.size := by rw [hxc]
  have hm3 : DMap w3 m2 (putN Fil.nm xc L2) := by
    have h4 := ownsMap_tight r1
    rw [← e1, ← e2, dat_put, dat_size] at h4
    exact h4
  have hnot : ∀ z ∈ L2, z.nm ≠ xc.nm := fun z hz e => by
    have h1 : z.f ∈ leftS (L.map Fil.f) left := by rw [← hL2]; exact List.mem_map_of_mem hz
    unfold leftS at h1
    have h2 := (List.mem_filter.1 h1).2
    rw [show z.f.nm = x.nm from e.trans e1, hxn] at h2
    rw [hlk] at h2
    cases h2
  have hmm2 : m ≠ m2 := by
    have h1 := h0.map.lt
    have h2 := hH.inn.2.1
    omega
  have hrW : (w2.alloc (.cells #[.slice A' x.f.b.length c', .int .i64 x.f.s] 69)).ranges Try.prog 9 ptrElem m r L.length (datOf L) (fun z => left z && !z.sameKey (.string x')) cnt1 :=
    (hrg.kept (w' := w2) (row := none) ⟨hb12.os, hb12.tape, hb12.output, hb12.size, fun k hk _ => hb12.block k hk⟩ (by simp) (by simp)).alloc _
  have hr3 := hrW.kept r2.grown (by simpa using hmm2) (by simpa using hm2r.symm)
  have hbW : Below w0.heap.size w0 (w2.alloc (.cells #[.slice A' x.f.b.length c', .int .i64 x.f.s] 69)) := (hb1.trans (hb12.mono hb1.size)).alloc (by have := hb1.size; have := hb12.size; omega) _
  have hb3 : Below w0.heap.size w0 w3 := hbW.grown r2.grown hbW.size fun k e => by cases e; exact hH.inn.2.1
  have hsz1 := hb1.size
  have hsz2 := hb12.size
  have cA : ∀ V, Below w1.heap.size w1 V → V.cell? ⟨d2, 2, none⟩ = some (.map (some m2)) ∧ V.cell? ⟨x.p, 0, none⟩ = some (.slice A x.f.b.length cc) ∧ V.cell? ⟨x.p, 1, none⟩ = some (.int .i64 x.f.s) := fun V hV =>
    ⟨by rw [hV.cell (p := ⟨d2, 2, none⟩) hdl]; exact q2, by rw [hV.cell (p := ⟨x.p, 0, none⟩) hpl]; exact a0, by rw [hV.cell (p := ⟨x.p, 1, none⟩) hpl]; exact a1⟩
  have cB := cA _ (hb12.alloc hsz2 (.cells #[.slice A' x.f.b.length c', .int .i64 x.f.s] 69))
  have hd2l : d2 < (w2.alloc (.cells #[.slice A' x.f.b.length c', .int .i64 x.f.s] 69)).heap.size := by simp; omega
  have hpl2 : x.p < (w2.alloc (.cells #[.slice A' x.f.b.length c', .int .i64 x.f.s] 69)).heap.size := by simp; omega
  have hpm : x.p ≠ m2 := by
    have h1 := lt_of_block hf0.blk
    have h2 := hH.inn.2.1
    omega
  have ct := Chg.of_turned r2
  have cC : w3.cell? ⟨d2, 2, none⟩ = some (.map (some m2)) ∧ w3.cell? ⟨x.p, 0, none⟩ = some (.slice A x.f.b.length cc) ∧ w3.cell? ⟨x.p, 1, none⟩ = some (.int .i64 x.f.s) :=
    ⟨by rw [ct.cell (p := ⟨d2, 2, none⟩) hd2l hH.m_d.symm]; exact cB.1, by rw [ct.cell (p := ⟨x.p, 0, none⟩) hpl2 hpm]; exact cB.2.1, by rw [ct.cell (p := ⟨x.p, 1, none⟩) hpl2 hpm]; exact cB.2.2⟩
  obtain ⟨z0, z1, z2⟩ := cA _ hb12
  refine ⟨A', c', w3, rfl, z0, z1, z2, hrun, cB, cC, Lib.hid ⟨hb3, hr3, hr0, putN Fil.nm xc L2, ?_, ?_⟩⟩
  · rw [map_putN fil_name, hL2, hxc]
    have := leftS_step (h0.srt.map (g := Fil.f) fil_name) (List.mem_map_of_mem (f := Fil.f) hx) left
    rw [this, show x.f.nm = x' from hxn]
  · have hown := own_base ho2 (Nat.zero_le _)
    have ho2w : ∀ g, (Value.slice A' x.f.b.length c').ownBlock = some g → w1.heap.size ≤ g ∧ g < w2.heap.size := fun g hg' => ho2.lt g hg'
    refine hW.put (x := xc) (by rw [hxc]; exact ⟨heap_alloc_new w2 _, hown.alloc _, hf0.syn, hf0.byt, hf0.len⟩) hnot (fun z hz => ?_) ?_ (Chg.of_turned r2) hm3 ?_ ?_
    · have hz1 := hH1.file z hz
      rw [hxc]
      refine ⟨fun e => ?_, fun g hg' e => ?_⟩
      · have h1 := lt_of_block hz1.blk
        have e' : w2.heap.size = z.p := e
        omega
      · have h1 := (hz1.own.lt g e).2
        have h2 := ho2w g hg'
        omega
    · rw [hxc]
      exact ⟨by show w0.heap.size ≤ w2.heap.size; omega, fun g hg' => by have := ho2w g hg'; omega⟩
    · rw [e2]
      have := hH2.map.lt
      omega
    · rw [hxc]
      intro e
      have h1 := (ho2w m2 e).1
      have h2 := hH1.map.lt
      omega

set_option maxHeartbeats 3200000 in
set_option maxRecDepth 100000 in
theorem Copy_any {w : World} {d : Nat} {room : Int} {S : List RF} {Φ : Nat → Prop} (h : DiskAt w d room S Φ) (hL : S.length ≤ 1000000) :
    Calls Try.prog 13 #[.pointer (some ⟨d, 0, none⟩)] w fun e w' => ∃ d2, e = .returned (.pointer (some ⟨d2, 0, none⟩)) ∧ Below w.heap.size w w' ∧ DiskAt w' d2 room S fun k => w.heap.size ≤ k := by
  obtain ⟨m, L, rfl, h⟩ := h
  obtain ⟨c0, c1, c2, f0, f1, f2⟩ := three_cells h.blk
  have hmk := run_makeMap_hint
  have hlen : ∀ ty, (Builtin.len_ #[55] ty #[.map (some m)]).run Try.prog w.drew = .ok (.int .i64 L.length) w.drew := fun ty => by
    have := World.ownsMap.len (h.map.keep (Φ := fun _ => False) (Chg.drew w) id) Try.underlying55 ty
    rwa [dat_size] at this
  have hdl := lt_of_block h.blk
  obtain ⟨W, hW⟩ : ∃ W, W = (((w.alloc (.map #[] 0)).alloc (.cells #[.int .i64 room, .int .i64 (usedN (L.map Fil.f)), .map (some w.heap.size)] 57)).drew) := ⟨_, rfl⟩
  have hWs : W.heap.size = w.heap.size + 2 := by rw [hW]; simp
  have hbW : Below w.heap.size w W := by rw [hW]; exact (((Below.refl _ _).alloc (Nat.le_refl _) _).alloc (by simp) _).drew
  have hmW := h.map.keep (w' := W) (Φ := fun _ => False) (Chg.of_below hbW) id
  have hWd : W.cell? ⟨d, 2, none⟩ = some (.map (some m)) := by rw [hbW.cell (p := ⟨d, 2, none⟩) hdl]; exact c2
  have HST : Hid (∀ w1, w1.ranges Try.prog 9 ptrElem m W.heap.size L.length (datOf L) (Maps.has (datOf L)) (Maps.size (datOf L)) → W.grownBy w1 none → CopyRel w m room L W.heap.size (w.heap.size + 1) w.heap.size w1 (Maps.has (datOf L)) (Maps.size (datOf L))) := Lib.hid (by
    intro w1 hr hg
    have hb1 : Below W.heap.size W w1 := ⟨hg.os, hg.tape, hg.output, hg.size, fun k hk => hg.block k hk (by simp)⟩
    have hH : Half w W (w.heap.size + 1) w.heap.size room (usedN (L.map Fil.f)) [] := by
      refine ⟨?_, ?_, (fun x hx => by cases hx), List.Pairwise.nil, List.Pairwise.nil, by omega, Nat.le_refl _, fun x hx => by cases hx⟩
      · rw [hW]
        have := heap_alloc_new (w.alloc (.map #[] 0)) (.cells #[.int .i64 room, .int .i64 (usedN (L.map Fil.f)), .map (some w.heap.size)] 57)
        simpa [World.drew] using this
      · rw [hW]
        exact ((World.ownsMap_made w Try.prog 9 ptrElem).alloc _).drew
    exact ⟨hbW.trans (hb1.mono hbW.size), hr, hbW.size, [], (leftS_start L).symm, hH.later hb1⟩)
  have HEND : Hid (∀ wr left cnt, CopyRel w m room L W.heap.size (w.heap.size + 1) w.heap.size wr left cnt → (∀ k, left k = false) → Below w.heap.size w wr ∧ DiskAt wr (w.heap.size + 1) room (L.map Fil.f) fun k => w.heap.size ≤ k) := Lib.hid (by
    rintro wr left cnt ⟨h1, _, _, L2, h2, h3⟩ h4
    rw [leftS_all h4] at h2
    exact ⟨h1, w.heap.size, L2, h2, by rw [h2]; exact h3.blk, h3.map, h3.file, h3.srt, h3.apart, h.rm, by rw [h2]; exact h.used, h3.inn⟩)
  have HM := Lib.hid hmW
  have HH := Lib.hid h
  have HLL : Hid (L.length ≤ 1000000) := Lib.hid (by simpa using hL)
  have HWW := Lib.hid hW
  have HWS := Lib.hid hWs
  clear hW hbW hmW h hL hWs
  go_enter Try.func13, Try.ntmps13
  go_wp2_with fail
  go_cut [3] (fun s3 wx => s3 = .pointer (some ⟨w.heap.size + 1, 0, none⟩) ∧ wx = W)
  case first =>
    go_region
    all_goals
      go_wp2_with fail
      go_meet
      case rel => exact ⟨by simp, HWW.out.symm⟩
  case rest =>
    obtain ⟨rfl, rfl⟩ := hcut
    clear c0 c1 c2 f0 f1 f2
    go_wp2_with (at_range; refine wpList_range_own _ rfl _ 55 rfl 9 66 keyed_str Try.underlying55 ptrElem m L.length (datOf L) rfl HM.out ?_; intro w1 hrg1 hg1 hs1; have HC := Lib.hid (HST.out w1 hrg1 hg1); clear hrg1 hg1 hs1)
    go_frame
    go_loopw [4] (fun _ wr => ∃ left cnt, Hid (CopyRel w m room L wc.heap.size (w.heap.size + 1) w.heap.size wr left cnt)) (fun _ wr => wr.rangeLeft m wc.heap.size)
    case atStart => exact ⟨_, _, HC⟩
    case round =>
      obtain ⟨left, cnt, HCr⟩ := hrel
      go_wp2_with (at_next; refine wpList_next_ranges _ rfl _ rfl 9 keyed_str ptrElem Value.string ptrV strV_inv ptrV_inv m wc.heap.size L.length (datOf L) left cnt rfl HCr.out.2.1 ?_ ?_)
      · intro _ hl0
        have hE := HEND.out wr left cnt HCr.out hl0
        go_wp2_with fail
        go_ret
        exact ⟨_, rfl, hE⟩
      · intro s c kl a b w2 cnt2 hkey hlk hv hat hrg2 hlt hg2 hs2 hen
        obtain ⟨p, A, N, cc, syn, rfl, q0, q1, q2, hcl⟩ := copy_round HH.out HLL.out HCr.out hkey hv hat hrg2 hg2 hlk
        have HCL := Lib.hid hcl
        have HLT : Hid (cnt2 < wr.rangeLeft m wc.heap.size) := Lib.hid (by rw [HCr.out.2.1.left_eq]; exact hlt)
        have hpv : ptrV (some p) = .pointer (some ⟨p, 0, none⟩) := rfl
        rw [hpv] at hen ⊢
        clear hkey hlk hv hat hrg2 hlt hg2 hs2 hcl hpv
        go_wp2_with fail
        go_region_held3 (fun w' => w'.cell? ⟨w.heap.size + 1, 2, none⟩ = some (.map (some w.heap.size)) ∧ w'.cell? ⟨p, 0, none⟩ = some (.slice A N cc) ∧ w'.cell? ⟨p, 1, none⟩ = some (.int .i64 syn))
          (first | assumption | exact ⟨by assumption, by assumption, by assumption⟩ | exact ⟨q0, q1, q2⟩)
          (first | (go_at_call 31; refine HCL.out.mono ?_; rintro e w3 ⟨A', c', w4, rfl, p0, p1, p2, hup, hcB, hcC, HX⟩))
        all_goals
          go_wp2_with fail
          go_roundw
          case rel => exact ⟨_, _, HX⟩
          case measure =>
            have h9 := HX.out.2.1.left_eq
            have h10 := HLT.out
            omega
end Go.Proofs.Ytpolkhippblcmaa
