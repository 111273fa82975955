/- What is proved here: while a ledger's values are gone through, and what has been collected of them. -/
/- What is proved here: what Sweep answers, and leaves. -/
/- What is proved here: what 'compare', and the library's functions that it calls, answer. -/
import Derived.Test.YtdjieapobodakaaGreatDoorPEx16
import Derived.Maps.Ext
import Derived.Maps.RangeWalk
import Derived.Sort.KeysCollected
import Derived.Sort.Grow
import Derived.Outline
import Derived.Laws.Cover1
section
namespace Go.Proofs.YtdjieapobodakaaGreatDoor.Led
open Go Go.RowKit Go.Maps Go.WideMaps Go.Sort
set_option maxRecDepth 100000

/-- Those that are past, and those that are left. -/
def pastE (L : List En) (now : Int) : List En := L.filter fun x => decide (x.t ≤ now)
def leftE (L : List En) (now : Int) : List En := L.filter fun x => !decide (x.t ≤ now)
theorem mem_past {L : List En} {now : Int} {x : En} : x ∈ pastE L now ↔ x ∈ L ∧ x.t ≤ now := by simp [pastE]
theorem mem_left {L : List En} {now : Int} {x : En} : x ∈ leftE L now ↔ x ∈ L ∧ ¬ x.t ≤ now := by simp [leftE]
theorem keyE_one {L : List En} (hR : Rising En.nm L) {x y : En} (hx : x ∈ L) (hy : y ∈ L) (e : x.k = y.k) : x = y := hR.one hx hy (by unfold En.nm; rw [e])
/-- What has been collected. -/
structure Coll (P : List En) (left : Lit → Bool) (xs : List En) : Prop where
  sub : ∀ x ∈ xs, x ∈ P ∧ left (strK x.k) = false
  nodup : xs.Nodup
  all : ∀ x ∈ P, left (strK x.k) = false → x ∈ xs
theorem self_key (s : ByteArray) : (strK s).sameKey (strK s) = true := by simp [strK, Lit.sameKey]
theorem Coll.step {P L : List En} {left : Lit → Bool} {xs : List En} (h : Coll P left xs) (hR : Rising En.nm L) (hP : ∀ x ∈ P, x ∈ L) {x : En} (hx : x ∈ P) (hl : left (strK x.k) = true) : Coll P (fun z => left z && !z.sameKey (strK x.k)) (xs ++ [x]) := by
  have hself := self_key x.k
  refine ⟨fun y hy => ?_, ?_, fun y hy he => ?_⟩
  · rcases List.mem_append.1 hy with hy | hy
    · obtain ⟨h1, h2⟩ := h.sub y hy
      exact ⟨h1, by simp [h2]⟩
    · simp at hy
      subst hy
      exact ⟨hx, by simp [hself]⟩
  · rw [List.nodup_append]
    refine ⟨h.nodup, by simp, fun a ha b hb e => ?_⟩
    simp at hb
    have := (h.sub a ha).2
    rw [e, hb, hl] at this
    cases this
  · by_cases hg : y.k = x.k
    · rw [keyE_one hR (hP y hy) (hP x hx) hg]
      simp
    · have hne : strK y.k ≠ strK x.k := fun e => hg (strK_inj e)
      simp only [sameKey_ne hne, Bool.not_false, Bool.and_true] at he
      exact List.mem_append_left _ (h.all y hy he)
theorem Coll.skip {P L : List En} {left : Lit → Bool} {xs : List En} (h : Coll P left xs) (hR : Rising En.nm L) (hP : ∀ x ∈ P, x ∈ L) {x : En} (hx : x ∈ L) (hx2 : x ∉ P) : Coll P (fun z => left z && !z.sameKey (strK x.k)) xs := by
  refine ⟨fun y hy => ?_, h.nodup, fun y hy he => ?_⟩
  · obtain ⟨h1, h2⟩ := h.sub y hy
    exact ⟨h1, by simp [h2]⟩
  · by_cases hg : y.k = x.k
    · rw [keyE_one hR (hP y hy) hx hg] at hy
      exact absurd hy hx2
    · have hne : strK y.k ≠ strK x.k := fun e => hg (strK_inj e)
      simp only [sameKey_ne hne, Bool.not_false, Bool.and_true] at he
      exact h.all y hy he
theorem Coll.perm {P : List En} {left : Lit → Bool} {xs : List En} (h : Coll P left xs) (hn : P.Nodup) (hl : ∀ k, left k = false) : xs.Perm P :=
  (List.perm_ext_iff_of_nodup h.nodup hn).2 fun x => ⟨fun hx => (h.sub x hx).1, fun hx => h.all x hx (hl _)⟩
theorem past_nodup {L : List En} (hR : Rising En.nm L) (now : Int) : (pastE L now).Nodup := (rise_nodup hR).sublist List.filter_sublist
theorem nodup_le {l m : List En} (hl : l.Nodup) (hm : m.Nodup) (h : ∀ x ∈ l, x ∈ m) : l.length ≤ m.length := by
  classical
  have hp : l.Perm (m.filter fun x => decide (x ∈ l)) := (List.perm_ext_iff_of_nodup hl (hm.sublist List.filter_sublist)).2 fun x => by
    rw [List.mem_filter]
    exact ⟨fun hx => ⟨h x hx, by simpa using hx⟩, fun hx => by simpa using hx.2⟩
  rw [hp.length_eq]
  exact List.length_filter_le _ _
theorem Coll.le {L : List En} (hR : Rising En.nm L) {now : Int} {left : Lit → Bool} {xs : List En} (h : Coll (pastE L now) left xs) : xs.length ≤ L.length := by
  have : xs.length ≤ (pastE L now).length := nodup_le h.nodup ((rise_nodup hR).sublist List.filter_sublist) fun x hx => (h.sub x hx).1
  have h2 : (pastE L now).length ≤ L.length := List.length_filter_le _ _
  omega

theorem strV_inv (key : Value) (kl : Lit) (h : keyOf Tryz.prog 9 key = some kl) : ∃ s : ByteArray, key = .string s := by
  obtain ⟨x, rfl, _⟩ := Maps.keyOf_str Tryz.underlying9 h
  exact ⟨_, rfl⟩
theorem str_key {s : ByteArray} {kl : Lit} (h : keyOf Tryz.prog 9 (.string s) = some kl) : kl = strK s ∧ s.size ≤ maxLen := by
  obtain ⟨x', ek, rfl, hxl⟩ := Maps.keyOf_str Tryz.underlying9 h
  have e : s = ⟨x'.toArray⟩ := by simpa [encStr] using ek
  refine ⟨by rw [e]; simp [strK], ?_⟩
  rw [e]
  simpa [ByteArray.size] using hxl

/-- While the values are gone through. -/
structure SwpRel (w : World) (m : Nat) (L : List En) (now : Int) (D : DataW Value) (r : Nat) (v : Value) (wr : World) (left : Lit → Bool) (cnt : Nat) (xs : List En) : Prop where
  low : Below w.heap.size w wr
  rng : wr.ranges Tryz.prog 9 anyV m r L.length D left cnt
  new : w.heap.size ≤ r
  row : wr.ownsRow w.heap.size 9 1 v xs.length (xs.map keyV)
  col : Coll (pastE L now) left xs
theorem own_cells {w : World} {base e n c rb : Nat} {xs : List Value} (h : w.ownsRow base e 1 (.slice (some ⟨rb, 0, none⟩) n c) n xs) : ∃ cur, w.heap[rb]? = some (.cells cur e (0, 0)) ∧ n ≤ c ∧ c ≤ maxLen := by
  rcases h.2 with ⟨e1, _⟩ | ⟨g, cap, cur, e1, _, hg, h1, h2, _⟩
  · cases e1
  · cases e1
    exact ⟨cur, hg, h1, h2⟩
theorem own_slice {w : World} {base e n : Nat} {v : Value} {xs : List Value} (h : w.ownsRow base e 1 v n xs) : ∃ A c, v = .slice A n c := by
  rcases h.2 with ⟨rfl, h0⟩ | ⟨g, cap, _, rfl, _⟩
  · exact ⟨none, 0, by rw [h0]⟩
  · exact ⟨_, _, rfl⟩
theorem own_up {w : World} {base base' e n : Nat} {v : Value} {xs : List Value} (h : w.ownsRow base e 1 v n xs) (hb : ∀ g, v.ownBlock = some g → base' ≤ g) : w.ownsRow base' e 1 v n xs := by
  refine ⟨h.1, ?_⟩
  rcases h.2 with h1 | ⟨g, cap, cur, rfl, _, r⟩
  · exact .inl h1
  · exact .inr ⟨g, cap, cur, rfl, hb g rfl, r⟩
theorem swp_round {w wr w1 : World} {l m room r cnt cnt1 : Nat} {L : List En} {f : Lit → Option Value} {Φ : Nat → Prop} {now : Int} {D : DataW Value} {left : Lit → Bool} {v : Value} {xs : List En} (h : LedL w l m room L f Φ) (hD : ViewV D f)
    (hrel : SwpRel w m L now D r v wr left cnt xs) {s : ByteArray} {c : Value} {kl : Lit} {y : DataW Value × List MemPlace} (hkey : keyOf Tryz.prog 9 (.string s) = some kl) (hv : anyV c = some y)
    (hat : ∀ z, D.atKey kl z = y.1) (hrg : w1.ranges Tryz.prog 9 anyV m r L.length D (fun z => left z && !z.sameKey kl) cnt1) (hg : wr.grownBy w1 (some r)) (hlk : left kl = true) :
    ∃ (n t : Int), c = .agg #[.int .i64 n, .int .i64 t] ∧ w1.ownsRow w.heap.size 9 1 v xs.length (xs.map keyV) ∧ w.heap.size ≤ w1.heap.size ∧
      (∀ B, (t ≤ now) → ∀ v2 w2, w2.ownsRow w.heap.size 9 1 v2 (xs.length + 1) (xs.map keyV ++ [.string s]) → ((w1.alloc B).alloc (.cells #[.string s] 9)).grownBy w2 v.ownBlock → ∃ ys, ys.length = xs.length + 1 ∧ SwpRel w m L now D r v2 w2 (fun z => left z && !z.sameKey kl) cnt1 ys) ∧
      (∀ B, ¬ t ≤ now → SwpRel w m L now D r v (w1.alloc B) (fun z => left z && !z.sameKey kl) cnt1 xs) := by
  obtain ⟨rfl, hsl⟩ := str_key hkey
  have hc : f (strK s) = some c := hD.at fun z => by rw [hat z, ← Option.some.inj hv]
  rw [h.pl] at hc
  obtain ⟨x, hx, rfl⟩ := Option.map_eq_some_iff.1 hc
  obtain ⟨hxL, rfl⟩ := findE_some hx
  obtain ⟨n, hn⟩ := h.vs x hxL
  have hb1 : Below w.heap.size w w1 := hrel.low.grown hg hrel.low.size fun k e => by cases e; exact hrel.new
  obtain ⟨_, _, since, seen, c0, _, _, _, _, hri, _⟩ := hrel.rng
  have hvr : v.ownBlock = none ∨ v.ownBlock ≠ some r := by
    rcases hrel.row.2 with ⟨e, _⟩ | ⟨g, cap, cur, e, _, hgb, _⟩
    · exact .inl (by rw [e]; rfl)
    · refine .inr fun e2 => ?_
      rw [e] at e2
      simp [Value.ownBlock] at e2
      subst e2
      rw [hri] at hgb
      cases hgb
  have hrow1 := hrel.row.kept hg hvr
  have hvb : ∀ k, v.ownBlock = some k → w.heap.size ≤ k ∧ k < w1.heap.size := fun k hk => hrow1.lt k hk
  refine ⟨n, x.t, by unfold valE; rw [hn], hrow1, hb1.size, fun B ht v2 w2 ho2 hg2 => ⟨xs ++ [x], by simp, ?_⟩, fun B ht => ?_⟩
  · have hbA : Below w.heap.size w ((w1.alloc B).alloc (.cells #[.string x.k] 9)) := (hb1.alloc hb1.size _).alloc (by simp; have := hb1.size; omega) _
    have hrA := (hrg.alloc B).alloc (.cells #[.string x.k] 9)
    refine ⟨hbA.grown hg2 (by simp; have := hb1.size; omega) fun k hk => (hvb k hk).1, hrA.kept hg2 (fun e => ?_) (fun e => ?_), hrel.new, ?_, hrel.col.step h.ok.srt (fun x hx => (mem_past.1 hx).1) (mem_past.2 ⟨hxL, ht⟩) hlk⟩
    · have h9 := (hvb m e.symm).1
      have := h.mp.lt
      omega
    · rcases hvr with h9 | h9
      · rw [h9] at e; cases e
      · exact h9 e.symm
    · rw [List.length_append, List.map_append]
      exact ho2
  · exact ⟨hb1.alloc hb1.size _, hrg.alloc B, hrel.new, own_below hrow1 ((Below.refl _ _).alloc (Nat.le_refl _) _), hrel.col.skip h.ok.srt (fun x hx => (mem_past.1 hx).1) hxL fun hp => ht (mem_past.1 hp).2⟩
end Go.Proofs.YtdjieapobodakaaGreatDoor.Led
end

section
namespace Go.Proofs.YtdjieapobodakaaGreatDoor.Led
open Go Go.RowKit Go.Maps Go.WideMaps Go.Sort
set_option maxRecDepth 100000

def dropsE (L zs : List En) : List En := zs.foldl (fun L y => dropE L y.k) L
theorem drops_snoc (L zs : List En) (y : En) : dropsE L (zs ++ [y]) = dropE (dropsE L zs) y.k := by simp [dropsE]
theorem mem_drops {x : En} : ∀ {zs L : List En}, x ∈ dropsE L zs ↔ x ∈ L ∧ ∀ y ∈ zs, x.k ≠ y.k
  | [], L => by simp [dropsE]
  | z :: r, L => by
    show x ∈ dropsE (dropE L z.k) r ↔ _
    rw [mem_drops, mem_drop]
    simp [and_assoc]
theorem rise_drops : ∀ {zs L : List En}, Rising En.nm L → Rising En.nm (dropsE L zs)
  | [], _, h => h
  | z :: r, L, h => rise_drops (zs := r) (L := dropE L z.k) (rise_drop h z.k)
theorem drops_len : ∀ (zs L : List En), (dropsE L zs).length ≤ L.length
  | [], _ => Nat.le_refl _
  | z :: r, L => Nat.le_trans (drops_len r (dropE L z.k)) (length_delN _ _)
theorem drops_past {L ys : List En} {now : Int} (hR : Rising En.nm L) (hp : ys.Perm (pastE L now)) : dropsE L ys = leftE L now := by
  refine Rising.ext (rise_drops hR) (hR.filter _) fun x => ?_
  rw [mem_drops]
  show _ ↔ x ∈ leftE L now
  rw [mem_left]
  refine and_congr_right fun hx => ⟨fun h ht => h x (hp.mem_iff.2 (mem_past.2 ⟨hx, ht⟩)) rfl, fun h y hy e => ?_⟩
  obtain ⟨h1, h2⟩ := mem_past.1 (hp.mem_iff.1 hy)
  rw [keyE_one hR hx h1 e] at h
  exact h h2
theorem info_string : (Tryz.prog.info? 9).map (fun i => (i.zero, i.size, i.bytes)) = some (some (.string ⟨#[]⟩), 1, 16) := by kernel_rfl
theorem info_parts {t : TypeId} {v : Value} {s b : Nat} (h : (Tryz.prog.info? t).map (fun i => (i.zero, i.size, i.bytes)) = some (some v, s, b)) : ∃ i, Tryz.prog.info? t = some i ∧ i.zero = some v ∧ i.size = s ∧ i.bytes = b := by
  obtain ⟨i, hi, e⟩ := Option.map_eq_some_iff.1 h
  simp only [Prod.mk.injEq] at e
  exact ⟨i, hi, e.1, e.2.1, e.2.2⟩
theorem LedL.cut {w : World} {l m room : Nat} {L : List En} {f : Lit → Option Value} {Φ : Nat → Prop} (h : LedL w l m room L f Φ) {s : ByteArray} (hs : s.size ≤ maxLen) :
    ∃ w2, (Builtin.delete_ #[116, 9] 0 #[.map (some m), .string s]).run Tryz.prog w = .ok (.tuple #[]) w2 ∧ LedL w2 l m room (dropE L s) (delV f (strK s)) Φ ∧ Chg (fun i => i = m) w w2 := by
  obtain ⟨w2, hr, m2, c2⟩ := h.mp.cut keyed_str Tryz.underlying116 (key_str hs) 0
  refine ⟨w2, hr, ⟨c2.heap h.blk h.l_m, ?_, h.ok.drop s, fun u => ?_, fun y hy => h.vs y (mem_drop.1 hy).1, h.roomB, h.inn⟩, c2⟩
  · rw [h.pl, Option.isSome_map] at m2
    cases ho : findE L s with
    | none =>
      rw [ho] at m2
      rw [dropE_none ho]
      exact m2
    | some y =>
      rw [ho] at m2
      have := length_drop h.ok.srt ho
      rwa [show (dropE L s).length = L.length - 1 by omega]
  · by_cases e : u = s
    · subst e
      rw [delV_same, find_drop_same]
      rfl
    · rw [delV_other _ fun e2 => e (strK_inj e2), find_drop_other h.ok.srt e, h.pl]

/-- What Sweep answers, and leaves. -/
def SweepSaid (l room : Nat) (L : List En) (Φ : Nat → Prop) (now : Int) (w : World) (e : Ending) (w' : World) : Prop :=
  ∃ A c ys, e = .returned (.slice A (List.length ys) c) ∧ ys.Perm (pastE L now) ∧ ys.Pairwise (fun a b => ¬ befE b a) ∧ w'.ownsRow w.heap.size 9 1 (.slice A ys.length c) ys.length (ys.map keyV) ∧ LedAt w' l room (leftE L now) Φ ∧ Chg Φ w w'
/-- While what is past is taken out. -/
structure SwpEnd (w : World) (l m room : Nat) (L : List En) (Φ : Nat → Prop) (now : Int) (A : Option Addr) (n c k : Nat) (ys : List En) (wr : World) : Prop where
  led : ∃ f, LedL wr l m room (dropsE L (ys.take k)) f fun i => Φ i ∧ i < w.heap.size
  row : wr.ownsRow w.heap.size 9 1 (.slice A n c) n (ys.map keyV)
  chg : Chg (fun i => Φ i ∧ i < w.heap.size) w wr
  perm : ys.Perm (pastE L now)
  srt : ys.Pairwise fun a b => ¬ befE b a
  len : ys.length = n
  cap : n ≤ c ∧ c ≤ maxLen
section
variable {w wr : World} {l m room : Nat} {L : List En} {Φ : Nat → Prop} {now : Int} {A : Option Addr} {n c k : Nat} {ys : List En}
theorem SwpEnd.done (h : SwpEnd w l m room L Φ now A n c k ys wr) (hR : Rising En.nm L) (hk : n ≤ k) : SweepSaid l room L Φ now w (.returned (.slice A n c)) wr := by
  obtain ⟨f, hf⟩ := h.led
  rw [List.take_of_length_le (by rw [h.len]; exact hk), drops_past hR h.perm] at hf
  have hl := h.len
  subst hl
  exact ⟨A, c, ys, rfl, h.perm, h.srt, h.row, ⟨m, f, hf.mono fun _ _ hi => hi.1⟩, h.chg.mono fun _ _ hi => hi.1⟩
theorem SwpEnd.step (h : SwpEnd w l m room L Φ now A n c k ys wr) (hk : k < n) (hW : ∀ x ∈ L, x.k.size ≤ maxLen) : ∃ (b : Nat) (s : ByteArray), A = some ⟨b, 0, none⟩ ∧ wr.cell? ⟨b, k, none⟩ = some (.string s) ∧ wr.cell? ⟨l, 1, none⟩ = some (.map (some m)) ∧ ∃ w2, (Builtin.delete_ #[116, 9] 0 #[.map (some m), .string s]).run Tryz.prog wr = .ok (.tuple #[]) w2 ∧ Hid (SwpEnd w l m room L Φ now A n c (k + 1) ys w2) := by
  obtain ⟨f, hf⟩ := h.led
  have hkl : k < ys.length := by rw [h.len]; exact hk
  obtain ⟨b, cap, e, hbl, _⟩ := h.row.form (by omega)
  obtain ⟨rfl, rfl⟩ : A = some ⟨b, 0, none⟩ ∧ c = cap := by simpa using e
  have hc : wr.cell? ⟨b, k, none⟩ = some (.string ys[k].k) := by
    have := h.row.cellAt k (by omega)
    rwa [List.getElem?_map, List.getElem?_eq_getElem hkl] at this
  have hm : ys[k] ∈ pastE L now := h.perm.mem_iff.1 (List.getElem_mem hkl)
  obtain ⟨w2, hr, h2, c2⟩ := hf.cut (s := ys[k].k) (hW _ (mem_past.1 hm).1)
  have hin : (fun i => Φ i ∧ i < w.heap.size) m := hf.inn.2
  refine ⟨b, ys[k].k, rfl, hc, (two_cells' hf.blk).2, w2, hr, Lib.hid ⟨⟨delV f (strK ys[k].k), ?_⟩, c2.own h.row fun g hg e => ?_, h.chg.trans (c2.mono (Ψ := fun i => Φ i ∧ i < w.heap.size) fun i _ e => by rw [e]; exact hin) fun _ _ e => e, h.perm, h.srt, h.len, h.cap⟩⟩
  · rw [List.take_add_one, List.getElem?_eq_getElem hkl, Option.toList_some, drops_snoc]
    exact h2
  · simp [Value.ownBlock] at hg
    have := hin.2
    omega
end

set_option maxHeartbeats 1600000 in
set_option maxRecDepth 100000 in
theorem Sweep_any {w : World} {l room : Nat} {L : List En} {Φ : Nat → Prop} (h : LedAt w l room L Φ) (hLn : L.length < 900000) {now : Int} (hS : pastE L now = [] ∨ SortOK (pastE L now).length) :
    Calls Tryz.prog 45 #[.pointer (some ⟨l, 0, none⟩), .int .i64 now] w (SweepSaid l room L Φ now w) := by
  have h0 := h
  obtain ⟨m, f, h⟩ := h
  obtain ⟨c0, c1⟩ := two_cells' h.blk
  obtain ⟨D, hM, hDs, hD⟩ := h.mp
  have hll := lt_of_block h.blk
  have HWF := Lib.hid h.ok.wf
  have HRS := Lib.hid h.ok.srt
  have HST : Hid (∀ w1, w1.ranges Tryz.prog 9 anyV m w.heap.size L.length D (Maps.has D) (Maps.size D) → w.grownBy w1 none → SwpRel w m L now D w.heap.size (.slice none 0 0) w1 (Maps.has D) (Maps.size D) []) := Lib.hid (by
    intro w1 hr hg
    refine ⟨⟨hg.os, hg.tape, hg.output, hg.size, fun k hk => hg.block k hk (by simp)⟩, hr, Nat.le_refl _, World.ownsRow_nil _ _ _ _, ⟨(fun x hx => by cases hx), List.nodup_nil, fun x hx he => ?_⟩⟩
    obtain ⟨hx1, hx2⟩ := mem_past.1 hx
    rw [(hD _).1, h.pl, findE_mem h.ok.srt hx1] at he
    cases he)
  have HSRT : Hid (∀ wr A n c left cnt xs, n = List.length xs → SwpRel w m L now D w.heap.size (.slice A n c) wr left cnt xs → (∀ k, left k = false) → Calls Tryz.prog 74 #[.slice A n c, .func (.func 75) #[.pointer (some ⟨l, 0, none⟩)] #[]] wr fun e w' => e = .returned (.tuple #[]) ∧ ∃ ys, Hid (SwpEnd w l m room L Φ now A n c 0 ys w')) := Lib.hid (by
    intro wr A n c left cnt xs hn hrel hl
    subst hn
    have hp := hrel.col.perm (past_nodup h.ok.srt now) hl
    have hpl := hp.length_eq
    have hΦ : ∀ k, k < w.heap.size → Φ k → (Φ k ∧ k < w.heap.size) := fun k hk hp => ⟨hp, hk⟩
    have h1 : LedL wr l m room L f fun k => Φ k ∧ k < w.heap.size := (h.mono hΦ).keep (Ψ := fun _ => False) (Chg.of_below hrel.low) fun _ _ => id
    by_cases hz : xs.length = 0
    · obtain rfl : xs = [] := List.eq_nil_of_length_eq_zero hz
      refine (sortT0 A c _ wr).mono ?_
      rintro e w' ⟨rfl, rfl⟩
      have hcc : 0 ≤ c ∧ c ≤ maxLen := by
        rcases hrel.row.2 with ⟨e1, _⟩ | ⟨g, cap, cur, e1, _, hg, h1, h2, _⟩
        · cases e1
          exact ⟨Nat.le_refl _, Nat.zero_le _⟩
        · cases e1
          exact ⟨h1, h2⟩
      exact ⟨rfl, [], Lib.hid ⟨⟨f, h1⟩, hrel.row, Chg.of_below hrel.low, hp, List.Pairwise.nil, rfl, hcc⟩⟩
    · obtain ⟨rb, cap, e, hbl, _⟩ := hrel.row.form (by omega)
      obtain ⟨rfl, rfl⟩ : A = some ⟨rb, 0, none⟩ ∧ c = cap := by simpa using e
      have hOK : SortOK xs.length := by
        rcases hS with h1 | h1
        · rw [h1] at hpl
          exact absurd hpl hz
        · rwa [← hpl] at h1
      obtain ⟨_, _, hcc⟩ := own_cells hrel.row
      refine (hOK wr l room L _ rb c xs ⟨m, f, h1⟩ rfl (fun x hx => (mem_past.1 (hrel.col.sub x hx).1).1) (fun hp => by have := hp.2; omega) (own_base hrel.row (Nat.zero_le _))).mono ?_
      rintro e w' ⟨rfl, ys, hys, hso, how, hcg⟩
      have hlow : Chg (fun i => Φ i ∧ i < w.heap.size) w w' := (Chg.of_below hrel.low).trans hcg fun i hi e => by omega
      exact ⟨rfl, ys, Lib.hid ⟨⟨f, h1.keep hcg fun i hi e => by have := hi.2; omega⟩, own_up how fun g hg => by simp [Value.ownBlock] at hg; omega, hlow, hys.trans hp, hso, hys.length_eq, hcc⟩⟩)
  have HM0 := Lib.hid hM
  have HDv := Lib.hid hD
  have HH := Lib.hid h
  obtain ⟨i0, hi, hz0, hz1, hz2⟩ := info_parts info_string
  clear h h0 hM hDs hD hS
  go_enter Tryz.func45, Tryz.ntmps45
  go_wp2_with (at_range; refine wpList_range_own _ rfl _ 116 rfl 9 136 keyed_str Tryz.underlying116 anyV m L.length D rfl HM0.out ?_; intro w1 hrg1 hg1 hs1; have HC := Lib.hid (HST.out w1 hrg1 hg1); clear hrg1 hg1 hs1)
  go_frame
  go_loopw [5] (fun sv wr => ∃ (A : Option Addr) (c n : Nat) (left : Lit → Bool) (cnt : Nat) (xs : List En), sv = .slice A n c ∧ Hid (n = xs.length) ∧ Hid (SwpRel w m L now D w.heap.size (.slice A n c) wr left cnt xs)) (fun _ wr => wr.rangeLeft m w.heap.size)
  case atStart => exact ⟨none, 0, 0, _, _, [], rfl, Lib.hid rfl, HC⟩
  case round =>
    clear HC
    obtain ⟨A, c, n, left, cnt, xs, rfl, HN, HR⟩ := hrel
    go_wp2_with (at_next; refine wpList_next_ranges _ rfl _ rfl 9 keyed_str anyV Value.string id strV_inv (fun v _ _ => ⟨v, rfl⟩) m w.heap.size L.length D left cnt rfl HR.out.rng ?_ ?_)
    · intro _ hl0
      have hE := HSRT.out wr A n c left cnt xs HN.out HR.out hl0
      have HE := Lib.hid hE
      clear hE hl0
      go_wp2_with (go_at_call 74; refine HE.out.mono ?_; rintro e w3 ⟨rfl, ys, HX⟩)
      have hcap := HX.out.cap
      unfold maxLen at hcap
      obtain ⟨q1, q2⟩ := hcap
      clear HE
      go_loopw [34] (fun vi wv => ∃ k : Nat, vi = .int .i64 k ∧ k ≤ n ∧ Hid (SwpEnd w l m room L Φ now A n c k ys wv)) (fun vi _ => n - (intOf vi).toNat)
      case atStart => exact ⟨0, rfl, Nat.zero_le _, HX⟩
      case round =>
        clear HX
        obtain ⟨k, rfl, hk, HY⟩ := hrel
        by_cases hlt : k < n
        · obtain ⟨b, s, hA, r0, r1, w4, hrun, HZ⟩ := HY.out.step hlt HWF.out
          subst hA
          have hlt' : (k : Int) < n := by omega
          have HR4 := Lib.hid hrun
          clear hrun HY
          go_wp2_with (at_delete; refine wpList_delete_run rfl _ _ 116 9 rfl _ _ rfl rfl HR4.out ?_)
          go_roundw
          case rel => exact ⟨k + 1, by go_num, by omega, HZ⟩
          case measure => simp [intOf]; omega
        · have hlt' : ¬ (k : Int) < n := by omega
          go_wp2
          go_ret
          exact HY.out.done HRS.out (by omega)
    · intro s cv kl ya yb w2 cnt2 hkey hlk hv hat hrg2 hlt hg2 hs2 hen
      obtain ⟨vn, vt, rfl, how, hsz, hnext, hskip⟩ := swp_round HH.out HDv.out HR.out (y := (ya, yb)) hkey hv hat hrg2 hg2 hlk
      have HLT : Hid (cnt2 < wr.rangeLeft m w.heap.size) := Lib.hid (by rw [HR.out.rng.left_eq]; exact hlt)
      have HOW := Lib.hid how
      have HNX := Lib.hid hnext
      have HSK := Lib.hid hskip
      have hnL : n ≤ L.length := by
        rw [HN.out]
        exact HR.out.col.le HRS.out
      have hNx := HN.out
      rw [← hNx] at HOW HNX
      have HNX2 : Hid (n = xs.length) := HN
      clear hkey hlk hv hat hrg2 hlt hg2 hs2 hnext hskip how hNx
      by_cases ht : vt ≤ now
      · go_wp2_with (at_builtin; refine wpList_append_src (o := ⟨some 27, _, _, _, _, _⟩) rfl (.tmp 24) (.tmp 26) 95 rfl w.heap.size 9 i0 _ 1 16 Tryz.underlying95 hi hz0 hz1 hz2 rfl (by omega) _ n _ rfl ((HOW.out.alloc _).alloc _) (some ⟨w2.heap.size + 1, 0, none⟩) 1 1 [.string s] rfl rfl (fun e => by cases e) (by simpa using news_new (w2.alloc _) _ _) (fun u hu => by simp at hu; subst hu; rfl) (by unfold maxLen; omega) (by omega) (by simp; omega) ?_; intro v2 w3 ho3 hg3; obtain ⟨A3, c3, rfl⟩ := own_slice ho3; obtain ⟨ys, hys, HX1⟩ := HNX.out _ ht _ _ ho3 hg3; have HX := Lib.hid HX1; clear ho3 hg3 HX1)
        go_roundw
        case rel => exact ⟨A3, c3, n + 1, _, _, ys, rfl, Lib.hid hys.symm, HX⟩
        case measure =>
          have h9 := HX.out.rng.left_eq
          have h10 := HLT.out
          omega
      · have HX1 := Lib.hid fun B => HSK.out B ht
        go_wp2_with fail
        go_roundw
        case rel => exact ⟨A, c, n, _, _, xs, rfl, HNX2, Lib.hid (HX1.out _)⟩
        case measure =>
          have h9 := (HX1.out (.cells #[.int .i64 vn, .int .i64 vt] 136)).rng.left_eq
          have h10 := HLT.out
          omega
end Go.Proofs.YtdjieapobodakaaGreatDoor.Led
end

section
namespace Go.Proofs.YtdjieapobodakaaGreatDoor.Led
open Go Go.RowKit Go.Maps Go.WideMaps Go.Sort
set_option maxRecDepth 100000

def cmp1 (a b : Int) : Int := if a < b then -1 else if b < a then 1 else 0
theorem Compare_any (a b : Int) (w : World) : Calls Tryz.prog 96 #[.int .i64 a, .int .i64 b] w fun e w' => e = .returned (.int .i64 (cmp1 a b)) ∧ w' = w := by
  rcases Int.lt_trichotomy a b with h | h | h
  · have HC : Hid (cmp1 a b = -1) := Lib.hid (by unfold cmp1; rw [if_pos h])
    go_enter Tryz.func96, Tryz.ntmps96
    go_wp2
    go_ret
    exact ⟨by rw [HC.out]; rfl, rfl⟩
  · subst h
    have HC : Hid (cmp1 a a = 0) := Lib.hid (by unfold cmp1; rw [if_neg (by omega), if_neg (by omega)])
    go_enter Tryz.func96, Tryz.ntmps96
    go_wp2
    go_ret
    exact ⟨by rw [HC.out]; rfl, rfl⟩
  · have HC : Hid (cmp1 a b = 1) := Lib.hid (by unfold cmp1; rw [if_neg (by omega), if_pos h])
    have h2 : ¬ a < b := by omega
    go_enter Tryz.func96, Tryz.ntmps96
    go_wp2
    go_ret
    exact ⟨by rw [HC.out]; rfl, rfl⟩
def or2 (a b : Int) : Int := if a = 0 then b else a
theorem Or_any (a b : Int) (r : Nat) (w : World) (h0 : w.cell? ⟨r, 0, none⟩ = some (.int .i64 a)) (h1 : w.cell? ⟨r, 1, none⟩ = some (.int .i64 b)) :
    Calls Tryz.prog 95 #[.slice (some ⟨r, 0, none⟩) 2 2] w fun e w' => e = .returned (.int .i64 (or2 a b)) ∧ w' = w := by
  by_cases ha : a = 0
  · subst ha
    have HC : Hid (or2 0 b = b) := Lib.hid rfl
    go_enter Tryz.func95, Tryz.ntmps95
    go_wp2
    go_loop [8] (fun i => ∃ k : Nat, i = .int .i64 k ∧ k ≤ 2 ∧ (k = 2 → b = 0)) (fun i => 2 - (intOf i).toNat)
    case atStart => exact ⟨0, rfl, by omega, fun h => by omega⟩
    case round =>
      obtain ⟨k, rfl, hk, hb⟩ := hrel
      have hk3 : k = 0 ∨ k = 1 ∨ k = 2 := by omega
      rcases hk3 with rfl | rfl | rfl
      · go_wp2
        go_round
        case rel => exact ⟨1, rfl, by omega, fun h => by omega⟩
        case measure => simp [intOf]
      · clear hb
        by_cases hb2 : b = 0
        · subst hb2
          go_wp2
          go_round
          case rel => exact ⟨2, rfl, by omega, fun h => by first | rfl | trivial⟩
          case measure => simp [intOf]
        · have hb3 : (b == 0) = false := by simpa using hb2
          clear hb2
          go_wp2
          go_ret
          exact ⟨by rw [HC.out]; rfl, rfl⟩
      · obtain rfl := hb rfl
        go_wp2
        go_ret
        exact ⟨by rw [HC.out]; rfl, rfl⟩
  · have ha2 : (a == 0) = false := by simpa using ha
    have HC : Hid (or2 a b = a) := Lib.hid (by unfold or2; rw [if_neg ha])
    clear ha
    go_enter Tryz.func95, Tryz.ntmps95
    go_wp2
    refine wp_loop_rounds 3 ?_
    simp only [rounds_succ]
    go_wp2
    go_ret
    exact ⟨by rw [HC.out]; rfl, rfl⟩

theorem less_before : ∀ a b : List UInt8, Op.bytesLess a b = bytesBefore a b
  | [], [] => rfl
  | [], _ :: _ => rfl
  | _ :: _, [] => rfl
  | x :: a, y :: b => by simp only [Op.bytesLess, bytesBefore, less_before a b]
def cmpS (a b : ByteArray) : Int := if Op.bytesLess a.toList b.toList then -1 else if a = b then 0 else 1
theorem CompareS_any (a b : ByteArray) (w : World) : Calls Tryz.prog 97 #[.string a, .string b] w fun e w' => e = .returned (.int .i64 (cmpS a b)) ∧ w' = w := by
  have hself : ∀ x : ByteArray, (x.toList == x.toList) = true := fun x => by simp
  by_cases h : Op.bytesLess a.toList b.toList = true
  · have HC : Hid (cmpS a b = -1) := Lib.hid (by unfold cmpS; rw [if_pos h])
    go_enter Tryz.func97, Tryz.ntmps97
    go_wp2
    go_ret
    exact ⟨by rw [HC.out]; rfl, rfl⟩
  · have h' : Op.bytesLess a.toList b.toList = false := by simpa using h
    by_cases e : a = b
    · have HC : Hid (cmpS a b = 0) := Lib.hid (by unfold cmpS; rw [if_neg h, if_pos e])
      have he : (a.toList == b.toList) = true := by rw [str_eq]; simpa using e
      clear h e
      go_enter Tryz.func97, Tryz.ntmps97
      go_wp2

      go_ret
      exact ⟨by rw [HC.out]; rfl, rfl⟩
    · have HC : Hid (cmpS a b = 1) := Lib.hid (by unfold cmpS; rw [if_neg h, if_neg e])
      have he : (a.toList == b.toList) = false := by rw [str_eq]; simpa using e
      clear h e
      go_enter Tryz.func97, Tryz.ntmps97
      go_wp2
      go_ret
      exact ⟨by rw [HC.out]; rfl, rfl⟩
/-- What 'compare' answers. -/
def cmpE (x y : En) : Int := or2 (cmp1 x.t y.t) (cmpS x.k y.k)
theorem toL (s : ByteArray) : s.toList = s.data.toList := ByteArray.toList_eq s
theorem cmpE_lt (x y : En) : decide (cmpE x y < 0) = decide (x.t < y.t ∨ (x.t = y.t ∧ bytesBefore x.nm y.nm = true)) := by
  have hl : Op.bytesLess x.k.toList y.k.toList = bytesBefore x.nm y.nm := by rw [less_before, toL, toL]; rfl
  unfold cmpE or2 cmp1 cmpS
  rw [hl]
  by_cases h1 : x.t < y.t
  · simp [h1]
  · by_cases h2 : y.t < x.t
    · have : x.t ≠ y.t := by omega
      simp [h1, h2, this]
    · have e : x.t = y.t := by omega
      cases hb : bytesBefore x.nm y.nm with
      | true => simp [e]
      | false => 
        by_cases h3 : x.k = y.k <;> simp [e, h3]
theorem LedL.lookW {w : World} {l m room : Nat} {L : List En} {f : Lit → Option Value} {Φ : Nat → Prop} (h : LedL w l m room L f Φ) {x : En} (hx : x ∈ L) : ∃ n : Int,
    (Instr.lookup 116 (.map (some m)) (.string x.k) false).run Tryz.prog w = .ok (.agg #[.int .i64 n, .int .i64 x.t]) w := by
  have := h.mp.look keyed_str Tryz.underlying116 (zero_known w) (key_str (h.ok.wf x hx))
  obtain ⟨n, hn⟩ := h.vs x hx
  refine ⟨n, ?_⟩
  rw [this, h.pl, findE_mem h.ok.srt hx]
  show Result.ok (valE x) w = _
  unfold valE
  rw [hn]

set_option maxHeartbeats 1600000 in
set_option maxRecDepth 100000 in
theorem compare_any {w : World} {l room : Nat} {L : List En} {Φ : Nat → Prop} (h : LedAt w l room L Φ) {x y : En} (hx : x ∈ L) (hy : y ∈ L) :
    Calls Tryz.prog 75 #[.pointer (some ⟨l, 0, none⟩), .string x.k, .string y.k] w fun e w' => e = .returned (.int .i64 (cmpE x y)) ∧ ∃ q os', w' = grow (w.drewN q) os' := by
  obtain ⟨m, f, h⟩ := h
  obtain ⟨c0, c1⟩ := two_cells' h.blk
  have hD := h.keep (Ψ := fun _ => False) (Chg.drew w) fun _ _ => id
  obtain ⟨n1, l1⟩ := hD.lookW hx
  obtain ⟨n2, l2⟩ := hD.lookW hy
  have k1 : ∀ W, (Instr.field 136 (.agg #[.int .i64 n1, .int .i64 x.t]) 1).run Tryz.prog W = .ok (.int .i64 x.t) W := fun W => by kernel_rfl
  have k2 : ∀ W, (Instr.field 136 (.agg #[.int .i64 n2, .int .i64 y.t]) 1).run Tryz.prog W = .ok (.int .i64 y.t) W := fun W => by kernel_rfl
  have HC : Hid (cmpE x y = or2 (cmp1 x.t y.t) (cmpS x.k y.k)) := Lib.hid rfl
  have hll := lt_of_block h.blk
  clear h hx hy hD
  go_enter Tryz.func75, Tryz.ntmps75
  go_wp2_with fail
  go_still_tail 18, (by kernel_rfl)
  still_call (Compare_any x.t y.t _)
  repeat still_step
  still_call (CompareS_any x.k y.k _)
  refine wpStill_nil ?_
  change wpList _ _ _ _ _ w.drew
  generalize hWd : w.drew = W2
  have HD := Lib.hid hWd
  clear hWd c0 c1 l1 l2
  go_wp2_with (go_at_call 95; refine (Or_any (cmp1 x.t y.t) (cmpS x.k y.k) W2.heap.size _ (by simp) (by simp)).mono ?_; rintro e w1 ⟨rfl, rfl⟩)
  go_ret
  refine ⟨by rw [HC.out]; rfl, 1, #[.cells #[.int .i64 (cmp1 x.t y.t), .int .i64 (cmpS x.k y.k)] 3], ?_⟩
  rw [← HD.out, alloc_eq_grow]
  rfl
end Go.Proofs.YtdjieapobodakaaGreatDoor.Led
end
